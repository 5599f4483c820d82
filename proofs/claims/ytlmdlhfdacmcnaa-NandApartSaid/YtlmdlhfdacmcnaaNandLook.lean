/-
  What the laws of layer 8 look at: all that can be seen of a device, as a function of what it keeps.
-/
import Derived.Test.YtlmdlhfdacmcnaaNandKit
import Derived.Test.YtlmdlhfdacmcnaaMade
import Derived.Deep.CutBlock
import Derived.Deep.DeepCutAuto
import Derived.Deep.RegionHeld3
import Derived.OpenShut
namespace Go.Proofs.Ytlmdlhfdacmcnaa.NandPkg
open Go.RowKit Nand
set_option maxRecDepth 4000

theorem own_on {w w' : World} {base : Nat} {e : TypeId} {v : Value} {xs : List UInt8} (h : Own w base e v xs) (hb : Below w.heap.size w w') : Own w' base e v xs := h.keep fun k hk => hb.block k (h.lt k hk)

theorem geo_low {w wr : World} {b : Nat} {c l k p s : Int} (h : Geo w b c l k p s) (hb : Below (b + 1) w wr) : Geo wr b c l k p s :=
  ⟨(hb.cell (p := ⟨b, 0, none⟩) (Nat.lt_succ_self _)).trans h.1, (hb.cell (p := ⟨b, 1, none⟩) (Nat.lt_succ_self _)).trans h.2.1, (hb.cell (p := ⟨b, 2, none⟩) (Nat.lt_succ_self _)).trans h.2.2.1, (hb.cell (p := ⟨b, 3, none⟩) (Nat.lt_succ_self _)).trans h.2.2.2.1, (hb.cell (p := ⟨b, 4, none⟩) (Nat.lt_succ_self _)).trans h.2.2.2.2⟩

theorem then_on {B : Nat} {a w w' : World} (hs : B ≤ a.heap.size) (h : Below B a w) (hb : Below w.heap.size w w') : Below B a w' := h.trans (hb.mono (Nat.le_trans hs h.size))

theorem lie_grown {w w' : World} {D : Nat → Prop} {A : Option Addr} {n : Nat} {xs : List UInt8} {row : Option Nat} (h : Lie w D A n xs) (hg : w.grownBy w' row) (hlt : ∀ b, D b → b < w.heap.size) (hn : ∀ k, row = some k → ¬ D k) : Lie w' D A n xs :=
  h.keep (fun _ h => h) (fun b hb => hg.block b (hlt b hb) (fun e => hn b e.symm hb))

theorem size_alloc (w : World) (o : Obj) : (w.alloc o).heap.size = w.heap.size + 1 := by simp

/-- Of a block. -/
def lookC (G : Shape) (st : St) (u b : Int) : List UInt8 := [if st.retired G u b = true then 1 else 0, lb (st.next G u b), lb (st.wear G u b)]
/-- Of a unit's first blocks. -/
def lookR (G : Shape) (st : St) (u : Int) : Nat → List UInt8
  | 0 => []
  | b + 1 => lookR G st u b ++ lookC G st u (b : Int)
/-- Of the first units, of m blocks each. -/
def lookU (G : Shape) (st : St) (m : Nat) : Nat → List UInt8
  | 0 => []
  | u + 1 => lookU G st m u ++ lookR G st (u : Int) m
/-- Of a sector. -/
def lookA (G : Shape) (st : St) (a : Int) : List UInt8 := lb (st.reads G a).2.2 :: ((st.reads G a).1 ++ (st.reads G a).2.1)
/-- Of the first sectors. -/
def lookS (G : Shape) (st : St) : Nat → List UInt8
  | 0 => []
  | i + 1 => lookS G st i ++ lookA G st (i : Int)
def lookL (G : Shape) (st : St) : List UInt8 := lookU G st G.k.toNat G.U.toNat ++ lookS G st G.N.toNat

/-- Of a sector of another block than the first one. -/
def othA (G : Shape) (st : St) (a : Int) : List UInt8 := if a % G.R / G.s = 0 ∧ a / G.L = 0 then [] else [lb (st.reads G a).2.2, lb (st.next G (a % G.R / G.s) (a / G.L)), lb (st.wear G (a % G.R / G.s) (a / G.L))] ++ (st.reads G a).1 ++ (st.reads G a).2.1
def othS (G : Shape) (st : St) : Nat → List UInt8
  | 0 => []
  | i + 1 => othS G st i ++ othA G st (i : Int)

abbrev TwoC (w : World) (b : Nat) (x y : Value) : Prop := w.cell? ⟨b, 0, none⟩ = some x ∧ w.cell? ⟨b, 1, none⟩ = some y
theorem two_keep {w w' : World} {b : Nat} {x y : Value} (h : TwoC w b x y) (hb : Below w.heap.size w w') : TwoC w' b x y := ⟨cell_stays hb h.1, cell_stays hb h.2⟩
theorem two_grown {w w' : World} {b : Nat} {x y : Value} {row : Option Nat} (h : TwoC w b x y) (hg : w.grownBy w' row) (hn : row ≠ some b) : TwoC w' b x y := by
  have hk := hg.block b (World.block_lt_of_cell? _ _ h.1) (fun e => hn e.symm)
  exact ⟨(World.cell?_of_block (w := w) (a := ⟨b, 0, none⟩) hk).trans h.1, (World.cell?_of_block (w := w) (a := ⟨b, 1, none⟩) hk).trans h.2⟩

section
variable {G : Shape} {st : St} {w : World} {P : Pl}

theorem othS_len (h : ∀ a : Int, (st.reads G a).1.length ≤ 100 ∧ (st.reads G a).2.1.length ≤ 100) (i : Nat) : (othS G st i).length ≤ i * 203 := by
  induction i with
  | zero => exact Nat.le_refl _
  | succ i ih =>
    have h2 := h (i : Int)
    simp only [othS, othA, List.length_append]
    split
    · simp; omega
    · simp only [List.length_append, List.length_cons, List.length_nil]
      omega

theorem lookR_len (u : Int) (b : Nat) : (lookR G st u b).length = b * 3 := by
  induction b with
  | zero => rfl
  | succ b ih => simp only [lookR, lookC, List.length_append, ih, List.length_cons, List.length_nil]; omega

theorem lookU_len (m u : Nat) : (lookU G st m u).length = u * (m * 3) := by
  induction u with
  | zero => simp [lookU]
  | succ u ih => simp only [lookU, List.length_append, ih, lookR_len, Nat.succ_mul]

/-- What is read is short. -/
theorem Dev.short (h : Dev G w P st) (a : Int) : (st.reads G a).1.length ≤ 100 ∧ (st.reads G a).2.1.length ≤ 100 := by
  obtain ⟨m, _, hs⟩ := h.dict
  unfold St.reads
  split
  · simp
  split
  · simp
  · cases hr : st.rd a with
    | none => simp
    | some xy =>
      obtain ⟨x, y⟩ := xy
      obtain ⟨A, n, c, A', n', c', _, h1, h2, h3, h4⟩ := (hs a).2 x y hr
      simp only
      rw [h3.1, h4.1]
      exact ⟨h1, h2⟩

theorem lookS_len (h : Dev G w P st) (i : Nat) : (lookS G st i).length ≤ i * 201 := by
  induction i with
  | zero => exact Nat.le_refl _
  | succ i ih =>
    have h2 := h.short (i : Int)
    simp only [lookS, lookA, List.length_append, List.length_cons]
    omega

theorem wrap_u8 (z : Int) : IntKind.u8.wrap z = ((lb z).toNat : Int) := wrap_lb z
theorem u8_lb (z : Int) : z % 256 = ((lb z).toNat : Int) := (lb_is z).symm

set_option maxHeartbeats 4000000 in
theorem look_any (hG : G.Ok) (h : Dev G w P st) (hk : G.k ≤ 8) (hn : G.N ≤ 100000) :
    Calls Try.prog 35 #[ptr P.g] w fun e w' => e = .returned (.string (str (lookL G st))) ∧ Below w.heap.size w w' := by
  have HG := Lib.hid hG
  have HGM := Lib.hid (Geometry_any h)
  have HD := Lib.hid h
  have HUN := Lib.hid (fun w => Units_ok hG w)
  have HAL := Lib.hid (fun w => All_ok hG w)
  have HSL := Lib.hid (fun i => lookS_len h i)
  have HSH := Lib.hid (fun a => h.short a)
  have info8 : byteInfo Try.prog 5 := info8
  have hk0 : 1 ≤ G.k := hG.may.2.2.2.2.1
  have hu0 : 0 ≤ G.U ∧ G.U ≤ 8 := ⟨by have := hG.u0; omega, hG.u1⟩
  have hn0 : 0 ≤ G.N := by have := hG.n0; omega
  have I8 := Lib.hid info8
  clear h hG info8
  go_enter Try.func35, Try.ntmps35
  go_wp2_with fail
  refine HGM.out.mono ?_
  rintro e w1 ⟨rfl, hb⟩
  obtain ⟨X, hX⟩ : ∃ X, X = w1.alloc (.cells #[.int .i64 G.c, .int .i64 G.l, .int .i64 G.k, .int .i64 G.p, .int .i64 G.s] 23) := ⟨_, rfl⟩
  have hsz : X.heap.size = w1.heap.size + 1 := by rw [hX]; simp
  have HGE : Hid (Geo X w1.heap.size G.c G.l G.k G.p G.s) := by rw [hX]; exact Lib.hid (geo_new w1 23 G.c G.l G.k G.p G.s)
  have hb1 : Below w1.heap.size w1 X := by rw [hX]; exact (Below.refl w1.heap.size w1).alloc (Nat.le_refl _) _
  have HDK : Hid (∀ W, Below (w1.heap.size + 1) X W → Dev G W P st) := by
    have hd := (HD.out.below hb).below hb1
    exact Lib.hid (fun W h => hd.below (by rw [hsz]; exact h))
  have HEN : Hid (∀ W, Below (w1.heap.size + 1) X W → Below w.heap.size w W) := by
    have h0 := below_then hb hb1
    exact Lib.hid (fun W h => h0.trans (h.mono (Nat.le_trans hb.size (Nat.le_succ _))))
  have HBW : Hid (Below (w1.heap.size + 1) X (X.alloc (.cells #[] 5))) := by rw [← hsz]; exact Lib.hid ((Below.refl _ _).alloc (Nat.le_refl _) _)
  have HO : Hid (Own (X.alloc (.cells #[] 5)) (w1.heap.size + 1) 5 (.slice (some ⟨w1.heap.size + 1, 0, none⟩) 0 0) []) := by rw [← hsz]; exact Lib.hid (own_new X 5 [] #[] rfl (Nat.zero_le _))
  have HX := Lib.hid hX
  have HSX : Hid (w1.heap.size + 1 ≤ X.heap.size) := Lib.hid (Nat.le_of_eq hsz.symm)
  clear hb hb1 hsz HGM HD hX
  go_wp2
  go_loopw [4, 5, 6, 7] (fun o i _ _ wr => ∃ u : Nat, (u : Int) ≤ G.U ∧ i = .int .i64 u ∧ Own wr (w1.heap.size + 1) 5 o (lookU G st G.k.toNat u) ∧ Below (w1.heap.size + 1) X wr) (fun _ i _ _ _ => (G.U - intOf i).toNat)
  case atStart => exact ⟨0, by omega, rfl, by rw [← HX.out]; exact HO.out, by rw [← HX.out]; exact HBW.out⟩
  case round =>
    obtain ⟨u, hu, rfl, ho, hb⟩ := hrel
    replace HO := Lib.hid ho
    replace HBW := Lib.hid hb
    clear ho hb
    obtain ⟨k0, k1, k2, k3, k4⟩ := geo_low HGE.out HBW.out
    by_cases hlt : (u : Int) < G.U
    · have dq : decide ((u : Int) < G.U) = true := by simpa using hlt
      go_wp2_with fail
      refine (HUN.out _).mono ?_
      rintro e w3 ⟨rfl, hb⟩
      replace HO := Lib.hid (own_on HO.out hb)
      replace HBW := Lib.hid (then_on HSX.out HBW.out hb)
      clear k0 k1 k2 k3 k4 hb
      go_wp2
      go_loopw [4, 6, 7] (fun o i _ wr => ∃ b : Nat, (b : Int) ≤ G.k ∧ i = .int .i64 b ∧ Own wr (w1.heap.size + 1) 5 o (lookU G st G.k.toNat u ++ lookR G st u b) ∧ Below (w1.heap.size + 1) X wr) (fun _ i _ _ => (G.k - intOf i).toNat)
      case atStart => exact ⟨0, by omega, rfl, by rw [show lookR G st u 0 = [] from rfl, List.append_nil]; exact HO.out, HBW.out⟩
      case round =>
        obtain ⟨b, hbk, rfl, ho, hb⟩ := hrel
        replace HO := Lib.hid ho
        replace HBW := Lib.hid hb
        clear ho hb
        obtain ⟨k0, k1, k2, k3, k4⟩ := geo_low HGE.out HBW.out
        by_cases hltb : (b : Int) < G.k
        · have db : decide ((b : Int) < G.k) = true := by simpa using hltb
          have HNX := Lib.hid (fun W (h : Below (w1.heap.size + 1) X W) => Next_any HG.out (HDK.out W h) u b)
          have HWR := Lib.hid (fun W (h : Below (w1.heap.size + 1) X W) => Wear_any HG.out (HDK.out W h) u b)
          have HRT := Lib.hid (Retired_any HG.out (HDK.out _ HBW.out) u b)
          have HEQ : Hid (lookR G st u (b + 1) = lookR G st u b ++ [if st.retired G u b = true then 1 else 0, lb (st.next G u b), lb (st.wear G u b)]) := Lib.hid rfl
          obtain ⟨nx, hnx⟩ : ∃ nx, nx = st.next G u b := ⟨_, rfl⟩
          obtain ⟨we, hwe⟩ : ∃ we, we = st.wear G u b := ⟨_, rfl⟩
          rw [← hnx] at HNX HEQ
          rw [← hwe] at HWR HEQ
          have hl := lookR_len (G := G) (st := st) (u : Int) b
          have hl2 := lookU_len (G := G) (st := st) G.k.toNat u
          have hlm : u * (G.k.toNat * 3) ≤ 8 * 24 := Nat.mul_le_mul (by omega) (by omega)
          obtain ⟨acc, hacc⟩ : ∃ acc, acc = lookU G st G.k.toNat u ++ lookR G st u b := ⟨_, rfl⟩
          have hal : acc.length ≤ 1000 := by rw [hacc, List.length_append]; omega
          rw [← hacc] at HO
          have HACC := Lib.hid hacc
          have HAL2 := Lib.hid hal
          have e1 := u8_lb nx
          have e2 := u8_lb we
          have HE := Lib.hid (And.intro e1 e2)
          clear hnx hwe hl hl2 hlm hacc hal e1 e2
          cases hrt : st.retired G u b with
          | true =>
            rw [hrt] at HRT HEQ
            clear hrt
            go_wp2_with fail
            refine HRT.out.mono ?_
            rintro e w3 ⟨rfl, hb⟩
            replace HO := Lib.hid (own_on HO.out hb)
            replace HBW := Lib.hid (then_on HSX.out HBW.out hb)
            clear k0 k1 k2 k3 k4 hb
            go_wp2_with fail
            refine (HNX.out _ HBW.out).mono ?_
            rintro e w4 ⟨rfl, hb⟩
            replace HO := Lib.hid (own_on HO.out hb)
            replace HBW := Lib.hid (then_on HSX.out HBW.out hb)
            clear hb
            go_wp2_with fail
            refine (HWR.out _ HBW.out).mono ?_
            rintro e w5 ⟨rfl, hb⟩
            replace HO := Lib.hid (own_on HO.out hb)
            replace HBW := Lib.hid (then_on HSX.out HBW.out hb)
            clear hb
            go_wp2_with (at_builtin; refine wpList_append_bytes _ rfl _ _ _ rfl (w1.heap.size + 1) 5 Try.underlying47 I8.out _ acc rfl (HO.out.alloc _) (w5.heap.size + 1) (some ⟨w5.heap.size, 0, none⟩) 3 3 [1, lb nx, lb we] rfl (bytes_new w5 _ _ _ _ (by rw [HE.out.1, HE.out.2]; rfl)) (by have := HAL2.out; omega) (by simp; have := HSX.out; have := HBW.out.size; omega) ?_)
            intro v6 w6 ho hg _
            replace HBW := Lib.hid ((then_on HSX.out HBW.out ((Below.refl w5.heap.size w5).alloc (Nat.le_refl _) _)).grown hg (by simp; have := HSX.out; have := HBW.out.size; omega) HO.out.block)
            replace HO := Lib.hid ho
            clear ho hg
            go_wp2
            go_roundw
            case rel => exact ⟨b + 1, by omega, by go_num, by rw [HEQ.out, ← List.append_assoc, ← HACC.out]; exact HO.out, HBW.out⟩
            case measure => simp [intOf]; omega
          | false =>
            rw [hrt] at HRT HEQ
            clear hrt
            go_wp2_with fail
            refine HRT.out.mono ?_
            rintro e w3 ⟨rfl, hb⟩
            replace HO := Lib.hid (own_on HO.out hb)
            replace HBW := Lib.hid (then_on HSX.out HBW.out hb)
            clear k0 k1 k2 k3 k4 hb
            go_wp2_with fail
            refine (HNX.out _ HBW.out).mono ?_
            rintro e w4 ⟨rfl, hb⟩
            replace HO := Lib.hid (own_on HO.out hb)
            replace HBW := Lib.hid (then_on HSX.out HBW.out hb)
            clear hb
            go_wp2_with fail
            refine (HWR.out _ HBW.out).mono ?_
            rintro e w5 ⟨rfl, hb⟩
            replace HO := Lib.hid (own_on HO.out hb)
            replace HBW := Lib.hid (then_on HSX.out HBW.out hb)
            clear hb
            go_wp2_with (at_builtin; refine wpList_append_bytes _ rfl _ _ _ rfl (w1.heap.size + 1) 5 Try.underlying47 I8.out _ acc rfl (HO.out.alloc _) (w5.heap.size + 1) (some ⟨w5.heap.size, 0, none⟩) 3 3 [0, lb nx, lb we] rfl (bytes_new w5 _ _ _ _ (by rw [HE.out.1, HE.out.2]; rfl)) (by have := HAL2.out; omega) (by simp; have := HSX.out; have := HBW.out.size; omega) ?_)
            intro v6 w6 ho hg _
            replace HBW := Lib.hid ((then_on HSX.out HBW.out ((Below.refl w5.heap.size w5).alloc (Nat.le_refl _) _)).grown hg (by simp; have := HSX.out; have := HBW.out.size; omega) HO.out.block)
            replace HO := Lib.hid ho
            clear ho hg
            go_wp2
            go_roundw
            case rel => exact ⟨b + 1, by omega, by go_num, by rw [HEQ.out, ← List.append_assoc, ← HACC.out]; exact HO.out, HBW.out⟩
            case measure => simp [intOf]; omega
        · have db : decide ((b : Int) < G.k) = false := by simpa using hltb
          have e : b = G.k.toNat := by omega
          go_wp2
          go_roundw
          case rel => exact ⟨u + 1, by omega, by go_num, by rw [show lookU G st G.k.toNat (u + 1) = lookU G st G.k.toNat u ++ lookR G st u b by rw [e]; rfl]; exact HO.out, HBW.out⟩
          case measure => simp [intOf]; omega
    · have dq : decide ((u : Int) < G.U) = false := by simpa using hlt
      have HE1 : Hid (u = G.U.toNat) := Lib.hid (by omega)
      go_wp2_with fail
      refine (HUN.out _).mono ?_
      rintro e w3 ⟨rfl, hb⟩
      replace HO := Lib.hid (own_on HO.out hb)
      replace HBW := Lib.hid (then_on HSX.out HBW.out hb)
      clear k0 k1 k2 k3 k4 hb
      have hl2 := lookU_len (G := G) (st := st) G.k.toNat u
      have hlm : u * (G.k.toNat * 3) ≤ 8 * 24 := Nat.mul_le_mul (by omega) (by omega)
      obtain ⟨pre, hpre⟩ : ∃ pre, pre = lookU G st G.k.toNat u := ⟨_, rfl⟩
      rw [← hpre] at hl2 HO
      have HPRE : Hid (pre = lookU G st G.k.toNat G.U.toNat) := Lib.hid (by rw [hpre, HE1.out])
      have HPL : Hid (pre.length ≤ 192) := Lib.hid (by rw [hl2]; exact hlm)
      clear hl2 hlm hpre
      go_wp2
      clear dq hlt hu
      go_loopw [4, 8, 9, 10, 11] (fun o i _ _ _ wr => ∃ a : Nat, (a : Int) ≤ G.N ∧ i = .int .i64 a ∧ Own wr (w1.heap.size + 1) 5 o (pre ++ lookS G st a) ∧ Below (w1.heap.size + 1) X wr) (fun _ i _ _ _ _ => (G.N - intOf i).toNat)
      case atStart => exact ⟨0, by omega, rfl, by rw [show lookS G st 0 = [] from rfl, List.append_nil]; exact HO.out, HBW.out⟩
      case round =>
        obtain ⟨a, ha, rfl, ho, hb⟩ := hrel
        replace HO := Lib.hid ho
        replace HBW := Lib.hid hb
        clear ho hb
        obtain ⟨k0, k1, k2, k3, k4⟩ := geo_low HGE.out HBW.out
        by_cases hlta : (a : Int) < G.N
        · have da : decide ((a : Int) < G.N) = true := by simpa using hlta
          have HEQ : Hid (pre ++ lookS G st (a + 1) = pre ++ lookS G st a ++ [lb (st.reads G a).2.2] ++ (st.reads G a).1 ++ (st.reads G a).2.1) := Lib.hid (by simp [lookS, lookA])
          have HRD := Lib.hid (fun W (h : Below (w1.heap.size + 1) X W) => Read_any HG.out (HDK.out W h) a)
          have hsl := HSL.out a
          have hsh := HSH.out a
          obtain ⟨acc, hacc⟩ : ∃ acc, acc = pre ++ lookS G st a := ⟨_, rfl⟩
          have hal : acc.length ≤ 100000000 := by rw [hacc, List.length_append]; have := HPL.out; omega
          rw [← hacc] at HO HEQ
          obtain ⟨R, hR⟩ : ∃ R, R = st.reads G a := ⟨_, rfl⟩
          rw [← hR] at HEQ HRD hsh
          have HR := Lib.hid hR
          clear hR
          obtain ⟨xs, ys, er⟩ := R
          dsimp only at HEQ HRD hsh
          have e1 := u8_lb er
          have HE := Lib.hid e1
          have HLN := Lib.hid (And.intro hal hsh)
          clear hacc hal hsl hsh e1
          go_wp2_with fail
          refine (HAL.out _).mono ?_
          rintro e w4 ⟨rfl, hb⟩
          replace HO := Lib.hid (own_on HO.out hb)
          replace HBW := Lib.hid (then_on HSX.out HBW.out hb)
          clear k0 k1 k2 k3 k4 hb
          go_wp2_with fail
          refine (HRD.out _ HBW.out).mono ?_
          rintro e w5 ⟨v, v', rfl, hv1, hv2, hb⟩
          obtain ⟨A5, c5, rfl, _, _, hL5⟩ := Lie.of_own hv1
          obtain ⟨A6, c6, rfl, _, _, hL6⟩ := Lie.of_own hv2
          obtain ⟨D, hD⟩ : ∃ D : Nat → Prop, D = fun b => w4.heap.size ≤ b ∧ b < w5.heap.size := ⟨_, rfl⟩
          rw [← hD] at hL5 hL6
          have HDL : Hid (∀ b, D b → w4.heap.size ≤ b ∧ b < w5.heap.size) := Lib.hid (fun b h => by rw [hD] at h; exact h)
          have HLT := Lib.hid HO.out.lt
          replace HO := Lib.hid (own_on HO.out hb)
          replace HBW := Lib.hid (then_on HSX.out HBW.out hb)
          obtain ⟨m5, hm5⟩ : ∃ m, m = xs.length := ⟨_, rfl⟩
          obtain ⟨m6, hm6⟩ : ∃ m, m = ys.length := ⟨_, rfl⟩
          rw [← hm5, ← hm6] at HLN
          rw [← hm5] at hL5 ⊢
          rw [← hm6] at hL6 ⊢
          have hal := (Below.refl w5.heap.size w5).alloc (Nat.le_refl _) (.cells #[.int .u8 (er % 256)] 5)
          have HL5 := Lib.hid (hL5.keep (fun _ h => h) (fun b hb => hal.block b (HDL.out b hb).2))
          have HL6 := Lib.hid (hL6.keep (fun _ h => h) (fun b hb => hal.block b (HDL.out b hb).2))
          have HM := Lib.hid (And.intro hm5 hm6)
          clear hv1 hv2 hL5 hL6 hD hb hal hm5 hm6
          go_wp2_with (at_builtin; refine wpList_append_bytes _ rfl _ _ _ rfl (w1.heap.size + 1) 5 Try.underlying47 I8.out _ acc rfl (HO.out.alloc _) (w5.heap.size + 1) (some ⟨w5.heap.size, 0, none⟩) 1 1 [lb er] rfl (bytes_new w5 _ _ _ _ (by rw [HE.out]; rfl)) (by have := HLN.out; omega) (by simp; have := HSX.out; have := HBW.out.size; omega) ?_)
          intro v6 w6 ho hg hw
          obtain ⟨acc1, hacc1⟩ : ∃ x, x = acc ++ [lb er] := ⟨_, rfl⟩
          rw [← hacc1] at ho HEQ
          have HA1 : Hid (acc1.length = acc.length + 1) := Lib.hid (by rw [hacc1, List.length_append]; rfl)
          clear hacc1
          have hsz6 : w5.heap.size + 1 ≤ w6.heap.size := by have := hg.size; rw [size_alloc] at this; exact this
          replace HL5 := Lib.hid (lie_grown HL5.out hg (fun b hb => by have := HDL.out b hb; rw [size_alloc]; omega) (fun k hk hd => by have := HLT.out k hk; have := HDL.out k hd; omega))
          replace HL6 := Lib.hid (lie_grown HL6.out hg (fun b hb => by have := HDL.out b hb; rw [size_alloc]; omega) (fun k hk hd => by have := HLT.out k hk; have := HDL.out k hd; omega))
          have HN6 : Hid (∀ k, v6.ownBlock = some k → ¬ D k) := Lib.hid (fun k hk hd => by
            have h2 := HDL.out k hd
            rcases hw with e | e
            · have := HLT.out k (e.symm.trans hk); omega
            · rw [hk] at e; injection e with e; omega)
          replace HBW := Lib.hid ((then_on HSX.out HBW.out ((Below.refl w5.heap.size w5).alloc (Nat.le_refl _) _)).grown hg (by simp; have := HSX.out; have := HBW.out.size; omega) HO.out.block)
          replace HO := Lib.hid ho
          clear ho hg hw HLT
          have HS6 := Lib.hid hsz6
          clear hsz6
          go_wp2_with (at_builtin; refine wpList_append_bytes _ rfl _ _ _ rfl (w1.heap.size + 1) 5 Try.underlying47 I8.out v6 acc1 rfl HO.out w6.heap.size A5 m5 c5 xs rfl (HL5.out.bytes (fun b hb => by have := HDL.out b hb; have := HS6.out; omega)) (by have := HLN.out; have := HA1.out; omega) (by have := HSX.out; have := HBW.out.size; omega) ?_)
          intro v7 w7 ho hg hw
          obtain ⟨acc2, hacc2⟩ : ∃ x, x = acc1 ++ xs := ⟨_, rfl⟩
          rw [← hacc2] at ho HEQ
          have HA2 : Hid (acc2.length = acc1.length + xs.length) := Lib.hid (by rw [hacc2, List.length_append])
          clear hacc2
          have hsz7 : w6.heap.size ≤ w7.heap.size := hg.size
          replace HL6 := Lib.hid (lie_grown HL6.out hg (fun b hb => by have := HDL.out b hb; have := HS6.out; omega) HN6.out)
          replace HBW := Lib.hid (HBW.out.grown hg (by have := HSX.out; have := HBW.out.size; omega) HO.out.block)
          replace HO := Lib.hid ho
          have HS7 := Lib.hid (Nat.le_trans HS6.out hsz7)
          clear ho hg hw hsz7
          have hby := HL6.out.bytes (B := w7.heap.size) (fun b hb => by have := HDL.out b hb; have := HS7.out; omega)
          have hle : acc2.length + m6 ≤ 140737488355328 := by have := HLN.out; have := HM.out; have := HA1.out; have := HA2.out; omega
          have hba : w1.heap.size + 1 ≤ w7.heap.size := by have := HSX.out; have := HBW.out.size; omega
          have HBY := Lib.hid (And.intro hby (And.intro hle hba))
          clear hby hle hba
          go_wp2_with (at_builtin; refine wpList_append_bytes _ rfl _ _ _ rfl (w1.heap.size + 1) 5 Try.underlying47 I8.out v7 acc2 rfl HO.out w7.heap.size A6 m6 c6 ys rfl HBY.out.1 HBY.out.2.1 HBY.out.2.2 ?_)
          intro v8 w8 ho hg hw
          rw [← HEQ.out] at ho
          replace HBW := Lib.hid (HBW.out.grown hg (by have := HSX.out; have := HBW.out.size; omega) HO.out.block)
          replace HO := Lib.hid ho
          clear ho hg hw
          go_wp2
          go_roundw
          case rel => exact ⟨a + 1, by omega, by go_num, HO.out, HBW.out⟩
          case measure => simp [intOf]; omega
        · have da : decide ((a : Int) < G.N) = false := by simpa using hlta
          have e0 : a = G.N.toNat := by omega
          have HE0 := Lib.hid e0
          clear e0
          go_wp2_with fail
          refine (HAL.out _).mono ?_
          rintro e w4 ⟨rfl, hb⟩
          replace HO := Lib.hid (own_on HO.out hb)
          replace HBW := Lib.hid (then_on HSX.out HBW.out hb)
          clear k0 k1 k2 k3 k4 hb
          obtain ⟨A5, c5, rfl, hr⟩ := HO.out.reads
          have hs1 := run_str (P := Try.prog) w4 47 9 5 Try.underlying47 Try.underlying5 Try.underlying9 (c := c5) hr
          obtain ⟨S, hS⟩ : ∃ S, S = str (pre ++ lookS G st a) := ⟨_, rfl⟩
          rw [← hS] at hs1
          obtain ⟨L, hL⟩ : ∃ L, L = (pre ++ lookS G st a).length := ⟨_, rfl⟩
          rw [← hL] at hs1 ⊢
          have HF : Hid (S = str (lookL G st)) := Lib.hid (by rw [hS, HPRE.out, HE0.out]; rfl)
          clear hr hS hL
          go_wp2
          go_ret
          exact ⟨by rw [HF.out]; rfl, HEN.out _ HBW.out⟩

set_option maxHeartbeats 8000000 in
theorem others_any (hG : G.Ok) (h : Dev G w P st) (hn : G.N ≤ 100000) :
    Calls Try.prog 36 #[ptr P.g] w fun e w' => e = .returned (.string (str (othS G st G.N.toNat))) ∧ Below w.heap.size w w' := by
  have HG := Lib.hid hG
  have HGM := Lib.hid (Geometry_any h)
  have HD := Lib.hid h
  have HAL := Lib.hid (fun w => All_ok hG w)
  have HSH := Lib.hid (fun a => h.short a)
  have HSL := Lib.hid (fun i => othS_len (G := G) (st := st) HSH.out i)
  have info8 : byteInfo Try.prog 5 := info8
  have hn0 : 0 ≤ G.N := by have := hG.n0; omega
  have I8 := Lib.hid info8
  clear h hG info8
  go_enter Try.func36, Try.ntmps36
  go_wp2_with fail
  refine HGM.out.mono ?_
  rintro e w1 ⟨rfl, hb⟩
  obtain ⟨X, hX⟩ : ∃ X, X = w1.alloc (.cells #[.int .i64 G.c, .int .i64 G.l, .int .i64 G.k, .int .i64 G.p, .int .i64 G.s] 23) := ⟨_, rfl⟩
  have hsz : X.heap.size = w1.heap.size + 1 := by rw [hX]; simp
  have HGE : Hid (Geo X w1.heap.size G.c G.l G.k G.p G.s) := by rw [hX]; exact Lib.hid (geo_new w1 23 G.c G.l G.k G.p G.s)
  have hb1 : Below w1.heap.size w1 X := by rw [hX]; exact (Below.refl w1.heap.size w1).alloc (Nat.le_refl _) _
  have HDK : Hid (∀ W, Below (w1.heap.size + 1) X W → Dev G W P st) := by
    have hd := (HD.out.below hb).below hb1
    exact Lib.hid (fun W h => hd.below (by rw [hsz]; exact h))
  have HEN : Hid (∀ W, Below (w1.heap.size + 1) X W → Below w.heap.size w W) := by
    have h0 := below_then hb hb1
    exact Lib.hid (fun W h => h0.trans (h.mono (Nat.le_trans hb.size (Nat.le_succ _))))
  have HBW : Hid (Below (w1.heap.size + 1) X (X.alloc (.cells #[] 5))) := by rw [← hsz]; exact Lib.hid ((Below.refl _ _).alloc (Nat.le_refl _) _)
  have HO : Hid (Own (X.alloc (.cells #[] 5)) (w1.heap.size + 1) 5 (.slice (some ⟨w1.heap.size + 1, 0, none⟩) 0 0) []) := by rw [← hsz]; exact Lib.hid (own_new X 5 [] #[] rfl (Nat.zero_le _))
  have HX := Lib.hid hX
  have HSX : Hid (w1.heap.size + 1 ≤ X.heap.size) := Lib.hid (Nat.le_of_eq hsz.symm)
  clear hb hb1 hsz HGM HD hX
  go_wp2
  go_loopw [4, 5, 6, 7, 8, 9, 10] (fun o i _ _ _ _ _ wr => ∃ a : Nat, (a : Int) ≤ G.N ∧ i = .int .i64 a ∧ Own wr (w1.heap.size + 1) 5 o (othS G st a) ∧ Below (w1.heap.size + 1) X wr) (fun _ i _ _ _ _ _ _ => (G.N - intOf i).toNat)
  case atStart => exact ⟨0, by omega, rfl, by rw [← HX.out]; exact HO.out, by rw [← HX.out]; exact HBW.out⟩
  case round =>
    obtain ⟨a, ha, rfl, ho, hb⟩ := hrel
    replace HO := Lib.hid ho
    replace HBW := Lib.hid hb
    clear ho hb
    obtain ⟨k0, k1, k2, k3, k4⟩ := geo_low HGE.out HBW.out
    by_cases hlta : (a : Int) < G.N
    · have da : decide ((a : Int) < G.N) = true := by simpa using hlta
      have HOF := Lib.hid (fun w => of_in HG.out a (by omega) hlta w)
      have HQ : Hid (othS G st (a + 1) = othS G st a ++ othA G st a) := Lib.hid rfl
      unfold othA at HQ
      obtain ⟨pu, hpu⟩ : ∃ z, z = (a : Int) % G.R / G.s := ⟨_, rfl⟩
      obtain ⟨pb, hpb⟩ : ∃ z, z = (a : Int) / G.L := ⟨_, rfl⟩
      rw [← hpu, ← hpb] at HOF HQ
      have HRD := Lib.hid (fun W (h : Below (w1.heap.size + 1) X W) => Read_any HG.out (HDK.out W h) a)
      have HNX := Lib.hid (fun W (h : Below (w1.heap.size + 1) X W) => Next_any HG.out (HDK.out W h) pu pb)
      have HWR := Lib.hid (fun W (h : Below (w1.heap.size + 1) X W) => Wear_any HG.out (HDK.out W h) pu pb)
      have hsl := HSL.out a
      have hsh := HSH.out a
      obtain ⟨R, hR⟩ : ∃ R, R = st.reads G a := ⟨_, rfl⟩
      obtain ⟨nx, hnx⟩ : ∃ z, z = st.next G pu pb := ⟨_, rfl⟩
      obtain ⟨we, hwe⟩ : ∃ z, z = st.wear G pu pb := ⟨_, rfl⟩
      rw [← hR] at HRD hsh HQ
      rw [← hnx] at HNX HQ
      rw [← hwe] at HWR HQ
      clear hR hnx hwe hpu hpb
      obtain ⟨xs, ys, er⟩ := R
      dsimp only at HQ HRD hsh
      obtain ⟨acc, hacc⟩ : ∃ acc, acc = othS G st a := ⟨_, rfl⟩
      have hal : acc.length ≤ 100000000 := by rw [hacc]; omega
      rw [← hacc] at HO HQ
      have HLN := Lib.hid (And.intro hal hsh)
      have HE := Lib.hid (And.intro (u8_lb er) (And.intro (u8_lb nx) (u8_lb we)))
      obtain ⟨pg, hpg⟩ : ∃ z, z = (a : Int) % G.L / G.R := ⟨_, rfl⟩
      obtain ⟨pt, hpt⟩ : ∃ z, z = (a : Int) % G.s := ⟨_, rfl⟩
      rw [← hpg, ← hpt] at HOF
      clear hacc hal hsl hsh hpg hpt
      go_wp2_with fail
      refine (HAL.out _).mono ?_
      rintro e w4 ⟨rfl, hb⟩
      replace HO := Lib.hid (own_on HO.out hb)
      replace HBW := Lib.hid (then_on HSX.out HBW.out hb)
      clear k0 k1 k2 k3 k4 hb
      obtain ⟨k0, k1, k2, k3, k4⟩ := geo_low HGE.out HBW.out
      go_wp2_with fail
      refine (HOF.out _).mono ?_
      rintro e w5 ⟨rfl, hb⟩
      replace HO := Lib.hid (own_on HO.out hb)
      replace HBW := Lib.hid (then_on HSX.out HBW.out hb)
      clear k0 k1 k2 k3 k4 hb
      obtain ⟨Y, hY⟩ : ∃ Y, Y = w5.alloc (.cells #[.int .i64 pu, .int .i64 pb, .int .i64 pg, .int .i64 pt] 65) := ⟨_, rfl⟩
      have hpl : TwoC Y w5.heap.size (.int .i64 pu) (.int .i64 pb) := by rw [hY]; exact ⟨by simp [World.cell?_alloc_at], by simp [World.cell?_alloc_at]⟩
      have hy5 : Below w5.heap.size w5 Y := by rw [hY]; exact (Below.refl _ _).alloc (Nat.le_refl _) _
      have HLT := Lib.hid HO.out.lt
      replace HO := Lib.hid (own_on HO.out hy5)
      replace HBW := Lib.hid (then_on HSX.out HBW.out hy5)
      have HPL := Lib.hid hpl
      have HYS : Hid (w5.heap.size < Y.heap.size) := Lib.hid (by rw [hY, size_alloc]; omega)
      have hp0 := hpl.1
      have hp1 := hpl.2
      rw [hY] at hp0 hp1
      clear hy5 hpl
      by_cases hz : pu = 0 ∧ pb = 0
      · rw [if_pos hz, List.append_nil] at HQ
        obtain ⟨rfl, rfl⟩ := hz
        go_wp2
        go_roundw
        case rel => exact ⟨a + 1, by omega, by go_num, by rw [HQ.out, ← hY]; exact HO.out, by rw [← hY]; exact HBW.out⟩
        case measure => simp [intOf]; omega
      · rw [if_neg hz] at HQ
        have HYY := Lib.hid hY
        have hzz : (pu == 0) = false ∨ ((pu == 0) = true ∧ (pb == 0) = false) := by
          by_cases e : pu = 0
          · exact .inr ⟨by simpa using e, by simpa using fun h => hz ⟨e, h⟩⟩
          · exact .inl (by simpa using e)
        clear hz hY
        rcases hzz with z1 | ⟨z1, z2⟩
        all_goals
          go_upto_region 8 with fail
          clear z1 hp0 hp1
          try clear z2
          rw [← HYY.out]
          go_wp2_with fail
          refine (HRD.out _ HBW.out).mono ?_
          rintro e w6 ⟨v, v', rfl, hv1, hv2, hb⟩
          obtain ⟨A5, c5, rfl, _, _, hL5⟩ := Lie.of_own hv1
          obtain ⟨A6, c6, rfl, _, _, hL6⟩ := Lie.of_own hv2
          obtain ⟨D, hD⟩ : ∃ D : Nat → Prop, D = fun b => Y.heap.size ≤ b ∧ b < w6.heap.size := ⟨_, rfl⟩
          rw [← hD] at hL5 hL6
          have HDL : Hid (∀ b, D b → Y.heap.size ≤ b ∧ b < w6.heap.size) := Lib.hid (fun b h => by rw [hD] at h; exact h)
          replace HO := Lib.hid (own_on HO.out hb)
          replace HBW := Lib.hid (then_on HSX.out HBW.out hb).drew
          have hpl := two_keep HPL.out hb
          have HY6 := Lib.hid (Nat.lt_of_lt_of_le HYS.out hb.size)
          obtain ⟨m5, hm5⟩ : ∃ m, m = xs.length := ⟨_, rfl⟩
          obtain ⟨m6, hm6⟩ : ∃ m, m = ys.length := ⟨_, rfl⟩
          rw [← hm5, ← hm6] at HLN
          rw [← hm5] at hL5 ⊢
          rw [← hm6] at hL6 ⊢
          have HM := Lib.hid (And.intro hm5 hm6)
          have HL5 := Lib.hid hL5
          have HL6 := Lib.hid hL6
          have HB6 : Hid (Below w6.heap.size w6.drew w6.drew) := Lib.hid (Below.refl _ _)
          obtain ⟨p0, p1⟩ := hpl
          replace p0 : w6.drew.cell? ⟨w5.heap.size, 0, none⟩ = some (.int .i64 pu) := p0
          replace p1 : w6.drew.cell? ⟨w5.heap.size, 1, none⟩ = some (.int .i64 pb) := p1
          clear hv1 hv2 hL5 hL6 hD hb hm5 hm6
          go_wp2_with fail
          have hne : ∀ k, k = w5.heap.size → ¬ (u4.ownBlock = some k) := fun k hk e => by have := HLT.out k e; omega
          go_region_held3 (fun w' => TwoC w' w5.heap.size (.int .i64 pu) (.int .i64 pb))
            (first
              | exact ⟨p0, p1⟩
              | exact two_keep (by assumption) hb
              | exact two_grown (by assumption) hg (hne _ rfl)
              | exact two_keep (by assumption) ((Below.refl _ _).alloc (Nat.le_refl _) _))
            (first
              | (go_at_call 16; refine (HNX.out _ HBW.out).mono ?_; rintro e7 w7 ⟨rfl, hb⟩; replace HO := Lib.hid (own_on (w := w6.drew) HO.out hb); replace HBW := Lib.hid (then_on HSX.out HBW.out hb); replace HB6 := Lib.hid (HB6.out.trans (hb.mono HB6.out.size)))
              | (go_at_call 17; refine (HWR.out _ HBW.out).mono ?_; rintro e8 w8 ⟨rfl, hb⟩; replace HO := Lib.hid (own_on HO.out hb); replace HBW := Lib.hid (then_on HSX.out HBW.out hb); replace HB6 := Lib.hid (HB6.out.trans (hb.mono HB6.out.size)))
              | (refine step_append_bytes _ (o := ⟨some 59, _, _, _, _, _⟩) (by rfl) _ _ _ (by rfl) (w1.heap.size + 1) 5 Try.underlying47 I8.out u4 acc (by rfl) (by exact HO.out.alloc _) (w8.heap.size + 1) (some ⟨w8.heap.size, 0, none⟩) 3 3 [lb er, lb nx, lb we] (by rfl) (by exact bytes_new w8 _ _ _ _ (by rw [wrap_u8, wrap_u8, wrap_u8]; rfl)) (by have := HLN.out; omega) (by rw [size_alloc]; have := HSX.out; have := HBW.out.size; omega) ?_; intro v9 w9 ho hg hw))
          clear p0 p1 hne
          have HS6 : Hid (w6.heap.size + 1 ≤ w9.heap.size) := Lib.hid (by have h1 := hg.size; have h2 := HB6.out.size; rw [size_alloc] at h1; exact Nat.le_trans (Nat.succ_le_succ h2) h1)
          have hb8 : Below w6.heap.size w6.drew (w8.alloc (.cells #[.int .u8 (IntKind.u8.wrap er), .int .u8 (IntKind.u8.wrap nx), .int .u8 (IntKind.u8.wrap we)] 5)) := HB6.out.alloc HB6.out.size _
          replace HL5 := Lib.hid (lie_grown (HL5.out.keep (fun _ h => h) (fun b hb => hb8.block b (HDL.out b hb).2)) hg (fun b hb => Nat.lt_of_lt_of_le (HDL.out b hb).2 hb8.size) (fun k hk hd => by have := HLT.out k hk; have := HDL.out k hd; have := HYS.out; omega))
          replace HL6 := Lib.hid (lie_grown (HL6.out.keep (fun _ h => h) (fun b hb => hb8.block b (HDL.out b hb).2)) hg (fun b hb => Nat.lt_of_lt_of_le (HDL.out b hb).2 hb8.size) (fun k hk hd => by have := HLT.out k hk; have := HDL.out k hd; have := HYS.out; omega))
          have HN6 : Hid (∀ k, v9.ownBlock = some k → ¬ D k) := Lib.hid (fun k hk hd => by
            have h2 := HDL.out k hd
            rcases hw with e | e
            · have := HLT.out k (e.symm.trans hk); have := HYS.out; omega
            · have h3 : w6.heap.size ≤ w8.heap.size := HB6.out.size
              rw [hk, size_alloc] at e; injection e with e; omega)
          obtain ⟨acc1, hacc1⟩ : ∃ x, x = acc ++ [lb er, lb nx, lb we] := ⟨_, rfl⟩
          rw [← hacc1] at ho
          have hq := HQ.out
          rw [← List.append_assoc, ← List.append_assoc, ← hacc1] at hq
          replace HQ := Lib.hid hq
          have HA1 : Hid (acc1.length = acc.length + 3) := Lib.hid (by rw [hacc1, List.length_append]; rfl)
          replace HBW := Lib.hid ((HBW.out.alloc (Nat.le_trans HSX.out HBW.out.size) (.cells #[.int .u8 (IntKind.u8.wrap er), .int .u8 (IntKind.u8.wrap nx), .int .u8 (IntKind.u8.wrap we)] 5)).grown hg (by rw [size_alloc]; have := HSX.out; have := HBW.out.size; omega) HO.out.block)
          replace HO := Lib.hid ho
          clear ho hg hw HLT hacc1 hq hb8 HB6
          go_wp2_with (at_builtin; refine wpList_append_bytes _ rfl _ _ _ rfl (w1.heap.size + 1) 5 Try.underlying47 I8.out v9 acc1 rfl HO.out w9.heap.size A5 m5 c5 xs rfl (HL5.out.bytes (fun b hb => by have := HDL.out b hb; have := HS6.out; omega)) (by have := HLN.out; have := HA1.out; omega) (by have := HSX.out; have := HBW.out.size; omega) ?_)
          intro v7 w7 ho hg hw
          obtain ⟨acc2, hacc2⟩ : ∃ x, x = acc1 ++ xs := ⟨_, rfl⟩
          rw [← hacc2] at ho HQ
          have HA2 : Hid (acc2.length = acc1.length + xs.length) := Lib.hid (by rw [hacc2, List.length_append])
          clear hacc2
          have hsz7 : w9.heap.size ≤ w7.heap.size := hg.size
          replace HL6 := Lib.hid (lie_grown HL6.out hg (fun b hb => by have := HDL.out b hb; have := HS6.out; omega) HN6.out)
          replace HBW := Lib.hid (HBW.out.grown hg (by have := HSX.out; have := HBW.out.size; omega) HO.out.block)
          replace HO := Lib.hid ho
          have HS7 := Lib.hid (Nat.le_trans HS6.out hsz7)
          clear ho hg hw hsz7
          have hby := HL6.out.bytes (B := w7.heap.size) (fun b hb => by have := HDL.out b hb; have := HS7.out; omega)
          have hle : acc2.length + m6 ≤ 140737488355328 := by have := HLN.out; have := HM.out; have := HA1.out; have := HA2.out; omega
          have hba : w1.heap.size + 1 ≤ w7.heap.size := by have := HSX.out; have := HBW.out.size; omega
          have HBY := Lib.hid (And.intro hby (And.intro hle hba))
          clear hby hle hba
          go_wp2_with (at_builtin; refine wpList_append_bytes _ rfl _ _ _ rfl (w1.heap.size + 1) 5 Try.underlying47 I8.out v7 acc2 rfl HO.out w7.heap.size A6 m6 c6 ys rfl HBY.out.1 HBY.out.2.1 HBY.out.2.2 ?_)
          intro v8 wz ho hg hw
          rw [← HQ.out] at ho
          replace HBW := Lib.hid (HBW.out.grown hg (by have := HSX.out; have := HBW.out.size; omega) HO.out.block)
          replace HO := Lib.hid ho
          clear ho hg hw
          go_wp2
          go_roundw
          case rel => exact ⟨a + 1, by omega, by go_num, HO.out, HBW.out⟩
          case measure => simp [intOf]; omega
    · have da : decide ((a : Int) < G.N) = false := by simpa using hlta
      have HE0 : Hid (a = G.N.toNat) := Lib.hid (by omega)
      go_wp2_with fail
      refine (HAL.out _).mono ?_
      rintro e w4 ⟨rfl, hb⟩
      replace HO := Lib.hid (own_on HO.out hb)
      replace HBW := Lib.hid (then_on HSX.out HBW.out hb)
      clear k0 k1 k2 k3 k4 hb
      obtain ⟨A5, c5, rfl, hr⟩ := HO.out.reads
      have hs1 := run_str (P := Try.prog) w4 47 9 5 Try.underlying47 Try.underlying5 Try.underlying9 (c := c5) hr
      obtain ⟨S, hS⟩ : ∃ S, S = str (othS G st a) := ⟨_, rfl⟩
      rw [← hS] at hs1
      obtain ⟨L, hL⟩ : ∃ L, L = (othS G st a).length := ⟨_, rfl⟩
      rw [← hL] at hs1 ⊢
      have HF : Hid (S = str (othS G st G.N.toNat)) := Lib.hid (by rw [hS, HE0.out])
      clear hr hS hL
      go_wp2
      go_ret
      exact ⟨by rw [HF.out]; rfl, HEN.out _ HBW.out⟩
end
end Go.Proofs.Ytlmdlhfdacmcnaa.NandPkg
