/-
  A gate in memory: its block, two channels; what its calls do, for every input: of, fill, Take, Left, Fill, New.
-/
import Derived.Test.YtldomhghkfbbkaaGateLay
import Derived.Test.YtldomhghkfbbkaaGateSplit
import Derived.Conc.LoneSelectN
import Derived.Deep.RegionHeld
namespace Go.Proofs.Ytldomhghkfbbkaa.GatePkg
open Go.Conc Go.RowKit Gate Lib
set_option maxRecDepth 4000

/-- A channel of M places that holds a tokens. -/
def Ch (w : World) (c M a : Nat) : Prop := a ≤ M ∧ ∃ s r, w.heap[c]? = some (.chan M (toks a) false s r false)

/-- A gate of M tokens: a of the clients, b of the others. -/
structure Gt (w : World) (g c d M a b : Nat) : Prop where
  box : w.heap[g]? = some (.cells #[.int .i64 (M : Int), .chan (some c), .chan (some d)] 50 (0, 0))
  one : Ch w c M a
  two : Ch w d M b
  ne : c ≠ d
  most : 1 ≤ M ∧ M ≤ 256

/-- Nothing but the two channels has turned. -/
structure Keeps (c d : Nat) (w w' : World) : Prop where
  size : w'.heap.size = w.heap.size
  block : ∀ x, x ≠ c → x ≠ d → w'.heap[x]? = w.heap[x]?
  below : ∀ B a, Below B a w → B ≤ c → B ≤ d → Below B a w'

theorem Keeps.refl (c d : Nat) (w : World) : Keeps c d w w := ⟨rfl, fun _ _ _ => rfl, fun _ _ h _ _ => h⟩
theorem Keeps.trans {c d : Nat} {w w' w'' : World} (h : Keeps c d w w') (h' : Keeps c d w' w'') : Keeps c d w w'' :=
  ⟨h'.size.trans h.size, fun x hc hd => (h'.block x hc hd).trans (h.block x hc hd), fun B a hb hc hd => h'.below B a (h.below B a hb hc hd) hc hd⟩
theorem Keeps.one (c d : Nat) (w : World) (cap : Nat) (buf : Array Value) (cl : Bool) (s r : Nat) (tm : Bool) : Keeps c d w (w.setChan c cap buf cl s r tm) :=
  ⟨size_setChan _ _ _ _ _ _ _ _, fun _ hc _ => setChan_other _ _ _ _ _ _ _ _ _ (Ne.symm hc), fun _ _ h hc _ => below_setChan h hc _ _ _ _ _ _⟩
theorem Keeps.two (c d : Nat) (w : World) (cap : Nat) (buf : Array Value) (cl : Bool) (s r : Nat) (tm : Bool) : Keeps c d w (w.setChan d cap buf cl s r tm) :=
  ⟨size_setChan _ _ _ _ _ _ _ _, fun _ _ hd => setChan_other _ _ _ _ _ _ _ _ _ (Ne.symm hd), fun _ _ h _ hd => below_setChan h hd _ _ _ _ _ _⟩

section
variable {w w' : World} {g c d M a b : Nat}

theorem Ch.lt (h : Ch w c M a) : c < w.heap.size := by
  obtain ⟨_, s, r, h⟩ := h
  exact chan_lt h
theorem Ch.keep (h : Ch w c M a) (hk : w'.heap[c]? = w.heap[c]?) : Ch w' c M a := by
  obtain ⟨h0, s, r, h⟩ := h
  exact ⟨h0, s, r, hk.trans h⟩
theorem Gt.ng (h : Gt w g c d M a b) : g ≠ c ∧ g ≠ d := by
  obtain ⟨_, s, r, h1⟩ := h.one
  obtain ⟨_, s', r', h2⟩ := h.two
  refine ⟨fun e => ?_, fun e => ?_⟩
  · have := h.box
    rw [e, h1] at this
    simp at this
  · have := h.box
    rw [e, h2] at this
    simp at this
theorem Gt.cells (h : Gt w g c d M a b) : w.cell? ⟨g, 0, none⟩ = some (.int .i64 (M : Int)) ∧ w.cell? ⟨g, 1, none⟩ = some (.chan (some c)) ∧ w.cell? ⟨g, 2, none⟩ = some (.chan (some d)) := by
  refine ⟨?_, ?_, ?_⟩ <;> simp [World.cell?, h.box]
theorem Gt.keep (h : Gt w g c d M a b) (hk : ∀ x, x < w.heap.size → w'.heap[x]? = w.heap[x]?) : Gt w' g c d M a b :=
  ⟨(hk g (Array.getElem?_eq_some_iff.1 h.box).1).trans h.box, h.one.keep (hk c h.one.lt), h.two.keep (hk d h.two.lt), h.ne, h.most⟩

/-- A gate, the clients' channel laid anew. -/
theorem Gt.set1 (h : Gt w g c d M a b) (x s r : Nat) (hx : x ≤ M) : Gt (w.setChan c M (toks x) false s r false) g c d M x b :=
  ⟨(setChan_other _ _ _ _ _ _ _ _ _ (Ne.symm h.ng.1)).trans h.box, ⟨hx, s, r, heap_setChan _ _ _ _ _ _ _ _ h.one.lt⟩, h.two.keep (setChan_other _ _ _ _ _ _ _ _ _ h.ne), h.ne, h.most⟩
theorem Gt.set2 (h : Gt w g c d M a b) (x s r : Nat) (hx : x ≤ M) : Gt (w.setChan d M (toks x) false s r false) g c d M a x :=
  ⟨(setChan_other _ _ _ _ _ _ _ _ _ (Ne.symm h.ng.2)).trans h.box, h.one.keep (setChan_other _ _ _ _ _ _ _ _ _ (Ne.symm h.ne)), ⟨hx, s, r, heap_setChan _ _ _ _ _ _ _ _ h.two.lt⟩, h.ne, h.most⟩
end

/-- Which channel a kind has. -/
def which (c d : Nat) (k : Int) : Value := if k = 1 then .chan (some c) else if k = 2 then .chan (some d) else .chan none

section
variable {w : World} {g c d M a b : Nat}

theorem of_any (h : Gt w g c d M a b) (k : Int) : Calls Try.prog 20 #[.pointer (some ⟨g, 0, none⟩), .int .i64 k] w fun e w' => e = .returned (which c d k) ∧ w' = w := by
  obtain ⟨c0, c1, c2⟩ := h.cells
  clear h
  unfold which
  by_cases h1 : k = 1
  · rw [if_pos h1]
    subst h1
    go_enter Try.func20, Try.ntmps20
    go_wp2
    go_ret
    exact ⟨rfl, rfl⟩
  · rw [if_neg h1]
    by_cases h2 : k = 2
    · rw [if_pos h2]
      subst h2
      go_enter Try.func20, Try.ntmps20
      go_wp2
      go_ret
      exact ⟨rfl, rfl⟩
    · rw [if_neg h2]
      go_enter Try.func20, Try.ntmps20
      go_wp2
      go_ret
      exact ⟨rfl, rfl⟩

theorem len_nil (ty : TypeId) (w : World) : (Builtin.len_ #[48] ty #[.chan none]).run Try.prog w = .ok (goInt 0) w := by
  simp [Builtin.len_, run_underlying Try.underlying48]
theorem len_ch {c M a : Nat} (h : Ch w c M a) (ty : TypeId) : (Builtin.len_ #[48] ty #[.chan (some c)]).run Try.prog w = .ok (.int .i64 (a : Int)) w := by
  obtain ⟨_, s, r, h⟩ := h
  have := run_len_chan (P := Try.prog) 48 ty Try.underlying48 h
  rw [this]
  simp [toks, goInt]

/-- How many tokens a kind has. -/
def left (a b : Nat) (k : Int) : Nat := if k = 1 then a else if k = 2 then b else 0

theorem Left_any (h : Gt w g c d M a b) (k : Int) : Calls Try.prog 15 #[.pointer (some ⟨g, 0, none⟩), .int .i64 k] w fun e w' => e = .returned (.int .i64 (left a b k : Int)) ∧ w' = w := by
  have HO := Lib.hid (of_any h k)
  have hl0 := fun ty => len_nil ty w
  have hl1 := len_ch h.one
  have hl2 := len_ch h.two
  unfold which at HO
  unfold left
  clear h
  by_cases h1 : k = 1
  · rw [if_pos h1] at HO ⊢
    subst h1
    clear hl2 hl0
    go_enter Try.func15, Try.ntmps15
    go_wp2_with (refine HO.out.mono ?_; rintro e w' ⟨rfl, rfl⟩)
    go_ret
    exact ⟨rfl, rfl⟩
  · rw [if_neg h1] at HO ⊢
    by_cases h2 : k = 2
    · rw [if_pos h2] at HO ⊢
      subst h2
      clear hl1 hl0 h1
      go_enter Try.func15, Try.ntmps15
      go_wp2_with (refine HO.out.mono ?_; rintro e w' ⟨rfl, rfl⟩)
      go_ret
      exact ⟨rfl, rfl⟩
    · rw [if_neg h2] at HO ⊢
      clear hl1 hl2
      go_enter Try.func15, Try.ntmps15
      go_wp2_with (refine HO.out.mono ?_; rintro e w' ⟨rfl, rfl⟩)
      go_ret
      exact ⟨rfl, rfl⟩

/-- What is left of the clients', of the others', once a kind was taken. -/
def take1 (a : Nat) (k : Int) : Nat := if k = 1 then a - 1 else a
def take2 (b : Nat) (k : Int) : Nat := if k = 2 then b - 1 else b

theorem Take_any (h : Gt w g c d M a b) (k : Int) : Calls Try.prog 13 #[.pointer (some ⟨g, 0, none⟩), .int .i64 k] w
    fun e w' => e = .returned (.bool (decide (0 < left a b k))) ∧ Gt w' g c d M (take1 a k) (take2 b k) ∧ Keeps c d w w' := by
  have HO := Lib.hid (of_any h k)
  unfold which at HO
  unfold left take1 take2
  by_cases h1 : k = 1
  · rw [if_pos h1] at HO ⊢
    rw [if_pos h1, if_neg (by omega)]
    subst h1
    obtain ⟨hle, s, r, hc⟩ := h.one
    obtain ⟨x, hx⟩ : ∃ x, x = min (1 : Int).toNat a := ⟨_, rfl⟩
    have hA : a - x = a - 1 := by omega
    have T := take_any 1 (by omega) w hx hc
    have G := h.set1 (a - x) s (r + x) (by omega)
    have K := Keeps.one c d w M (toks (a - x)) false s (r + x) false
    rw [hA] at T G K
    generalize w.setChan c M (toks (a - 1)) false s (r + x) false = w1 at T G K
    have HT := Lib.hid T
    have HG := Lib.hid G
    have HK := Lib.hid K
    have hxx : (x : Int) = if 0 < a then 1 else 0 := by rw [hx]; split <;> omega
    clear h hc hx T G K hA
    rcases Nat.eq_zero_or_pos a with ha | ha
    · have HD := Lib.hid (show decide (0 < a) = false by simp; omega)
      have hx0 : x = 0 := by rw [if_neg (by omega)] at hxx; omega
      subst hx0
      clear hxx ha hle
      go_enter Try.func13, Try.ntmps13
      go_wp2_with (first | (refine HO.out.mono ?_; rintro e w' ⟨rfl, rfl⟩) | (refine HT.out.mono ?_; rintro e w' ⟨rfl, rfl⟩))
      go_ret
      exact ⟨by rw [HD.out]; rfl, HG.out, HK.out⟩
    · have HD := Lib.hid (show decide (0 < a) = true by simp; omega)
      have hx0 : x = 1 := by rw [if_pos (by omega)] at hxx; omega
      subst hx0
      clear hxx ha hle
      go_enter Try.func13, Try.ntmps13
      go_wp2_with (first | (refine HO.out.mono ?_; rintro e w' ⟨rfl, rfl⟩) | (refine HT.out.mono ?_; rintro e w' ⟨rfl, rfl⟩))
      go_ret
      exact ⟨by rw [HD.out]; rfl, HG.out, HK.out⟩
  · rw [if_neg h1] at HO ⊢
    rw [if_neg h1]
    by_cases h2 : k = 2
    · rw [if_pos h2] at HO ⊢
      rw [if_pos h2]
      subst h2
      clear h1
      obtain ⟨hle, s, r, hc⟩ := h.two
      obtain ⟨x, hx⟩ : ∃ x, x = min (1 : Int).toNat b := ⟨_, rfl⟩
      have hA : b - x = b - 1 := by omega
      have T := take_any 1 (by omega) w hx hc
      have G := h.set2 (b - x) s (r + x) (by omega)
      have K := Keeps.two c d w M (toks (b - x)) false s (r + x) false
      rw [hA] at T G K
      generalize w.setChan d M (toks (b - 1)) false s (r + x) false = w1 at T G K
      have HT := Lib.hid T
      have HG := Lib.hid G
      have HK := Lib.hid K
      have hxx : (x : Int) = if 0 < b then 1 else 0 := by rw [hx]; split <;> omega
      clear h hc hx T G K hA
      rcases Nat.eq_zero_or_pos b with ha | ha
      · have HD := Lib.hid (show decide (0 < b) = false by simp; omega)
        have hx0 : x = 0 := by rw [if_neg (by omega)] at hxx; omega
        subst hx0
        clear hxx ha hle
        go_enter Try.func13, Try.ntmps13
        go_wp2_with (first | (refine HO.out.mono ?_; rintro e w' ⟨rfl, rfl⟩) | (refine HT.out.mono ?_; rintro e w' ⟨rfl, rfl⟩))
        go_ret
        exact ⟨by rw [HD.out]; rfl, HG.out, HK.out⟩
      · have HD := Lib.hid (show decide (0 < b) = true by simp; omega)
        have hx0 : x = 1 := by rw [if_pos (by omega)] at hxx; omega
        subst hx0
        clear hxx ha hle
        go_enter Try.func13, Try.ntmps13
        go_wp2_with (first | (refine HO.out.mono ?_; rintro e w' ⟨rfl, rfl⟩) | (refine HT.out.mono ?_; rintro e w' ⟨rfl, rfl⟩))
        go_ret
        exact ⟨by rw [HD.out]; rfl, HG.out, HK.out⟩
    · rw [if_neg h2] at HO ⊢
      rw [if_neg h2]
      have HT := Lib.hid (take_nil 1 w)
      have HG := Lib.hid h
      clear h
      go_enter Try.func13, Try.ntmps13
      go_wp2_with (first | (refine HO.out.mono ?_; rintro e w' ⟨rfl, rfl⟩) | (refine HT.out.mono ?_; rintro e w' ⟨rfl, rfl⟩))
      go_ret
      exact ⟨rfl, HG.out, Keeps.refl _ _ _⟩

/-- fill leaves just n tokens. -/
theorem fill_any {c M a s r : Nat} (hc : w.heap[c]? = some (.chan M (toks a) false s r false)) (ha : a ≤ M) (hM : M ≤ 256) (n : Nat) (hn : n ≤ M) :
    Calls Try.prog 22 #[.chan (some c), .int .i64 (n : Int)] w fun e w' => e = .returned (.tuple #[]) ∧ w' = w.setChan c M (toks n) false (s + n) (r + a) false := by
  have hl := len_ch ⟨ha, s, r, hc⟩
  have h1 := take_any (a : Int) (by omega) w (k := a) (by omega) hc
  have hlt := chan_lt hc
  rw [Nat.sub_self] at h1
  have h2 := lay_any (n : Int) (by omega) (w.setChan c M (toks 0) false s (r + a) false) (cap := M) (m := 0) (k := n) (by omega) (by omega) (heap_setChan _ _ _ _ _ _ _ _ hlt)
  rw [setChan_twice, Nat.zero_add] at h2
  have H1 := Lib.hid h1
  have H2 := Lib.hid h2
  clear h1 h2 hc ha hM hn hlt
  go_enter Try.func22, Try.ntmps22
  go_wp2_with (first | (refine H1.out.mono ?_; rintro e w' ⟨rfl, rfl⟩) | (refine H2.out.mono ?_; rintro e w' ⟨rfl, rfl⟩))
  go_end0
  exact ⟨rfl, rfl⟩

/-- Fill lays just what Split says. -/
theorem Fill_any (h : Gt w g c d M a b) (free low high : Int) : Calls Try.prog 17 #[.pointer (some ⟨g, 0, none⟩), .int .i64 free, .int .i64 low, .int .i64 high] w
    fun e w' => e = .returned (.tuple #[]) ∧ Gt w' g c d M (fst free low high M).toNat (snd free low high M).toNat ∧ Keeps c d w w' := by
  obtain ⟨c0, c1, c2⟩ := h.cells
  have HS := Lib.hid (Split_any free low high M w)
  have hb : 0 ≤ fst free low high M ∧ fst free low high M ≤ M ∧ 0 ≤ snd free low high M ∧ snd free low high M ≤ M := by
    rcases hok : ok low high M with _ | _
    · obtain ⟨e1, e2⟩ := bad (free := free) hok
      omega
    · have := bounds hok (free := free)
      have := all hok (free := free)
      omega
  generalize fst free low high M = x at *
  generalize snd free low high M = y at *
  obtain ⟨x, rfl⟩ : ∃ n : Nat, x = n := ⟨x.toNat, by omega⟩
  obtain ⟨y, rfl⟩ : ∃ n : Nat, y = n := ⟨y.toNat, by omega⟩
  have hx : ((x : Nat) : Int).toNat = x := by omega
  have hy : ((y : Nat) : Int).toNat = y := by omega
  rw [hx, hy]
  have hxM : x ≤ M := by omega
  have hyM : y ≤ M := by omega
  clear hx hy hb
  obtain ⟨hle1, s1, r1, h1⟩ := h.one
  obtain ⟨hle2, s2, r2, h2⟩ := h.two
  have hm := h.most
  have F1 := fill_any h1 hle1 hm.2 x hxM
  have G1 := h.set1 x (s1 + x) (r1 + a) hxM
  have K1 := Keeps.one c d w M (toks x) false (s1 + x) (r1 + a) false
  generalize w.setChan c M (toks x) false (s1 + x) (r1 + a) false = w1 at F1 G1 K1
  obtain ⟨_, s3, r3, h3⟩ := G1.two
  have F2 := fill_any h3 hle2 hm.2 y hyM
  have G2 := G1.set2 y (s3 + y) (r3 + b) hyM
  have K2 := K1.trans (Keeps.two c d w1 M (toks y) false (s3 + y) (r3 + b) false)
  generalize w1.setChan d M (toks y) false (s3 + y) (r3 + b) false = w2 at F2 G2 K2
  obtain ⟨d0, d1, d2⟩ := G1.cells
  have HF1 := Lib.hid F1
  have HF2 := Lib.hid F2
  have HG := Lib.hid G2
  have HK := Lib.hid K2
  clear F1 F2 G1 G2 K1 K2 h h1 h2 h3 hm hle1 hle2 hxM hyM
  go_enter Try.func17, Try.ntmps17
  go_wp2_with (first | (refine HS.out.mono ?_; rintro e w' ⟨rfl, rfl⟩; clear HS) | (refine HF1.out.mono ?_; rintro e w' ⟨rfl, rfl⟩; clear HF1) | (refine HF2.out.mono ?_; rintro e w' ⟨rfl, rfl⟩))
  go_end0
  exact ⟨rfl, HG.out, HK.out⟩
end
end Go.Proofs.Ytldomhghkfbbkaa.GatePkg
