/-
  What the laws' 'does' of layer 16 does to the program's queues and the document's: it answers true, and both go the same way. Printed by does.py.
-/
import Derived.Test.YtkpneckgpolaoaaQueueTwo
import Derived.Test.YtkpneckgpolaoaaQueueOps
namespace Go.Proofs.Ytkpneckgpolaoaa.QueueLaw
open Go.RowKit Queue QueuePkg QueueRef QueueOps
set_option maxRecDepth 4000

def opV (x : Op16) (Ap : Option Addr) (cp : Nat) : Value := .agg #[.int .i64 x.d, .int .i64 x.c, .int .i64 x.j.k, .int .i64 x.j.l, .int .i64 x.j.u, .int .i64 x.j.p, .slice Ap x.j.d.length cp]

/-- A block of seven cells. -/
def Seven (w : World) (b : Nat) (x0 x1 x2 x3 x4 x5 x6 : Value) : Prop := w.heap[b]? = some (.cells #[x0, x1, x2, x3, x4, x5, x6] 40 (0, 0))

section
variable {w w' : World} {b : Nat} {x0 x1 x2 x3 x4 x5 x6 : Value}
theorem Seven.cells (h : Seven w b x0 x1 x2 x3 x4 x5 x6) : w.cell? ⟨b, 0, none⟩ = some x0 ∧ w.cell? ⟨b, 1, none⟩ = some x1 ∧ w.cell? ⟨b, 2, none⟩ = some x2 ∧ w.cell? ⟨b, 2 + 1, none⟩ = some x3 ∧ w.cell? ⟨b, 2 + 2, none⟩ = some x4 ∧ w.cell? ⟨b, 2 + 3, none⟩ = some x5 ∧ w.cell? ⟨b, 2 + 4, none⟩ = some x6 := by
  unfold Seven at h
  refine ⟨?_, ?_, ?_, ?_, ?_, ?_, ?_⟩ <;> simp [World.cell?, h]
theorem Seven.keep (h : Seven w b x0 x1 x2 x3 x4 x5 x6) (hk : w'.heap[b]? = w.heap[b]?) : Seven w' b x0 x1 x2 x3 x4 x5 x6 := hk.trans h
theorem Seven.lt (h : Seven w b x0 x1 x2 x3 x4 x5 x6) : b < w.heap.size := (Array.getElem?_eq_some_iff.1 h).1
end

/-- Both hold the same, and no more than n were ever put. -/
def Duo (a : World) (g r : Nat) (ch : Int) (n : Nat) (w : World) : Prop := ∃ q l, Two a g r ch q l (fun _ => False) w ∧ Rel ch q l ∧ l.length ≤ n

theorem head_in {P : Jb → Prop} {l : List Jb} (h : ∀ j ∈ l, P j) (hz : P zero) : P (head l) := by
  cases l with
  | nil => exact hz
  | cons j l => exact h j (by simp)

section
variable {a w : World} {g r : Nat} {ch : Int}

set_option maxHeartbeats 4000000 in
theorem does_put {q : Js} {l : List Ld} {n : Nat} (h : Two a g r ch q l (fun _ => False) w) (hrel : Rel ch q l) (hl : l.length ≤ n) (hn : n ≤ 1000000) (o : Op16) (Ap : Option Addr) (cp : Nat) (hd : o.d = 0 ∨ o.d = 1) (hp : o.j.d.length ≤ 1000000000) (hr : Nums a a.heap.size Ap o.j.d.length o.j.d) :
    Calls Try.prog 15 #[ptr g, ptr r, opV o Ap cp] w fun e w' => e = .returned (.bool true) ∧ Duo a g r ch (n + 1) w' := by
  obtain ⟨d, c, ⟨k, ln, u, p, zs⟩⟩ := o
  dsimp only at hd hp hr
  have hjl : (jobs ch q c).length ≤ 1000000000 := by rw [hrel.same]; exact Nat.le_trans (of_len l c) (by omega)
  have HE : Hid (∃ q' l', q' = putQ ch q c ⟨k, ln, u, p, zs⟩ ∧ l' = (if 0 ≤ c ∧ c < ch then l ++ [⟨c, ⟨k, ln, u, p, zs⟩, false⟩] else l) ∧ Rel ch q' l' ∧ l'.length ≤ n + 1) := Lib.hid (by
    refine ⟨_, _, rfl, rfl, hrel.put c _, ?_⟩
    split
    · simp
      omega
    · omega)
  obtain ⟨q', l', hq', hl', hrel', hlen'⟩ := HE.out
  have HREL := Lib.hid (And.intro hrel' hlen')
  obtain ⟨X, hX⟩ : ∃ X, X = w.alloc (.cells #[.int .i64 d, .int .i64 c, .int .i64 k, .int .i64 ln, .int .i64 u, .int .i64 p, .slice Ap zs.length cp] 40) := ⟨_, rfl⟩
  have hbX : Below w.heap.size w X := by rw [hX]; exact (Below.refl _ _).alloc (Nat.le_refl _) _
  have hbox : Seven X w.heap.size (.int .i64 d) (.int .i64 c) (.int .i64 k) (.int .i64 ln) (.int .i64 u) (.int .i64 p) (.slice Ap zs.length cp) := by rw [hX]; exact heap_alloc_new w _
  have hX2 := h.on (S' := fun b => b = w.heap.size) hbX (fun b hb => .inr ⟨by omega, by rw [hb]; exact hbox.lt⟩)
  have hb2 := h.below.size
  have hrX := nums_keep hr hX2.below
  have HC1 := Lib.hid (Put1 (w := X.drew) (hX2.same (Below.refl _ _).drew) c ⟨k, ln, u, p, zs⟩ Ap zs.length cp a.heap.size hp hrX (Nat.le_trans hb2 hbX.size) hjl)
  rw [← hq'] at HC1
  have HRX := Lib.hid hr
  have HBX := Lib.hid hbox
  have HLL : Hid (l.length ≤ 1000000000) := Lib.hid (by omega)
  have HL' := Lib.hid hl'
  obtain ⟨z, hz⟩ : ∃ z, putE ch c = z := ⟨_, rfl⟩
  have HZ := Lib.hid hz
  rw [hz] at HC1
  have S0 := hbox.cells
  clear h hrel hl hr hX2 hrX HE hq' hl' hrel' hlen' hbX hbox hz hb2 hjl
  rcases hd with rfl | rfl
  all_goals
    unfold opV
    go_enter Try.func15, Try.ntmps15
    rw [hX] at S0
    go_upto_region 4 with fail
    rw [← hX] at S0 ⊢
    clear hX
    replace S0 := S0.2
    go_region_held3 (fun w' => w'.cell? ⟨w.heap.size, 1, none⟩ = some (.int .i64 c) ∧ w'.cell? ⟨w.heap.size, 2, none⟩ = some (.int .i64 k) ∧ w'.cell? ⟨w.heap.size, 2 + 1, none⟩ = some (.int .i64 ln) ∧ w'.cell? ⟨w.heap.size, 2 + 2, none⟩ = some (.int .i64 u) ∧ w'.cell? ⟨w.heap.size, 2 + 3, none⟩ = some (.int .i64 p) ∧ w'.cell? ⟨w.heap.size, 2 + 4, none⟩ = some (.slice Ap zs.length cp))
      (first | exact S0 | exact S3 | exact S4)
      (first
        | (go_at_call 16; refine HC1.out.mono ?_; rintro e w3 ⟨rfl, hm, hst, hsz⟩
           have HM := Lib.hid hm
           have HB3 := Lib.hid (HBX.out.keep (w' := w3) (hst w.heap.size rfl))
           have S3 := HB3.out.cells.2
           have HR3 := Lib.hid (nums_keep HRX.out HM.out.below)
           clear hm hst hsz)
        | (go_at_call 21; refine (Put2 HM.out c ⟨k, ln, u, p, zs⟩ Ap zs.length cp a.heap.size hp HR3.out HM.out.below.size HLL.out).mono ?_; rintro e w4 ⟨he, hm, hst, hsz⟩
           rw [← HL'.out] at hm
           rw [HZ.out] at he
           subst he
           have HM4 := Lib.hid hm
           have S4 := (HB3.out.keep (w' := w4) (hst w.heap.size rfl)).cells.2
           clear hm hst hsz))
    all_goals
      rename_i hHeld
      clear hHeld S4 S3 S0 HC1
      go_wp2
      go_ret
      exact ⟨rfl, q', l', HM4.out.less (fun b hb => hb.elim), HREL.out.1, HREL.out.2⟩

set_option maxHeartbeats 4000000 in
theorem does_pop {q : Js} {l : List Ld} {n : Nat} (h : Two a g r ch q l (fun _ => False) w) (hrel : Rel ch q l) (hl : l.length ≤ n) (hn : n ≤ 1000000) (o : Op16) (Ap : Option Addr) (cp : Nat) (hd : o.d = 2 ∨ o.d = 3) :
    Calls Try.prog 15 #[ptr g, ptr r, opV o Ap cp] w fun e w' => e = .returned (.bool true) ∧ Duo a g r ch (n + 1) w' := by
  obtain ⟨d, c, ⟨ok, ol, ou, op, os⟩⟩ := o
  dsimp only at hd
  have hll : l.length ≤ 1000000000 := by omega
  obtain ⟨hin, hle⟩ := head_pos (h.pos c)
  have hsame := (hrel.same c).symm
  obtain ⟨X, hX⟩ : ∃ X, X = w.alloc (.cells #[.int .i64 d, .int .i64 c, .int .i64 ok, .int .i64 ol, .int .i64 ou, .int .i64 op, .slice Ap os.length cp] 40) := ⟨_, rfl⟩
  have hbX : Below w.heap.size w X := by rw [hX]; exact (Below.refl _ _).alloc (Nat.le_refl _) _
  have hbox : Seven X w.heap.size (.int .i64 d) (.int .i64 c) (.int .i64 ok) (.int .i64 ol) (.int .i64 ou) (.int .i64 op) (.slice Ap os.length cp) := by rw [hX]; exact heap_alloc_new w _
  have hX2 := h.on (S' := fun b => b = w.heap.size) hbX (fun b hb => .inr ⟨by omega, by rw [hb]; exact hbox.lt⟩)
  have HC1 := Lib.hid (Pop1 hX2 c)
  have HC2 := Lib.hid (fun X q2 S (hX : Two a g r ch q2 l S X) => Pop2 hX c hll)
  simp only [hsame] at HC2
  obtain ⟨⟨k, ln, u, p, zs⟩, hJ⟩ : ∃ J, head (jobs ch q c) = J := ⟨_, rfl⟩
  obtain ⟨F, hF⟩ : ∃ F, (!(jobs ch q c).isEmpty) = F := ⟨_, rfl⟩
  rw [hJ, hF] at HC1
  simp only [hJ, hF] at HC2
  rw [hJ] at hin hle
  dsimp only at hle hin
  have HIN := Lib.hid hin
  have HRELL := Lib.hid (And.intro hrel hl)
  have HX2 := Lib.hid hX2
  have HBX := Lib.hid hbox
  have S0 := hbox.cells
  clear h hrel hl hX2 hbX hbox hsame hJ hF hin
  unfold opV
  rw [hX] at S0
  rcases hd with rfl | rfl
  all_goals
    go_enter Try.func15, Try.ntmps15
    obtain ⟨s0, s1, _⟩ := S0
    go_wp2_with fail
    rw [← hX]
    refine HC1.out.mono ?_
    rintro e w3 ⟨v1, rfl, ho1, hm, hst, hsz⟩
    replace ho1 : OwnI w3 X.heap.size 3 v1 zs := ho1
    have HM := Lib.hid hm
    have HBX3 := Lib.hid (HBX.out.keep (w' := w3) (hst w.heap.size rfl))
    clear hst hsz
    obtain ⟨A1, n1, c1, rfl⟩ := ho1.form
    obtain rfl : zs.length = n1 := ho1.len
    have HO := Lib.hid ho1
    clear ho1 HC1 s0 s1 hX HBX HX2
    go_upto_region 8 with fail
    refine at_wld ?_
    intro Y hY
    have hf : Five Y w3.heap.size 32 (.int .i64 k) (.int .i64 ln) (.int .i64 u) (.int .i64 p) (.slice A1 zs.length c1) := by rw [hY]; exact Five.new w3 _ _ _ _ _ _
    have hb : Below w3.heap.size w3 Y := by rw [hY]; exact (Below.refl _ _).alloc (Nat.le_refl _) _
    replace HM := Lib.hid (HM.out.on (S' := fun b => (b = w.heap.size ∨ (Value.slice A1 zs.length c1).ownBlock = some b) ∨ b = w3.heap.size) hb (fun b hb2 => hb2.imp id (fun e => ⟨by omega, by rw [e]; exact hf.lt⟩)))
    replace HO := Lib.hid (HO.out.below hb)
    have HF := Lib.hid hf
    obtain ⟨_, s1, _⟩ := (HBX3.out.keep (hb.block _ HBX3.out.lt)).cells
    clear hf hb hY HBX3
    go_wp2_with fail
    refine (HC2.out _ _ _ HM.out).mono ?_
    rintro e w5 ⟨v2, l', rfl, ho2, hleft, hm, hst, hsz⟩
    replace ho2 : OwnI w5 Y.heap.size 3 v2 zs := ho2
    replace HM := Lib.hid hm
    have HREL := Lib.hid (And.intro (HRELL.out.1.pop hleft) (show l'.length ≤ n + 1 by have := hleft.2.2.1; have := HRELL.out.2; omega))
    have HO1 := Lib.hid (HO.out.keep (w' := w5) (fun b hb => hst b (.inl (.inr hb))))
    have HFA := Lib.hid (HF.out.keep (w' := w5) (hst w3.heap.size (.inr rfl)))
    clear hst hsz hm hleft
    obtain ⟨A2, n2, c2, rfl⟩ := ho2.form
    obtain rfl : zs.length = n2 := ho2.len
    have HO2 := Lib.hid ho2
    clear ho2 HC2 s1 HO HF HRELL
    go_upto_region 9 with fail
    refine at_wld ?_
    intro Z hZ
    have hf : Five Z w5.heap.size 32 (.int .i64 k) (.int .i64 ln) (.int .i64 u) (.int .i64 p) (.slice A2 zs.length c2) := by rw [hZ]; exact Five.new w5 _ _ _ _ _ _
    have hb : Below w5.heap.size w5 Z := by rw [hZ]; exact (Below.refl _ _).alloc (Nat.le_refl _) _
    replace HM := Lib.hid (HM.out.same hb)
    obtain ⟨a0, a1, a2, a3, a4⟩ := (HFA.out.below hb).cells
    obtain ⟨b0, b1, b2, b3, b4⟩ := hf.cells
    have hn1 : Nums Z Z.heap.size A1 zs.length zs := by
      obtain ⟨A, cc, e, _, _, hnu⟩ := (HO1.out.below hb).reads HIN.out
      injection e with e
      rw [e]
      exact hnu
    have hn2 : Nums Z Z.heap.size A2 zs.length zs := by
      obtain ⟨A, cc, e, _, _, hnu⟩ := (HO2.out.below hb).reads HIN.out
      injection e with e
      rw [e]
      exact hnu
    have HS := Lib.hid (Same_any ⟨k, ln, u, p, zs⟩ A1 A2 zs.length c1 c2 Z hn1 hn2 hle)
    clear hf hb hZ hn1 hn2 HFA HO1 HO2
    go_wp2_with fail
    refine HS.out.mono ?_
    rintro e w7 ⟨rfl, hb⟩
    replace HM := Lib.hid (HM.out.same hb)
    clear hb HS a0 a1 a2 a3 a4 b0 b1 b2 b3 b4
    go_wp2
    go_ret
    exact ⟨by first | rfl | simp, _, l', HM.out.less (fun b hb => hb.elim), HREL.out.1, HREL.out.2⟩

set_option maxHeartbeats 4000000 in
theorem does_first {q : Js} {l : List Ld} {n : Nat} (h : Two a g r ch q l (fun _ => False) w) (hrel : Rel ch q l) (hl : l.length ≤ n) (hn : n ≤ 1000000) (o : Op16) (Ap : Option Addr) (cp : Nat) (hd : o.d = 4) :
    Calls Try.prog 15 #[ptr g, ptr r, opV o Ap cp] w fun e w' => e = .returned (.bool true) ∧ Duo a g r ch (n + 1) w' := by
  obtain ⟨d, c, ⟨ok, ol, ou, op, os⟩⟩ := o
  dsimp only at hd
  have hll : l.length ≤ 1000000000 := by omega
  obtain ⟨hin, hle⟩ := head_pos (h.pos c)
  have hsame := (hrel.same c).symm
  obtain ⟨X, hX⟩ : ∃ X, X = w.alloc (.cells #[.int .i64 d, .int .i64 c, .int .i64 ok, .int .i64 ol, .int .i64 ou, .int .i64 op, .slice Ap os.length cp] 40) := ⟨_, rfl⟩
  have hbX : Below w.heap.size w X := by rw [hX]; exact (Below.refl _ _).alloc (Nat.le_refl _) _
  have hbox : Seven X w.heap.size (.int .i64 d) (.int .i64 c) (.int .i64 ok) (.int .i64 ol) (.int .i64 ou) (.int .i64 op) (.slice Ap os.length cp) := by rw [hX]; exact heap_alloc_new w _
  have hX2 := h.on (S' := fun b => b = w.heap.size) hbX (fun b hb => .inr ⟨by omega, by rw [hb]; exact hbox.lt⟩)
  have HC1 := Lib.hid (First1 hX2 c)
  have HC2 := Lib.hid (fun X q2 S (hX : Two a g r ch q2 l S X) => First2 hX c hll)
  simp only [hsame] at HC2
  obtain ⟨⟨k, ln, u, p, zs⟩, hJ⟩ : ∃ J, head (jobs ch q c) = J := ⟨_, rfl⟩
  obtain ⟨F, hF⟩ : ∃ F, (!(jobs ch q c).isEmpty) = F := ⟨_, rfl⟩
  rw [hJ, hF] at HC1
  simp only [hJ, hF] at HC2
  rw [hJ] at hin hle
  dsimp only at hle hin
  have HIN := Lib.hid hin
  have HRELL := Lib.hid (And.intro hrel hl)
  have HX2 := Lib.hid hX2
  have HBX := Lib.hid hbox
  have S0 := hbox.cells
  clear h hrel hl hX2 hbX hbox hsame hJ hF hin
  unfold opV
  rw [hX] at S0
  subst hd
  go_enter Try.func15, Try.ntmps15
  obtain ⟨s0, s1, _⟩ := S0
  go_wp2_with fail
  rw [← hX]
  refine HC1.out.mono ?_
  rintro e w3 ⟨v1, rfl, ho1, hb3⟩
  replace ho1 : OwnI w3 X.heap.size 3 v1 zs := ho1
  have HM := Lib.hid (HX2.out.on (S' := fun b => b = w.heap.size ∨ v1.ownBlock = some b) hb3 (fun b hb => hb.imp id (fun h => ⟨ho1.block b h, ho1.lt b h⟩)))
  have HBX3 := Lib.hid (HBX.out.keep (w' := w3) (hb3.block _ HBX.out.lt))
  clear hb3
  obtain ⟨A1, n1, c1, rfl⟩ := ho1.form
  obtain rfl : zs.length = n1 := ho1.len
  have HO := Lib.hid ho1
  clear ho1 HC1 s0 s1 hX HBX HX2
  go_upto_region 12 with fail
  refine at_wld ?_
  intro Y hY
  have hf : Five Y w3.heap.size 32 (.int .i64 k) (.int .i64 ln) (.int .i64 u) (.int .i64 p) (.slice A1 zs.length c1) := by rw [hY]; exact Five.new w3 _ _ _ _ _ _
  have hb : Below w3.heap.size w3 Y := by rw [hY]; exact (Below.refl _ _).alloc (Nat.le_refl _) _
  replace HM := Lib.hid (HM.out.on (S' := fun b => (b = w.heap.size ∨ (Value.slice A1 zs.length c1).ownBlock = some b) ∨ b = w3.heap.size) hb (fun b hb2 => hb2.imp id (fun e => ⟨by omega, by rw [e]; exact hf.lt⟩)))
  replace HO := Lib.hid (HO.out.below hb)
  have HF := Lib.hid hf
  obtain ⟨_, s1, _⟩ := (HBX3.out.keep (hb.block _ HBX3.out.lt)).cells
  clear hf hb hY HBX3
  go_wp2_with fail
  refine (HC2.out _ _ _ HM.out).mono ?_
  rintro e w5 ⟨v2, rfl, ho2, hb5⟩
  replace ho2 : OwnI w5 Y.heap.size 3 v2 zs := ho2
  replace HM := Lib.hid (HM.out.same hb5)
  have HREL := Lib.hid (And.intro HRELL.out.1 (show l.length ≤ n + 1 by have := HRELL.out.2; omega))
  have HO1 := Lib.hid (HO.out.below hb5)
  have HFA := Lib.hid (HF.out.below hb5)
  clear hb5
  obtain ⟨A2, n2, c2, rfl⟩ := ho2.form
  obtain rfl : zs.length = n2 := ho2.len
  have HO2 := Lib.hid ho2
  clear ho2 HC2 s1 HO HF HRELL
  go_upto_region 13 with fail
  refine at_wld ?_
  intro Z hZ
  have hf : Five Z w5.heap.size 32 (.int .i64 k) (.int .i64 ln) (.int .i64 u) (.int .i64 p) (.slice A2 zs.length c2) := by rw [hZ]; exact Five.new w5 _ _ _ _ _ _
  have hb : Below w5.heap.size w5 Z := by rw [hZ]; exact (Below.refl _ _).alloc (Nat.le_refl _) _
  replace HM := Lib.hid (HM.out.same hb)
  obtain ⟨a0, a1, a2, a3, a4⟩ := (HFA.out.below hb).cells
  obtain ⟨b0, b1, b2, b3, b4⟩ := hf.cells
  have hn1 : Nums Z Z.heap.size A1 zs.length zs := by
    obtain ⟨A, cc, e, _, _, hnu⟩ := (HO1.out.below hb).reads HIN.out
    injection e with e
    rw [e]
    exact hnu
  have hn2 : Nums Z Z.heap.size A2 zs.length zs := by
    obtain ⟨A, cc, e, _, _, hnu⟩ := (HO2.out.below hb).reads HIN.out
    injection e with e
    rw [e]
    exact hnu
  have HS := Lib.hid (Same_any ⟨k, ln, u, p, zs⟩ A1 A2 zs.length c1 c2 Z hn1 hn2 hle)
  clear hf hb hZ hn1 hn2 HFA HO1 HO2
  go_wp2_with fail
  refine HS.out.mono ?_
  rintro e w7 ⟨rfl, hb⟩
  replace HM := Lib.hid (HM.out.same hb)
  clear hb HS a0 a1 a2 a3 a4 b0 b1 b2 b3 b4
  go_wp2
  go_ret
  exact ⟨by first | rfl | simp, _, l, HM.out.less (fun b hb => hb.elim), HREL.out.1, HREL.out.2⟩

set_option maxHeartbeats 4000000 in
theorem does_len {q : Js} {l : List Ld} {n : Nat} (h : Two a g r ch q l (fun _ => False) w) (hrel : Rel ch q l) (hl : l.length ≤ n) (hn : n ≤ 1000000) (o : Op16) (Ap : Option Addr) (cp : Nat) (hd : o.d = 5) :
    Calls Try.prog 15 #[ptr g, ptr r, opV o Ap cp] w fun e w' => e = .returned (.bool true) ∧ Duo a g r ch (n + 1) w' := by
  obtain ⟨d, c, ⟨ok, ol, ou, op, os⟩⟩ := o
  dsimp only at hd
  subst hd
  have hll : l.length ≤ 1000000000 := by omega
  obtain ⟨X, hX⟩ : ∃ X, X = w.alloc (.cells #[.int .i64 5, .int .i64 c, .int .i64 ok, .int .i64 ol, .int .i64 ou, .int .i64 op, .slice Ap os.length cp] 40) := ⟨_, rfl⟩
  have hbX : Below w.heap.size w X := by rw [hX]; exact (Below.refl _ _).alloc (Nat.le_refl _) _
  have hbox : Seven X w.heap.size (.int .i64 5) (.int .i64 c) (.int .i64 ok) (.int .i64 ol) (.int .i64 ou) (.int .i64 op) (.slice Ap os.length cp) := by rw [hX]; exact heap_alloc_new w _
  have hX2 := (h.same hbX).same (Below.refl _ _).drew
  have HC1 := Lib.hid (Len1 hX2 c)
  have HC2 := Lib.hid (Len2 hX2 c hll)
  rw [← hrel.same c] at HC2
  generalize (jobs ch q c).length = z at HC1 HC2
  have HM := Lib.hid hX2
  have HREL := Lib.hid (And.intro hrel (show l.length ≤ n + 1 by omega))
  have HBX := Lib.hid hbox
  have S0 := hbox.cells
  clear h hrel hl hX2 hbX hbox
  unfold opV
  go_enter Try.func15, Try.ntmps15
  rw [hX] at S0
  go_upto_region 15 with fail
  rw [← hX] at S0 ⊢
  clear hX
  replace S0 := S0.2.1
  go_region_held3 (fun w' => w'.cell? ⟨w.heap.size, 1, none⟩ = some (.int .i64 c))
    (first | exact S0 | exact S3)
    (first
      | (go_at_call 13; refine HC1.out.mono ?_; rintro e w3 ⟨rfl, rfl⟩)
      | (go_at_call 24; refine HC2.out.mono ?_; rintro e w4 ⟨rfl, rfl⟩))
  all_goals
    go_wp2
    go_ret
    exact ⟨by first | rfl | simp, q, l, HM.out, HREL.out.1, HREL.out.2⟩

set_option maxHeartbeats 4000000 in
theorem does_busy {q : Js} {l : List Ld} {n : Nat} (h : Two a g r ch q l (fun _ => False) w) (hrel : Rel ch q l) (hl : l.length ≤ n) (hn : n ≤ 1000000) (o : Op16) (Ap : Option Addr) (cp : Nat) (hd : o.d = 6) :
    Calls Try.prog 15 #[ptr g, ptr r, opV o Ap cp] w fun e w' => e = .returned (.bool true) ∧ Duo a g r ch (n + 1) w' := by
  obtain ⟨d, c, ⟨ok, ol, ou, op, os⟩⟩ := o
  dsimp only at hd
  subst hd
  have hll : l.length ≤ 1000000000 := by omega
  obtain ⟨X, hX⟩ : ∃ X, X = w.alloc (.cells #[.int .i64 6, .int .i64 c, .int .i64 ok, .int .i64 ol, .int .i64 ou, .int .i64 op, .slice Ap os.length cp] 40) := ⟨_, rfl⟩
  have hbX : Below w.heap.size w X := by rw [hX]; exact (Below.refl _ _).alloc (Nat.le_refl _) _
  have hbox : Seven X w.heap.size (.int .i64 6) (.int .i64 c) (.int .i64 ok) (.int .i64 ol) (.int .i64 ou) (.int .i64 op) (.slice Ap os.length cp) := by rw [hX]; exact heap_alloc_new w _
  have hX2 := (h.same hbX).same (Below.refl _ _).drew
  have hq : ∀ i, i < 4 → (q i).length ≤ 1000000000 := fun i hi => by
    by_cases h1 : (i : Int) < ch
    · have e := hrel.same (i : Int)
      rw [jobs, if_pos ⟨by omega, h1⟩, Int.toNat_natCast] at e
      rw [e]
      exact Nat.le_trans (of_len l _) (by omega)
    · rw [h.bare (by omega) hi]
      simp
  have HC1 := Lib.hid (Busy1 hX2 hq c)
  have HC2 := Lib.hid (fun Y (hY : Two a g r ch q l (fun _ => False) Y) => Busy2 hY c hll)
  simp only [hrel.busy h.top.2 (fun i h1 h2 => h.bare h1 h2) c] at HC2
  generalize busy q c = z at HC1 HC2
  have HM := Lib.hid hX2
  have HREL := Lib.hid (And.intro hrel (show l.length ≤ n + 1 by omega))
  have HBX := Lib.hid hbox
  have S0 := hbox.cells
  clear h hrel hl hX2 hbX hbox
  unfold opV
  go_enter Try.func15, Try.ntmps15
  rw [hX] at S0
  go_upto_region 17 with fail
  rw [← hX] at S0 ⊢
  clear hX
  replace S0 := S0.2.1
  go_region_held3 (fun w' => w'.cell? ⟨w.heap.size, 1, none⟩ = some (.int .i64 c))
    (first | exact S0 | exact S3)
    (first
      | (go_at_call 14; refine HC1.out.mono ?_; rintro e w3 ⟨rfl, hb3⟩; have S3 := (HBX.out.keep (w' := w3) (hb3.block _ HBX.out.lt)).cells.2.1; replace HM := Lib.hid (HM.out.same hb3); clear hb3)
      | (go_at_call 25; refine (HC2.out _ HM.out).mono ?_; rintro e w4 ⟨rfl, rfl⟩))
  all_goals
    go_wp2
    go_ret
    exact ⟨by first | rfl | simp, q, l, HM.out, HREL.out.1, HREL.out.2⟩

theorem does_else {q : Js} {l : List Ld} {n : Nat} (h : Two a g r ch q l (fun _ => False) w) (hrel : Rel ch q l) (hl : l.length ≤ n) (o : Op16) (Ap : Option Addr) (cp : Nat) (hd : o.d < 0 ∨ 6 < o.d) :
    Calls Try.prog 15 #[ptr g, ptr r, opV o Ap cp] w fun e w' => e = .returned (.bool true) ∧ Duo a g r ch (n + 1) w' := by
  obtain ⟨d, c, ⟨ok, ol, ou, op, os⟩⟩ := o
  dsimp only at hd
  have HEND : Hid (Duo a g r ch (n + 1) (w.alloc (.cells #[.int .i64 d, .int .i64 c, .int .i64 ok, .int .i64 ol, .int .i64 ou, .int .i64 op, .slice Ap os.length cp] 40))) := Lib.hid ⟨q, l, h.same ((Below.refl _ _).alloc (Nat.le_refl _) _), hrel, by omega⟩
  have t0 : (d == 0) = false := by simp; omega
  have t1 : (d == 1) = false := by simp; omega
  have t2 : (d == 2) = false := by simp; omega
  have t3 : (d == 3) = false := by simp; omega
  have t4 : (d == 4) = false := by simp; omega
  have t5 : (d == 5) = false := by simp; omega
  have t6 : (d == 6) = false := by simp; omega
  clear h hrel hl hd
  unfold opV
  go_enter Try.func15, Try.ntmps15
  go_wp2
  go_ret
  exact ⟨rfl, HEND.out⟩

theorem does_any {n : Nat} (h : Duo a g r ch n w) (hn : n ≤ 1000000) (o : Op16) (Ap : Option Addr) (cp : Nat) (hp : o.j.d.length ≤ 1000000000) (hr : Nums a a.heap.size Ap o.j.d.length o.j.d) :
    Calls Try.prog 15 #[ptr g, ptr r, opV o Ap cp] w fun e w' => e = .returned (.bool true) ∧ Duo a g r ch (n + 1) w' := by
  obtain ⟨q, l, h1, h2, h3⟩ := h
  have hc : o.d < 0 ∨ o.d = 0 ∨ o.d = 1 ∨ o.d = 2 ∨ o.d = 3 ∨ o.d = 4 ∨ o.d = 5 ∨ o.d = 6 ∨ 6 < o.d := by omega
  rcases hc with hc | hc | hc | hc | hc | hc | hc | hc | hc
  · exact does_else h1 h2 h3 o Ap cp (.inl hc)
  · exact does_put h1 h2 h3 hn o Ap cp (.inl hc) hp hr
  · exact does_put h1 h2 h3 hn o Ap cp (.inr hc) hp hr
  · exact does_pop h1 h2 h3 hn o Ap cp (.inl hc)
  · exact does_pop h1 h2 h3 hn o Ap cp (.inr hc)
  · exact does_first h1 h2 h3 hn o Ap cp hc
  · exact does_len h1 h2 h3 hn o Ap cp hc
  · exact does_busy h1 h2 h3 hn o Ap cp hc
  · exact does_else h1 h2 h3 o Ap cp (.inr hc)
end

end Go.Proofs.Ytkpneckgpolaoaa.QueueLaw
