/-
  What the document's ring does, the fourth part: Find, Copy, Get.
-/
import Derived.Test.YtecmmihobojjpaaRingRefC
namespace Go.Proofs.Ytecmmihobojjpaa.RingRef
open Go.RowKit Ring RingPkg
set_option maxRecDepth 4000

theorem getLast_snoc (p : Slot × Int → Bool) (l : All) (k : Nat) (x : Slot × Int) (hx : l[k]? = some x) (hp : p x = true) (hn : ∀ j y, k < j → l[j]? = some y → p y = false) : (sel p l).getLast? = some k := by
  have h1 : sel p l = sel p (l.take (k + 1)) := by
    conv => lhs; rw [← List.take_append_drop (k + 1) l]
    rw [sel_append, sel_none p (l.drop (k + 1)) (fun y hy => ?_)]
    · simp
    · obtain ⟨j, hj⟩ := List.getElem?_of_mem hy
      rw [List.getElem?_drop] at hj
      exact hn _ y (by omega) hj
  rw [h1, sel_take p l k x hx, hp]
  simp

theorem find_some (all : All) (lba : Int) (k : Nat) (x : Slot × Int) (hk : tl all ≤ k) (hx : all[k]? = some x) (hp : mine lba x = true) (hn : ∀ j y, k < j → all[j]? = some y → mine lba y = false) : find all lba = some k := by
  unfold find
  rw [getLast_snoc (mine lba) (all.drop (tl all)) (k - tl all) x (by rw [List.getElem?_drop, show tl all + (k - tl all) = k by omega]; exact hx) hp (fun j y hj hy => hn (tl all + j) y (by omega) (by rw [List.getElem?_drop] at hy; exact hy))]
  simp
  omega

theorem find_none (all : All) (lba : Int) (hn : ∀ j y, tl all ≤ j → all[j]? = some y → mine lba y = false) : find all lba = none := by
  unfold find
  rw [sel_none (mine lba) (all.drop (tl all)) (fun y hy => ?_)]
  · rfl
  · obtain ⟨j, hj⟩ := List.getElem?_of_mem hy
    rw [List.getElem?_drop] at hj
    exact hn _ y (by omega) hj

/-- What is found, as it is told. -/
def Found (F : Option Nat) (e : Ending) : Prop := match F with | none => e = .returned (.tuple #[.int .i64 0, .bool false]) | some i => e = .returned (.tuple #[.int .i64 i, .bool true])

section
variable {w : World} {P : Pl} {size : Int} {all : List (Slot × Int)}

set_option maxHeartbeats 2000000 in
theorem Find_any (h : Ref w P size all) (hl : all.length ≤ 1000000) (lba : Int) : Calls Try.prog 39 #[ptr P.g, .int .i64 lba] w fun e w' => Found (find all lba) e ∧ w = w' := by
  have HH := Lib.hid (Head_any h)
  have HT := Lib.hid (Tail_any h hl)
  have HR := Lib.hid h
  obtain ⟨_, hc1, _⟩ := h.cells
  obtain ⟨A, c, hv, hnc, hcm⟩ := h.slots
  rw [hv] at hc1
  have HV := Lib.hid hv
  have hc63 : c ≤ 9223372036854775807 := hcm
  have htl := tl_le all
  obtain ⟨N, hn⟩ : ∃ N, N = all.length := ⟨_, rfl⟩
  rw [← hn] at hnc hl HV HH htl hc1
  have HN := Lib.hid hn
  obtain ⟨t, ht⟩ : ∃ t, t = tl all := ⟨_, rfl⟩
  rw [← ht] at HT htl
  have HTT := Lib.hid ht
  have HFN : Hid ((∀ j y, t ≤ j → all[j]? = some y → mine lba y = false) → find all lba = none) := Lib.hid (by rw [ht]; exact find_none all lba)
  have HFS : Hid (∀ k x, t ≤ k → all[k]? = some x → mine lba x = true → (∀ j y, k < j → all[j]? = some y → mine lba y = false) → find all lba = some k) := Lib.hid (by rw [ht]; exact find_some all lba)
  clear h hv hcm hn ht
  generalize find all lba = F at HFN HFS ⊢
  go_enter Try.func39, Try.ntmps39
  go_wp2_with fail
  refine HH.out.mono ?_
  rintro e w2 ⟨rfl, hw⟩
  subst w2
  go_wp2
  go_loop [6] (fun i => ∃ k : Nat, t ≤ k ∧ k ≤ N ∧ i = .int .i64 ((k : Int) - 1) ∧ ∀ j y, k ≤ j → all[j]? = some y → mine lba y = false) (fun i => (intOf i + 1).toNat)
  case atStart => exact ⟨N, htl, Nat.le_refl _, rfl, fun j y hj hy => by have := (List.getElem?_eq_some_iff.1 hy).1; rw [HN.out] at hj; omega⟩
  case round =>
    obtain ⟨k, hk, hkN, rfl, hno⟩ := hrel
    have HNO := Lib.hid hno
    clear hno
    by_cases hkt : t < k
    · obtain ⟨q, rfl⟩ : ∃ q, k = q + 1 := ⟨k - 1, by omega⟩
      rw [show ((q + 1 : Nat) : Int) - 1 = (q : Int) by omega]
      obtain ⟨x, hx⟩ : ∃ x, all[q]? = some x := ⟨_, List.getElem?_eq_getElem (by rw [← HN.out]; omega)⟩
      obtain ⟨b, c', v, hv', _, _, _, _, hcl⟩ := HR.out.slot hx
      rw [← HN.out, HV.out] at hv'
      injection hv' with e1 e2 e3
      subst e1
      have q1 := hcl 1 _ rfl
      have q4 := hcl 4 _ rfl
      have HX := Lib.hid hx
      have HMI : Hid (mine lba x = (decide (x.1.l = lba) && decide (x.1.f < 0))) := Lib.hid rfl
      have htq : ¬ (q : Int) < t := by omega
      clear hcl hx e2 e3
      obtain ⟨xl, hxl⟩ : ∃ xl, xl = x.1.l := ⟨_, rfl⟩
      obtain ⟨xf, hxf⟩ : ∃ xf, xf = x.1.f := ⟨_, rfl⟩
      rw [← hxl] at q1 HMI
      rw [← hxf] at q4 HMI
      clear hxl hxf
      by_cases hm : xl = lba
      · have hmb : (xl == lba) = true := by simpa using hm
        by_cases hf : xf < 0
        · have HF : Hid (F = some q) := Lib.hid (HFS.out q x (by omega) HX.out (by rw [HMI.out]; simp [hm, hf]) (fun j y hj hy => HNO.out j y (by omega) hy))
          clear hm
          go_wp2_with fail
          refine HT.out.mono ?_
          rintro e w2 ⟨rfl, hw⟩
          subst w2
          go_wp2
          go_ret2
          exact ⟨by rw [HF.out]; rfl, rfl⟩
        · have HF : Hid (mine lba x = false) := Lib.hid (by rw [HMI.out]; simp [hf])
          clear hm
          go_wp2_with fail
          refine HT.out.mono ?_
          rintro e w2 ⟨rfl, hw⟩
          subst w2
          go_wp2
          go_round
          case rel => exact ⟨q, by omega, by omega, by go_num, fun j y hj hy => by
            rcases Nat.lt_or_ge q j with h | h
            · exact HNO.out j y (by omega) hy
            · obtain rfl : j = q := by omega
              rw [HX.out] at hy
              injection hy with hy
              rw [← hy]
              exact HF.out⟩
          case measure => simp [intOf]
      · have hmb : (xl == lba) = false := by simpa using hm
        have HF : Hid (mine lba x = false) := Lib.hid (by rw [HMI.out]; simp [hm])
        go_wp2_with fail
        refine HT.out.mono ?_
        rintro e w2 ⟨rfl, hw⟩
        subst w2
        go_wp2
        go_round
        case rel => exact ⟨q, by omega, by omega, by go_num, fun j y hj hy => by
          rcases Nat.lt_or_ge q j with h | h
          · exact HNO.out j y (by omega) hy
          · obtain rfl : j = q := by omega
            rw [HX.out] at hy
            injection hy with hy
            rw [← hy]
            exact HF.out⟩
        case measure => simp [intOf]
    · have HF : Hid (F = none) := Lib.hid (HFN.out (fun j y hj hy => HNO.out j y (by omega) hy))
      have hkk : (k : Int) - 1 < t := by omega
      have hkk2 : ¬ (t : Int) ≤ (k : Int) - 1 := by omega
      obtain ⟨z, hz⟩ : ∃ z, z = (k : Int) - 1 := ⟨_, rfl⟩
      rw [← hz] at hkk hkk2 ⊢
      clear hz
      go_wp2_with fail
      refine HT.out.mono ?_
      rintro e w2 ⟨rfl, hw⟩
      subst w2
      go_wp2
      go_ret2
      exact ⟨by rw [HF.out]; rfl, rfl⟩
end
end Go.Proofs.Ytecmmihobojjpaa.RingRef
