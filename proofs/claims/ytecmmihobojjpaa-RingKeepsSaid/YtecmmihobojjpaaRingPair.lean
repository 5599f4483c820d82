/-
  Two rings side by side: the program's and the document's; what a call of either leaves of both.
-/
import Derived.Test.YtecmmihobojjpaaRingRefP
import Derived.Test.YtecmmihobojjpaaRingKit
namespace Go.Proofs.Ytecmmihobojjpaa.RingLaw
open Go.RowKit Ring RingPkg
set_option maxRecDepth 4000

/-- The program's ring at gp and the document's at gq, all of whose memory is newer than a; of a nothing has turned. -/
def Pr (a : World) (gp gq : Nat) (size : Int) (ap aq : All) (w : World) : Prop := ∃ (P : RingPkg.Pl) (Q : RingRef.Pl), P.g = gp ∧ Q.g = gq ∧ Rg w P size ap ∧ RingRef.Ref w Q size aq ∧ (∀ b, P.own b → ¬ Q.own b) ∧ (∀ b, P.own b → a.heap.size ≤ b) ∧ (∀ b, Q.own b → a.heap.size ≤ b) ∧ Below a.heap.size a w

section
variable {a w w' : World} {gp gq : Nat} {size : Int} {ap aq : All}

theorem Pr.below (h : Pr a gp gq size ap aq w) : Below a.heap.size a w := by
  obtain ⟨P, Q, _, _, _, _, _, _, _, h⟩ := h
  exact h

theorem Pr.on (h : Pr a gp gq size ap aq w) (hb : Below w.heap.size w w') : Pr a gp gq size ap aq w' := by
  obtain ⟨P, Q, h1, h2, h3, h4, h5, h6, h7, h8⟩ := h
  exact ⟨P, Q, h1, h2, h3.below hb, h4.below hb, h5, h6, h7, below_on h8 hb h8.size⟩

theorem Pr.draws (h : Pr a gp gq size ap aq w) (k : Nat) : Pr a gp gq size ap aq (w.drewN k) := h.on (below_draws (Below.refl _ _) k)

/-- The program's ring has turned. -/
theorem Pr.turnP {P P' : RingPkg.Pl} {Q : RingRef.Pl} {ap' : All} (h2 : Q.g = gq) (h4 : RingRef.Ref w Q size aq) (h5 : ∀ b, P.own b → ¬ Q.own b) (h6 : ∀ b, P.own b → a.heap.size ≤ b) (h7 : ∀ b, Q.own b → a.heap.size ≤ b) (h8 : Below a.heap.size a w)
    (hg : P'.g = gp) (hr : Rg w' P' size ap') (ht : Turn P.own P'.own w w') : Pr a gp gq size ap' aq w' :=
  ⟨P', Q, hg, h2, hr, h4.turn ht (fun b hb ho => h5 b ho hb), fun b hb hq => ht.apart (O2 := Q.own) h4.lt (fun c hc ho => h5 c ho hc) b hq hb, ht.up h6 h8.size, h7, below_turn h8 ht h6 h8.size⟩

/-- The document's ring has turned. -/
theorem Pr.turnQ {P : RingPkg.Pl} {Q Q' : RingRef.Pl} {aq' : All} (h1 : P.g = gp) (h3 : Rg w P size ap) (h5 : ∀ b, P.own b → ¬ Q.own b) (h6 : ∀ b, P.own b → a.heap.size ≤ b) (h7 : ∀ b, Q.own b → a.heap.size ≤ b) (h8 : Below a.heap.size a w)
    (hg : Q'.g = gq) (hr : RingRef.Ref w' Q' size aq') (ht : Turn Q.own Q'.own w w') : Pr a gp gq size ap aq' w' :=
  ⟨P, Q', h1, hg, h3.turn ht (fun b hb => h5 b hb), hr, ht.apart (O2 := P.own) h3.lt h5, h6, ht.up h7 h8.size, below_turn h8 ht h7 h8.size⟩

theorem New_p (a w : World) (hb0 : Below a.heap.size a w) (size : Int) (h0 : 1 ≤ size) (h1 : size ≤ 256) (gd : Nat) (h : Mine a gd size [] w) : Calls Try.prog 12 #[.int .i64 size] w fun e w' => ∃ gq, e = .returned (.tuple #[ptr gq, .int .i64 0]) ∧ Pr a gd gq size [] [] w' := by
  obtain ⟨P, rfl, h2, h3, h4⟩ := h
  refine (RingRef.New_in size w h0 h1).mono ?_
  rintro e w' ⟨Q, rfl, hr, hup, hb⟩
  exact ⟨Q.g, rfl, P, Q, rfl, rfl, h2.below hb, hr, fun b hb1 hb2 => by have := h2.lt b hb1; have := hup b hb2; omega, h3, fun b hb1 => Nat.le_trans hb0.size (hup b hb1), below_on h4 hb h4.size⟩

theorem Put_full_p (h : Pr a gp gq size ap aq w) (hl : ap.length ≤ 1000000) (h0 : 0 ≤ size) (h1 : size ≤ 1000000) (hf : size - ap.length + tl ap = 0) (s : Slot) (v : Value) (hv : ∃ A n c, v = .slice A n c) :
    Calls Try.prog 22 #[ptr gp, slotV s v] w fun e w' => e = .returned (.tuple #[.int .i64 0, .int .i64 11]) ∧ Below w.heap.size w w' ∧ Pr a gp gq size ap aq w' := by
  have H := Lib.hid h
  obtain ⟨P, Q, rfl, h2, h3, h4, h5, h6, h7, h8⟩ := h
  refine (Put_full_rg h3 hl h0 h1 hf s v hv).mono ?_
  rintro e w' ⟨rfl, hb⟩
  exact ⟨rfl, hb, H.out.on hb⟩

theorem Put_full_q (h : Pr a gp gq size ap aq w) (hl : aq.length ≤ 1000000) (h0 : 0 ≤ size) (h1 : size ≤ 1000000) (hf : size - aq.length + tl aq < 1) (s : Slot) (v : Value) (hv : ∃ A n c, v = .slice A n c) :
    Calls Try.prog 33 #[ptr gq, slotV s v] w fun e w' => e = .returned (.tuple #[.int .i64 0, .int .i64 11]) ∧ Pr a gp gq size ap aq w' := by
  have H := Lib.hid h
  obtain ⟨P, Q, h1', rfl, h3, h4, h5, h6, h7, h8⟩ := h
  refine (RingRef.Put_full h4 hl h0 h1 hf s v hv).mono ?_
  rintro e w' ⟨rfl, hb⟩
  exact ⟨rfl, H.out.on hb⟩

theorem Put_p (h : Pr a gp gq size ap aq w) (hl : ap.length ≤ 1000000) (h0 : 0 ≤ size) (h1 : size ≤ 1000000) (hf : ¬ size - ap.length + tl ap = 0) (s : Slot) (A : Option Addr) (n c : Nat) (hn : n ≤ 100000000000000) (hr : Bytes w w.heap.size A n s.d) :
    Calls Try.prog 22 #[ptr gp, slotV s (.slice A n c)] w fun e w' => e = .returned (.tuple #[.int .i64 ap.length, .int .i64 0]) ∧ Below a.heap.size w w' ∧ Pr a gp gq size (ap ++ [(s, 0)]) aq w' := by
  obtain ⟨P, Q, rfl, h2, h3, h4, h5, h6, h7, h8⟩ := h
  refine (Put_rg h3 hl h0 h1 hf s A n c hn hr).mono ?_
  rintro e w' ⟨rfl, P', hg, hr, ht⟩
  exact ⟨rfl, ht.below h6 h8.size, Pr.turnP h2 h4 h5 h6 h7 h8 hg hr ht⟩

theorem Put_q (h : Pr a gp gq size ap aq w) (hl : aq.length ≤ 1000000) (h0 : 0 ≤ size) (h1 : size ≤ 1000000) (hf : ¬ size - aq.length + tl aq < 1) (s : Slot) (A : Option Addr) (n c : Nat) (hn : n ≤ 100000000000000) (hr : Bytes w w.heap.size A n s.d) :
    Calls Try.prog 33 #[ptr gq, slotV s (.slice A n c)] w fun e w' => e = .returned (.tuple #[.int .i64 aq.length, .int .i64 0]) ∧ Pr a gp gq size ap (aq ++ [(s, 0)]) w' := by
  obtain ⟨P, Q, h1', rfl, h3, h4, h5, h6, h7, h8⟩ := h
  refine (RingRef.Put_ok h4 hl h0 h1 hf s A n c hn hr).mono ?_
  rintro e w' ⟨rfl, Q', hg, hr, ht⟩
  exact ⟨rfl, Pr.turnQ h1' h3 h5 h6 h7 h8 hg hr ht⟩

theorem Take_p (h : Pr a gp gq size ap aq w) (hl : ap.length ≤ 1000000) (n : Int) :
    Calls Try.prog 24 #[ptr gp, .int .i64 n] w fun e w' => ∃ u, e = .returned u ∧ OwnI w' w.heap.size 3 u (nums ((sel (isQ 0) ap).take n.toNat)) ∧ Below a.heap.size w w' ∧ w.heap.size ≤ w'.heap.size ∧ Pr a gp gq size (Ring.mark (out 1) ((sel (isQ 0) ap).take n.toNat) ap) aq w' := by
  obtain ⟨P, Q, rfl, h2, h3, h4, h5, h6, h7, h8⟩ := h
  refine (Take_rg h3 hl n).mono ?_
  rintro e w' ⟨u, rfl, ho, hr, ht⟩
  exact ⟨u, rfl, ho, ht.below h6 h8.size, ht.size, Pr.turnP h2 h4 h5 h6 h7 h8 rfl hr ht⟩

/-- The document's Take; what the program's has handed out stays. -/
theorem Take_q (h : Pr a gp gq size ap aq w) (hl : aq.length ≤ 1000000) (n : Int) :
    Calls Try.prog 35 #[ptr gq, .int .i64 n] w fun e w' => ∃ u, e = .returned u ∧ OwnI w' w.heap.size 3 u (nums ((sel (isQ 0) aq).take n.toNat)) ∧ (∃ Q : RingRef.Pl, Turn Q.own Q.own w w' ∧ (∀ b, Q.own b → b < w.heap.size) ∧ RingRef.Ref w Q size aq ∧ Q.g = gq) ∧ Pr a gp gq size ap (Ring.mark (out 1) ((sel (isQ 0) aq).take n.toNat) aq) w' := by
  obtain ⟨P, Q, h1', rfl, h3, h4, h5, h6, h7, h8⟩ := h
  refine (RingRef.Take_any h4 hl n).mono ?_
  rintro e w' ⟨u, rfl, ho, hr, ht⟩
  exact ⟨u, rfl, ho, ⟨Q, ht, h4.lt, h4, rfl⟩, Pr.turnQ h1' h3 h5 h6 h7 h8 rfl hr ht⟩

theorem Head_p (h : Pr a gp gq size ap aq w) (hl : ap.length ≤ 1000000) : Calls Try.prog 13 #[ptr gp] w fun e w' => e = .returned (.int .i64 (ap.length : Nat)) ∧ Pr a gp gq size ap aq w' := by
  have H := Lib.hid h
  obtain ⟨P, Q, rfl, h2, h3, h4, h5, h6, h7, h8⟩ := h
  refine (Head_rg h3 hl).mono ?_
  rintro e w' ⟨rfl, k, rfl⟩
  exact ⟨rfl, H.out.draws k⟩

theorem Tail_p (h : Pr a gp gq size ap aq w) : Calls Try.prog 14 #[ptr gp] w fun e w' => e = .returned (.int .i64 (tl ap : Nat)) ∧ Pr a gp gq size ap aq w' := by
  have H := Lib.hid h
  obtain ⟨P, Q, rfl, h2, h3, h4, h5, h6, h7, h8⟩ := h
  refine (Tail_rg h3 ).mono ?_
  rintro e w' ⟨rfl, k, rfl⟩
  exact ⟨rfl, H.out.draws k⟩

theorem Free_p (h : Pr a gp gq size ap aq w) (hl : ap.length ≤ 1000000) (h0 : 0 ≤ size) (h1 : size ≤ 1000000) : Calls Try.prog 16 #[ptr gp] w fun e w' => e = .returned (.int .i64 (size - ap.length + tl ap)) ∧ Pr a gp gq size ap aq w' := by
  have H := Lib.hid h
  obtain ⟨P, Q, rfl, h2, h3, h4, h5, h6, h7, h8⟩ := h
  refine (Free_rg h3 hl h0 h1).mono ?_
  rintro e w' ⟨rfl, k, rfl⟩
  exact ⟨rfl, H.out.draws k⟩

theorem Waiting_p (h : Pr a gp gq size ap aq w) (hl : ap.length ≤ 1000000) : Calls Try.prog 15 #[ptr gp] w fun e w' => e = .returned (.int .i64 (sel (isQ 0) ap).length) ∧ Pr a gp gq size ap aq w' := by
  have H := Lib.hid h
  obtain ⟨P, Q, rfl, h2, h3, h4, h5, h6, h7, h8⟩ := h
  refine (Waiting_rg h3 hl).mono ?_
  rintro e w' ⟨rfl, hb⟩
  exact ⟨rfl, H.out.on hb⟩

theorem Head_q (h : Pr a gp gq size ap aq w) : Calls Try.prog 18 #[ptr gq] w fun e w' => e = .returned (.int .i64 aq.length) ∧ w = w' := by
  obtain ⟨P, Q, h1', rfl, h3, h4, h5, h6, h7, h8⟩ := h
  exact RingRef.Head_any h4

theorem Tail_q (h : Pr a gp gq size ap aq w) (hl : aq.length ≤ 1000000) : Calls Try.prog 19 #[ptr gq] w fun e w' => e = .returned (.int .i64 (tl aq)) ∧ w = w' := by
  obtain ⟨P, Q, h1', rfl, h3, h4, h5, h6, h7, h8⟩ := h
  exact RingRef.Tail_any h4 hl

theorem Waiting_q (h : Pr a gp gq size ap aq w) (hl : aq.length ≤ 1000000) : Calls Try.prog 20 #[ptr gq] w fun e w' => e = .returned (.int .i64 (sel (isQ 0) aq).length) ∧ w = w' := by
  obtain ⟨P, Q, h1', rfl, h3, h4, h5, h6, h7, h8⟩ := h
  exact RingRef.Waiting_any h4 hl

theorem Free_q (h : Pr a gp gq size ap aq w) (hl : aq.length ≤ 1000000) (h0 : 0 ≤ size) (h1 : size ≤ 1000000) : Calls Try.prog 21 #[ptr gq] w fun e w' => e = .returned (.int .i64 (size - aq.length + tl aq)) ∧ Pr a gp gq size ap aq w' := by
  have H := Lib.hid h
  obtain ⟨P, Q, h1', rfl, h3, h4, h5, h6, h7, h8⟩ := h
  refine (RingRef.Free_any h4 hl h0 h1).mono ?_
  rintro e w' ⟨rfl, k, rfl⟩
  exact ⟨rfl, H.out.draws k⟩

theorem Done_none_p (h : Pr a gp gq size ap aq w) (hl : ap.length ≤ 1000000) (pos : Int) (hp : ¬ there ap pos) : Calls Try.prog 25 #[ptr gp, .int .i64 pos] w fun e w' => e = .returned (.int .i64 12) ∧ Pr a gp gq size ap aq w' := by
  have H := Lib.hid h
  obtain ⟨P, Q, rfl, h2, h3, h4, h5, h6, h7, h8⟩ := h
  refine (Done_none_rg h3 hl pos hp).mono ?_
  rintro e w' ⟨rfl, hb⟩
  exact ⟨rfl, H.out.on hb⟩

theorem Done_none_q (h : Pr a gp gq size ap aq w) (hl : aq.length ≤ 1000000) (pos : Int) (hp : ¬ there aq pos) : Calls Try.prog 36 #[ptr gq, .int .i64 pos] w fun e w' => e = .returned (.int .i64 12) ∧ w = w' := by
  obtain ⟨P, Q, h1', rfl, h3, h4, h5, h6, h7, h8⟩ := h
  exact RingRef.Done_none h4 hl pos hp

theorem Done_state_p (h : Pr a gp gq size ap aq w) (hl : ap.length ≤ 1000000) (i : Nat) (x : Slot × Int) (hi : tl ap ≤ i) (hx : ap[i]? = some x) (hq : x.2 ≠ 1) : Calls Try.prog 25 #[ptr gp, .int .i64 i] w fun e w' => e = .returned (.int .i64 13) ∧ Pr a gp gq size ap aq w' := by
  have H := Lib.hid h
  obtain ⟨P, Q, rfl, h2, h3, h4, h5, h6, h7, h8⟩ := h
  refine (Done_state_rg h3 hl i x hi hx hq).mono ?_
  rintro e w' ⟨rfl, hb⟩
  exact ⟨rfl, H.out.on hb⟩

theorem Done_state_q (h : Pr a gp gq size ap aq w) (hl : aq.length ≤ 1000000) (i : Nat) (x : Slot × Int) (hi : tl aq ≤ i) (hx : aq[i]? = some x) (hq : x.2 ≠ 1) : Calls Try.prog 36 #[ptr gq, .int .i64 i] w fun e w' => e = .returned (.int .i64 13) ∧ w = w' := by
  obtain ⟨P, Q, h1', rfl, h3, h4, h5, h6, h7, h8⟩ := h
  exact RingRef.Done_state h4 hl i x hi hx hq

theorem Done_ok_q (h : Pr a gp gq size ap aq w) (hl : aq.length ≤ 1000000) (i : Nat) (x : Slot × Int) (hi : tl aq ≤ i) (hx : aq[i]? = some x) (hq : x.2 = 1) : Calls Try.prog 36 #[ptr gq, .int .i64 i] w fun e w' => e = .returned (.int .i64 0) ∧ Pr a gp gq size ap (aq.modify i (out 2)) w' := by
  obtain ⟨P, Q, h1', rfl, h3, h4, h5, h6, h7, h8⟩ := h
  refine (RingRef.Done_ok h4 hl i x hi hx hq).mono ?_
  rintro e w' ⟨rfl, hr, ht⟩
  exact ⟨rfl, Pr.turnQ h1' h3 h5 h6 h7 h8 rfl hr ht⟩

theorem Back_none_p (h : Pr a gp gq size ap aq w) (hl : ap.length ≤ 1000000) (pos : Int) (hp : ¬ there ap pos) : Calls Try.prog 26 #[ptr gp, .int .i64 pos] w fun e w' => e = .returned (.int .i64 12) ∧ Pr a gp gq size ap aq w' := by
  have H := Lib.hid h
  obtain ⟨P, Q, rfl, h2, h3, h4, h5, h6, h7, h8⟩ := h
  refine (Back_none_rg h3 hl pos hp).mono ?_
  rintro e w' ⟨rfl, hb⟩
  exact ⟨rfl, H.out.on hb⟩

theorem Back_none_q (h : Pr a gp gq size ap aq w) (hl : aq.length ≤ 1000000) (pos : Int) (hp : ¬ there aq pos) : Calls Try.prog 37 #[ptr gq, .int .i64 pos] w fun e w' => e = .returned (.int .i64 12) ∧ w = w' := by
  obtain ⟨P, Q, h1', rfl, h3, h4, h5, h6, h7, h8⟩ := h
  exact RingRef.Back_none h4 hl pos hp

theorem Back_state_p (h : Pr a gp gq size ap aq w) (hl : ap.length ≤ 1000000) (i : Nat) (x : Slot × Int) (hi : tl ap ≤ i) (hx : ap[i]? = some x) (hq : x.2 ≠ 1) : Calls Try.prog 26 #[ptr gp, .int .i64 i] w fun e w' => e = .returned (.int .i64 13) ∧ Pr a gp gq size ap aq w' := by
  have H := Lib.hid h
  obtain ⟨P, Q, rfl, h2, h3, h4, h5, h6, h7, h8⟩ := h
  refine (Back_state_rg h3 hl i x hi hx hq).mono ?_
  rintro e w' ⟨rfl, hb⟩
  exact ⟨rfl, H.out.on hb⟩

theorem Back_state_q (h : Pr a gp gq size ap aq w) (hl : aq.length ≤ 1000000) (i : Nat) (x : Slot × Int) (hi : tl aq ≤ i) (hx : aq[i]? = some x) (hq : x.2 ≠ 1) : Calls Try.prog 37 #[ptr gq, .int .i64 i] w fun e w' => e = .returned (.int .i64 13) ∧ w = w' := by
  obtain ⟨P, Q, h1', rfl, h3, h4, h5, h6, h7, h8⟩ := h
  exact RingRef.Back_state h4 hl i x hi hx hq

theorem Back_ok_q (h : Pr a gp gq size ap aq w) (hl : aq.length ≤ 1000000) (i : Nat) (x : Slot × Int) (hi : tl aq ≤ i) (hx : aq[i]? = some x) (hq : x.2 = 1) : Calls Try.prog 37 #[ptr gq, .int .i64 i] w fun e w' => e = .returned (.int .i64 0) ∧ Pr a gp gq size ap (aq.modify i (out 0)) w' := by
  obtain ⟨P, Q, h1', rfl, h3, h4, h5, h6, h7, h8⟩ := h
  refine (RingRef.Back_ok h4 hl i x hi hx hq).mono ?_
  rintro e w' ⟨rfl, hr, ht⟩
  exact ⟨rfl, Pr.turnQ h1' h3 h5 h6 h7 h8 rfl hr ht⟩

theorem Done_ok_p (h : Pr a gp gq size ap aq w) (hl : ap.length ≤ 1000000) (i : Nat) (x : Slot × Int) (hi : tl ap ≤ i) (hx : ap[i]? = some x) (hq : x.2 = 1) : Calls Try.prog 25 #[ptr gp, .int .i64 i] w fun e w' => e = .returned (.int .i64 0) ∧ Pr a gp gq size (ap.modify i (out 2)) aq w' := by
  obtain ⟨P, Q, rfl, h2, h3, h4, h5, h6, h7, h8⟩ := h
  refine (Done_rg h3 hl i x hi hx hq).mono ?_
  rintro e w' ⟨rfl, P', hg, hr, ht⟩
  exact ⟨rfl, Pr.turnP h2 h4 h5 h6 h7 h8 hg hr ht⟩

theorem Back_ok_p (h : Pr a gp gq size ap aq w) (hl : ap.length ≤ 1000000) (i : Nat) (x : Slot × Int) (hi : tl ap ≤ i) (hx : ap[i]? = some x) (hq : x.2 = 1) : Calls Try.prog 26 #[ptr gp, .int .i64 i] w fun e w' => e = .returned (.int .i64 0) ∧ Pr a gp gq size (ap.modify i (out 0)) aq w' := by
  obtain ⟨P, Q, rfl, h2, h3, h4, h5, h6, h7, h8⟩ := h
  refine (Back_rg h3 hl i x hi hx hq).mono ?_
  rintro e w' ⟨rfl, hr, ht⟩
  exact ⟨rfl, Pr.turnP h2 h4 h5 h6 h7 h8 rfl hr ht⟩

theorem Get_none_p (h : Pr a gp gq size ap aq w) (hl : ap.length ≤ 1000000) (pos : Int) (hp : ¬ there ap pos) : Calls Try.prog 28 #[ptr gp, .int .i64 pos] w fun e w' => e = .returned (.tuple #[slotV ⟨0, 0, 0, [], 0⟩ (.slice none 0 0), .int .i64 12]) ∧ Below w.heap.size w w' ∧ Pr a gp gq size ap aq w' := by
  have H := Lib.hid h
  obtain ⟨P, Q, rfl, h2, h3, h4, h5, h6, h7, h8⟩ := h
  refine (Get_none_rg h3 hl pos hp).mono ?_
  rintro e w' ⟨rfl, hb⟩
  exact ⟨rfl, hb, H.out.on hb⟩

theorem Get_none_q (h : Pr a gp gq size ap aq w) (hl : aq.length ≤ 1000000) (pos : Int) (hp : ¬ there aq pos) : Calls Try.prog 38 #[ptr gq, .int .i64 pos] w fun e w' => e = .returned (.tuple #[slotV ⟨0, 0, 0, [], 0⟩ (.slice none 0 0), .int .i64 12]) ∧ Below w.heap.size w w' ∧ Pr a gp gq size ap aq w' := by
  have H := Lib.hid h
  obtain ⟨P, Q, h1', rfl, h3, h4, h5, h6, h7, h8⟩ := h
  refine (RingRef.Get_none h4 hl pos hp).mono ?_
  rintro e w' ⟨rfl, hb⟩
  exact ⟨rfl, hb, H.out.on hb⟩

theorem Get_p (h : Pr a gp gq size ap aq w) (hl : ap.length ≤ 1000000) (i : Nat) (x : Slot × Int) (hi : tl ap ≤ i) (hx : ap[i]? = some x) : Calls Try.prog 28 #[ptr gp, .int .i64 i] w fun e w' => ∃ v, e = .returned (.tuple #[slotV x.1 v, .int .i64 0]) ∧ Own w' w.heap.size 5 v x.1.d ∧ Below w.heap.size w w' ∧ Pr a gp gq size ap aq w' := by
  have H := Lib.hid h
  obtain ⟨P, Q, rfl, h2, h3, h4, h5, h6, h7, h8⟩ := h
  refine (Get_rg h3 hl i x hi hx).mono ?_
  rintro e w' ⟨v, rfl, ho, hb⟩
  exact ⟨v, rfl, ho, hb, H.out.on hb⟩

theorem Get_q (h : Pr a gp gq size ap aq w) (hl : aq.length ≤ 1000000) (i : Nat) (x : Slot × Int) (hi : tl aq ≤ i) (hx : aq[i]? = some x) : Calls Try.prog 38 #[ptr gq, .int .i64 i] w fun e w' => ∃ v, e = .returned (.tuple #[slotV x.1 v, .int .i64 0]) ∧ Own w' w.heap.size 5 v x.1.d ∧ Below w.heap.size w w' ∧ Pr a gp gq size ap aq w' := by
  have H := Lib.hid h
  obtain ⟨P, Q, h1', rfl, h3, h4, h5, h6, h7, h8⟩ := h
  refine (RingRef.Get_ok h4 hl i x hi hx).mono ?_
  rintro e w' ⟨v, rfl, ho, hb⟩
  exact ⟨v, rfl, ho, hb, H.out.on hb⟩

theorem Find_p (h : Pr a gp gq size ap aq w) (hl : ap.length ≤ 1000000) (lba : Int) : Calls Try.prog 30 #[ptr gp, .int .i64 lba] w fun e w' => RingRef.Found (find ap lba) e ∧ Below w.heap.size w w' ∧ Pr a gp gq size ap aq w' := by
  have H := Lib.hid h
  obtain ⟨P, Q, rfl, h2, h3, h4, h5, h6, h7, h8⟩ := h
  refine (Find_rg h3 hl lba).mono ?_
  rintro e w' ⟨he, hb⟩
  exact ⟨he, hb, H.out.on hb⟩

theorem Find_q (h : Pr a gp gq size ap aq w) (hl : aq.length ≤ 1000000) (lba : Int) : Calls Try.prog 39 #[ptr gq, .int .i64 lba] w fun e w' => RingRef.Found (find aq lba) e ∧ w = w' := by
  obtain ⟨P, Q, h1', rfl, h3, h4, h5, h6, h7, h8⟩ := h
  exact RingRef.Find_any h4 hl lba
end
end Go.Proofs.Ytecmmihobojjpaa.RingLaw
