/-
  The program's map and the document's, side by side: what each call does to the pair; the laws' 'both' of layer 11.
-/
import Derived.Test.YtpheblblkkclbaaL2pKit
import Derived.Test.YtpheblblkkclbaaL2pRefD
namespace Go.Proofs.Ytpheblblkkclbaa.L2pLaw
open Go.RowKit L2p L2pPkg
open Nand (Shape)
open L2pRef (Rf Pr)
set_option maxRecDepth 4000

/-- The program's map at block gd keeps sp, the document's at block rr keeps sq; all their memory is newer than a, and apart; of a nothing has turned; beside them stand the blocks sd. -/
def Two (G : Shape) (n : Nat) (a : World) (gd rr : Nat) (sp sq : St) (sd : List (Nat × Obj)) (w : World) : Prop :=
  ∃ (P : Pl) (Q : Pr), P.g = gd ∧ Q.r = rr ∧ Mp G n w P sp ∧ Rf G n w Q sq ∧ (∀ b, Q.own b → ¬ P.own n G.N.toNat b) ∧ (∀ b, P.own n G.N.toNat b → a.heap.size ≤ b) ∧ (∀ b, Q.own b → a.heap.size ≤ b) ∧ Below a.heap.size a w ∧ ∀ q ∈ sd, (¬ P.own n G.N.toNat q.1 ∧ ¬ Q.own q.1) ∧ w.heap[q.1]? = some q.2

section
variable {G : Shape} {n : Nat} {a w w' : World} {gd rr : Nat} {sp sq : St} {sd : List (Nat × Obj)}

theorem Two.below (h : Two G n a gd rr sp sq sd w) : Below a.heap.size a w := by
  obtain ⟨P, Q, _, _, _, _, _, _, _, h, _⟩ := h
  exact h

theorem Two.inv (h : Two G n a gd rr sp sq sd w) : Inv sp n G.N := by
  obtain ⟨P, Q, _, _, h, _⟩ := h
  exact h.inv

theorem Two.on (h : Two G n a gd rr sp sq sd w) (hb : Below w.heap.size w w') : Two G n a gd rr sp sq sd w' := by
  obtain ⟨P, Q, h1, h2, h3, h4, h5, h6, h7, h8, h9⟩ := h
  exact ⟨P, Q, h1, h2, h3.below hb, h4.below hb, h5, h6, h7, below_then h8 hb, fun q hq => ⟨(h9 q hq).1, (hb.block _ (Array.getElem?_eq_some_iff.1 (h9 q hq).2).1).trans (h9 q hq).2⟩⟩

theorem side_one {w w' : World} {O O' : Nat → Prop} {b : Nat} {o : Obj} (h1 : ¬ O b) (h2 : w.heap[b]? = some o) (ht : Turn O O' w w') : ¬ O' b ∧ w'.heap[b]? = some o := by
  have hl := (Array.getElem?_eq_some_iff.1 h2).1
  exact ⟨fun ho => (ht.own _ ho).elim h1 (fun hs => by omega), (ht.block _ hl h1).trans h2⟩

/-- A block, that is neither's own, stands beside them. -/
theorem Two.new (h : Two G n a gd rr sp sq sd w) (cs : Array Value) (t : TypeId) : Two G n a gd rr sp sq ((w.heap.size, .cells cs t (0, 0)) :: sd) (w.alloc (.cells cs t (0, 0))) := by
  have hb : Below w.heap.size w (w.alloc (.cells cs t (0, 0))) := (Below.refl _ _).alloc (Nat.le_refl _) _
  obtain ⟨P, Q, h1, h2, h3, h4, h5, h6, h7, h8, h9⟩ := h
  refine ⟨P, Q, h1, h2, h3.below hb, h4.below hb, h5, h6, h7, below_then h8 hb, fun q hq => ?_⟩
  rcases List.mem_cons.1 hq with rfl | hq
  · exact ⟨⟨fun ho => by have := h3.lt _ ho; omega, fun ho => by have := h4.lt _ ho; omega⟩, heap_alloc_new w _⟩
  · exact ⟨(h9 q hq).1, (hb.block _ (Array.getElem?_eq_some_iff.1 (h9 q hq).2).1).trans (h9 q hq).2⟩

theorem Two.at (h : Two G n a gd rr sp sq sd w) {b : Nat} {o : Obj} (hq : (b, o) ∈ sd) : w.heap[b]? = some o := by
  obtain ⟨P, Q, _, _, _, _, _, _, _, _, h⟩ := h
  exact (h _ hq).2

theorem Two.drop (h : Two G n a gd rr sp sq sd w) : Two G n a gd rr sp sq [] w := by
  obtain ⟨P, Q, h1, h2, h3, h4, h5, h6, h7, h8, _⟩ := h
  exact ⟨P, Q, h1, h2, h3, h4, h5, h6, h7, h8, fun q hq => absurd hq (by simp)⟩

theorem Set1 (hG : G.Ok) (h : Two G n a gd rr sp sq sd w) (lba : Int) (e : Ent) :
    Calls Try.prog 19 #[ptr gd 0, .int .i64 lba, entV e] w fun x w' => x = .returned (setV (setDo sp n G.N lba e) (setOk sp n G.N lba e)) ∧ Two G n a gd rr (setSt sp n G.N lba e) sq sd w' := by
  obtain ⟨P, Q, rfl, rfl, h3, h4, h5, h6, h7, h8, h9⟩ := h
  refine (Set_any h3 hG.n1 lba e).mono ?_
  rintro x w' ⟨rfl, P', hg, hr, ht⟩
  exact ⟨rfl, P', Q, hg, rfl, hr, h4.turn ht h5, ht.apart h4.lt h5, ht.up h6 h8.size, h7, below_turn h8 ht h6 h8.size, fun q hq => ⟨⟨(side_one (h9 q hq).1.1 (h9 q hq).2 ht).1, (h9 q hq).1.2⟩, (side_one (h9 q hq).1.1 (h9 q hq).2 ht).2⟩⟩

theorem Set2 (hG : G.Ok) (h : Two G n a gd rr sp sq sd w) (lba : Int) (e : Ent) :
    Calls Try.prog 40 #[ptr rr 0, .int .i64 lba, entV e] w fun x w' => x = .returned (setV (setDo sq n G.N lba e) (setOk sq n G.N lba e)) ∧ Two G n a gd rr sp (setSt sq n G.N lba e) sd w' := by
  obtain ⟨P, Q, rfl, rfl, h3, h4, h5, h6, h7, h8, h9⟩ := h
  refine (L2pRef.Set_any hG h4 lba e).mono ?_
  rintro x w' ⟨rfl, hr, ht⟩
  exact ⟨rfl, P, Q, rfl, rfl, h3.turn ht (fun b hb hq => h5 b hq hb), hr, h5, h6, h7, below_turn h8 ht h7 h8.size, fun q hq => ⟨(h9 q hq).1, (side_one (h9 q hq).1.2 (h9 q hq).2 ht).2⟩⟩

theorem Move1 (hG : G.Ok) (h : Two G n a gd rr sp sq sd w) (lba fr to : Int) :
    Calls Try.prog 20 #[ptr gd 0, .int .i64 lba, .int .i64 fr, .int .i64 to] w fun x w' => x = .returned (setV (moveDo sp n G.N lba fr to) (moveOk sp n G.N lba to)) ∧ Two G n a gd rr (moveSt sp n G.N lba fr to) sq sd w' := by
  obtain ⟨P, Q, rfl, rfl, h3, h4, h5, h6, h7, h8, h9⟩ := h
  refine (Move_any h3 hG.n1 lba fr to).mono ?_
  rintro x w' ⟨rfl, P', hg, hr, ht⟩
  exact ⟨rfl, P', Q, hg, rfl, hr, h4.turn ht h5, ht.apart h4.lt h5, ht.up h6 h8.size, h7, below_turn h8 ht h6 h8.size, fun q hq => ⟨⟨(side_one (h9 q hq).1.1 (h9 q hq).2 ht).1, (h9 q hq).1.2⟩, (side_one (h9 q hq).1.1 (h9 q hq).2 ht).2⟩⟩

theorem Move2 (hG : G.Ok) (h : Two G n a gd rr sp sq sd w) (lba fr to : Int) :
    Calls Try.prog 41 #[ptr rr 0, .int .i64 lba, .int .i64 fr, .int .i64 to] w fun x w' => x = .returned (setV (moveDo sq n G.N lba fr to) (moveOk sq n G.N lba to)) ∧ Two G n a gd rr sp (moveSt sq n G.N lba fr to) sd w' := by
  obtain ⟨P, Q, rfl, rfl, h3, h4, h5, h6, h7, h8, h9⟩ := h
  refine (L2pRef.Move_any hG h4 lba fr to).mono ?_
  rintro x w' ⟨rfl, hr, ht⟩
  exact ⟨rfl, P, Q, rfl, rfl, h3.turn ht (fun b hb hq => h5 b hq hb), hr, h5, h6, h7, below_turn h8 ht h7 h8.size, fun q hq => ⟨(h9 q hq).1, (side_one (h9 q hq).1.2 (h9 q hq).2 ht).2⟩⟩

theorem Get1 (h : Two G n a gd rr sp sq sd w) (lba : Int) :
    Calls Try.prog 11 #[ptr gd 0, .int .i64 lba] w fun x w' => x = .returned (.tuple #[entV (getE sp n lba), .int .i64 (getK n lba)]) ∧ Two G n a gd rr sp sq sd w' ∧ Below w.heap.size w w' := by
  have H := h
  obtain ⟨P, Q, rfl, rfl, h3, _⟩ := h
  exact (Get_any h3 lba).mono fun x w' hh => ⟨hh.1, H.on hh.2, hh.2⟩

theorem Get2 (h : Two G n a gd rr sp sq sd w) (lba : Int) :
    Calls Try.prog 12 #[ptr rr 0, .int .i64 lba] w fun x w' => x = .returned (.tuple #[entV (getE sq n lba), .int .i64 (getK n lba)]) ∧ Two G n a gd rr sp sq sd w' ∧ Below w.heap.size w w' := by
  have H := h
  obtain ⟨P, Q, rfl, rfl, _, h4, _⟩ := h
  exact (L2pRef.Get_any h4 lba).mono fun x w' hh => ⟨hh.1, H.on hh.2, hh.2⟩

theorem Live1 (hG : G.Ok) (h : Two G n a gd rr sp sq sd w) (x : Int) :
    Calls Try.prog 21 #[ptr gd 0, .int .i64 x] w fun e w' => e = .returned (liveV (liveAt sp n G.N x)) ∧ Two G n a gd rr sp sq sd w' := by
  have H := h
  obtain ⟨P, Q, rfl, rfl, h3, _⟩ := h
  exact (Live_any h3 hG.n1 x).mono fun x w' hh => ⟨hh.1, by rw [hh.2]; exact H⟩

theorem Live2 (h : Two G n a gd rr sp sq sd w) (x : Int) :
    Calls Try.prog 42 #[ptr rr 0, .int .i64 x] w fun e w' => e = .returned (liveV (liveAt sq n G.N x)) ∧ Two G n a gd rr sp sq sd w' := by
  have H := h
  obtain ⟨P, Q, rfl, rfl, _, h4, _⟩ := h
  exact (L2pRef.Live_any h4 x).mono fun x w' hh => ⟨hh.1, by rw [hh.2]; exact H⟩

theorem Many1 (h : Two G n a gd rr sp sq sd w) :
    Calls Try.prog 13 #[ptr gd 0] w fun x w' => x = .returned (.int .i64 (many sp n)) ∧ Two G n a gd rr sp sq sd w' ∧ Below w.heap.size w w' := by
  have H := h
  obtain ⟨P, Q, rfl, rfl, h3, _⟩ := h
  exact (Many_any h3).mono fun x w' hh => ⟨hh.1, H.on hh.2, hh.2⟩

theorem Many2 (h : Two G n a gd rr sp sq sd w) :
    Calls Try.prog 17 #[ptr rr 0] w fun x w' => x = .returned (.int .i64 (many sq n)) ∧ Two G n a gd rr sp sq sd w' ∧ Below w.heap.size w w' := by
  have H := h
  obtain ⟨P, Q, rfl, rfl, _, h4, _⟩ := h
  exact (L2pRef.Many_any h4).mono fun x w' hh => ⟨hh.1, by rw [hh.2]; exact H, by rw [hh.2]; exact Below.refl _ _⟩

theorem Valid1 (hG : G.Ok) (h : Two G n a gd rr sp sq sd w) (line : Int) :
    Calls Try.prog 26 #[ptr gd 0, .int .i64 line] w fun x w' => x = .returned (.int .i64 (validAt sp n G line)) ∧ Two G n a gd rr sp sq sd w' ∧ Below w.heap.size w w' := by
  have H := h
  obtain ⟨P, Q, rfl, rfl, h3, _⟩ := h
  exact (Valid_any hG h3 line).mono fun x w' hh => ⟨hh.1, H.on hh.2, hh.2⟩

theorem Valid2 (hG : G.Ok) (h : Two G n a gd rr sp sq sd w) (line : Int) :
    Calls Try.prog 43 #[ptr rr 0, .int .i64 line] w fun x w' => x = .returned (.int .i64 (validAt sq n G line)) ∧ Two G n a gd rr sp sq sd w' ∧ Below w.heap.size w w' := by
  have H := h
  obtain ⟨P, Q, rfl, rfl, _, h4, _⟩ := h
  exact (L2pRef.Valid_any hG h4 line).mono fun x w' hh => ⟨hh.1, H.on hh.2, hh.2⟩

theorem Bits1 (hG : G.Ok) (h : Two G n a gd rr sp sq sd w) (line : Int) :
    Calls Try.prog 14 #[ptr gd 0, .int .i64 line] w fun x w' => ∃ A c, x = .returned (.slice A (bitsAt sp n G line).length c) ∧ Bytes w' w'.heap.size A (bitsAt sp n G line).length (bitsAt sp n G line) ∧ Two G n a gd rr sp sq sd w' ∧ Below w.heap.size w w' := by
  have H := h
  obtain ⟨P, Q, rfl, rfl, h3, _⟩ := h
  refine (Bits_any hG h3 line).mono ?_
  rintro x w' ⟨v, rfl, ho, hb⟩
  obtain ⟨A, c, hv, hr⟩ := ho.reads
  exact ⟨A, c, by rw [hv], hr, H.on hb, hb⟩

theorem Bits2 (hG : G.Ok) (h : Two G n a gd rr sp sq sd w) (line : Int) :
    Calls Try.prog 15 #[ptr rr 0, .int .i64 line] w fun x w' => ∃ A c, x = .returned (.slice A (bitsAt sq n G line).length c) ∧ Bytes w' w'.heap.size A (bitsAt sq n G line).length (bitsAt sq n G line) ∧ Two G n a gd rr sp sq sd w' ∧ Below w.heap.size w w' := by
  have H := h
  obtain ⟨P, Q, rfl, rfl, _, h4, _⟩ := h
  refine (L2pRef.Bits_any hG h4 line).mono ?_
  rintro x w' ⟨v, rfl, ho, hb⟩
  obtain ⟨A, c, hv, hr⟩ := ho.reads
  exact ⟨A, c, by rw [hv], hr, H.on hb, hb⟩
end

theorem both_no (c l k p s num : Int) (h : ¬ Geom.ok c l k p s ∨ ∃ G : Shape, G.Ok ∧ G.c = c ∧ G.l = l ∧ G.k = k ∧ G.p = p ∧ G.s = s ∧ ¬ (1 ≤ num ∧ num ≤ 4096 ∧ num ≤ G.N)) (w : World) :
    Calls Try.prog 10 #[.agg #[.int .i64 c, .int .i64 l, .int .i64 k, .int .i64 p, .int .i64 s], .int .i64 num] w fun e w' => e = .returned (.tuple #[.pointer none, .pointer none, .bool true]) ∧ Below w.heap.size w w' := by
  have H1 : Hid (∀ w, Calls Try.prog 18 #[.agg #[.int .i64 c, .int .i64 l, .int .i64 k, .int .i64 p, .int .i64 s], .int .i64 num] w fun e w' => e = .returned (.tuple #[.pointer none, .int .i64 1]) ∧ Below w.heap.size w w') := Lib.hid (by
    rcases h with h | ⟨G, hG, rfl, rfl, rfl, rfl, rfl, hn⟩
    · exact fun w => New_geo c l k p s h num w
    · exact fun w => New_num hG num hn w)
  have H2 : Hid (∀ w, Calls Try.prog 28 #[.agg #[.int .i64 c, .int .i64 l, .int .i64 k, .int .i64 p, .int .i64 s], .int .i64 num] w fun e w' => e = .returned (.tuple #[.pointer none, .int .i64 1]) ∧ Below w.heap.size w w') := Lib.hid (by
    rcases h with h | ⟨G, hG, rfl, rfl, rfl, rfl, rfl, hn⟩
    · exact fun w => L2pRef.New_geo c l k p s h num w
    · exact fun w => L2pRef.New_num hG num hn w)
  have HG := Lib.hid (geo_new w 23 c l k p s)
  have HB := Lib.hid ((Below.refl w.heap.size w).alloc (Nat.le_refl _) (.cells #[.int .i64 c, .int .i64 l, .int .i64 k, .int .i64 p, .int .i64 s] 23))
  clear h
  go_enter Try.func10, Try.ntmps10
  obtain ⟨k0, k1, k2, k3, k4⟩ := HG.out
  go_wp2_with fail
  refine (H1.out _).mono ?_
  rintro e w2 ⟨rfl, hb⟩
  obtain ⟨k0, k1, k2, k3, k4⟩ := geo_keep HG.out hb
  replace HB := Lib.hid (below_then HB.out hb)
  clear hb
  go_wp2_with fail
  refine (H2.out _).mono ?_
  rintro e w3 ⟨rfl, hb⟩
  replace HB := Lib.hid (below_then HB.out hb)
  clear hb
  go_wp2
  go_ret3
  exact ⟨rfl, HB.out⟩

theorem both_yes {G : Shape} (hG : G.Ok) (n : Nat) (h0 : 1 ≤ n) (h1 : n ≤ 4096) (h2 : (n : Int) ≤ G.N) (a w : World) (hb0 : Below a.heap.size a w) :
    Calls Try.prog 10 #[geoV G, .int .i64 (n : Int)] w fun e w' => ∃ gd rr, e = .returned (.tuple #[ptr gd 0, ptr rr 0, .bool true]) ∧ Two G n a gd rr (fun _ => off) (fun _ => off) [] w' := by
  have HG := Lib.hid (geo_new w 23 G.c G.l G.k G.p G.s)
  have HB := Lib.hid ((Below.refl w.heap.size w).alloc (Nat.le_refl _) (.cells #[.int .i64 G.c, .int .i64 G.l, .int .i64 G.k, .int .i64 G.p, .int .i64 G.s] 23))
  have H1 := Lib.hid (fun w => New_ok hG n h0 h1 h2 w)
  have H2 := Lib.hid (fun w => L2pRef.New_ok hG n h0 h1 h2 w)
  have HB0 := Lib.hid hb0
  clear hG hb0 h2
  go_enter Try.func10, Try.ntmps10
  unfold geoV
  obtain ⟨k0, k1, k2, k3, k4⟩ := HG.out
  go_wp2_with fail
  refine (H1.out _).mono ?_
  rintro e w2 ⟨⟨P, rfl, hm, hup⟩, hb⟩
  obtain ⟨k0, k1, k2, k3, k4⟩ := geo_keep HG.out hb
  have HUP := Lib.hid (show ∀ b, P.own n G.N.toNat b → w.heap.size ≤ b from fun b hb2 => Nat.le_trans HB.out.size (hup b hb2))
  replace HB := Lib.hid (below_then HB.out hb)
  have HM := Lib.hid hm
  clear hb hm hup
  go_wp2_with fail
  refine (H2.out _).mono ?_
  rintro e w3 ⟨⟨Q, rfl, hq, hup⟩, hb⟩
  have HQ := Lib.hid (show ∀ b, Q.own b → w2.heap.size ≤ b from hup)
  have HM2 := Lib.hid (HM.out.below hb)
  have HR := Lib.hid hq
  have HB2 := Lib.hid (below_then HB.out hb)
  clear hb hq hup
  go_wp2
  go_ret3
  exact ⟨P.g, Q.r, rfl, P, Q, rfl, rfl, HM2.out, HR.out, fun b hb hp => by have := HM.out.lt b hp; have := HQ.out b hb; omega, fun b hb => Nat.le_trans HB0.out.size (HUP.out b hb), fun b hb => Nat.le_trans HB0.out.size (Nat.le_trans HB.out.size (HQ.out b hb)), below_then HB0.out HB2.out, fun q hq => absurd hq (by simp)⟩

end Go.Proofs.Ytpheblblkkclbaa.L2pLaw
