/- awake. -/
import Derived.Test.YtcmmkeadbedooaaQ
namespace Go.Proofs.Ytcmmkeadbedooaa
open Go.RowKit Go.Lib

theorem exs : sum0 [7, 2, 0, 1, 2] = 2700784496 := by decide +kernel
def ex3 : List Sect := [[2, 1, 0, 0, 7, 2, 0, 1], [2, 1, 0, 0, 2, 112, 179, 250], [2, 1, 0, 0, 160, 0, 0, 0]]
theorem exe : encS 7 258 [1, 2] = .ok ex3 := by
  have h : encR 7 258 [1, 2] = ex3 := by decide +kernel
  unfold encS
  rw [if_neg (by decide), if_neg (by decide)]
  exact congrArg _ h
theorem exd : dR ex3 = .ok ((7, 258, [1, 2]), 3) := by
  have h := dR_enc0 (k := 7) (q := 258) (p := [1, 2]) (by unfold B8; decide) (by decide) (by decide) (by decide) (by decide) (by decide)
  have h1 : encR 7 258 [1, 2] = ex3 := by decide +kernel
  rw [h1] at h
  exact h
theorem ex3_secs : Secs ex3 := by unfold Secs ex3 B8; decide
theorem sec_of_own {w : World} {base : Nat} {v : Value} {l : List Sect} (h : w.ownsRow base 52 8 v l.length (l.map cSec).flatten) (hl : Secs l) : Sec w v l := by
  refine ⟨hl, ?_⟩
  have h' : w.ownsRow base 52 8 v (l.map cSec).length (l.map cSec).flatten := by rw [List.length_map]; exact h
  exact arr_of_own h' rfl (fun r hr => by
    obtain ⟨s, hs, rfl⟩ := List.mem_map.1 hr
    unfold cSec
    rw [List.length_map]
    exact (hl s hs).1)
theorem enc_li {w w' : World} {r : Except Int (List Sect)} {e : Ending} {l : List Sect} (h : EncQ w r e w') (hr : r = .ok l) : ∃ v, e = .returned (.tuple #[v, .int .i64 0]) ∧ Below w.heap.size w w' ∧ Secs l ∧ w'.ownsRow w.heap.size 52 8 v l.length (l.map cSec).flatten := by
  subst hr
  obtain ⟨hb, ⟨l', v, h1, rfl, hs, ho⟩ | ⟨er, h1, _⟩⟩ := h
  · cases h1; exact ⟨v, rfl, hb, hs, ho⟩
  · cases h1
theorem dec_ok {w w' : World} {l : List Sect} {e : Ending} {r : Rc} {n : Nat} (h : DecQ w l e w') (hr : dR l = .ok (r, n)) : ∃ pA pc, e = .returned (.tuple #[.agg #[.int .i64 (r.1 : Nat), .int .i64 (r.2.1 : Nat), .slice pA r.2.2.length pc], .int .i64 (n : Nat), .int .i64 0]) ∧ Below w.heap.size w w' ∧ B8 r.2.2 ∧ w'.ownsRow w.heap.size 5 1 (.slice pA r.2.2.length pc) r.2.2.length (r.2.2.map byteV) := by
  obtain ⟨hb, ⟨r', n', pv, h1, rfl, ho, h8⟩ | ⟨er, h1, _⟩⟩ := h
  · rw [hr] at h1; cases h1
    obtain ⟨A, c, rfl⟩ := own_form ho
    exact ⟨A, c, rfl, hb, h8, ho⟩
  · rw [hr] at h1; cases h1
theorem dec_er {w w' : World} {l : List Sect} {e : Ending} {er : Int} (h : DecQ w l e w') (hr : dR l = .error er) : e = .returned (.tuple #[.agg #[.int .i64 0, .int .i64 0, .slice none 0 0], .int .i64 0, .int .i64 er]) ∧ Below w.heap.size w w' := by
  obtain ⟨hb, ⟨r', n', pv, h1, _⟩ | ⟨er', h1, rfl⟩⟩ := h
  · rw [hr] at h1; cases h1
  · rw [hr] at h1; cases h1; exact ⟨rfl, hb⟩
theorem byt_lit (w : World) (l : List Nat) (h8 : B8 l) (hl : l.length ≤ maxLen) : Byt (w.alloc (.cells (l.map fun (x : Nat) => Value.int .u8 (x : Int)).toArray 5)) (.slice (some ⟨w.heap.size, 0, none⟩) l.length l.length) l := byt_new w l (0, 0) h8 hl

set_option maxHeartbeats 4000000 in
set_option maxRecDepth 100000 in
theorem awake_any (w : World) : Calls Try.prog 11 #[] w fun e w' => e = .returned (.bool true) ∧ Below w.heap.size w w' := by
  have hv0 : Byt (w.alloc (.cells #[.int .u8 1, .int .u8 2] 5)) (.slice (some ⟨w.heap.size, 0, none⟩) 2 2) [1, 2] := byt_lit w [1, 2] (by unfold B8; decide) (by unfold maxLen; decide)
  obtain ⟨W0, hW0⟩ : ∃ W0, w.alloc (.cells #[.int .u8 1, .int .u8 2] 5) = W0 := ⟨_, rfl⟩
  rw [hW0] at hv0
  obtain ⟨W1, hW1⟩ : ∃ W1, W0.alloc (.cells #[.int .i64 7, .int .i64 258, .slice (some ⟨w.heap.size, 0, none⟩) 2 2] 27) = W1 := ⟨_, rfl⟩
  have hb0 : Below w.heap.size w W0 := by rw [← hW0]; exact al1 _ _
  have hb1 : Below W0.heap.size W0 W1 := by rw [← hW1]; exact al1 _ _
  have hx1 : W1.heap[W0.heap.size]? = some (.cells #[.int .i64 7, .int .i64 258, .slice (some ⟨w.heap.size, 0, none⟩) 2 2] 27) := by rw [← hW1]; exact heap_alloc_new _ _
  have hs0 : W0.heap.size = w.heap.size + 1 := by rw [← hW0]; simp
  rw [hs0] at hx1
  have p0 : W1.cell? ⟨w.heap.size + 1, 0, none⟩ = some (.int .i64 7) := cell_of_row _ _ 0 _ _ _ hx1
  have p1 : W1.cell? ⟨w.heap.size + 1, 1, none⟩ = some (.int .i64 258) := cell_of_row _ _ 1 _ _ _ hx1
  have p2 : W1.cell? ⟨w.heap.size + 1, 2, none⟩ = some (.slice (some ⟨w.heap.size, 0, none⟩) 2 2) := cell_of_row _ _ 2 _ _ _ hx1
  have HV1 := hid (hv0.below hb1)
  have HX1 := hid hx1
  have HB1 := hid (hb0.trans (hb1.mono hb0.size))
  have HEN := hid (encode_any 7 258 [1, 2] _ W1 HV1.out (by decide) (by decide))
  have HWs := hid (show W1 = W1 from rfl)
  subst hW0
  subst hW1
  clear hv0 hb0 hb1 hx1 hs0
  go_enter Try.func11, Try.ntmps11
  go_wp2_with fail
  refine HEN.out.mono ?_
  rintro e w2 h
  obtain ⟨v2, rfl, hb2, hs2, ho2⟩ := enc_li h exe
  obtain ⟨b2, o2, c2, rfl, _, _, hbl2, hsc⟩ := sec_at (sec_of_own ho2 hs2) (by unfold ex3; simp)
  have HSC := hid hsc
  have HBL := hid hbl2
  have HB2 := hid (HB1.out.trans (hb2.mono HB1.out.size))
  have HX2 := hid ((hb2.block (w.heap.size + 1) (box_lt HX1.out)).trans HX1.out)
  have HV2 := hid (HV1.out.below hb2)
  have HS2 := hid (sec_of_own ho2 hs2)
  have HSUM := hid (sum_any [7, 2, 0, 1, 2] _ _ (byt_lit w2 [7, 2, 0, 1, 2] (by unfold B8; decide) (by unfold maxLen; decide)))
  rw [exs] at HSUM
  clear h hb2 hs2 ho2 hsc hbl2 HEN HB1 HX1 HV1 p0 p1 p2 HWs
  go_wp2_with fail
  refine HSUM.out.mono ?_
  rintro e w3 ⟨rfl, hb3⟩
  have hb23 : Below w2.heap.size w2 w3 := al_back hb3
  have HB3 := hid (HB2.out.trans (hb23.mono HB2.out.size))
  have HX3 := hid ((hb23.block (w.heap.size + 1) (box_lt HX2.out)).trans HX2.out)
  have HV3 := hid (HV2.out.below hb23)
  have HS3 := hid (HS2.out.below hb23)
  have hcs := fun (i : Nat) (s : List Nat) (h : ex3[i]? = some s) => (HSC.out i s h).below HBL.out hb23
  have p00 : w3.cell? ⟨b2, o2, none⟩ = some (.int .u8 2) := hcs 0 _ rfl 0 _ rfl
  have p01 : w3.cell? ⟨b2, o2 + 1, none⟩ = some (.int .u8 1) := hcs 0 _ rfl 1 _ rfl
  have p02 : w3.cell? ⟨b2, o2 + 2, none⟩ = some (.int .u8 0) := hcs 0 _ rfl 2 _ rfl
  have p03 : w3.cell? ⟨b2, o2 + 3, none⟩ = some (.int .u8 0) := hcs 0 _ rfl 3 _ rfl
  have p04 : w3.cell? ⟨b2, o2 + 4, none⟩ = some (.int .u8 7) := hcs 0 _ rfl 4 _ rfl
  have p05 : w3.cell? ⟨b2, o2 + 5, none⟩ = some (.int .u8 2) := hcs 0 _ rfl 5 _ rfl
  have p06 : w3.cell? ⟨b2, o2 + 6, none⟩ = some (.int .u8 0) := hcs 0 _ rfl 6 _ rfl
  have p07 : w3.cell? ⟨b2, o2 + 7, none⟩ = some (.int .u8 1) := hcs 0 _ rfl 7 _ rfl
  have p10 : w3.cell? ⟨b2, o2 + 8, none⟩ = some (.int .u8 2) := hcs 1 _ rfl 0 _ rfl
  have p11 : w3.cell? ⟨b2, o2 + 8 + 1, none⟩ = some (.int .u8 1) := hcs 1 _ rfl 1 _ rfl
  have p12 : w3.cell? ⟨b2, o2 + 8 + 2, none⟩ = some (.int .u8 0) := hcs 1 _ rfl 2 _ rfl
  have p13 : w3.cell? ⟨b2, o2 + 8 + 3, none⟩ = some (.int .u8 0) := hcs 1 _ rfl 3 _ rfl
  have p14 : w3.cell? ⟨b2, o2 + 8 + 4, none⟩ = some (.int .u8 2) := hcs 1 _ rfl 4 _ rfl
  have p15 : w3.cell? ⟨b2, o2 + 8 + 5, none⟩ = some (.int .u8 112) := hcs 1 _ rfl 5 _ rfl
  have p16 : w3.cell? ⟨b2, o2 + 8 + 6, none⟩ = some (.int .u8 179) := hcs 1 _ rfl 6 _ rfl
  have p17 : w3.cell? ⟨b2, o2 + 8 + 7, none⟩ = some (.int .u8 250) := hcs 1 _ rfl 7 _ rfl
  have p20 : w3.cell? ⟨b2, o2 + 16, none⟩ = some (.int .u8 2) := hcs 2 _ rfl 0 _ rfl
  have p21 : w3.cell? ⟨b2, o2 + 16 + 1, none⟩ = some (.int .u8 1) := hcs 2 _ rfl 1 _ rfl
  have p22 : w3.cell? ⟨b2, o2 + 16 + 2, none⟩ = some (.int .u8 0) := hcs 2 _ rfl 2 _ rfl
  have p23 : w3.cell? ⟨b2, o2 + 16 + 3, none⟩ = some (.int .u8 0) := hcs 2 _ rfl 3 _ rfl
  have p24 : w3.cell? ⟨b2, o2 + 16 + 4, none⟩ = some (.int .u8 160) := hcs 2 _ rfl 4 _ rfl
  have p25 : w3.cell? ⟨b2, o2 + 16 + 5, none⟩ = some (.int .u8 0) := hcs 2 _ rfl 5 _ rfl
  have p26 : w3.cell? ⟨b2, o2 + 16 + 6, none⟩ = some (.int .u8 0) := hcs 2 _ rfl 6 _ rfl
  have p27 : w3.cell? ⟨b2, o2 + 16 + 7, none⟩ = some (.int .u8 0) := hcs 2 _ rfl 7 _ rfl
  clear hcs hb23 hb3 HSUM HB2 HX2 HV2 HS2 HSC HBL
  have e0 : ∀ W : World, (Op.equalIn 10000 52 (.agg #[.int .u8 2, .int .u8 1, .int .u8 0, .int .u8 0, .int .u8 7, .int .u8 2, .int .u8 0, .int .u8 1]) (.agg #[.int .u8 2, .int .u8 1, .int .u8 0, .int .u8 0, .int .u8 7, .int .u8 2, .int .u8 0, .int .u8 1])).run Try.prog W = .ok true W := fun W => (eql_sec [2, 1, 0, 0, 7, 2, 0, 1] [2, 1, 0, 0, 7, 2, 0, 1] rfl rfl (by unfold B8; decide) (by unfold B8; decide) W).trans (by rw [decide_eq_true rfl])
  have e1 : ∀ W : World, (Op.equalIn 10000 52 (.agg #[.int .u8 2, .int .u8 1, .int .u8 0, .int .u8 0, .int .u8 2, .int .u8 112, .int .u8 179, .int .u8 250]) (.agg #[.int .u8 2, .int .u8 1, .int .u8 0, .int .u8 0, .int .u8 2, .int .u8 112, .int .u8 179, .int .u8 250])).run Try.prog W = .ok true W := fun W => (eql_sec [2, 1, 0, 0, 2, 112, 179, 250] [2, 1, 0, 0, 2, 112, 179, 250] rfl rfl (by unfold B8; decide) (by unfold B8; decide) W).trans (by rw [decide_eq_true rfl])
  have e2 : ∀ W : World, (Op.equalIn 10000 52 (.agg #[.int .u8 2, .int .u8 1, .int .u8 0, .int .u8 0, .int .u8 160, .int .u8 0, .int .u8 0, .int .u8 0]) (.agg #[.int .u8 2, .int .u8 1, .int .u8 0, .int .u8 0, .int .u8 160, .int .u8 0, .int .u8 0, .int .u8 0])).run Try.prog W = .ok true W := fun W => (eql_sec [2, 1, 0, 0, 160, 0, 0, 0] [2, 1, 0, 0, 160, 0, 0, 0] rfl rfl (by unfold B8; decide) (by unfold B8; decide) W).trans (by rw [decide_eq_true rfl])
  go_wp2_with fail
  have HDE := hid (decode_any ex3 _ w3 HS3.out (by decide))
  clear e0 e1 e2
  clear p00 p01 p02 p03 p04 p05 p06 p07 p10 p11 p12 p13 p14 p15 p16 p17 p20 p21 p22 p23 p24 p25 p26 p27
  refine HDE.out.mono ?_
  rintro e w4 h
  obtain ⟨pA, pc, rfl, hb4, h84, ho4⟩ := dec_ok h exd
  have hv4 := byt_of_own ho4 h84
  obtain ⟨W5, hW5⟩ : ∃ W5, w4.alloc (.cells #[.int .i64 7, .int .i64 258, .slice pA 2 pc] 27) = W5 := ⟨_, rfl⟩
  have hb5 : Below w4.heap.size w4 W5 := by rw [← hW5]; exact al1 _ _
  have hx5 : W5.heap[w4.heap.size]? = some (.cells #[.int .i64 7, .int .i64 258, .slice pA 2 pc] 27) := by rw [← hW5]; exact heap_alloc_new _ _
  have hb35 : Below w3.heap.size w3 W5 := hb4.trans (hb5.mono hb4.size)
  have HV5 := hid (hv4.below hb5)
  have HU5 := hid (HV3.out.below hb35)
  have HB5 := hid (HB3.out.trans (hb35.mono HB3.out.size))
  have hy5 := (hb35.block (w.heap.size + 1) (box_lt HX3.out)).trans HX3.out
  have hsame := same_any 7 258 7 258 [1, 2] [1, 2] _ _ W5 HU5.out HV5.out
  rw [decide_eq_true (show (7 : Int) = 7 ∧ (258 : Int) = 258 ∧ ([1, 2] : List Nat) = [1, 2] from ⟨rfl, rfl, rfl⟩)] at hsame
  have HSAME := hid hsame
  have s0 : W5.cell? ⟨w4.heap.size, 0, none⟩ = some (.int .i64 7) := cell_of_row _ _ 0 _ _ _ hx5
  have s1 : W5.cell? ⟨w4.heap.size, 1, none⟩ = some (.int .i64 258) := cell_of_row _ _ 1 _ _ _ hx5
  have s2 : W5.cell? ⟨w4.heap.size, 2, none⟩ = some (.slice pA 2 pc) := cell_of_row _ _ 2 _ _ _ hx5
  have t0 : W5.cell? ⟨w.heap.size + 1, 0, none⟩ = some (.int .i64 7) := cell_of_row _ _ 0 _ _ _ hy5
  have t1 : W5.cell? ⟨w.heap.size + 1, 1, none⟩ = some (.int .i64 258) := cell_of_row _ _ 1 _ _ _ hy5
  have t2 : W5.cell? ⟨w.heap.size + 1, 2, none⟩ = some (.slice (some ⟨w.heap.size, 0, none⟩) 2 2) := cell_of_row _ _ 2 _ _ _ hy5
  subst hW5
  clear hsame h hb4 h84 ho4 hv4 hb5 hx5 hb35 hy5 HDE HB3 HX3 HV3 HS3
  go_wp2_with fail
  refine HSAME.out.mono ?_
  rintro e w6 ⟨rfl, hb6⟩
  have HB6 := hid (HB5.out.trans (hb6.mono HB5.out.size))
  clear hb6 HB5 HSAME s0 s1 s2 t0 t1 t2
  go_wp2_with fail
  refine (size_any 0 _).mono ?_
  rintro e w' ⟨rfl, rfl⟩
  rw [show szI 0 = 2 by decide]
  go_wp2_with fail
  refine (size_any 1 _).mono ?_
  rintro e w' ⟨rfl, rfl⟩
  rw [show szI 1 = 2 by decide]
  go_wp2_with fail
  refine (size_any 2 _).mono ?_
  rintro e w' ⟨rfl, rfl⟩
  rw [show szI 2 = 3 by decide]
  go_wp2_with fail
  refine (size_any 5 _).mono ?_
  rintro e w' ⟨rfl, rfl⟩
  rw [show szI 5 = 3 by decide]
  go_wp2_with fail
  refine (size_any 4096 _).mono ?_
  rintro e w' ⟨rfl, rfl⟩
  rw [show szI 4096 = 1026 by decide]
  go_wp2
  go_ret
  exact ⟨rfl, HB6.out⟩
end Go.Proofs.Ytcmmkeadbedooaa
