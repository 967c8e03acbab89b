/- The walk of ImageReads. -/
import Derived.Test.YtbcnikmhodkbfaaS
import Derived.Test.YtbcnikmhodkbfaaP
namespace Go.Proofs.Ytbcnikmhodkbfaa
open Go.RowKit Go.Lib

theorem sec_none0 (w : World) : Sec w (.slice none 0 0) [] := ⟨fun s hs => by simp at hs, arr_nil _ _⟩
/-- What a read answers, and what of it the law asks. -/
theorem readQ_use {w w' : World} {L : List (List Sect)} {v s m : Int} {e : Ending} (h : ReadQ w L v s m e w') : ∃ A n c, e = .returned (.tuple #[.slice A n c, .int .i64 (redE L v s m)]) ∧ Sec w' (.slice A n c) (if redE L v s m = 0 then redL L v s m else []) ∧ Below w.heap.size w w' := by
  obtain ⟨hb, ⟨h0, rfl⟩ | ⟨h0, r, rfl, hs, ho⟩⟩ := h
  · rw [if_neg h0]
    exact ⟨none, 0, 0, rfl, sec_none0 _, hb⟩
  · obtain ⟨A, c, rfl⟩ := ownAny_form ho
    rw [if_pos h0, h0]
    exact ⟨A, _, c, rfl, sec_of_own ho hs, hb⟩
set_option maxHeartbeats 4000000 in
set_option maxRecDepth 100000 in
theorem reads_any (xs : List Vol) (v : Value) (vo s m : Int) (w : World) (hv : Img w v xs) (hs : R64 s) :
    Calls Try.prog 5 #[v, .int .i64 vo, .agg #[.int .i64 s, .int .i64 m]] w fun e w' => e = .returned (.bool true) ∧ Below w.heap.size w w' := by
  have HAW := hid (fun W => awake_any W)
  obtain ⟨B, hB⟩ : ∃ B, w.alloc (.cells #[.int .i64 s, .int .i64 m] 51) = B := ⟨_, rfl⟩
  have hb : Below w.heap.size w B := by rw [← hB]; exact al1 _ _
  have hx := heap_alloc_new w (.cells #[.int .i64 s, .int .i64 m] 51)
  rw [hB] at hx
  have hz : w.heap.size < B.heap.size := box_lt hx
  have HF := hid (few_any xs v B (hv.below hb))
  have HV := hid (hv.below hb)
  obtain ⟨A, ca, rfl⟩ := img_form hv
  obtain ⟨n, hn⟩ : ∃ n, xs.length = n := ⟨_, rfl⟩
  have HN := hid hn
  rw [hn] at HF HV ⊢
  obtain ⟨q, hq⟩ : ∃ q, fewV (con xs) = q := ⟨_, rfl⟩
  rw [hq] at HF
  have HB := hid hb
  have c0 : B.cell? ⟨w.heap.size, 0, none⟩ = some (.int .i64 s) := cell_of_row _ _ 0 _ _ _ hx
  have c1 : B.cell? ⟨w.heap.size, 1, none⟩ = some (.int .i64 m) := cell_of_row _ _ 1 _ _ _ hx
  obtain ⟨g, hg⟩ : ∃ g, w.heap.size = g := ⟨_, rfl⟩
  have HW : Hid (g = w.heap.size) := hid hg.symm
  rw [hg] at c0 c1 hz
  rcases q with _ | _
  · clear hv hx hb hn hq
    go_enter Try.func5, Try.ntmps5
    rw [hg]
    go_wp2_with fail
    refine HF.out.mono ?_
    rintro e w1 ⟨rfl, rfl⟩
    go_wp2_with fail
    refine (HAW.out B).mono ?_
    rintro e w2 ⟨rfl, hb2⟩
    have HB2 := hid (below_both HB.out hb2)
    clear hb2
    go_wp2
    go_ret
    exact ⟨rfl, by rw [HW.out]; exact HB2.out⟩
  · have hn9 : n ≤ 9 := by
      unfold fewV at hq
      rw [con_len, hn, Bool.and_eq_true] at hq
      exact of_decide_eq_true hq.1
    have HR1 := hid (read_any xs (.slice A n ca) vo s m B (by rw [← hn] at HV ⊢; exact HV.out) (by omega) hs)
    have HR2 : Hid (∀ W, Below B.heap.size B W → Calls Try.prog 26 #[.slice A n ca, .int .i64 vo, .agg #[.int .i64 s, .int .i64 m]] W (ReadQ W (con xs) vo s m)) := hid (fun W hb => refRead_any xs (.slice A n ca) vo s m W (HV.out.below hb) (by omega) hs)
    clear hv hx hb hn hq
    go_enter Try.func5, Try.ntmps5
    rw [hg]
    go_wp2_with fail
    refine HF.out.mono ?_
    rintro e w1 ⟨rfl, rfl⟩
    go_wp2_with fail
    refine HR1.out.mono ?_
    rintro e w2 hq
    obtain ⟨A1, n1, k1, rfl, hs1, hb2⟩ := readQ_use hq
    have HS1 := hid hs1
    have HB2 := hid hb2
    have d0 := (hb2.cell (p := ⟨g, 0, none⟩) hz).trans c0
    have d1 := (hb2.cell (p := ⟨g, 1, none⟩) hz).trans c1
    have HR3 := hid (HR2.out w2 hb2)
    clear hq hs1 hb2 c0 c1 HR2 HR1
    go_wp2_with fail
    refine HR3.out.mono ?_
    rintro e w3 hq
    obtain ⟨A2, n2, k2, rfl, hs2, hb3⟩ := readQ_use hq
    have HE := hid (eqSecs_any _ _ _ _ w3 (HS1.out.below hb3).2 hs2.2 hs2.1 hs2.1)
    rw [decide_eq_true rfl] at HE
    have HB3 := hid (below_both (below_both HB.out HB2.out) hb3)
    clear hq hs2 hb3 d0 d1 HR3 HS1
    obtain ⟨r, hr⟩ : ∃ r, redE (con xs) vo s m = r := ⟨_, rfl⟩
    rw [hr]
    go_wp2_with fail
    refine HE.out.mono ?_
    intro e w4 hq
    obtain ⟨rfl, hb4⟩ := saysQ_B hq
    have HB4 := hid (below_both HB3.out hb4)
    clear hq hb4 hr
    go_wp2_with fail
    refine (HAW.out _).mono ?_
    rintro e w5 ⟨rfl, hb5⟩
    have HB5 := hid (below_both HB4.out hb5)
    clear hb5
    go_wp2
    go_ret
    exact ⟨rfl, by rw [HW.out]; exact HB5.out⟩
end Go.Proofs.Ytbcnikmhodkbfaa
