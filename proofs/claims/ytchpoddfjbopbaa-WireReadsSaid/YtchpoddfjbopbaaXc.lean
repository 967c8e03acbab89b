/- The reference's readers: Ints. -/
import Derived.Test.YtchpoddfjbopbaaXb
namespace Go.Proofs.Ytchpoddfjbopbaa
open Go.RowKit Go.Lib

theorem vbyt_keep {w w' : World} {v : Value} {l : List Nat} (hk : Keep 5 w w') (h : VByt w v l) : VByt w' v l := by
  obtain ⟨h8, base, ho⟩ := h
  exact ⟨h8, base, own_keep ho hk⟩

set_option maxHeartbeats 2000000 in
set_option maxRecDepth 100000 in
theorem rints (s : List Nat) (v : Value) (w : World) (hv : Byt w v s) (hn : NilOk v) (hl : s.length ≤ 90000) :
    Calls Try.prog 31 #[v] w (Red (dList dNum) (LV 3 1 crNum) (.slice none 0 0) w s) := by
  obtain ⟨i0, hi, hz0, hz1, hz2⟩ := info_parts info3
  have HP := hid (rlength s v w hv hn hl)
  have HEL := hid (fun (s' : List Nat) (v' : Value) (W : World) (hv : VByt W v' s') (hl : s'.length ≤ 90000) => rint s' v' W (vbyt_byt hv) (vbyt_nil hv) hl)
  obtain ⟨A, c, rfl⟩ := byt_form hv
  clear hv hn
  go_enter Try.func31, Try.ntmps31
  go_wp2_with fail
  refine HP.out.mono ?_
  rintro e w1 ⟨v1, r1, er, rfl, hb, h⟩
  rcases h with ⟨n, t, hd, rfl, rfl, hr⟩ | ⟨hd, he, rfl, rfl⟩
  · have htl : t.length ≤ 90000 := Nat.le_trans (shr_length _ _ _ hd) hl
    have hx := dLength_le hd
    have HD : Hid (dList dNum s = dMany dNum n t) := hid (dList_len hd)
    have HR := hid hr
    have HU := hid ((Upd.refl w.heap.size w).of_below hb)
    clear hd hr hl hb
    obtain ⟨a1, c1, rfl⟩ := byt_form (vbyt_byt HR.out)
    go_wp2_with fail
    go_loopw [0, 7, 8] (fun d v i wr => ∃ (k : Nat) (sk : List Nat) (xs : List Nat) (rows : List (List Value)), k ≤ n ∧ Hid (xs.length = k) ∧ sk.length ≤ 90000 ∧ i = .int .i64 (k : Int) ∧ Hid (VByt wr d sk) ∧ Hid (Upd w.heap.size w wr) ∧ Hid (wr.ownsRow w.heap.size 3 1 v k rows.flatten) ∧ Hid (RowsOf crNum wr rows xs) ∧ Hid (dMany dNum n t = app xs (dMany dNum (n - k) sk))) (fun _ _ i _ => n - (Lib.intOf i).toNat)
    case atStart => exact ⟨0, t, [], [], by omega, hid rfl, by omega, rfl, HR, HU, hid (World.ownsRow_nil _ _ _ _), hid (rowsOf_nil _ _), hid (app_nil _).symm⟩
    case round =>
      clear HR HU HP
      obtain ⟨k, sk, xs, rows, hk, HX, hskl, rfl, HV, HU, HO, HW, HM⟩ := hrel
      obtain ⟨av, cv, rfl⟩ := ownAny_form HO.out
      obtain ⟨ad, cd, rfl⟩ := byt_form (vbyt_byt HV.out)
      have hws := HU.out.low.size
      by_cases hkn : k < n
      · have HC := hid (HEL.out sk _ wr HV.out hskl)
        go_wp2_with fail
        refine HC.out.mono ?_
        rintro e w2 ⟨v2, r2, er2, rfl, hb2, h2⟩
        have HU2 := hid (HU.out.of_below hb2)
        have HO2 := hid (own_keep HO.out (keep_below hb2))
        have HW2 : Hid (RowsOf crNum w2 rows xs) := hid (rowsOf_keep (fun r x h => h) HW.out)
        have hw2 := HU2.out.low.size
        clear hb2
        rcases h2 with ⟨x, t2, hd, rfl, hvn, hr⟩ | ⟨hd, he, rfl, rfl⟩
        · have HM2 : Hid (dMany dNum n t = app (xs ++ [x]) (dMany dNum (n - (k + 1)) t2)) := hid (HM.out.trans (by have e := many_next (n := n - (k + 1)) hd xs; rwa [show n - (k + 1) + 1 = n - k by omega] at e))
          have htl2 : t2.length ≤ 90000 := Nat.le_trans (shr_num _ _ _ hd) hskl
          obtain rfl : v2 = .int .i64 (x : Int) := hvn
          have HO3 := hid (HO2.out.alloc (.cells #[.int .i64 (x : Int)] 3))
          have HR3 := hid (vbyt_below (al1 w2 (.cells #[.int .i64 (x : Int)] 3)) hr)
          have HU3 := hid (HU2.out.alloc (.cells #[.int .i64 (x : Int)] 3))
          have HBK := hid (CRz (cs := [.int .i64 (x : Int)]) (heap_alloc_new w2 (.cells #[.int .i64 (x : Int)] 3)))
          obtain ⟨a2, c2, rfl⟩ := byt_form (vbyt_byt hr)
          clear hd hr
          go_wp2_with (at_builtin; refine wpList_append_own _ rfl (.tmp 35) (.tmp 37) 23 rfl w.heap.size 3 i0 (.int .i64 0) 1 8 Try.underlying23 hi hz0 hz1 hz2 rfl (by decide) (.slice av k cv) k rows.flatten rfl HO3.out ⟨w2.heap.size, 0, none⟩ 1 1 [.int .i64 (x : Int)] rfl rfl HBK.out (by intro u hu; simp at hu; subst hu; rfl) (by unfold maxLen; omega) (by omega) (by simp; omega) ?_; intro v4 w4 hown4 hg4 _; obtain ⟨av4, cv4, rfl⟩ := ownAny_form hown4; have HR4 := hid (vbyt_keep (keep_grown HO3.out (by decide) hg4) HR3.out); have HU4 := hid (HU3.out.grown hg4 (fun k' e => (HO3.out.lt k' e).1)); have HO4 := hid hown4; clear hown4 hg4)
          go_roundw
          case rel => exact ⟨k + 1, t2, xs ++ [x], rows ++ [[.int .i64 (x : Int)]], by omega, hid (by rw [List.length_append, HX.out]; rfl), htl2, by go_num, HR4, HU4, hid (by have h := HO4.out; rw [List.flatten_append, List.flatten_singleton]; exact h), hid (rowsOf_snoc (rowsOf_keep (fun r x h => h) HW2.out) (show crNum w4 [.int .i64 (x : Int)] x from rfl)), HM2⟩
          case measure => simp [Lib.intOf]; omega
        · have HE := hid he
          have HD2 := hid hd
          have d1 : (er2 == 0) = false := by rw [beq_eq_false_iff_ne]; exact he
          have d2 : (er2 != 0) = true := by simpa using he
          clear hd he
          go_wp2
          refine bodyPost_ret (v := .tuple #[.slice none 0 0, .slice none 0 0, .int .i64 er2]) (by simp [results, Try.results31, go_sem]) rfl ?_
          refine ⟨_, _, _, rfl, HU2.out.below (Nat.le_refl _) (Nat.le_refl _), .inr ⟨?_, HE.out, rfl, rfl⟩⟩
          rw [HD.out, HM.out, show n - k = (n - k - 1) + 1 by omega, many_fail HD2.out]
      · obtain rfl : k = n := by omega
        go_wp2
        refine bodyPost_ret (v := .tuple #[.slice av k cv, .slice ad sk.length cd, .int .i64 0]) (by simp [results, Try.results31, go_sem]) rfl ?_
        refine ⟨_, _, _, rfl, HU.out.below (Nat.le_refl _) (Nat.le_refl _), .inl ⟨xs, sk, ?_, rfl, ⟨_, rows, by rw [HX.out]; exact HO.out, HW.out⟩, HV.out⟩⟩
        rw [HD.out, HM.out, Nat.sub_self, many_end]
  · have HD := hid hd
    have HE := hid he
    have HB := hid hb
    have hb : (er == 0) = false := by rw [beq_eq_false_iff_ne]; exact he
    have hb2 : (er != 0) = true := by simpa using he
    clear hd he
    go_wp2
    refine bodyPost_ret (v := .tuple #[.slice none 0 0, .slice none 0 0, .int .i64 er]) (by simp [results, Try.results31, go_sem]) rfl ?_
    exact ⟨_, _, _, rfl, HB.out, .inr ⟨dList_err HD.out, HE.out, rfl, rfl⟩⟩
end Go.Proofs.Ytchpoddfjbopbaa
