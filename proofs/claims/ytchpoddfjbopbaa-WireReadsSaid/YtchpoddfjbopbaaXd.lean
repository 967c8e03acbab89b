/- The reference's readers: Extents. -/
import Derived.Test.YtchpoddfjbopbaaXc
namespace Go.Proofs.Ytchpoddfjbopbaa
open Go.RowKit Go.Lib

set_option maxHeartbeats 2000000 in
set_option maxRecDepth 100000 in
theorem rexts (s : List Nat) (v : Value) (w : World) (hv : Byt w v s) (hn : NilOk v) (hl : s.length ≤ 90000) :
    Calls Try.prog 37 #[v] w (Red (dList dExt) (LV 66 2 crExt) (.slice none 0 0) w s) := by
  obtain ⟨i0, hi, hz0, hz1, hz2⟩ := info_parts info66
  have HP := hid (rlength s v w hv hn hl)
  have HEL := hid (fun (s' : List Nat) (v' : Value) (W : World) (hv : VByt W v' s') (hl : s'.length ≤ 90000) => rint s' v' W (vbyt_byt hv) (vbyt_nil hv) hl)
  obtain ⟨A, c, rfl⟩ := byt_form hv
  clear hv hn
  go_enter Try.func37, Try.ntmps37
  go_wp2_with fail
  refine HP.out.mono ?_
  rintro e w1 ⟨v1, r1, er, rfl, hb, h⟩
  rcases h with ⟨n, t, hd, rfl, rfl, hr⟩ | ⟨hd, he, rfl, rfl⟩
  · have htl : t.length ≤ 90000 := Nat.le_trans (shr_length _ _ _ hd) hl
    have hx := dLength_le hd
    have HD : Hid (dList dExt s = dMany dExt n t) := hid (dList_len hd)
    have HR := hid hr
    have HU := hid ((Upd.refl w.heap.size w).of_below hb)
    clear hd hr hl hb
    obtain ⟨a1, c1, rfl⟩ := byt_form (vbyt_byt HR.out)
    go_wp2_with fail
    go_loopw [0, 7, 8] (fun d v i wr => ∃ (k : Nat) (sk : List Nat) (xs : List (Nat × Nat)) (rows : List (List Value)), k ≤ n ∧ Hid (xs.length = k) ∧ sk.length ≤ 90000 ∧ i = .int .i64 (k : Int) ∧ Hid (VByt wr d sk) ∧ Hid (Upd w.heap.size w wr) ∧ Hid (wr.ownsRow w.heap.size 66 2 v k rows.flatten) ∧ Hid (RowsOf crExt wr rows xs) ∧ Hid (dMany dExt n t = app xs (dMany dExt (n - k) sk))) (fun _ _ i _ => n - (Lib.intOf i).toNat)
    case atStart => exact ⟨0, t, [], [], by omega, hid rfl, by omega, rfl, HR, HU, hid (World.ownsRow_nil _ _ _ _), hid (rowsOf_nil _ _), hid (app_nil _).symm⟩
    case round =>
      clear HR HU HP
      obtain ⟨k, sk, xs, rows, hk, HX, hskl, rfl, HV, HU, HO, HW, HM⟩ := hrel
      obtain ⟨av, cv, rfl⟩ := ownAny_form HO.out
      obtain ⟨ad, cd, rfl⟩ := byt_form (vbyt_byt HV.out)
      have hws := HU.out.low.size
      by_cases hkn : k < n
      · have HC := hid (HEL.out sk _ wr HV.out hskl)
        go_wp2_with fail
        refine HC.out.mono ?_
        rintro e w2 ⟨v2, r2, er2, rfl, hb2, h2⟩
        have HU2 := hid (HU.out.of_below hb2)
        have HO2 := hid (own_keep HO.out (keep_below hb2))
        have HW2 : Hid (RowsOf crExt w2 rows xs) := hid (rowsOf_keep (fun r x h => h) HW.out)
        have hw2 := HU2.out.low.size
        clear hb2
        rcases h2 with ⟨x0, t1, hd, rfl, hvn, hr⟩ | ⟨hd, he, rfl, rfl⟩
        · have htl1 : t1.length ≤ 90000 := Nat.le_trans (shr_num _ _ _ hd) hskl
          obtain rfl : v2 = .int .i64 (x0 : Int) := hvn
          have HD1 := hid hd
          have HC2 := hid (HEL.out t1 _ w2 hr htl1)
          obtain ⟨a2, c2, rfl⟩ := byt_form (vbyt_byt hr)
          clear hd hr
          go_wp2_with fail
          refine HC2.out.mono ?_
          rintro e w3 ⟨v3, r3, er3, rfl, hb3, h3⟩
          have HU3 := hid (HU2.out.of_below hb3)
          have HO3 := hid (own_keep HO2.out (keep_below hb3))
          have hw3 := HU3.out.low.size
          clear hb3
          rcases h3 with ⟨x1, t2, hd, rfl, hvn, hr⟩ | ⟨hd, he, rfl, rfl⟩
          · have hdp : dExt sk = .ok ((x0, x1), t2) := dPair_ok HD1.out hd
            have HM2 : Hid (dMany dExt n t = app (xs ++ [(x0, x1)]) (dMany dExt (n - (k + 1)) t2)) := hid (HM.out.trans (by have e := many_next (n := n - (k + 1)) hdp xs; rwa [show n - (k + 1) + 1 = n - k by omega] at e))
            have htl2 : t2.length ≤ 90000 := Nat.le_trans (shr_num _ _ _ hd) htl1
            obtain rfl : v3 = .int .i64 (x1 : Int) := hvn
            have HO4 := hid (HO3.out.alloc (.cells #[.int .i64 (x0 : Int), .int .i64 (x1 : Int)] 66))
            have HR4 := hid (vbyt_below (al1 w3 (.cells #[.int .i64 (x0 : Int), .int .i64 (x1 : Int)] 66)) hr)
            have HU4 := hid (HU3.out.alloc (.cells #[.int .i64 (x0 : Int), .int .i64 (x1 : Int)] 66))
            have HBK := hid (CRz (cs := [.int .i64 (x0 : Int), .int .i64 (x1 : Int)]) (heap_alloc_new w3 (.cells #[.int .i64 (x0 : Int), .int .i64 (x1 : Int)] 66)))
            obtain ⟨a3, c3, rfl⟩ := byt_form (vbyt_byt hr)
            clear hd hr hdp
            go_wp2_with (at_builtin; refine wpList_append_own _ rfl (.tmp 45) (.tmp 49) 31 rfl w.heap.size 66 i0 (.agg #[.int .i64 0, .int .i64 0]) 2 16 Try.underlying31 hi hz0 hz1 hz2 rfl (by decide) (.slice av k cv) k rows.flatten rfl HO4.out ⟨w3.heap.size, 0, none⟩ 1 1 [.int .i64 (x0 : Int), .int .i64 (x1 : Int)] rfl rfl HBK.out (by intro u hu; simp at hu; rcases hu with hu | hu <;> subst hu <;> rfl) (by unfold maxLen; omega) (by omega) (by simp; omega) ?_; intro v4 w4 hown4 hg4 _; obtain ⟨av4, cv4, rfl⟩ := ownAny_form hown4; have HR5 := hid (vbyt_keep (keep_grown HO4.out (by decide) hg4) HR4.out); have HU5 := hid (HU4.out.grown hg4 (fun k' e => (HO4.out.lt k' e).1)); have HO5 := hid hown4; clear hown4 hg4)
            go_roundw
            case rel => exact ⟨k + 1, t2, xs ++ [(x0, x1)], rows ++ [[.int .i64 (x0 : Int), .int .i64 (x1 : Int)]], by omega, hid (by rw [List.length_append, HX.out]; rfl), htl2, by go_num, HR5, HU5, hid (by have h := HO5.out; rw [List.flatten_append, List.flatten_singleton]; exact h), hid (rowsOf_snoc (rowsOf_keep (fun r x h => h) HW2.out) (show crExt w4 [.int .i64 (x0 : Int), .int .i64 (x1 : Int)] (x0, x1) from rfl)), HM2⟩
            case measure => simp [Lib.intOf]; omega
          · have HE := hid he
            have HD2 : Hid (dExt sk = .error er3) := hid (dPair_err' HD1.out hd)
            have d1 : (er3 == 0) = false := by rw [beq_eq_false_iff_ne]; exact he
            have d2 : (er3 != 0) = true := by simpa using he
            clear hd he
            go_wp2
            refine bodyPost_ret (v := .tuple #[.slice none 0 0, .slice none 0 0, .int .i64 er3]) (by simp [results, Try.results37, go_sem]) rfl ?_
            refine ⟨_, _, _, rfl, HU3.out.below (Nat.le_refl _) (Nat.le_refl _), .inr ⟨?_, HE.out, rfl, rfl⟩⟩
            rw [HD.out, HM.out, show n - k = (n - k - 1) + 1 by omega, many_fail HD2.out]
        · have HE := hid he
          have HD2 : Hid (dExt sk = .error er2) := hid (dPair_err hd)
          have d1 : (er2 == 0) = false := by rw [beq_eq_false_iff_ne]; exact he
          have d2 : (er2 != 0) = true := by simpa using he
          clear hd he
          go_wp2
          refine bodyPost_ret (v := .tuple #[.slice none 0 0, .slice none 0 0, .int .i64 er2]) (by simp [results, Try.results37, go_sem]) rfl ?_
          refine ⟨_, _, _, rfl, HU2.out.below (Nat.le_refl _) (Nat.le_refl _), .inr ⟨?_, HE.out, rfl, rfl⟩⟩
          rw [HD.out, HM.out, show n - k = (n - k - 1) + 1 by omega, many_fail HD2.out]
      · obtain rfl : k = n := by omega
        go_wp2
        refine bodyPost_ret (v := .tuple #[.slice av k cv, .slice ad sk.length cd, .int .i64 0]) (by simp [results, Try.results37, go_sem]) rfl ?_
        refine ⟨_, _, _, rfl, HU.out.below (Nat.le_refl _) (Nat.le_refl _), .inl ⟨xs, sk, ?_, rfl, ⟨_, rows, by rw [HX.out]; exact HO.out, HW.out⟩, HV.out⟩⟩
        rw [HD.out, HM.out, Nat.sub_self, many_end]
  · have HD := hid hd
    have HE := hid he
    have HB := hid hb
    have hb : (er == 0) = false := by rw [beq_eq_false_iff_ne]; exact he
    have hb2 : (er != 0) = true := by simpa using he
    clear hd he
    go_wp2
    refine bodyPost_ret (v := .tuple #[.slice none 0 0, .slice none 0 0, .int .i64 er]) (by simp [results, Try.results37, go_sem]) rfl ?_
    exact ⟨_, _, _, rfl, HB.out, .inr ⟨dList_err HD.out, HE.out, rfl, rfl⟩⟩
end Go.Proofs.Ytchpoddfjbopbaa
#print axioms Go.Proofs.Ytchpoddfjbopbaa.rexts
