/- The reference's readers: Writes. -/
import Derived.Test.YtchpoddfjbopbaaXe
namespace Go.Proofs.Ytchpoddfjbopbaa
open Go.RowKit Go.Lib

set_option maxHeartbeats 2000000 in
set_option maxRecDepth 100000 in
theorem rwris (s : List Nat) (v : Value) (w : World) (hv : Byt w v s) (hn : NilOk v) (hl : s.length ≤ 90000) :
    Calls Try.prog 40 #[v] w (Red (dList dWr) (LV 79 3 crWri) (.slice none 0 0) w s) := by
  obtain ⟨i0, hi, hz0, hz1, hz2⟩ := info_parts info79
  have HP := hid (rlength s v w hv hn hl)
  have HEL := hid (fun (s' : List Nat) (v' : Value) (W : World) (hv : VByt W v' s') (hl : s'.length ≤ 90000) => rint s' v' W (vbyt_byt hv) (vbyt_nil hv) hl)
  have HES := hid (fun (s' : List Nat) (v' : Value) (W : World) (hv : VByt W v' s') (hl : s'.length ≤ 90000) => rsecs s' v' W (vbyt_byt hv) (vbyt_nil hv) hl)
  obtain ⟨A, c, rfl⟩ := byt_form hv
  clear hv hn
  go_enter Try.func40, Try.ntmps40
  go_wp2_with fail
  refine HP.out.mono ?_
  rintro e w1 ⟨v1, r1, er, rfl, hb, h⟩
  rcases h with ⟨n, t, hd, rfl, rfl, hr⟩ | ⟨hd, he, rfl, rfl⟩
  · have htl : t.length ≤ 90000 := Nat.le_trans (shr_length _ _ _ hd) hl
    have hx := dLength_le hd
    have HD : Hid (dList dWr s = dMany dWr n t) := hid (dList_len hd)
    have HR := hid hr
    have HU := hid ((Upd.refl w.heap.size w).of_below hb)
    clear hd hr hl hb
    obtain ⟨a1, c1, rfl⟩ := byt_form (vbyt_byt HR.out)
    go_wp2_with fail
    go_loopw [0, 7, 8] (fun d v i wr => ∃ (k : Nat) (sk : List Nat) (xs : List ((Nat × Nat) × List (List Nat))) (rows : List (List Value)), k ≤ n ∧ Hid (xs.length = k) ∧ sk.length ≤ 90000 ∧ i = .int .i64 (k : Int) ∧ Hid (VByt wr d sk) ∧ Hid (Upd w.heap.size w wr) ∧ Hid (wr.ownsRow w.heap.size 79 3 v k rows.flatten) ∧ Hid (RowsOf crWri wr rows xs) ∧ Hid (dMany dWr n t = app xs (dMany dWr (n - k) sk))) (fun _ _ i _ => n - (Lib.intOf i).toNat)
    case atStart => exact ⟨0, t, [], [], by omega, hid rfl, by omega, rfl, HR, HU, hid (World.ownsRow_nil _ _ _ _), hid (rowsOf_nil _ _), hid (app_nil _).symm⟩
    case round =>
      clear HR HU HP
      obtain ⟨k, sk, xs, rows, hk, HX, hskl, rfl, HV, HU, HO, HW, HM⟩ := hrel
      obtain ⟨av, cv, rfl⟩ := ownAny_form HO.out
      obtain ⟨ad, cd, rfl⟩ := byt_form (vbyt_byt HV.out)
      have hws := HU.out.low.size
      by_cases hkn : k < n
      · have HC := hid (HEL.out sk _ wr HV.out hskl)
        go_wp2_with fail
        refine HC.out.mono ?_
        rintro e w2 ⟨v2, r2, er2, rfl, hb2, h2⟩
        have HU2 := hid (HU.out.of_below hb2)
        have HO2 := hid (own_keep HO.out (keep_below hb2))
        have HW2 : Hid (RowsOf crWri w2 rows xs) := hid (rowsOf_keep (fun r x h => crwri_keep (keep_below hb2) h) HW.out)
        have hw2 := HU2.out.low.size
        clear hb2
        rcases h2 with ⟨x0, t1, hd, rfl, hvn, hr⟩ | ⟨hd, he, rfl, rfl⟩
        · have htl1 : t1.length ≤ 90000 := Nat.le_trans (shr_num _ _ _ hd) hskl
          obtain rfl : v2 = .int .i64 (x0 : Int) := hvn
          have HD1 := hid hd
          have HC2 := hid (HEL.out t1 _ w2 hr htl1)
          obtain ⟨a2, c2, rfl⟩ := byt_form (vbyt_byt hr)
          clear hd hr
          go_wp2_with fail
          refine HC2.out.mono ?_
          rintro e w3 ⟨v3, r3, er3, rfl, hb3, h3⟩
          have HU3 := hid (HU2.out.of_below hb3)
          have HO3 := hid (own_keep HO2.out (keep_below hb3))
          have HW3 : Hid (RowsOf crWri w3 rows xs) := hid (rowsOf_keep (fun r x h => crwri_keep (keep_below hb3) h) HW2.out)
          have hw3 := HU3.out.low.size
          clear hb3
          rcases h3 with ⟨x1, t2, hd, rfl, hvn, hr⟩ | ⟨hd, he, rfl, rfl⟩
          · have hde : dExt sk = .ok ((x0, x1), t2) := dPair_ok HD1.out hd
            have htl2 : t2.length ≤ 90000 := Nat.le_trans (shr_num _ _ _ hd) htl1
            obtain rfl : v3 = .int .i64 (x1 : Int) := hvn
            have HD3 := hid hde
            have HC3 := hid (HES.out t2 _ w3 hr htl2)
            obtain ⟨a3, c3, rfl⟩ := byt_form (vbyt_byt hr)
            clear hd hr hde
            go_wp2_with fail
            refine HC3.out.mono ?_
            rintro e w4 ⟨v4, r4, er4, rfl, hb4, h4⟩
            have HU4 := hid (HU3.out.of_below hb4)
            have HO4 := hid (own_keep HO3.out (keep_below hb4))
            have HW4 : Hid (RowsOf crWri w4 rows xs) := hid (rowsOf_keep (fun r x h => crwri_keep (keep_below hb4) h) HW3.out)
            have hw4 := HU4.out.low.size
            clear hb4
            rcases h4 with ⟨ss, t3, hd, rfl, hlv, hr⟩ | ⟨hd, he, rfl, rfl⟩
            · have hdp : dWr sk = .ok (((x0, x1), ss), t3) := dPair_ok HD3.out hd
              have HM2 : Hid (dMany dWr n t = app (xs ++ [((x0, x1), ss)]) (dMany dWr (n - (k + 1)) t3)) := hid (HM.out.trans (by have e := many_next (n := n - (k + 1)) hdp xs; rwa [show n - (k + 1) + 1 = n - k by omega] at e))
              have htl3 : t3.length ≤ 90000 := Nat.le_trans (shr_len (shr_many (shr_take 8)) _ _ _ hd) htl2
              obtain ⟨A4, n4, c4, rfl⟩ : ∃ A n c, v4 = .slice A n c := by
                obtain ⟨base, rr, ho, _⟩ := hlv
                obtain ⟨A, c, e⟩ := ownAny_form ho
                exact ⟨A, _, c, e⟩
              have HO5 := hid (HO4.out.alloc (.cells #[.int .i64 (x0 : Int), .int .i64 (x1 : Int), .slice A4 n4 c4] 79))
              have HR5 := hid (vbyt_below (al1 w4 (.cells #[.int .i64 (x0 : Int), .int .i64 (x1 : Int), .slice A4 n4 c4] 79)) hr)
              have HU5 := hid (HU4.out.alloc (.cells #[.int .i64 (x0 : Int), .int .i64 (x1 : Int), .slice A4 n4 c4] 79))
              have HCR : Hid (crWri (w4.alloc (.cells #[.int .i64 (x0 : Int), .int .i64 (x1 : Int), .slice A4 n4 c4] 79)) [.int .i64 (x0 : Int), .int .i64 (x1 : Int), .slice A4 n4 c4] ((x0, x1), ss)) := hid ⟨_, rfl, lvsec_below (al1 w4 _) hlv⟩
              have HW5 : Hid (RowsOf crWri (w4.alloc (.cells #[.int .i64 (x0 : Int), .int .i64 (x1 : Int), .slice A4 n4 c4] 79)) rows xs) := hid (rowsOf_keep (fun r x h => crwri_keep (keep_below (al1 w4 _)) h) HW4.out)
              have HBK := hid (CRz (cs := [.int .i64 (x0 : Int), .int .i64 (x1 : Int), .slice A4 n4 c4]) (heap_alloc_new w4 (.cells #[.int .i64 (x0 : Int), .int .i64 (x1 : Int), .slice A4 n4 c4] 79)))
              obtain ⟨a5, c5, rfl⟩ := byt_form (vbyt_byt hr)
              clear hd hr hdp hlv
              go_wp2_with (at_builtin; refine wpList_append_own _ rfl (.tmp 55) (.tmp 60) 32 rfl w.heap.size 79 i0 (.agg #[.int .i64 0, .int .i64 0, .slice none 0 0]) 3 40 Try.underlying32 hi hz0 hz1 hz2 rfl (by decide) (.slice av k cv) k rows.flatten rfl HO5.out ⟨w4.heap.size, 0, none⟩ 1 1 [.int .i64 (x0 : Int), .int .i64 (x1 : Int), .slice A4 n4 c4] rfl rfl HBK.out (by intro u hu; simp at hu; rcases hu with hu | hu | hu <;> subst hu <;> rfl) (by unfold maxLen; omega) (by omega) (by simp; omega) ?_; intro v6 w6 hown6 hg6 _; obtain ⟨av6, cv6, rfl⟩ := ownAny_form hown6; have HR6 := hid (vbyt_keep (keep_grown HO5.out (by decide) hg6) HR5.out); have HU6 := hid (HU5.out.grown hg6 (fun k' e => (HO5.out.lt k' e).1)); have HW6 := hid (rowsOf_keep (fun r x h => crwri_keep (keep_grown HO5.out (by decide) hg6) h) HW5.out); have HCR6 := hid (crwri_keep (keep_grown HO5.out (by decide) hg6) HCR.out); have HO6 := hid hown6; clear hown6 hg6)
              go_roundw
              case rel => exact ⟨k + 1, t3, xs ++ [((x0, x1), ss)], rows ++ [[.int .i64 (x0 : Int), .int .i64 (x1 : Int), .slice A4 n4 c4]], by omega, hid (by rw [List.length_append, HX.out]; rfl), htl3, by go_num, HR6, HU6, hid (by have h := HO6.out; rw [List.flatten_append, List.flatten_singleton]; exact h), hid (rowsOf_snoc HW6.out HCR6.out), HM2⟩
              case measure => simp [Lib.intOf]; omega
            · have HE := hid he
              have HD2 : Hid (dWr sk = .error er4) := hid (dPair_err' HD3.out hd)
              have d1 : (er4 == 0) = false := by rw [beq_eq_false_iff_ne]; exact he
              have d2 : (er4 != 0) = true := by simpa using he
              clear hd he
              go_wp2
              refine bodyPost_ret (v := .tuple #[.slice none 0 0, .slice none 0 0, .int .i64 er4]) (by simp [results, Try.results40, go_sem]) rfl ?_
              refine ⟨_, _, _, rfl, HU4.out.below (Nat.le_refl _) (Nat.le_refl _), .inr ⟨?_, HE.out, rfl, rfl⟩⟩
              rw [HD.out, HM.out, show n - k = (n - k - 1) + 1 by omega, many_fail HD2.out]
          · have HE := hid he
            have HD2 : Hid (dWr sk = .error er3) := hid (dPair_err (dPair_err' HD1.out hd))
            have d1 : (er3 == 0) = false := by rw [beq_eq_false_iff_ne]; exact he
            have d2 : (er3 != 0) = true := by simpa using he
            clear hd he
            go_wp2
            refine bodyPost_ret (v := .tuple #[.slice none 0 0, .slice none 0 0, .int .i64 er3]) (by simp [results, Try.results40, go_sem]) rfl ?_
            refine ⟨_, _, _, rfl, HU3.out.below (Nat.le_refl _) (Nat.le_refl _), .inr ⟨?_, HE.out, rfl, rfl⟩⟩
            rw [HD.out, HM.out, show n - k = (n - k - 1) + 1 by omega, many_fail HD2.out]
        · have HE := hid he
          have HD2 : Hid (dWr sk = .error er2) := hid (dPair_err (dPair_err hd))
          have d1 : (er2 == 0) = false := by rw [beq_eq_false_iff_ne]; exact he
          have d2 : (er2 != 0) = true := by simpa using he
          clear hd he
          go_wp2
          refine bodyPost_ret (v := .tuple #[.slice none 0 0, .slice none 0 0, .int .i64 er2]) (by simp [results, Try.results40, go_sem]) rfl ?_
          refine ⟨_, _, _, rfl, HU2.out.below (Nat.le_refl _) (Nat.le_refl _), .inr ⟨?_, HE.out, rfl, rfl⟩⟩
          rw [HD.out, HM.out, show n - k = (n - k - 1) + 1 by omega, many_fail HD2.out]
      · obtain rfl : k = n := by omega
        go_wp2
        refine bodyPost_ret (v := .tuple #[.slice av k cv, .slice ad sk.length cd, .int .i64 0]) (by simp [results, Try.results40, go_sem]) rfl ?_
        refine ⟨_, _, _, rfl, HU.out.below (Nat.le_refl _) (Nat.le_refl _), .inl ⟨xs, sk, ?_, rfl, ⟨_, rows, by rw [HX.out]; exact HO.out, HW.out⟩, HV.out⟩⟩
        rw [HD.out, HM.out, Nat.sub_self, many_end]
  · have HD := hid hd
    have HE := hid he
    have HB := hid hb
    have hb : (er == 0) = false := by rw [beq_eq_false_iff_ne]; exact he
    have hb2 : (er != 0) = true := by simpa using he
    clear hd he
    go_wp2
    refine bodyPost_ret (v := .tuple #[.slice none 0 0, .slice none 0 0, .int .i64 er]) (by simp [results, Try.results40, go_sem]) rfl ?_
    exact ⟨_, _, _, rfl, HB.out, .inr ⟨dList_err HD.out, HE.out, rfl, rfl⟩⟩
end Go.Proofs.Ytchpoddfjbopbaa
#print axioms Go.Proofs.Ytchpoddfjbopbaa.rwris
