/- The walk of the law WireReads. -/
import Derived.Test.YtchpoddfjbopbaaXf
import Derived.Test.YtchpoddfjbopbaaVf
namespace Go.Proofs.Ytchpoddfjbopbaa
open Go.RowKit Go.Lib

/-- How a call that reads at s has ended. -/
def Tail {α : Type} (D : Reads α) (V : World → Value → α → Prop) (n : Value) (w : World) (s : List Nat) (v r : Value) (er : Int) : Prop :=
  (∃ x t, D s = .ok (x, t) ∧ er = 0 ∧ V w v x ∧ VByt w r t) ∨ (D s = .error er ∧ er ≠ 0 ∧ v = n ∧ r = .slice none 0 0)
theorem tail_same {α : Type} {D : Reads α} {V V' : World → Value → α → Prop} {n n' v r v' r' : Value} {w1 w2 : World} {s : List Nat} {er er' : Int}
    (h : Tail D V n w1 s v r er) (h' : Tail D V' n' w2 s v' r' er') (hb : Below w1.heap.size w1 w2) :
    er' = er ∧ (∃ t, Byt w2 r t ∧ Byt w2 r' t) ∧ ((∃ x t, D s = .ok (x, t) ∧ V w1 v x ∧ V' w2 v' x) ∨ (v = n ∧ v' = n')) := by
  rcases h with ⟨x, t, hd, rfl, hv, hr⟩ | ⟨hd, hne, rfl, rfl⟩
  · rcases h' with ⟨x', t', hd', rfl, hv', hr'⟩ | ⟨hd', hne', _, _⟩
    · rw [hd] at hd'
      cases hd'
      exact ⟨rfl, ⟨t, vbyt_byt (vbyt_below hb hr), vbyt_byt hr'⟩, .inl ⟨x, t, hd, hv, hv'⟩⟩
    · rw [hd] at hd'; cases hd'
  · rcases h' with ⟨x', t', hd', rfl, hv', hr'⟩ | ⟨hd', hne', rfl, rfl⟩
    · rw [hd] at hd'; cases hd'
    · rw [hd] at hd'
      cases hd'
      exact ⟨rfl, ⟨[], byt_nil _, byt_nil _⟩, .inr ⟨rfl, rfl⟩⟩
theorem same_int {w1 w2 : World} {s : List Nat} {v v' : Value} (h : (∃ (x : Nat) (t : List Nat), dNum s = .ok (x, t) ∧ VNat w1 v x ∧ VNat w2 v' x) ∨ (v = .int .i64 0 ∧ v' = .int .i64 0)) : ∃ m : Nat, v = .int .i64 (m : Int) ∧ v' = .int .i64 (m : Int) := by
  rcases h with ⟨x, _, _, h1, h2⟩ | ⟨h1, h2⟩
  · exact ⟨x, h1, h2⟩
  · exact ⟨0, h1, h2⟩
theorem same_byt {w1 w2 : World} {s : List Nat} {v v' : Value} (hb : Below w1.heap.size w1 w2) (h : (∃ (x : List Nat) (t : List Nat), dBytes s = .ok (x, t) ∧ VByt w1 v x ∧ VByt w2 v' x) ∨ (v = .slice none 0 0 ∧ v' = .slice none 0 0)) : ∃ l, Byt w2 v l ∧ Byt w2 v' l := by
  rcases h with ⟨x, _, _, h1, h2⟩ | ⟨rfl, rfl⟩
  · exact ⟨x, vbyt_byt (vbyt_below hb h1), vbyt_byt h2⟩
  · exact ⟨[], byt_nil _, byt_nil _⟩
theorem same_ints {w1 w2 : World} {s : List Nat} {v v' : Value} (hb : Below w1.heap.size w1 w2) (h : (∃ (x : List Nat) (t : List Nat), dList dNum s = .ok (x, t) ∧ LV 3 1 crNum w1 v x ∧ LV 3 1 crNum w2 v' x) ∨ (v = .slice none 0 0 ∧ v' = .slice none 0 0)) : ∃ l : List Int, Arr w2 v 1 (l.map cInt) ∧ Arr w2 v' 1 (l.map cInt) := by
  rcases h with ⟨x, _, _, h1, h2⟩ | ⟨rfl, rfl⟩
  · exact ⟨_, nums_of_lv (lvnum_below hb h1), nums_of_lv h2⟩
  · exact ⟨[], arr_nil _ _, arr_nil _ _⟩
theorem same_secs {w1 w2 : World} {s : List Nat} {v v' : Value} (hb : Below w1.heap.size w1 w2) (h : (∃ (x : List (List Nat)) (t : List Nat), dList dSec s = .ok (x, t) ∧ LV 59 8 crSec w1 v x ∧ LV 59 8 crSec w2 v' x) ∨ (v = .slice none 0 0 ∧ v' = .slice none 0 0)) : ∃ l, Sec w2 v l ∧ Sec w2 v' l := by
  rcases h with ⟨x, _, _, h1, h2⟩ | ⟨rfl, rfl⟩
  · exact ⟨_, sec_of_lv (lvsec_below hb h1), sec_of_lv h2⟩
  · exact ⟨[], ⟨(fun s h => by cases h), arr_nil _ _⟩, ⟨(fun s h => by cases h), arr_nil _ _⟩⟩
theorem same_exts {w1 w2 : World} {s : List Nat} {v v' : Value} (hb : Below w1.heap.size w1 w2) (h : (∃ (x : List (Nat × Nat)) (t : List Nat), dList dExt s = .ok (x, t) ∧ LV 66 2 crExt w1 v x ∧ LV 66 2 crExt w2 v' x) ∨ (v = .slice none 0 0 ∧ v' = .slice none 0 0)) : ∃ l : List (Int × Int), Arr w2 v 2 (l.map cExt) ∧ Arr w2 v' 2 (l.map cExt) := by
  rcases h with ⟨x, _, _, h1, h2⟩ | ⟨rfl, rfl⟩
  · exact ⟨_, ext_of_lv (lvext_below hb h1), ext_of_lv h2⟩
  · exact ⟨[], arr_nil _ _, arr_nil _ _⟩
theorem same_zip (xs : List ((Nat × Nat) × List (List Nat))) (ds es : List Value) (hd : ds.length = xs.length) (he : es.length = xs.length) :
    sameL ((xs.zip ds).map fun p => (⟨(p.1.1.1 : Int), (p.1.1.2 : Int), p.2, p.1.2⟩ : Wri)) ((xs.zip es).map fun p => (⟨(p.1.1.1 : Int), (p.1.1.2 : Int), p.2, p.1.2⟩ : Wri)) := by
  refine ⟨by rw [List.length_map, List.length_map, List.length_zip, List.length_zip, hd, he], fun i x y hx hy => ?_⟩
  rw [List.getElem?_map] at hx hy
  obtain ⟨p, hp, rfl⟩ := Option.map_eq_some_iff.1 hx
  obtain ⟨q, hq, rfl⟩ := Option.map_eq_some_iff.1 hy
  rw [List.getElem?_zip_eq_some] at hp hq
  have h1 := hp.1.symm.trans hq.1
  injection h1 with h1
  unfold sameW
  simp [h1]
theorem same_wris {w1 w2 : World} {s : List Nat} {v v' : Value} (hl : s.length ≤ 1000) (h8 : B8 s) (hb : Below w1.heap.size w1 w2) (h : (∃ (x : List ((Nat × Nat) × List (List Nat))) (t : List Nat), dList dWr s = .ok (x, t) ∧ LV 79 3 crWri w1 v x ∧ LV 79 3 crWri w2 v' x) ∨ (v = .slice none 0 0 ∧ v' = .slice none 0 0)) : ∃ l l', WrsA w2 v l ∧ WrsA w2 v' l' ∧ sameL l l' := by
  rcases h with ⟨xs, t, hd, hv, hu⟩ | ⟨rfl, rfl⟩
  · obtain ⟨h1, _, _, h2⟩ := (list_code wr_code).once s xs t h8 hd
    have hlen := congrArg List.length h1
    rw [List.length_append] at hlen
    have hll := list_len (E := eWr) xs
    have hx : ∀ x ∈ xs, x.2.length ≤ 60000 := fun x hx => by have h3 := eWr_len x (h2 x hx).2.2.2; have h4 := many_in (E := eWr) hx; omega
    obtain ⟨ds, hdl, hw⟩ := wrs_of_lv (lvwri_below hb hv) hx
    obtain ⟨es, hel, hu⟩ := wrs_of_lv hu hx
    exact ⟨_, _, ⟨fun y hy => (hw.1 y hy).1, hw.2⟩, ⟨fun y hy => (hu.1 y hy).1, hu.2⟩, same_zip xs ds es hdl hel⟩
  · exact ⟨[], [], ⟨(fun s h => by cases h), arr_nil _ _⟩, ⟨(fun s h => by cases h), arr_nil _ _⟩, rfl, fun i x y h => by simp at h⟩
theorem below_drewN (w : World) (m : Nat) : Below w.heap.size w (w.drewN m) := ⟨rfl, rfl, rfl, Nat.le_refl _, fun _ _ => rfl⟩

set_option maxHeartbeats 4000000 in
set_option maxRecDepth 100000 in
theorem reads_walk (s : List Nat) (v : Value) (w : World) (hv : Byt w v s) (hn : NilOk v) :
    Calls Try.prog 5 #[v] w (GoodB w) := by
  have HA := hid awake_any
  have HV := hid hv
  have HN := hid hn
  obtain ⟨A, c, rfl⟩ := byt_form hv
  have hsl := byt_len hv
  clear hv hn
  by_cases hbig : 1000 < s.length
  · have d1 : decide ((1000 : Int) < (s.length : Int)) = true := by simp; omega
    go_enter Try.func5, Try.ntmps5
    go_wp2_with fail
    refine (HA.out _).mono ?_
    rintro e w1 ⟨rfl, hb1⟩
    have HB1 := hid hb1
    clear hb1
    go_wp2
    go_ret
    exact ⟨rfl, HB1.out⟩
  · have d1 : decide ((1000 : Int) < (s.length : Int)) = false := by simp; omega
    go_enter Try.func5, Try.ntmps5
    have HB0 := hid (Below.refl w.heap.size w)
    go_wp2_with fail
    refine (int_any s _ w (HV.out.below HB0.out) HN.out (by omega)).mono ?_
    rintro e a1 ⟨u1, r1, f1, rfl, hb, h⟩
    have HP1 := hid (below_both HB0.out hb)
    have HT1 : Hid (Tail _ _ _ a1 s u1 r1 f1) := hid h
    clear hb h
    go_wp2_with fail
    refine (rint s _ a1 (HV.out.below HP1.out) HN.out (by omega)).mono ?_
    rintro e b1 ⟨v1, q1, g1, rfl, hb, h⟩
    have HB1 := hid (below_both HP1.out hb)
    obtain ⟨rfl, ⟨t1, hr1, hr2⟩, hs⟩ := tail_same HT1.out h hb
    obtain ⟨m, rfl, rfl⟩ := same_int hs
    clear hb h hs HT1 HP1 HB0
    have HR1 := hid hr1
    have HR2 := hid hr2
    clear hr1 hr2
    go_wp2_with fail
    refine (equal_eq t1 _ _ b1 HR1.out HR2.out).mono ?_
    rintro e w' ⟨rfl, rfl⟩
    clear HR1 HR2
    go_wp2_with fail
    refine (bytes_any s _ b1 (HV.out.below HB1.out) HN.out (by omega)).mono ?_
    rintro e a2 ⟨u2, r2, f2, rfl, hb, h⟩
    have HP2 := hid (below_both HB1.out hb)
    have HT2 : Hid (Tail _ _ _ a2 s u2 r2 f2) := hid h
    clear hb h
    go_wp2_with fail
    refine (rbytes s _ a2 (HV.out.below HP2.out) HN.out (by omega)).mono ?_
    rintro e b2 ⟨v2, q2, g2, rfl, hb, h⟩
    have HB2 := hid (below_both HP2.out hb)
    obtain ⟨rfl, ⟨t2, hr1, hr2⟩, hs⟩ := tail_same HT2.out h hb
    obtain ⟨l2, hl1, hl2⟩ := same_byt hb hs
    have HL1 := hid hl1
    have HL2 := hid hl2
    clear hl1 hl2
    clear hb h hs HT2 HP2 HB1
    have HR1 := hid hr1
    have HR2 := hid hr2
    clear hr1 hr2
    go_wp2_with fail
    refine (equal_eq l2 _ _ b2 HL1.out HL2.out).mono ?_
    rintro e w' ⟨rfl, rfl⟩
    clear HL1 HL2
    go_wp2_with fail
    refine (equal_eq t2 _ _ b2 HR1.out HR2.out).mono ?_
    rintro e w' ⟨rfl, rfl⟩
    clear HR1 HR2
    go_wp2_with fail
    refine (ints_any s _ b2 (HV.out.below HB2.out) HN.out (by omega)).mono ?_
    rintro e a3 ⟨u3, r3, f3, rfl, hb, h⟩
    have HP3 := hid (below_both HB2.out hb)
    have HT3 : Hid (Tail _ _ _ a3 s u3 r3 f3) := hid h
    clear hb h
    go_wp2_with fail
    refine (rints s _ a3 (HV.out.below HP3.out) HN.out (by omega)).mono ?_
    rintro e b3 ⟨v3, q3, g3, rfl, hb, h⟩
    have HB3 := hid (below_both HP3.out hb)
    obtain ⟨rfl, ⟨t3, hr1, hr2⟩, hs⟩ := tail_same HT3.out h hb
    obtain ⟨l3, hl1, hl2⟩ := same_ints hb hs
    have HL1 := hid hl1
    have HL2 := hid hl2
    clear hl1 hl2
    clear hb h hs HT3 HP3 HB2
    have HR1 := hid hr1
    have HR2 := hid hr2
    clear hr1 hr2
    go_wp2_with fail
    have HQ := hid (eqInts_any l3 l3 _ _ b3 HL1.out HL2.out)
    rw [decide_eq_true rfl] at HQ
    refine HQ.out.mono ?_
    rintro e w' ⟨rfl, n3, rfl⟩
    have HD := hid (below_drewN b3 n3)
    have HB3 := hid (below_both HB3.out HD.out)
    have HR1 := hid (HR1.out.below HD.out)
    have HR2 := hid (HR2.out.below HD.out)
    obtain ⟨c3, hc⟩ : ∃ x, b3.drewN n3 = x := ⟨_, rfl⟩
    rw [hc] at HB3 HR1 HR2 ⊢
    clear hc HD HQ
    clear HL1 HL2
    go_wp2_with fail
    refine (equal_eq t3 _ _ c3 HR1.out HR2.out).mono ?_
    rintro e w' ⟨rfl, rfl⟩
    clear HR1 HR2
    go_wp2_with fail
    refine (sectors_any s _ c3 (HV.out.below HB3.out) HN.out (by omega)).mono ?_
    rintro e a4 ⟨u4, r4, f4, rfl, hb, h⟩
    have HP4 := hid (below_both HB3.out hb)
    have HT4 : Hid (Tail _ _ _ a4 s u4 r4 f4) := hid h
    clear hb h
    go_wp2_with fail
    refine (rsecs s _ a4 (HV.out.below HP4.out) HN.out (by omega)).mono ?_
    rintro e b4 ⟨v4, q4, g4, rfl, hb, h⟩
    have HB4 := hid (below_both HP4.out hb)
    obtain ⟨rfl, ⟨t4, hr1, hr2⟩, hs⟩ := tail_same HT4.out h hb
    obtain ⟨l4, hl1, hl2⟩ := same_secs hb hs
    have HL1 := hid hl1
    have HL2 := hid hl2
    clear hl1 hl2
    clear hb h hs HT4 HP4 HB3
    have HR1 := hid hr1
    have HR2 := hid hr2
    clear hr1 hr2
    go_wp2_with fail
    have HQ := hid (eqSecs_any l4 l4 _ _ b4 HL1.out.2 HL2.out.2 HL1.out.1 HL1.out.1)
    rw [decide_eq_true rfl] at HQ
    refine HQ.out.mono ?_
    rintro e w' ⟨rfl, n4, rfl⟩
    have HD := hid (below_drewN b4 n4)
    have HB4 := hid (below_both HB4.out HD.out)
    have HR1 := hid (HR1.out.below HD.out)
    have HR2 := hid (HR2.out.below HD.out)
    obtain ⟨c4, hc⟩ : ∃ x, b4.drewN n4 = x := ⟨_, rfl⟩
    rw [hc] at HB4 HR1 HR2 ⊢
    clear hc HD HQ
    clear HL1 HL2
    go_wp2_with fail
    refine (equal_eq t4 _ _ c4 HR1.out HR2.out).mono ?_
    rintro e w' ⟨rfl, rfl⟩
    clear HR1 HR2
    go_wp2_with fail
    refine (extents_any s _ c4 (HV.out.below HB4.out) HN.out (by omega)).mono ?_
    rintro e a5 ⟨u5, r5, f5, rfl, hb, h⟩
    have HP5 := hid (below_both HB4.out hb)
    have HT5 : Hid (Tail _ _ _ a5 s u5 r5 f5) := hid h
    clear hb h
    go_wp2_with fail
    refine (rexts s _ a5 (HV.out.below HP5.out) HN.out (by omega)).mono ?_
    rintro e b5 ⟨v5, q5, g5, rfl, hb, h⟩
    have HB5 := hid (below_both HP5.out hb)
    obtain ⟨rfl, ⟨t5, hr1, hr2⟩, hs⟩ := tail_same HT5.out h hb
    obtain ⟨l5, hl1, hl2⟩ := same_exts hb hs
    have HL1 := hid hl1
    have HL2 := hid hl2
    clear hl1 hl2
    clear hb h hs HT5 HP5 HB4
    have HR1 := hid hr1
    have HR2 := hid hr2
    clear hr1 hr2
    go_wp2_with fail
    have HQ := hid (eqExts_any l5 l5 _ _ b5 HL1.out HL2.out)
    rw [decide_eq_true rfl] at HQ
    refine HQ.out.mono ?_
    rintro e w' ⟨rfl, n5, rfl⟩
    have HD := hid (below_drewN b5 n5)
    have HB5 := hid (below_both HB5.out HD.out)
    have HR1 := hid (HR1.out.below HD.out)
    have HR2 := hid (HR2.out.below HD.out)
    obtain ⟨c5, hc⟩ : ∃ x, b5.drewN n5 = x := ⟨_, rfl⟩
    rw [hc] at HB5 HR1 HR2 ⊢
    clear hc HD HQ
    clear HL1 HL2
    go_wp2_with fail
    refine (equal_eq t5 _ _ c5 HR1.out HR2.out).mono ?_
    rintro e w' ⟨rfl, rfl⟩
    clear HR1 HR2
    go_wp2_with fail
    refine (writes_any s _ c5 (HV.out.below HB5.out) HN.out (by omega)).mono ?_
    rintro e a6 ⟨u6, r6, f6, rfl, hb, h⟩
    have HP6 := hid (below_both HB5.out hb)
    have HT6 : Hid (Tail _ _ _ a6 s u6 r6 f6) := hid h
    clear hb h
    go_wp2_with fail
    refine (rwris s _ a6 (HV.out.below HP6.out) HN.out (by omega)).mono ?_
    rintro e b6 ⟨v6, q6, g6, rfl, hb, h⟩
    have HB6 := hid (below_both HP6.out hb)
    obtain ⟨rfl, ⟨t6, hr1, hr2⟩, hs⟩ := tail_same HT6.out h hb
    obtain ⟨l6, m6, hl1, hl2, hsm⟩ := same_wris (by omega) HV.out.1 hb hs
    have HL1 := hid hl1
    have HL2 := hid hl2
    clear hl1 hl2
    have HSM := hid hsm
    clear hsm
    clear hb h hs HT6 HP6 HB5
    have HR1 := hid hr1
    have HR2 := hid hr2
    clear hr1 hr2
    go_wp2_with fail
    have HQ := hid (sameWris_true l6 m6 _ _ b6 HL1.out HL2.out HSM.out)
    refine HQ.out.mono ?_
    rintro e w' ⟨rfl, n6, rfl⟩
    have HD := hid (below_drewN b6 n6)
    have HB6 := hid (below_both HB6.out HD.out)
    have HR1 := hid (HR1.out.below HD.out)
    have HR2 := hid (HR2.out.below HD.out)
    obtain ⟨c6, hc⟩ : ∃ x, b6.drewN n6 = x := ⟨_, rfl⟩
    rw [hc] at HB6 HR1 HR2 ⊢
    clear hc HD HQ
    clear HL1 HL2
    go_wp2_with fail
    refine (equal_eq t6 _ _ c6 HR1.out HR2.out).mono ?_
    rintro e w' ⟨rfl, rfl⟩
    clear HR1 HR2
    go_wp2_with fail
    refine (HA.out _).mono ?_
    rintro e z ⟨rfl, hb⟩
    have HZ := hid (below_both HB6.out hb)
    clear hb
    go_wp2
    go_ret
    exact ⟨rfl, HZ.out⟩
end Go.Proofs.Ytchpoddfjbopbaa
