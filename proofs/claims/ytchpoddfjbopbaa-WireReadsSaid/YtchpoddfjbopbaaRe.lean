/- The reader's bytes; read, readList; Int, Bytes, Ints, Sectors, Extents, Writes. -/
import Derived.Test.YtchpoddfjbopbaaRd
import Derived.Deep.QuietTactic
import Derived.BigQuiet
namespace Go.Proofs.Ytchpoddfjbopbaa
open Go.RowKit Go.Lib

def VByt (w : World) (v : Value) (l : List Nat) : Prop := B8 l ∧ ∃ base, w.ownsRow base 5 1 v l.length (l.map byteV)
theorem vbyt_byt {w : World} {v : Value} {l : List Nat} (h : VByt w v l) : Byt w v l := by
  obtain ⟨h8, base, ho⟩ := h
  exact byt_of_own ho h8
theorem vbyt_nil {w : World} {v : Value} {l : List Nat} (h : VByt w v l) : NilOk v := by
  obtain ⟨h8, base, ho⟩ := h
  exact own_nilOk ho
theorem vbyt_below {w w' : World} {v : Value} {l : List Nat} (hb : Below w.heap.size w w') (h : VByt w v l) : VByt w' v l := by
  obtain ⟨h8, base, ho⟩ := h
  exact ⟨h8, base, own_keep ho (keep_below hb)⟩
theorem lvnum_below {w w' : World} {v : Value} {l : List Nat} (hb : Below w.heap.size w w') (h : LV 3 1 crNum w v l) : LV 3 1 crNum w' v l := by
  obtain ⟨base, rows, ho, hr⟩ := h
  exact ⟨base, rows, own_keep ho (keep_below hb), hr⟩
theorem lvsec_below {w w' : World} {v : Value} {l : List (List Nat)} (hb : Below w.heap.size w w') (h : LV 59 8 crSec w v l) : LV 59 8 crSec w' v l := by
  obtain ⟨base, rows, ho, hr⟩ := h
  exact ⟨base, rows, own_keep ho (keep_below hb), hr⟩
theorem lvext_below {w w' : World} {v : Value} {l : List (Nat × Nat)} (hb : Below w.heap.size w w') (h : LV 66 2 crExt w v l) : LV 66 2 crExt w' v l := by
  obtain ⟨base, rows, ho, hr⟩ := h
  exact ⟨base, rows, own_keep ho (keep_below hb), hr⟩
theorem lvwri_below {w w' : World} {v : Value} {l : List ((Nat × Nat) × List (List Nat))} (hb : Below w.heap.size w w') (h : LV 79 3 crWri w v l) : LV 79 3 crWri w' v l := by
  obtain ⟨base, rows, ho, hr⟩ := h
  exact ⟨base, rows, own_keep ho (keep_below hb), rowsOf_keep (fun r x h => crwri_keep (keep_below hb) h) hr⟩

/-- What a call answers that reads at the beginning of s. -/
def Red {α : Type} (D : Reads α) (V : World → Value → α → Prop) (none : Value) (w : World) (s : List Nat) (e : Ending) (w' : World) : Prop :=
  ∃ v r er, e = .returned (.tuple #[v, r, .int .i64 er]) ∧ Below w.heap.size w w' ∧ ((∃ x t, D s = .ok (x, t) ∧ er = 0 ∧ V w' v x ∧ VByt w' r t) ∨ (D s = .error er ∧ er ≠ 0 ∧ v = none ∧ r = .slice .none 0 0))

/- BYTES -/
set_option maxHeartbeats 2000000 in
set_option maxRecDepth 100000 in
theorem rbytes_any (s : List Nat) (er : Int) (g : Nat) (w0 w : World) (hb0 : Below w0.heap.size w0 w) (hbg : w0.heap.size ≤ g) (hr : Rd w0 w g s er) (he : er ≠ 0 → s = []) (hl : s.length ≤ 90000) :
    Calls Try.prog 68 #[.pointer (some ⟨g, 0, none⟩)] w (Got dBytes VByt (fun v => ∃ A n c, v = .slice A n c) w0 w g s er) := by
  have hb0s := hb0.size
  have HP := hid (rlen_any s er g w0 w hb0 hr he hl)
  have HT := hid (fun (s' : List Nat) (er' : Int) (n : Nat) (W : World) (hr : Rd w0 W g s' er') (hn : n ≤ 65536) (hl : s'.length ≤ 90000) => take_any s' er' n g w0 W hr hn hl)
  have HB0 := hid hb0
  clear hr he hb0
  go_enter Try.func68, Try.ntmps68
  go_wp2_with fail
  refine HP.out.mono ?_
  rintro e w1 ⟨v1, rfl, ⟨n, hn, rfl⟩, hu1, h1⟩
  obtain ⟨s1, er1, hr1, hs1, hl1, h1⟩ := got_after shr_length h1
  have HU1 := hid hu1
  have HC := hid (HT.out s1 er1 n w1 hr1 hn (by omega))
  have HS1 := hid hs1
  have H1 := hid h1
  clear h1 hs1 hr1 hu1
  go_wp2_with fail
  refine HC.out.mono ?_
  rintro e w2 ht
  obtain ⟨v2, l, s2, er2, rfl, hn2, hu2, hv2, hl2, hr2, hs2, hsl, hd2⟩ := took_one ht HS1.out
  have HU2 := hid (HU1.out.trans hu2)
  have HK := hid (clone_any l v2 w2 (hv2.below (below_upd HB0.out HU2.out hbg hb0s)) hn2 (by omega))
  have HV2 := hid hv2
  have HR2 := hid hr2
  have HS2 := hid hs2
  have HD2 := hid hd2
  clear ht hn2 hu2 hv2 hr2 hs2 hd2
  go_wp2_with fail
  refine HK.out.mono ?_
  rintro e w3 ⟨v3, rfl, ho3, hb3⟩
  obtain ⟨a3, c3, rfl⟩ := own_form ho3
  have HU3 := hid (HU2.out.of_below hb3)
  have HO3 := hid ho3
  have HB3 := hid hb3
  clear ho3 hb3
  go_wp2
  go_ret
  refine ⟨_, rfl, ⟨_, _, _, rfl⟩, HU3.out, ?_⟩
  have hr3 : Rd w0 w3 g s2 er2 := by
    obtain ⟨u, hb, h2⟩ := HR2.out
    exact ⟨u, (HB3.out.block g (box_lt hb)).trans hb, h2⟩
  have hV : VByt w3 (.slice a3 l.length c3) l := ⟨HV2.out.1, _, HO3.out⟩
  refine got_of ?_ hr3 HS2.out
  rcases H1.out with ⟨h0, he1, y, hy, hd1⟩ | ⟨hne, h2, h3⟩
  · obtain rfl := vnat hy
    have hD : dBytes s = dTake y s1 := by
      unfold dLength at hd1
      unfold dBytes
      rcases hd : dNum s with e | ⟨m, u⟩
      · rw [dLen_err hd] at hd1; cases hd1
      · by_cases hb : 65536 < m
        · rw [dLen_long hd hb] at hd1; cases hd1
        · rw [dLen_ok hd hb] at hd1
          cases hd1
          exact dLen_ok hd hb
    rcases HD2.out with ⟨e1, e2, e3, e4⟩ | ⟨e1, e2, e3, e4⟩
    · refine .inl ⟨h0, by rw [e1, he1], l, hV, ?_⟩
      rw [hD]
      unfold dTake
      rw [if_neg (by omega), e3, e4]
    · refine .inr ⟨by rw [e4, if_pos he1]; decide, fun _ => ?_, fun h => absurd h0 h⟩
      rw [hD, e4, if_pos he1]
      unfold dTake
      rw [if_pos e1]
  · have hE : er2 = er1 := by
      rcases HD2.out with ⟨e1, _⟩ | ⟨_, _, _, e4⟩
      · exact e1
      · rw [e4, if_neg hne]
    refine .inr ⟨by rw [hE]; exact hne, fun h0 => ?_, fun h0 => by rw [hE]; exact h3 h0⟩
    rw [hE]
    have h := h2 h0
    unfold dLength at h
    unfold dBytes
    rcases hd : dNum s with e | ⟨m, u⟩
    · rw [dLen_err hd] at h ⊢; cases h; rfl
    · by_cases hb : 65536 < m
      · rw [dLen_long hd hb] at h ⊢; cases h; rfl
      · rw [dLen_ok hd hb] at h; cases h

/- read Int -/
set_option maxHeartbeats 2000000 in
set_option maxRecDepth 100000 in
theorem readInt_any (s : List Nat) (v : Value) (w : World) (hv : Byt w v s) (hn : NilOk v) (hl : s.length ≤ 90000) :
    Calls Try.prog 63 #[v, .func (.func 64) #[] #[]] w (Red dNum VNat (.int .i64 0) w s) := by
  have hB := al1 w (.cells #[v, .int .i64 0] 143)
  have HD := hid (rnum_any s 0 w.heap.size w (w.alloc (.cells #[v, .int .i64 0] 143)) hB ⟨v, heap_alloc_new _ _, hv, hn⟩ (fun h => absurd rfl h) hl)
  have HCL := hid (fun (t : List Nat) (u : Value) (W : World) (h : Byt W u t) (hn : NilOk u) (hl : t.length ≤ 90000) => clone_any t u W h hn hl)
  have HBL : Hid (∀ (W W' : World) (u : Value) (x : Nat), Below W.heap.size W W' → VNat W u x → VNat W' u x) := hid (fun _ _ _ _ hb h => h)
  have HB := hid hB
  obtain ⟨A, ca, rfl⟩ := byt_form hv
  clear hv hn hB
  go_enter Try.func63, Try.ntmps63
  go_wp2_with fail
  refine HD.out.mono ?_
  rintro e w1 ⟨v1, rfl, hsh, hu, h⟩
  obtain ⟨m, hm, rfl⟩ := hsh
  have HU := hid hu
  have hz := hu.low.size
  have hz2 : w.heap.size + 1 ≤ w1.heap.size := by simpa using hz
  have hbw : Below w.heap.size w w1 := HB.out.trans (hu.below (Nat.le_refl _) (by simp))
  have HBW := hid hbw
  clear hu hbw hz
  rcases h with ⟨x, t, _, hd, hv, hr⟩ | ⟨er', he', ha, _, hr⟩
  · have ce := rd_err hr
    obtain ⟨u, hb, hu, hnu⟩ := hr
    have hw1 : Byt w1 u t := hu.below HBW.out
    obtain ⟨A4, c4, rfl⟩ := byt_form hu
    have c0 : w1.cell? ⟨w.heap.size, 0, none⟩ = some (.slice A4 t.length c4) := cell_of_row _ _ 0 _ _ _ hb
    have HD1 := hid hd
    have HV := hid hv
    have HC := hid (HCL.out t _ w1 hw1 hnu (by have := shr_num _ _ _ hd; omega))
    have HB8 := hid hw1.1
    clear hb hu hnu hd hv hw1
    go_wp2_with fail
    refine HC.out.mono ?_
    rintro e w2 ⟨v2, rfl, ho2, hb2⟩
    obtain ⟨a2, c2, rfl⟩ := own_form ho2
    have HO2 := hid ho2
    have HB2 := hid hb2
    clear ho2 hb2
    go_wp2
    refine bodyPost_ret (v := .tuple #[.int .i64 (m : Int), .slice a2 t.length c2, .int .i64 0]) (by simp [results, Try.results63, go_sem]) rfl ?_
    exact ⟨_, _, 0, rfl, below_both HBW.out HB2.out, .inl ⟨x, t, HD1.out, rfl, HBL.out w1 w2 _ _ HB2.out HV.out, HB8.out, _, HO2.out⟩⟩
  · have ce := rd_err hr
    have d1 : (er' == 0) = false := by simpa using he'
    have d2 : (er' != 0) = true := by simpa using he'
    have HA := hid (ha rfl)
    have HE := hid he'
    have HR := hid hr
    clear ha he' hr
    go_wp2_with fail
    go_quiet (fail)
    have HB9 : Hid (Below w.heap.size w (w1.drewN nq)) := hid ⟨HBW.out.os, HBW.out.tape, HBW.out.output, HBW.out.size, HBW.out.block⟩
    go_wp2
    refine bodyPost_ret (v := .tuple #[(.int .i64 0), .slice none 0 0, .int .i64 er']) (by simp [results, Try.results63, go_sem]) rfl ?_
    exact ⟨_, _, er', rfl, HB9.out, .inr ⟨HA.out, HE.out, rfl, rfl⟩⟩

/- read Bytes -/
set_option maxHeartbeats 2000000 in
set_option maxRecDepth 100000 in
theorem readBytes_any (s : List Nat) (v : Value) (w : World) (hv : Byt w v s) (hn : NilOk v) (hl : s.length ≤ 90000) :
    Calls Try.prog 67 #[v, .func (.func 68) #[] #[]] w (Red dBytes VByt (.slice none 0 0) w s) := by
  have hB := al1 w (.cells #[v, .int .i64 0] 143)
  have HD := hid (rbytes_any s 0 w.heap.size w (w.alloc (.cells #[v, .int .i64 0] 143)) hB (Nat.le_refl _) ⟨v, heap_alloc_new _ _, hv, hn⟩ (fun h => absurd rfl h) hl)
  have HCL := hid (fun (t : List Nat) (u : Value) (W : World) (h : Byt W u t) (hn : NilOk u) (hl : t.length ≤ 90000) => clone_any t u W h hn hl)
  have HBL : Hid (∀ (W W' : World) (u : Value) (x : (List Nat)), Below W.heap.size W W' → VByt W u x → VByt W' u x) := hid (fun _ _ _ _ hb h => vbyt_below hb h)
  have HB := hid hB
  obtain ⟨A, ca, rfl⟩ := byt_form hv
  clear hv hn hB
  go_enter Try.func67, Try.ntmps67
  go_wp2_with fail
  refine HD.out.mono ?_
  rintro e w1 ⟨v1, rfl, hsh, hu, h⟩
  obtain ⟨A1, n1, c1, rfl⟩ := hsh
  have HU := hid hu
  have hz := hu.low.size
  have hz2 : w.heap.size + 1 ≤ w1.heap.size := by simpa using hz
  have hbw : Below w.heap.size w w1 := HB.out.trans (hu.below (Nat.le_refl _) (by simp))
  have HBW := hid hbw
  clear hu hbw hz
  rcases h with ⟨x, t, _, hd, hv, hr⟩ | ⟨er', he', ha, _, hr⟩
  · have ce := rd_err hr
    obtain ⟨u, hb, hu, hnu⟩ := hr
    have hw1 : Byt w1 u t := hu.below HBW.out
    obtain ⟨A4, c4, rfl⟩ := byt_form hu
    have c0 : w1.cell? ⟨w.heap.size, 0, none⟩ = some (.slice A4 t.length c4) := cell_of_row _ _ 0 _ _ _ hb
    have HD1 := hid hd
    have HV := hid hv
    have HC := hid (HCL.out t _ w1 hw1 hnu (by have := (shr_len shr_take) _ _ _ hd; omega))
    have HB8 := hid hw1.1
    clear hb hu hnu hd hv hw1
    go_wp2_with fail
    refine HC.out.mono ?_
    rintro e w2 ⟨v2, rfl, ho2, hb2⟩
    obtain ⟨a2, c2, rfl⟩ := own_form ho2
    have HO2 := hid ho2
    have HB2 := hid hb2
    clear ho2 hb2
    go_wp2
    refine bodyPost_ret (v := .tuple #[.slice A1 n1 c1, .slice a2 t.length c2, .int .i64 0]) (by simp [results, Try.results67, go_sem]) rfl ?_
    exact ⟨_, _, 0, rfl, below_both HBW.out HB2.out, .inl ⟨x, t, HD1.out, rfl, HBL.out w1 w2 _ _ HB2.out HV.out, HB8.out, _, HO2.out⟩⟩
  · have ce := rd_err hr
    have d1 : (er' == 0) = false := by simpa using he'
    have d2 : (er' != 0) = true := by simpa using he'
    have HA := hid (ha rfl)
    have HE := hid he'
    have HR := hid hr
    clear ha he' hr
    go_wp2_with fail
    go_quiet (fail)
    have HB9 : Hid (Below w.heap.size w (w1.drewN nq)) := hid ⟨HBW.out.os, HBW.out.tape, HBW.out.output, HBW.out.size, HBW.out.block⟩
    go_wp2
    refine bodyPost_ret (v := .tuple #[(.slice none 0 0), .slice none 0 0, .int .i64 er']) (by simp [results, Try.results67, go_sem]) rfl ?_
    exact ⟨_, _, er', rfl, HB9.out, .inr ⟨HA.out, HE.out, rfl, rfl⟩⟩

set_option maxHeartbeats 2000000 in
set_option maxRecDepth 100000 in
theorem int_any (s : List Nat) (v : Value) (w : World) (hv : Byt w v s) (hn : NilOk v) (hl : s.length ≤ 90000) :
    Calls Try.prog 26 #[v] w (Red dNum VNat (.int .i64 0) w s) := by
  have HP := hid (readInt_any s v w hv hn hl)
  obtain ⟨A, ca, rfl⟩ := byt_form hv
  clear hv hn
  go_enter Try.func26, Try.ntmps26
  go_wp2_with fail
  refine HP.out.mono ?_
  rintro e w1 ⟨v1, r1, er1, rfl, hb1, h1⟩
  have HB := hid hb1
  have HH := hid h1
  clear hb1 h1
  go_wp2
  refine bodyPost_ret (v := .tuple #[v1, r1, .int .i64 er1]) (by simp [results, Try.results26, go_sem]) rfl ?_
  exact ⟨_, _, _, rfl, HB.out, HH.out⟩

set_option maxHeartbeats 2000000 in
set_option maxRecDepth 100000 in
theorem bytes_any (s : List Nat) (v : Value) (w : World) (hv : Byt w v s) (hn : NilOk v) (hl : s.length ≤ 90000) :
    Calls Try.prog 28 #[v] w (Red dBytes VByt (.slice none 0 0) w s) := by
  have HP := hid (readBytes_any s v w hv hn hl)
  obtain ⟨A, ca, rfl⟩ := byt_form hv
  clear hv hn
  go_enter Try.func28, Try.ntmps28
  go_wp2_with fail
  refine HP.out.mono ?_
  rintro e w1 ⟨v1, r1, er1, rfl, hb1, h1⟩
  have HB := hid hb1
  have HH := hid h1
  clear hb1 h1
  go_wp2
  refine bodyPost_ret (v := .tuple #[v1, r1, .int .i64 er1]) (by simp [results, Try.results28, go_sem]) rfl ?_
  exact ⟨_, _, _, rfl, HB.out, HH.out⟩

end Go.Proofs.Ytchpoddfjbopbaa
