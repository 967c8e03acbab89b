/- Ints, Sectors, Extents, Writes. -/
import Derived.Test.YtchpoddfjbopbaaRe
namespace Go.Proofs.Ytchpoddfjbopbaa
open Go.RowKit Go.Lib

set_option maxHeartbeats 2000000 in
set_option maxRecDepth 100000 in
theorem rcloNums (s : List Nat) (er : Int) (g B : Nat) (w0 w : World) (hb0 : Below w0.heap.size w0 w) (hbg : w0.heap.size ≤ g) (hr : Rd w0 w g s er) (he : er ≠ 0 → s = []) (hl : s.length ≤ 90000) (hc : w.cell? ⟨B, 0, none⟩ = some (.func (.func 64) #[] #[])) :
    Calls Try.prog 97 #[.pointer (some ⟨g, 0, none⟩), .pointer (some ⟨B, 0, none⟩)] w (Got (dList dNum) (LV 3 1 crNum) ShSl w0 w g s er) := by
  have HP := hid (decNum_any s er g w0 w hb0 hbg hr he hl)
  clear hb0 hr he
  go_enter Try.func97, Try.ntmps97
  go_wp2_with fail
  refine HP.out.mono ?_
  rintro e w1 ⟨v1, rfl, hsh, hu, h⟩
  obtain ⟨hno, A1, n1, c1, rfl⟩ := hsh
  have HU := hid hu
  have HN := hid hno
  have HH := hid h
  clear hu h hno
  go_wp2
  go_ret
  exact ⟨_, rfl, ⟨HN.out, _, _, _, rfl⟩, HU.out, HH.out⟩

/- read Nums -/
set_option maxHeartbeats 2000000 in
set_option maxRecDepth 100000 in
theorem readNums_any (s : List Nat) (v : Value) (B : Nat) (w : World) (hv : Byt w v s) (hn : NilOk v) (hl : s.length ≤ 90000) (hB0 : B < w.heap.size) (hc : w.cell? ⟨B, 0, none⟩ = some (.func (.func 64) #[] #[])) :
    Calls Try.prog 96 #[v, .func (.func 97) #[] #[.pointer (some ⟨B, 0, none⟩)]] w (Red (dList dNum) (LV 3 1 crNum) (.slice none 0 0) w s) := by
  have hB := al1 w (.cells #[v, .int .i64 0] 143)
  have HD := hid (rcloNums s 0 w.heap.size B w (w.alloc (.cells #[v, .int .i64 0] 143)) hB (Nat.le_refl _) ⟨v, heap_alloc_new _ _, hv, hn⟩ (fun h => absurd rfl h) hl ((hB.cell (p := ⟨B, 0, none⟩) hB0).trans hc))
  have HCL := hid (fun (t : List Nat) (u : Value) (W : World) (h : Byt W u t) (hn : NilOk u) (hl : t.length ≤ 90000) => clone_any t u W h hn hl)
  have HBL : Hid (∀ (W W' : World) (u : Value) (x : (List Nat)), Below W.heap.size W W' → (LV 3 1 crNum) W u x → (LV 3 1 crNum) W' u x) := hid (fun _ _ _ _ hb h => lvnum_below hb h)
  have HB := hid hB
  obtain ⟨A, ca, rfl⟩ := byt_form hv
  clear hv hn hB hc
  go_enter Try.func96, Try.ntmps96
  go_wp2_with fail
  refine HD.out.mono ?_
  rintro e w1 ⟨v1, rfl, hsh, hu, h⟩
  obtain ⟨hno, A1, n1, c1, rfl⟩ := hsh
  have HU := hid hu
  have hz := hu.low.size
  have hz2 : w.heap.size + 1 ≤ w1.heap.size := by simpa using hz
  have hbw : Below w.heap.size w w1 := HB.out.trans (hu.below (Nat.le_refl _) (by simp))
  have HBW := hid hbw
  clear hu hbw hz
  rcases h with ⟨x, t, _, hd, hv, hr⟩ | ⟨er', he', ha, _, hr⟩
  · have ce := rd_err hr
    obtain ⟨u, hb, hu, hnu⟩ := hr
    have hw1 : Byt w1 u t := hu.below HBW.out
    obtain ⟨A4, c4, rfl⟩ := byt_form hu
    have c0 : w1.cell? ⟨w.heap.size, 0, none⟩ = some (.slice A4 t.length c4) := cell_of_row _ _ 0 _ _ _ hb
    have HD1 := hid hd
    have HV := hid hv
    have HC := hid (HCL.out t _ w1 hw1 hnu (by have := (shr_len (shr_many shr_num)) _ _ _ hd; omega))
    have HB8 := hid hw1.1
    clear hb hu hnu hd hv hw1
    go_wp2_with fail
    refine HC.out.mono ?_
    rintro e w2 ⟨v2, rfl, ho2, hb2⟩
    obtain ⟨a2, c2, rfl⟩ := own_form ho2
    have HO2 := hid ho2
    have HB2 := hid hb2
    clear ho2 hb2
    go_wp2
    refine bodyPost_ret (v := .tuple #[.slice A1 n1 c1, .slice a2 t.length c2, .int .i64 0]) (by simp [results, Try.results96, go_sem]) rfl ?_
    exact ⟨_, _, 0, rfl, below_both HBW.out HB2.out, .inl ⟨x, t, HD1.out, rfl, HBL.out w1 w2 _ _ HB2.out HV.out, HB8.out, _, HO2.out⟩⟩
  · have ce := rd_err hr
    have d1 : (er' == 0) = false := by simpa using he'
    have d2 : (er' != 0) = true := by simpa using he'
    have HA := hid (ha rfl)
    have HE := hid he'
    have HR := hid hr
    clear ha he' hr
    go_wp2_with fail
    go_quiet (fail)
    have HB9 : Hid (Below w.heap.size w (w1.drewN nq)) := hid ⟨HBW.out.os, HBW.out.tape, HBW.out.output, HBW.out.size, HBW.out.block⟩
    go_wp2
    refine bodyPost_ret (v := .tuple #[(.slice none 0 0), .slice none 0 0, .int .i64 er']) (by simp [results, Try.results96, go_sem]) rfl ?_
    exact ⟨_, _, er', rfl, HB9.out, .inr ⟨HA.out, HE.out, rfl, rfl⟩⟩

set_option maxHeartbeats 2000000 in
set_option maxRecDepth 100000 in
theorem rlstNums_any (s : List Nat) (v : Value) (w : World) (hv : Byt w v s) (hn : NilOk v) (hl : s.length ≤ 90000) :
    Calls Try.prog 70 #[v, .func (.func 64) #[] #[]] w (Red (dList dNum) (LV 3 1 crNum) (.slice none 0 0) w s) := by
  have HP := hid (readNums_any s v w.heap.size (w.alloc (.cells #[.func (.func 64) #[] #[]] 107)) (hv.below (al1 _ _)) hn hl (by simp) (by rw [cell_of_row _ _ _ _ _ _ (heap_alloc_new _ _)]; rfl))
  obtain ⟨A, ca, rfl⟩ := byt_form hv
  clear hv hn
  go_enter Try.func70, Try.ntmps70
  go_wp2_with fail
  refine HP.out.mono ?_
  rintro e w1 ⟨v1, r1, er1, rfl, hb1, h1⟩
  have HB := hid (al_back hb1)
  have HH := hid h1
  clear hb1 h1
  go_wp2
  refine bodyPost_ret (v := .tuple #[v1, r1, .int .i64 er1]) (by simp [results, Try.results70, go_sem]) rfl ?_
  exact ⟨_, _, _, rfl, HB.out, HH.out⟩

set_option maxHeartbeats 2000000 in
set_option maxRecDepth 100000 in
theorem ints_any (s : List Nat) (v : Value) (w : World) (hv : Byt w v s) (hn : NilOk v) (hl : s.length ≤ 90000) :
    Calls Try.prog 30 #[v] w (Red (dList dNum) (LV 3 1 crNum) (.slice none 0 0) w s) := by
  have HP := hid (rlstNums_any s v w hv hn hl)
  obtain ⟨A, ca, rfl⟩ := byt_form hv
  clear hv hn
  go_enter Try.func30, Try.ntmps30
  go_wp2_with fail
  refine HP.out.mono ?_
  rintro e w1 ⟨v1, r1, er1, rfl, hb1, h1⟩
  have HB := hid hb1
  have HH := hid h1
  clear hb1 h1
  go_wp2
  refine bodyPost_ret (v := .tuple #[v1, r1, .int .i64 er1]) (by simp [results, Try.results30, go_sem]) rfl ?_
  exact ⟨_, _, _, rfl, HB.out, HH.out⟩

set_option maxHeartbeats 2000000 in
set_option maxRecDepth 100000 in
theorem rcloSecs (s : List Nat) (er : Int) (g B : Nat) (w0 w : World) (hb0 : Below w0.heap.size w0 w) (hbg : w0.heap.size ≤ g) (hr : Rd w0 w g s er) (he : er ≠ 0 → s = []) (hl : s.length ≤ 90000) (hc : w.cell? ⟨B, 0, none⟩ = some (.func (.func 72) #[] #[])) :
    Calls Try.prog 100 #[.pointer (some ⟨g, 0, none⟩), .pointer (some ⟨B, 0, none⟩)] w (Got (dList dSec) (LV 59 8 crSec) ShSl w0 w g s er) := by
  have HP := hid (decSec_any s er g w0 w hb0 hbg hr he hl)
  clear hb0 hr he
  go_enter Try.func100, Try.ntmps100
  go_wp2_with fail
  refine HP.out.mono ?_
  rintro e w1 ⟨v1, rfl, hsh, hu, h⟩
  obtain ⟨hno, A1, n1, c1, rfl⟩ := hsh
  have HU := hid hu
  have HN := hid hno
  have HH := hid h
  clear hu h hno
  go_wp2
  go_ret
  exact ⟨_, rfl, ⟨HN.out, _, _, _, rfl⟩, HU.out, HH.out⟩

/- read Secs -/
set_option maxHeartbeats 2000000 in
set_option maxRecDepth 100000 in
theorem readSecs_any (s : List Nat) (v : Value) (B : Nat) (w : World) (hv : Byt w v s) (hn : NilOk v) (hl : s.length ≤ 90000) (hB0 : B < w.heap.size) (hc : w.cell? ⟨B, 0, none⟩ = some (.func (.func 72) #[] #[])) :
    Calls Try.prog 99 #[v, .func (.func 100) #[] #[.pointer (some ⟨B, 0, none⟩)]] w (Red (dList dSec) (LV 59 8 crSec) (.slice none 0 0) w s) := by
  have hB := al1 w (.cells #[v, .int .i64 0] 143)
  have HD := hid (rcloSecs s 0 w.heap.size B w (w.alloc (.cells #[v, .int .i64 0] 143)) hB (Nat.le_refl _) ⟨v, heap_alloc_new _ _, hv, hn⟩ (fun h => absurd rfl h) hl ((hB.cell (p := ⟨B, 0, none⟩) hB0).trans hc))
  have HCL := hid (fun (t : List Nat) (u : Value) (W : World) (h : Byt W u t) (hn : NilOk u) (hl : t.length ≤ 90000) => clone_any t u W h hn hl)
  have HBL : Hid (∀ (W W' : World) (u : Value) (x : (List (List Nat))), Below W.heap.size W W' → (LV 59 8 crSec) W u x → (LV 59 8 crSec) W' u x) := hid (fun _ _ _ _ hb h => lvsec_below hb h)
  have HB := hid hB
  obtain ⟨A, ca, rfl⟩ := byt_form hv
  clear hv hn hB hc
  go_enter Try.func99, Try.ntmps99
  go_wp2_with fail
  refine HD.out.mono ?_
  rintro e w1 ⟨v1, rfl, hsh, hu, h⟩
  obtain ⟨hno, A1, n1, c1, rfl⟩ := hsh
  have HU := hid hu
  have hz := hu.low.size
  have hz2 : w.heap.size + 1 ≤ w1.heap.size := by simpa using hz
  have hbw : Below w.heap.size w w1 := HB.out.trans (hu.below (Nat.le_refl _) (by simp))
  have HBW := hid hbw
  clear hu hbw hz
  rcases h with ⟨x, t, _, hd, hv, hr⟩ | ⟨er', he', ha, _, hr⟩
  · have ce := rd_err hr
    obtain ⟨u, hb, hu, hnu⟩ := hr
    have hw1 : Byt w1 u t := hu.below HBW.out
    obtain ⟨A4, c4, rfl⟩ := byt_form hu
    have c0 : w1.cell? ⟨w.heap.size, 0, none⟩ = some (.slice A4 t.length c4) := cell_of_row _ _ 0 _ _ _ hb
    have HD1 := hid hd
    have HV := hid hv
    have HC := hid (HCL.out t _ w1 hw1 hnu (by have := (shr_len (shr_many (shr_take 8))) _ _ _ hd; omega))
    have HB8 := hid hw1.1
    clear hb hu hnu hd hv hw1
    go_wp2_with fail
    refine HC.out.mono ?_
    rintro e w2 ⟨v2, rfl, ho2, hb2⟩
    obtain ⟨a2, c2, rfl⟩ := own_form ho2
    have HO2 := hid ho2
    have HB2 := hid hb2
    clear ho2 hb2
    go_wp2
    refine bodyPost_ret (v := .tuple #[.slice A1 n1 c1, .slice a2 t.length c2, .int .i64 0]) (by simp [results, Try.results99, go_sem]) rfl ?_
    exact ⟨_, _, 0, rfl, below_both HBW.out HB2.out, .inl ⟨x, t, HD1.out, rfl, HBL.out w1 w2 _ _ HB2.out HV.out, HB8.out, _, HO2.out⟩⟩
  · have ce := rd_err hr
    have d1 : (er' == 0) = false := by simpa using he'
    have d2 : (er' != 0) = true := by simpa using he'
    have HA := hid (ha rfl)
    have HE := hid he'
    have HR := hid hr
    clear ha he' hr
    go_wp2_with fail
    go_quiet (fail)
    have HB9 : Hid (Below w.heap.size w (w1.drewN nq)) := hid ⟨HBW.out.os, HBW.out.tape, HBW.out.output, HBW.out.size, HBW.out.block⟩
    go_wp2
    refine bodyPost_ret (v := .tuple #[(.slice none 0 0), .slice none 0 0, .int .i64 er']) (by simp [results, Try.results99, go_sem]) rfl ?_
    exact ⟨_, _, er', rfl, HB9.out, .inr ⟨HA.out, HE.out, rfl, rfl⟩⟩

set_option maxHeartbeats 2000000 in
set_option maxRecDepth 100000 in
theorem rlstSecs_any (s : List Nat) (v : Value) (w : World) (hv : Byt w v s) (hn : NilOk v) (hl : s.length ≤ 90000) :
    Calls Try.prog 71 #[v, .func (.func 72) #[] #[]] w (Red (dList dSec) (LV 59 8 crSec) (.slice none 0 0) w s) := by
  have HP := hid (readSecs_any s v w.heap.size (w.alloc (.cells #[.func (.func 72) #[] #[]] 117)) (hv.below (al1 _ _)) hn hl (by simp) (by rw [cell_of_row _ _ _ _ _ _ (heap_alloc_new _ _)]; rfl))
  obtain ⟨A, ca, rfl⟩ := byt_form hv
  clear hv hn
  go_enter Try.func71, Try.ntmps71
  go_wp2_with fail
  refine HP.out.mono ?_
  rintro e w1 ⟨v1, r1, er1, rfl, hb1, h1⟩
  have HB := hid (al_back hb1)
  have HH := hid h1
  clear hb1 h1
  go_wp2
  refine bodyPost_ret (v := .tuple #[v1, r1, .int .i64 er1]) (by simp [results, Try.results71, go_sem]) rfl ?_
  exact ⟨_, _, _, rfl, HB.out, HH.out⟩

set_option maxHeartbeats 2000000 in
set_option maxRecDepth 100000 in
theorem sectors_any (s : List Nat) (v : Value) (w : World) (hv : Byt w v s) (hn : NilOk v) (hl : s.length ≤ 90000) :
    Calls Try.prog 33 #[v] w (Red (dList dSec) (LV 59 8 crSec) (.slice none 0 0) w s) := by
  have HP := hid (rlstSecs_any s v w hv hn hl)
  obtain ⟨A, ca, rfl⟩ := byt_form hv
  clear hv hn
  go_enter Try.func33, Try.ntmps33
  go_wp2_with fail
  refine HP.out.mono ?_
  rintro e w1 ⟨v1, r1, er1, rfl, hb1, h1⟩
  have HB := hid hb1
  have HH := hid h1
  clear hb1 h1
  go_wp2
  refine bodyPost_ret (v := .tuple #[v1, r1, .int .i64 er1]) (by simp [results, Try.results33, go_sem]) rfl ?_
  exact ⟨_, _, _, rfl, HB.out, HH.out⟩

set_option maxHeartbeats 2000000 in
set_option maxRecDepth 100000 in
theorem rcloExts (s : List Nat) (er : Int) (g B : Nat) (w0 w : World) (hb0 : Below w0.heap.size w0 w) (hbg : w0.heap.size ≤ g) (hr : Rd w0 w g s er) (he : er ≠ 0 → s = []) (hl : s.length ≤ 90000) (hc : w.cell? ⟨B, 0, none⟩ = some (.func (.func 74) #[] #[])) :
    Calls Try.prog 103 #[.pointer (some ⟨g, 0, none⟩), .pointer (some ⟨B, 0, none⟩)] w (Got (dList dExt) (LV 66 2 crExt) ShSl w0 w g s er) := by
  have HP := hid (decExt_any s er g w0 w hb0 hbg hr he hl)
  clear hb0 hr he
  go_enter Try.func103, Try.ntmps103
  go_wp2_with fail
  refine HP.out.mono ?_
  rintro e w1 ⟨v1, rfl, hsh, hu, h⟩
  obtain ⟨hno, A1, n1, c1, rfl⟩ := hsh
  have HU := hid hu
  have HN := hid hno
  have HH := hid h
  clear hu h hno
  go_wp2
  go_ret
  exact ⟨_, rfl, ⟨HN.out, _, _, _, rfl⟩, HU.out, HH.out⟩

/- read Exts -/
set_option maxHeartbeats 2000000 in
set_option maxRecDepth 100000 in
theorem readExts_any (s : List Nat) (v : Value) (B : Nat) (w : World) (hv : Byt w v s) (hn : NilOk v) (hl : s.length ≤ 90000) (hB0 : B < w.heap.size) (hc : w.cell? ⟨B, 0, none⟩ = some (.func (.func 74) #[] #[])) :
    Calls Try.prog 102 #[v, .func (.func 103) #[] #[.pointer (some ⟨B, 0, none⟩)]] w (Red (dList dExt) (LV 66 2 crExt) (.slice none 0 0) w s) := by
  have hB := al1 w (.cells #[v, .int .i64 0] 143)
  have HD := hid (rcloExts s 0 w.heap.size B w (w.alloc (.cells #[v, .int .i64 0] 143)) hB (Nat.le_refl _) ⟨v, heap_alloc_new _ _, hv, hn⟩ (fun h => absurd rfl h) hl ((hB.cell (p := ⟨B, 0, none⟩) hB0).trans hc))
  have HCL := hid (fun (t : List Nat) (u : Value) (W : World) (h : Byt W u t) (hn : NilOk u) (hl : t.length ≤ 90000) => clone_any t u W h hn hl)
  have HBL : Hid (∀ (W W' : World) (u : Value) (x : (List (Nat × Nat))), Below W.heap.size W W' → (LV 66 2 crExt) W u x → (LV 66 2 crExt) W' u x) := hid (fun _ _ _ _ hb h => lvext_below hb h)
  have HB := hid hB
  obtain ⟨A, ca, rfl⟩ := byt_form hv
  clear hv hn hB hc
  go_enter Try.func102, Try.ntmps102
  go_wp2_with fail
  refine HD.out.mono ?_
  rintro e w1 ⟨v1, rfl, hsh, hu, h⟩
  obtain ⟨hno, A1, n1, c1, rfl⟩ := hsh
  have HU := hid hu
  have hz := hu.low.size
  have hz2 : w.heap.size + 1 ≤ w1.heap.size := by simpa using hz
  have hbw : Below w.heap.size w w1 := HB.out.trans (hu.below (Nat.le_refl _) (by simp))
  have HBW := hid hbw
  clear hu hbw hz
  rcases h with ⟨x, t, _, hd, hv, hr⟩ | ⟨er', he', ha, _, hr⟩
  · have ce := rd_err hr
    obtain ⟨u, hb, hu, hnu⟩ := hr
    have hw1 : Byt w1 u t := hu.below HBW.out
    obtain ⟨A4, c4, rfl⟩ := byt_form hu
    have c0 : w1.cell? ⟨w.heap.size, 0, none⟩ = some (.slice A4 t.length c4) := cell_of_row _ _ 0 _ _ _ hb
    have HD1 := hid hd
    have HV := hid hv
    have HC := hid (HCL.out t _ w1 hw1 hnu (by have := (shr_len (shr_many (shr_pair shr_num shr_num))) _ _ _ hd; omega))
    have HB8 := hid hw1.1
    clear hb hu hnu hd hv hw1
    go_wp2_with fail
    refine HC.out.mono ?_
    rintro e w2 ⟨v2, rfl, ho2, hb2⟩
    obtain ⟨a2, c2, rfl⟩ := own_form ho2
    have HO2 := hid ho2
    have HB2 := hid hb2
    clear ho2 hb2
    go_wp2
    refine bodyPost_ret (v := .tuple #[.slice A1 n1 c1, .slice a2 t.length c2, .int .i64 0]) (by simp [results, Try.results102, go_sem]) rfl ?_
    exact ⟨_, _, 0, rfl, below_both HBW.out HB2.out, .inl ⟨x, t, HD1.out, rfl, HBL.out w1 w2 _ _ HB2.out HV.out, HB8.out, _, HO2.out⟩⟩
  · have ce := rd_err hr
    have d1 : (er' == 0) = false := by simpa using he'
    have d2 : (er' != 0) = true := by simpa using he'
    have HA := hid (ha rfl)
    have HE := hid he'
    have HR := hid hr
    clear ha he' hr
    go_wp2_with fail
    go_quiet (fail)
    have HB9 : Hid (Below w.heap.size w (w1.drewN nq)) := hid ⟨HBW.out.os, HBW.out.tape, HBW.out.output, HBW.out.size, HBW.out.block⟩
    go_wp2
    refine bodyPost_ret (v := .tuple #[(.slice none 0 0), .slice none 0 0, .int .i64 er']) (by simp [results, Try.results102, go_sem]) rfl ?_
    exact ⟨_, _, er', rfl, HB9.out, .inr ⟨HA.out, HE.out, rfl, rfl⟩⟩

set_option maxHeartbeats 2000000 in
set_option maxRecDepth 100000 in
theorem rlstExts_any (s : List Nat) (v : Value) (w : World) (hv : Byt w v s) (hn : NilOk v) (hl : s.length ≤ 90000) :
    Calls Try.prog 73 #[v, .func (.func 74) #[] #[]] w (Red (dList dExt) (LV 66 2 crExt) (.slice none 0 0) w s) := by
  have HP := hid (readExts_any s v w.heap.size (w.alloc (.cells #[.func (.func 74) #[] #[]] 120)) (hv.below (al1 _ _)) hn hl (by simp) (by rw [cell_of_row _ _ _ _ _ _ (heap_alloc_new _ _)]; rfl))
  obtain ⟨A, ca, rfl⟩ := byt_form hv
  clear hv hn
  go_enter Try.func73, Try.ntmps73
  go_wp2_with fail
  refine HP.out.mono ?_
  rintro e w1 ⟨v1, r1, er1, rfl, hb1, h1⟩
  have HB := hid (al_back hb1)
  have HH := hid h1
  clear hb1 h1
  go_wp2
  refine bodyPost_ret (v := .tuple #[v1, r1, .int .i64 er1]) (by simp [results, Try.results73, go_sem]) rfl ?_
  exact ⟨_, _, _, rfl, HB.out, HH.out⟩

set_option maxHeartbeats 2000000 in
set_option maxRecDepth 100000 in
theorem extents_any (s : List Nat) (v : Value) (w : World) (hv : Byt w v s) (hn : NilOk v) (hl : s.length ≤ 90000) :
    Calls Try.prog 36 #[v] w (Red (dList dExt) (LV 66 2 crExt) (.slice none 0 0) w s) := by
  have HP := hid (rlstExts_any s v w hv hn hl)
  obtain ⟨A, ca, rfl⟩ := byt_form hv
  clear hv hn
  go_enter Try.func36, Try.ntmps36
  go_wp2_with fail
  refine HP.out.mono ?_
  rintro e w1 ⟨v1, r1, er1, rfl, hb1, h1⟩
  have HB := hid hb1
  have HH := hid h1
  clear hb1 h1
  go_wp2
  refine bodyPost_ret (v := .tuple #[v1, r1, .int .i64 er1]) (by simp [results, Try.results36, go_sem]) rfl ?_
  exact ⟨_, _, _, rfl, HB.out, HH.out⟩

set_option maxHeartbeats 2000000 in
set_option maxRecDepth 100000 in
theorem rcloWris (s : List Nat) (er : Int) (g B : Nat) (w0 w : World) (hb0 : Below w0.heap.size w0 w) (hbg : w0.heap.size ≤ g) (hr : Rd w0 w g s er) (he : er ≠ 0 → s = []) (hl : s.length ≤ 90000) (hc : w.cell? ⟨B, 0, none⟩ = some (.func (.func 76) #[] #[])) :
    Calls Try.prog 106 #[.pointer (some ⟨g, 0, none⟩), .pointer (some ⟨B, 0, none⟩)] w (Got (dList dWr) (LV 79 3 crWri) ShSl w0 w g s er) := by
  have HP := hid (decWri_any s er g w0 w hb0 hbg hr he hl)
  clear hb0 hr he
  go_enter Try.func106, Try.ntmps106
  go_wp2_with fail
  refine HP.out.mono ?_
  rintro e w1 ⟨v1, rfl, hsh, hu, h⟩
  obtain ⟨hno, A1, n1, c1, rfl⟩ := hsh
  have HU := hid hu
  have HN := hid hno
  have HH := hid h
  clear hu h hno
  go_wp2
  go_ret
  exact ⟨_, rfl, ⟨HN.out, _, _, _, rfl⟩, HU.out, HH.out⟩

/- read Wris -/
set_option maxHeartbeats 2000000 in
set_option maxRecDepth 100000 in
theorem readWris_any (s : List Nat) (v : Value) (B : Nat) (w : World) (hv : Byt w v s) (hn : NilOk v) (hl : s.length ≤ 90000) (hB0 : B < w.heap.size) (hc : w.cell? ⟨B, 0, none⟩ = some (.func (.func 76) #[] #[])) :
    Calls Try.prog 105 #[v, .func (.func 106) #[] #[.pointer (some ⟨B, 0, none⟩)]] w (Red (dList dWr) (LV 79 3 crWri) (.slice none 0 0) w s) := by
  have hB := al1 w (.cells #[v, .int .i64 0] 143)
  have HD := hid (rcloWris s 0 w.heap.size B w (w.alloc (.cells #[v, .int .i64 0] 143)) hB (Nat.le_refl _) ⟨v, heap_alloc_new _ _, hv, hn⟩ (fun h => absurd rfl h) hl ((hB.cell (p := ⟨B, 0, none⟩) hB0).trans hc))
  have HCL := hid (fun (t : List Nat) (u : Value) (W : World) (h : Byt W u t) (hn : NilOk u) (hl : t.length ≤ 90000) => clone_any t u W h hn hl)
  have HBL : Hid (∀ (W W' : World) (u : Value) (x : (List ((Nat × Nat) × List (List Nat)))), Below W.heap.size W W' → (LV 79 3 crWri) W u x → (LV 79 3 crWri) W' u x) := hid (fun _ _ _ _ hb h => lvwri_below hb h)
  have HB := hid hB
  obtain ⟨A, ca, rfl⟩ := byt_form hv
  clear hv hn hB hc
  go_enter Try.func105, Try.ntmps105
  go_wp2_with fail
  refine HD.out.mono ?_
  rintro e w1 ⟨v1, rfl, hsh, hu, h⟩
  obtain ⟨hno, A1, n1, c1, rfl⟩ := hsh
  have HU := hid hu
  have hz := hu.low.size
  have hz2 : w.heap.size + 1 ≤ w1.heap.size := by simpa using hz
  have hbw : Below w.heap.size w w1 := HB.out.trans (hu.below (Nat.le_refl _) (by simp))
  have HBW := hid hbw
  clear hu hbw hz
  rcases h with ⟨x, t, _, hd, hv, hr⟩ | ⟨er', he', ha, _, hr⟩
  · have ce := rd_err hr
    obtain ⟨u, hb, hu, hnu⟩ := hr
    have hw1 : Byt w1 u t := hu.below HBW.out
    obtain ⟨A4, c4, rfl⟩ := byt_form hu
    have c0 : w1.cell? ⟨w.heap.size, 0, none⟩ = some (.slice A4 t.length c4) := cell_of_row _ _ 0 _ _ _ hb
    have HD1 := hid hd
    have HV := hid hv
    have HC := hid (HCL.out t _ w1 hw1 hnu (by have := (shr_len (shr_many (shr_pair (shr_pair shr_num shr_num) (shr_len (shr_many (shr_take 8)))))) _ _ _ hd; omega))
    have HB8 := hid hw1.1
    clear hb hu hnu hd hv hw1
    go_wp2_with fail
    refine HC.out.mono ?_
    rintro e w2 ⟨v2, rfl, ho2, hb2⟩
    obtain ⟨a2, c2, rfl⟩ := own_form ho2
    have HO2 := hid ho2
    have HB2 := hid hb2
    clear ho2 hb2
    go_wp2
    refine bodyPost_ret (v := .tuple #[.slice A1 n1 c1, .slice a2 t.length c2, .int .i64 0]) (by simp [results, Try.results105, go_sem]) rfl ?_
    exact ⟨_, _, 0, rfl, below_both HBW.out HB2.out, .inl ⟨x, t, HD1.out, rfl, HBL.out w1 w2 _ _ HB2.out HV.out, HB8.out, _, HO2.out⟩⟩
  · have ce := rd_err hr
    have d1 : (er' == 0) = false := by simpa using he'
    have d2 : (er' != 0) = true := by simpa using he'
    have HA := hid (ha rfl)
    have HE := hid he'
    have HR := hid hr
    clear ha he' hr
    go_wp2_with fail
    go_quiet (fail)
    have HB9 : Hid (Below w.heap.size w (w1.drewN nq)) := hid ⟨HBW.out.os, HBW.out.tape, HBW.out.output, HBW.out.size, HBW.out.block⟩
    go_wp2
    refine bodyPost_ret (v := .tuple #[(.slice none 0 0), .slice none 0 0, .int .i64 er']) (by simp [results, Try.results105, go_sem]) rfl ?_
    exact ⟨_, _, er', rfl, HB9.out, .inr ⟨HA.out, HE.out, rfl, rfl⟩⟩

set_option maxHeartbeats 2000000 in
set_option maxRecDepth 100000 in
theorem rlstWris_any (s : List Nat) (v : Value) (w : World) (hv : Byt w v s) (hn : NilOk v) (hl : s.length ≤ 90000) :
    Calls Try.prog 75 #[v, .func (.func 76) #[] #[]] w (Red (dList dWr) (LV 79 3 crWri) (.slice none 0 0) w s) := by
  have HP := hid (readWris_any s v w.heap.size (w.alloc (.cells #[.func (.func 76) #[] #[]] 123)) (hv.below (al1 _ _)) hn hl (by simp) (by rw [cell_of_row _ _ _ _ _ _ (heap_alloc_new _ _)]; rfl))
  obtain ⟨A, ca, rfl⟩ := byt_form hv
  clear hv hn
  go_enter Try.func75, Try.ntmps75
  go_wp2_with fail
  refine HP.out.mono ?_
  rintro e w1 ⟨v1, r1, er1, rfl, hb1, h1⟩
  have HB := hid (al_back hb1)
  have HH := hid h1
  clear hb1 h1
  go_wp2
  refine bodyPost_ret (v := .tuple #[v1, r1, .int .i64 er1]) (by simp [results, Try.results75, go_sem]) rfl ?_
  exact ⟨_, _, _, rfl, HB.out, HH.out⟩

set_option maxHeartbeats 2000000 in
set_option maxRecDepth 100000 in
theorem writes_any (s : List Nat) (v : Value) (w : World) (hv : Byt w v s) (hn : NilOk v) (hl : s.length ≤ 90000) :
    Calls Try.prog 39 #[v] w (Red (dList dWr) (LV 79 3 crWri) (.slice none 0 0) w s) := by
  have HP := hid (rlstWris_any s v w hv hn hl)
  obtain ⟨A, ca, rfl⟩ := byt_form hv
  clear hv hn
  go_enter Try.func39, Try.ntmps39
  go_wp2_with fail
  refine HP.out.mono ?_
  rintro e w1 ⟨v1, r1, er1, rfl, hb1, h1⟩
  have HB := hid hb1
  have HH := hid h1
  clear hb1 h1
  go_wp2
  refine bodyPost_ret (v := .tuple #[v1, r1, .int .i64 er1]) (by simp [results, Try.results39, go_sem]) rfl ?_
  exact ⟨_, _, _, rfl, HB.out, HH.out⟩

end Go.Proofs.Ytchpoddfjbopbaa
