/- Encode. -/
import Derived.Test.YtcmmkeadbedooaaK0
namespace Go.Proofs.Ytcmmkeadbedooaa
open Go.RowKit Go.Lib

/-- What Encode answers. -/
def encS (k q : Int) (p : List Nat) : Except Int (List Sect) :=
  if k < 1 ∨ 255 < k ∨ q < 1 ∨ 4294967295 < q then .error 2 else if 4096 < p.length then .error 5 else .ok (encR k.toNat q.toNat p)
def EncQ (w : World) (r : Except Int (List Sect)) (e : Ending) (w' : World) : Prop :=
  Below w.heap.size w w' ∧ ((∃ l v, r = .ok l ∧ e = .returned (.tuple #[v, .int .i64 0]) ∧ Secs l ∧ w'.ownsRow w.heap.size 52 8 v l.length (l.map cSec).flatten) ∨ ∃ er, r = .error er ∧ e = .returned (.tuple #[.slice none 0 0, .int .i64 er]))

theorem make_bytes (M : Nat) (W : World) (hM : M ≤ 1000000) : (Instr.makeSlice 25 (.int .i64 (M : Int)) (.int .i64 (M : Int))).run Try.prog W = .ok (.slice (some ⟨W.heap.size, 0, none⟩) M M) (W.alloc (.cells ((pad M []).map byteV).toArray 5)) := by
  obtain ⟨i0, hi, hz0, hz1, hz2⟩ := info_parts info5
  have h := run_make (P := Try.prog) W 25 5 i0 _ Try.underlying25 hi hz0 .i64 .i64 (M : Int) (M : Int) (by omega) (by omega) (by rw [hz2]; omega) (by omega)
  rw [hz1, Int.toNat_natCast] at h
  rw [h]
  congr 3
  apply Array.ext'
  unfold madeCells
  rw [pad_nil]
  apply List.ext_getElem?
  intro i
  simp only [Array.toList_map, Array.toList_range, List.getElem?_map, Nat.mul_one]
  rcases Nat.lt_or_ge i M with hlt | hge
  · rw [List.getElem?_range hlt, List.getElem?_replicate, if_pos hlt]
    simp [Value.cells, byteV, Nat.mod_one]
  · rw [List.getElem?_eq_none (by rw [List.length_range]; exact hge), List.getElem?_eq_none (by rw [List.length_replicate]; exact hge)]
    rfl
set_option maxHeartbeats 4000000 in
set_option maxRecDepth 100000 in
theorem encode_any (k q : Int) (p : List Nat) (v : Value) (w : World) (hv : Byt w v p) (hk1 : k < 9223372036854775808) (hq1 : q < 9223372036854775808) :
    Calls Try.prog 14 #[.agg #[.int .i64 k, .int .i64 q, v]] w (EncQ w (encS k q p)) := by
  obtain ⟨A, c, rfl⟩ := byt_form hv
  have hplen := byt_len hv
  obtain ⟨W, hW⟩ : ∃ W, w.alloc (.cells #[.int .i64 k, .int .i64 q, .slice A p.length c] 27) = W := ⟨_, rfl⟩
  have hbx : W.heap[w.heap.size]? = some (.cells #[.int .i64 k, .int .i64 q, .slice A p.length c] 27) := by rw [← hW]; exact heap_alloc_new _ _
  have hbW : Below w.heap.size w W := by rw [← hW]; exact al1 _ _
  have c0 : W.cell? ⟨w.heap.size, 0, none⟩ = some (.int .i64 k) := cell_of_row _ _ 0 _ _ _ hbx
  have c1 : W.cell? ⟨w.heap.size, 1, none⟩ = some (.int .i64 q) := cell_of_row _ _ 1 _ _ _ hbx
  have c2 : W.cell? ⟨w.heap.size, 2, none⟩ = some (.slice A p.length c) := cell_of_row _ _ 2 _ _ _ hbx
  have HBX := hid hbx
  have HBW := hid hbW
  have HV := hid hv
  have HW := hid hW
  clear hbx hbW hv hW
  by_cases h0 : k < 1
  · have d0 : decide (k < 1) = true := decide_eq_true h0
    have HE : Hid (encS k q p = .error 2) := hid (by unfold encS; rw [if_pos (.inl h0)])
    go_enter Try.func14, Try.ntmps14
    go_wp2
    refine bodyPost_ret (v := .tuple #[.slice none 0 0, .int .i64 2]) (by simp [results, Try.results14, go_sem]) rfl ?_
    exact ⟨by rw [HW.out]; exact HBW.out, .inr ⟨2, HE.out, rfl⟩⟩
  have d0 : decide (k < 1) = false := decide_eq_false h0
  by_cases h1 : 255 < k
  · have d1 : decide (255 < k) = true := decide_eq_true h1
    have HE : Hid (encS k q p = .error 2) := hid (by unfold encS; rw [if_pos (.inr (.inl h1))])
    go_enter Try.func14, Try.ntmps14
    go_wp2
    refine bodyPost_ret (v := .tuple #[.slice none 0 0, .int .i64 2]) (by simp [results, Try.results14, go_sem]) rfl ?_
    exact ⟨by rw [HW.out]; exact HBW.out, .inr ⟨2, HE.out, rfl⟩⟩
  have d1 : decide (255 < k) = false := decide_eq_false h1
  by_cases h2 : q < 1
  · have d2 : decide (q < 1) = true := decide_eq_true h2
    have HE : Hid (encS k q p = .error 2) := hid (by unfold encS; rw [if_pos (.inr (.inr (.inl h2)))])
    go_enter Try.func14, Try.ntmps14
    go_wp2
    refine bodyPost_ret (v := .tuple #[.slice none 0 0, .int .i64 2]) (by simp [results, Try.results14, go_sem]) rfl ?_
    exact ⟨by rw [HW.out]; exact HBW.out, .inr ⟨2, HE.out, rfl⟩⟩
  have d2 : decide (q < 1) = false := decide_eq_false h2
  by_cases h3 : 4294967295 < q
  · have d3 : decide (4294967295 < q) = true := decide_eq_true h3
    have HE : Hid (encS k q p = .error 2) := hid (by unfold encS; rw [if_pos (.inr (.inr (.inr h3)))])
    go_enter Try.func14, Try.ntmps14
    go_wp2
    refine bodyPost_ret (v := .tuple #[.slice none 0 0, .int .i64 2]) (by simp [results, Try.results14, go_sem]) rfl ?_
    exact ⟨by rw [HW.out]; exact HBW.out, .inr ⟨2, HE.out, rfl⟩⟩
  have d3 : decide (4294967295 < q) = false := decide_eq_false h3
  by_cases h4 : 4096 < p.length
  · have d4 : decide ((4096 : Int) < (p.length : Int)) = true := decide_eq_true (by omega)
    have HE : Hid (encS k q p = .error 5) := hid (by unfold encS; rw [if_neg (by omega), if_pos h4])
    go_enter Try.func14, Try.ntmps14
    go_wp2
    refine bodyPost_ret (v := .tuple #[.slice none 0 0, .int .i64 5]) (by simp [results, Try.results14, go_sem]) rfl ?_
    exact ⟨by rw [HW.out]; exact HBW.out, .inr ⟨5, HE.out, rfl⟩⟩
  have d4 : decide ((4096 : Int) < (p.length : Int)) = false := decide_eq_false (by omega)
  obtain ⟨kn, rfl⟩ : ∃ kn : Nat, k = kn := ⟨k.toNat, by omega⟩
  obtain ⟨qn, rfl⟩ : ∃ qn : Nat, q = qn := ⟨q.toNat, by omega⟩
  have HE : Hid (encS kn qn p = .ok (encR kn qn p)) := hid (by unfold encS; rw [if_neg (by omega), if_neg (by omega)]; rfl)
  obtain ⟨L, hL⟩ : ∃ L, p.length = L := ⟨_, rfl⟩
  have HLL := hid hL
  rw [hL] at h4 d4 c2 HBX HV HW hplen ⊢
  clear hL
  obtain ⟨N, hN⟩ : ∃ N, size L = N := ⟨_, rfl⟩
  have hNs : 7 + L ≤ 4 * N ∧ N ≤ 1100 := by rw [← hN]; unfold size; omega
  have hsz : szI (L : Int) = (N : Int) := by rw [← hN]; exact szI_nat (by omega)
  obtain ⟨M, hM⟩ : ∃ M, 4 * N = M := ⟨_, rfl⟩
  have hwM : wrap64 (4 * (N : Int)) = (M : Int) := by rw [show (4 * (N : Int)) = (M : Int) by omega]; exact IntWalk.wrap64_in (M : Int) (by omega)
  have hM1 : 7 + L ≤ M ∧ M ≤ 4400 := by omega
  obtain ⟨W2, hW2⟩ : ∃ W2, W.alloc (.cells ((pad M []).map byteV).toArray 5) = W2 := ⟨_, rfl⟩
  have hmk : (Instr.makeSlice 25 (.int .i64 (M : Int)) (.int .i64 (M : Int))).run Try.prog W = .ok (.slice (some ⟨W.heap.size, 0, none⟩) M M) W2 := by
    rw [← hW2]; exact make_bytes M W (by omega)
  have HR2 : Hid (W2.heap[W.heap.size]? = some (.cells ((pad M []).map byteV).toArray 5)) := by rw [← hW2]; exact hid (heap_alloc_new _ _)
  have HB2 : Hid (Below W.heap.size W W2) := by rw [← hW2]; exact hid (al1 _ _)
  have HMM := hid hM
  have HM1 := hid hM1
  clear hM hM1 hW2
  have HSZ := hid hsz
  have HNN := hid hN
  have HNS := hid hNs
  have HK := hid (show 0 < kn ∧ kn < 256 ∧ 0 < qn ∧ qn < 4294967296 ∧ L ≤ 4096 by omega)
  clear hsz hN hNs h0 h1 h2 h3 h4 hk1 hq1 hplen
  go_enter Try.func14, Try.ntmps14
  go_wp2_with fail
  rw [HW.out]
  go_wp2_with fail
  refine (size_any (L : Int) _).mono ?_
  rintro e w' ⟨rfl, rfl⟩
  rw [HSZ.out]
  go_wp2_with fail
  refine (over_any _ _ _ _).mono ?_
  rintro e w3 ⟨rfl, hb3⟩
  obtain ⟨W4, hW4⟩ : ∃ W4, w3.alloc (.cells #[.slice (some ⟨W.heap.size, 0, none⟩) M M, .slice (some ⟨W.heap.size, 0, none⟩) M M] 62) = W4 := ⟨_, rfl⟩
  have hg4 : W4.heap[w3.heap.size]? = some (.cells #[.slice (some ⟨W.heap.size, 0, none⟩) M M, .slice (some ⟨W.heap.size, 0, none⟩) M M] 62) := by rw [← hW4]; exact heap_alloc_new _ _
  have hb4 : Below w3.heap.size w3 W4 := by rw [← hW4]; exact al1 _ _
  have hR4 : W4.heap[W.heap.size]? = some (.cells ((pad M []).map byteV).toArray 5) := by
    have hlt := box_lt HR2.out
    rw [hb4.block W.heap.size (Nat.lt_of_lt_of_le hlt hb3.size), hb3.block W.heap.size hlt, HR2.out]
  have hbW4 : Below W.heap.size W W4 := HB2.out.trans ((hb3.trans (hb4.mono hb3.size)).mono HB2.out.size)
  have hpl : (pad M []).length = M := pad_len (Nat.zero_le _)
  have hWg : W.heap.size < w3.heap.size := Nat.lt_of_lt_of_le (box_lt HR2.out) hb3.size
  have hls4 : Ls W4 w3.heap.size W.heap.size 0 (pad M []) (.slice (some ⟨W.heap.size, 0, none⟩) M M) :=
    ⟨some ⟨W.heap.size, 0, none⟩, by rw [hpl]; exact hg4, fun _ => rfl, hR4, Nat.zero_le _, by omega, by rw [hpl]; have := HM1.out; omega⟩
  have HP1 := hid (put_ls w3.heap.size W.heap.size 0 1 kn (pad M []) _ W4 hls4 (by rw [hpl]; have := HM1.out; omega) (by have := HK.out; omega) (by omega))
  have hwlt : w.heap.size < W.heap.size := box_lt HBX.out
  have HX4 := hid (hbW4.block w.heap.size hwlt)
  have c0' : (w3.alloc (.cells #[.slice (some ⟨W.heap.size, 0, none⟩) M M, .slice (some ⟨W.heap.size, 0, none⟩) M M] 62)).cell? ⟨w.heap.size, 0, none⟩ = some (.int .i64 (kn : Int)) := by rw [hW4]; exact (hbW4.cell (p := ⟨w.heap.size, 0, none⟩) hwlt).trans c0
  have HB4 := hid hbW4
  have HWg := hid hWg
  have HW4 := hid hW4
  clear hb3 hb4 hR4 hbW4 hls4 hg4 hpl hW4 hWg HR2 HB2 hmk c0 c1 c2
  go_wp2_with fail
  rw [HW4.out]
  refine HP1.out.mono ?_
  rintro e w5 ⟨⟨v5, rfl⟩, hls5, hu5⟩
  obtain ⟨g, hg⟩ : ∃ g, w3.heap.size = g := ⟨_, rfl⟩
  obtain ⟨R, hR⟩ : ∃ R, W.heap.size = R := ⟨_, rfl⟩
  obtain ⟨x, hx⟩ : ∃ x, w.heap.size = x := ⟨_, rfl⟩
  rw [hg, hR] at hls5 hu5
  rw [hg, hR] at HWg
  rw [hR, hx] at hwlt
  rw [hx] at HX4 HBX
  rw [hR] at HB4
  have hxg : x ≠ g := by have := HWg.out; omega
  have hxR : x ≠ R := by omega
  have hxW4 : x < W4.heap.size := by have := HB4.out.size; omega
  have HX := HX4.out.trans HBX.out
  have e1 : spl (pad M []) 0 (le 1 kn) = pad M (le 1 kn) := by
    have h := spl_pad (M := M) (x := []) (s := le 1 kn) (by have := HM1.out; rw [le_length, List.length_nil]; omega)
    simpa using h
  rw [e1, show 0 + 1 = 1 from rfl] at hls5
  have HX5 := (hu5.block x hxW4 hxg hxR).trans HX
  have c2 : w5.cell? ⟨w.heap.size, 2, none⟩ = some (.slice A L c) := by rw [hx]; exact cell_of_row _ _ 2 _ _ _ HX5
  have hpm : ∀ y : List Nat, y.length ≤ M → (pad M y).length = M := fun y => pad_len
  have HP2 := hid (put_ls g R 1 2 L (pad M (le 1 kn)) _ w5 hls5 (by rw [hpm _ (by rw [le_length]; have := HM1.out; omega)]; have := HM1.out; omega) (by have := HK.out; omega) (by omega))
  have HU5 := hid hu5
  have HBX5 := hid HX5
  have HGE := hid hg
  have HRE := hid hR
  have HXE := hid hx
  clear hls5 hu5 hg hR hx HX HX5 HX4 HBX HP1 c0' e1
  go_wp2_with fail
  rw [HGE.out]
  refine HP2.out.mono ?_
  rintro e w6 ⟨⟨v6, rfl⟩, hls6, hu6⟩
  have hu46 := HU5.out.trans hu6
  have HX6 := (hu46.block x hxW4 hxg hxR).trans ((HU5.out.block x hxW4 hxg hxR).symm.trans HBX5.out)
  have e2 : spl (pad M (le 1 kn)) 1 (le 2 L) = pad M (le 1 kn ++ le 2 L) := spl_pad' (le_length 1 kn) (by rw [le_length]; have := HM1.out; omega)
  rw [e2, show 1 + 2 = 3 from rfl] at hls6
  have HN7 := hid (next_ls g R 3 L _ _ w6.drew hls6 (by rw [hpm _ (by rw [List.length_append, le_length, le_length]; have := HM1.out; omega)]; have := HM1.out; omega))
  have HX6' := hid HX6
  have HU6 := hid hu46
  have hHeld : w6.drew.cell? ⟨x, 2, none⟩ = some (.slice A L c) := cell_of_row _ _ 2 _ _ _ HX6
  clear hls6 hu6 hu46 HX6 HBX5 HP2 c2 e2 HU5
  go_wp2_with fail
  rw [HXE.out, HRE.out]
  refine region_tail 7 (fun X : World => X.cell? ⟨x, 2, none⟩ = some (.slice A L c)) (by kernel_rfl) ?_
  refine' wpAnyT_take (i := 0) (oi := ?oia0) (v := ?va0) ?hia0 (by kernel_rfl) (by kernel_rfl) ?hqa0 ?hya0 hHeld ?resta0
  case hia0 => (simp only [List.getElem?_toArray, List.getElem?_cons_zero]; rfl)
  case hqa0 => exact fun _ _ _ h => h
  case hya0 => (refine Or.inl ⟨by rfl, ?_⟩; intro w' hSw; (try dsimp only at hSw); go_simp; try with_reducible rfl)
  (try simp only [Act.put, List.setIfInBounds_toArray, List.set_cons_zero, List.set_cons_succ])
  refine' wpAnyT_take (i := 1) (oi := ?oia1) (v := ?va1) ?hia1 (by kernel_rfl) (by kernel_rfl) ?hqa1 ?hya1 hHeld ?resta1
  case hia1 => (simp only [List.getElem?_toArray, List.getElem?_cons_zero, List.getElem?_cons_succ]; rfl)
  case hqa1 => exact fun _ _ _ h => h
  case hya1 => (refine Or.inl ⟨by rfl, ?_⟩; intro w' hSw; (try dsimp only at hSw); go_simp; try with_reducible rfl)
  (try simp only [Act.put, List.setIfInBounds_toArray, List.set_cons_zero, List.set_cons_succ])
  refine' wpAnyT_take (i := 2) (oi := ?oia2) (v := ?va2) ?hia2 (by kernel_rfl) (by kernel_rfl) ?hqa2 ?hya2 hHeld ?resta2
  case hia2 => (simp only [List.getElem?_toArray, List.getElem?_cons_zero, List.getElem?_cons_succ]; rfl)
  case hqa2 => exact fun _ _ _ h => h
  case hya2 => (refine Or.inl ⟨by rfl, ?_⟩; intro w' hSw; (try dsimp only at hSw); go_simp; try with_reducible rfl)
  (try simp only [Act.put, List.setIfInBounds_toArray, List.set_cons_zero, List.set_cons_succ])
  refine' wpAnyT_take (i := 3) (oi := ?oia3) (v := ?va3) ?hia3 (by kernel_rfl) (by kernel_rfl) ?hqa3 ?hya3 hHeld ?resta3
  case hia3 => (simp only [List.getElem?_toArray, List.getElem?_cons_zero, List.getElem?_cons_succ]; rfl)
  case hqa3 => exact fun _ _ _ h => h
  case hya3 => (refine Or.inl ⟨by rfl, ?_⟩; intro w' hSw; (try dsimp only at hSw); go_simp; try with_reducible rfl)
  (try simp only [Act.put, List.setIfInBounds_toArray, List.set_cons_zero, List.set_cons_succ])
  refine' wpAnyT_take (i := 5) (oi := ?oia5) (v := ?va5) ?hia5 (by kernel_rfl) (by kernel_rfl) ?hqa5 ?hya5 hHeld ?resta5
  case hia5 => (simp only [List.getElem?_toArray, List.getElem?_cons_zero, List.getElem?_cons_succ]; rfl)
  case hqa5 => exact fun _ _ _ h => h
  case hya5 => (refine Or.inl ⟨by rfl, ?_⟩; intro w' hSw; (try dsimp only at hSw); go_simp; try with_reducible rfl)
  (try simp only [Act.put, List.setIfInBounds_toArray, List.set_cons_zero, List.set_cons_succ])
  refine' wpAnyT_take (i := 6) (oi := ?oia6) (v := ?va6) ?hia6 (by kernel_rfl) (by kernel_rfl) ?hqa6 ?hya6 hHeld ?resta6
  case hia6 => (simp only [List.getElem?_toArray, List.getElem?_cons_zero, List.getElem?_cons_succ]; rfl)
  case hqa6 => exact fun _ _ _ h => h
  case hya6 => (refine Or.inl ⟨by rfl, ?_⟩; intro w' hSw; (try dsimp only at hSw); go_simp; try with_reducible rfl)
  (try simp only [Act.put, List.setIfInBounds_toArray, List.set_cons_zero, List.set_cons_succ])
  refine' wpAnyT_one (i := 4) (o := ?oib4) (by kernel_rfl) ?hib4 (fun K hK => ?stb4)
  case hib4 => (simp only [List.getElem?_toArray, List.getElem?_cons_zero, List.getElem?_cons_succ]; rfl)
  go_simp
  refine HN7.out.mono ?_
  rintro e w7 ⟨⟨A7, rfl, hA7⟩, hls7, hu7⟩
  have hU7 : Upd2 g R W4 w7 := (HU6.out.drewN 1).trans (Upd2.of hu7)
  have HX7 := hid ((hu7.block x (Nat.lt_of_lt_of_le hxW4 HU6.out.low.size) hxg).trans HX6'.out)
  clear hHeld
  have hHeld : w7.cell? ⟨x, 2, none⟩ = some (.slice A L c) := cell_of_row _ _ 2 _ _ _ HX7.out
  obtain ⟨A7', hg7, hA7', hR7, hi7, hgR, hl7⟩ := hls7
  have hL7 : (pad M (le 1 kn ++ le 2 L)).length = M := hpm _ (by rw [List.length_append, le_length, le_length]; have := HM1.out; omega)
  rw [hL7] at hg7 hA7' hi7 hl7
  have hbw7 : Below w.heap.size w w7 := by
    rw [HXE.out]
    have h1 : Below w.heap.size w W4 := HBW.out.trans (HB4.out.mono (by rw [HXE.out]; omega))
    rw [HXE.out] at h1
    exact h1.trans (hU7.below (by have := HWg.out; omega) (by omega) (by omega))
  have hv7 := HV.out.below hbw7
  have HG7 := hid hg7
  have HA7 := hid hA7
  have HR7 := hid hR7
  have HA7' := hid hA7'
  have HV7 := hid hv7
  have HU7 := hid hU7
  have HBW7 := hid hbw7
  clear hg7 hA7 hR7 hA7' hv7 hU7 hu7 HN7 HX6' HU6 hbw7
  refine hK.out _ _ (fun _ => hHeld) ?_
  clear hK K
  (try simp only [Act.put, List.setIfInBounds_toArray, List.set_cons_zero, List.set_cons_succ])
  refine' wpAnyT_one (i := 7) (o := ?oic7) (by kernel_rfl) ?hic7 (fun K hK => ?stc7)
  case hic7 => (simp only [List.getElem?_toArray, List.getElem?_cons_zero, List.getElem?_cons_succ]; rfl)
  rw [hL7]
  refine step_copy_bytes rfl (.tmp 47) (.tmp 49) rfl R 3 (pad M (le 1 kn ++ le 2 L)) p A7 A (M - 3) c (by simp [Act.eval, HLL.out]) (by simp [Act.eval, HLL.out]) HR7.out (by rw [HLL.out]; exact HV7.out) (fun h => HA7.out (by have := HLL.out; omega)) (by rw [HLL.out, hL7]; have := HM1.out; omega) ?_
  intro w8 hr8 hu8
  rw [HLL.out]
  clear hHeld
  refine hK.out _ _ (fun h => absurd h (by decide)) ?_
  clear hK K
  (try simp only [Act.put, List.setIfInBounds_toArray, List.set_cons_zero, List.set_cons_succ])
  refine wpAnyT_done (by kernel_rfl) ?_ _
  have e3 : spl (pad M (le 1 kn ++ le 2 L)) 3 p = pad M (stm kn p) := by
    have h := spl_pad' (M := M) (i := 3) (x := le 1 kn ++ le 2 L) (s := p) (by rw [List.length_append, le_length, le_length]) (by have := HM1.out; have := HLL.out; omega)
    rw [h]; unfold stm; rw [HLL.out, List.append_assoc]
  have hr8' := hr8.out
  rw [e3] at hr8'
  have hsl : (stm kn p).length = 3 + L := by rw [stm_len, HLL.out]
  have hl8 : (pad M (stm kn p)).length = M := hpm _ (by have := HM1.out; omega)
  have hg8 : w8.heap[g]? = some (.cells #[.slice A7' (M - (3 + L)) (M - (3 + L)), .slice (some ⟨R, 0, none⟩) M M] 62) := (hu8.block g (box_lt HG7.out) hgR).trans HG7.out
  have h88 : B8 (pad M (stm kn p)) := b8_pad (b8_stm HV.out.1)
  have hU8 : Upd2 g R W4 w8 := ⟨HU7.out.low.trans hu8.low, fun k hk h1 h2 => (hu8.block k (Nat.lt_of_lt_of_le hk HU7.out.low.size) h2).trans (HU7.out.block k hk h1 h2)⟩
  have hX8 := (hu8.block x (Nat.lt_of_lt_of_le hxW4 HU7.out.low.size) hxR).trans HX7.out
  have hlf : Lf w8 w8 g ((pad M (stm kn p)).drop (3 + L)) (.slice (some ⟨R, 0, none⟩) (pad M (stm kn p)).length M) := by
    have hb := byt_row (A := A7') (i := 3 + L) hr8' h88 (by rw [hl8]; exact HA7'.out) (by rw [hl8]; omega)
    have hdl : ((pad M (stm kn p)).drop (3 + L)).length = M - (3 + L) := by rw [List.length_drop, hl8]
    rw [hl8] at hb ⊢
    exact ⟨A7', M - (3 + L), by rw [hdl]; exact hg8, by rw [hdl]; exact hb⟩
  have hwhole : Byt w8 (.slice (some ⟨R, 0, none⟩) (pad M (stm kn p)).length M) (pad M (stm kn p)) := by
    have hb := byt_row (A := some ⟨R, 0, none⟩) (i := 0) hr8' h88 (fun _ => rfl) (by rw [hl8]; omega)
    rw [List.drop_zero, Nat.sub_zero] at hb
    rw [hl8] at hb ⊢
    exact hb
  have hsum := sum_lf g _ _ _ _ w8 w8 hlf (Below.refl _ _) hwhole (by rw [List.length_drop]; omega)
  have htk : (pad M (stm kn p)).take ((pad M (stm kn p)).length - ((pad M (stm kn p)).drop (3 + L)).length) = stm kn p := by
    rw [List.length_drop, hl8, show M - (M - (3 + L)) = 3 + L by omega, ← hsl, pad_take]
  rw [htk] at hsum
  obtain ⟨S, hS⟩ : ∃ S, sum0 (stm kn p) = S := ⟨_, rfl⟩
  have hS32 : S < 4294967296 := by have := sum0_lt' (l := stm kn p) (b8_stm HV.out.1); omega
  rw [hS] at hsum
  have HSUM := hid hsum
  have HG8 := hid hg8
  have HX8 := hid hX8
  have HR8 := hid hr8'
  have HU8 := hid hU8
  have HSL := hid hsl
  have HL8 := hid hl8
  have H88 := hid h88
  have HSE := hid hS
  clear hsum hg8 hX8 hr8' hU8 hlf hwhole htk hS e3 hr8 hu8 HG7 HR7 HX7 HU7 HV7 HBW7 hsl hl8 h88 HA7
  have hwS : IntKind.i64.wrap (S : Int) = (S : Int) := wrap64_nat (by omega)
  go_wp2_with fail
  refine HSUM.out.mono ?_
  rintro e w9 ⟨rfl, hb9⟩
  have hg9 := (hb9.block g (box_lt HG8.out)).trans HG8.out
  have hr9 := (hb9.block R (box_lt HR8.out)).trans HR8.out
  have hx9 := (hb9.block x (box_lt HX8.out)).trans HX8.out
  have hu9 := HU8.out.of_below hb9
  have hls9 : Ls w9 g R (3 + L) (pad M (stm kn p)) (.slice (some ⟨R, 0, none⟩) M M) := ⟨A7', by rw [HL8.out]; exact hg9, by rw [HL8.out]; exact HA7'.out, hr9, by rw [HL8.out]; omega, hgR, by rw [HL8.out]; omega⟩
  have HP10 := hid (put_ls g R (3 + L) 4 S (pad M (stm kn p)) _ w9 hls9 (by rw [HL8.out]; have := HM1.out; omega) (by omega) (by omega))
  have HX9 := hid hx9
  have HU9 := hid hu9
  clear hg9 hr9 hx9 hu9 hls9 hb9 HG8 HX8 HR8 HU8 HSUM hS32
  go_wp2_with fail
  refine HP10.out.mono ?_
  rintro e w10 ⟨⟨v10, rfl⟩, hls10, hu10⟩
  have e4 : spl (pad M (stm kn p)) (3 + L) (le 4 S) = pad M (ful kn p) := by
    rw [spl_pad' HSL.out (by rw [le_length]; have := HM1.out; omega)]
    unfold ful
    rw [HSE.out]
  rw [e4] at hls10
  obtain ⟨A10, hg10, _, hr10, _, _, _⟩ := hls10
  have hx10 := (hu10.block x (box_lt HX9.out) hxg hxR).trans HX9.out
  have hu10' := HU9.out.trans hu10
  have hfl : (ful kn p).length = 7 + L := by rw [ful_len, HLL.out]
  have hl10 : (pad M (ful kn p)).length = M := hpm _ (by have := HM1.out; omega)
  have h810 : B8 (pad M (ful kn p)) := b8_pad (b8_ful HV.out.1)
  have hb10 := byt_row (A := some ⟨R, 0, none⟩) (i := 0) hr10 h810 (fun _ => rfl) (by rw [hl10]; omega)
  rw [List.drop_zero, Nat.sub_zero, hl10] at hb10
  have HPK := hid (pack_any qn N _ _ w10 hb10 (by rw [hl10]; exact HMM.out.symm) (by have := HNS.out; omega) (by have := HK.out; omega))
  have k1 : w10.cell? ⟨x, 1, none⟩ = some (.int .i64 (qn : Int)) := cell_of_row _ _ 1 _ _ _ hx10
  have k2 : w10.cell? ⟨g, 1, none⟩ = some (.slice (some ⟨R, 0, none⟩) M M) := cell_of_row _ _ 1 _ _ _ hg10
  have hwq : (qn : Int) % 4294967296 = (qn : Int) := by have := HK.out; omega
  have hwq2 : IntKind.u32.wrap (qn : Int) = (qn : Int) := by rw [IntKind.wrap_u32]; have := HK.out; omega
  have HU10 := hid hu10'
  clear hg10 hr10 hx10 hu10 hu10' hb10 h810 e4 HX9 HU9 HP10
  go_wp2_with fail
  refine HPK.out.mono ?_
  rintro e w11 ⟨v11, rfl, ho11, hb11⟩
  have HO11 := hid ho11
  have HB11 := hid (show Below w.heap.size w w11 from by
    have h1 : Below w.heap.size w W4 := HBW.out.trans (HB4.out.mono (by rw [HXE.out]; omega))
    rw [HXE.out] at h1 ⊢
    exact h1.trans ((HU10.out.below (by have := HWg.out; omega) (by omega) (by omega)).trans (hb11.mono (by have := HU10.out.low.size; omega))))
  have HZ10 := hid (show w.heap.size ≤ w10.heap.size from by rw [HXE.out]; have := HU10.out.low.size; omega)
  clear ho11 hb11 k1 k2
  go_wp2
  refine bodyPost_ret (v := .tuple #[v11, .int .i64 0]) (by simp [results, Try.results14, go_sem]) rfl ?_
  have he : pk qn N (pad M (ful kn p)) = encR kn qn p := by
    unfold encR
    rw [HLL.out, HNN.out, HMM.out]
  have ho := HO11.out
  rw [he] at ho
  exact ⟨HB11.out, .inl ⟨encR kn qn p, v11, HE.out, rfl, encR_secs HV.out.1, own_base ho HZ10.out⟩⟩
end Go.Proofs.Ytcmmkeadbedooaa
