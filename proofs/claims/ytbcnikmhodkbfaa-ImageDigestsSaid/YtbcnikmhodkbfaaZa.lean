/- few of writes; the reference's FitsSizes, Fits. -/
import Derived.Test.YtbcnikmhodkbfaaZ
namespace Go.Proofs.Ytbcnikmhodkbfaa
open Go.RowKit Go.Lib

theorem wri_at {w : World} {A : Option Addr} {n c : Nat} {ws : List Wri} (h : WrsA w (.slice A n c) ws) (hp : 0 < ws.length) : ∃ b off, A = some ⟨b, off, none⟩ ∧ b < w.heap.size ∧ ∀ (k : Nat) (x : Wri), ws[k]? = some x → ∀ (j : Nat) (u : Value), (cWri x)[j]? = some u → w.cell? ⟨b, off + k * 3 + j, none⟩ = some u := by
  obtain ⟨b, off, hA, hb, hc⟩ := arr_at1 h.2 (by rw [List.length_map]; exact hp)
  exact ⟨b, off, hA, hb, fun k x hx j u hj => hc k _ (by rw [List.getElem?_map, hx]; rfl) j u hj⟩
def bigW (n : Nat) : Bool := decide (30 < n)
set_option maxHeartbeats 1000000 in
theorem bigW_any (v s : Int) (D : Option Addr) (n c : Nat) (w : World) : Calls Try.prog 50 #[.agg #[.int .i64 v, .int .i64 s, .slice D n c]] w (SaysB (bigW n) w) := by
  obtain ⟨B, hB⟩ : ∃ B, w.alloc (.cells #[.int .i64 v, .int .i64 s, .slice D n c] 42) = B := ⟨_, rfl⟩
  have hb : Below w.heap.size w B := by rw [← hB]; exact al1 _ _
  have hx := heap_alloc_new w (.cells #[.int .i64 v, .int .i64 s, .slice D n c] 42)
  rw [hB] at hx
  have c2 : B.cell? ⟨w.heap.size, 2, none⟩ = some (.slice D n c) := cell_of_row _ _ 2 _ _ _ hx
  have HB := hid hb
  obtain ⟨q, hq⟩ : ∃ q, bigW n = q := ⟨_, rfl⟩
  have d1 : decide ((30 : Int) < (n : Int)) = q := by rw [← hq]; unfold bigW; rw [decide_eq_decide]; omega
  rw [hq]
  clear hb hx hq
  go_enter Try.func50, Try.ntmps50
  go_wp2
  go_ret
  exact ⟨rfl, HB.out⟩
set_option maxHeartbeats 2000000 in
set_option maxRecDepth 100000 in
theorem idxWri_any (ws : List Wri) (u : Value) (w : World) (hu : WrsA w u ws) :
    Calls Try.prog 71 #[u, .func (.func 50) #[] #[]] w (Found (ws.any fun x => bigW x.l.length) w) := by
  obtain ⟨A, cc, rfl⟩ := wrs_form hu
  obtain ⟨_, hcap, hcm⟩ := arr_cap hu.2
  have HU := hid hu
  obtain ⟨n, hn⟩ : ∃ n, ws.length = n := ⟨_, rfl⟩
  have HN := hid hn
  rw [hn] at HU hcap ⊢
  clear hu hn
  go_enter Try.func71, Try.ntmps71
  go_wp2
  go_loopw [8] (fun i wr => ∃ k : Nat, k ≤ n ∧ i = .int .i64 (k : Int) ∧ Hid ((ws.take k).any (fun x => bigW x.l.length) = false) ∧ Hid (Below w.heap.size w wr)) (fun i _ => n - (Go.RowKit.intOf i).toNat)
  case atStart => exact ⟨0, by omega, rfl, hid (by simp), hid (Below.refl _ _)⟩
  case round =>
    obtain ⟨k, hk, rfl, HK, HB⟩ := hrel
    by_cases hkl : k < n
    · obtain ⟨x, hx⟩ : ∃ x, ws[k]? = some x := ⟨ws[k]'(by rw [HN.out]; exact hkl), List.getElem?_eq_getElem _⟩
      obtain ⟨b, off, hbA, hbl, hcell⟩ := wri_at HU.out (by rw [HN.out]; omega)
      subst hbA
      have hxs := (HU.out.1 x (List.mem_of_getElem? hx)).1
      have hsn := take_snoc hx
      obtain ⟨xv, xs', xd, xl⟩ := x
      obtain ⟨dA, dc, hd⟩ := sec_form hxs
      dsimp only at hd
      subst hd
      have hrow : ∀ (j : Nat) (z : Value), [Value.int .i64 xv, .int .i64 xs', .slice dA xl.length dc][j]? = some z → wr.cell? ⟨b, off + k * 3 + j, none⟩ = some z := fun j z hz => (HB.out.cell (p := ⟨b, _, none⟩) hbl).trans (hcell k _ hx j z hz)
      obtain ⟨m, hm⟩ : ∃ m, xl.length = m := ⟨_, rfl⟩
      have q0 : wr.cell? ⟨b, off + k * 3, none⟩ = some (.int .i64 xv) := hrow 0 _ rfl
      have q1 : wr.cell? ⟨b, off + k * 3 + 1, none⟩ = some (.int .i64 xs') := hrow 1 _ rfl
      have q2 : wr.cell? ⟨b, off + k * 3 + 2, none⟩ = some (.slice dA xl.length dc) := hrow 2 _ rfl
      obtain ⟨q, hq⟩ : ∃ q, bigW xl.length = q := ⟨_, rfl⟩
      have HPx := hid (fun W => bigW_any xv xs' dA xl.length dc W)
      have HSN : Hid (q = false → (ws.take (k + 1)).any (fun x => bigW x.l.length) = false) := hid (fun h => by rw [hsn, List.any_append, HK.out]; simp [hq, h])
      have HANY : Hid (q = true → ws.any (fun x => bigW x.l.length) = true) := hid (fun h => List.any_eq_true.2 ⟨_, List.mem_of_getElem? hx, by rw [hq]; exact h⟩)
      rw [hq] at HPx
      rw [hm] at HPx q2
      have hkc : (k : Int) < (n : Int) := by omega
      clear hq hx hsn hrow hcell hxs hm
      go_wp2_with fail
      refine (HPx.out _).mono ?_
      rintro e w1 ⟨rfl, hb1⟩
      have HB1 := hid (below_both HB.out hb1)
      clear hb1 q0 q1 q2
      rcases q with _ | _
      · have HSq := hid (HSN.out rfl)
        clear HANY HSN
        go_wp2
        go_roundw
        case rel => exact ⟨k + 1, by omega, by go_num, HSq, HB1⟩
        case measure => simp [Go.RowKit.intOf]; omega
      · have HAq := hid (HANY.out rfl)
        clear HSN HANY
        go_wp2
        go_ret
        exact ⟨(k : Int), rfl, by rw [HAq.out]; simp, HB1.out⟩
    · obtain rfl : k = n := by omega
      have HE : Hid (ws.any (fun x => bigW x.l.length) = false) := hid (by have h := HK.out; rwa [List.take_of_length_le (by rw [HN.out]; exact Nat.le_refl _)] at h)
      go_wp2
      go_ret
      exact ⟨-1, rfl, by rw [HE.out]; simp, HB.out⟩
set_option maxHeartbeats 2000000 in
set_option maxRecDepth 100000 in
theorem conWri_any (ws : List Wri) (u : Value) (w : World) (hu : WrsA w u ws) :
    Calls Try.prog 49 #[u, .func (.func 50) #[] #[]] w (SaysB (ws.any fun x => bigW x.l.length) w) := by
  have HI := hid (idxWri_any ws u w hu)
  obtain ⟨A, c, rfl⟩ := wrs_form hu
  obtain ⟨q, hq⟩ : ∃ q, (ws.any fun x => bigW x.l.length) = q := ⟨_, rfl⟩
  rw [hq] at HI ⊢
  clear hu hq
  go_enter Try.func49, Try.ntmps49
  go_wp2_with fail
  refine HI.out.mono ?_
  rintro e w1 ⟨r, rfl, hr, hb⟩
  have HB := hid hb
  clear hb
  go_wp2
  go_ret
  exact ⟨rfl, HB.out⟩
/-- Whether the laws take writes at all. -/
def fewW (ws : List Wri) : Bool := decide (ws.length ≤ 40) && !(ws.any fun x => bigW x.l.length)
set_option maxHeartbeats 2000000 in
set_option maxRecDepth 100000 in
theorem fewW_any (ws : List Wri) (u : Value) (w : World) (hu : WrsA w u ws) :
    Calls Try.prog 20 #[u] w (SaysB (fewW ws) w) := by
  have HI := hid (conWri_any ws u w hu)
  obtain ⟨A, c, rfl⟩ := wrs_form hu
  obtain ⟨q, hq⟩ : ∃ q, (ws.any fun x => bigW x.l.length) = q := ⟨_, rfl⟩
  unfold fewW
  rw [hq] at HI ⊢
  obtain ⟨n, hn⟩ : ∃ n, ws.length = n := ⟨_, rfl⟩
  rw [hn] at HI ⊢
  clear hu hq hn
  by_cases h40 : n ≤ 40
  · have d1 : decide ((n : Int) ≤ 40) = true := by simp; omega
    rw [decide_eq_true h40]
    clear h40
    go_enter Try.func20, Try.ntmps20
    go_wp2_with fail
    refine HI.out.mono ?_
    rintro e w1 ⟨rfl, hb⟩
    have HB := hid hb
    clear hb
    go_wp2
    go_ret
    exact ⟨by simp, HB.out⟩
  · have d1 : decide ((n : Int) ≤ 40) = false := by simp; omega
    rw [decide_eq_false h40]
    clear h40
    go_enter Try.func20, Try.ntmps20
    go_wp2
    go_ret
    exact ⟨by simp, Below.refl _ _⟩
set_option maxHeartbeats 4000000 in
set_option maxRecDepth 100000 in
theorem refFitsSizes_any (L : List (List Sect)) (v : Value) (vo s : Int) (D : Option Addr) (m c : Nat) (w : World) (hv : Arr w v 1 ((siz L).map cInt)) (hck : chkS (siz L) = 0) (hm : m ≤ 9223372036854775807) (hs : R64 s) :
    Calls Try.prog 53 #[v, .agg #[.int .i64 vo, .int .i64 s, .slice D m c]] w fun e w' => e = .returned (.int .i64 (fitE L vo s m)) ∧ Below w.heap.size w w' := by
  obtain ⟨A, ca, rfl⟩ := arr_form hv
  obtain ⟨_, hc1, hc2⟩ := arr_cap hv
  obtain ⟨B, hB⟩ : ∃ B, w.alloc (.cells #[.int .i64 vo, .int .i64 s, .slice D m c] 42) = B := ⟨_, rfl⟩
  have hb : Below w.heap.size w B := by rw [← hB]; exact al1 _ _
  have hx := heap_alloc_new w (.cells #[.int .i64 vo, .int .i64 s, .slice D m c] 42)
  rw [hB] at hx
  have c0 : B.cell? ⟨w.heap.size, 0, none⟩ = some (.int .i64 vo) := cell_of_row _ _ 0 _ _ _ hx
  have c1 : B.cell? ⟨w.heap.size, 1, none⟩ = some (.int .i64 s) := cell_of_row _ _ 1 _ _ _ hx
  have c2 : B.cell? ⟨w.heap.size, 2, none⟩ = some (.slice D m c) := cell_of_row _ _ 2 _ _ _ hx
  have HB := hid hb
  have HV := hid hv
  have HCK := hid hck
  rw [List.length_map, siz_len] at HV hc1 ⊢
  obtain ⟨n, hn⟩ : ∃ n, L.length = n := ⟨_, rfl⟩
  have HN := hid hn
  rw [hn] at HV hc1 ⊢
  clear hb hx hv hck hn
  obtain ⟨g, hg⟩ : ∃ g, w.heap.size = g := ⟨_, rfl⟩
  rw [hg] at c0 c1 c2
  by_cases hv : 0 ≤ vo ∧ vo < (n : Int)
  · obtain ⟨k, rfl⟩ := Int.eq_ofNat_of_zero_le hv.1
    have hkn : k < n := by omega
    have f1 : decide ((k : Int) < 0) = false := decide_eq_false (by omega)
    have f2 : decide ((n : Int) ≤ (k : Int)) = false := by simp; omega
    obtain ⟨x, hx⟩ : ∃ x, L[k]? = some x := ⟨L[k]'(by rw [HN.out]; exact hkn), List.getElem?_eq_getElem _⟩
    have hx4 := (chk_ok HCK.out).2.2 x (List.mem_of_getElem? hx)
    obtain ⟨b, off, hbA, hbl, hcell⟩ := arr_at1 HV.out (by rw [List.length_map, siz_len, HN.out]; omega)
    subst hbA
    have hgd : L.getD ((k : Nat) : Int).toNat [] = x := by rw [Int.toNat_natCast, List.getD_eq_getElem?_getD, hx]; rfl
    obtain ⟨X, hX⟩ : ∃ X, x.length = X := ⟨_, rfl⟩
    have HF : Hid (fitE L (k : Int) s m = if m = 0 then 1 else if insB X s m = false then 2 else 0) := hid (by
      unfold fitE
      rw [HCK.out, if_neg (by decide), if_neg (by rw [HN.out]; exact fun h => h hv), hgd, hX])
    have hcx : B.cell? ⟨b, off + k, none⟩ = some (.int .i64 (X : Int)) := by
      have h := hcell k (cInt (X : Int)) (by rw [List.getElem?_map]; unfold siz; rw [List.getElem?_map, hx, ← hX]; rfl) 0 _ rfl
      rw [Nat.mul_one, Nat.add_zero] at h
      exact (HB.out.cell (p := ⟨b, off + k, none⟩) hbl).trans h
    have hkc : (k : Int) < (n : Int) := by omega
    have hkc0 : (0 : Int) ≤ (k : Int) := by omega
    rw [hX] at hx4
    clear hcell hx hgd hv hX
    by_cases hm0 : m = 0
    · subst hm0
      have HF2 : Hid (fitE L (k : Int) s 0 = 1) := hid (by rw [HF.out, if_pos rfl])
      go_enter Try.func53, Try.ntmps53
      rw [hg]
      go_wp2
      go_ret
      exact ⟨ret_eq HF2.out.symm, by rw [← hg]; exact HB.out⟩
    · have d1 : ((m : Int) == 0) = false := by rw [beq_eq_false_iff_ne]; omega
      obtain ⟨q, hq⟩ : ∃ q, insB X s m = q := ⟨_, rfl⟩
      have HF2 : Hid (fitE L (k : Int) s m = if q = false then 2 else 0) := hid (by rw [HF.out, if_neg hm0, hq])
      unfold R64 at hs
      rcases q with _ | _
      · have hq' := of_decide_eq_false hq
        have HF3 : Hid (fitE L (k : Int) s m = 2) := hid (by rw [HF2.out]; rfl)
        clear hq HF HF2
        by_cases g1 : s < 0
        · have e1 : decide (s < 0) = true := by simpa using g1
          clear g1 hq' hm0
          go_enter Try.func53, Try.ntmps53
          rw [hg]
          go_wp2_with fail
          go_quiet (fail)
          go_wp2
          go_ret
          exact ⟨ret_eq HF3.out.symm, by rw [← hg]; exact ⟨HB.out.os, HB.out.tape, HB.out.output, HB.out.size, HB.out.block⟩⟩
        · have e1 : decide (s < 0) = false := by simpa using g1
          by_cases g3 : (X : Int) ≤ s
          · have e3 : decide ((X : Int) ≤ s) = true := by simpa using g3
            clear g1 g3 hq' hm0
            go_enter Try.func53, Try.ntmps53
            rw [hg]
            go_wp2_with fail
            go_quiet (fail)
            go_wp2
            go_ret
            exact ⟨ret_eq HF3.out.symm, by rw [← hg]; exact ⟨HB.out.os, HB.out.tape, HB.out.output, HB.out.size, HB.out.block⟩⟩
          · have e3 : decide ((X : Int) ≤ s) = false := by simpa using g3
            have e4 : decide ((X : Int) - s < (m : Int)) = true := by simp; omega
            have hwr : IntKind.i64.wrap ((X : Int) - s) = (X : Int) - s := by unfold IntKind.wrap; simp [IntKind.bits, IntKind.signed]; omega
            clear g1 g3 hq' hm0
            go_enter Try.func53, Try.ntmps53
            rw [hg]
            go_wp2_with fail
            go_quiet (fail)
            go_wp2
            go_ret
            exact ⟨ret_eq HF3.out.symm, by rw [← hg]; exact ⟨HB.out.os, HB.out.tape, HB.out.output, HB.out.size, HB.out.block⟩⟩
      · have hq' := of_decide_eq_true hq
        have e1 : decide (s < 0) = false := by simp; omega
        have e3 : decide ((X : Int) ≤ s) = false := by simp; omega
        have e4 : decide ((X : Int) - s < (m : Int)) = false := by simp; omega
        have hwr : IntKind.i64.wrap ((X : Int) - s) = (X : Int) - s := by unfold IntKind.wrap; simp [IntKind.bits, IntKind.signed]; omega
        have HF3 : Hid (fitE L (k : Int) s m = 0) := hid (by rw [HF2.out]; rfl)
        clear hq hq' hm0 HF HF2
        go_enter Try.func53, Try.ntmps53
        rw [hg]
        go_wp2_with fail
        go_quiet (fail)
        go_wp2
        go_ret
        exact ⟨ret_eq HF3.out.symm, by rw [← hg]; exact ⟨HB.out.os, HB.out.tape, HB.out.output, HB.out.size, HB.out.block⟩⟩
  · have HF : Hid (fitE L vo s m = 7) := hid (by
      unfold fitE
      rw [HCK.out, if_neg (by decide), if_pos (by rw [HN.out]; exact hv)])
    by_cases g1 : vo < 0
    · have e1 : decide (vo < 0) = true := by simpa using g1
      clear g1 hv
      go_enter Try.func53, Try.ntmps53
      rw [hg]
      go_wp2
      go_ret
      exact ⟨ret_eq HF.out.symm, by rw [← hg]; exact HB.out⟩
    · have e1 : decide (vo < 0) = false := by simpa using g1
      have e2 : decide ((n : Int) ≤ vo) = true := by simp; omega
      clear g1 hv
      go_enter Try.func53, Try.ntmps53
      rw [hg]
      go_wp2
      go_ret
      exact ⟨ret_eq HF.out.symm, by rw [← hg]; exact HB.out⟩
set_option maxHeartbeats 4000000 in
set_option maxRecDepth 100000 in
theorem refFits_any (xs : List Vol) (v : Value) (vo s : Int) (D : Option Addr) (m c : Nat) (w : World) (hv : Img w v xs) (hl : xs.length ≤ 1000) (hm : m ≤ 9223372036854775807) (hs : R64 s) :
    Calls Try.prog 22 #[v, .agg #[.int .i64 vo, .int .i64 s, .slice D m c]] w fun e w' => e = .returned (.int .i64 (fitE (con xs) vo s m)) ∧ Below w.heap.size w w' := by
  obtain ⟨A, ca, rfl⟩ := img_form hv
  obtain ⟨_, hc1, hc2⟩ := arr_cap hv.2
  obtain ⟨B, hB⟩ : ∃ B, w.alloc (.cells #[.int .i64 vo, .int .i64 s, .slice D m c] 42) = B := ⟨_, rfl⟩
  have hb : Below w.heap.size w B := by rw [← hB]; exact al1 _ _
  have hx := heap_alloc_new w (.cells #[.int .i64 vo, .int .i64 s, .slice D m c] 42)
  rw [hB] at hx
  have hz : w.heap.size < B.heap.size := box_lt hx
  have HC := hid (refCheck_any xs _ B (hv.below hb) hl)
  have HSO : Hid (∀ W, Below w.heap.size w W → Calls Try.prog 38 #[.slice A xs.length ca] W fun e w' => ∃ A' c', e = .returned (.slice A' (siz (con xs)).length c') ∧ Arr w' (.slice A' (siz (con xs)).length c') 1 ((siz (con xs)).map cInt) ∧ Below W.heap.size W w') := hid (fun W hW => (refSizesOf_any xs _ W (hv.below hW) hl).mono (by
    rintro e w1 ⟨v1, rfl, ho, hb⟩
    obtain ⟨A', c', rfl⟩ := ownAny_form ho
    refine ⟨A', c', rfl, ?_, hb⟩
    have ho' : w1.ownsRow W.heap.size 3 1 (.slice A' (siz (con xs)).length c') ((siz (con xs)).map cInt).length ((siz (con xs)).map cInt).flatten := by rw [List.length_map]; exact ho
    exact arr_of_own ho' rfl (fun r hr => by obtain ⟨x, _, rfl⟩ := List.mem_map.1 hr; rfl)))
  have HB := hid hb
  have HX := hid hx
  clear hb hx hv
  obtain ⟨ck, hck⟩ : ∃ ck, chkS (siz (con xs)) = ck := ⟨_, rfl⟩
  rw [hck] at HC
  have HCK := hid hck
  obtain ⟨SL, hSL⟩ : ∃ SL, (siz (con xs)).length = SL := ⟨_, rfl⟩
  rw [hSL] at HSO
  obtain ⟨n, hn⟩ : ∃ n, xs.length = n := ⟨_, rfl⟩
  rw [hn] at HC HSO hc1 hl ⊢
  clear hck hn hSL
  go_enter Try.func22, Try.ntmps22
  go_wp2_with fail
  refine HC.out.mono ?_
  rintro e w2 ⟨rfl, hb2⟩
  have HB2 := hid (below_both HB.out hb2)
  have hx2 := (hb2.block w.heap.size hz).trans HX.out
  obtain ⟨g, hg⟩ : ∃ g, w.heap.size = g := ⟨_, rfl⟩
  rw [hg] at hx2 ⊢
  have hz2 := box_lt hx2
  have HX2 := hid hx2
  have c0 : w2.cell? ⟨g, 0, none⟩ = some (.int .i64 vo) := cell_of_row _ _ 0 _ _ _ hx2
  have c1 : w2.cell? ⟨g, 1, none⟩ = some (.int .i64 s) := cell_of_row _ _ 1 _ _ _ hx2
  have c2 : w2.cell? ⟨g, 2, none⟩ = some (.slice D m c) := cell_of_row _ _ 2 _ _ _ hx2
  clear hb2 hx2 HC HX HB hB hz
  by_cases hk : ck = 0
  · subst hk
    have HB3 : Hid (∀ q, Below w.heap.size w (w2.drewN q)) := hid (fun q => ⟨HB2.out.os, HB2.out.tape, HB2.out.output, HB2.out.size, HB2.out.block⟩)
    go_wp2_with fail
    go_region_law (first | (go_simp; go_at_call 38; refine (HSO.out _ (HB3.out _)).mono ?_; rintro e w3 ⟨A3, c3, rfl, ha3, hb3⟩; have HA3 := hid ha3; have HB4 := hid hb3; have c0 := (hb3.cell (p := ⟨g, 0, none⟩) hz2).trans c0; have c1 := (hb3.cell (p := ⟨g, 1, none⟩) hz2).trans c1; have c2 := (hb3.cell (p := ⟨g, 2, none⟩) hz2).trans c2; clear ha3 hb3) | (go_simp; go_at_call 53; refine (refFitsSizes_any (con xs) _ vo s D m c _ HA3.out HCK.out hm hs).mono ?_; rintro e w5 ⟨rfl, hb5⟩; have HB5 := hid hb5; clear hb5))
    all_goals
      go_wp2
      go_ret
      exact ⟨rfl, below_both (below_both (HB3.out _) HB4.out) HB5.out⟩
  · have d1 : (ck != 0) = true := by simpa using hk
    have HF : Hid (fitE (con xs) vo s m = ck) := hid (by unfold fitE; rw [HCK.out, if_pos hk])
    clear hk
    go_wp2
    go_ret
    exact ⟨ret_eq HF.out.symm, HB2.out⟩
end Go.Proofs.Ytbcnikmhodkbfaa
