/- Check of the reference. -/
import Derived.Test.YtacpejoablcffaaEa
namespace Go.Proofs.Ytacpejoablcffaa
open Go.RowKit Go.Lib Go.Maps

theorem bad_iff {xt xn zt zn : Int} : cmpE xt xn zt zn ≤ 0 ↔ xt < zt ∨ (xt = zt ∧ xn ≤ zn) := by
  unfold cmpE orI cmpI
  by_cases h1 : xt < zt
  · simp [h1]
  · by_cases h2 : zt < xt
    · simp [h1, h2] <;> omega
    · by_cases h3 : xn < zn
      · simp [h1, h2, h3] <;> omega
      · by_cases h4 : zn < xn
        · simp [h1, h2, h3, h4] <;> omega
        · simp [h1, h2, h3, h4] <;> omega
theorem seen_snoc (pre : List Fc) (e : Fc) (n : Int) : seenE (pre ++ [e]) n = (seenE pre n || decide (e.2.1 = n)) := by unfold seenE; rw [List.any_append]; simp
theorem seen_take {l : List Fc} {j k : Nat} {n : Int} (hj : j < k) (hz : ∃ z, l[j]? = some z ∧ z.2.1 = n) : seenE (l.take k) n = true := by
  obtain ⟨z, h1, h2⟩ := hz
  unfold seenE
  rw [List.any_eq_true]
  exact ⟨z, List.mem_of_getElem? (i := j) (by rw [List.getElem?_take_of_lt hj]; exact h1), by simpa using h2⟩


set_option maxHeartbeats 8000000 in
set_option maxRecDepth 100000 in
theorem refCheck_any (s : Lk) (l : List Fl) (v : Value) (w : World) (hv : FL w v l) :
    Calls Try.prog 17 #[vLk s v] w fun e w' => e = .returned (.int .i64 (chk s (l.map core))) ∧ Below w.heap.size w w' := by
  obtain ⟨A, c, rfl⟩ := fl_form hv
  obtain ⟨N, hN⟩ : ∃ N, l.length = N := ⟨_, rfl⟩
  rw [hN] at hv ⊢
  obtain ⟨mn, mx, rt, dn, idle, next⟩ := s
  unfold vLk
  dsimp only
  have HV := hid hv
  have HN := hid hN
  have HF0 : Hid (chk ⟨mn, mx, rt, dn, idle, next⟩ (l.map core) = if cfgB mn mx rt = false then 2 else if timeB idle = false then 24 else if next < 0 ∨ 1073741824 < next then 2 else if 4096 < N then 6 else if dn = true ∧ 0 < N then 12 else chkR next [] (l.map core)) := hid (by rw [← hN]; unfold chk; rw [List.length_map])
  obtain ⟨g, hg⟩ : ∃ g, w.heap.size = g := ⟨_, rfl⟩
  obtain ⟨W1, hW1⟩ : ∃ X, w.alloc (.cells #[.int .i64 mn, .int .i64 mx, .int .i64 rt, .bool dn, .int .i64 idle, .int .i64 next, .slice A N c] 26) = X := ⟨_, rfl⟩
  have hx1 : W1.heap[g]? = some (.cells #[.int .i64 mn, .int .i64 mx, .int .i64 rt, .bool dn, .int .i64 idle, .int .i64 next, .slice A N c] 26) := by rw [← hW1, ← hg]; exact heap_alloc_new _ _
  have HB1 : Hid (Below w.heap.size w W1) := hid (by rw [← hW1]; exact al1 _ _)
  have HX1 := hid hx1
  obtain ⟨ce, hce⟩ : ∃ ce, cfgE mn mx rt = ce := ⟨_, rfl⟩
  have HCF := hid (refConfig_any mn mx rt W1)
  rw [hce] at HCF
  have HCE := hid hce
  have HW1 := hid hW1
  have HG := hid hg
  have x0 := cell_of_row _ _ 0 _ _ _ HX1.out
  have x1 := cell_of_row _ _ 1 _ _ _ HX1.out
  have x2 := cell_of_row _ _ 2 _ _ _ HX1.out
  clear hv hN hg hW1 hx1 hce
  go_enter Try.func17, Try.ntmps17
  go_upto_region 1 with fail
  rw [HW1.out, HG.out]
  go_wp2_with fail
  refine HCF.out.mono ?_
  rintro e w2 ⟨rfl, hb2⟩
  have HB2 := hid (HB1.out.trans (hb2.mono HB1.out.size))
  have HX2 := hid ((hb2.block _ (box_lt HX1.out)).trans HX1.out)
  clear hb2 HCF x0 x1 x2
  by_cases hcb : cfgB mn mx rt = false
  · have hc2 : ce = 2 := by rw [← HCE.out]; unfold cfgE; rw [if_pos hcb]
    have HQ : Hid (chk ⟨mn, mx, rt, dn, idle, next⟩ (l.map core) = 2) := hid (HF0.out.trans (by rw [if_pos hcb]))
    subst hc2
    clear hcb
    go_wp2_with fail
    go_ret
    exact ⟨(congrArg (fun r => Ending.returned (.int .i64 r)) HQ.out).symm, HB2.out⟩
  have hc2 : ce = 0 := by rw [← HCE.out]; unfold cfgE; rw [if_neg hcb]
  subst hc2
  have HCB := hid hcb
  clear hcb
  have x3 := cell_of_row _ _ 3 _ _ _ HX2.out
  have x4 := cell_of_row _ _ 4 _ _ _ HX2.out
  have x5 := cell_of_row _ _ 5 _ _ _ HX2.out
  have x6 := cell_of_row _ _ 6 _ _ _ HX2.out
  by_cases hi1 : idle < 0
  · have dhi1 : decide (idle < 0) = true := decide_eq_true (by omega)
    have HQ : Hid (chk ⟨mn, mx, rt, dn, idle, next⟩ (l.map core) = 24) := hid (HF0.out.trans (by rw [if_neg HCB.out, if_pos (show timeB idle = false from decide_eq_false (by omega))]))
    go_wp2_with fail
    go_ret
    exact ⟨(congrArg (fun r => Ending.returned (.int .i64 r)) HQ.out).symm, HB2.out⟩
  have dhi1 : decide (idle < 0) = false := decide_eq_false (by omega)
  by_cases hi2 : 1073741824 < idle
  · have dhi2 : decide ((1073741824 : Int) < idle) = true := decide_eq_true (by omega)
    have HQ : Hid (chk ⟨mn, mx, rt, dn, idle, next⟩ (l.map core) = 24) := hid (HF0.out.trans (by rw [if_neg HCB.out, if_pos (show timeB idle = false from decide_eq_false (by omega))]))
    go_wp2_with fail
    go_ret
    exact ⟨(congrArg (fun r => Ending.returned (.int .i64 r)) HQ.out).symm, HB2.out⟩
  have dhi2 : decide ((1073741824 : Int) < idle) = false := decide_eq_false (by omega)
  have HTI : Hid (timeB idle = true) := hid (decide_eq_true (by omega))
  by_cases hn1 : next < 0
  · have dhn1 : decide (next < 0) = true := decide_eq_true (by omega)
    have HQ : Hid (chk ⟨mn, mx, rt, dn, idle, next⟩ (l.map core) = 2) := hid (HF0.out.trans (by rw [if_neg HCB.out, if_neg (by rw [HTI.out]; simp), if_pos (by omega)]))
    go_wp2_with fail
    go_ret
    exact ⟨(congrArg (fun r => Ending.returned (.int .i64 r)) HQ.out).symm, HB2.out⟩
  have dhn1 : decide (next < 0) = false := decide_eq_false (by omega)
  by_cases hn2 : 1073741824 < next
  · have dhn2 : decide ((1073741824 : Int) < next) = true := decide_eq_true (by omega)
    have HQ : Hid (chk ⟨mn, mx, rt, dn, idle, next⟩ (l.map core) = 2) := hid (HF0.out.trans (by rw [if_neg HCB.out, if_neg (by rw [HTI.out]; simp), if_pos (by omega)]))
    go_wp2_with fail
    go_ret
    exact ⟨(congrArg (fun r => Ending.returned (.int .i64 r)) HQ.out).symm, HB2.out⟩
  have dhn2 : decide ((1073741824 : Int) < next) = false := decide_eq_false (by omega)
  by_cases hl : 4096 < N
  · have dhl : decide ((4096 : Int) < (N : Int)) = true := decide_eq_true (by omega)
    have HQ : Hid (chk ⟨mn, mx, rt, dn, idle, next⟩ (l.map core) = 6) := hid (HF0.out.trans (by rw [if_neg HCB.out, if_neg (by rw [HTI.out]; simp), if_neg (by omega), if_pos (by omega)]))
    go_wp2_with fail
    go_ret
    exact ⟨(congrArg (fun r => Ending.returned (.int .i64 r)) HQ.out).symm, HB2.out⟩
  have dhl : decide ((4096 : Int) < (N : Int)) = false := decide_eq_false (by omega)
  cases dn
  · clear HX1 HB1 HW1
    have HF : Hid (chk ⟨mn, mx, rt, false, idle, next⟩ (l.map core) = chkR next [] (l.map core)) := hid (HF0.out.trans (by rw [if_neg HCB.out, if_neg (by rw [HTI.out]; simp), if_neg (by omega), if_neg (by omega), if_neg (by simp)]))
    have hN4 : N ≤ 4096 := by omega
    clear hi1 hi2 hn1 hn2 hl
    go_upto_region 13 with fail
    go_loopw [4] (fun i wr => ∃ k : Nat, k ≤ N ∧ i = .int .i64 (k : Int) ∧ Hid (chkR next [] (l.map core) = chkR next ((l.map core).take k) ((l.map core).drop k)) ∧ Hid (wr.heap[g]? = some (.cells #[.int .i64 mn, .int .i64 mx, .int .i64 rt, .bool false, .int .i64 idle, .int .i64 next, .slice A N c] 26)) ∧ Hid (Below w.heap.size w wr)) (fun i _ => N - (Go.RowKit.intOf i).toNat)
    case atStart => exact ⟨0, Nat.zero_le _, rfl, hid rfl, HX2, HB2⟩
    case round =>
      obtain ⟨k, hk, rfl, HC, HX, HB⟩ := hrel
      have x6 := cell_of_row _ _ 6 _ _ _ HX.out
      have x5 := cell_of_row _ _ 5 _ _ _ HX.out
      by_cases hkn : k < N
      · have hkn' : (k : Int) < (N : Int) := by omega
        have hel := HV.out.below HB.out
        obtain ⟨b, off, rfl, hbl, hc⟩ := fl_cells hel (by rw [HN.out]; omega)
        obtain ⟨x, hx⟩ : ∃ x, l[k]? = some x := ⟨l[k]'(by rw [HN.out]; exact hkn), List.getElem?_eq_getElem _⟩
        obtain ⟨q0, q1, q2⟩ := hc k x hx
        have hxb := (hel.1 x (List.mem_of_getElem? hx)).1
        have HTK := hid (show (l.map core).take (k + 1) = (l.map core).take k ++ [core x] from take_succ'' (by rw [List.getElem?_map, hx]; rfl))
        have HDR := hid (show (l.map core).drop k = core x :: (l.map core).drop (k + 1) from by
          have h : (l.map core)[k]? = some (core x) := by rw [List.getElem?_map, hx]; rfl
          obtain ⟨hlt, he⟩ := List.getElem?_eq_some_iff.1 h
          rw [← he]
          exact List.drop_eq_getElem_cons hlt)
        have HCC := hid hc
        clear hc hx hel
        obtain ⟨xt, xn, xd, xp⟩ := x
        dsimp only at q0 q1 q2 hxb
        obtain ⟨xA, xc, rfl⟩ := byt_form hxb
        obtain ⟨xm, hxm⟩ : ∃ xm, xp.length = xm := ⟨_, rfl⟩
        rw [hxm] at q2
        have HFE : Hid (fldC (core ⟨xt, xn, .slice xA xp.length xc, xp⟩) next = fldI xt xn xm next) := hid (by unfold fldC core; dsimp only; rw [hxm])
        rw [hxm] at HFE HTK HDR
        clear hxb hxm
        obtain ⟨W2, hW2⟩ : ∃ W2, wr.alloc (.cells #[.int .i64 xt, .int .i64 xn, .slice xA xm xc] 69) = W2 := ⟨_, rfl⟩
        obtain ⟨e, he⟩ : ∃ e, wr.heap.size = e := ⟨_, rfl⟩
        have hb2 : Below wr.heap.size wr W2 := by rw [← hW2]; exact al1 _ _
        have HY2 : Hid (W2.heap[e]? = some (.cells #[.int .i64 xt, .int .i64 xn, .slice xA xm xc] 69)) := hid (by rw [← hW2, ← he]; exact heap_alloc_new _ _)
        have HX2 := hid ((hb2.block g (box_lt HX.out)).trans HX.out)
        have HB2 := hid (HB.out.trans (hb2.mono HB.out.size))
        have HBB := hid hb2
        have hbl2 : b < W2.heap.size := Nat.lt_of_lt_of_le hbl hb2.size
        have HW2 := hid hW2
        have HE := hid he
        have y0 : (wr.alloc (.cells #[.int .i64 xt, .int .i64 xn, .slice xA xm xc] 69)).cell? ⟨wr.heap.size, 0, none⟩ = some (.int .i64 xt) := by rw [hW2, he]; exact cell_of_row _ _ 0 _ _ _ HY2.out
        have y1 : (wr.alloc (.cells #[.int .i64 xt, .int .i64 xn, .slice xA xm xc] 69)).cell? ⟨wr.heap.size, 1, none⟩ = some (.int .i64 xn) := by rw [hW2, he]; exact cell_of_row _ _ 1 _ _ _ HY2.out
        have y2 : (wr.alloc (.cells #[.int .i64 xt, .int .i64 xn, .slice xA xm xc] 69)).cell? ⟨wr.heap.size, 2, none⟩ = some (.slice xA xm xc) := by rw [hW2, he]; exact cell_of_row _ _ 2 _ _ _ HY2.out
        have x6 : (wr.alloc (.cells #[.int .i64 xt, .int .i64 xn, .slice xA xm xc] 69)).cell? ⟨g, 6, none⟩ = some (.slice (some ⟨b, off, none⟩) N c) := by rw [hW2]; exact cell_of_row _ _ 6 _ _ _ HX2.out
        have x5 : (wr.alloc (.cells #[.int .i64 xt, .int .i64 xn, .slice xA xm xc] 69)).cell? ⟨g, 5, none⟩ = some (.int .i64 next) := by rw [hW2]; exact cell_of_row _ _ 5 _ _ _ HX2.out
        have HBR : Hid (Below w.heap.size w (wr.alloc (.cells #[.int .i64 xt, .int .i64 xn, .slice xA xm xc] 69))) := hid (by rw [hW2]; exact HB2.out)
        have x0w := cell_of_row _ _ 6 _ _ _ HX.out
        clear hb2 he hW2
        by_cases ht1 : xt < 0
        · have dht1 : decide (xt < 0) = true := decide_eq_true ht1
          have HQ : Hid (chk ⟨mn, mx, rt, false, idle, next⟩ (l.map core) = 24) := hid (HF.out.trans (HC.out.trans (by rw [HDR.out]; exact chk_err (HFE.out.trans (by unfold fldI; rw [if_pos (show timeB xt = false from decide_eq_false (by omega))])) (by decide))))
          go_wp2_with fail
          go_ret
          exact ⟨(congrArg (fun r => Ending.returned (.int .i64 r)) HQ.out).symm, HBR.out⟩
        have dht1 : decide (xt < 0) = false := decide_eq_false ht1
        by_cases ht2 : 1073741824 < xt
        · have dht2 : decide ((1073741824 : Int) < xt) = true := decide_eq_true ht2
          have HQ : Hid (chk ⟨mn, mx, rt, false, idle, next⟩ (l.map core) = 24) := hid (HF.out.trans (HC.out.trans (by rw [HDR.out]; exact chk_err (HFE.out.trans (by unfold fldI; rw [if_pos (show timeB xt = false from decide_eq_false (by omega))])) (by decide))))
          go_wp2_with fail
          go_ret
          exact ⟨(congrArg (fun r => Ending.returned (.int .i64 r)) HQ.out).symm, HBR.out⟩
        have dht2 : decide ((1073741824 : Int) < xt) = false := decide_eq_false ht2
        have htb : timeB xt = true := decide_eq_true (by omega)
        by_cases hn1 : xn < 0
        · have dhn1 : decide (xn < 0) = true := decide_eq_true hn1
          have HQ : Hid (chk ⟨mn, mx, rt, false, idle, next⟩ (l.map core) = 2) := hid (HF.out.trans (HC.out.trans (by rw [HDR.out]; exact chk_err (HFE.out.trans (by unfold fldI; rw [if_neg (by rw [htb]; simp), if_pos (by omega)])) (by decide))))
          go_wp2_with fail
          go_ret
          exact ⟨(congrArg (fun r => Ending.returned (.int .i64 r)) HQ.out).symm, HBR.out⟩
        have dhn1 : decide (xn < 0) = false := decide_eq_false hn1
        by_cases hn2 : next ≤ xn
        · have dhn2 : decide (next ≤ xn) = true := decide_eq_true hn2
          have HQ : Hid (chk ⟨mn, mx, rt, false, idle, next⟩ (l.map core) = 2) := hid (HF.out.trans (HC.out.trans (by rw [HDR.out]; exact chk_err (HFE.out.trans (by unfold fldI; rw [if_neg (by rw [htb]; simp), if_pos (by omega)])) (by decide))))
          go_wp2_with fail
          go_ret
          exact ⟨(congrArg (fun r => Ending.returned (.int .i64 r)) HQ.out).symm, HBR.out⟩
        have dhn2 : decide (next ≤ xn) = false := decide_eq_false hn2
        have hm1 : (65536 < xm) ↔ ((65536 : Int) < (xm : Int)) := by omega
        by_cases hm : 65536 < xm
        · have dhm : decide ((65536 : Int) < (xm : Int)) = true := decide_eq_true (by omega)
          have HQ : Hid (chk ⟨mn, mx, rt, false, idle, next⟩ (l.map core) = 5) := hid (HF.out.trans (HC.out.trans (by rw [HDR.out]; exact chk_err (HFE.out.trans (by unfold fldI; rw [if_neg (by rw [htb]; simp), if_neg (by omega), if_pos (by omega)])) (by decide))))
          go_wp2_with fail
          go_ret
          exact ⟨(congrArg (fun r => Ending.returned (.int .i64 r)) HQ.out).symm, HBR.out⟩
        have dhm : decide ((65536 : Int) < (xm : Int)) = false := decide_eq_false (by omega)
        have HFZ : Hid (fldC (core ⟨xt, xn, .slice xA xm xc, xp⟩) next = 0) := hid (HFE.out.trans (by unfold fldI; rw [if_neg (by rw [htb]; simp), if_neg (by omega), if_neg (by omega)]))
        clear ht1 ht2 hn1 hn2 hm hm1 htb
        go_wp2_with fail
        rw [HW2.out, HE.out]
        clear y0 y1 y2 x5 x6 HBR
        have x6 := cell_of_row _ _ 6 _ _ _ HX2.out
        have y0 := cell_of_row _ _ 0 _ _ _ HY2.out
        have y1 := cell_of_row _ _ 1 _ _ _ HY2.out
        by_cases hk0 : k = 0
        · subst hk0
          have HPF : Hid (prevE ((l.map core).take 0) (core ⟨xt, xn, .slice xA xm xc, xp⟩) = false) := hid (prevE_nil _)
          have dz : decide ((0 : Int) < ((0 : Nat) : Int)) = false := by decide
          have dz2 : decide ((0 : Int) < 0) = false := by decide
          go_quiet (fail)
          go_wp2_with fail
          go_loopw [6] (fun jv wq => ∃ j : Nat, j ≤ 0 ∧ jv = .int .i64 (j : Int) ∧ Hid (seenE ((l.map core).take j) xn = false) ∧ ∃ q, wq = W2.drewN q) (fun jv _ => 0 - (Go.RowKit.intOf jv).toNat)
          case atStart => exact ⟨0, Nat.zero_le _, rfl, hid rfl, nq, rfl⟩
          case round =>
            obtain ⟨i, hi, rfl, HS, q, rfl⟩ := hrel
            by_cases hik : i < 0
            · exfalso; omega
            · obtain rfl : i = 0 := by omega
              have HC2 : Hid (chkR next [] (l.map core) = chkR next ((l.map core).take (0 + 1)) ((l.map core).drop (0 + 1))) := hid (HC.out.trans (by rw [HDR.out, HTK.out]; exact chk_step HFZ.out HPF.out HS.out))
              have HBQ := hid (below_both_drewN HB2.out q)
              go_wp2_with fail
              go_roundw
              case rel => exact ⟨0 + 1, by omega, by go_num, HC2, hid HX2.out, HBQ⟩
              case measure => simp [Go.RowKit.intOf]; omega
        · obtain ⟨j, hj⟩ : ∃ j, j + 1 = k := ⟨k - 1, by omega⟩
          obtain ⟨z, hz⟩ : ∃ z, l[j]? = some z := ⟨l[j]'(by rw [HN.out]; omega), List.getElem?_eq_getElem _⟩
          obtain ⟨z0, z1, _⟩ := HCC.out j z hz
          have HPV : Hid (prevE ((l.map core).take k) (core ⟨xt, xn, .slice xA xm xc, xp⟩) = badE (core ⟨xt, xn, .slice xA xm xc, xp⟩) (core z)) := hid (by
            rw [← hj, take_succ'' (x := core z) (by rw [List.getElem?_map, hz]; rfl), prevE_snoc])
          obtain ⟨zt, zn, zd, zp⟩ := z
          have HPV2 : Hid (badE (core ⟨xt, xn, .slice xA xm xc, xp⟩) (core ⟨zt, zn, zd, zp⟩) = decide (cmpE xt xn zt zn ≤ 0)) := hid rfl
          dsimp only at z0 z1
          have w0 := (HBB.out.cell (p := ⟨b, off + j * 3, none⟩) hbl).trans z0
          have w1 := (HBB.out.cell (p := ⟨b, off + j * 3 + 1, none⟩) hbl).trans z1
          have hjN : (j : Int) < (N : Int) := by omega
          have hwk : IntKind.i64.wrap ((k : Int) - 1) = (j : Int) := by rw [IntKind.wrap_i64]; omega
          have dk : decide ((0 : Int) < (k : Int)) = true := decide_eq_true (by omega)
          have dk' : decide (0 < k) = true := decide_eq_true (by omega)
          clear z0 z1 hz
          by_cases hb1 : xt < zt
          · have e1 : decide (xt < zt) = true := decide_eq_true hb1
            have HQ : Hid (chk ⟨mn, mx, rt, false, idle, next⟩ (l.map core) = 3) := hid (HF.out.trans (HC.out.trans (by rw [HDR.out]; exact chk_prev HFZ.out (HPV.out.trans (HPV2.out.trans (decide_eq_true (bad_iff.2 (.inl hb1))))))))
            clear hb1
            go_quiet (fail)
            have HBQ := hid (below_both_drewN HB2.out nq)
            go_wp2_with fail
            go_ret
            exact ⟨(congrArg (fun r => Ending.returned (.int .i64 r)) HQ.out).symm, HBQ.out⟩
          have e1 : decide (xt < zt) = false := decide_eq_false hb1
          by_cases hb2 : xt = zt
          · have e2 : (xt == zt) = true := by rw [beq_iff_eq]; exact hb2
            by_cases hb3 : xn ≤ zn
            · have e3 : decide (xn ≤ zn) = true := decide_eq_true hb3
              have HQ : Hid (chk ⟨mn, mx, rt, false, idle, next⟩ (l.map core) = 3) := hid (HF.out.trans (HC.out.trans (by rw [HDR.out]; exact chk_prev HFZ.out (HPV.out.trans (HPV2.out.trans (decide_eq_true (bad_iff.2 (.inr ⟨hb2, hb3⟩))))))))
              clear hb1 hb2 hb3
              go_quiet (fail)
              have HBQ := hid (below_both_drewN HB2.out nq)
              go_wp2_with fail
              go_ret
              exact ⟨(congrArg (fun r => Ending.returned (.int .i64 r)) HQ.out).symm, HBQ.out⟩
            · have e3 : decide (xn ≤ zn) = false := decide_eq_false hb3
              have HPF : Hid (prevE ((l.map core).take k) (core ⟨xt, xn, .slice xA xm xc, xp⟩) = false) := hid (HPV.out.trans (HPV2.out.trans (decide_eq_false (fun h => by have := bad_iff.1 h; omega))))
              clear hb1 hb2 hb3
              go_quiet (fail)
              go_wp2_with fail
              go_loopw [6] (fun jv wq => ∃ j : Nat, j ≤ k ∧ jv = .int .i64 (j : Int) ∧ Hid (seenE ((l.map core).take j) xn = false) ∧ ∃ q, wq = W2.drewN q) (fun jv _ => k - (Go.RowKit.intOf jv).toNat)
              case atStart => exact ⟨0, Nat.zero_le _, rfl, hid rfl, nq, rfl⟩
              case round =>
                obtain ⟨i, hi, rfl, HS, q, rfl⟩ := hrel
                by_cases hik : i < k
                · have hik' : (i : Int) < (k : Int) := by omega
                  obtain ⟨u, hu⟩ : ∃ u, l[i]? = some u := ⟨l[i]'(by rw [HN.out]; omega), List.getElem?_eq_getElem _⟩
                  obtain ⟨_, u1, _⟩ := HCC.out i u hu
                  have v1 := (HBB.out.cell (p := ⟨b, off + i * 3 + 1, none⟩) hbl).trans u1
                  have hiN : (i : Int) < (N : Int) := by omega
                  have hmu : (l.map core)[i]? = some (core u) := by rw [List.getElem?_map, hu]; rfl
                  have HS1 := hid (show u.n ≠ xn → seenE ((l.map core).take (i + 1)) xn = false from fun h => by
                    rw [take_succ'' hmu, seen_snoc, HS.out]
                    rw [Bool.false_or]
                    exact decide_eq_false h)
                  have HS2 := hid (show u.n = xn → seenE ((l.map core).take k) xn = true from fun h => seen_take hik ⟨_, hmu, h⟩)
                  obtain ⟨ut, un, ud, up⟩ := u
                  dsimp only at v1 HS1 HS2
                  clear u1 hu hmu
                  by_cases hun : un = xn
                  · have e9 : (un == xn) = true := by rw [beq_iff_eq]; exact hun
                    have HQ : Hid (chk ⟨mn, mx, rt, false, idle, next⟩ (l.map core) = 8) := hid (HF.out.trans (HC.out.trans (by rw [HDR.out]; exact chk_twice HFZ.out HPF.out (HS2.out hun))))
                    clear hun
                    go_wp2_with fail
                    go_quiet (fail)
                    have HBQ := hid (below_both_drewN (below_both_drewN HB2.out q) nq)
                    go_wp2_with fail
                    go_ret
                    exact ⟨(congrArg (fun r => Ending.returned (.int .i64 r)) HQ.out).symm, HBQ.out⟩
                  · have e9 : (un == xn) = false := by rw [beq_eq_false_iff_ne]; exact hun
                    have HSN := hid (HS1.out hun)
                    clear hun
                    go_wp2_with fail
                    go_quiet (fail)
                    go_wp2_with fail
                    go_roundw
                    case rel => exact ⟨i + 1, by omega, by go_num, HSN, _, rfl⟩
                    case measure => simp [Go.RowKit.intOf]; omega
                · obtain rfl : i = k := by omega
                  have HC2 : Hid (chkR next [] (l.map core) = chkR next ((l.map core).take (i + 1)) ((l.map core).drop (i + 1))) := hid (HC.out.trans (by rw [HDR.out, HTK.out]; exact chk_step HFZ.out HPF.out HS.out))
                  have HBQ := hid (below_both_drewN HB2.out q)
                  go_wp2_with fail
                  go_roundw
                  case rel => exact ⟨i + 1, by omega, by go_num, HC2, hid HX2.out, HBQ⟩
                  case measure => simp [Go.RowKit.intOf]; omega
          · have e2 : (xt == zt) = false := by rw [beq_eq_false_iff_ne]; exact hb2
            have HPF : Hid (prevE ((l.map core).take k) (core ⟨xt, xn, .slice xA xm xc, xp⟩) = false) := hid (HPV.out.trans (HPV2.out.trans (decide_eq_false (fun h => by have := bad_iff.1 h; omega))))
            clear hb1 hb2
            go_quiet (fail)
            go_wp2_with fail
            go_loopw [6] (fun jv wq => ∃ j : Nat, j ≤ k ∧ jv = .int .i64 (j : Int) ∧ Hid (seenE ((l.map core).take j) xn = false) ∧ ∃ q, wq = W2.drewN q) (fun jv _ => k - (Go.RowKit.intOf jv).toNat)
            case atStart => exact ⟨0, Nat.zero_le _, rfl, hid rfl, nq, rfl⟩
            case round =>
              obtain ⟨i, hi, rfl, HS, q, rfl⟩ := hrel
              by_cases hik : i < k
              · have hik' : (i : Int) < (k : Int) := by omega
                obtain ⟨u, hu⟩ : ∃ u, l[i]? = some u := ⟨l[i]'(by rw [HN.out]; omega), List.getElem?_eq_getElem _⟩
                obtain ⟨_, u1, _⟩ := HCC.out i u hu
                have v1 := (HBB.out.cell (p := ⟨b, off + i * 3 + 1, none⟩) hbl).trans u1
                have hiN : (i : Int) < (N : Int) := by omega
                have hmu : (l.map core)[i]? = some (core u) := by rw [List.getElem?_map, hu]; rfl
                have HS1 := hid (show u.n ≠ xn → seenE ((l.map core).take (i + 1)) xn = false from fun h => by
                  rw [take_succ'' hmu, seen_snoc, HS.out]
                  rw [Bool.false_or]
                  exact decide_eq_false h)
                have HS2 := hid (show u.n = xn → seenE ((l.map core).take k) xn = true from fun h => seen_take hik ⟨_, hmu, h⟩)
                obtain ⟨ut, un, ud, up⟩ := u
                dsimp only at v1 HS1 HS2
                clear u1 hu hmu
                by_cases hun : un = xn
                · have e9 : (un == xn) = true := by rw [beq_iff_eq]; exact hun
                  have HQ : Hid (chk ⟨mn, mx, rt, false, idle, next⟩ (l.map core) = 8) := hid (HF.out.trans (HC.out.trans (by rw [HDR.out]; exact chk_twice HFZ.out HPF.out (HS2.out hun))))
                  clear hun
                  go_wp2_with fail
                  go_quiet (fail)
                  have HBQ := hid (below_both_drewN (below_both_drewN HB2.out q) nq)
                  go_wp2_with fail
                  go_ret
                  exact ⟨(congrArg (fun r => Ending.returned (.int .i64 r)) HQ.out).symm, HBQ.out⟩
                · have e9 : (un == xn) = false := by rw [beq_eq_false_iff_ne]; exact hun
                  have HSN := hid (HS1.out hun)
                  clear hun
                  go_wp2_with fail
                  go_quiet (fail)
                  go_wp2_with fail
                  go_roundw
                  case rel => exact ⟨i + 1, by omega, by go_num, HSN, _, rfl⟩
                  case measure => simp [Go.RowKit.intOf]; omega
              · obtain rfl : i = k := by omega
                have HC2 : Hid (chkR next [] (l.map core) = chkR next ((l.map core).take (i + 1)) ((l.map core).drop (i + 1))) := hid (HC.out.trans (by rw [HDR.out, HTK.out]; exact chk_step HFZ.out HPF.out HS.out))
                have HBQ := hid (below_both_drewN HB2.out q)
                go_wp2_with fail
                go_roundw
                case rel => exact ⟨i + 1, by omega, by go_num, HC2, hid HX2.out, HBQ⟩
                case measure => simp [Go.RowKit.intOf]; omega
      · obtain rfl : k = N := by omega
        have HFIN : Hid (chk ⟨mn, mx, rt, false, idle, next⟩ (l.map core) = 0) := hid (HF.out.trans (HC.out.trans (by rw [List.drop_of_length_le (by rw [List.length_map, HN.out]; exact Nat.le_refl _)]; rfl)))
        go_wp2_with fail
        go_ret
        exact ⟨(congrArg (fun r => Ending.returned (.int .i64 r)) HFIN.out).symm, HB.out⟩
  · by_cases hd : 0 < N
    · have dd : decide ((0 : Int) < (N : Int)) = true := decide_eq_true (by omega)
      have HQ : Hid (chk ⟨mn, mx, rt, true, idle, next⟩ (l.map core) = 12) := hid (HF0.out.trans (by rw [if_neg HCB.out, if_neg (by rw [HTI.out]; simp), if_neg (by omega), if_neg (by omega), if_pos ⟨rfl, hd⟩]))
      go_wp2_with fail
      go_ret
      exact ⟨(congrArg (fun r => Ending.returned (.int .i64 r)) HQ.out).symm, HB2.out⟩
    have dd : decide ((0 : Int) < (N : Int)) = false := decide_eq_false (by omega)
    obtain rfl : N = 0 := by omega
    have hnil : l = [] := List.length_eq_zero_iff.1 HN.out
    have HQ : Hid (chk ⟨mn, mx, rt, true, idle, next⟩ (l.map core) = 0) := hid (HF0.out.trans (by rw [if_neg HCB.out, if_neg (by rw [HTI.out]; simp), if_neg (by omega), if_neg (by omega), if_neg (by omega), hnil]; rfl))
    clear hi1 hi2 hn1 hn2 hl hnil
    go_upto_region 13 with fail
    go_loopw [4] (fun i wr => i = .int .i64 0 ∧ wr = w2) (fun _ _ => 0)
    case atStart => exact ⟨rfl, rfl⟩
    case round =>
      obtain ⟨rfl, rfl⟩ := hrel
      go_wp2_with fail
      go_ret
      exact ⟨(congrArg (fun r => Ending.returned (.int .i64 r)) HQ.out).symm, HB2.out⟩
end Go.Proofs.Ytacpejoablcffaa
