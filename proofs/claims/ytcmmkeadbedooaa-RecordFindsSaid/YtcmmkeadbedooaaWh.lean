/- The law RecordFinds. -/
import Derived.Test.YtcmmkeadbedooaaYd
import Derived.Test.YtcmmkeadbedooaaX
import Derived.Test.YtcmmkeadbedooaaV2
namespace Go.Proofs.Ytcmmkeadbedooaa
open Go.RowKit Go.Lib

theorem u8_nat {x : Int} (h : (Lit.int .u8 x).wf = true) : ∃ y : Nat, x = (y : Int) ∧ y < 256 := by
  have hb := bounds_u8 h
  obtain ⟨y, rfl⟩ := Int.eq_ofNat_of_zero_le hb.1
  exact ⟨y, rfl, by omega⟩
theorem put1 {w : World} {x : Nat} {a0 a1 a2 : Value} (v1 : Value) (h : w.heap[x]? = some (.cells #[a0, a1, a2] 27)) : (w.setCell ⟨x, 1, none⟩ v1).heap[x]? = some (.cells #[a0, v1, a2] 27) :=
  box_set (cs := [a0, a1, a2]) h 1 v1
theorem own_off {w : World} {base n E st : Nat} {v : Value} {xs : List Value} (h : w.ownsRow base E st v n xs) {x : Nat} (hx : ∀ k, v.ownBlock = some k → k ≠ x) (i : Nat) (u : Value) : (w.setCell ⟨x, i, none⟩ u).ownsRow base E st v n xs := by
  refine ⟨h.1, ?_⟩
  rcases h.2 with h0 | ⟨k, cap, cur, e, hb, hgb, h2⟩
  · exact .inl h0
  · exact .inr ⟨k, cap, cur, e, hb, (Below.heap_setCell _ _ _ _ (hx k (by rw [e]; rfl))).trans hgb, h2⟩
theorem rl_of_byt {w : World} {base m : Nat} {v : Value} {vs : List Rv} (h : w.ownsRow base 27 3 v m (vs.map cRv).flatten) (hm : vs.length = m) (hp : ∀ x ∈ vs, Byt w x.d x.p) : RL w v vs := by
  refine ⟨hp, arr_of_own h (by rw [List.length_map, hm]) fun r hr => ?_⟩
  obtain ⟨s, hs, rfl⟩ := List.mem_map.1 hr
  rfl
theorem encs_len (rs : List Rc) (h : ∀ r ∈ rs, r.2.2.length ≤ 60) : (encs rs).length ≤ 17 * rs.length := by
  induction rs with
  | nil => simp [encs]
  | cons r t ih =>
    have e : encs (r :: t) = encR r.1 r.2.1 r.2.2 ++ encs t := by unfold encs; simp
    have h1 := h r (List.mem_cons_self ..)
    have h2 := ih (fun x hx => h x (List.mem_cons_of_mem _ hx))
    rw [e, List.length_append, encR_len, List.length_cons]
    unfold size
    omega

set_option maxHeartbeats 4000000 in
set_option maxRecDepth 100000 in
theorem finds_walk (l : List Rv) (gi si : Int) (v : Value) (w : World) (hv : RvA w v l) (hgi : (Lit.int .u8 gi).wf = true) (hsi : (Lit.int .u8 si).wf = true) :
    Calls Try.prog 10 #[v, .int .u8 gi, .int .u8 si] w fun e w' => e = .returned (.bool true) ∧ Below w.heap.size w w' := by
  obtain ⟨gp, rfl, hgp⟩ := u8_nat hgi
  obtain ⟨sk, rfl, hsk⟩ := u8_nat hsi
  clear hgi hsi
  obtain ⟨hok, A, c, rfl, hcap, hcm, b, off, hA, hc⟩ := hv
  rw [List.length_map] at hcap hA ⊢
  obtain ⟨L, hL⟩ : ∃ L, l.length = L := ⟨_, rfl⟩
  rw [hL] at hcap hA ⊢
  have HL := hid hL
  have HC := hid hc
  have HOK := hid hok
  unfold maxLen at hcm
  clear hL hc hok
  by_cases h8 : 8 < L
  · have d1 : decide ((8 : Int) < (L : Int)) = true := decide_eq_true (by omega)
    go_enter Try.func10, Try.ntmps10
    go_wp2_with fail
    refine (awake_any w).mono ?_
    rintro e w2 ⟨rfl, hb2⟩
    go_wp2
    go_ret
    exact ⟨rfl, hb2⟩
  have d1 : decide ((8 : Int) < (L : Int)) = false := decide_eq_false (by omega)
  have hwg : IntKind.i64.wrap (gp : Int) = (gp : Int) := wrap64_nat (by omega)
  have hws : IntKind.i64.wrap (sk : Int) = (sk : Int) := wrap64_nat (by omega)
  obtain ⟨s1, hs1⟩ : ∃ s1, 1 + sk = s1 := ⟨_, rfl⟩
  have hws1 : IntKind.i64.wrap (1 + (sk : Int)) = (s1 : Int) := by rw [IntKind.wrap_i64]; omega
  have HS1 := hid hs1
  clear hs1
  go_enter Try.func10, Try.ntmps10
  go_wp2_with fail
  go_loopw [7, 8, 9, 10, 11] (fun av wv nv uv iv wr => ∃ (k n0 m na : Nat) (rs : List Rc) (vs : List Rv), k ≤ L ∧ iv = .int .i64 (k : Int) ∧ nv = .int .i64 (n0 : Int) ∧ uv = .int .i64 ((encs (rs.take gp)).length : Int) ∧
    Hid (n0 = if k ≤ gp then 5 + k else 6 + k + sk) ∧ Hid (rs.length = k) ∧ Hid ((encs rs).length = na) ∧ Hid (na ≤ 17 * k) ∧ Hid (vs.length = m) ∧ m ≤ k ∧ Hid (vs.map core = (rs.take gp).map coreR) ∧
    Hid (wr.ownsRow w.heap.size 52 8 av na ((encs rs).map cSec).flatten) ∧ Hid (wr.ownsRow w.heap.size 27 3 wv m (vs.map cRv).flatten) ∧
    Hid (∀ x ∈ vs, Byt w x.d x.p) ∧ Hid (∀ r ∈ rs, Ok r) ∧ Hid (∀ i r, rs[i]? = some r → r.2.1 = if i < gp then 5 + i else 6 + i + sk) ∧ Hid (Below w.heap.size w wr)) (fun _ _ _ _ i _ => L - (Lib.intOf i).toNat)
  case atStart => exact ⟨0, 5, 0, 0, [], [], Nat.zero_le _, rfl, rfl, by simp [encs], hid (by simp), hid rfl, hid rfl, hid (Nat.zero_le _), hid rfl, Nat.le_refl _, hid (by simp), hid (World.ownsRow_nil _ _ _ _), hid (World.ownsRow_nil _ _ _ _), hid (fun x hx => by cases hx), hid (fun x hx => by cases hx), hid (fun i r h => by simp at h), hid (Below.refl _ _)⟩
  case round =>
    obtain ⟨k, n0, m, na, rs, vs, hk, rfl, rfl, rfl, HN0, HRS, HNA, HNB, HM, hmk, HVS, HO, HQ, HVB, HROK, HNUM, HB⟩ := hrel
    obtain ⟨aA, ac, rfl⟩ := own_formE HO.out
    obtain ⟨qA, qc, rfl⟩ := own_form27 HQ.out
    obtain ⟨u0, hu0⟩ : ∃ u, (encs (rs.take gp)).length = u := ⟨_, rfl⟩
    have HU0 := hid hu0
    rw [hu0]
    clear hu0
    have hn0 : n0 ≤ 300 := by rw [HN0.out]; split <;> omega
    have hnab : na ≤ 17 * k := HNB.out
    by_cases hkl : k < L
    · have hkl' : (k : Int) < (L : Int) := by omega
      obtain ⟨e1, hbl⟩ := hA (by omega)
      subst e1
      obtain ⟨x, hx⟩ : ∃ x, l[k]? = some x := ⟨l[k]'(by rw [HL.out]; omega), List.getElem?_eq_getElem _⟩
      have hr1 : ∀ (j : Nat) (z : Value), (cRv x)[j]? = some z → wr.cell? ⟨b, off + k * 3 + j, none⟩ = some z := fun j z hz => (HB.out.cell (p := ⟨b, off + k * 3 + j, none⟩) hbl).trans (HC.out k _ (by rw [List.getElem?_map, hx]; rfl) j z hz)
      have hxo := HOK.out x (List.mem_of_getElem? hx)
      clear hx
      obtain ⟨xk, xq, xd, xp⟩ := x
      obtain ⟨hpx, hnx, _, _⟩ := hxo
      dsimp only at hpx hnx
      have q0 : wr.cell? ⟨b, off + k * 3, none⟩ = some (.int .i64 xk) := hr1 0 _ rfl
      have q1 : wr.cell? ⟨b, off + k * 3 + 1, none⟩ = some (.int .i64 xq) := hr1 1 _ rfl
      have q2 : wr.cell? ⟨b, off + k * 3 + 2, none⟩ = some xd := hr1 2 _ rfl
      obtain ⟨xA, xc, rfl⟩ := byt_form hpx
      obtain ⟨xn, hxn⟩ : ∃ xn, xp.length = xn := ⟨_, rfl⟩
      rw [hxn] at hpx q2
      have HPX := hid hpx
      have HXN := hid hxn
      clear hr1 hpx hnx hxn
      by_cases h60 : 60 < xn
      · have d60 : decide ((60 : Int) < (xn : Int)) = true := decide_eq_true (by omega)
        go_wp2_with fail
        refine (awake_any wr).mono ?_
        rintro e w2 ⟨rfl, hb2⟩
        have HB2 := hid (HB.out.trans (hb2.mono HB.out.size))
        clear hb2
        go_wp2
        go_ret
        exact ⟨rfl, HB2.out⟩
      have d60 : decide ((60 : Int) < (xn : Int)) = false := decide_eq_false (by omega)
      obtain ⟨fK, hfK⟩ : ∃ K, fk xk = K := ⟨_, rfl⟩
      obtain ⟨fQ, hfQ⟩ : ∃ Q, fq xq = Q := ⟨_, rfl⟩
      have hfk := fk_ok xk
      have hfit := fit_any xk xq (.slice xA xn xc) xA xn xc wr rfl
      rw [hfK] at hfk hfit
      rw [hfQ] at hfit
      have HFIT := hid hfit
      clear hfit hfK hfQ
      go_wp2_with fail
      refine HFIT.out.mono ?_
      rintro e w2 ⟨rfl, hb2⟩
      obtain ⟨W3, hW3⟩ : ∃ W3, w2.alloc (.cells #[.int .i64 (fK : Int), .int .i64 (fQ : Int), .slice xA xn xc] 27) = W3 := ⟨_, rfl⟩
      have hb3 : Below w2.heap.size w2 W3 := by rw [← hW3]; exact al1 _ _
      have hx3 : W3.heap[w2.heap.size]? = some (.cells #[.int .i64 (fK : Int), .int .i64 (fQ : Int), .slice xA xn xc] 27) := by rw [← hW3]; exact heap_alloc_new _ _
      have hb23 : Below wr.heap.size wr W3 := hb2.trans (hb3.mono hb2.size)
      have HB3 := hid (HB.out.trans (hb23.mono HB.out.size))
      have HO3 := hid (own_keep HO.out (keep_below hb23))
      have HQ3 := hid (own_keep HQ.out (keep_below hb23))
      have hg2 : w.heap.size ≤ w2.heap.size := Nat.le_trans HB.out.size hb2.size
      by_cases hA1 : k < gp
      · skip
        have dg : ((k : Int) == (gp : Int)) = false := by rw [beq_eq_false_iff_ne]; omega
        have dl : decide ((k : Int) < (gp : Int)) = true := decide_eq_true (by omega)
        have HN1 : Hid (n0 = if k < gp then 5 + k else 6 + k + sk) := hid (by rw [HN0.out]; rw [if_pos (by omega), if_pos (by omega)])
        have hn1p : 0 < n0 := by rw [HN1.out]; split <;> omega
        obtain ⟨n2, hn2⟩ : ∃ n2, n0 + 1 = n2 := ⟨_, rfl⟩
        have hwn2 : IntKind.i64.wrap ((n0 : Int) + 1) = (n2 : Int) := by rw [IntKind.wrap_i64]; omega
        have HN2 := hid hn2
        clear hn2
        have x0 := cell_of_row _ _ 0 _ _ _ hx3
        have x1 := cell_of_row _ _ 1 _ _ _ hx3
        have x2 := cell_of_row _ _ 2 _ _ _ hx3
        have fr1 := box_fr hx3 1
        obtain ⟨W4, hW4⟩ : ∃ W4, w2.alloc (.cells #[.int .i64 (fK : Int), .int .i64 (n0 : Int), .slice xA xn xc] 27) = W4 := ⟨_, rfl⟩
        have hb4 : Below w2.heap.size w2 W4 := by rw [← hW4]; exact al1 _ _
        have HX4 : Hid (W4.heap[w2.heap.size]? = some (.cells #[.int .i64 (fK : Int), .int .i64 (n0 : Int), .slice xA xn xc] 27)) := hid (by rw [← hW4]; exact heap_alloc_new _ _)
        have hb24 : Below wr.heap.size wr W4 := hb2.trans (hb4.mono hb2.size)
        have HB4 := hid (HB.out.trans (hb24.mono HB.out.size))
        have HO4 := hid (own_keep HO.out (keep_below hb24))
        have HQ4 := hid (own_keep HQ.out (keep_below hb24))
        have HW4 := hid hW4
        clear hW4 hx3 hb3 hb23 hb2 hb4 hb24 HB3 HO3 HQ3
        have henc := encode_any (fK : Int) (n0 : Int) xp (.slice xA xn xc) W4 (HPX.out.below HB4.out) (by omega) (by omega)
        have HENC := hid henc
        have HEN := hid (encS_ok (k := fK) (q := n0) (p := xp) (by omega) (by omega) (by omega) (by omega) (by rw [HXN.out]; omega))
        clear henc
        subst hW3
        go_wp2_with fail
        rw [HW4.out]
        refine HENC.out.mono ?_
        rintro e w5 h5
        obtain ⟨v5, rfl, hb5, hs5, ho5⟩ := enc_li h5 HEN.out
        have hs5' := sec_of_own ho5 hs5
        have hnil5 := own_nilOkE ho5
        have hlr := encR_len fK n0 xp
        rw [HXN.out] at hlr
        have hlb : size xn ≤ 17 := by unfold size; omega
        obtain ⟨LR, hLR⟩ : ∃ r, encR fK n0 xp = r := ⟨_, rfl⟩
        have HLR := hid hLR
        rw [hLR] at hs5 ho5 hs5' hlr
        obtain ⟨ln, hln⟩ : ∃ n, LR.length = n := ⟨_, rfl⟩
        have HLN := hid hln
        rw [hln] at ho5 hlr
        have hlnb : ln ≤ 17 := by omega
        obtain ⟨A5, c5, rfl⟩ := own_formE ho5
        have HB5 := hid (HB4.out.trans (hb5.mono HB4.out.size))
        have HX5 := hid ((hb5.block w2.heap.size (box_lt HX4.out)).trans HX4.out)
        have HO5 := hid (own_keep HO4.out (keep_below hb5))
        have HQ5 := hid (own_keep HQ4.out (keep_below hb5))
        have HS5 := hid hs5'
        have HN5 := hid hnil5
        have hz5 := HB5.out.size
        have HOK1 : Hid (Ok (fK, n0, xp)) := hid ⟨by dsimp only; omega, by dsimp only; omega, by dsimp only; omega, by dsimp only; omega, by dsimp only; rw [HXN.out]; omega, HPX.out.1⟩
        clear h5 hb5 hs5 ho5 hs5' hnil5 hlr hLR hln x0 x1 x2 fr1
        have x0 := cell_of_row _ _ 0 _ _ _ HX5.out
        have x1 := cell_of_row _ _ 1 _ _ _ HX5.out
        have x2 := cell_of_row _ _ 2 _ _ _ HX5.out
        go_wp2_with (first | (at_builtin; (refine append_sec rfl (.tmp 62) (.tmp 63) rfl w.heap.size (.slice aA na ac) na _ rfl HO5.out LR _ rfl HS5.out HN5.out (by rw [HLN.out]; omega) hz5 ?_; intro v6 w6 ho6 hg6; rw [HLN.out] at ho6; have HX6 := hid (keep_grown HO5.out (T := 27) (by decide) hg6 w2.heap.size _ HX5.out); have HB6 := hid (below_ownE HB5.out HO5.out hg6 hz5 (Nat.le_refl _)); have HQ6 := hid (own_keep HQ5.out (keep_grown HO5.out (T := 27) (by decide) hg6)); obtain ⟨a6, c6, rfl⟩ := own_formE ho6; have HO6 := hid ho6; have hz6 := HB6.out.size; have x0 := cell_of_row _ _ 0 _ _ _ HX6.out; have x1 := cell_of_row _ _ 1 _ _ _ HX6.out; have x2 := cell_of_row _ _ 2 _ _ _ HX6.out; clear ho6 hg6)) | (at_builtin; (refine append_rec rfl (.tmp 69) (.tmp 71) rfl w.heap.size (.slice qA m qc) m _ rfl (own_keep HQ6.out (keep_below (al1 _ _))) (fK : Int) (n0 : Int) xA xn xc ⟨w6.heap.size, 0, none⟩ 1 rfl (fun j u hu => by rw [add_at, cell_of_row _ _ _ _ _ _ (heap_alloc_new w6 (.cells #[.int .i64 (fK : Int), .int .i64 (n0 : Int), .slice xA xn xc] 27))]; simpa using hu) (by omega) (by simp; omega) ?_; intro v7 w7 ho7 hg7; have how := own_keep HQ6.out (keep_below (al1 w6 (.cells #[.int .i64 (fK : Int), .int .i64 (n0 : Int), .slice xA xn xc] 27))); have HB7 := hid (below_ownE (HB6.out.alloc hz6 _) how hg7 (by simp; omega) (Nat.le_refl _)); have HO7 := hid (own_keep (own_keep HO6.out (keep_below (al1 w6 (.cells #[.int .i64 (fK : Int), .int .i64 (n0 : Int), .slice xA xn xc] 27)))) (keep_grown how (T := 52) (by decide) hg7)); obtain ⟨q7, qc7, rfl⟩ := own_form27 ho7; have HQ7 := hid ho7; clear ho7 hg7 how)) | fail)
        have HT : Hid ((rs ++ [(fK, n0, xp)]).take gp = rs ++ [(fK, n0, xp)]) := hid (List.take_of_length_le (by rw [List.length_append, HRS.out]; simp; omega))
        have HT0 : Hid (rs.take gp = rs) := hid (List.take_of_length_le (by rw [HRS.out]; omega))
        go_roundw
        case rel => exact ⟨k + 1, n2, m + 1, na + ln, rs ++ [(fK, n0, xp)], vs ++ [⟨(fK : Int), (n0 : Int), .slice xA xn xc, xp⟩], by omega, by go_num, rfl, (by rw [HT.out, encs_append, List.length_append, HNA.out, encs_one, HLR.out, HLN.out]; exact int_eq (by omega)), hid (by rw [← HN2.out, HN1.out]; rw [if_pos (by omega), if_pos (by omega)]; omega), hid (by rw [List.length_append, HRS.out]; rfl), hid (by rw [encs_append, List.length_append, HNA.out, encs_one, HLR.out, HLN.out]), hid (by omega), hid (by rw [List.length_append, HM.out]; rfl), by omega, hid (by rw [HT.out, List.map_append, List.map_append, HVS.out, HT0.out]; rfl), hid (by rw [encs_append, List.map_append, List.flatten_append, encs_one, HLR.out]; exact HO7.out), hid (by rw [List.map_append, List.flatten_append]; simpa [cRv] using HQ7.out), hid (fun x hx => (List.mem_append.1 hx).elim (HVB.out x) (fun hx => by rw [List.mem_singleton] at hx; subst hx; exact HPX.out)), hid (fun x hx => (List.mem_append.1 hx).elim (HROK.out x) (fun hx => by rw [List.mem_singleton] at hx; subst hx; exact HOK1.out)), hid (fun i r hr => by
          rcases Nat.lt_or_ge i rs.length with hl | hl
          · rw [List.getElem?_append_left hl] at hr; exact HNUM.out i r hr
          · rw [List.getElem?_append_right hl] at hr
            obtain ⟨h0, rfl⟩ : i - rs.length = 0 ∧ (fK, n0, xp) = r := by
              rcases hj : i - rs.length with _ | j
              · rw [hj] at hr; exact ⟨rfl, by simpa using hr⟩
              · rw [hj] at hr; simp at hr
            obtain rfl : i = k := by have := HRS.out; omega
            exact HN1.out), HB7⟩
        case measure => simp [Lib.intOf]; omega
      by_cases hA2 : k = gp
      · skip
        have dg : ((k : Int) == (gp : Int)) = true := by rw [beq_iff_eq]; omega
        have dl : decide ((k : Int) < (gp : Int)) = false := decide_eq_false (by omega)
        obtain ⟨n1, hn1⟩ : ∃ n1, n0 + s1 = n1 := ⟨_, rfl⟩
        have HN1 : Hid (n1 = if k < gp then 5 + k else 6 + k + sk) := hid (by rw [← hn1, HN0.out, if_pos (by omega), if_neg (by omega), ← HS1.out]; omega)
        have hn1b : n1 ≤ 600 := by rw [HN1.out]; split <;> omega
        have hn1p : 0 < n1 := by rw [HN1.out]; split <;> omega
        have hwn : IntKind.i64.wrap ((n0 : Int) + (s1 : Int)) = (n1 : Int) := by rw [IntKind.wrap_i64]; omega
        clear hn1
        obtain ⟨n2, hn2⟩ : ∃ n2, n1 + 1 = n2 := ⟨_, rfl⟩
        have hwn2 : IntKind.i64.wrap ((n1 : Int) + 1) = (n2 : Int) := by rw [IntKind.wrap_i64]; omega
        have HN2 := hid hn2
        clear hn2
        have x0 := cell_of_row _ _ 0 _ _ _ hx3
        have x1 := cell_of_row _ _ 1 _ _ _ hx3
        have x2 := cell_of_row _ _ 2 _ _ _ hx3
        have fr1 := box_fr hx3 1
        obtain ⟨W4, hW4⟩ : ∃ W4, w2.alloc (.cells #[.int .i64 (fK : Int), .int .i64 (n1 : Int), .slice xA xn xc] 27) = W4 := ⟨_, rfl⟩
        have hb4 : Below w2.heap.size w2 W4 := by rw [← hW4]; exact al1 _ _
        have HX4 : Hid (W4.heap[w2.heap.size]? = some (.cells #[.int .i64 (fK : Int), .int .i64 (n1 : Int), .slice xA xn xc] 27)) := hid (by rw [← hW4]; exact heap_alloc_new _ _)
        have hb24 : Below wr.heap.size wr W4 := hb2.trans (hb4.mono hb2.size)
        have HB4 := hid (HB.out.trans (hb24.mono HB.out.size))
        have HO4 := hid (own_keep HO.out (keep_below hb24))
        have HQ4 := hid (own_keep HQ.out (keep_below hb24))
        have HW4 := hid hW4
        clear hW4 hx3 hb3 hb23 hb2 hb4 hb24 HB3 HO3 HQ3
        have henc := encode_any (fK : Int) (n1 : Int) xp (.slice xA xn xc) W4 (HPX.out.below HB4.out) (by omega) (by omega)
        have HENC := hid henc
        have HEN := hid (encS_ok (k := fK) (q := n1) (p := xp) (by omega) (by omega) (by omega) (by omega) (by rw [HXN.out]; omega))
        clear henc
        subst hW3
        go_wp2_with fail
        rw [HW4.out]
        refine HENC.out.mono ?_
        rintro e w5 h5
        obtain ⟨v5, rfl, hb5, hs5, ho5⟩ := enc_li h5 HEN.out
        have hs5' := sec_of_own ho5 hs5
        have hnil5 := own_nilOkE ho5
        have hlr := encR_len fK n1 xp
        rw [HXN.out] at hlr
        have hlb : size xn ≤ 17 := by unfold size; omega
        obtain ⟨LR, hLR⟩ : ∃ r, encR fK n1 xp = r := ⟨_, rfl⟩
        have HLR := hid hLR
        rw [hLR] at hs5 ho5 hs5' hlr
        obtain ⟨ln, hln⟩ : ∃ n, LR.length = n := ⟨_, rfl⟩
        have HLN := hid hln
        rw [hln] at ho5 hlr
        have hlnb : ln ≤ 17 := by omega
        obtain ⟨A5, c5, rfl⟩ := own_formE ho5
        have HB5 := hid (HB4.out.trans (hb5.mono HB4.out.size))
        have HX5 := hid ((hb5.block w2.heap.size (box_lt HX4.out)).trans HX4.out)
        have HO5 := hid (own_keep HO4.out (keep_below hb5))
        have HQ5 := hid (own_keep HQ4.out (keep_below hb5))
        have HS5 := hid hs5'
        have HN5 := hid hnil5
        have hz5 := HB5.out.size
        have HOK1 : Hid (Ok (fK, n1, xp)) := hid ⟨by dsimp only; omega, by dsimp only; omega, by dsimp only; omega, by dsimp only; omega, by dsimp only; rw [HXN.out]; omega, HPX.out.1⟩
        clear h5 hb5 hs5 ho5 hs5' hnil5 hlr hLR hln x0 x1 x2 fr1
        have x0 := cell_of_row _ _ 0 _ _ _ HX5.out
        have x1 := cell_of_row _ _ 1 _ _ _ HX5.out
        have x2 := cell_of_row _ _ 2 _ _ _ HX5.out
        go_wp2_with (first | (at_builtin; (refine append_sec rfl (.tmp 62) (.tmp 63) rfl w.heap.size (.slice aA na ac) na _ rfl HO5.out LR _ rfl HS5.out HN5.out (by rw [HLN.out]; omega) hz5 ?_; intro v6 w6 ho6 hg6; rw [HLN.out] at ho6; have HX6 := hid (keep_grown HO5.out (T := 27) (by decide) hg6 w2.heap.size _ HX5.out); have HB6 := hid (below_ownE HB5.out HO5.out hg6 hz5 (Nat.le_refl _)); have HQ6 := hid (own_keep HQ5.out (keep_grown HO5.out (T := 27) (by decide) hg6)); obtain ⟨a6, c6, rfl⟩ := own_formE ho6; have HO6 := hid ho6; have hz6 := HB6.out.size; have x0 := cell_of_row _ _ 0 _ _ _ HX6.out; have x1 := cell_of_row _ _ 1 _ _ _ HX6.out; have x2 := cell_of_row _ _ 2 _ _ _ HX6.out; clear ho6 hg6)) | fail)
        have HT : Hid ((rs ++ [(fK, n1, xp)]).take gp = rs.take gp) := hid (List.take_append_of_le_length (by rw [HRS.out]; omega))
        go_roundw
        case rel => exact ⟨k + 1, n2, m, na + ln, rs ++ [(fK, n1, xp)], vs, by omega, by go_num, rfl, by rw [HT.out, HU0.out], hid (by rw [← HN2.out, HN1.out]; rw [if_neg (by omega), if_neg (by omega)]; omega), hid (by rw [List.length_append, HRS.out]; rfl), hid (by rw [encs_append, List.length_append, HNA.out, encs_one, HLR.out, HLN.out]), hid (by omega), HM, by omega, hid (by rw [HT.out]; exact HVS.out), hid (by rw [encs_append, List.map_append, List.flatten_append, encs_one, HLR.out]; exact HO6.out), HQ6, HVB, hid (fun x hx => (List.mem_append.1 hx).elim (HROK.out x) (fun hx => by rw [List.mem_singleton] at hx; subst hx; exact HOK1.out)), hid (fun i r hr => by
          rcases Nat.lt_or_ge i rs.length with hl | hl
          · rw [List.getElem?_append_left hl] at hr; exact HNUM.out i r hr
          · rw [List.getElem?_append_right hl] at hr
            obtain ⟨h0, rfl⟩ : i - rs.length = 0 ∧ (fK, n1, xp) = r := by
              rcases hj : i - rs.length with _ | j
              · rw [hj] at hr; exact ⟨rfl, by simpa using hr⟩
              · rw [hj] at hr; simp at hr
            obtain rfl : i = k := by have := HRS.out; omega
            exact HN1.out), HB6⟩
        case measure => simp [Lib.intOf]; omega
      have dg : ((k : Int) == (gp : Int)) = false := by rw [beq_eq_false_iff_ne]; omega
      have dl : decide ((k : Int) < (gp : Int)) = false := decide_eq_false (by omega)
      have HN1 : Hid (n0 = if k < gp then 5 + k else 6 + k + sk) := hid (by rw [HN0.out]; rw [if_neg (by omega), if_neg (by omega)])
      have hn1p : 0 < n0 := by rw [HN1.out]; split <;> omega
      obtain ⟨n2, hn2⟩ : ∃ n2, n0 + 1 = n2 := ⟨_, rfl⟩
      have hwn2 : IntKind.i64.wrap ((n0 : Int) + 1) = (n2 : Int) := by rw [IntKind.wrap_i64]; omega
      have HN2 := hid hn2
      clear hn2
      have x0 := cell_of_row _ _ 0 _ _ _ hx3
      have x1 := cell_of_row _ _ 1 _ _ _ hx3
      have x2 := cell_of_row _ _ 2 _ _ _ hx3
      have fr1 := box_fr hx3 1
      obtain ⟨W4, hW4⟩ : ∃ W4, w2.alloc (.cells #[.int .i64 (fK : Int), .int .i64 (n0 : Int), .slice xA xn xc] 27) = W4 := ⟨_, rfl⟩
      have hb4 : Below w2.heap.size w2 W4 := by rw [← hW4]; exact al1 _ _
      have HX4 : Hid (W4.heap[w2.heap.size]? = some (.cells #[.int .i64 (fK : Int), .int .i64 (n0 : Int), .slice xA xn xc] 27)) := hid (by rw [← hW4]; exact heap_alloc_new _ _)
      have hb24 : Below wr.heap.size wr W4 := hb2.trans (hb4.mono hb2.size)
      have HB4 := hid (HB.out.trans (hb24.mono HB.out.size))
      have HO4 := hid (own_keep HO.out (keep_below hb24))
      have HQ4 := hid (own_keep HQ.out (keep_below hb24))
      have HW4 := hid hW4
      clear hW4 hx3 hb3 hb23 hb2 hb4 hb24 HB3 HO3 HQ3
      have henc := encode_any (fK : Int) (n0 : Int) xp (.slice xA xn xc) W4 (HPX.out.below HB4.out) (by omega) (by omega)
      have HENC := hid henc
      have HEN := hid (encS_ok (k := fK) (q := n0) (p := xp) (by omega) (by omega) (by omega) (by omega) (by rw [HXN.out]; omega))
      clear henc
      subst hW3
      go_wp2_with fail
      rw [HW4.out]
      refine HENC.out.mono ?_
      rintro e w5 h5
      obtain ⟨v5, rfl, hb5, hs5, ho5⟩ := enc_li h5 HEN.out
      have hs5' := sec_of_own ho5 hs5
      have hnil5 := own_nilOkE ho5
      have hlr := encR_len fK n0 xp
      rw [HXN.out] at hlr
      have hlb : size xn ≤ 17 := by unfold size; omega
      obtain ⟨LR, hLR⟩ : ∃ r, encR fK n0 xp = r := ⟨_, rfl⟩
      have HLR := hid hLR
      rw [hLR] at hs5 ho5 hs5' hlr
      obtain ⟨ln, hln⟩ : ∃ n, LR.length = n := ⟨_, rfl⟩
      have HLN := hid hln
      rw [hln] at ho5 hlr
      have hlnb : ln ≤ 17 := by omega
      obtain ⟨A5, c5, rfl⟩ := own_formE ho5
      have HB5 := hid (HB4.out.trans (hb5.mono HB4.out.size))
      have HX5 := hid ((hb5.block w2.heap.size (box_lt HX4.out)).trans HX4.out)
      have HO5 := hid (own_keep HO4.out (keep_below hb5))
      have HQ5 := hid (own_keep HQ4.out (keep_below hb5))
      have HS5 := hid hs5'
      have HN5 := hid hnil5
      have hz5 := HB5.out.size
      have HOK1 : Hid (Ok (fK, n0, xp)) := hid ⟨by dsimp only; omega, by dsimp only; omega, by dsimp only; omega, by dsimp only; omega, by dsimp only; rw [HXN.out]; omega, HPX.out.1⟩
      clear h5 hb5 hs5 ho5 hs5' hnil5 hlr hLR hln x0 x1 x2 fr1
      have x0 := cell_of_row _ _ 0 _ _ _ HX5.out
      have x1 := cell_of_row _ _ 1 _ _ _ HX5.out
      have x2 := cell_of_row _ _ 2 _ _ _ HX5.out
      go_wp2_with (first | (at_builtin; (refine append_sec rfl (.tmp 62) (.tmp 63) rfl w.heap.size (.slice aA na ac) na _ rfl HO5.out LR _ rfl HS5.out HN5.out (by rw [HLN.out]; omega) hz5 ?_; intro v6 w6 ho6 hg6; rw [HLN.out] at ho6; have HX6 := hid (keep_grown HO5.out (T := 27) (by decide) hg6 w2.heap.size _ HX5.out); have HB6 := hid (below_ownE HB5.out HO5.out hg6 hz5 (Nat.le_refl _)); have HQ6 := hid (own_keep HQ5.out (keep_grown HO5.out (T := 27) (by decide) hg6)); obtain ⟨a6, c6, rfl⟩ := own_formE ho6; have HO6 := hid ho6; have hz6 := HB6.out.size; have x0 := cell_of_row _ _ 0 _ _ _ HX6.out; have x1 := cell_of_row _ _ 1 _ _ _ HX6.out; have x2 := cell_of_row _ _ 2 _ _ _ HX6.out; clear ho6 hg6)) | fail)
      have HT : Hid ((rs ++ [(fK, n0, xp)]).take gp = rs.take gp) := hid (List.take_append_of_le_length (by rw [HRS.out]; omega))
      go_roundw
      case rel => exact ⟨k + 1, n2, m, na + ln, rs ++ [(fK, n0, xp)], vs, by omega, by go_num, rfl, by rw [HT.out, HU0.out], hid (by rw [← HN2.out, HN1.out]; rw [if_neg (by omega), if_neg (by omega)]; omega), hid (by rw [List.length_append, HRS.out]; rfl), hid (by rw [encs_append, List.length_append, HNA.out, encs_one, HLR.out, HLN.out]), hid (by omega), HM, by omega, hid (by rw [HT.out]; exact HVS.out), hid (by rw [encs_append, List.map_append, List.flatten_append, encs_one, HLR.out]; exact HO6.out), HQ6, HVB, hid (fun x hx => (List.mem_append.1 hx).elim (HROK.out x) (fun hx => by rw [List.mem_singleton] at hx; subst hx; exact HOK1.out)), hid (fun i r hr => by
        rcases Nat.lt_or_ge i rs.length with hl | hl
        · rw [List.getElem?_append_left hl] at hr; exact HNUM.out i r hr
        · rw [List.getElem?_append_right hl] at hr
          obtain ⟨h0, rfl⟩ : i - rs.length = 0 ∧ (fK, n0, xp) = r := by
            rcases hj : i - rs.length with _ | j
            · rw [hj] at hr; exact ⟨rfl, by simpa using hr⟩
            · rw [hj] at hr; simp at hr
          obtain rfl : i = k := by have := HRS.out; omega
          exact HN1.out), HB6⟩
      case measure => simp [Lib.intOf]; omega
    · obtain rfl : k = L := by omega
      have hsecs : Hid (Secs (encs rs)) := hid (fun s hs => by
        unfold encs at hs
        obtain ⟨t, ht, hst⟩ := List.mem_flatten.1 hs
        obtain ⟨r, hr, rfl⟩ := List.mem_map.1 ht
        exact encR_secs (HROK.out r hr).2.2.2.2.2 s hst)
      have hso := sec_of_own (l := encs rs) (by rw [HNA.out]; exact HO.out) hsecs.out
      have HFL := hid (finds_list HROK.out HNUM.out)
      have HSC1 := hid (scan_any (encs rs) (.slice aA na ac) 5 wr hso (by rw [HNA.out]; omega) ⟨by omega, by omega⟩)
      have HSO := hid hso
      have hwl := hid (rl_of_byt HQ.out HM.out (fun x hx => (HVB.out x hx).below HB.out))
      clear hso
      go_wp2_with fail
      refine HSC1.out.mono ?_
      rintro e w2 ⟨v2, vs2, rfl, ho2, hc2, hp2, hb2⟩
      rw [HFL.out.1] at hc2 ⊢
      dsimp only at hc2 ⊢
      rw [HU0.out]
      obtain ⟨A2, c2, rfl⟩ := own_form27 ho2
      have HR2 := hid (rl_of_own ho2 hp2)
      have HC2 := hid (hc2.trans HVS.out.symm)
      have HB2 := hid (HB.out.trans (hb2.mono HB.out.size))
      have HWL2 := hid (hwl.out.below hb2)
      have HSC2 := hid (scan_any (encs rs) (.slice aA na ac) 4 w2 (HSO.out.below hb2) (by rw [HNA.out]; omega) ⟨by omega, by omega⟩)
      obtain ⟨n2, hn2⟩ : ∃ n2, vs2.length = n2 := ⟨_, rfl⟩
      rw [hn2] at HR2 ⊢
      clear ho2 hc2 hp2 hb2 HSC1 hn2
      go_wp2_with fail
      refine HSC2.out.mono ?_
      rintro e w3 ⟨v3, vs3, rfl, ho3, hc3, hp3, hb3⟩
      rw [HFL.out.2] at hc3 ⊢
      dsimp only at hc3 ⊢
      obtain ⟨A3, c3, rfl⟩ := own_form27 ho3
      have hvs3 : vs3 = [] := by simpa using hc3
      subst hvs3
      have HR3 := hid (HR2.out.below hb3)
      have HWL3 := hid (HWL2.out.below hb3)
      have HB3 := hid (HB2.out.trans (hb3.mono HB2.out.size))
      rw [show ([] : List Rv).length = 0 from rfl]
      clear ho3 hc3 hp3 hb3 HSC2
      go_wp2_with fail
      refine (awake_any w3).mono ?_
      rintro e w4 ⟨rfl, hb4⟩
      have hsl := sameList_any vs2 vs _ _ w4 (HR3.out.below hb4) (HWL3.out.below hb4)
      rw [decide_eq_true HC2.out] at hsl
      have HSL := hid hsl
      have HB4 := hid (HB3.out.trans (hb4.mono HB3.out.size))
      have dnn : ((u0 : Int) == (u0 : Int)) = true := by simp
      clear hsl hb4
      go_wp2_with fail
      refine HSL.out.mono ?_
      rintro e w5 ⟨rfl, hb5⟩
      have HB5 := hid (HB4.out.trans (hb5.mono HB4.out.size))
      clear hb5
      go_wp2
      go_ret
      exact ⟨rfl, HB5.out⟩
end Go.Proofs.Ytcmmkeadbedooaa
