/- Patch: the walk. -/
import Derived.Test.YtbcnikmhodkbfaaM
namespace Go.Proofs.Ytbcnikmhodkbfaa
open Go.RowKit Go.Lib

set_option maxHeartbeats 8000000 in
set_option maxRecDepth 100000 in
theorem patch_any (xs ys : List Vol) (v u : Value) (w : World) (hv : Img w v xs) (hu : Img w u ys) (hl : xs.length ≤ 1000) (hm : ys.length ≤ 1000) :
    Calls Try.prog 30 #[v, u] w (PatQ w (con xs) (con ys)) := by
  have HD := hid (differ_any xs ys v u w hv hu hl hm)
  have HU := hid hu
  obtain ⟨A, c, rfl⟩ := img_form hv
  obtain ⟨B, d, rfl⟩ := img_form hu
  obtain ⟨L, hL⟩ : ∃ L, con xs = L := ⟨_, rfl⟩
  obtain ⟨M, hM⟩ : ∃ M, con ys = M := ⟨_, rfl⟩
  rw [hL, hM] at HD ⊢
  have HM := hid hM
  obtain ⟨m, hmm⟩ : ∃ m, ys.length = m := ⟨_, rfl⟩
  have HMM := hid hmm
  rw [hmm] at HU HD hm ⊢
  have hcc := arr_cap HU.out.2
  have hc1 := hcc.2.1
  have hc2 := hcc.2.2
  obtain ⟨n', hn'⟩ : ∃ n', xs.length = n' := ⟨_, rfl⟩
  have HLL : Hid (L.length = n') := hid (by rw [← hL, con_len, hn'])
  rw [hn'] at HD hl ⊢
  clear hv hu hL hM hmm hcc hn'
  unfold PatQ
  obtain ⟨D, hD⟩ : ∃ D, difErr L M = D := ⟨_, rfl⟩
  unfold DiffQ at HD
  rw [hD] at HD ⊢
  have HDE := hid hD
  clear hD
  go_enter Try.func30, Try.ntmps30
  go_wp2_with fail
  refine HD.out.mono ?_
  rintro e w1 ⟨hb1, ⟨hne, rfl⟩ | ⟨he0, g, ds, rfl, hall, hdif⟩⟩
  · have d1 : (D != 0) = true := by simpa using hne
    have HB1 := hid hb1
    have H0 := hid hne
    clear hb1 hne HD
    go_wp2
    refine bodyPost_ret (v := .tuple #[.slice none 0 0, .int .i64 D]) (by simp [results, Try.results30, go_sem]) rfl ?_
    exact ⟨HB1.out, .inl ⟨H0.out, rfl⟩⟩
  · subst he0
    obtain ⟨hcL, hcM, hsz⟩ := difErr_ok HDE.out
    have HB1 := hid hb1
    have HDIF := hid hdif
    have HALL := hid hall
    obtain ⟨n, hn⟩ : ∃ n, ds.length = n := ⟨_, rfl⟩
    have HN := hid hn
    have hLn : L.length = n := by rw [← hall.1, hn]
    have hMn : M.length = n := by have h := congrArg List.length hsz; rw [siz_len, siz_len] at h; omega
    have hn8 : n ≤ 8 := by rw [← hLn]; exact (chk_ok hcL).2.1
    have hmn : m = n := by have h := hMn; rw [← HM.out, con_len, HMM.out] at h; exact h
    have HLN := hid hLn
    have HCM := hid hcM
    have HSZ := hid hsz
    rw [hn] at HDIF ⊢
    have HO0 := hid (ownW_nil w1 w1.heap.size)
    clear hb1 hall hdif hcL hcM hsz hn hLn hMn HD HDE
    subst hmn
    go_wp2_with fail
    go_loopw [8, 24] (fun pv i wr => ∃ (k : Nat) (ws : List Wri), k ≤ m ∧ i = .int .i64 (k : Int) ∧ ws.length ≤ 2100 * k ∧ Hid (ws.map wv = patK M ds k) ∧ Hid (OwnW wr w1.heap.size pv ws) ∧ Hid (Below w1.heap.size w1 wr)) (fun _ i _ => m - (Go.RowKit.intOf i).toNat)
    case atStart => exact ⟨0, [], Nat.zero_le _, rfl, Nat.zero_le _, hid rfl, HO0, hid (Below.refl _ _)⟩
    case round =>
      clear HO0
      obtain ⟨wo, hwo⟩ : ∃ wo : World, wo = wr := ⟨_, rfl⟩
      obtain ⟨k, ws, hk, rfl, hwl, HP, HW, HB⟩ := hrel
      subst hwo
      obtain ⟨pA, pc, rfl⟩ := ownAny_form HW.out.1
      obtain ⟨pn, hpn⟩ : ∃ pn, ws.length = pn := ⟨_, rfl⟩
      have HPN := hid hpn
      rw [hpn] at HW hwl ⊢
      clear hpn
      by_cases hkn : k < m
      · have hkc : (k : Int) < (m : Int) := by omega
        obtain ⟨x, hx⟩ : ∃ x, ds[k]? = some x := ⟨ds[k]'(by rw [HN.out]; exact hkn), List.getElem?_eq_getElem _⟩
        obtain ⟨y, hy⟩ : ∃ y, ys[k]? = some y := ⟨ys[k]'(by rw [HMM.out]; exact hkn), List.getElem?_eq_getElem _⟩
        have hext := HDIF.out.1 x (List.mem_of_getElem? hx)
        obtain ⟨eA, ec, hed⟩ := ext_form hext
        have hLk : L.getD k [] = (L[k]?).getD [] := List.getD_eq_getElem?_getD
        have hMk : M[k]? = some y.l := by rw [← HM.out]; unfold con; rw [List.getElem?_map, hy]; rfl
        have hMg : M.getD k [] = y.l := by rw [List.getD_eq_getElem?_getD, hMk]; rfl
        have hdx := HALL.out.2 k x hx
        have hlen : (L.getD k []).length = y.l.length := by
          have h := congrArg (fun l => l[k]?) HSZ.out
          unfold siz at h
          rw [List.getElem?_map, List.getElem?_map, hMk, List.getElem?_eq_getElem (show k < L.length by rw [HLN.out]; exact hkn)] at h
          rw [List.getD_eq_getElem?_getD, List.getElem?_eq_getElem (show k < L.length by rw [HLN.out]; exact hkn)]
          have h2 : ((L[k]'(by rw [HLN.out]; exact hkn)).length : Int) = (y.l.length : Int) := by simpa using h
          show (L[k]'(by rw [HLN.out]; exact hkn)).length = _
          omega
        rw [hMg] at hdx
        have hin := dx_in hdx hlen
        have hy4 : y.l.length ≤ 4096 := ((chk_ok HCM.out).2.2 y.l (List.mem_of_getElem? hMk)).2
        have hll := Xt.len_of_canon hdx.1
        have HXS := hid (exs_at hx)
        have HMG := hid hMg
        have HIN := hid hin
        rw [hed] at hext
        have HEXT := hid hext
        obtain ⟨bd, od, hA, hld, hcd⟩ := arr_at1 HDIF.out.2 (by rw [List.length_map, HN.out]; omega)
        injection hA with hA
        injection hA with hA1 hA2
        subst hA1 hA2
        have q0 : wo.cell? ⟨g, k, none⟩ = some (.slice eA x.l.length ec) := by
          have h := hcd k _ (by rw [List.getElem?_map, hx]; rfl) 0 _ rfl
          rw [Nat.mul_one, Nat.add_zero, Nat.zero_add, hed] at h
          exact (HB.out.cell (p := ⟨g, k, none⟩) hld).trans h
        obtain ⟨bb, ob, hBB, hlb, hcb⟩ := arr_at1 HU.out.2 (by rw [List.length_map, HMM.out]; omega)
        subst hBB
        have hys := HU.out.1 y (List.mem_of_getElem? hy)
        obtain ⟨yA, yc, hyd⟩ := sec_form hys.1
        have q1 : w.cell? ⟨bb, ob + k, none⟩ = some (.slice yA y.l.length yc) := by
          have h := hcb k _ (by rw [List.getElem?_map, hy]; rfl) 0 _ rfl
          rwa [Nat.mul_one, Nat.add_zero, hyd] at h
        have HQ1 := hid q1
        have HLB := hid hlb
        rw [hyd] at hys
        have HYS := hid hys
        have HY4 := hid hy4
        have HLD := hid hld
        obtain ⟨N, hN⟩ : ∃ N, x.l.length = N := ⟨_, rfl⟩
        have HNN := hid hN
        rw [hN] at hll q0 HEXT
        have HP1 : Hid (ws.map wv = patK M ds k ++ (pat1 M k x.l).take 0) := hid (by rw [HP.out]; simp)
        clear hx hy hext hed hLk hMk hMg hdx hlen hin hy4 hcd hcb hlb hys hyd q1 hld hN HP
        go_wp2_with fail
        go_loopw [8, 31] (fun pv i wr => ∃ (j : Nat) (ws : List Wri), j ≤ N ∧ i = .int .i64 (j : Int) ∧ ws.length ≤ 2100 * k + j ∧ Hid (ws.map wv = patK M ds k ++ (pat1 M k x.l).take j) ∧ Hid (OwnW wr w1.heap.size pv ws) ∧ Hid (Below w1.heap.size w1 wr)) (fun _ i _ => N - (Go.RowKit.intOf i).toNat)
        case atStart => exact ⟨0, ws, Nat.zero_le _, rfl, by rw [HPN.out]; omega, HP1, HW, HB⟩
        case round =>
          clear HP1 HW HB q0 HPN hwl
          obtain ⟨j, ws, hj, rfl, hwl, HP, HW, HB⟩ := hrel
          obtain ⟨pA, pc, rfl⟩ := ownAny_form HW.out.1
          obtain ⟨pn, hpn⟩ : ∃ pn, ws.length = pn := ⟨_, rfl⟩
          have HPN := hid hpn
          rw [hpn] at HW hwl ⊢
          clear hpn
          by_cases hjn : j < N
          · have hjc : (j : Int) < (N : Int) := by omega
            obtain ⟨e, he⟩ : ∃ e, x.l[j]? = some e := ⟨x.l[j]'(by rw [HNN.out]; exact hjn), List.getElem?_eq_getElem _⟩
            obtain ⟨hi1, hi2, hi3⟩ := HIN.out e (List.mem_of_getElem? he)
            obtain ⟨es, en⟩ := e
            dsimp only at hi1 hi2 hi3
            obtain ⟨sn, rfl⟩ := Int.eq_ofNat_of_zero_le hi1
            obtain ⟨mn, rfl⟩ := Int.eq_ofNat_of_zero_le (show 0 ≤ en by omega)
            have hBw := below_both HB1.out HB.out
            have hext := HEXT.out
            rw [← HNN.out] at hext
            obtain ⟨be, oe, hA, hle, hce⟩ := ext_cells hext (by rw [HNN.out]; omega)
            subst hA
            obtain ⟨r0, r1⟩ := hce j _ he
            have q2 : wr.cell? ⟨be, oe + j * 2, none⟩ = some (.int .i64 (sn : Int)) := (HB.out.cell (p := ⟨be, oe + j * 2, none⟩) hle).trans r0
            have q3 : wr.cell? ⟨be, oe + j * 2 + 1, none⟩ = some (.int .i64 (mn : Int)) := (HB.out.cell (p := ⟨be, oe + j * 2 + 1, none⟩) hle).trans r1
            have q1 := (hBw.cell (p := ⟨bb, ob + k, none⟩) HLB.out).trans HQ1.out
            obtain ⟨W3, hW3⟩ : ∃ W3, wr.alloc (.cells #[.int .i64 (sn : Int), .int .i64 (mn : Int)] 51) = W3 := ⟨_, rfl⟩
            have hb3 : Below wr.heap.size wr W3 := by rw [← hW3]; exact al1 _ _
            have hx3 := heap_alloc_new wr (.cells #[.int .i64 (sn : Int), .int .i64 (mn : Int)] 51)
            rw [hW3] at hx3
            have HZ3 : Hid (wr.heap.size < W3.heap.size) := hid (box_lt hx3)
            have p0 : W3.cell? ⟨wr.heap.size, 0, none⟩ = some (.int .i64 (sn : Int)) := cell_of_row _ _ 0 _ _ _ hx3
            have p1 : W3.cell? ⟨wr.heap.size, 1, none⟩ = some (.int .i64 (mn : Int)) := cell_of_row _ _ 1 _ _ _ hx3
            have q13 := (hb3.cell (p := ⟨bb, ob + k, none⟩) (show bb < wr.heap.size from Nat.lt_of_lt_of_le HLB.out hBw.size)).trans q1
            have hB3 : Below w1.heap.size w1 W3 := HB.out.trans (hb3.mono HB.out.size)
            have hbw3 : Below w.heap.size w W3 := below_both HB1.out hB3
            obtain ⟨data, hdata⟩ : ∃ data, (y.l.drop sn).take mn = data := ⟨_, rfl⟩
            have hds : Secs data := fun s hs => by rw [← hdata] at hs; exact HYS.out.1.1 s (List.mem_of_mem_drop (List.mem_of_mem_take hs))
            have HC : Hid (Calls Try.prog 56 #[.slice yA y.l.length yc, .agg #[.int .i64 (sn : Int), .int .i64 (mn : Int)]] W3.drew (MadeS W3.drew data)) := hid (by
              rw [← hdata]
              exact contents_any y.l _ sn mn W3.drew (HYS.out.1.below (below_drew hbw3)) HYS.out.2 (by have := HY4.out; omega) (by omega))
            have HDS := hid hds
            have HP3 : Hid (patK M ds k ++ (pat1 M k x.l).take (j + 1) = (patK M ds k ++ (pat1 M k x.l).take j) ++ [((k : Int), (sn : Int), data)]) := hid (by
              have h : (pat1 M k x.l)[j]? = some ((k : Int), (sn : Int), data) := by
                unfold pat1
                rw [List.getElem?_map, he, HMG.out, ← hdata]
                rfl
              rw [take_snoc h, List.append_assoc])
            have HW3 : Hid (OwnW W3 w1.heap.size (.slice pA pn pc) ws) := hid (ownW_keep HW.out (keep_below hb3) (keep_below hb3))
            have HB3 := hid hB3
            have HAPP : Hid (∀ (w6 : World) (cA : Option Addr) (dn cc : Nat), Below W3.drew.heap.size W3.drew w6 → (w6.alloc (.cells #[.int .i64 (k : Int), .int .i64 (sn : Int), .slice cA dn cc] 42)).ownsRow w1.heap.size 42 3 (.slice pA pn pc) pn (ws.map cWri).flatten) := hid (fun w6 cA dn cc hb => by
              have h : W3.drew.ownsRow w1.heap.size 42 3 (.slice pA pn pc) ws.length (ws.map cWri).flatten := HW3.out.1
              rw [HPN.out] at h
              exact own_keep (own_keep h (keep_below hb)) (keep_below (al1 _ _)))
            have HZB : Hid (w1.heap.size ≤ W3.drew.heap.size) := hid hB3.size
            have HSN : Hid (sn ≤ 1000000 ∧ k ≤ 1000000) := hid ⟨by have := HY4.out; omega, by omega⟩
            obtain ⟨yn, hyn⟩ : ∃ yn, y.l.length = yn := ⟨_, rfl⟩
            rw [hyn] at HC q13 q1
            have HZA : Hid (∀ (w6 : World) (o : Obj), Below W3.drew.heap.size W3.drew w6 → w1.heap.size ≤ (w6.alloc o).heap.size) := hid (fun w6 o hb => by
              have h1 := hb.size
              have h2 := HZB.out
              simp
              omega)
            have hwl2 : pn + 1 ≤ 1000000 := by omega
            clear he hi1 hi2 hi3 hBw hext hle hce r0 r1 hb3 hx3 hB3 hbw3 hdata hds hyn q1
            go_wp2_with fail
            go_region_law (first | (go_simp; go_at_call 56; refine HC.out.mono ?_; rintro e w6 ⟨v6, rfl, ho6, hb6⟩; obtain ⟨cA, cc, rfl⟩ := ownAny_form ho6; have HO6 := hid ho6; have HB6 := hid hb6; have c7 : w6.cell? ⟨wr.heap.size, 0, none⟩ = some (.int .i64 (sn : Int)) := (hb6.cell (p := ⟨wr.heap.size, 0, none⟩) HZ3.out).trans p0; clear ho6 hb6) | (refine step_append_wri rfl (.tmp 35) (.tmp 46) rfl w1.heap.size (.slice pA pn pc) pn _ (by simp [Act.eval]) (HAPP.out w6 cA data.length cc HB6.out) (k : Int) (sn : Int) cA data.length cc ⟨w6.heap.size, 0, none⟩ 1 (by simp [Act.eval]) (cell3 w6 _ _ _ 42) hwl2 (HZA.out w6 _ HB6.out) ?_; intro v8 w8 ho8 hg8; obtain ⟨a8, k8, rfl⟩ := ownAny_form ho8; have HO8 := hid ho8; have HG8 := hid hg8; clear ho8 hg8))
            all_goals
              have hw6 : OwnW w6 w1.heap.size (.slice pA pn pc) ws := ownW_keep (show OwnW W3.drew w1.heap.size (.slice pA pn pc) ws from HW3.out) (keep_below HB6.out) (keep_below HB6.out)
              have HNE := pat_next hw6 HPN.out (own_base HO6.out HZB.out) HDS.out HSN.out.2 HSN.out.1 HG8.out HO8.out ((below_drew HB3.out).trans (HB6.out.mono HZB.out)) (Nat.le_trans HZB.out HB6.out.size)
              have H1 := hid HNE.1
              have H2 := hid HNE.2
              have H3 : Hid ((ws ++ [(⟨(k : Int), (sn : Int), .slice cA data.length cc, data⟩ : Wri)]).map wv = patK M ds k ++ (pat1 M k x.l).take (j + 1)) := hid (by rw [HP3.out, List.map_append, HP.out]; rfl)
              have h4 : (ws ++ [(⟨(k : Int), (sn : Int), .slice cA data.length cc, data⟩ : Wri)]).length ≤ 2100 * k + (j + 1) := by rw [List.length_append, HPN.out, List.length_singleton]; omega
              clear hw6 HNE c7 p0 p1 q13 q2 q3 HO8 HG8 HO6 HB6 HAPP HZA HC
              go_wp2
              go_roundw
              case rel => exact ⟨j + 1, _, by omega, by go_num, h4, H3, H1, H2⟩
              case measure => simp [Go.RowKit.intOf]; omega
          · obtain rfl : j = N := by omega
            have HP2 : Hid (ws.map wv = patK M ds (k + 1)) := hid (by
              rw [HP.out, List.take_of_length_le (by unfold pat1; rw [List.length_map, HNN.out]; exact Nat.le_refl _), patK, HXS.out])
            go_wp2_with fail
            go_roundw
            case rel => exact ⟨k + 1, ws, by omega, by go_num, by rw [HPN.out]; omega, HP2, HW, HB⟩
            case measure => simp [Go.RowKit.intOf]; omega
      · obtain rfl : k = m := by omega
        go_wp2
        refine bodyPost_ret (v := .tuple #[.slice pA pn pc, .int .i64 0]) (by simp [results, Try.results30, go_sem]) rfl ?_
        exact ⟨below_both HB1.out HB.out, _, rfl, ws, ds, HALL.out, by rw [HLN.out]; exact HP.out, ownW_base HW.out HB1.out.size⟩
end Go.Proofs.Ytbcnikmhodkbfaa
