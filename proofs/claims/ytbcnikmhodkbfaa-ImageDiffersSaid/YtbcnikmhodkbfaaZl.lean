/- The reference's Patch. -/
import Derived.Test.YtbcnikmhodkbfaaZk
import Derived.StillTailTactics
namespace Go.Proofs.Ytbcnikmhodkbfaa
open Go.RowKit Go.Lib

set_option maxRecDepth 100000 in
theorem append_wri {ops : Array Oper} {rest : List Oper} {o : Oper} {a : Act} {w : World} {Q : Exit → Act → World → Prop} (hgd : o.guard = none) (s x : Operand) (ho : o.op = .call { callee := .builtin .append, args := #[s, x], argTypes := #[38, 38] })
    (base : Nat) (v : Value) (n : Nat) (olds : List Value) (hs : a.eval s = v) (hown : w.ownsRow base 42 3 v n olds) (y0 y1 : Int) (A : Option Addr) (m c0 : Nat) (ad : Addr) (c : Nat) (hx : a.eval x = .slice (some ad) 1 c)
    (hc : ∀ j u, [Value.int .i64 y0, .int .i64 y1, .slice A m c0][j]? = some u → w.cell? (ad.add j) = some u) (b1 : n + 1 ≤ 1000000) (hbase : base ≤ w.heap.size)
    (h : ∀ v' w', w'.ownsRow base 42 3 v' (n + 1) (olds ++ [Value.int .i64 y0, .int .i64 y1, .slice A m c0]) → w.grownBy w' v.ownBlock → wpList Try.prog ops Q rest (a.put o.dst v') w') : wpList Try.prog ops Q (o :: rest) a w := by
  obtain ⟨i0, hi, hz0, hz1, hz2⟩ := info_parts info42
  exact wpList_append_own w hgd s x 38 ho base 42 i0 _ 3 40 Try.underlying38 hi hz0 hz1 hz2 rfl (by decide) v n olds hs hown ad 1 c _ hx rfl hc (by intro u hu; simp at hu; rcases hu with rfl | rfl | rfl <;> rfl) (by unfold maxLen; omega) (by omega) hbase (fun v' w' h1 h2 _ => h v' w' h1 h2)
set_option maxHeartbeats 8000000 in
set_option maxRecDepth 100000 in
theorem refPatch_any (xs ys : List Vol) (v u : Value) (w : World) (hv : Img w v xs) (hu : Img w u ys) (hl : xs.length ≤ 1000) (hm : ys.length ≤ 1000) :
    Calls Try.prog 31 #[v, u] w (PatQ w (con xs) (con ys)) := by
  have HD := hid (refDiffer_any xs ys v u w hv hu hl hm)
  have HU := hid hu
  obtain ⟨A, c, rfl⟩ := img_form hv
  obtain ⟨B, d, rfl⟩ := img_form hu
  obtain ⟨L, hL⟩ : ∃ L, con xs = L := ⟨_, rfl⟩
  obtain ⟨M, hM⟩ : ∃ M, con ys = M := ⟨_, rfl⟩
  rw [hL, hM] at HD ⊢
  have HM := hid hM
  obtain ⟨m, hmm⟩ : ∃ m, ys.length = m := ⟨_, rfl⟩
  have HMM := hid hmm
  rw [hmm] at HU HD hm ⊢
  have hcc := arr_cap HU.out.2
  have hc1 := hcc.2.1
  have hc2 := hcc.2.2
  obtain ⟨n', hn'⟩ : ∃ n', xs.length = n' := ⟨_, rfl⟩
  have HLL : Hid (L.length = n') := hid (by rw [← hL, con_len, hn'])
  rw [hn'] at HD hl ⊢
  clear hv hu hL hM hmm hcc hn'
  unfold PatQ
  obtain ⟨D, hD⟩ : ∃ D, difErr L M = D := ⟨_, rfl⟩
  unfold RefDiffQ at HD
  rw [hD] at HD ⊢
  have HDE := hid hD
  clear hD
  go_enter Try.func31, Try.ntmps31
  go_wp2_with fail
  refine HD.out.mono ?_
  rintro e w1 ⟨hb1, ⟨hne, rfl⟩ | ⟨he0, r, ds, rfl, hall, hown⟩⟩
  · have d1 : (D != 0) = true := by simpa using hne
    have HB1 := hid hb1
    have H0 := hid hne
    clear hb1 hne HD
    go_wp2
    refine bodyPost_ret (v := .tuple #[.slice none 0 0, .int .i64 D]) (by simp [results, Try.results31, go_sem]) rfl ?_
    exact ⟨HB1.out, .inl ⟨H0.out, rfl⟩⟩
  · subst he0
    have hdif := difs_of_own hown hall
    obtain ⟨rA, rc, rfl⟩ := ownAny_form hown.1
    obtain ⟨hcL, hcM, hsz⟩ := difErr_ok HDE.out
    have HB1 := hid hb1
    have HDIF := hid hdif
    have HALL := hid hall
    obtain ⟨n, hn⟩ : ∃ n, ds.length = n := ⟨_, rfl⟩
    have HN := hid hn
    have hLn : L.length = n := by rw [← hall.1, hn]
    have hMn : M.length = n := by have h := congrArg List.length hsz; rw [siz_len, siz_len] at h; omega
    have hn8 : n ≤ 8 := by rw [← hLn]; exact (chk_ok hcL).2.1
    have hmn : m = n := by have h := hMn; rw [← HM.out, con_len, HMM.out] at h; exact h
    have HLN := hid hLn
    have HCM := hid hcM
    have HSZ := hid hsz
    rw [hn] at HDIF ⊢
    have hrc := (arr_cap HDIF.out.2).2
    have HO0 := hid (ownW_nil w1 w1.heap.size)
    clear hb1 hall hdif hown hcL hcM hsz hn hLn hMn HD HDE
    subst hmn
    go_wp2_with fail
    go_loopw [8, 9] (fun pv i wr => ∃ (k : Nat) (ws : List Wri), k ≤ m ∧ i = .int .i64 (k : Int) ∧ ws.length ≤ 2100 * k ∧ Hid (ws.map wv = patK M ds k) ∧ Hid (OwnW wr w1.heap.size pv ws) ∧ Hid (Below w1.heap.size w1 wr)) (fun _ i _ => m - (Go.RowKit.intOf i).toNat)
    case atStart => exact ⟨0, [], Nat.zero_le _, rfl, Nat.zero_le _, hid rfl, HO0, hid (Below.refl _ _)⟩
    case round =>
      clear HO0
      obtain ⟨wo, hwo⟩ : ∃ wo : World, wo = wr := ⟨_, rfl⟩
      obtain ⟨k, ws, hk, rfl, hwl, HP, HW, HB⟩ := hrel
      subst hwo
      obtain ⟨pA, pc, rfl⟩ := ownAny_form HW.out.1
      obtain ⟨pn, hpn⟩ : ∃ pn, ws.length = pn := ⟨_, rfl⟩
      have HPN := hid hpn
      rw [hpn] at HW hwl ⊢
      clear hpn
      by_cases hkn : k < m
      · have hkc : (k : Int) < (m : Int) := by omega
        obtain ⟨x, hx⟩ : ∃ x, ds[k]? = some x := ⟨ds[k]'(by rw [HN.out]; exact hkn), List.getElem?_eq_getElem _⟩
        obtain ⟨y, hy⟩ : ∃ y, ys[k]? = some y := ⟨ys[k]'(by rw [HMM.out]; exact hkn), List.getElem?_eq_getElem _⟩
        have hext := HDIF.out.1 x (List.mem_of_getElem? hx)
        obtain ⟨eA, ec, hed⟩ := ext_form hext
        have hMk : M[k]? = some y.l := by rw [← HM.out]; unfold con; rw [List.getElem?_map, hy]; rfl
        have hMg : M.getD k [] = y.l := by rw [List.getD_eq_getElem?_getD, hMk]; rfl
        have hdx := HALL.out.2 k x hx
        have hlen := siz_getD HSZ.out k
        rw [hMg] at hdx hlen
        have hin := dx_in hdx hlen
        have hy4 : y.l.length ≤ 4096 := ((chk_ok HCM.out).2.2 y.l (List.mem_of_getElem? hMk)).2
        have hll := Xt.len_of_canon hdx.1
        have HXS := hid (exs_at hx)
        have HMG := hid hMg
        have HIN := hid hin
        rw [hed] at hext
        have HEXT := hid hext
        obtain ⟨bd, od, hA, hld, hcd⟩ := arr_at1 HDIF.out.2 (by rw [List.length_map, HN.out]; omega)
        subst hA
        have q00 : w1.cell? ⟨bd, od + k, none⟩ = some (.slice eA x.l.length ec) := by
          have h := hcd k _ (by rw [List.getElem?_map, hx]; rfl) 0 _ rfl
          rw [Nat.mul_one, Nat.add_zero, hed] at h
          exact h
        obtain ⟨bb, ob, hBB, hlb, hcb⟩ := arr_at1 HU.out.2 (by rw [List.length_map, HMM.out]; omega)
        subst hBB
        have hys := HU.out.1 y (List.mem_of_getElem? hy)
        obtain ⟨yA, yc, hyd⟩ := sec_form hys.1
        have q1 : w.cell? ⟨bb, ob + k, none⟩ = some (.slice yA y.l.length yc) := by
          have h := hcb k _ (by rw [List.getElem?_map, hy]; rfl) 0 _ rfl
          rwa [Nat.mul_one, Nat.add_zero, hyd] at h
        rw [hyd] at hys
        have HYS := hid hys
        obtain ⟨N, hN⟩ : ∃ N, x.l.length = N := ⟨_, rfl⟩
        have HNN := hid hN
        rw [hN] at hll q00 HEXT
        have HQ0 : Hid (∀ W, Below w1.heap.size w1 W → W.cell? ⟨bd, od + k, none⟩ = some (.slice eA N ec)) := hid (fun W hW => (hW.cell (p := ⟨bd, od + k, none⟩) hld).trans q00)
        have HQ1 : Hid (∀ W, Below w1.heap.size w1 W → W.cell? ⟨bb, ob + k, none⟩ = some (.slice yA y.l.length yc)) := hid (fun W hW => ((below_both HB1.out hW).cell (p := ⟨bb, ob + k, none⟩) hlb).trans q1)
        have HP1 : Hid (ws.map wv = patK M ds k ++ (pat1 M k x.l).take 0) := hid (by rw [HP.out]; simp)
        clear hx hy hext hed hMk hMg hdx hlen hin hcd hcb hlb hys hyd q1 q00 hld hN HP
        have q0 := HQ0.out wo HB.out
        go_wp2_with fail
        clear q0
        go_loopw [8, 10] (fun pv i wr => ∃ (j : Nat) (ws : List Wri), j ≤ N ∧ i = .int .i64 (j : Int) ∧ ws.length ≤ 2100 * k + j ∧ Hid (ws.map wv = patK M ds k ++ (pat1 M k x.l).take j) ∧ Hid (OwnW wr w1.heap.size pv ws) ∧ Hid (Below w1.heap.size w1 wr)) (fun _ i _ => N - (Go.RowKit.intOf i).toNat)
        case atStart => exact ⟨0, ws, Nat.zero_le _, rfl, by rw [HPN.out]; omega, HP1, HW, HB⟩
        case round =>
          clear HP1 HW HB HPN hwl
          obtain ⟨j, ws, hj, rfl, hwl, HP, HW, HB⟩ := hrel
          obtain ⟨pA, pc, rfl⟩ := ownAny_form HW.out.1
          obtain ⟨pn, hpn⟩ : ∃ pn, ws.length = pn := ⟨_, rfl⟩
          have HPN := hid hpn
          rw [hpn] at HW hwl ⊢
          clear hpn
          have q0 := HQ0.out wr HB.out
          by_cases hjn : j < N
          · have hjc : (j : Int) < (N : Int) := by omega
            obtain ⟨e, he⟩ : ∃ e, x.l[j]? = some e := ⟨x.l[j]'(by rw [HNN.out]; exact hjn), List.getElem?_eq_getElem _⟩
            obtain ⟨hi1, hi2, hi3⟩ := HIN.out e (List.mem_of_getElem? he)
            obtain ⟨es, en⟩ := e
            dsimp only at hi1 hi2 hi3
            obtain ⟨sn, rfl⟩ := Int.eq_ofNat_of_zero_le hi1
            obtain ⟨mn, rfl⟩ := Int.eq_ofNat_of_zero_le (show 0 ≤ en by omega)
            have hext := HEXT.out
            rw [← HNN.out] at hext
            obtain ⟨be, oe, hA, hle, hce⟩ := ext_cells hext (by rw [HNN.out]; omega)
            subst hA
            obtain ⟨r0, r1⟩ := hce j _ he
            have q2 : wr.cell? ⟨be, oe + j * 2, none⟩ = some (.int .i64 (sn : Int)) := (HB.out.cell (p := ⟨be, oe + j * 2, none⟩) hle).trans r0
            have q3 : wr.cell? ⟨be, oe + j * 2 + 1, none⟩ = some (.int .i64 (mn : Int)) := (HB.out.cell (p := ⟨be, oe + j * 2 + 1, none⟩) hle).trans r1
            obtain ⟨W3, hW3⟩ : ∃ W3, wr.alloc (.cells #[.int .i64 (sn : Int), .int .i64 (mn : Int)] 51) = W3 := ⟨_, rfl⟩
            have hb3 : Below wr.heap.size wr W3 := by rw [← hW3]; exact al1 _ _
            have hx3 := heap_alloc_new wr (.cells #[.int .i64 (sn : Int), .int .i64 (mn : Int)] 51)
            rw [hW3] at hx3
            have HZ3 : Hid (wr.heap.size < W3.heap.size) := hid (box_lt hx3)
            have p0 : W3.cell? ⟨wr.heap.size, 0, none⟩ = some (.int .i64 (sn : Int)) := cell_of_row _ _ 0 _ _ _ hx3
            have p1 : W3.cell? ⟨wr.heap.size, 1, none⟩ = some (.int .i64 (mn : Int)) := cell_of_row _ _ 1 _ _ _ hx3
            have hB3 : Below w1.heap.size w1 W3 := HB.out.trans (hb3.mono HB.out.size)
            have q13 := HQ1.out W3 hB3
            have hbw3 : Below w.heap.size w W3 := below_both HB1.out hB3
            obtain ⟨data, hdata⟩ : ∃ data, (y.l.drop sn).take mn = data := ⟨_, rfl⟩
            have hdl : data.length = mn := by rw [← hdata, List.length_take, List.length_drop]; omega
            have hys := HYS.out.1
            have hyc := (sec_len hys).2
            obtain ⟨dA, rfl⟩ : ∃ dA, yA = some dA := by
              obtain ⟨bb', oo', e', _⟩ := sec_cells hys (by omega)
              exact ⟨_, e'⟩
            have hsl := fun (W : World) => run_slice40 (some dA) y.l.length yc sn (sn + mn) (sn : Int) ((sn : Int) + (mn : Int)) rfl (by omega) (by omega) (by omega) W
            obtain ⟨fA, hfA⟩ : ∃ fA, fromS (some dA) yc sn = some fA := by
              unfold fromS
              split
              · exact ⟨_, rfl⟩
              · exact ⟨_, rfl⟩
            have HSX : Hid (∀ W, Below w.heap.size w W → Sec W (.slice (some fA) mn (yc - sn)) data) := hid (fun W hb => by
              have h := sec_mid (hys.below hb) sn (sn + mn) (by omega) (by omega)
              rw [hfA, show sn + mn - sn = mn by omega, hdata] at h
              exact h)
            rw [hfA, show sn + mn - sn = mn by omega] at hsl
            have HLM := hid hdl
            have HDS : Hid (Secs data) := hid (fun s hs => by rw [← hdata] at hs; exact HYS.out.1.1 s (List.mem_of_mem_drop (List.mem_of_mem_take hs)))
            have HP3 : Hid (patK M ds k ++ (pat1 M k x.l).take (j + 1) = (patK M ds k ++ (pat1 M k x.l).take j) ++ [((k : Int), (sn : Int), data)]) := hid (by
              have h : (pat1 M k x.l)[j]? = some ((k : Int), (sn : Int), data) := by
                unfold pat1
                rw [List.getElem?_map, he, HMG.out, ← hdata]
                rfl
              rw [take_snoc h, List.append_assoc])
            have HW3 : Hid (OwnW W3 w1.heap.size (.slice pA pn pc) ws) := hid (ownW_keep HW.out (keep_below hb3) (keep_below hb3))
            have HB3 := hid hB3
            have HBd : Hid (Below w.heap.size w W3.drew) := hid (below_drew hbw3)
            have HBd1 : Hid (Below w1.heap.size w1 W3.drew) := hid (below_drew hB3)
            have HZB : Hid (w1.heap.size ≤ W3.drew.heap.size) := hid hB3.size
            have HSN : Hid (sn ≤ 1000000 ∧ k ≤ 1000000) := hid ⟨by omega, by omega⟩
            have HSM : Hid (0 + mn ≤ 1000000) := hid (by omega)
            have hwr2 : IntKind.i64.wrap ((sn : Int) + (mn : Int)) = (sn : Int) + (mn : Int) := by unfold IntKind.wrap; simp [IntKind.bits, IntKind.signed]; omega
            obtain ⟨yn, hyn⟩ : ∃ yn, y.l.length = yn := ⟨_, rfl⟩
            rw [hyn] at hsl q13
            have hsm : (sn : Int) + (mn : Int) ≤ (yn : Int) := by omega
            have hwl2 : pn + 1 ≤ 1000000 := by omega
            clear he hi1 hi2 hi3 hext hle hce r0 r1 hb3 hx3 hB3 hbw3 hdata hdl hyn hys hfA
            go_wp2_with fail
            go_still_tail 13, (by kernel_rfl)
            refine append_sec rfl (.tmp 44) (.tmp 56) rfl w1.heap.size (.slice none 0 0) 0 [] (by simp [Act.eval]) (World.ownsRow_nil _ _ _ _) data (.slice (some fA) mn (yc - sn)) (by simp [Act.eval]) (HSX.out W3.drew HBd.out) (nilOk_some _ _ _) (by rw [HLM.out]; have := HSM.out; omega) HZB.out ?_
            intro v8 w8 ho8 hg8
            rw [HLM.out, Nat.zero_add] at ho8
            obtain ⟨a8, k8, rfl⟩ := ownAny_form ho8
            have HO8 := hid ho8
            have HB8 := hid ((Below.refl W3.drew.heap.size W3.drew).grown hg8 (Nat.le_refl _) (fun q e => by cases e))
            clear ho8 hg8
            have c7 : w8.cell? ⟨wr.heap.size, 0, none⟩ = some (.int .i64 (sn : Int)) := (HB8.out.cell (p := ⟨wr.heap.size, 0, none⟩) HZ3.out).trans p0
            have HW8 : Hid (OwnW w8 w1.heap.size (.slice pA pn pc) ws) := hid (ownW_keep (show OwnW W3.drew w1.heap.size (.slice pA pn pc) ws from HW3.out) (keep_below HB8.out) (keep_below HB8.out))
            have HAPP : Hid (∀ o, (w8.alloc o).ownsRow w1.heap.size 42 3 (.slice pA pn pc) pn (ws.map cWri).flatten) := hid (fun o => by
              have h := HW8.out.1
              rw [HPN.out] at h
              exact own_keep h (keep_below (al1 _ _)))
            have HZA : Hid (∀ o, w1.heap.size ≤ (w8.alloc o).heap.size) := hid (fun o => by
              have h1 := HB8.out.size
              have h2 := HZB.out
              simp
              omega)
            clear p0 p1 q13 q2 q3 q0
            go_wp2_with (at_builtin; refine append_wri rfl (.tmp 58) (.tmp 64) rfl w1.heap.size (.slice pA pn pc) pn _ rfl (HAPP.out _) (k : Int) (sn : Int) a8 mn k8 ⟨w8.heap.size, 0, none⟩ 1 (by simp [Act.eval]) (cell3 w8 _ _ _ 42) hwl2 (HZA.out _) ?_; intro v9 w9 ho9 hg9; obtain ⟨a9, k9, rfl⟩ := ownAny_form ho9; have HO9 := hid ho9; have HG9 := hid hg9; clear ho9 hg9)
            have HNE := pat_next HW8.out HPN.out (data := data) (by rw [HLM.out]; exact by have h := HO8.out; rw [List.nil_append] at h; exact h) HDS.out HSN.out.2 HSN.out.1 HG9.out HO9.out (HBd1.out.trans (HB8.out.mono HZB.out)) (Nat.le_trans HZB.out HB8.out.size)
            have H1 := hid HNE.1
            have H2 := hid HNE.2
            have H3 : Hid ((ws ++ [(⟨(k : Int), (sn : Int), .slice a8 mn k8, data⟩ : Wri)]).map wv = patK M ds k ++ (pat1 M k x.l).take (j + 1)) := hid (by rw [HP3.out, List.map_append, HP.out]; rfl)
            have h4 : (ws ++ [(⟨(k : Int), (sn : Int), .slice a8 mn k8, data⟩ : Wri)]).length ≤ 2100 * k + (j + 1) := by rw [List.length_append, HPN.out, List.length_singleton]; omega
            clear HNE HO8 HAPP HZA HW8 c7
            go_roundw
            case rel => exact ⟨j + 1, _, by omega, by go_num, h4, H3, H1, H2⟩
            case measure => simp [Go.RowKit.intOf]; omega
          · obtain rfl : j = N := by omega
            have HP2 : Hid (ws.map wv = patK M ds (k + 1)) := hid (by
              rw [HP.out, List.take_of_length_le (by unfold pat1; rw [List.length_map, HNN.out]; exact Nat.le_refl _), patK, HXS.out])
            go_wp2_with fail
            go_roundw
            case rel => exact ⟨k + 1, ws, by omega, by go_num, by rw [HPN.out]; omega, HP2, HW, HB⟩
            case measure => simp [Go.RowKit.intOf]; omega
      · obtain rfl : k = m := by omega
        go_wp2
        refine bodyPost_ret (v := .tuple #[.slice pA pn pc, .int .i64 0]) (by simp [results, Try.results31, go_sem]) rfl ?_
        exact ⟨below_both HB1.out HB.out, _, rfl, ws, ds, HALL.out, by rw [HLN.out]; exact HP.out, ownW_base HW.out HB1.out.size⟩
end Go.Proofs.Ytbcnikmhodkbfaa
