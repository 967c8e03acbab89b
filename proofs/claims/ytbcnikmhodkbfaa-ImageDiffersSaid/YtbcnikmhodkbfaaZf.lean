/- slices.EqualFunc of lists of extents and of images; sameExtents, Same; what differs, in both directions; parts of lists of writes. -/
import Derived.Test.YtbcnikmhodkbfaaZd
namespace Go.Proofs.Ytbcnikmhodkbfaa
open Go.RowKit Go.Lib

theorem arr_of_ext {w : World} {v : Value} {l : List (Int × Int)} (h : Xt.Ext w v l) : Arr w v 2 (l.map cExt) := by
  obtain ⟨_, A, cap, e, h1, h2, b, off, hA, hc⟩ := h
  refine ⟨A, cap, by rw [List.length_map]; exact e, by rw [List.length_map]; exact h1, h2, b, off, fun hp => hA (by rwa [List.length_map] at hp), fun i r hr j u hj => ?_⟩
  rw [List.getElem?_map] at hr
  obtain ⟨x, hx, rfl⟩ := Option.map_eq_some_iff.1 hr
  obtain ⟨c0, c1⟩ := hc i x hx
  match j, hj with
  | 0, hj => injection hj with hj; rw [← hj]; exact c0
  | 1, hj => injection hj with hj; rw [← hj]; exact c1
def dcon (ds : List Dvol) : List (List (Int × Int)) := ds.map (·.l)
theorem dcon_len (ds : List Dvol) : (dcon ds).length = ds.length := by unfold dcon; rw [List.length_map]
set_option maxHeartbeats 1000000 in
theorem same63_any (a b : List (Int × Int)) (v u : Value) (w : World) (hv : Xt.Ext w v a) (hu : Xt.Ext w u b) : Calls Try.prog 63 #[v, u] w (SaysB (decide (a = b)) w) := by
  have HE := hid (eqExts_any a b v u w (arr_of_ext hv) (arr_of_ext hu))
  obtain ⟨A, c, rfl⟩ := ext_form hv
  obtain ⟨B, d, rfl⟩ := ext_form hu
  obtain ⟨q, hq⟩ : ∃ q, decide (a = b) = q := ⟨_, rfl⟩
  rw [hq] at HE ⊢
  clear hv hu hq
  go_enter Try.func63, Try.ntmps63
  go_wp2_with fail
  refine HE.out.mono ?_
  intro e w1 hq
  obtain ⟨rfl, hb⟩ := saysQ_B hq
  have HB := hid hb
  clear hq hb
  go_wp2
  go_ret
  exact ⟨rfl, HB.out⟩
theorem difs_form {w : World} {v : Value} {xs : List Dvol} (h : Difs w v xs) : ∃ A c, v = .slice A xs.length c := by
  obtain ⟨A, c, e⟩ := arr_form h.2
  rw [List.length_map] at e
  exact ⟨A, c, e⟩
set_option maxHeartbeats 4000000 in
set_option maxRecDepth 100000 in
theorem eqFunc62_any (xs ys : List Dvol) (v u : Value) (w : World) (hv : Difs w v xs) (hu : Difs w u ys) :
    Calls Try.prog 62 #[v, u, .func (.func 63) #[] #[]] w (SaysB (decide (dcon xs = dcon ys)) w) := by
  obtain ⟨A, ca, rfl⟩ := difs_form hv
  obtain ⟨B, cb, rfl⟩ := difs_form hu
  obtain ⟨_, ha1, ha2⟩ := arr_cap hv.2
  obtain ⟨_, hb1, hb2⟩ := arr_cap hu.2
  have HV := hid hv
  have HU := hid hu
  obtain ⟨n, hn⟩ : ∃ n, xs.length = n := ⟨_, rfl⟩
  obtain ⟨m, hm⟩ : ∃ m, ys.length = m := ⟨_, rfl⟩
  have HN := hid hn
  have HM := hid hm
  rw [hn] at HV ha1 ⊢
  rw [hm] at HU hb1 ⊢
  clear hv hu hn hm
  by_cases hlen : n = m
  · subst hlen
    go_enter Try.func62, Try.ntmps62
    go_wp2_with fail
    go_loopw [17] (fun i wr => ∃ k : Nat, k ≤ n ∧ i = .int .i64 (k : Int) ∧ Hid ((dcon xs).take k = (dcon ys).take k) ∧ Hid (Below w.heap.size w wr)) (fun i _ => n - (Go.RowKit.intOf i).toNat)
    case atStart => exact ⟨0, Nat.zero_le _, rfl, hid rfl, hid (Below.refl _ _)⟩
    case round =>
      obtain ⟨k, hk, rfl, HT, HB⟩ := hrel
      by_cases hkn : k < n
      · obtain ⟨x, hx⟩ : ∃ x, xs[k]? = some x := ⟨xs[k]'(by rw [HN.out]; exact hkn), List.getElem?_eq_getElem _⟩
        obtain ⟨y, hy⟩ : ∃ y, ys[k]? = some y := ⟨ys[k]'(by rw [HM.out]; exact hkn), List.getElem?_eq_getElem _⟩
        have hcx0 : (dcon xs)[k]? = some x.l := by unfold dcon; rw [List.getElem?_map, hx]; rfl
        have hcy0 : (dcon ys)[k]? = some y.l := by unfold dcon; rw [List.getElem?_map, hy]; rfl
        obtain ⟨b, off, hbA, hbl, hcell⟩ := arr_at1 HV.out.2 (by rw [List.length_map, HN.out]; omega)
        obtain ⟨b', off', hbB, hbl', hcell'⟩ := arr_at1 HU.out.2 (by rw [List.length_map, HM.out]; omega)
        subst hbA hbB
        have hxS := HV.out.1 x (List.mem_of_getElem? hx)
        have hyS := HU.out.1 y (List.mem_of_getElem? hy)
        obtain ⟨dA, dc, hd⟩ := ext_form hxS
        obtain ⟨dB, dc', hd'⟩ := ext_form hyS
        have hcx : wr.cell? ⟨b, off + k, none⟩ = some (.slice dA x.l.length dc) := by
          have h := hcell k _ (by rw [List.getElem?_map, hx]; rfl) 0 _ rfl
          rw [Nat.mul_one, Nat.add_zero, hd] at h
          exact (HB.out.cell (p := ⟨b, off + k, none⟩) hbl).trans h
        have hcy : wr.cell? ⟨b', off' + k, none⟩ = some (.slice dB y.l.length dc') := by
          have h := hcell' k _ (by rw [List.getElem?_map, hy]; rfl) 0 _ rfl
          rw [Nat.mul_one, Nat.add_zero, hd'] at h
          exact (HB.out.cell (p := ⟨b', off' + k, none⟩) hbl').trans h
        rw [hd] at hxS
        rw [hd'] at hyS
        have HC : Hid (Calls Try.prog 63 #[.slice dA x.l.length dc, .slice dB y.l.length dc'] wr (SaysB (decide (x.l = y.l)) wr)) := hid (by
          have h1 := hxS.below HB.out
          have h2 := hyS.below HB.out
          exact same63_any x.l y.l _ _ wr h1 h2)
        have HX0 := hid hcx0
        have HY0 := hid hcy0
        obtain ⟨X, hX⟩ : ∃ X, x.l.length = X := ⟨_, rfl⟩
        obtain ⟨Y, hY⟩ : ∃ Y, y.l.length = Y := ⟨_, rfl⟩
        rw [hX] at hcx HC
        rw [hY] at hcy HC
        have hkc : (k : Int) < (n : Int) := by omega
        have hkc0 : (0 : Int) ≤ (k : Int) := by omega
        clear hcell hcell' hd hd' hx hy hcx0 hcy0 hX hY hxS hyS
        by_cases hz : x.l = y.l
        · rw [decide_eq_true hz] at HC
          have HT2 : Hid ((dcon xs).take (k + 1) = (dcon ys).take (k + 1)) := hid (by rw [take_snoc HX0.out, take_snoc HY0.out, HT.out, hz])
          clear hz
          go_wp2_with fail
          refine HC.out.mono ?_
          rintro e w6 ⟨rfl, hb6⟩
          have HB7 := hid (below_both HB.out hb6)
          clear hcx hcy HC hb6
          go_wp2
          go_roundw
          case rel => exact ⟨k + 1, by omega, by go_num, HT2, HB7⟩
          case measure => simp [Go.RowKit.intOf]; omega
        · rw [decide_eq_false hz] at HC
          have HE : Hid (decide (dcon xs = dcon ys) = false) := hid (decide_eq_false (fun h => hz (by
            have h1 := HX0.out
            rw [h, HY0.out] at h1
            injection h1 with h1
            exact h1.symm)))
          clear hz
          go_wp2_with fail
          refine HC.out.mono ?_
          rintro e w6 ⟨rfl, hb6⟩
          have HB7 := hid (below_both HB.out hb6)
          clear hcx hcy HC hb6
          go_wp2
          go_ret
          exact ⟨ret_b HE.out.symm, HB7.out⟩
      · obtain rfl : k = n := by omega
        have HE : Hid (decide (dcon xs = dcon ys) = true) := hid (decide_eq_true (by
          have h := HT.out
          rwa [List.take_of_length_le (by rw [dcon_len, HN.out]; exact Nat.le_refl _), List.take_of_length_le (by rw [dcon_len, HM.out]; exact Nat.le_refl _)] at h))
        go_wp2
        go_ret
        exact ⟨ret_b HE.out.symm, HB.out⟩
  · have d1 : ((n : Int) != (m : Int)) = true := by rw [bne_iff_ne]; omega
    have HE : Hid (decide (dcon xs = dcon ys) = false) := hid (decide_eq_false (fun h => hlen (by rw [← HN.out, ← HM.out, ← dcon_len xs, ← dcon_len ys, h])))
    clear hlen
    go_enter Try.func62, Try.ntmps62
    go_wp2
    go_ret
    exact ⟨ret_b HE.out.symm, Below.refl _ _⟩
set_option maxHeartbeats 1000000 in
theorem sameExts_any (xs ys : List Dvol) (v u : Value) (w : World) (hv : Difs w v xs) (hu : Difs w u ys) :
    Calls Try.prog 33 #[v, u] w (SaysB (decide (dcon xs = dcon ys)) w) := by
  have HE := hid (eqFunc62_any xs ys v u w hv hu)
  obtain ⟨A, c, rfl⟩ := difs_form hv
  obtain ⟨B, d, rfl⟩ := difs_form hu
  obtain ⟨q, hq⟩ : ∃ q, decide (dcon xs = dcon ys) = q := ⟨_, rfl⟩
  rw [hq] at HE ⊢
  clear hv hu hq
  go_enter Try.func33, Try.ntmps33
  go_wp2_with fail
  refine HE.out.mono ?_
  rintro e w1 ⟨rfl, hb⟩
  have HB := hid hb
  clear hb
  go_wp2
  go_ret
  exact ⟨rfl, HB.out⟩
set_option maxHeartbeats 4000000 in
set_option maxRecDepth 100000 in
theorem eqFunc61_any (xs ys : List Vol) (v u : Value) (w : World) (hv : Img w v xs) (hu : Img w u ys) :
    Calls Try.prog 61 #[v, u, .func (.func 27) #[] #[]] w (SaysB (decide (con xs = con ys)) w) := by
  obtain ⟨A, ca, rfl⟩ := img_form hv
  obtain ⟨B, cb, rfl⟩ := img_form hu
  obtain ⟨_, ha1, ha2⟩ := arr_cap hv.2
  obtain ⟨_, hb1, hb2⟩ := arr_cap hu.2
  have HV := hid hv
  have HU := hid hu
  obtain ⟨n, hn⟩ : ∃ n, xs.length = n := ⟨_, rfl⟩
  obtain ⟨m, hm⟩ : ∃ m, ys.length = m := ⟨_, rfl⟩
  have HN := hid hn
  have HM := hid hm
  rw [hn] at HV ha1 ⊢
  rw [hm] at HU hb1 ⊢
  clear hv hu hn hm
  by_cases hlen : n = m
  · subst hlen
    go_enter Try.func61, Try.ntmps61
    go_wp2_with fail
    go_loopw [17] (fun i wr => ∃ k : Nat, k ≤ n ∧ i = .int .i64 (k : Int) ∧ Hid ((con xs).take k = (con ys).take k) ∧ Hid (Below w.heap.size w wr)) (fun i _ => n - (Go.RowKit.intOf i).toNat)
    case atStart => exact ⟨0, Nat.zero_le _, rfl, hid rfl, hid (Below.refl _ _)⟩
    case round =>
      obtain ⟨k, hk, rfl, HT, HB⟩ := hrel
      by_cases hkn : k < n
      · obtain ⟨x, hx⟩ : ∃ x, xs[k]? = some x := ⟨xs[k]'(by rw [HN.out]; exact hkn), List.getElem?_eq_getElem _⟩
        obtain ⟨y, hy⟩ : ∃ y, ys[k]? = some y := ⟨ys[k]'(by rw [HM.out]; exact hkn), List.getElem?_eq_getElem _⟩
        have hcx0 : (con xs)[k]? = some x.l := by unfold con; rw [List.getElem?_map, hx]; rfl
        have hcy0 : (con ys)[k]? = some y.l := by unfold con; rw [List.getElem?_map, hy]; rfl
        obtain ⟨b, off, hbA, hbl, hcell⟩ := arr_at1 HV.out.2 (by rw [List.length_map, HN.out]; omega)
        obtain ⟨b', off', hbB, hbl', hcell'⟩ := arr_at1 HU.out.2 (by rw [List.length_map, HM.out]; omega)
        subst hbA hbB
        have hxS := HV.out.1 x (List.mem_of_getElem? hx)
        have hyS := HU.out.1 y (List.mem_of_getElem? hy)
        obtain ⟨dA, dc, hd⟩ := sec_form hxS.1
        obtain ⟨dB, dc', hd'⟩ := sec_form hyS.1
        have hcx : wr.cell? ⟨b, off + k, none⟩ = some (.slice dA x.l.length dc) := by
          have h := hcell k _ (by rw [List.getElem?_map, hx]; rfl) 0 _ rfl
          rw [Nat.mul_one, Nat.add_zero, hd] at h
          exact (HB.out.cell (p := ⟨b, off + k, none⟩) hbl).trans h
        have hcy : wr.cell? ⟨b', off' + k, none⟩ = some (.slice dB y.l.length dc') := by
          have h := hcell' k _ (by rw [List.getElem?_map, hy]; rfl) 0 _ rfl
          rw [Nat.mul_one, Nat.add_zero, hd'] at h
          exact (HB.out.cell (p := ⟨b', off' + k, none⟩) hbl').trans h
        rw [hd] at hxS
        rw [hd'] at hyS
        have HC : Hid (Calls Try.prog 27 #[.slice dA x.l.length dc, .slice dB y.l.length dc'] wr (SaysB (decide (x.l = y.l)) wr)) := hid (by
          have h1 := hxS.1.below HB.out
          have h2 := hyS.1.below HB.out
          exact (eqSecs_any x.l y.l _ _ wr h1.2 h2.2 h1.1 h2.1).mono (fun _ _ => saysQ_B))
        have HX0 := hid hcx0
        have HY0 := hid hcy0
        obtain ⟨X, hX⟩ : ∃ X, x.l.length = X := ⟨_, rfl⟩
        obtain ⟨Y, hY⟩ : ∃ Y, y.l.length = Y := ⟨_, rfl⟩
        rw [hX] at hcx HC
        rw [hY] at hcy HC
        have hkc : (k : Int) < (n : Int) := by omega
        have hkc0 : (0 : Int) ≤ (k : Int) := by omega
        clear hcell hcell' hd hd' hx hy hcx0 hcy0 hX hY hxS hyS
        by_cases hz : x.l = y.l
        · rw [decide_eq_true hz] at HC
          have HT2 : Hid ((con xs).take (k + 1) = (con ys).take (k + 1)) := hid (by rw [take_snoc HX0.out, take_snoc HY0.out, HT.out, hz])
          clear hz
          go_wp2_with fail
          refine HC.out.mono ?_
          rintro e w6 ⟨rfl, hb6⟩
          have HB7 := hid (below_both HB.out hb6)
          clear hcx hcy HC hb6
          go_wp2
          go_roundw
          case rel => exact ⟨k + 1, by omega, by go_num, HT2, HB7⟩
          case measure => simp [Go.RowKit.intOf]; omega
        · rw [decide_eq_false hz] at HC
          have HE : Hid (decide (con xs = con ys) = false) := hid (decide_eq_false (fun h => hz (by
            have h1 := HX0.out
            rw [h, HY0.out] at h1
            injection h1 with h1
            exact h1.symm)))
          clear hz
          go_wp2_with fail
          refine HC.out.mono ?_
          rintro e w6 ⟨rfl, hb6⟩
          have HB7 := hid (below_both HB.out hb6)
          clear hcx hcy HC hb6
          go_wp2
          go_ret
          exact ⟨ret_b HE.out.symm, HB7.out⟩
      · obtain rfl : k = n := by omega
        have HE : Hid (decide (con xs = con ys) = true) := hid (decide_eq_true (by
          have h := HT.out
          rwa [List.take_of_length_le (by rw [con_len, HN.out]; exact Nat.le_refl _), List.take_of_length_le (by rw [con_len, HM.out]; exact Nat.le_refl _)] at h))
        go_wp2
        go_ret
        exact ⟨ret_b HE.out.symm, HB.out⟩
  · have d1 : ((n : Int) != (m : Int)) = true := by rw [bne_iff_ne]; omega
    have HE : Hid (decide (con xs = con ys) = false) := hid (decide_eq_false (fun h => hlen (by rw [← HN.out, ← HM.out, ← con_len xs, ← con_len ys, h])))
    clear hlen
    go_enter Try.func61, Try.ntmps61
    go_wp2
    go_ret
    exact ⟨ret_b HE.out.symm, Below.refl _ _⟩
set_option maxHeartbeats 1000000 in
theorem sameIm_any (xs ys : List Vol) (v u : Value) (w : World) (hv : Img w v xs) (hu : Img w u ys) :
    Calls Try.prog 32 #[v, u] w (SaysB (decide (con xs = con ys)) w) := by
  have HE := hid (eqFunc61_any xs ys v u w hv hu)
  obtain ⟨A, c, rfl⟩ := img_form hv
  obtain ⟨B, d, rfl⟩ := img_form hu
  obtain ⟨q, hq⟩ : ∃ q, decide (con xs = con ys) = q := ⟨_, rfl⟩
  rw [hq] at HE ⊢
  clear hv hu hq
  go_enter Try.func32, Try.ntmps32
  go_wp2_with fail
  refine HE.out.mono ?_
  rintro e w1 ⟨rfl, hb⟩
  have HB := hid hb
  clear hb
  go_wp2
  go_ret
  exact ⟨rfl, HB.out⟩
/- What differs, in both directions. -/
theorem difN_symm (a b : List Sect) (k : Nat) : difN a b k = difN b a k := by
  unfold difN
  apply List.filter_congr
  intro i _
  rw [decide_eq_decide]
  exact ⟨fun h e => h e.symm, fun h e => h e.symm⟩
theorem dx_unique {a b : List Sect} {l m : List (Int × Int)} (h : Dx a b l) (h' : Dx b a m) (hlen : a.length = b.length) : l = m :=
  Xt.canon_ext (Int.le_refl 0) h.1 h'.1 (fun x => by
    rw [h.2 x, h'.2 x]
    unfold dif
    rw [hlen, difN_symm])
theorem allDx_unique {L M : List (List Sect)} {ds es : List Dvol} (h : AllDx L M ds) (h' : AllDx M L es) (hs : siz L = siz M) : dcon ds = dcon es := by
  have hlm : L.length = M.length := by rw [← siz_len L, hs, siz_len]
  apply List.ext_getElem?
  intro i
  unfold dcon
  rw [List.getElem?_map, List.getElem?_map]
  rcases Nat.lt_or_ge i L.length with hi | hi
  · obtain ⟨x, hx⟩ : ∃ x, ds[i]? = some x := ⟨ds[i]'(by rw [h.1]; exact hi), List.getElem?_eq_getElem _⟩
    obtain ⟨y, hy⟩ : ∃ y, es[i]? = some y := ⟨es[i]'(by rw [h'.1]; omega), List.getElem?_eq_getElem _⟩
    rw [hx, hy]
    exact congrArg some (dx_unique (h.2 i x hx) (h'.2 i y hy) (siz_getD hs i))
  · rw [List.getElem?_eq_none (by rw [h.1]; exact hi), List.getElem?_eq_none (by rw [h'.1]; omega)]
/- Writes in two steps. -/
theorem appW_split : ∀ {ws vs : List Wri} {L : List (List Sect)} {i : Nat}, appW L (ws ++ vs) i = match appW L ws i with
    | .ok L1 => appW L1 vs (i + ws.length)
    | .error e => .error e := by
  intro ws
  induction ws with
  | nil => intro vs L i; rfl
  | cons x t ih =>
    intro vs L i
    rw [List.cons_append, appW, appW]
    split
    · rfl
    · rw [ih, List.length_cons, Nat.add_assoc, Nat.add_comm 1]
theorem appW_shift : ∀ {ws : List Wri} {L : List (List Sect)} {i d : Nat}, appW L ws (i + d) = match appW L ws i with
    | .ok L1 => .ok L1
    | .error (k, e) => .error (k + d, e) := by
  intro ws
  induction ws with
  | nil => intro L i d; rfl
  | cons x t ih =>
    intro L i d
    rw [appW, appW]
    split
    · rfl
    · rw [show i + d + 1 = i + 1 + d by omega, ih]
theorem appW_lt : ∀ {ws : List Wri} {L : List (List Sect)} {i k : Nat} {e : Int}, appW L ws i = .error (k, e) → i ≤ k ∧ k < i + ws.length := by
  intro ws
  induction ws with
  | nil => intro L i k e h; cases h
  | cons x t ih =>
    intro L i k e h
    unfold appW at h
    split at h
    · injection h with h
      injection h with h _
      rw [List.length_cons]
      omega
    · have := ih h
      rw [List.length_cons]
      omega
theorem appM_two_err {L : List (List Sect)} {ws : List Wri} {n k : Nat} {e : Int} (h : appM L (ws.take n) = .error (k, e)) : appM L ws = .error (k, e) ∧ k < max n 1 := by
  unfold appM at h ⊢
  split at h
  · rename_i h0
    rw [if_pos h0]
    refine ⟨h, ?_⟩
    injection h with h
    injection h with h _
    omega
  · rename_i h0
    rw [if_neg h0]
    have hl := appW_lt h
    refine ⟨?_, by rw [List.length_take] at hl; omega⟩
    have h2 := appW_split (ws := ws.take n) (vs := ws.drop n) (L := L) (i := 0)
    rw [List.take_append_drop, h] at h2
    exact h2
theorem appM_two_ok {L L1 : List (List Sect)} {ws : List Wri} {n : Nat} (hn : n ≤ ws.length) (h : appM L (ws.take n) = .ok L1) : (∃ L2, appM L ws = .ok L2 ∧ appM L1 (ws.drop n) = .ok L2) ∨ (∃ k e, appM L ws = .error (k + n, e) ∧ appM L1 (ws.drop n) = .error (k, e) ∧ k < ws.length - n) := by
  obtain ⟨hk, h⟩ := appM_ok h
  have hs := (appW_ok h).1
  have h2 := appW_split (ws := ws.take n) (vs := ws.drop n) (L := L) (i := 0)
  rw [List.take_append_drop, h, List.length_take, Nat.min_eq_left hn] at h2
  dsimp only at h2
  rw [appW_shift] at h2
  have e1 : appM L ws = appW L ws 0 := by unfold appM; rw [hk, if_neg (by decide)]
  have e2 : appM L1 (ws.drop n) = appW L1 (ws.drop n) 0 := by unfold appM; rw [hs, hk, if_neg (by decide)]
  rw [e1, e2, h2]
  cases h3 : appW L1 (ws.drop n) 0 with
  | ok L2 => exact .inl ⟨L2, rfl, rfl⟩
  | error p =>
    obtain ⟨k, e⟩ := p
    have hl := (appW_lt h3).2
    rw [List.length_drop] at hl
    exact .inr ⟨k, e, rfl, rfl, by omega⟩
theorem wrs_take {w : World} {A : Option Addr} {c : Nat} {ws : List Wri} (h : WrsA w (.slice A ws.length c) ws) (n : Nat) (hn : n ≤ ws.length) : WrsA w (.slice A n c) (ws.take n) := by
  obtain ⟨h1, A', c', e, hc1, hc2, b, off, hA, hc⟩ := h
  injection e with e1 e2 e3
  subst e1 e3
  rw [List.length_map] at hc1 hA
  have hl : (ws.take n).length = n := by rw [List.length_take]; omega
  refine ⟨fun x hx => h1 x (List.mem_of_mem_take hx), A, c, by rw [List.length_map, hl], by rw [List.length_map, hl]; omega, hc2, b, off, fun hp => hA (by rw [List.length_map, hl] at hp; omega), fun i r hr => hc i r ?_⟩
  rw [List.getElem?_map, List.getElem?_take] at hr
  rw [List.getElem?_map]
  split at hr
  · exact hr
  · cases hr
def fromW (A : Option Addr) (c k : Nat) : Option Addr := if c = k then A else A.map (fun x => x.add (k * 3))
theorem wrs_drop {w : World} {A : Option Addr} {c : Nat} {ws : List Wri} (h : WrsA w (.slice A ws.length c) ws) (n : Nat) (hn : n ≤ ws.length) : WrsA w (.slice (fromW A c n) (ws.length - n) (c - n)) (ws.drop n) := by
  obtain ⟨h1, A', c', e, hc1, hc2, b, off, hA, hc⟩ := h
  injection e with e1 e2 e3
  subst e1 e3
  rw [List.length_map] at hc1 hA
  refine ⟨fun x hx => h1 x (List.mem_of_mem_drop hx), fromW A c n, c - n, by rw [List.length_map, List.length_drop], by rw [List.length_map, List.length_drop]; omega, by omega, b, off + n * 3, fun hp => ?_, fun i r hr j u hu => ?_⟩
  · rw [List.length_map, List.length_drop] at hp
    obtain ⟨hA1, hA2⟩ := hA (by omega)
    refine ⟨?_, hA2⟩
    unfold fromW
    rw [if_neg (by omega), hA1]
    simp [Addr.add]
  · rw [List.getElem?_map, List.getElem?_drop] at hr
    have := hc (n + i) r (by rw [List.getElem?_map]; exact hr) j u hu
    rw [show off + n * 3 + i * 3 + j = off + (n + i) * 3 + j by omega]
    exact this
theorem size42s (w : World) : (sizeOf 42).run Try.prog w = .ok 3 w := by kernel_rfl
theorem run_slice38to (A : Option Addr) (n c hi : Nat) (y : Int) (hy : y = (hi : Int)) (h2 : hi ≤ c) (W : World) : (Instr.slice 38 (.slice A n c) none (some (.int .i64 y)) none).run Try.prog W = .ok (.slice A hi c) W := by
  subst hy
  simp [Instr.slice, run_underlying Try.underlying38, Instr.sliceBounds, Sem.run_bind, run_sliceBound_if, h2]
  intro _
  rcases A with _ | a
  · rfl
  · rw [Option.map_some]
    congr 1
theorem run_slice38from (A : Option Addr) (n c lo : Nat) (x : Int) (hx : x = (lo : Int)) (h1 : lo ≤ n) (W : World) : (Instr.slice 38 (.slice A n c) (some (.int .i64 x)) none none).run Try.prog W = .ok (.slice (fromW A c lo) (n - lo) (c - lo)) W := by
  subst hx
  simp [Instr.slice, run_underlying Try.underlying38, Instr.sliceBounds, Sem.run_bind, run_sliceBound_if, fromW, h1]
end Go.Proofs.Ytbcnikmhodkbfaa
