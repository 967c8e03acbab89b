/- The reference's Encode. -/
import Derived.Test.YtldlddoealpomaaJb
import Derived.Test.YtldlddoealpomaaGj
import Derived.Deep.DeepCutAuto
namespace Go.Proofs.Ytldlddoealpomaa.Rl
open Go.RowKit Go.Lib
theorem own_base {w : World} {base base' E st n : Nat} {v : Value} {xs : List Value} (h : w.ownsRow base E st v n xs) (hb : base' ≤ base) : w.ownsRow base' E st v n xs :=
  ⟨h.1, h.2.imp id fun ⟨g, cap, cur, e, hg, r⟩ => ⟨g, cap, cur, e, by omega, r⟩⟩

theorem cG_len (l : List (Nat × Nat × Nat)) : (l.map cG).flatten.length = 3 * l.length := by
  induction l with
  | nil => rfl
  | cons a l ih => rw [List.map_cons, List.flatten_cons, List.length_append, ih, List.length_cons]; show 3 + _ = _; omega
theorem arr_of_grp {w : World} {base : Nat} {v : Value} {l : List (Nat × Nat × Nat)} (h : w.ownsRow base 87 3 v l.length (l.map cG).flatten) : Arr w v 3 (l.map cG) := by
  have h' : w.ownsRow base 87 3 v (l.map cG).length (l.map cG).flatten := by rw [List.length_map]; exact h
  exact arr_of_own h' rfl (fun r hr => by
    obtain ⟨s, _, rfl⟩ := List.mem_map.1 hr
    rfl)
theorem rgs_len (n : Nat) : ∀ (l : List Sect) (p : Nat), l.length ≤ n → (rgs p (grps l)).length ≤ l.length := by
  induction n with
  | zero => intro l p h; rw [List.eq_nil_of_length_eq_zero (Nat.le_zero.1 h), grps_nil]; exact Nat.le_refl _
  | succ n ih =>
    intro l p h
    by_cases h0 : l = []
    · subst h0; rw [grps_nil]; exact Nat.le_refl _
    · have hc := cnt_pos h0
      have hcl := cnt_le l
      rw [grps_cons h0, rgs, List.length_cons]
      have := ih (l.drop (cnt l)) (p + (knd l, l.take (cnt l)).2.length) (by rw [List.length_drop]; omega)
      rw [List.length_drop] at this
      omega
theorem own_len5 {w : World} {base n : Nat} {v : Value} {l : List Nat} (h : w.ownsRow base 5 1 v n (l.map byteV)) : l.length = n := by
  have := h.1
  rw [List.length_map] at this
  omega
theorem encG_body {l : List Sect} (h0 : l ≠ []) : encG l = enc (4 * cnt l + knd l) ++ (l.take (bodyN (knd l) (cnt l))).flatten := by
  have hc := cnt_pos h0
  unfold encG body bodyN
  split
  · rfl
  split
  · rw [List.take_take, Nat.min_eq_left hc]
  · simp

set_option maxHeartbeats 4000000 in
set_option maxRecDepth 100000 in
theorem refEncode_any (l : List Sect) (v : Value) (w : World) (hv : Sec w v l) (hl : l.length ≤ 5000) :
    Calls Try.prog 36 #[v] w (MadeO w (rl l)) := by
  have HV := hid hv
  obtain ⟨A, c, rfl⟩ := sec_form hv
  obtain ⟨n, hn⟩ : ∃ n, l.length = n := ⟨_, rfl⟩
  have HN := hid hn
  rw [hn] at HV hl ⊢
  have HC := hid (refGroups_any l _ w HV.out (by omega))
  clear hv hn
  go_enter Try.func36, Try.ntmps36
  go_wp2_with fail
  refine HC.out.mono ?_
  rintro e w1 ⟨v1, rfl, ho1, hb1⟩
  obtain ⟨gs, hgs⟩ : ∃ gs, rgs 0 (grps l) = gs := ⟨_, rfl⟩
  rw [hgs] at ho1
  obtain ⟨vA, vc, rfl⟩ := own_form59 ho1
  obtain ⟨N, hNl⟩ : ∃ N, gs.length = N := ⟨_, rfl⟩
  have hN1 : N ≤ 5000 := by have := rgs_len _ l 0 (Nat.le_refl _); rw [hgs, hNl, HN.out] at this; omega
  rw [hNl] at ho1 ⊢
  have HNL := hid hNl
  have HGS := hid hgs
  have HO1 := hid ho1
  have HB1 := hid hb1
  clear HC ho1 hb1 hNl hgs
  go_wp2_with fail
  go_loopw [3, 5] (fun v i wr => ∃ (j p m : Nat) (bs : List Nat), j ≤ N ∧ p ≤ n ∧ m ≤ 9 * p ∧ i = .int .i64 (j : Int) ∧ Hid (bs.length = m) ∧ Hid (gs.drop j = rgs p (grps (l.drop p))) ∧ Hid (rl l = bs ++ rl (l.drop p)) ∧ Hid (wr.ownsRow w.heap.size 5 1 v m (bs.map byteV)) ∧ Hid (wr.ownsRow w.heap.size 87 3 (.slice vA N vc) N (gs.map cG).flatten) ∧ Hid (Below w.heap.size w wr)) (fun _ i _ => N - (Lib.intOf i).toNat)
  case atStart => exact ⟨0, 0, 0, [], Nat.zero_le _, Nat.zero_le _, Nat.zero_le _, rfl, hid rfl, hid HGS.out.symm, hid rfl, hid (World.ownsRow_nil _ _ _ _), HO1, HB1⟩
  case round =>
    clear HO1 HB1
    obtain ⟨j, p, m, bs, hj, hp, hmp, rfl, HM, HR, HRL, HO, HG, HB⟩ := hrel
    obtain ⟨oA, oc, rfl⟩ := own_form HO.out
    by_cases hjn : j < N
    · have hjc : (j : Int) < (N : Int) := by omega
      have hpn : p < n := by
        rcases Nat.lt_or_ge p n with h | h
        · exact h
        · have h2 := HR.out
          rw [List.drop_of_length_le (show l.length ≤ p by rw [HN.out]; exact h), grps_nil] at h2
          have := congrArg List.length h2
          rw [List.length_drop, HNL.out] at this
          simp [rgs] at this
          omega
      have h0 : l.drop p ≠ [] := by intro e; have := congrArg List.length e; rw [List.length_drop, HN.out] at this; simp at this; omega
      have hnx := rgs_next (l := l) (k := p) (by rw [HN.out]; exact hpn)
      obtain ⟨kd, hkd⟩ : ∃ kd, knd (l.drop p) = kd := ⟨_, rfl⟩
      obtain ⟨ct, hct⟩ : ∃ ct, cnt (l.drop p) = ct := ⟨_, rfl⟩
      have hk2 : kd ≤ 2 := by rw [← hkd]; exact knd_le _
      have hc1 : 1 ≤ ct := by rw [← hct]; exact cnt_pos h0
      have hcn : p + ct ≤ n := by have := cnt_le (l.drop p); rw [hct, List.length_drop, HN.out] at this; omega
      have heG := encG_body h0
      have hrl := rl_cons h0
      rw [heG, hkd, hct, List.drop_drop] at hrl
      rw [hkd, hct] at hnx
      have hjl : j < gs.length := by rw [HNL.out]; exact hjn
      have hR := HR.out
      rw [hnx, List.drop_eq_getElem_cons hjl] at hR
      injection hR with hR1 hR2
      have hx : gs[j]? = some (kd, p, ct) := by rw [← hR1]; exact List.getElem?_eq_getElem hjl
      have HR2 := hid hR2
      have HRL2 : Hid (rl l = bs ++ ((enc (4 * ct + kd) ++ ((l.drop p).take (bodyN kd ct)).flatten) ++ rl (l.drop (p + ct)))) := hid (by rw [HRL.out, hrl])
      obtain ⟨A2, k2, e2, _, hcm2, b2, o2, hA2, hc2⟩ := arr_of_grp (l := gs) (by rw [HNL.out]; exact HG.out)
      rw [List.length_map, HNL.out] at e2 hA2
      injection e2 with e3 _ e4
      subst e3 e4
      have hvA := (hA2 (by omega)).1
      subst hvA
      have q0 : wr.cell? ⟨b2, o2 + j * 3 + 0, none⟩ = some (.int .i64 (kd : Int)) := hc2 j (cG (kd, p, ct)) (by rw [List.getElem?_map, hx]; rfl) 0 _ rfl
      have q1 : wr.cell? ⟨b2, o2 + j * 3 + 1, none⟩ = some (.int .i64 (p : Int)) := hc2 j (cG (kd, p, ct)) (by rw [List.getElem?_map, hx]; rfl) 1 _ rfl
      have q2 : wr.cell? ⟨b2, o2 + j * 3 + 2, none⟩ = some (.int .i64 (ct : Int)) := hc2 j (cG (kd, p, ct)) (by rw [List.getElem?_map, hx]; rfl) 2 _ rfl
      rw [Nat.add_zero] at q0
      have h8 : B8 bs := fun x hx => by
        have h := b8_rl _ l (Nat.le_refl _) HV.out.1
        rw [HRL.out] at h
        exact h x (List.mem_append_left _ hx)
      obtain ⟨W3, hW3⟩ : ∃ W3, wr.alloc (.cells #[.int .i64 (kd : Int), .int .i64 (p : Int), .int .i64 (ct : Int)] 87) = W3 := ⟨_, rfl⟩
      have hb3 : Below wr.heap.size wr W3 := by rw [← hW3]; exact al1 _ _
      have hx3 : W3.heap[wr.heap.size]? = some (.cells #[.int .i64 (kd : Int), .int .i64 (p : Int), .int .i64 (ct : Int)] 87) := by rw [← hW3]; exact heap_alloc_new wr _
      have HX3 := hid hx3
      have HB3 := hid (below_both HB.out hb3)
      have HG3 := hid (own_keep HG.out (keep_below hb3))
      have HO3 := hid (own_keep HO.out (keep_below hb3))
      have hP := rput_own (4 * (ct : Int) + (kd : Int)) bs (.slice oA m oc) W3 (byt_of_own HO3.out h8) (own_nilOk HO3.out) (by rw [HM.out]; omega)
      rw [cl_in (by omega) (by omega), show (4 * (ct : Int) + (kd : Int)).toNat = 4 * ct + kd by omega] at hP
      have HP := hid hP
      have c0 := cell_of_row _ _ 0 _ _ _ hx3
      have c1 := cell_of_row _ _ 1 _ _ _ hx3
      have c2 := cell_of_row _ _ 2 _ _ _ hx3
      have H8 := hid h8
      clear hP hx3 hb3 h8 hc2 hA2 hx hR1 hR2 hnx hrl heG hkd hct h0 hjl hcm2
      go_wp2_with fail
      refine HP.out.mono ?_
      rintro e w4 ⟨v4, rfl, ho4, hb4⟩
      obtain ⟨hh, hhe⟩ : ∃ hh, (enc (4 * ct + kd)).length = hh := ⟨_, rfl⟩
      have hh9 : 1 ≤ hh ∧ hh ≤ 8 := by rw [← hhe]; exact ⟨enc_pos _, enc_le8 (by unfold top; omega)⟩
      have hh1 : hh ≤ ct := by rw [← hhe]; exact head_le hc1 (by omega)
      have HLN : Hid ((bs ++ enc (4 * ct + kd)).length = m + hh) := hid (by rw [List.length_append, HM.out, hhe])
      rw [HLN.out] at ho4
      obtain ⟨p4, k4, rfl⟩ := own_form ho4
      have HO4 := hid (own_base ho4 (show w.heap.size ≤ W3.heap.size from HB3.out.size))
      have HB4 := hid (below_both HB3.out hb4)
      have HG4 := hid (own_keep HG3.out (keep_below hb4))
      have hx4 := (hb4.block wr.heap.size (box_lt HX3.out)).trans HX3.out
      obtain ⟨g3, hg3⟩ : ∃ g, wr.heap.size = g := ⟨_, rfl⟩
      rw [hg3] at hx4 ⊢
      have HX4 := hid hx4
      have c4 := cell_of_row _ _ 0 _ _ _ hx4
      have c5 := cell_of_row _ _ 1 _ _ _ hx4
      have c6 := cell_of_row _ _ 2 _ _ _ hx4
      have hg3w : w.heap.size ≤ g3 := by rw [← hg3]; exact HB.out.size
      clear ho4 hb4 hx4 hg3 hhe HP c0 c1 c2 q0 q1 q2 HX3 HB3 HG3 HO3 HG HO HB hW3
      obtain ⟨nb, hnb⟩ : ∃ nb, bodyN kd ct = nb := ⟨_, rfl⟩
      have HNB := hid hnb
      have hnbc : nb ≤ ct := by rw [← hnb]; unfold bodyN; split; omega; split <;> omega
      have hk3 : kd = 0 ∨ kd = 1 ∨ kd = 2 := by omega
      clear hnb HNB hnbc hk2
      rcases hk3 with rfl | rfl | rfl
      · go_wp2_with fail
        go_loopw [3, 8] (fun v i wy => ∃ (a : Nat), a ≤ ct ∧ i = .int .i64 (a : Int) ∧ Hid (wy.ownsRow w.heap.size 5 1 v (m + hh + 8 * a) ((bs ++ enc (4 * ct + 0) ++ ((l.drop p).take a).flatten).map byteV)) ∧ Hid (wy.ownsRow w.heap.size 87 3 (.slice (some ⟨b2, o2, none⟩) N vc) N (gs.map cG).flatten) ∧ Hid (wy.heap[g3]? = some (.cells #[.int .i64 (0 : Nat), .int .i64 (p : Int), .int .i64 (ct : Int)] 87)) ∧ Hid (Below w.heap.size w wy)) (fun _ i _ => ct - (Lib.intOf i).toNat)
        case atStart => exact ⟨0, Nat.zero_le _, rfl, hid (by have h := HO4.out; rw [List.take_zero]; simpa using h), HG4, HX4, HB4⟩
        case round =>
          clear HO4 HG4 HX4 HB4 c4 c5 c6
          obtain ⟨a, ha, rfl, HOa, HGa, HXa, HBa⟩ := hrel
          obtain ⟨oA, oc, rfl⟩ := own_form HOa.out
          have hza := HBa.out.size
          by_cases haN : a < ct
          · have hac : (a : Int) < ((ct : Nat) : Int) := by omega
            have hpa : (p : Int) + (a : Int) < (n : Int) := by omega
            obtain ⟨y, hy⟩ : ∃ y, l[p + a]? = some y := ⟨l[p + a]'(by rw [HN.out]; omega), List.getElem?_eq_getElem _⟩
            have hyo := HV.out.1 y (List.mem_of_getElem? hy)
            have HTK : Hid (((l.drop p).take (a + 1)).flatten = ((l.drop p).take a).flatten ++ y) := hid (by
              have h : (l.drop p)[a]? = some y := by rw [List.getElem?_drop]; exact hy
              obtain ⟨hlt, rfl⟩ := List.getElem?_eq_some_iff.1 h
              rw [List.take_succ_eq_append_getElem hlt, List.flatten_append]; simp)
            have hlen : 0 < l.length := by rw [HN.out]; omega
            obtain ⟨pb, po, pc, e, pcap, pcm, pbl, psc⟩ := sec_at HV.out (fun e => by rw [e] at hlen; simp at hlen)
            rw [HN.out] at e pcap
            injection e with e1 _ e2
            subst e1 e2
            unfold maxLen at pcm
            have s2 := (psc (p + a) y hy).below pbl HBa.out
            have hy8 := hyo.2
            clear hy psc hlen
            obtain ⟨y0, y1, y2, y3, y4, y5, y6, y7, rfl⟩ := list8 hyo.1
            obtain ⟨r0, r1, r2, r3, r4, r5, r6, r7⟩ := s2.facts
            have c5 := cell_of_row _ _ 1 _ _ _ HXa.out
            have HBW := hid (al1 wr (.cells #[.int .u8 (y0 : Int), .int .u8 (y1 : Int), .int .u8 (y2 : Int), .int .u8 (y3 : Int), .int .u8 (y4 : Int), .int .u8 (y5 : Int), .int .u8 (y6 : Int), .int .u8 (y7 : Int)] 44))
            have HOw := hid (own_keep HOa.out (keep_below HBW.out))
            clear s2 hyo
            go_wp2_with (at_builtin; refine append_byt rfl (.tmp 50) (.tmp 51) rfl w.heap.size _ (m + hh + 8 * a) _ rfl HOw.out [y0, y1, y2, y3, y4, y5, y6, y7] _ rfl (byt_cells (s := [y0, y1, y2, y3, y4, y5, y6, y7]) hy8 rfl (heap_alloc_new wr _)) (nilOk_some _ _ _) (by simp; omega) (by simp; omega) ?_; intro v5 w5 hown5 hg5; obtain ⟨a5, k5, rfl⟩ := own_form hown5; have HO5 := hid hown5; have HG5 := hid hg5; clear hown5 hg5)
            have HKP := hid ((keep_below (T := 87) HBW.out).trans (keep_grown HOw.out (by decide) HG5.out))
            have HB5 := hid ((HBa.out.alloc hza (.cells #[.int .u8 (y0 : Int), .int .u8 (y1 : Int), .int .u8 (y2 : Int), .int .u8 (y3 : Int), .int .u8 (y4 : Int), .int .u8 (y5 : Int), .int .u8 (y6 : Int), .int .u8 (y7 : Int)] 44)).grown HG5.out (by simp; omega) (fun k e => (HOw.out.lt k e).1))
            go_roundw
            case rel => exact ⟨a + 1, by omega, by go_num, hid (by rw [HTK.out, ← List.append_assoc, List.map_append, show m + hh + 8 * (a + 1) = m + hh + 8 * a + 8 by omega]; exact HO5.out), hid (own_keep HGa.out HKP.out), hid (HKP.out _ _ HXa.out), HB5⟩
            case measure => simp [Lib.intOf]; omega
          · obtain rfl : a = ct := by omega
            have HRL3 : Hid (rl l = (bs ++ enc (4 * a + 0) ++ ((l.drop p).take a).flatten) ++ rl (l.drop (p + a))) := hid (by rw [HRL2.out]; simp [bodyN])
            go_wp2_with fail
            go_roundw
            case rel => exact ⟨j + 1, p + a, m + hh + 8 * a, _, by omega, by omega, by omega, by go_num, hid (own_len5 HOa.out), HR2, HRL3, HOa, HGa, HBa⟩
            case measure => simp [Lib.intOf]; omega
      · go_wp2_with fail
        go_loopw [3, 8] (fun v i wy => ∃ (a : Nat), a ≤ 1 ∧ i = .int .i64 (a : Int) ∧ Hid (wy.ownsRow w.heap.size 5 1 v (m + hh + 8 * a) ((bs ++ enc (4 * ct + 1) ++ ((l.drop p).take a).flatten).map byteV)) ∧ Hid (wy.ownsRow w.heap.size 87 3 (.slice (some ⟨b2, o2, none⟩) N vc) N (gs.map cG).flatten) ∧ Hid (wy.heap[g3]? = some (.cells #[.int .i64 (1 : Nat), .int .i64 (p : Int), .int .i64 (ct : Int)] 87)) ∧ Hid (Below w.heap.size w wy)) (fun _ i _ => 1 - (Lib.intOf i).toNat)
        case atStart => exact ⟨0, Nat.zero_le _, rfl, hid (by have h := HO4.out; rw [List.take_zero]; simpa using h), HG4, HX4, HB4⟩
        case round =>
          clear HO4 HG4 HX4 HB4 c4 c5 c6
          obtain ⟨a, ha, rfl, HOa, HGa, HXa, HBa⟩ := hrel
          obtain ⟨oA, oc, rfl⟩ := own_form HOa.out
          have hza := HBa.out.size
          by_cases haN : a < 1
          · have hac : (a : Int) < ((1 : Nat) : Int) := by omega
            have hpa : (p : Int) + (a : Int) < (n : Int) := by omega
            obtain ⟨y, hy⟩ : ∃ y, l[p + a]? = some y := ⟨l[p + a]'(by rw [HN.out]; omega), List.getElem?_eq_getElem _⟩
            have hyo := HV.out.1 y (List.mem_of_getElem? hy)
            have HTK : Hid (((l.drop p).take (a + 1)).flatten = ((l.drop p).take a).flatten ++ y) := hid (by
              have h : (l.drop p)[a]? = some y := by rw [List.getElem?_drop]; exact hy
              obtain ⟨hlt, rfl⟩ := List.getElem?_eq_some_iff.1 h
              rw [List.take_succ_eq_append_getElem hlt, List.flatten_append]; simp)
            have hlen : 0 < l.length := by rw [HN.out]; omega
            obtain ⟨pb, po, pc, e, pcap, pcm, pbl, psc⟩ := sec_at HV.out (fun e => by rw [e] at hlen; simp at hlen)
            rw [HN.out] at e pcap
            injection e with e1 _ e2
            subst e1 e2
            unfold maxLen at pcm
            have s2 := (psc (p + a) y hy).below pbl HBa.out
            have hy8 := hyo.2
            clear hy psc hlen
            obtain ⟨y0, y1, y2, y3, y4, y5, y6, y7, rfl⟩ := list8 hyo.1
            obtain ⟨r0, r1, r2, r3, r4, r5, r6, r7⟩ := s2.facts
            have c5 := cell_of_row _ _ 1 _ _ _ HXa.out
            have HBW := hid (al1 wr (.cells #[.int .u8 (y0 : Int), .int .u8 (y1 : Int), .int .u8 (y2 : Int), .int .u8 (y3 : Int), .int .u8 (y4 : Int), .int .u8 (y5 : Int), .int .u8 (y6 : Int), .int .u8 (y7 : Int)] 44))
            have HOw := hid (own_keep HOa.out (keep_below HBW.out))
            clear s2 hyo
            go_wp2_with (at_builtin; refine append_byt rfl (.tmp 50) (.tmp 51) rfl w.heap.size _ (m + hh + 8 * a) _ rfl HOw.out [y0, y1, y2, y3, y4, y5, y6, y7] _ rfl (byt_cells (s := [y0, y1, y2, y3, y4, y5, y6, y7]) hy8 rfl (heap_alloc_new wr _)) (nilOk_some _ _ _) (by simp; omega) (by simp; omega) ?_; intro v5 w5 hown5 hg5; obtain ⟨a5, k5, rfl⟩ := own_form hown5; have HO5 := hid hown5; have HG5 := hid hg5; clear hown5 hg5)
            have HKP := hid ((keep_below (T := 87) HBW.out).trans (keep_grown HOw.out (by decide) HG5.out))
            have HB5 := hid ((HBa.out.alloc hza (.cells #[.int .u8 (y0 : Int), .int .u8 (y1 : Int), .int .u8 (y2 : Int), .int .u8 (y3 : Int), .int .u8 (y4 : Int), .int .u8 (y5 : Int), .int .u8 (y6 : Int), .int .u8 (y7 : Int)] 44)).grown HG5.out (by simp; omega) (fun k e => (HOw.out.lt k e).1))
            go_roundw
            case rel => exact ⟨a + 1, by omega, by go_num, hid (by rw [HTK.out, ← List.append_assoc, List.map_append, show m + hh + 8 * (a + 1) = m + hh + 8 * a + 8 by omega]; exact HO5.out), hid (own_keep HGa.out HKP.out), hid (HKP.out _ _ HXa.out), HB5⟩
            case measure => simp [Lib.intOf]; omega
          · obtain rfl : a = 1 := by omega
            have HRL3 : Hid (rl l = (bs ++ enc (4 * ct + 1) ++ ((l.drop p).take (1)).flatten) ++ rl (l.drop (p + ct))) := hid (by rw [HRL2.out]; simp [bodyN])
            go_wp2_with fail
            go_roundw
            case rel => exact ⟨j + 1, p + ct, m + hh + 8 * 1, _, by omega, by omega, by omega, by go_num, hid (own_len5 HOa.out), HR2, HRL3, HOa, HGa, HBa⟩
            case measure => simp [Lib.intOf]; omega
      · go_wp2_with fail
        go_loopw [3, 8] (fun v i wy => ∃ (a : Nat), a ≤ 0 ∧ i = .int .i64 (a : Int) ∧ Hid (wy.ownsRow w.heap.size 5 1 v (m + hh + 8 * a) ((bs ++ enc (4 * ct + 2) ++ ((l.drop p).take a).flatten).map byteV)) ∧ Hid (wy.ownsRow w.heap.size 87 3 (.slice (some ⟨b2, o2, none⟩) N vc) N (gs.map cG).flatten) ∧ Hid (wy.heap[g3]? = some (.cells #[.int .i64 (2 : Nat), .int .i64 (p : Int), .int .i64 (ct : Int)] 87)) ∧ Hid (Below w.heap.size w wy)) (fun _ i _ => 0 - (Lib.intOf i).toNat)
        case atStart => exact ⟨0, Nat.zero_le _, rfl, hid (by have h := HO4.out; rw [List.take_zero]; simpa using h), HG4, HX4, HB4⟩
        case round =>
          clear HO4 HG4 HX4 HB4 c4 c5 c6
          obtain ⟨a, ha, rfl, HOa, HGa, HXa, HBa⟩ := hrel
          obtain ⟨oA, oc, rfl⟩ := own_form HOa.out
          have hza := HBa.out.size
          by_cases haN : a < 0
          · exact absurd haN (by omega)
          · obtain rfl : a = 0 := by omega
            have HRL3 : Hid (rl l = (bs ++ enc (4 * ct + 2) ++ ((l.drop p).take (0)).flatten) ++ rl (l.drop (p + ct))) := hid (by rw [HRL2.out]; simp [bodyN])
            go_wp2_with fail
            go_roundw
            case rel => exact ⟨j + 1, p + ct, m + hh + 8 * 0, _, by omega, by omega, by omega, by go_num, hid (own_len5 HOa.out), HR2, HRL3, HOa, HGa, HBa⟩
            case measure => simp [Lib.intOf]; omega
    · obtain rfl : j = N := by omega
      have hd : rl (l.drop p) = [] := by
        have h := HR.out
        rw [List.drop_of_length_le (by rw [HNL.out]; omega)] at h
        by_cases h0 : l.drop p = []
        · rw [h0, rl_nil]
        · rw [grps_cons h0] at h; cases h
      have HE : Hid (rl l = bs) := hid (by rw [HRL.out, hd, List.append_nil])
      clear hd
      go_wp2
      go_ret
      exact ⟨_, rfl, by rw [HE.out, HM.out]; exact HO.out, HB.out⟩
end Go.Proofs.Ytldlddoealpomaa.Rl
