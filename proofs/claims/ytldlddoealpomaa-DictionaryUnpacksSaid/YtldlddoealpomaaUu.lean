/- Unpacks: sectors on both sides, the reference's Decode of run lengths, Unpack on both sides, the walk. -/
import Derived.Test.YtldlddoealpomaaJb
import Derived.Test.YtldlddoealpomaaLy
import Derived.Test.YtldlddoealpomaaGj
import Derived.Deep.DeepCutAuto
import Derived.Laws.CopyOwn
import Derived.Test.YtldlddoealpomaaMx
import Derived.Test.YtldlddoealpomaaSa
namespace Go.Proofs.Ytldlddoealpomaa.Rl
open Go.RowKit Go.Lib
theorem own_baseJ {w : World} {base base' E st n : Nat} {v : Value} {xs : List Value} (h : w.ownsRow base E st v n xs) (hb : base' ≤ base) : w.ownsRow base' E st v n xs :=
  ⟨h.1, h.2.imp id fun ⟨g, cap, cur, e, hg, r⟩ => ⟨g, cap, cur, e, by omega, r⟩⟩

theorem cG_len (l : List (Nat × Nat × Nat)) : (l.map cG).flatten.length = 3 * l.length := by
  induction l with
  | nil => rfl
  | cons a l ih => rw [List.map_cons, List.flatten_cons, List.length_append, ih, List.length_cons]; show 3 + _ = _; omega
theorem arr_of_grp {w : World} {base : Nat} {v : Value} {l : List (Nat × Nat × Nat)} (h : w.ownsRow base 87 3 v l.length (l.map cG).flatten) : Arr w v 3 (l.map cG) := by
  have h' : w.ownsRow base 87 3 v (l.map cG).length (l.map cG).flatten := by rw [List.length_map]; exact h
  exact arr_of_own h' rfl (fun r hr => by
    obtain ⟨s, _, rfl⟩ := List.mem_map.1 hr
    rfl)
theorem rgs_len (n : Nat) : ∀ (l : List Sect) (p : Nat), l.length ≤ n → (rgs p (grps l)).length ≤ l.length := by
  induction n with
  | zero => intro l p h; rw [List.eq_nil_of_length_eq_zero (Nat.le_zero.1 h), grps_nil]; exact Nat.le_refl _
  | succ n ih =>
    intro l p h
    by_cases h0 : l = []
    · subst h0; rw [grps_nil]; exact Nat.le_refl _
    · have hc := cnt_pos h0
      have hcl := cnt_le l
      rw [grps_cons h0, rgs, List.length_cons]
      have := ih (l.drop (cnt l)) (p + (knd l, l.take (cnt l)).2.length) (by rw [List.length_drop]; omega)
      rw [List.length_drop] at this
      omega
theorem own_len5 {w : World} {base n : Nat} {v : Value} {l : List Nat} (h : w.ownsRow base 5 1 v n (l.map byteV)) : l.length = n := by
  have := h.1
  rw [List.length_map] at this
  omega
theorem encG_body {l : List Sect} (h0 : l ≠ []) : encG l = enc (4 * cnt l + knd l) ++ (l.take (bodyN (knd l) (cnt l))).flatten := by
  have hc := cnt_pos h0
  unfold encG body bodyN
  split
  · rfl
  split
  · rw [List.take_take, Nat.min_eq_left hc]
  · simp

set_option maxHeartbeats 4000000 in
set_option maxRecDepth 100000 in
theorem refEncode_any (l : List Sect) (v : Value) (w : World) (hv : Sec w v l) (hl : l.length ≤ 5000) :
    Calls Try.prog 36 #[v] w (MadeO w (rl l)) := by
  have HV := hid hv
  obtain ⟨A, c, rfl⟩ := sec_form hv
  obtain ⟨n, hn⟩ : ∃ n, l.length = n := ⟨_, rfl⟩
  have HN := hid hn
  rw [hn] at HV hl ⊢
  have HC := hid (refGroups_any l _ w HV.out (by omega))
  clear hv hn
  go_enter Try.func36, Try.ntmps36
  go_wp2_with fail
  refine HC.out.mono ?_
  rintro e w1 ⟨v1, rfl, ho1, hb1⟩
  obtain ⟨gs, hgs⟩ : ∃ gs, rgs 0 (grps l) = gs := ⟨_, rfl⟩
  rw [hgs] at ho1
  obtain ⟨vA, vc, rfl⟩ := own_form59 ho1
  obtain ⟨N, hNl⟩ : ∃ N, gs.length = N := ⟨_, rfl⟩
  have hN1 : N ≤ 5000 := by have := rgs_len _ l 0 (Nat.le_refl _); rw [hgs, hNl, HN.out] at this; omega
  rw [hNl] at ho1 ⊢
  have HNL := hid hNl
  have HGS := hid hgs
  have HO1 := hid ho1
  have HB1 := hid hb1
  clear HC ho1 hb1 hNl hgs
  go_wp2_with fail
  go_loopw [3, 5] (fun v i wr => ∃ (j p m : Nat) (bs : List Nat), j ≤ N ∧ p ≤ n ∧ m ≤ 9 * p ∧ i = .int .i64 (j : Int) ∧ Hid (bs.length = m) ∧ Hid (gs.drop j = rgs p (grps (l.drop p))) ∧ Hid (rl l = bs ++ rl (l.drop p)) ∧ Hid (wr.ownsRow w.heap.size 5 1 v m (bs.map byteV)) ∧ Hid (wr.ownsRow w.heap.size 87 3 (.slice vA N vc) N (gs.map cG).flatten) ∧ Hid (Below w.heap.size w wr)) (fun _ i _ => N - (Lib.intOf i).toNat)
  case atStart => exact ⟨0, 0, 0, [], Nat.zero_le _, Nat.zero_le _, Nat.zero_le _, rfl, hid rfl, hid HGS.out.symm, hid rfl, hid (World.ownsRow_nil _ _ _ _), HO1, HB1⟩
  case round =>
    clear HO1 HB1
    obtain ⟨j, p, m, bs, hj, hp, hmp, rfl, HM, HR, HRL, HO, HG, HB⟩ := hrel
    obtain ⟨oA, oc, rfl⟩ := own_form HO.out
    by_cases hjn : j < N
    · have hjc : (j : Int) < (N : Int) := by omega
      have hpn : p < n := by
        rcases Nat.lt_or_ge p n with h | h
        · exact h
        · have h2 := HR.out
          rw [List.drop_of_length_le (show l.length ≤ p by rw [HN.out]; exact h), grps_nil] at h2
          have := congrArg List.length h2
          rw [List.length_drop, HNL.out] at this
          simp [rgs] at this
          omega
      have h0 : l.drop p ≠ [] := by intro e; have := congrArg List.length e; rw [List.length_drop, HN.out] at this; simp at this; omega
      have hnx := rgs_next (l := l) (k := p) (by rw [HN.out]; exact hpn)
      obtain ⟨kd, hkd⟩ : ∃ kd, knd (l.drop p) = kd := ⟨_, rfl⟩
      obtain ⟨ct, hct⟩ : ∃ ct, cnt (l.drop p) = ct := ⟨_, rfl⟩
      have hk2 : kd ≤ 2 := by rw [← hkd]; exact knd_le _
      have hc1 : 1 ≤ ct := by rw [← hct]; exact cnt_pos h0
      have hcn : p + ct ≤ n := by have := cnt_le (l.drop p); rw [hct, List.length_drop, HN.out] at this; omega
      have heG := encG_body h0
      have hrl := rl_cons h0
      rw [heG, hkd, hct, List.drop_drop] at hrl
      rw [hkd, hct] at hnx
      have hjl : j < gs.length := by rw [HNL.out]; exact hjn
      have hR := HR.out
      rw [hnx, List.drop_eq_getElem_cons hjl] at hR
      injection hR with hR1 hR2
      have hx : gs[j]? = some (kd, p, ct) := by rw [← hR1]; exact List.getElem?_eq_getElem hjl
      have HR2 := hid hR2
      have HRL2 : Hid (rl l = bs ++ ((enc (4 * ct + kd) ++ ((l.drop p).take (bodyN kd ct)).flatten) ++ rl (l.drop (p + ct)))) := hid (by rw [HRL.out, hrl])
      obtain ⟨A2, k2, e2, _, hcm2, b2, o2, hA2, hc2⟩ := arr_of_grp (l := gs) (by rw [HNL.out]; exact HG.out)
      rw [List.length_map, HNL.out] at e2 hA2
      injection e2 with e3 _ e4
      subst e3 e4
      have hvA := (hA2 (by omega)).1
      subst hvA
      have q0 : wr.cell? ⟨b2, o2 + j * 3 + 0, none⟩ = some (.int .i64 (kd : Int)) := hc2 j (cG (kd, p, ct)) (by rw [List.getElem?_map, hx]; rfl) 0 _ rfl
      have q1 : wr.cell? ⟨b2, o2 + j * 3 + 1, none⟩ = some (.int .i64 (p : Int)) := hc2 j (cG (kd, p, ct)) (by rw [List.getElem?_map, hx]; rfl) 1 _ rfl
      have q2 : wr.cell? ⟨b2, o2 + j * 3 + 2, none⟩ = some (.int .i64 (ct : Int)) := hc2 j (cG (kd, p, ct)) (by rw [List.getElem?_map, hx]; rfl) 2 _ rfl
      rw [Nat.add_zero] at q0
      have h8 : B8 bs := fun x hx => by
        have h := b8_rl _ l (Nat.le_refl _) HV.out.1
        rw [HRL.out] at h
        exact h x (List.mem_append_left _ hx)
      obtain ⟨W3, hW3⟩ : ∃ W3, wr.alloc (.cells #[.int .i64 (kd : Int), .int .i64 (p : Int), .int .i64 (ct : Int)] 87) = W3 := ⟨_, rfl⟩
      have hb3 : Below wr.heap.size wr W3 := by rw [← hW3]; exact al1 _ _
      have hx3 : W3.heap[wr.heap.size]? = some (.cells #[.int .i64 (kd : Int), .int .i64 (p : Int), .int .i64 (ct : Int)] 87) := by rw [← hW3]; exact heap_alloc_new wr _
      have HX3 := hid hx3
      have HB3 := hid (below_both HB.out hb3)
      have HG3 := hid (own_keep HG.out (keep_below hb3))
      have HO3 := hid (own_keep HO.out (keep_below hb3))
      have hP := rput_own (4 * (ct : Int) + (kd : Int)) bs (.slice oA m oc) W3 (byt_of_own HO3.out h8) (own_nilOk HO3.out) (by rw [HM.out]; omega)
      rw [cl_in (by omega) (by omega), show (4 * (ct : Int) + (kd : Int)).toNat = 4 * ct + kd by omega] at hP
      have HP := hid hP
      have c0 := cell_of_row _ _ 0 _ _ _ hx3
      have c1 := cell_of_row _ _ 1 _ _ _ hx3
      have c2 := cell_of_row _ _ 2 _ _ _ hx3
      have H8 := hid h8
      clear hP hx3 hb3 h8 hc2 hA2 hx hR1 hR2 hnx hrl heG hkd hct h0 hjl hcm2
      go_wp2_with fail
      refine HP.out.mono ?_
      rintro e w4 ⟨v4, rfl, ho4, hb4⟩
      obtain ⟨hh, hhe⟩ : ∃ hh, (enc (4 * ct + kd)).length = hh := ⟨_, rfl⟩
      have hh9 : 1 ≤ hh ∧ hh ≤ 8 := by rw [← hhe]; exact ⟨enc_pos _, enc_le8 (by unfold top; omega)⟩
      have hh1 : hh ≤ ct := by rw [← hhe]; exact head_le hc1 (by omega)
      have HLN : Hid ((bs ++ enc (4 * ct + kd)).length = m + hh) := hid (by rw [List.length_append, HM.out, hhe])
      rw [HLN.out] at ho4
      obtain ⟨p4, k4, rfl⟩ := own_form ho4
      have HO4 := hid (own_baseJ ho4 (show w.heap.size ≤ W3.heap.size from HB3.out.size))
      have HB4 := hid (below_both HB3.out hb4)
      have HG4 := hid (own_keep HG3.out (keep_below hb4))
      have hx4 := (hb4.block wr.heap.size (box_lt HX3.out)).trans HX3.out
      obtain ⟨g3, hg3⟩ : ∃ g, wr.heap.size = g := ⟨_, rfl⟩
      rw [hg3] at hx4 ⊢
      have HX4 := hid hx4
      have c4 := cell_of_row _ _ 0 _ _ _ hx4
      have c5 := cell_of_row _ _ 1 _ _ _ hx4
      have c6 := cell_of_row _ _ 2 _ _ _ hx4
      have hg3w : w.heap.size ≤ g3 := by rw [← hg3]; exact HB.out.size
      clear ho4 hb4 hx4 hg3 hhe HP c0 c1 c2 q0 q1 q2 HX3 HB3 HG3 HO3 HG HO HB hW3
      obtain ⟨nb, hnb⟩ : ∃ nb, bodyN kd ct = nb := ⟨_, rfl⟩
      have HNB := hid hnb
      have hnbc : nb ≤ ct := by rw [← hnb]; unfold bodyN; split; omega; split <;> omega
      have hk3 : kd = 0 ∨ kd = 1 ∨ kd = 2 := by omega
      clear hnb HNB hnbc hk2
      rcases hk3 with rfl | rfl | rfl
      · go_wp2_with fail
        go_loopw [3, 8] (fun v i wy => ∃ (a : Nat), a ≤ ct ∧ i = .int .i64 (a : Int) ∧ Hid (wy.ownsRow w.heap.size 5 1 v (m + hh + 8 * a) ((bs ++ enc (4 * ct + 0) ++ ((l.drop p).take a).flatten).map byteV)) ∧ Hid (wy.ownsRow w.heap.size 87 3 (.slice (some ⟨b2, o2, none⟩) N vc) N (gs.map cG).flatten) ∧ Hid (wy.heap[g3]? = some (.cells #[.int .i64 (0 : Nat), .int .i64 (p : Int), .int .i64 (ct : Int)] 87)) ∧ Hid (Below w.heap.size w wy)) (fun _ i _ => ct - (Lib.intOf i).toNat)
        case atStart => exact ⟨0, Nat.zero_le _, rfl, hid (by have h := HO4.out; rw [List.take_zero]; simpa using h), HG4, HX4, HB4⟩
        case round =>
          clear HO4 HG4 HX4 HB4 c4 c5 c6
          obtain ⟨a, ha, rfl, HOa, HGa, HXa, HBa⟩ := hrel
          obtain ⟨oA, oc, rfl⟩ := own_form HOa.out
          have hza := HBa.out.size
          by_cases haN : a < ct
          · have hac : (a : Int) < ((ct : Nat) : Int) := by omega
            have hpa : (p : Int) + (a : Int) < (n : Int) := by omega
            obtain ⟨y, hy⟩ : ∃ y, l[p + a]? = some y := ⟨l[p + a]'(by rw [HN.out]; omega), List.getElem?_eq_getElem _⟩
            have hyo := HV.out.1 y (List.mem_of_getElem? hy)
            have HTK : Hid (((l.drop p).take (a + 1)).flatten = ((l.drop p).take a).flatten ++ y) := hid (by
              have h : (l.drop p)[a]? = some y := by rw [List.getElem?_drop]; exact hy
              obtain ⟨hlt, rfl⟩ := List.getElem?_eq_some_iff.1 h
              rw [List.take_succ_eq_append_getElem hlt, List.flatten_append]; simp)
            have hlen : 0 < l.length := by rw [HN.out]; omega
            obtain ⟨pb, po, pc, e, pcap, pcm, pbl, psc⟩ := sec_at HV.out (fun e => by rw [e] at hlen; simp at hlen)
            rw [HN.out] at e pcap
            injection e with e1 _ e2
            subst e1 e2
            unfold maxLen at pcm
            have s2 := (psc (p + a) y hy).below pbl HBa.out
            have hy8 := hyo.2
            clear hy psc hlen
            obtain ⟨y0, y1, y2, y3, y4, y5, y6, y7, rfl⟩ := list8 hyo.1
            obtain ⟨r0, r1, r2, r3, r4, r5, r6, r7⟩ := s2.facts
            have c5 := cell_of_row _ _ 1 _ _ _ HXa.out
            have HBW := hid (al1 wr (.cells #[.int .u8 (y0 : Int), .int .u8 (y1 : Int), .int .u8 (y2 : Int), .int .u8 (y3 : Int), .int .u8 (y4 : Int), .int .u8 (y5 : Int), .int .u8 (y6 : Int), .int .u8 (y7 : Int)] 44))
            have HOw := hid (own_keep HOa.out (keep_below HBW.out))
            clear s2 hyo
            go_wp2_with (at_builtin; refine append_byt rfl (.tmp 50) (.tmp 51) rfl w.heap.size _ (m + hh + 8 * a) _ rfl HOw.out [y0, y1, y2, y3, y4, y5, y6, y7] _ rfl (byt_cells (s := [y0, y1, y2, y3, y4, y5, y6, y7]) hy8 rfl (heap_alloc_new wr _)) (nilOk_some _ _ _) (by simp; omega) (by simp; omega) ?_; intro v5 w5 hown5 hg5; obtain ⟨a5, k5, rfl⟩ := own_form hown5; have HO5 := hid hown5; have HG5 := hid hg5; clear hown5 hg5)
            have HKP := hid ((keep_below (T := 87) HBW.out).trans (keep_grown HOw.out (by decide) HG5.out))
            have HB5 := hid ((HBa.out.alloc hza (.cells #[.int .u8 (y0 : Int), .int .u8 (y1 : Int), .int .u8 (y2 : Int), .int .u8 (y3 : Int), .int .u8 (y4 : Int), .int .u8 (y5 : Int), .int .u8 (y6 : Int), .int .u8 (y7 : Int)] 44)).grown HG5.out (by simp; omega) (fun k e => (HOw.out.lt k e).1))
            go_roundw
            case rel => exact ⟨a + 1, by omega, by go_num, hid (by rw [HTK.out, ← List.append_assoc, List.map_append, show m + hh + 8 * (a + 1) = m + hh + 8 * a + 8 by omega]; exact HO5.out), hid (own_keep HGa.out HKP.out), hid (HKP.out _ _ HXa.out), HB5⟩
            case measure => simp [Lib.intOf]; omega
          · obtain rfl : a = ct := by omega
            have HRL3 : Hid (rl l = (bs ++ enc (4 * a + 0) ++ ((l.drop p).take a).flatten) ++ rl (l.drop (p + a))) := hid (by rw [HRL2.out]; simp [bodyN])
            go_wp2_with fail
            go_roundw
            case rel => exact ⟨j + 1, p + a, m + hh + 8 * a, _, by omega, by omega, by omega, by go_num, hid (own_len5 HOa.out), HR2, HRL3, HOa, HGa, HBa⟩
            case measure => simp [Lib.intOf]; omega
      · go_wp2_with fail
        go_loopw [3, 8] (fun v i wy => ∃ (a : Nat), a ≤ 1 ∧ i = .int .i64 (a : Int) ∧ Hid (wy.ownsRow w.heap.size 5 1 v (m + hh + 8 * a) ((bs ++ enc (4 * ct + 1) ++ ((l.drop p).take a).flatten).map byteV)) ∧ Hid (wy.ownsRow w.heap.size 87 3 (.slice (some ⟨b2, o2, none⟩) N vc) N (gs.map cG).flatten) ∧ Hid (wy.heap[g3]? = some (.cells #[.int .i64 (1 : Nat), .int .i64 (p : Int), .int .i64 (ct : Int)] 87)) ∧ Hid (Below w.heap.size w wy)) (fun _ i _ => 1 - (Lib.intOf i).toNat)
        case atStart => exact ⟨0, Nat.zero_le _, rfl, hid (by have h := HO4.out; rw [List.take_zero]; simpa using h), HG4, HX4, HB4⟩
        case round =>
          clear HO4 HG4 HX4 HB4 c4 c5 c6
          obtain ⟨a, ha, rfl, HOa, HGa, HXa, HBa⟩ := hrel
          obtain ⟨oA, oc, rfl⟩ := own_form HOa.out
          have hza := HBa.out.size
          by_cases haN : a < 1
          · have hac : (a : Int) < ((1 : Nat) : Int) := by omega
            have hpa : (p : Int) + (a : Int) < (n : Int) := by omega
            obtain ⟨y, hy⟩ : ∃ y, l[p + a]? = some y := ⟨l[p + a]'(by rw [HN.out]; omega), List.getElem?_eq_getElem _⟩
            have hyo := HV.out.1 y (List.mem_of_getElem? hy)
            have HTK : Hid (((l.drop p).take (a + 1)).flatten = ((l.drop p).take a).flatten ++ y) := hid (by
              have h : (l.drop p)[a]? = some y := by rw [List.getElem?_drop]; exact hy
              obtain ⟨hlt, rfl⟩ := List.getElem?_eq_some_iff.1 h
              rw [List.take_succ_eq_append_getElem hlt, List.flatten_append]; simp)
            have hlen : 0 < l.length := by rw [HN.out]; omega
            obtain ⟨pb, po, pc, e, pcap, pcm, pbl, psc⟩ := sec_at HV.out (fun e => by rw [e] at hlen; simp at hlen)
            rw [HN.out] at e pcap
            injection e with e1 _ e2
            subst e1 e2
            unfold maxLen at pcm
            have s2 := (psc (p + a) y hy).below pbl HBa.out
            have hy8 := hyo.2
            clear hy psc hlen
            obtain ⟨y0, y1, y2, y3, y4, y5, y6, y7, rfl⟩ := list8 hyo.1
            obtain ⟨r0, r1, r2, r3, r4, r5, r6, r7⟩ := s2.facts
            have c5 := cell_of_row _ _ 1 _ _ _ HXa.out
            have HBW := hid (al1 wr (.cells #[.int .u8 (y0 : Int), .int .u8 (y1 : Int), .int .u8 (y2 : Int), .int .u8 (y3 : Int), .int .u8 (y4 : Int), .int .u8 (y5 : Int), .int .u8 (y6 : Int), .int .u8 (y7 : Int)] 44))
            have HOw := hid (own_keep HOa.out (keep_below HBW.out))
            clear s2 hyo
            go_wp2_with (at_builtin; refine append_byt rfl (.tmp 50) (.tmp 51) rfl w.heap.size _ (m + hh + 8 * a) _ rfl HOw.out [y0, y1, y2, y3, y4, y5, y6, y7] _ rfl (byt_cells (s := [y0, y1, y2, y3, y4, y5, y6, y7]) hy8 rfl (heap_alloc_new wr _)) (nilOk_some _ _ _) (by simp; omega) (by simp; omega) ?_; intro v5 w5 hown5 hg5; obtain ⟨a5, k5, rfl⟩ := own_form hown5; have HO5 := hid hown5; have HG5 := hid hg5; clear hown5 hg5)
            have HKP := hid ((keep_below (T := 87) HBW.out).trans (keep_grown HOw.out (by decide) HG5.out))
            have HB5 := hid ((HBa.out.alloc hza (.cells #[.int .u8 (y0 : Int), .int .u8 (y1 : Int), .int .u8 (y2 : Int), .int .u8 (y3 : Int), .int .u8 (y4 : Int), .int .u8 (y5 : Int), .int .u8 (y6 : Int), .int .u8 (y7 : Int)] 44)).grown HG5.out (by simp; omega) (fun k e => (HOw.out.lt k e).1))
            go_roundw
            case rel => exact ⟨a + 1, by omega, by go_num, hid (by rw [HTK.out, ← List.append_assoc, List.map_append, show m + hh + 8 * (a + 1) = m + hh + 8 * a + 8 by omega]; exact HO5.out), hid (own_keep HGa.out HKP.out), hid (HKP.out _ _ HXa.out), HB5⟩
            case measure => simp [Lib.intOf]; omega
          · obtain rfl : a = 1 := by omega
            have HRL3 : Hid (rl l = (bs ++ enc (4 * ct + 1) ++ ((l.drop p).take (1)).flatten) ++ rl (l.drop (p + ct))) := hid (by rw [HRL2.out]; simp [bodyN])
            go_wp2_with fail
            go_roundw
            case rel => exact ⟨j + 1, p + ct, m + hh + 8 * 1, _, by omega, by omega, by omega, by go_num, hid (own_len5 HOa.out), HR2, HRL3, HOa, HGa, HBa⟩
            case measure => simp [Lib.intOf]; omega
      · go_wp2_with fail
        go_loopw [3, 8] (fun v i wy => ∃ (a : Nat), a ≤ 0 ∧ i = .int .i64 (a : Int) ∧ Hid (wy.ownsRow w.heap.size 5 1 v (m + hh + 8 * a) ((bs ++ enc (4 * ct + 2) ++ ((l.drop p).take a).flatten).map byteV)) ∧ Hid (wy.ownsRow w.heap.size 87 3 (.slice (some ⟨b2, o2, none⟩) N vc) N (gs.map cG).flatten) ∧ Hid (wy.heap[g3]? = some (.cells #[.int .i64 (2 : Nat), .int .i64 (p : Int), .int .i64 (ct : Int)] 87)) ∧ Hid (Below w.heap.size w wy)) (fun _ i _ => 0 - (Lib.intOf i).toNat)
        case atStart => exact ⟨0, Nat.zero_le _, rfl, hid (by have h := HO4.out; rw [List.take_zero]; simpa using h), HG4, HX4, HB4⟩
        case round =>
          clear HO4 HG4 HX4 HB4 c4 c5 c6
          obtain ⟨a, ha, rfl, HOa, HGa, HXa, HBa⟩ := hrel
          obtain ⟨oA, oc, rfl⟩ := own_form HOa.out
          have hza := HBa.out.size
          by_cases haN : a < 0
          · exact absurd haN (by omega)
          · obtain rfl : a = 0 := by omega
            have HRL3 : Hid (rl l = (bs ++ enc (4 * ct + 2) ++ ((l.drop p).take (0)).flatten) ++ rl (l.drop (p + ct))) := hid (by rw [HRL2.out]; simp [bodyN])
            go_wp2_with fail
            go_roundw
            case rel => exact ⟨j + 1, p + ct, m + hh + 8 * 0, _, by omega, by omega, by omega, by go_num, hid (own_len5 HOa.out), HR2, HRL3, HOa, HGa, HBa⟩
            case measure => simp [Lib.intOf]; omega
    · obtain rfl : j = N := by omega
      have hd : rl (l.drop p) = [] := by
        have h := HR.out
        rw [List.drop_of_length_le (by rw [HNL.out]; omega)] at h
        by_cases h0 : l.drop p = []
        · rw [h0, rl_nil]
        · rw [grps_cons h0] at h; cases h
      have HE : Hid (rl l = bs) := hid (by rw [HRL.out, hd, List.append_nil])
      clear hd
      go_wp2
      go_ret
      exact ⟨_, rfl, by rw [HE.out, HM.out]; exact HO.out, HB.out⟩
end Go.Proofs.Ytldlddoealpomaa.Rl

namespace Go.Proofs.Ytldlddoealpomaa.Rl
open Go.RowKit Go.Lib

theorem append_secs {ops : Array Oper} {rest : List Oper} {o : Oper} {a : Act} {w : World} {Q : Exit → Act → World → Prop} (hgd : o.guard = none) (s x : Operand) (ho : o.op = .call { callee := .builtin .append, args := #[s, x], argTypes := #[33, 33] })
    (base : Nat) (v : Value) (n : Nat) (olds : List Value) (hs : a.eval s = v) (hown : w.ownsRow base 44 8 v n olds) (l : List Sect) (ad : Addr) (m c : Nat) (hm : l.length = m) (hl : Secs l) (hx : a.eval x = .slice (some ad) m c)
    (hc : ∀ j u, (l.map cSec).flatten[j]? = some u → w.cell? (ad.add j) = some u) (b1 : n + m ≤ 100000000) (hbase : base ≤ w.heap.size)
    (h : ∀ v' w', w'.ownsRow base 44 8 v' (n + m) (olds ++ (l.map cSec).flatten) → w.grownBy w' v.ownBlock → wpList Try.prog ops Q rest (a.put o.dst v') w') : wpList Try.prog ops Q (o :: rest) a w := by
  obtain ⟨i0, hi, hz0, hz1, hz2⟩ := info_parts info41
  exact wpList_append_own w hgd s x 33 ho base 44 i0 _ 8 8 Try.underlying33 hi hz0 hz1 hz2 rfl (by decide) v n olds hs hown ad m c _ hx (by rw [flat_cells hl]; omega) hc (cells_one l) (by unfold maxLen; omega) (by omega) hbase (fun v' w' h1 h2 _ => h v' w' h1 h2)
theorem run_slice_mid (A : Option Addr) (n c lo hi : Nat) (x y : Int) (hx : x = (lo : Int)) (hy : y = (hi : Int)) (h1 : lo ≤ hi) (h2 : hi ≤ c) (W : World) : (Instr.slice 22 (.slice A n c) (some (.int .i64 x)) (some (.int .i64 y)) none).run Try.prog W = .ok (.slice (fromA A c lo) (hi - lo) (c - lo)) W := by
  subst hx hy
  simp [Instr.slice, run_underlying Try.underlying22, Instr.sliceBounds, Sem.run_bind, run_sliceBound_if, fromA, h1, h2]
theorem splice_all (zs cs : List Value) (h : zs.length = cs.length) : splice zs 0 cs = cs := by
  unfold splice
  rw [List.drop_of_length_le (by omega)]
  simp
theorem size5' : (Try.prog.info? 5).map (·.size) = some 1 := by kernel_rfl
theorem fromA_at {A : Option Addr} {b off c k : Nat} (hA : A = some ⟨b, off, none⟩) (hk : k < c) : fromA A c k = some ⟨b, off + k, none⟩ := by
  unfold fromA
  rw [if_neg (by omega), hA]
  simp [Addr.add]
/-- Eight bytes out of a row. -/
theorem eight_at {w : World} {A : Option Addr} {n c k : Nat} {u : List Nat} (h : Byt w (.slice A n c) u) (hk : k + 8 ≤ u.length) : ∃ b off, A = some ⟨b, off, none⟩ ∧ ∀ (j : Nat) (v : Value), (cSec ((u.drop k).take 8))[j]? = some v → w.cell? ((⟨b, off + k, none⟩ : Addr).add j) = some v := by
  obtain ⟨b, off, hA, _, hc⟩ := byt_at h (by omega)
  refine ⟨b, off, hA, fun j v hj => ?_⟩
  unfold cSec at hj
  rw [List.getElem?_map] at hj
  obtain ⟨x, hx, rfl⟩ := Option.map_eq_some_iff.1 hj
  have e : (⟨b, off + k, none⟩ : Addr).add j = ⟨b, off + (k + j), none⟩ := by unfold Addr.add; split <;> simp_all [Nat.add_assoc]
  rw [e]
  refine hc _ _ ?_
  rw [List.getElem?_take] at hx
  split at hx
  · rwa [List.getElem?_drop] at hx
  · cases hx
theorem eight_sec {u : List Nat} {k : Nat} (h8 : B8 u) (hk : k + 8 ≤ u.length) : ((u.drop k).take 8).length = 8 ∧ B8 ((u.drop k).take 8) :=
  ⟨by rw [List.length_take, List.length_drop]; omega, fun x hx => h8 x (List.mem_of_mem_drop (List.mem_of_mem_take hx))⟩
theorem secs_one {s : Sect} (h : s.length = 8 ∧ B8 s) : Secs [s] := fun t ht => by rw [List.mem_singleton] at ht; subst ht; exact h
set_option maxHeartbeats 2000000 in
set_option maxRecDepth 100000 in
theorem rsame_any (a b : List Nat) (v u : Value) (w : World) (hv : Byt w v a) (hu : Byt w u b) :
    Calls Try.prog 58 #[v, u] w (Says (decide (a = b)) w) := by
  obtain ⟨A, c, rfl⟩ := byt_form hv
  obtain ⟨C, d, rfl⟩ := byt_form hu
  have e1 := byt_conv hv
  have e2 := byt_conv hu
  have e3 := str_eq hv.1 hu.1
  obtain ⟨s, hs⟩ : ∃ s, strOfNums (ints a) = s := ⟨_, rfl⟩
  obtain ⟨t, ht⟩ : ∃ t, strOfNums (ints b) = t := ⟨_, rfl⟩
  obtain ⟨q, hq⟩ : ∃ q, decide (a = b) = q := ⟨_, rfl⟩
  rw [hs] at e1 e3
  rw [ht] at e2 e3
  rw [hq] at e3 ⊢
  clear hs ht hq hv hu
  go_enter Try.func58, Try.ntmps58
  go_wp2
  go_ret
  exact ⟨rfl, rfl⟩
theorem zs_sec : zs.length = 8 ∧ B8 zs := ⟨rfl, fun x hx => by simp [zs] at hx; omega⟩

theorem run_slice_fromI (A : Option Addr) (n c k : Nat) (x : Int) (hx : x = (k : Int)) (hk : k ≤ n) (W : World) : (Instr.slice 22 (.slice A n c) (some (.int .i64 x)) none none).run Try.prog W = .ok (.slice (fromA A c k) (n - k) (c - k)) W := by
  subst hx
  exact run_slice_from A n c k hk W
theorem rest_nilOk {A : Option Addr} {n c : Nat} (h : NilOk (.slice A n c)) (k m : Nat) : NilOk (.slice (fromA A c k) m (c - k)) := by
  rcases A with _ | a
  · have hc := h _ _ rfl
    subst hc
    intro n' c' h
    injection h with _ _ h3
    omega
  · intro n' c' h
    injection h with h1
    unfold fromA at h1
    split at h1 <;> cases h1
set_option maxHeartbeats 8000000 in
set_option maxRecDepth 100000 in
theorem refDecode_any (b : List Nat) (v : Value) (most : Int) (w : World) (hv : Byt w v b) (hn : NilOk v) (hl : b.length ≤ 90000) :
    Calls Try.prog 40 #[v, .int .i64 most] w (DecQ w b (capm most)) := by
  obtain ⟨A, c, rfl⟩ := byt_form hv
  have HV := hid hv
  have HN := hid hn
  clear hv hn
  have hcap : max 0 (min most 4096) = ((capm most : Nat) : Int) := by unfold capm; omega
  have hM4 : capm most ≤ 4096 := by unfold capm; omega
  obtain ⟨M, hM⟩ : ∃ M, capm most = M := ⟨_, rfl⟩
  rw [hM] at hcap hM4 ⊢
  have HCAP := hid hcap
  clear hM hcap
  go_enter Try.func40, Try.ntmps40
  go_wp2_with fail
  rw [HCAP.out]
  clear HCAP
  go_loopw [6, 7] (fun ov tv wr => ∃ (l : List Sect) (t : List Nat) (tA : Option Addr) (tc : Nat), t.length ≤ 90000 ∧ l.length ≤ M ∧ tv = .slice tA t.length tc ∧ Hid (Byt wr (.slice tA t.length tc) t) ∧ Hid (NilOk (.slice tA t.length tc)) ∧ Hid (Secs l) ∧ Hid (dA M [] b = dA M l t) ∧ Hid (wr.ownsRow w.heap.size 44 8 ov l.length (l.map cSec).flatten) ∧ Hid (Below w.heap.size w wr)) (fun _ tv _ => match tv with | .slice _ n _ => n | _ => 0)
  case atStart => exact ⟨[], b, A, c, hl, Nat.zero_le _, rfl, HV, HN, hid (fun s h => by cases h), hid rfl, hid (World.ownsRow_nil _ _ _ _), hid (Below.refl _ _)⟩
  case round =>
    obtain ⟨l, t, tA, tc, htl, hlm, rfl, HT, HTN, HS, HD, HO, HB⟩ := hrel
    obtain ⟨lA, lc, rfl⟩ := own_form41 HO.out
    by_cases h0 : t = []
    · subst h0
      have HE := hid (refEncode_any l _ wr (sec_of_own HO.out HS.out) (by omega))
      have H8 := hid (b8_rl _ l (Nat.le_refl _) HS.out)
      have HDC : Hid (dA M [] b = .ok l) := hid (by rw [HD.out]; exact dA_nil _ _)
      obtain ⟨L, hL⟩ : ∃ L, l.length = L := ⟨_, rfl⟩
      have HL := hid hL
      rw [hL] at HE HO ⊢
      clear hL hlm
      go_wp2_with fail
      refine HE.out.mono ?_
      rintro e w4 ⟨v4, rfl, ho4, hb4⟩
      have HB4 := hid (below_both HB.out hb4)
      have HQ := hid (rsame_any (rl l) b v4 (.slice A b.length c) w4 (byt_of_own ho4 H8.out) (HV.out.below HB4.out))
      have HO4 := hid (own_keep HO.out (keep_below hb4))
      obtain ⟨eA, ec, rfl⟩ := own_form ho4
      clear ho4 hb4
      go_wp2_with fail
      refine HQ.out.mono ?_
      rintro e w5 ⟨rfl, rfl⟩
      by_cases heq : rl l = b
      · rw [decide_eq_true heq]
        have HDD : Hid (dec M b = .ok l) := hid (by unfold dec; rw [HDC.out]; exact if_pos heq)
        clear HQ heq
        go_wp2
        refine bodyPost_ret (v := .tuple #[.slice lA L lc, .int .i64 0]) (by simp [results, Try.results40, go_sem]) rfl ?_
        exact ⟨HB4.out, .inl ⟨l, _, HDD.out, rfl, HS.out, by rw [HL.out]; exact HO4.out⟩⟩
      · rw [decide_eq_false heq]
        have HDD : Hid (dec M b = .error 3) := hid (by unfold dec; rw [HDC.out]; exact if_neg heq)
        clear HQ heq
        go_wp2
        refine bodyPost_ret (v := .tuple #[.slice none 0 0, .int .i64 3]) (by simp [results, Try.results40, go_sem]) rfl ?_
        exact ⟨HB4.out, .inr ⟨3, HDD.out, rfl⟩⟩
    · have htp : (0 : Int) < (t.length : Int) := by have := List.length_pos_iff.2 h0; omega
      have HC := hid (rint t _ wr HT.out HTN.out htl)
      have H0 := hid h0
      have HERR : Hid (∀ er, dGrp (M - l.length) t = .error er → dec M b = .error er) := hid (fun er h => by unfold dec; rw [HD.out, dA_err h0 h])
      have HOK : Hid (∀ gl t', dGrp (M - l.length) t = .ok (gl, t') → dA M [] b = dA M (l ++ gl) t' ∧ t'.length < t.length) := hid (fun gl t' h => ⟨by rw [HD.out, dA_ok h0 h], (dGrp_inv h).1⟩)
      have HT8 := hid HT.out.1
      obtain ⟨L, hL⟩ : ∃ L, l.length = L := ⟨_, rfl⟩
      have HL := hid hL
      rw [hL] at HO HERR HOK hlm ⊢
      obtain ⟨TL, hTL⟩ : ∃ TL, t.length = TL := ⟨_, rfl⟩
      have HTL := hid hTL
      rw [hTL] at HC HT HTN htp htl HOK ⊢
      clear hL h0 HD hTL
      go_wp2_with fail
      refine HC.out.mono ?_
      rintro e w1 h
      clear HC
      rcases hd : dNum t with er | ⟨x, u⟩
      · obtain ⟨rfl, hb1, hne⟩ := red_err h hd
        have HB1 := hid (below_both HB.out hb1)
        have HE : Hid (dec M b = .error er) := hid (HERR.out er (by unfold dGrp; rw [hd]))
        have d1 : (er != 0) = true := by simpa using hne
        clear h hd hb1 hne
        go_wp2
        refine bodyPost_ret (v := .tuple #[.slice none 0 0, .int .i64 er]) (by simp [results, Try.results40, go_sem]) rfl ?_
        exact ⟨HB1.out, .inr ⟨er, HE.out, rfl⟩⟩
      · obtain ⟨_, r, rfl, hb1, rfl, hu8, ub, huo⟩ := red_ok h hd
        have HD := hid hd
        have hx53 : x ≤ 9007199254740991 := (num_code.once t x u HT8.out hd).2
        have HB1 := hid (below_both HB.out hb1)
        have HO1 := hid (own_keep HO.out (keep_below hb1))
        obtain ⟨rA, rc, rfl⟩ := own_form huo
        have HU1 := hid (own_base huo (Nat.zero_le _))
        have hul : u.length < 90000 := by have := dNum_lt hd; have := HTL.out; omega
        obtain ⟨R, hR⟩ : ∃ R, u.length = R := ⟨_, rfl⟩
        have HRL := hid hR
        rw [hR] at HU1 hul ⊢
        have hrc : R ≤ rc := by have h := byt_cap (byt_of_own HU1.out hu8); rw [hR] at h; exact h
        have hrcm : rc ≤ 9223372036854775807 := by
          obtain ⟨_, A', c', e1, _, h2, _⟩ := byt_of_own HU1.out hu8
          injection e1 with _ _ e3
          subst e3
          unfold maxLen at h2
          exact h2
        have HU8 := hid hu8
        obtain ⟨q, hq⟩ : ∃ q, x / 4 = q := ⟨_, rfl⟩
        obtain ⟨r, hrr⟩ : ∃ r, x % 4 = r := ⟨_, rfl⟩
        have HQ := hid hq
        have HRR := hid hrr
        have he1 : (x : Int) % 4 = (r : Int) := by omega
        have he2 : (x : Int) / 4 = (q : Int) := by omega
        have hx0 : (0 : Int) ≤ (x : Int) := by omega
        have hr4 : r < 4 := by omega
        have hq53 : q ≤ 9007199254740991 := by omega
        clear h hd hb1 huo hR hu8 hq hrr HO HB HT HTN
        by_cases hbad : 2 < r ∨ q = 0
        · have HE : Hid (dec M b = .error 3) := hid (HERR.out 3 (by unfold dGrp; rw [HD.out]; simp only; rw [HQ.out, HRR.out, if_pos hbad]))
          rcases Nat.lt_or_ge 2 r with h2 | h2
          · obtain rfl : r = 3 := by omega
            clear hbad h2
            go_wp2
            refine bodyPost_ret (v := .tuple #[.slice none 0 0, .int .i64 3]) (by simp [results, Try.results40, go_sem]) rfl ?_
            exact ⟨HB1.out, .inr ⟨3, HE.out, rfl⟩⟩
          · obtain rfl : q = 0 := by omega
            have d1 : ((r : Int) == 3) = false := by rw [beq_eq_false_iff_ne]; omega
            clear hbad h2
            go_wp2
            refine bodyPost_ret (v := .tuple #[.slice none 0 0, .int .i64 3]) (by simp [results, Try.results40, go_sem]) rfl ?_
            exact ⟨HB1.out, .inr ⟨3, HE.out, rfl⟩⟩
        · have d1 : ((r : Int) == 3) = false := by rw [beq_eq_false_iff_ne]; omega
          have d2 : ((q : Int) == 0) = false := by rw [beq_eq_false_iff_ne]; omega
          have hq0 : 0 < q := by omega
          have hr2 : r = 0 ∨ r = 1 ∨ r = 2 := by omega
          by_cases hlong : M - L < q
          · have HE : Hid (dec M b = .error 5) := hid (HERR.out 5 (by unfold dGrp; rw [HD.out]; simp only; rw [HQ.out, HRR.out, if_neg hbad, if_pos hlong]))
            have d3 : decide ((M : Int) - (L : Int) < (q : Int)) = true := by simp; omega
            clear hbad hlong hr2
            go_wp2
            refine bodyPost_ret (v := .tuple #[.slice none 0 0, .int .i64 5]) (by simp [results, Try.results40, go_sem]) rfl ?_
            exact ⟨HB1.out, .inr ⟨5, HE.out, rfl⟩⟩
          · have d3 : decide ((M : Int) - (L : Int) < (q : Int)) = false := by simp; omega
            have hqM : L + q ≤ M := by omega
            have HBAD := hid hbad
            have HLG := hid hlong
            clear hbad hlong
            rcases hr2 with hr | hr | hr
            · have HRR : Hid (x % 4 = 0) := hid (by rw [HRR.out, hr])
              have HBAD : Hid (¬(2 < 0 ∨ q = 0)) := hid (by have h := HBAD.out; rw [hr] at h; exact h)
              have dk0 : ((r : Int) == 0) = true := by rw [hr]; rfl
              have dk1 : ((r : Int) == 1) = false := by rw [hr]; rfl
              clear hr
              by_cases hfit : R < 8 * q
              · have HE : Hid (dec M b = .error 10) := hid (HERR.out 10 (by unfold dGrp; rw [HD.out]; simp only; rw [HQ.out, HRR.out, if_neg HBAD.out, if_neg HLG.out, if_neg (by decide), if_neg (by decide), if_pos (by rw [HRL.out]; exact hfit)]))
                have d4 : decide ((R : Int) < (q : Int) * 8) = true := by simp; omega
                clear hfit
                go_wp2
                refine bodyPost_ret (v := .tuple #[.slice none 0 0, .int .i64 10]) (by simp [results, Try.results40, go_sem]) rfl ?_
                exact ⟨HB1.out, .inr ⟨10, HE.out, rfl⟩⟩
              · have HG : Hid (dGrp (M - L) t = .ok (chk q u, u.drop (8 * q))) := hid (by unfold dGrp; rw [HD.out]; simp only; rw [HQ.out, HRR.out, if_neg HBAD.out, if_neg HLG.out, if_neg (by decide), if_neg (by decide), if_neg (by rw [HRL.out]; exact hfit)])
                have d4 : decide ((R : Int) < (q : Int) * 8) = false := by simp; omega
                have hfit2 : 8 * q ≤ R := by omega
                clear hfit
                go_wp2_with fail
                rw [he1]
                go_loopw [6, 14] (fun v i wy => ∃ (a : Nat), a ≤ q ∧ i = .int .i64 (a : Int) ∧ Hid (wy.ownsRow w.heap.size 44 8 v (L + a) ((l ++ chk a u).map cSec).flatten) ∧ Hid (wy.ownsRow 0 5 1 (.slice rA R rc) R (u.map byteV)) ∧ Hid (Below w.heap.size w wy)) (fun _ i _ => q - (Lib.intOf i).toNat)
                case atStart => exact ⟨0, Nat.zero_le _, rfl, hid (by rw [show chk 0 u = [] from rfl, List.append_nil]; exact HO1.out), HU1, HB1⟩
                case round =>
                  clear HO1 HU1 HB1
                  obtain ⟨a, ha, rfl, HOa, HUa, HBa⟩ := hrel
                  obtain ⟨oA, oc, rfl⟩ := own_form41 HOa.out
                  have hza := HBa.out.size
                  by_cases haN : a < q
                  · have hac : (a : Int) < (q : Int) := by omega
                    have hsec : ((u.drop (8 * a)).take 8).length = 8 ∧ B8 ((u.drop (8 * a)).take 8) := eight_sec HU8.out (by rw [HRL.out]; omega)
                    obtain ⟨y, hy⟩ : ∃ y, (u.drop (8 * a)).take 8 = y := ⟨_, rfl⟩
                    have HST : Hid (((l ++ chk (a + 1) u).map cSec).flatten = ((l ++ chk a u).map cSec).flatten ++ ([y].map cSec).flatten) := hid (by rw [chk_snoc, ← hy]; simp)
                    rw [hy] at hsec
                    have HSEC := hid (secs_one hsec)
                    have hy8 := hid hsec.2
                    obtain ⟨gL, hgL⟩ : ∃ gL, ((l ++ chk a u).map cSec).flatten = gL := ⟨_, rfl⟩
                    rw [hgL] at HOa HST
                    clear hgL
                    obtain ⟨pb, po, hpA, hpc⟩ := eight_at (k := 8 * a) (byt_of_own HUa.out HU8.out) (by rw [HRL.out]; omega)
                    rw [show (u.drop (8 * a)).take 8 = y from hy] at hpc
                    subst hpA
                    have hSL := fun (W : World) => run_slice_mid (some ⟨pb, po, none⟩) R rc (8 * a) (8 * (a + 1)) ((a : Int) * 8) (((a : Int) + 1) * 8) (by omega) (by omega) (by omega) (by omega) W
                    rw [fromA_at rfl (show 8 * a < rc by omega), show 8 * (a + 1) - 8 * a = 8 by omega] at hSL
                    obtain ⟨cc, hcc⟩ : ∃ cc, rc - 8 * a = cc := ⟨_, rfl⟩
                    rw [hcc] at hSL
                    obtain ⟨pp, hpp⟩ : ∃ pp, po + 8 * a = pp := ⟨_, rfl⟩
                    rw [hpp] at hSL hpc
                    have e1 : IntKind.i64.wrap ((a : Int) * 8) = (a : Int) * 8 := IntWalk.i64_in _ (by omega)
                    have e2 : IntKind.i64.wrap ((a : Int) + 1) = (a : Int) + 1 := IntWalk.i64_in _ (by omega)
                    have e3 : IntKind.i64.wrap (((a : Int) + 1) * 8) = ((a : Int) + 1) * 8 := IntWalk.i64_in _ (by omega)
                    have HPC := hid hpc
                    have hylen := hid hsec.1
                    have HX := hid (heap_alloc_new wr (.cells #[.int .u8 0, .int .u8 0, .int .u8 0, .int .u8 0, .int .u8 0, .int .u8 0, .int .u8 0, .int .u8 0] 44))
                    have HAL := hid (al1 wr (.cells #[.int .u8 0, .int .u8 0, .int .u8 0, .int .u8 0, .int .u8 0, .int .u8 0, .int .u8 0, .int .u8 0] 44))
                    have hpl : pb < wr.heap.size := by rcases byt_at (byt_of_own HUa.out HU8.out) (by rw [HRL.out]; omega) with ⟨b1, o1, e, h, _⟩; injection e with e; injection e with e; rw [e]; exact h
                    have HPC2 : Hid (∀ (j : Nat) (v : Value), (cSec y)[j]? = some v → (wr.alloc (.cells #[.int .u8 0, .int .u8 0, .int .u8 0, .int .u8 0, .int .u8 0, .int .u8 0, .int .u8 0, .int .u8 0] 44)).drew.cell? ((⟨pb, pp, none⟩ : Addr).add j) = some v) := hid (fun j v hj => (HAL.out.cell (p := (⟨pb, pp, none⟩ : Addr).add j) (by rw [show (⟨pb, pp, none⟩ : Addr).add j = ⟨pb, pp + j, none⟩ by unfold Addr.add; split <;> simp_all]; exact hpl)).trans (HPC.out j v hj))
                    clear hpc hcc hpp hy hsec hpl
                    go_wp2_with fail
                    go_region_law (refine step_copy_splice rfl (.tmp 66) (.tmp 73) 22 22 rfl 5 Try.underlying22 size5' (some ⟨wr.heap.size, 0, none⟩) (some ⟨pb, pp, none⟩) 8 8 8 cc (by simp [Act.eval, Act.put]) (by simp [Act.eval, Act.put]) wr.heap.size 0 [.int .u8 0, .int .u8 0, .int .u8 0, .int .u8 0, .int .u8 0, .int .u8 0, .int .u8 0, .int .u8 0] 44 HX.out (cSec y) (by unfold cSec; rw [List.length_map, hylen.out]; rfl) (fun _ => ⟨rfl, _, rfl, HPC2.out⟩) (by unfold cSec; rw [List.length_map, hylen.out]; exact Nat.le_refl _) (byteV_one y) wr.heap.size wr (below_drew HAL.out) (Nat.le_refl _) ?_; intro w4 hg4 hb4; rw [splice_all _ _ (by unfold cSec; rw [List.length_map, hylen.out]; rfl)] at hg4; clear HX HPC2)
                    have HB4 := hid hb4
                    clear hb4
                    have hz4 := HB4.out.size
                    have HO4 := hid (own_keep HOa.out (keep_below HB4.out))
                    have HU4 := hid (own_keep HUa.out (keep_below HB4.out))
                    have HBA4 := hid (HBa.out.trans (HB4.out.mono hza))
                    obtain ⟨gB, hgB⟩ : ∃ gB, wr.heap.size = gB := ⟨_, rfl⟩
                    rw [hgB] at hg4 ⊢
                    obtain ⟨y0, y1, y2, y3, y4, y5, y6, y7, rfl⟩ := list8 hylen.out
                    have r0 : w4.cell? ⟨gB, 0, none⟩ = some (.int .u8 (y0 : Int)) := cell_of_row _ _ 0 _ _ _ hg4.out
                    have r1 : w4.cell? ⟨gB, 1, none⟩ = some (.int .u8 (y1 : Int)) := cell_of_row _ _ 1 _ _ _ hg4.out
                    have r2 : w4.cell? ⟨gB, 2, none⟩ = some (.int .u8 (y2 : Int)) := cell_of_row _ _ 2 _ _ _ hg4.out
                    have r3 : w4.cell? ⟨gB, 3, none⟩ = some (.int .u8 (y3 : Int)) := cell_of_row _ _ 3 _ _ _ hg4.out
                    have r4 : w4.cell? ⟨gB, 4, none⟩ = some (.int .u8 (y4 : Int)) := cell_of_row _ _ 4 _ _ _ hg4.out
                    have r5 : w4.cell? ⟨gB, 5, none⟩ = some (.int .u8 (y5 : Int)) := cell_of_row _ _ 5 _ _ _ hg4.out
                    have r6 : w4.cell? ⟨gB, 6, none⟩ = some (.int .u8 (y6 : Int)) := cell_of_row _ _ 6 _ _ _ hg4.out
                    have r7 : w4.cell? ⟨gB, 7, none⟩ = some (.int .u8 (y7 : Int)) := cell_of_row _ _ 7 _ _ _ hg4.out
                    clear HB4 HAL HPC
                    go_wp2_with (at_builtin; refine append_secs rfl (.tmp 81) (.tmp 83) rfl w.heap.size (.slice oA (L + a) oc) (L + a) _ rfl (own_keep HO4.out (keep_below (al1 _ _))) [[y0, y1, y2, y3, y4, y5, y6, y7]] ⟨w4.heap.size, 0, none⟩ 1 1 rfl HSEC.out rfl (fun j u hu => by rw [add_at', cell_of_row _ _ _ _ _ _ (heap_alloc_new w4 _)]; simpa [cSec, byteV, zs] using hu) (by omega) (by simp; omega) ?_; intro v5 w5 hown5 hg5; obtain ⟨a5, k5, rfl⟩ := own_form41 hown5; have HO5 := hid hown5; have HG5 := hid hg5; clear hown5 hg5)
                    have HU5 := hid (own_keep HU4.out ((keep_below (al1 w4 (.cells #[.int .u8 (y0 : Int), .int .u8 (y1 : Int), .int .u8 (y2 : Int), .int .u8 (y3 : Int), .int .u8 (y4 : Int), .int .u8 (y5 : Int), .int .u8 (y6 : Int), .int .u8 (y7 : Int)] 44))).trans (keep_grown (own_keep HO4.out (keep_below (al1 w4 (.cells #[.int .u8 (y0 : Int), .int .u8 (y1 : Int), .int .u8 (y2 : Int), .int .u8 (y3 : Int), .int .u8 (y4 : Int), .int .u8 (y5 : Int), .int .u8 (y6 : Int), .int .u8 (y7 : Int)] 44)))) (by decide) HG5.out)))
                    have HB5 := hid ((HBA4.out.alloc (by omega) (.cells #[.int .u8 (y0 : Int), .int .u8 (y1 : Int), .int .u8 (y2 : Int), .int .u8 (y3 : Int), .int .u8 (y4 : Int), .int .u8 (y5 : Int), .int .u8 (y6 : Int), .int .u8 (y7 : Int)] 44)).grown HG5.out (by simp; omega) (fun k e => (HO4.out.lt k e).1))
                    go_roundw
                    case rel => exact ⟨a + 1, by omega, by go_num, hid (by rw [HST.out, show L + (a + 1) = L + a + 1 by omega]; exact HO5.out), HU5, HB5⟩
                    case measure => simp [Lib.intOf]; omega
                  · obtain rfl : a = q := by omega
                    obtain ⟨h1, h2⟩ := HOK.out _ _ HG.out
                    have HD2 := hid h1
                    have HS2 : Hid (Secs (l ++ chk a u)) := hid (fun s hs => (List.mem_append.1 hs).elim (HS.out s) (fun hs => chk_secs a u HU8.out (by rw [HRL.out]; omega) s hs))
                    have HLL : Hid ((l ++ chk a u).length = L + a) := hid (by rw [List.length_append, HL.out, chk_len])
                    have hUB := byt_of_own HUa.out HU8.out
                    rw [← HRL.out] at hUB
                    have hdr := byt_from hUB (k := 8 * a) (by rw [HRL.out]; omega)
                    have hnk : NilOk (.slice (fromA rA rc (8 * a)) (u.length - 8 * a) (rc - 8 * a)) := rest_nilOk (own_nilOk HUa.out) _ _
                    obtain ⟨D, hD⟩ : ∃ D, u.drop (8 * a) = D := ⟨_, rfl⟩
                    have hDl : u.length - 8 * a = D.length := by rw [← hD, List.length_drop]
                    rw [hD] at HD2 h2
                    rw [hD, hDl] at hdr
                    rw [hDl] at hnk
                    have hSL := fun (W : World) => run_slice_fromI rA R rc (8 * a) ((a : Int) * 8) (by omega) (by omega) W
                    rw [show R - 8 * a = D.length by rw [← HRL.out]; exact hDl] at hSL
                    obtain ⟨fA, hfA⟩ : ∃ fA, fromA rA rc (8 * a) = fA := ⟨_, rfl⟩
                    rw [hfA] at hdr hnk hSL
                    have HDR := hid hdr
                    have HNK := hid hnk
                    have hD9 : D.length ≤ 90000 := by omega
                    clear hdr hnk hD hDl hfA hUB h1 HG
                    have hDT : D.length < TL := h2
                    clear h2
                    go_wp2_with fail
                    refine ⟨⟨_, D, fA, _, hD9, by rw [HLL.out]; omega, rfl, HDR, HNK, HS2, HD2, hid (by rw [HLL.out]; exact HOa.out), HBa⟩, ?_⟩
                    simpa using hDT
            · have HRR : Hid (x % 4 = 1) := hid (by rw [HRR.out, hr])
              have HBAD : Hid (¬(2 < 1 ∨ q = 0)) := hid (by have h := HBAD.out; rw [hr] at h; exact h)
              have dk0 : ((r : Int) == 0) = false := by rw [hr]; rfl
              have dk1 : ((r : Int) == 1) = true := by rw [hr]; rfl
              clear hr
              by_cases hfit : R < 8
              · have HE : Hid (dec M b = .error 10) := hid (HERR.out 10 (by unfold dGrp; rw [HD.out]; simp only; rw [HQ.out, HRR.out, if_neg HBAD.out, if_neg HLG.out, if_neg (by decide), if_pos rfl, if_pos (by rw [HRL.out]; exact hfit)]))
                have d4 : decide ((R : Int) < 8) = true := by simp; omega
                clear hfit
                go_wp2
                refine bodyPost_ret (v := .tuple #[.slice none 0 0, .int .i64 10]) (by simp [results, Try.results40, go_sem]) rfl ?_
                exact ⟨HB1.out, .inr ⟨10, HE.out, rfl⟩⟩
              · have HG : Hid (dGrp (M - L) t = .ok (List.replicate q (u.take 8), u.drop (8))) := hid (by unfold dGrp; rw [HD.out]; simp only; rw [HQ.out, HRR.out, if_neg HBAD.out, if_neg HLG.out, if_neg (by decide), if_pos rfl, if_neg (by rw [HRL.out]; exact hfit)])
                have d4 : decide ((R : Int) < 8) = false := by simp; omega
                have hfit2 : 8 ≤ R := by omega
                clear hfit
                go_wp2_with fail
                rw [he1]
                go_loopw [6, 14] (fun v i wy => ∃ (a : Nat), a ≤ q ∧ i = .int .i64 (a : Int) ∧ Hid (wy.ownsRow w.heap.size 44 8 v (L + a) ((l ++ List.replicate a (u.take 8)).map cSec).flatten) ∧ Hid (wy.ownsRow 0 5 1 (.slice rA R rc) R (u.map byteV)) ∧ Hid (Below w.heap.size w wy)) (fun _ i _ => q - (Lib.intOf i).toNat)
                case atStart => exact ⟨0, Nat.zero_le _, rfl, hid (by rw [List.replicate_zero, List.append_nil]; exact HO1.out), HU1, HB1⟩
                case round =>
                  clear HO1 HU1 HB1
                  obtain ⟨a, ha, rfl, HOa, HUa, HBa⟩ := hrel
                  obtain ⟨oA, oc, rfl⟩ := own_form41 HOa.out
                  have hza := HBa.out.size
                  by_cases haN : a < q
                  · have hac : (a : Int) < (q : Int) := by omega
                    have hsec : (u.take 8).length = 8 ∧ B8 (u.take 8) := eight_sec (k := 0) HU8.out (by rw [HRL.out]; omega)
                    obtain ⟨y, hy⟩ : ∃ y, u.take 8 = y := ⟨_, rfl⟩
                    have HST : Hid (((l ++ List.replicate (a + 1) (u.take 8)).map cSec).flatten = ((l ++ List.replicate a (u.take 8)).map cSec).flatten ++ ([y].map cSec).flatten) := hid (by rw [← hy]; exact rep_snoc l a _)
                    rw [hy] at hsec
                    have HSEC := hid (secs_one hsec)
                    have hy8 := hid hsec.2
                    obtain ⟨gL, hgL⟩ : ∃ gL, ((l ++ List.replicate a (u.take 8)).map cSec).flatten = gL := ⟨_, rfl⟩
                    rw [hgL] at HOa HST
                    clear hgL
                    obtain ⟨pb, po, hpA, hpc⟩ := eight_at (k := 0) (byt_of_own HUa.out HU8.out) (by rw [HRL.out]; omega)
                    rw [show (u.drop (0)).take 8 = y from by rw [List.drop_zero]; exact hy] at hpc
                    subst hpA
                    have hSL : ∀ (W : World), (Instr.slice 22 (.slice (some ⟨pb, po, none⟩) R rc) none (some (.int .i64 8)) none).run Try.prog W = .ok (.slice (some ⟨pb, po, none⟩) 8 rc) W := fun (W : World) => run_slice_to (some ⟨pb, po, none⟩) R rc 8 (by omega) W
                    have hrc8 : (8 : Int) ≤ (rc : Int) := by omega
                    rw [Nat.add_zero] at hpc
                    clear hSL
                    have HPC := hid hpc
                    have hylen := hid hsec.1
                    have HX := hid (heap_alloc_new wr (.cells #[.int .u8 0, .int .u8 0, .int .u8 0, .int .u8 0, .int .u8 0, .int .u8 0, .int .u8 0, .int .u8 0] 44))
                    have HAL := hid (al1 wr (.cells #[.int .u8 0, .int .u8 0, .int .u8 0, .int .u8 0, .int .u8 0, .int .u8 0, .int .u8 0, .int .u8 0] 44))
                    have hpl : pb < wr.heap.size := by rcases byt_at (byt_of_own HUa.out HU8.out) (by rw [HRL.out]; omega) with ⟨b1, o1, e, h, _⟩; injection e with e; injection e with e; rw [e]; exact h
                    have HPC2 : Hid (∀ (j : Nat) (v : Value), (cSec y)[j]? = some v → (wr.alloc (.cells #[.int .u8 0, .int .u8 0, .int .u8 0, .int .u8 0, .int .u8 0, .int .u8 0, .int .u8 0, .int .u8 0] 44)).drew.cell? ((⟨pb, po, none⟩ : Addr).add j) = some v) := hid (fun j v hj => (HAL.out.cell (p := (⟨pb, po, none⟩ : Addr).add j) (by rw [show (⟨pb, po, none⟩ : Addr).add j = ⟨pb, po + j, none⟩ by unfold Addr.add; split <;> simp_all]; exact hpl)).trans (HPC.out j v hj))
                    clear hpc hy hsec hpl
                    go_wp2_with fail
                    go_region_law (refine step_copy_splice rfl (.tmp 77) (.tmp 79) 22 22 rfl 5 Try.underlying22 size5' (some ⟨wr.heap.size, 0, none⟩) (some ⟨pb, po, none⟩) 8 8 8 rc (by simp [Act.eval, Act.put]) (by simp [Act.eval, Act.put]) wr.heap.size 0 [.int .u8 0, .int .u8 0, .int .u8 0, .int .u8 0, .int .u8 0, .int .u8 0, .int .u8 0, .int .u8 0] 44 HX.out (cSec y) (by unfold cSec; rw [List.length_map, hylen.out]; rfl) (fun _ => ⟨rfl, _, rfl, HPC2.out⟩) (by unfold cSec; rw [List.length_map, hylen.out]; exact Nat.le_refl _) (byteV_one y) wr.heap.size wr (below_drew HAL.out) (Nat.le_refl _) ?_; intro w4 hg4 hb4; rw [splice_all _ _ (by unfold cSec; rw [List.length_map, hylen.out]; rfl)] at hg4; clear HX HPC2)
                    have HB4 := hid hb4
                    clear hb4
                    have hz4 := HB4.out.size
                    have HO4 := hid (own_keep HOa.out (keep_below HB4.out))
                    have HU4 := hid (own_keep HUa.out (keep_below HB4.out))
                    have HBA4 := hid (HBa.out.trans (HB4.out.mono hza))
                    obtain ⟨gB, hgB⟩ : ∃ gB, wr.heap.size = gB := ⟨_, rfl⟩
                    rw [hgB] at hg4 ⊢
                    obtain ⟨y0, y1, y2, y3, y4, y5, y6, y7, rfl⟩ := list8 hylen.out
                    have r0 : w4.cell? ⟨gB, 0, none⟩ = some (.int .u8 (y0 : Int)) := cell_of_row _ _ 0 _ _ _ hg4.out
                    have r1 : w4.cell? ⟨gB, 1, none⟩ = some (.int .u8 (y1 : Int)) := cell_of_row _ _ 1 _ _ _ hg4.out
                    have r2 : w4.cell? ⟨gB, 2, none⟩ = some (.int .u8 (y2 : Int)) := cell_of_row _ _ 2 _ _ _ hg4.out
                    have r3 : w4.cell? ⟨gB, 3, none⟩ = some (.int .u8 (y3 : Int)) := cell_of_row _ _ 3 _ _ _ hg4.out
                    have r4 : w4.cell? ⟨gB, 4, none⟩ = some (.int .u8 (y4 : Int)) := cell_of_row _ _ 4 _ _ _ hg4.out
                    have r5 : w4.cell? ⟨gB, 5, none⟩ = some (.int .u8 (y5 : Int)) := cell_of_row _ _ 5 _ _ _ hg4.out
                    have r6 : w4.cell? ⟨gB, 6, none⟩ = some (.int .u8 (y6 : Int)) := cell_of_row _ _ 6 _ _ _ hg4.out
                    have r7 : w4.cell? ⟨gB, 7, none⟩ = some (.int .u8 (y7 : Int)) := cell_of_row _ _ 7 _ _ _ hg4.out
                    clear HB4 HAL HPC
                    go_wp2_with (at_builtin; refine append_secs rfl (.tmp 81) (.tmp 83) rfl w.heap.size (.slice oA (L + a) oc) (L + a) _ rfl (own_keep HO4.out (keep_below (al1 _ _))) [[y0, y1, y2, y3, y4, y5, y6, y7]] ⟨w4.heap.size, 0, none⟩ 1 1 rfl HSEC.out rfl (fun j u hu => by rw [add_at', cell_of_row _ _ _ _ _ _ (heap_alloc_new w4 _)]; simpa [cSec, byteV, zs] using hu) (by omega) (by simp; omega) ?_; intro v5 w5 hown5 hg5; obtain ⟨a5, k5, rfl⟩ := own_form41 hown5; have HO5 := hid hown5; have HG5 := hid hg5; clear hown5 hg5)
                    have HU5 := hid (own_keep HU4.out ((keep_below (al1 w4 (.cells #[.int .u8 (y0 : Int), .int .u8 (y1 : Int), .int .u8 (y2 : Int), .int .u8 (y3 : Int), .int .u8 (y4 : Int), .int .u8 (y5 : Int), .int .u8 (y6 : Int), .int .u8 (y7 : Int)] 44))).trans (keep_grown (own_keep HO4.out (keep_below (al1 w4 (.cells #[.int .u8 (y0 : Int), .int .u8 (y1 : Int), .int .u8 (y2 : Int), .int .u8 (y3 : Int), .int .u8 (y4 : Int), .int .u8 (y5 : Int), .int .u8 (y6 : Int), .int .u8 (y7 : Int)] 44)))) (by decide) HG5.out)))
                    have HB5 := hid ((HBA4.out.alloc (by omega) (.cells #[.int .u8 (y0 : Int), .int .u8 (y1 : Int), .int .u8 (y2 : Int), .int .u8 (y3 : Int), .int .u8 (y4 : Int), .int .u8 (y5 : Int), .int .u8 (y6 : Int), .int .u8 (y7 : Int)] 44)).grown HG5.out (by simp; omega) (fun k e => (HO4.out.lt k e).1))
                    go_roundw
                    case rel => exact ⟨a + 1, by omega, by go_num, hid (by rw [HST.out, show L + (a + 1) = L + a + 1 by omega]; exact HO5.out), HU5, HB5⟩
                    case measure => simp [Lib.intOf]; omega
                  · obtain rfl : a = q := by omega
                    obtain ⟨h1, h2⟩ := HOK.out _ _ HG.out
                    have HD2 := hid h1
                    have HS2 : Hid (Secs (l ++ List.replicate a (u.take 8))) := hid (fun s hs => (List.mem_append.1 hs).elim (HS.out s) (fun hs => by obtain ⟨_, rfl⟩ := List.mem_replicate.1 hs; have h := eight_sec (k := 0) HU8.out (by rw [HRL.out]; omega); rw [List.drop_zero] at h; exact h))
                    have HLL : Hid ((l ++ List.replicate a (u.take 8)).length = L + a) := hid (by rw [List.length_append, HL.out, List.length_replicate])
                    have hUB := byt_of_own HUa.out HU8.out
                    rw [← HRL.out] at hUB
                    have hdr := byt_from hUB (k := 8) (by rw [HRL.out]; omega)
                    have hnk : NilOk (.slice (fromA rA rc (8)) (u.length - 8) (rc - 8)) := rest_nilOk (own_nilOk HUa.out) _ _
                    obtain ⟨D, hD⟩ : ∃ D, u.drop (8) = D := ⟨_, rfl⟩
                    have hDl : u.length - 8 = D.length := by rw [← hD, List.length_drop]
                    rw [hD] at HD2 h2
                    rw [hD, hDl] at hdr
                    rw [hDl] at hnk
                    have hSL := fun (W : World) => run_slice_fromI rA R rc (8) (8) (by omega) (by omega) W
                    rw [show R - 8 = D.length by rw [← HRL.out]; exact hDl] at hSL
                    obtain ⟨fA, hfA⟩ : ∃ fA, fromA rA rc (8) = fA := ⟨_, rfl⟩
                    rw [hfA] at hdr hnk hSL
                    have HDR := hid hdr
                    have HNK := hid hnk
                    have hD9 : D.length ≤ 90000 := by omega
                    clear hdr hnk hD hDl hfA hUB h1 HG
                    have hDT : D.length < TL := h2
                    clear h2
                    go_wp2_with fail
                    refine ⟨⟨_, D, fA, _, hD9, by rw [HLL.out]; omega, rfl, HDR, HNK, HS2, HD2, hid (by rw [HLL.out]; exact HOa.out), HBa⟩, ?_⟩
                    simpa using hDT
            · have HRR : Hid (x % 4 = 2) := hid (by rw [HRR.out, hr])
              have HBAD : Hid (¬(2 < 2 ∨ q = 0)) := hid (by have h := HBAD.out; rw [hr] at h; exact h)
              have dk0 : ((r : Int) == 0) = false := by rw [hr]; rfl
              have dk1 : ((r : Int) == 1) = false := by rw [hr]; rfl
              clear hr
              · have HG : Hid (dGrp (M - L) t = .ok (List.replicate q zs, u)) := hid (by unfold dGrp; rw [HD.out]; simp only; rw [HQ.out, HRR.out, if_neg HBAD.out, if_neg HLG.out, if_pos rfl])
                have d4 : decide ((R : Int) < 0) = false := by simp
                go_wp2_with fail
                rw [he1]
                go_loopw [6, 14] (fun v i wy => ∃ (a : Nat), a ≤ q ∧ i = .int .i64 (a : Int) ∧ Hid (wy.ownsRow w.heap.size 44 8 v (L + a) ((l ++ List.replicate a zs).map cSec).flatten) ∧ Hid (wy.ownsRow 0 5 1 (.slice rA R rc) R (u.map byteV)) ∧ Hid (Below w.heap.size w wy)) (fun _ i _ => q - (Lib.intOf i).toNat)
                case atStart => exact ⟨0, Nat.zero_le _, rfl, hid (by rw [List.replicate_zero, List.append_nil]; exact HO1.out), HU1, HB1⟩
                case round =>
                  clear HO1 HU1 HB1
                  obtain ⟨a, ha, rfl, HOa, HUa, HBa⟩ := hrel
                  obtain ⟨oA, oc, rfl⟩ := own_form41 HOa.out
                  have hza := HBa.out.size
                  by_cases haN : a < q
                  · have hac : (a : Int) < (q : Int) := by omega
                    have hsec : (zs).length = 8 ∧ B8 (zs) := zs_sec
                    obtain ⟨y, hy⟩ : ∃ y, zs = y := ⟨_, rfl⟩
                    have HST : Hid (((l ++ List.replicate (a + 1) zs).map cSec).flatten = ((l ++ List.replicate a zs).map cSec).flatten ++ ([y].map cSec).flatten) := hid (by rw [← hy]; exact rep_snoc l a _)
                    rw [hy] at hsec
                    have HSEC := hid (secs_one hsec)
                    have hy8 := hid hsec.2
                    obtain ⟨gL, hgL⟩ : ∃ gL, ((l ++ List.replicate a zs).map cSec).flatten = gL := ⟨_, rfl⟩
                    rw [hgL] at HOa HST
                    clear hgL
                    subst hy
                    have HAL := hid (al1 wr (.cells #[.int .u8 0, .int .u8 0, .int .u8 0, .int .u8 0, .int .u8 0, .int .u8 0, .int .u8 0, .int .u8 0] 44))
                    obtain ⟨w4, hw4⟩ : ∃ w4, wr.alloc (.cells #[.int .u8 0, .int .u8 0, .int .u8 0, .int .u8 0, .int .u8 0, .int .u8 0, .int .u8 0, .int .u8 0] 44) = w4 := ⟨_, rfl⟩
                    have hg4 := hid (heap_alloc_new wr (.cells #[.int .u8 0, .int .u8 0, .int .u8 0, .int .u8 0, .int .u8 0, .int .u8 0, .int .u8 0, .int .u8 0] 44))
                    rw [hw4] at HAL hg4
                    have hz4 := HAL.out.size
                    have HO4 := hid (own_keep HOa.out (keep_below HAL.out))
                    have HU4 := hid (own_keep HUa.out (keep_below HAL.out))
                    have HBA4 := hid (HBa.out.trans (HAL.out.mono hza))
                    have r0 := cell_of_row _ _ 0 _ _ _ hg4.out
                    have r1 := cell_of_row _ _ 1 _ _ _ hg4.out
                    have r2 := cell_of_row _ _ 2 _ _ _ hg4.out
                    have r3 := cell_of_row _ _ 3 _ _ _ hg4.out
                    have r4 := cell_of_row _ _ 4 _ _ _ hg4.out
                    have r5 := cell_of_row _ _ 5 _ _ _ hg4.out
                    have r6 := cell_of_row _ _ 6 _ _ _ hg4.out
                    have r7 := cell_of_row _ _ 7 _ _ _ hg4.out
                    clear HAL hsec
                    go_wp2_with (at_builtin; refine append_secs rfl (.tmp 81) (.tmp 83) rfl w.heap.size (.slice oA (L + a) oc) (L + a) _ rfl (own_keep HO4.out (keep_below (al1 _ _))) [zs] ⟨w4.heap.size, 0, none⟩ 1 1 rfl HSEC.out rfl (fun j u hu => by rw [add_at', cell_of_row _ _ _ _ _ _ (heap_alloc_new w4 _)]; simpa [cSec, byteV, zs] using hu) (by omega) (by simp; omega) ?_; intro v5 w5 hown5 hg5; obtain ⟨a5, k5, rfl⟩ := own_form41 hown5; have HO5 := hid hown5; have HG5 := hid hg5; clear hown5 hg5)
                    have HU5 := hid (own_keep HU4.out ((keep_below (al1 w4 (.cells #[.int .u8 0, .int .u8 0, .int .u8 0, .int .u8 0, .int .u8 0, .int .u8 0, .int .u8 0, .int .u8 0] 44))).trans (keep_grown (own_keep HO4.out (keep_below (al1 w4 (.cells #[.int .u8 0, .int .u8 0, .int .u8 0, .int .u8 0, .int .u8 0, .int .u8 0, .int .u8 0, .int .u8 0] 44)))) (by decide) HG5.out)))
                    have HB5 := hid ((HBA4.out.alloc (by omega) (.cells #[.int .u8 0, .int .u8 0, .int .u8 0, .int .u8 0, .int .u8 0, .int .u8 0, .int .u8 0, .int .u8 0] 44)).grown HG5.out (by simp; omega) (fun k e => (HO4.out.lt k e).1))
                    go_roundw
                    case rel => exact ⟨a + 1, by omega, by go_num, hid (by rw [HST.out, show L + (a + 1) = L + a + 1 by omega]; exact HO5.out), HU5, HB5⟩
                    case measure => simp [Lib.intOf]; omega
                  · obtain rfl : a = q := by omega
                    obtain ⟨h1, h2⟩ := HOK.out _ _ HG.out
                    have HD2 := hid h1
                    have HS2 : Hid (Secs (l ++ List.replicate a zs)) := hid (fun s hs => (List.mem_append.1 hs).elim (HS.out s) (fun hs => by obtain ⟨_, rfl⟩ := List.mem_replicate.1 hs; exact zs_sec))
                    have HLL : Hid ((l ++ List.replicate a zs).length = L + a) := hid (by rw [List.length_append, HL.out, List.length_replicate])
                    have hUB := byt_of_own HUa.out HU8.out
                    rw [← HRL.out] at hUB
                    have hdr := byt_from hUB (k := 0) (by rw [HRL.out]; omega)
                    have hnk : NilOk (.slice (fromA rA rc (0)) (u.length - 0) (rc - 0)) := rest_nilOk (own_nilOk HUa.out) _ _
                    obtain ⟨D, hD⟩ : ∃ D, u.drop (0) = D := ⟨_, rfl⟩
                    have hDl : u.length - 0 = D.length := by rw [← hD, List.length_drop]
                    rw [show u = D by rw [← hD, List.drop_zero]] at HD2 h2
                    rw [hD, hDl] at hdr
                    rw [hDl] at hnk
                    have hSL := fun (W : World) => run_slice_fromI rA R rc (0) (0) (by omega) (by omega) W
                    rw [show R - 0 = D.length by rw [← HRL.out]; exact hDl] at hSL
                    obtain ⟨fA, hfA⟩ : ∃ fA, fromA rA rc (0) = fA := ⟨_, rfl⟩
                    rw [hfA] at hdr hnk hSL
                    have HDR := hid hdr
                    have HNK := hid hnk
                    have hD9 : D.length ≤ 90000 := by omega
                    clear hdr hnk hD hDl hfA hUB h1 HG
                    have hDT : D.length < TL := h2
                    clear h2
                    go_wp2_with fail
                    refine ⟨⟨_, D, fA, _, hD9, by rw [HLL.out]; omega, rfl, HDR, HNK, HS2, HD2, hid (by rw [HLL.out]; exact HOa.out), HBa⟩, ?_⟩
                    simpa using hDT
end Go.Proofs.Ytldlddoealpomaa.Rl

namespace Go.Proofs.Ytldlddoealpomaa
open Go.RowKit Go.Lib
open Rl (Sect Sec Secs sec_form cSec)

/-- Bytes as at most so many sectors, or the error. -/
def secL (bs : List Nat) (most : Int) : Except Int (List Sect) := if bs.length % 8 ≠ 0 then .error 3 else if most < ((bs.length / 8 : Nat) : Int) then .error 5 else .ok (C8.ck bs.length bs)
/-- A list of sectors, or an error, is answered. -/
def SecQ (w : World) (r : Except Int (List Sect)) (e : Ending) (w' : World) : Prop := Below w.heap.size w w' ∧ ((∃ l lv, r = .ok l ∧ e = .returned (.tuple #[lv, .int .i64 0]) ∧ Sec w' lv l) ∨ ∃ er, r = .error er ∧ e = .returned (.tuple #[.slice none 0 0, .int .i64 er]))
theorem ck_end (f : Nat) : C8.ck f [] = [] := by
  cases f with
  | zero => rfl
  | succ f => rw [C8.ck, if_pos rfl]
theorem ck_step {M k : Nat} {bs : List Nat} (hM : bs.length = M) (hk : 8 * (k + 1) ≤ M) : C8.ck (M - k) (bs.drop (8 * k)) = (bs.drop (8 * k)).take 8 :: C8.ck (M - (k + 1)) (bs.drop (8 * (k + 1))) := by
  rw [show M - k = (M - (k + 1)) + 1 by omega, C8.ck, if_neg (fun e => by
    have := congrArg List.length e
    rw [List.length_drop, List.length_nil] at this
    omega), List.drop_drop, show 8 * k + 8 = 8 * (k + 1) by omega]
set_option maxHeartbeats 4000000 in
set_option maxRecDepth 100000 in
theorem refSectors_any (bs : List Nat) (most : Int) (v : Value) (w : World) (hb : Byt w v bs) (hl : bs.length ≤ 1000000) :
    Calls Try.prog 39 #[v, .int .i64 most] w (SecQ w (secL bs most)) := by
  have hinf : (Try.prog.info? 44).map (fun i => (i.zero, i.size, i.bytes)) = some (some (.agg #[.int .u8 0, .int .u8 0, .int .u8 0, .int .u8 0, .int .u8 0, .int .u8 0, .int .u8 0, .int .u8 0]), 8, 8) := by kernel_rfl
  obtain ⟨i0, hi, hz0, hz1, hz2⟩ := info_parts hinf
  obtain ⟨A, c, rfl⟩ := byt_form hb
  obtain ⟨M, hM⟩ : ∃ M, bs.length = M := ⟨_, rfl⟩
  have HV := hid hb
  rw [hM] at HV hl ⊢
  have HM := hid hM
  clear hb hM
  by_cases h8 : M % 8 = 0
  rotate_left
  · have HR : Hid (secL bs most = .error 3) := hid (by unfold secL; rw [HM.out, if_pos h8])
    have e1 : Int.tmod (M : Int) 8 = ((M % 8 : Nat) : Int) := by rw [Int.tmod_eq_emod_of_nonneg (by omega)]; omega
    have e2 : ((M % 8 : Nat) : Int) ≠ 0 := by omega
    have e3 : (((M % 8 : Nat) : Int) != 0) = true := by rw [bne_iff_ne]; omega
    have e4 : IntKind.i64.wrap ((M % 8 : Nat) : Int) = ((M % 8 : Nat) : Int) := by rw [IntKind.wrap_i64]; omega
    obtain ⟨q, hq⟩ : ∃ q, M % 8 = q := ⟨_, rfl⟩
    rw [hq] at e1 e2 e3 e4 h8
    clear hq
    go_enter Try.func39, Try.ntmps39
    go_wp2_with fail
    go_ret2
    exact ⟨Below.refl _ _, .inr ⟨3, HR.out, rfl⟩⟩
  obtain ⟨K, rfl⟩ : ∃ K, M = 8 * K := ⟨M / 8, by omega⟩
  have e1 : Int.tmod ((8 * K : Nat) : Int) 8 = 0 := by rw [Int.tmod_eq_emod_of_nonneg (by omega)]; omega
  have e2 : Int.tdiv ((8 * K : Nat) : Int) 8 = (K : Int) := by rw [Int.tdiv_eq_ediv_of_nonneg (by omega)]; omega
  have hdk : 8 * K / 8 = K := by omega
  obtain ⟨M, hM⟩ : ∃ M, 8 * K = M := ⟨_, rfl⟩
  rw [hM] at HV HM e1 e2 hl ⊢
  by_cases hmo : most < (K : Int)
  · have HR : Hid (secL bs most = .error 5) := hid (by unfold secL; rw [HM.out, if_neg (by omega), show M / 8 = K by omega, if_pos hmo])
    have d5 : decide (most < (K : Int)) = true := decide_eq_true hmo
    go_enter Try.func39, Try.ntmps39
    go_wp2_with fail
    go_ret2
    exact ⟨Below.refl _ _, .inr ⟨5, HR.out, rfl⟩⟩
  have d5 : decide (most < (K : Int)) = false := decide_eq_false hmo
  have HR : Hid (secL bs most = .ok (C8.ck M bs)) := hid (by unfold secL; rw [HM.out, if_neg (by omega), show M / 8 = K by omega, if_neg hmo])
  go_enter Try.func39, Try.ntmps39
  go_upto_region 7 with fail
  clear e1 e2 d5
  go_loopw [7, 6] (fun iv lv wr => ∃ (k : Nat) (xs : List Sect) (L : Value), k ≤ K ∧ iv = .int .i64 ((8 * k : Nat) : Int) ∧ L = lv ∧ Hid (xs.length = k) ∧ Hid (Secs xs) ∧ Hid (C8.ck M bs = xs ++ C8.ck (M - k) (bs.drop (8 * k))) ∧ Hid (wr.ownsRow w.heap.size 44 8 L k (xs.map cSec).flatten) ∧ Hid (Below w.heap.size w wr)) (fun iv _ _ => M - (Go.RowKit.intOf iv).toNat)
  case atStart => exact ⟨0, [], _, Nat.zero_le _, rfl, rfl, hid rfl, hid (fun s hs => by cases hs), hid rfl, hid (World.ownsRow_nil _ _ _ _), hid (Below.refl _ _)⟩
  case round =>
    obtain ⟨k, xs, L, hk, rfl, rfl, HX, HS, HC, HO, HB⟩ := hrel
    obtain ⟨q, hq⟩ : ∃ q, 8 * k = q := ⟨_, rfl⟩
    rw [hq]
    by_cases hkK : k < K
    · have d0 : decide ((q : Int) < (M : Int)) = true := decide_eq_true (by omega)
      have hq8 : q + 8 ≤ M := by omega
      obtain ⟨b, off, rfl, hbl, hcc⟩ := byt_at HV.out (by rw [HM.out]; omega)
      have HCC := hid (fun (W : World) (hW : Below w.heap.size w W) (i y : Nat) (h : bs[i]? = some y) => (by
        have h2 := hcc i y h
        unfold World.cell? at h2 ⊢
        rw [hW.block b hbl]
        exact h2 : W.cell? ⟨b, off + i, none⟩ = some (.int .u8 (y : Int))))
      have HB8 := hid HV.out.1
      have HSTEP := hid (ck_step (k := k) HM.out (by omega))
      clear hbl hcc
      obtain ⟨wo, hwo⟩ : ∃ X, X = wr := ⟨_, rfl⟩
      subst hwo
      go_upto_region 10 with fail
      obtain ⟨Wz, hWz⟩ : ∃ X, wo.alloc (.cells #[.int .u8 0, .int .u8 0, .int .u8 0, .int .u8 0, .int .u8 0, .int .u8 0, .int .u8 0, .int .u8 0] 44) = X := ⟨_, rfl⟩
      obtain ⟨p8, hp8⟩ : ∃ p, wo.heap.size = p := ⟨_, rfl⟩
      have hbz : Below wo.heap.size wo Wz := by rw [← hWz]; exact al1 _ _
      have hxz : Wz.heap[p8]? = some (.cells (cSec [0, 0, 0, 0, 0, 0, 0, 0]).toArray 44) := by rw [← hWz, ← hp8]; exact heap_alloc_new _ _
      rw [hWz, hp8]
      have HBZ := hid hbz
      have HXZ := hid hxz
      have HP8 := hid hp8
      clear hWz hbz hxz hp8
      go_upto_region 11 with fail
      go_loopw [9] (fun jv wr => ∃ (j : Nat) (s : Sect), j ≤ 8 ∧ jv = .int .i64 (j : Int) ∧ Hid (s.length = 8) ∧ Hid (∀ i, i < j → s[i]? = bs[q + i]?) ∧ Hid (B8 s) ∧ Hid (wr.heap[p8]? = some (.cells (cSec s).toArray 44)) ∧ Hid (Below wo.heap.size wo wr)) (fun jv _ => 8 - (Go.RowKit.intOf jv).toNat)
      case atStart => exact ⟨0, [0, 0, 0, 0, 0, 0, 0, 0], by omega, rfl, hid rfl, hid (fun i h => by omega), hid (by intro x hx; simp at hx; omega), HXZ, HBZ⟩
      case round =>
        obtain ⟨j, s, hj, rfl, HSL, HSE, HS8, HSX, HBJ⟩ := hrel
        by_cases hj8 : j < 8
        · have d8 : decide ((j : Int) < 8) = true := decide_eq_true (by omega)
          have hj8' : (j : Int) < 8 := by omega
          obtain ⟨x, hx⟩ : ∃ x, bs[q + j]? = some x := ⟨bs[q + j]'(by rw [HM.out]; omega), List.getElem?_eq_getElem _⟩
          have hx8 := HB8.out x (List.mem_of_getElem? hx)
          have c0 := HCC.out wr (HB.out.trans (HBJ.out.mono HB.out.size)) (q + j) x hx
          have hwa : IntKind.i64.wrap ((q : Int) + (j : Int)) = ((q + j : Nat) : Int) := by rw [IntKind.wrap_i64]; omega
          obtain ⟨qj, hqj⟩ : ∃ z, q + j = z := ⟨_, rfl⟩
          have hqz : (q : Int) + (j : Int) = (qj : Int) := by omega
          rw [hqj] at c0 hwa
          have hqM : (qj : Int) < (M : Int) := by omega
          obtain ⟨y, hy⟩ : ∃ y, s[j]? = some y := ⟨s[j]'(by rw [HSL.out]; omega), List.getElem?_eq_getElem _⟩
          have s0 := cell_of_row _ _ j _ _ _ HSX.out
          rw [show (cSec s).toArray[j]? = some (.int .u8 (y : Int)) by simp [cSec, hy, byteV]] at s0
          have f0 := box_fr HSX.out j
          have HX2 := hid hx
          have HQJ := hid hqj
          clear hx hqj
          go_wp2_with fail
          go_roundw
          case rel => exact ⟨j + 1, s.set j x, by omega, by go_num, hid (by rw [List.length_set]; exact HSL.out), hid (fun i hi => by
            rw [List.getElem?_set]
            split
            · rename_i he
              subst he
              rw [if_pos (by rw [HSL.out]; exact hj8), HX2.out]
            · exact HSE.out i (by omega)), hid (fun z hz => by
            rcases List.mem_or_eq_of_mem_set hz with h | h
            · exact HS8.out z h
            · rw [h]; exact hx8), hid (by
            have h := box_set HSX.out j (.int .u8 (x : Int))
            rw [show cSec (s.set j x) = (cSec s).set j (.int .u8 (x : Int)) by simp [cSec, List.map_set, byteV]]
            exact h), hid (HBJ.out.setCell (Nat.le_of_eq HP8.out) _)⟩
          case measure => simp [Go.RowKit.intOf]; omega
        · obtain rfl : j = 8 := by omega
          have d8 : decide ((8 : Int) < 8) = false := by decide
          have hst : s = (bs.drop q).take 8 := by
            apply List.ext_getElem?
            intro i
            by_cases hi : i < 8
            · rw [List.getElem?_take, if_pos hi, List.getElem?_drop]
              exact HSE.out i hi
            · rw [List.getElem?_eq_none (by rw [HSL.out]; omega), List.getElem?_eq_none (by rw [List.length_take]; omega)]
          have HSS : Hid (Secs [s]) := hid (fun t ht => by rw [List.mem_singleton.1 ht]; exact ⟨HSL.out, HS8.out⟩)
          have HC2 : Hid (C8.ck M bs = (xs ++ [s]) ++ C8.ck (M - (k + 1)) (bs.drop (8 * (k + 1)))) := hid (by
            rw [HC.out, HSTEP.out, hq, hst]
            simp)
          obtain ⟨x0, x1, x2, x3, x4, x5, x6, x7, rfl⟩ := Rl.list8 HSL.out
          have hxx : wr.heap[p8]? = some (.cells #[.int .u8 (x0 : Int), .int .u8 (x1 : Int), .int .u8 (x2 : Int), .int .u8 (x3 : Int), .int .u8 (x4 : Int), .int .u8 (x5 : Int), .int .u8 (x6 : Int), .int .u8 (x7 : Int)] 44) := HSX.out
          have c0 := cell_of_row _ _ 0 _ _ _ hxx
          have c1 := cell_of_row _ _ 1 _ _ _ hxx
          have c2 := cell_of_row _ _ 2 _ _ _ hxx
          have c3 := cell_of_row _ _ 3 _ _ _ hxx
          have c4 := cell_of_row _ _ 4 _ _ _ hxx
          have c5 := cell_of_row _ _ 5 _ _ _ hxx
          have c6 := cell_of_row _ _ 6 _ _ _ hxx
          have c7 := cell_of_row _ _ 7 _ _ _ hxx
          have HOW := hid (own_keep HO.out (keep_below HBJ.out))
          have HBW : Hid (Below w.heap.size w wr) := hid (HB.out.trans (HBJ.out.mono HB.out.size))
          have hws := HBW.out.size
          have hxr := HX.out
          have hnc : ∀ (t : Nat) (u : Value), (cSec [x0, x1, x2, x3, x4, x5, x6, x7])[t]? = some u → (wr.alloc (.cells #[.int .u8 (x0 : Int), .int .u8 (x1 : Int), .int .u8 (x2 : Int), .int .u8 (x3 : Int), .int .u8 (x4 : Int), .int .u8 (x5 : Int), .int .u8 (x6 : Int), .int .u8 (x7 : Int)] 44)).cell? ((⟨wr.heap.size, 0, none⟩ : Addr).add t) = some u := fun t u hu => by
            rw [show (⟨wr.heap.size, 0, none⟩ : Addr).add t = ⟨wr.heap.size, t, none⟩ from by unfold Addr.add; split <;> simp_all, cell_of_row _ _ _ _ _ _ (heap_alloc_new wr (.cells #[.int .u8 (x0 : Int), .int .u8 (x1 : Int), .int .u8 (x2 : Int), .int .u8 (x3 : Int), .int .u8 (x4 : Int), .int .u8 (x5 : Int), .int .u8 (x6 : Int), .int .u8 (x7 : Int)] 44))]
            simpa [cSec, byteV] using hu
          have hones : ∀ u ∈ cSec [x0, x1, x2, x3, x4, x5, x6, x7], u.oneCell' = true := fun u hu => by
            simp only [cSec, List.map_cons, List.map_nil, List.mem_cons, List.not_mem_nil, or_false] at hu
            rcases hu with rfl | rfl | rfl | rfl | rfl | rfl | rfl | rfl <;> rfl
          have hown := HOW.out
          clear hst
          go_wp2_with (at_builtin; refine wpList_append_own _ rfl _ _ 33 rfl w.heap.size 44 i0 _ 8 8 Try.underlying33 hi hz0 hz1 hz2 rfl (by decide) _ _ _ rfl (hown.alloc _) ⟨wr.heap.size, 0, none⟩ 1 1 (cSec [x0, x1, x2, x3, x4, x5, x6, x7]) rfl rfl hnc hones (by unfold maxLen; omega) (by omega) (by simp; omega) ?_)
          intro v' w2 hown2 hgrow _
          have HB2 : Hid (Below w.heap.size w w2) := hid ((HBW.out.alloc hws _).grown hgrow (by simp; omega) (fun k hk => (hown.lt k hk).1))
          have HO2 := hid hown2
          have hwq : IntKind.i64.wrap ((q : Int) + 8) = (q : Int) + 8 := by rw [IntKind.wrap_i64]; omega
          clear hown2 hgrow hown hnc hones c0 c1 c2 c3 c4 c5 c6 c7 hxx
          go_wp2_with fail
          go_roundw
          case rel =>
            refine ⟨k + 1, xs ++ [[x0, x1, x2, x3, x4, x5, x6, x7]], v', by omega, ?_, rfl, hid (by rw [List.length_append, HX.out]; rfl), hid (fun t ht => (List.mem_append.1 ht).elim (HS.out t) (HSS.out t)), HC2, hid ?_, HB2⟩
            · rw [show 8 * (k + 1) = q + 8 by omega]
              go_num
            · have h := HO2.out
              rw [List.map_append, List.flatten_append]
              simpa using h
          case measure => simp [Go.RowKit.intOf]; omega
    · obtain rfl : k = K := by omega
      have hqM : q = M := by omega
      subst hqM
      have d0 : decide ((q : Int) < (q : Int)) = false := decide_eq_false (by omega)
      have hC := HC.out
      rw [hq, List.drop_of_length_le (by rw [HM.out]; exact Nat.le_refl _), ck_end, List.append_nil] at hC
      have HCE := hid hC
      clear hC
      go_wp2_with fail
      go_ret2
      refine ⟨HB.out, .inl ⟨xs, L, by rw [HR.out, HCE.out], rfl, Rl.sec_of_own (base := w.heap.size) (by rw [HX.out]; exact HO.out) HS.out⟩⟩
end Go.Proofs.Ytldlddoealpomaa

namespace Go.Proofs.Ytldlddoealpomaa
open Go.RowKit Go.Lib
theorem small_two (A B : Option Addr) (n c m c' : Nat) (w : World) (hn : n ≤ 9223372036854775807) (hm : m ≤ 9223372036854775807) :
    Calls Try.prog 11 #[.slice (some ⟨w.heap.size, 0, none⟩) 2 2] (w.alloc (.cells #[.slice A n c, .slice B m c'] 22)) (fun e w' => e = .returned (.bool (decide (n ≤ 400 ∧ m ≤ 400))) ∧ w.alloc (.cells #[.slice A n c, .slice B m c'] 22) = w') := by
  have h := small_any [(A, n, c), (B, m, c')] w.heap.size 2 (w.alloc (.cells #[.slice A n c, .slice B m c'] 22)) (heap_alloc_new _ _) (by simp) (fun x hx => by
    rcases List.mem_cons.1 hx with rfl | hx
    · exact hn
    · rw [List.mem_singleton.1 hx]; exact hm)
  have e : decide (∀ x ∈ [(A, n, c), (B, m, c')], x.2.1 ≤ 400) = decide (n ≤ 400 ∧ m ≤ 400) := by simp
  rw [e] at h
  exact h
end Go.Proofs.Ytldlddoealpomaa

namespace Go.Proofs.Ytldlddoealpomaa
open Go.RowKit Go.Lib
open Rl (Sect Sec Secs sec_form sec_at list8 cSec flat_len rl SaysQ)

theorem ck_ok : ∀ (f : Nat) (l : List Nat), B8 l → l.length % 8 = 0 → Secs (C8.ck f l)
  | 0, _, _, _ => fun s hs => by cases hs
  | f + 1, l, h, h8 => by
    rw [C8.ck]
    split
    · intro s hs; cases hs
    · rename_i hne
      have hp : 0 < l.length := List.length_pos_iff.2 hne
      intro s hs
      rcases List.mem_cons.1 hs with rfl | hs
      · exact ⟨by rw [List.length_take]; omega, fun x hx => h x (List.mem_of_mem_take hx)⟩
      · exact ck_ok f _ (fun x hx => h x (List.mem_of_mem_drop hx)) (by rw [List.length_drop]; omega) s hs
theorem sectorsOf_any (bs : List Nat) (most : Int) (v : Value) (w : World) (hb : Byt w v bs) (hl : bs.length ≤ 1000000) :
    Calls Try.prog 37 #[v, .int .i64 most] w (SecQ w (secL bs most)) := by
  by_cases h8 : bs.length % 8 = 0
  · by_cases hm : ((bs.length / 8 : Nat) : Int) ≤ most
    · refine (C8.sectorsOf_ok bs most v w hb h8 hm hl).mono ?_
      rintro e w' ⟨lv, rfl, ho, hb'⟩
      refine ⟨hb', .inl ⟨_, lv, ?_, rfl, Rl.sec_of_own ho (ck_ok _ _ hb.1 h8)⟩⟩
      unfold secL
      rw [if_neg (by omega), if_neg (by omega)]
    · have HR : Hid (secL bs most = .error 5) := hid (by unfold secL; rw [if_neg (by omega), if_pos (by omega)])
      obtain ⟨A, c, rfl⟩ := byt_form hb
      obtain ⟨K, hK⟩ : ∃ K, bs.length / 8 = K := ⟨_, rfl⟩
      obtain ⟨M, hM⟩ : ∃ M, bs.length = M := ⟨_, rfl⟩
      rw [hM] at h8 hK hl hm ⊢
      have hm' : most < (K : Int) := by omega
      have hKM : K ≤ M := by omega
      have e1 : Int.tmod (M : Int) 8 = 0 := by rw [Int.tmod_eq_emod_of_nonneg (by omega)]; omega
      have e2 : Int.tdiv (M : Int) 8 = (K : Int) := by rw [Int.tdiv_eq_ediv_of_nonneg (by omega)]; omega
      have d5 : decide (most < (K : Int)) = true := decide_eq_true hm'
      clear hb hM hK
      go_enter Try.func37, Try.ntmps37
      go_wp2_with fail
      go_ret2
      exact ⟨Below.refl _ _, .inr ⟨5, HR.out, rfl⟩⟩
  · have HR : Hid (secL bs most = .error 3) := hid (by unfold secL; rw [if_pos h8])
    obtain ⟨A, c, rfl⟩ := byt_form hb
    obtain ⟨M, hM⟩ : ∃ M, bs.length = M := ⟨_, rfl⟩
    rw [hM] at h8 hl ⊢
    have e1 : Int.tmod (M : Int) 8 = ((M % 8 : Nat) : Int) := by rw [Int.tmod_eq_emod_of_nonneg (by omega)]; omega
    have e2 : ((M % 8 : Nat) : Int) ≠ 0 := by omega
    have e3 : (((M % 8 : Nat) : Int) != 0) = true := by rw [bne_iff_ne]; omega
    have e4 : IntKind.i64.wrap ((M % 8 : Nat) : Int) = ((M % 8 : Nat) : Int) := by rw [IntKind.wrap_i64]; omega
    obtain ⟨q, hq⟩ : ∃ q, M % 8 = q := ⟨_, rfl⟩
    rw [hq] at e1 e2 e3 e4 h8
    clear hb hM hq
    go_enter Try.func37, Try.ntmps37
    go_wp2_with fail
    go_ret2
    exact ⟨Below.refl _ _, .inr ⟨3, HR.out, rfl⟩⟩
set_option maxRecDepth 100000 in
theorem tok_len {t : List Nat} {room : Nat} {l t' r' : List Nat} {room' : Nat} (h : tok t room l = .ok (t', room', r')) : t'.length + room' = t.length + room := by
  rcases l with _ | ⟨x, r⟩
  · cases h
  · rw [tok] at h
    split at h
    · cases h
    · split at h
      · unfold lit at h
        split at h
        · cases h
        · split at h
          · cases h
          · rename_i h1 h2
            injection h with h
            injection h with ha hb
            injection hb with hb hc
            rw [← ha, ← hb, List.length_append, List.length_take]
            omega
      · unfold mat at h
        split at h
        · cases h
        · split at h
          · cases h
          · split at h
            · cases h
            · rename_i h1 h2
              injection h with h
              injection h with ha hb
              injection hb with hb hc
              rw [← ha, ← hb, cp_len]
              omega
theorem toks_len : ∀ (f : Nat) (t : List Nat) (room : Nat) (l y : List Nat), toks f t room l = .ok y → y.length ≤ t.length + room
  | f, t, room, [], y, h => by
    rw [toks_nil] at h
    injection h with h
    rw [← h]
    omega
  | 0, t, room, x :: r, y, h => by
    rw [toks] at h
    cases h
  | f + 1, t, room, x :: r, y, h => by
    rw [toks] at h
    split at h
    · cases h
    · rename_i t' room' r' hk
      have h1 := toks_len f t' room' r' y h
      have h2 := tok_len hk
      omega
theorem decL_len {d b y : List Nat} {most : Int} (h : decL d b most = .ok y) : y.length ≤ most.toNat := by
  unfold decL at h
  split at h
  · cases h
  · split at h
    · cases h
    · rename_i t ht
      injection h with h
      have h1 := toks_len _ _ _ _ _ ht
      rw [← h, List.length_drop]
      omega
theorem rl_sec {w w' : World} {b : List Nat} {cm : Nat} {e : Ending} (h : Rl.DecQ w b cm e w') : (∃ l lv, Rl.dec cm b = .ok l ∧ e = .returned (.tuple #[lv, .int .i64 0]) ∧ Sec w' lv l) ∨ ∃ er, Rl.dec cm b = .error er ∧ e = .returned (.tuple #[.slice none 0 0, .int .i64 er]) := by
  rcases h.2 with ⟨l, lv, h1, h2, h3, h4⟩ | h
  · exact .inl ⟨l, lv, h1, h2, Rl.sec_of_own h4 h3⟩
  · exact .inr h
/-- What Unpack answers. -/
def unpL (d b : List Nat) (most : Int) : Except Int (List Sect) :=
  if most < 0 ∨ 4096 < most then .error 2 else match b with
  | [] => .error 10
  | m :: x => if m = 0 then secL x most else if m = 1 then Rl.dec (Rl.capm most) x else if m = 2 then (match decL d x (8 * most) with | .error e => .error e | .ok y => secL y most) else .error 3
set_option maxHeartbeats 8000000 in
set_option maxRecDepth 100000 in
theorem unpack_any (d b : List Nat) (v u : Value) (most : Int) (w : World) (hv : Byt w v d) (hn : NilOk v) (hu : Byt w u b) (hd : d.length ≤ 400) (hl : b.length ≤ 400) :
    Calls Try.prog 20 #[v, u, .int .i64 most] w (SecQ w (unpL d b most)) := by
  obtain ⟨A, c, rfl⟩ := byt_form hv
  obtain ⟨B, c', rfl⟩ := byt_form hu
  have HV := hid hv
  have HVN := hid hn
  by_cases h0 : most < 0
  · have HR : Hid (unpL d b most = .error 2) := hid (by unfold unpL; rw [if_pos (.inl h0)])
    have e0 : decide (most < 0) = true := decide_eq_true h0
    go_enter Try.func20, Try.ntmps20
    go_wp2_with fail
    go_ret2
    exact ⟨Below.refl _ _, .inr ⟨2, HR.out, rfl⟩⟩
  have e0 : decide (most < 0) = false := decide_eq_false h0
  by_cases h4 : 4096 < most
  · have HR : Hid (unpL d b most = .error 2) := hid (by unfold unpL; rw [if_pos (.inr h4)])
    have e4 : decide (4096 < most) = true := decide_eq_true h4
    go_enter Try.func20, Try.ntmps20
    go_wp2_with fail
    go_ret2
    exact ⟨Below.refl _ _, .inr ⟨2, HR.out, rfl⟩⟩
  have e4 : decide (4096 < most) = false := decide_eq_false h4
  rcases b with _ | ⟨m, x⟩
  · have HR : Hid (unpL d [] most = .error 10) := hid (by unfold unpL; rw [if_neg (fun h => h.elim h0 h4)])
    clear hv hn hu
    go_enter Try.func20, Try.ntmps20
    go_wp2_with fail
    go_ret2
    exact ⟨Below.refl _ _, .inr ⟨10, HR.out, rfl⟩⟩
  have HU : Hid (unpL d (m :: x) most = if m = 0 then secL x most else if m = 1 then Rl.dec (Rl.capm most) x else if m = 2 then (match decL d x (8 * most) with | .error e => .error e | .ok y => secL y most) else .error 3) := hid (by unfold unpL; rw [if_neg (fun h => h.elim h0 h4)])
  obtain ⟨b, off, rfl, hlt, hc⟩ := byt_at hu (by simp)
  have p0 : w.cell? ⟨b, off, none⟩ = some (.int .u8 (m : Int)) := hc 0 _ rfl
  have HF := hid (byt_from hu (k := 1) (by simp))
  have hxl : x.length ≤ 400 := by rw [List.length_cons] at hl; omega
  obtain ⟨n, hnn⟩ : ∃ n, (m :: x).length = n := ⟨_, rfl⟩
  have hn0 : 0 < n := by rw [← hnn]; simp
  have hn4 : n ≤ 400 := by rw [← hnn]; exact hl
  rw [hnn] at HF ⊢
  have HF2 : Hid (Byt w (.slice (fromA (some ⟨b, off, none⟩) c' 1) (n - 1) (c' - 1)) x) := hid (by have h := HF.out; simpa using h)
  have hrs := run_slice_from (some ⟨b, off, none⟩) n c' 1 (by omega)
  have HNF : Hid (NilOk (.slice (fromA (some ⟨b, off, none⟩) c' 1) (n - 1) (c' - 1))) := hid (nilOk_from (nilOk_some _ n c'))
  obtain ⟨q, hq⟩ : ∃ q, fromA (some ⟨b, off, none⟩) c' 1 = q := ⟨_, rfl⟩
  rw [hq] at HF2 hrs HNF
  have d1 : ¬ (n : Int) = 0 := by omega
  have d0 : ((n : Int) == 0) = false := by simp; omega
  have hrs' : ∀ W : World, (Instr.slice 22 (.slice (some ⟨b, off, none⟩) n c') (some (.int .i64 1)) none none).run Try.prog W = .ok (.slice q (n - 1) (c' - 1)) W := fun W => hrs W
  obtain ⟨D, hD⟩ : ∃ D, d.length = D := ⟨_, rfl⟩
  have HD := hid hD
  rw [hD] at HV HVN hd ⊢
  have hmul : IntKind.i64.wrap (8 * most) = 8 * most := by rw [IntKind.wrap_i64]; omega
  have hm8 : m < 256 := hu.1 m (List.mem_cons_self ..)
  have hlx : ∀ y, decL d x (8 * most) = .ok y → y.length ≤ 32768 := fun y hy => by
    have h := decL_len hy
    omega
  have HLX := hid hlx
  clear hv hn hu hnn hc HF hq hrs hD hlx hl
  by_cases hm0 : m = 0
  · subst hm0
    have HUa : Hid (unpL d (0 :: x) most = secL x most) := hid (by rw [HU.out, if_pos rfl])
    have HC := hid (fun (W : World) (hW : Below w.heap.size w W) => sectorsOf_any x most _ W (HF2.out.below hW) (by omega))
    go_enter Try.func20, Try.ntmps20
    go_wp2_with fail
    go_quiet (fail)
    go_wp2_with fail
    have hbd : Below w.heap.size w (w.drewN nq) := ⟨rfl, rfl, rfl, Nat.le_refl _, fun _ _ => rfl⟩
    refine (HC.out _ hbd).mono ?_
    rintro e w2 ⟨hb2, hr⟩
    have hb0 := hbd.trans hb2
    clear hb2 HC
    rcases hr with ⟨l, lv, h1, rfl, hs⟩ | ⟨er, h1, rfl⟩
    · have HX := hid (show SecQ w (unpL d (0 :: x) most) _ _ from ⟨hb0, .inl ⟨l, lv, by rw [HUa.out]; exact h1, rfl, hs⟩⟩)
      clear hs h1
      go_wp2_with fail
      go_ret2
      exact HX.out
    · have HX := hid (show SecQ w (unpL d (0 :: x) most) _ _ from ⟨hb0, .inr ⟨er, by rw [HUa.out]; exact h1, rfl⟩⟩)
      clear h1
      go_wp2_with fail
      go_ret2
      exact HX.out
  by_cases hm1 : m = 1
  · subst hm1
    have HUb : Hid (unpL d (1 :: x) most = Rl.dec (Rl.capm most) x) := hid (by rw [HU.out, if_neg (by decide), if_pos rfl])
    have HC := hid (fun (W : World) (hW : Below w.heap.size w W) => Rl.decode_any x _ most W (HF2.out.below hW) HNF.out (by omega))
    go_enter Try.func20, Try.ntmps20
    go_wp2_with fail
    go_quiet (fail)
    go_wp2_with fail
    have hbd : Below w.heap.size w (w.drewN nq) := ⟨rfl, rfl, rfl, Nat.le_refl _, fun _ _ => rfl⟩
    refine (HC.out _ hbd).mono ?_
    intro e w2 hq2
    have hr := rl_sec hq2
    have hb0 := hbd.trans hq2.1
    clear hq2 HC
    rcases hr with ⟨l, lv, h1, rfl, hs⟩ | ⟨er, h1, rfl⟩
    · have HX := hid (show SecQ w (unpL d (1 :: x) most) _ _ from ⟨hb0, .inl ⟨l, lv, by rw [HUb.out]; exact h1, rfl, hs⟩⟩)
      clear hs h1
      go_wp2_with fail
      go_ret2
      exact HX.out
    · have HX := hid (show SecQ w (unpL d (1 :: x) most) _ _ from ⟨hb0, .inr ⟨er, by rw [HUb.out]; exact h1, rfl⟩⟩)
      clear h1
      go_wp2_with fail
      go_ret2
      exact HX.out
  by_cases hm2 : m = 2
  · subst hm2
    have HUc : Hid (unpL d (2 :: x) most = match decL d x (8 * most) with | .error e => .error e | .ok y => secL y most) := hid (by rw [HU.out, if_neg (by decide), if_neg (by decide), if_pos rfl])
    have HC := hid (fun (W : World) (hW : Below w.heap.size w W) => decode_any d x _ _ (8 * most) W (HV.out.below hW) HVN.out (HF2.out.below hW) HNF.out (by rw [HD.out]; omega) (by omega) (by omega))
    go_enter Try.func20, Try.ntmps20
    go_wp2_with fail
    go_quiet (fail)
    go_wp2_with fail
    have hbd : Below w.heap.size w (w.drewN nq) := ⟨rfl, rfl, rfl, Nat.le_refl _, fun _ _ => rfl⟩
    refine (HC.out _ hbd).mono ?_
    rintro e w2 ⟨hb2, ⟨er, he, hne, rfl⟩ | ⟨y, v3, hy, rfl, hv3, hn3⟩⟩
    · have HX := hid (show SecQ w (unpL d (2 :: x) most) (.returned (.tuple #[.slice none 0 0, .int .i64 er])) w2 from ⟨hbd.trans hb2, .inr ⟨er, by rw [HUc.out, he], rfl⟩⟩)
      have f1 : (er == 0) = false := by simpa using hne
      have f2 : (er != 0) = true := by simpa using hne
      have f3 : decide (er = 0) = false := decide_eq_false hne
      clear he hb2 HC
      go_wp2_with fail
      go_ret2
      exact HX.out
    · have HS := hid (sectorsOf_any y most v3 w2 hv3 (by have := HLX.out y hy; omega))
      have HUd : Hid (unpL d (2 :: x) most = secL y most) := hid (by rw [HUc.out, hy])
      have hb20 := hbd.trans hb2
      clear hy hb2 HC hv3 hn3
      go_wp2_with fail
      refine HS.out.mono ?_
      rintro e w3 ⟨hb3, hr⟩
      have hb0 := below_both hb20 hb3
      clear hb3 HS
      rcases hr with ⟨l, lv, h1, rfl, hs⟩ | ⟨er, h1, rfl⟩
      · have HX := hid (show SecQ w (unpL d (2 :: x) most) _ _ from ⟨hb0, .inl ⟨l, lv, by rw [HUd.out]; exact h1, rfl, hs⟩⟩)
        clear hs h1
        go_wp2_with fail
        go_ret2
        exact HX.out
      · have HX := hid (show SecQ w (unpL d (2 :: x) most) _ _ from ⟨hb0, .inr ⟨er, by rw [HUd.out]; exact h1, rfl⟩⟩)
        clear h1
        go_wp2_with fail
        go_ret2
        exact HX.out
  have HR : Hid (unpL d (m :: x) most = .error 3) := hid (by rw [HU.out, if_neg hm0, if_neg hm1, if_neg hm2])
  have f0 : ¬ (m : Int) = 0 := by omega
  have f1 : ¬ (m : Int) = 1 := by omega
  have f2 : ¬ (m : Int) = 2 := by omega
  have g0 : ((m : Int) == 0) = false := by rw [beq_eq_false_iff_ne]; omega
  have g1 : ((m : Int) == 1) = false := by rw [beq_eq_false_iff_ne]; omega
  have g2 : ((m : Int) == 2) = false := by rw [beq_eq_false_iff_ne]; omega
  go_enter Try.func20, Try.ntmps20
  go_wp2_with fail
  go_quiet (fail)
  go_wp2_with fail
  go_ret2
  exact ⟨⟨rfl, rfl, rfl, Nat.le_refl _, fun _ _ => rfl⟩, .inr ⟨3, HR.out, rfl⟩⟩
set_option maxHeartbeats 8000000 in
set_option maxRecDepth 100000 in
theorem refUnpack_any (d b : List Nat) (v u : Value) (most : Int) (w : World) (hv : Byt w v d) (hn : NilOk v) (hu : Byt w u b) (hd : d.length ≤ 400) (hl : b.length ≤ 400) :
    Calls Try.prog 21 #[v, u, .int .i64 most] w (SecQ w (unpL d b most)) := by
  obtain ⟨A, c, rfl⟩ := byt_form hv
  obtain ⟨B, c', rfl⟩ := byt_form hu
  have HV := hid hv
  have HVN := hid hn
  by_cases h0 : most < 0
  · have HR : Hid (unpL d b most = .error 2) := hid (by unfold unpL; rw [if_pos (.inl h0)])
    have e0 : decide (most < 0) = true := decide_eq_true h0
    go_enter Try.func21, Try.ntmps21
    go_wp2_with fail
    go_ret2
    exact ⟨Below.refl _ _, .inr ⟨2, HR.out, rfl⟩⟩
  have e0 : decide (most < 0) = false := decide_eq_false h0
  by_cases h4 : 4096 < most
  · have HR : Hid (unpL d b most = .error 2) := hid (by unfold unpL; rw [if_pos (.inr h4)])
    have e4 : decide (4096 < most) = true := decide_eq_true h4
    go_enter Try.func21, Try.ntmps21
    go_wp2_with fail
    go_ret2
    exact ⟨Below.refl _ _, .inr ⟨2, HR.out, rfl⟩⟩
  have e4 : decide (4096 < most) = false := decide_eq_false h4
  rcases b with _ | ⟨m, x⟩
  · have HR : Hid (unpL d [] most = .error 10) := hid (by unfold unpL; rw [if_neg (fun h => h.elim h0 h4)])
    clear hv hn hu
    go_enter Try.func21, Try.ntmps21
    go_wp2_with fail
    go_ret2
    exact ⟨Below.refl _ _, .inr ⟨10, HR.out, rfl⟩⟩
  have HU : Hid (unpL d (m :: x) most = if m = 0 then secL x most else if m = 1 then Rl.dec (Rl.capm most) x else if m = 2 then (match decL d x (8 * most) with | .error e => .error e | .ok y => secL y most) else .error 3) := hid (by unfold unpL; rw [if_neg (fun h => h.elim h0 h4)])
  obtain ⟨b, off, rfl, hlt, hc⟩ := byt_at hu (by simp)
  have p0 : w.cell? ⟨b, off, none⟩ = some (.int .u8 (m : Int)) := hc 0 _ rfl
  have HF := hid (byt_from hu (k := 1) (by simp))
  have hxl : x.length ≤ 400 := by rw [List.length_cons] at hl; omega
  obtain ⟨n, hnn⟩ : ∃ n, (m :: x).length = n := ⟨_, rfl⟩
  have hn0 : 0 < n := by rw [← hnn]; simp
  have hn4 : n ≤ 400 := by rw [← hnn]; exact hl
  rw [hnn] at HF ⊢
  have HF2 : Hid (Byt w (.slice (fromA (some ⟨b, off, none⟩) c' 1) (n - 1) (c' - 1)) x) := hid (by have h := HF.out; simpa using h)
  have hrs := run_slice_from (some ⟨b, off, none⟩) n c' 1 (by omega)
  have HNF : Hid (NilOk (.slice (fromA (some ⟨b, off, none⟩) c' 1) (n - 1) (c' - 1))) := hid (nilOk_from (nilOk_some _ n c'))
  obtain ⟨q, hq⟩ : ∃ q, fromA (some ⟨b, off, none⟩) c' 1 = q := ⟨_, rfl⟩
  rw [hq] at HF2 hrs HNF
  have d1 : ¬ (n : Int) = 0 := by omega
  have d0 : ((n : Int) == 0) = false := by simp; omega
  have hrs' : ∀ W : World, (Instr.slice 22 (.slice (some ⟨b, off, none⟩) n c') (some (.int .i64 1)) none none).run Try.prog W = .ok (.slice q (n - 1) (c' - 1)) W := fun W => hrs W
  obtain ⟨D, hD⟩ : ∃ D, d.length = D := ⟨_, rfl⟩
  have HD := hid hD
  rw [hD] at HV HVN hd ⊢
  have hmul : IntKind.i64.wrap (8 * most) = 8 * most := by rw [IntKind.wrap_i64]; omega
  have hm8 : m < 256 := hu.1 m (List.mem_cons_self ..)
  have hlx : ∀ y, decL d x (8 * most) = .ok y → y.length ≤ 32768 := fun y hy => by
    have h := decL_len hy
    omega
  have HLX := hid hlx
  clear hv hn hu hnn hc HF hq hrs hD hlx hl
  by_cases hm0 : m = 0
  · subst hm0
    have HUa : Hid (unpL d (0 :: x) most = secL x most) := hid (by rw [HU.out, if_pos rfl])
    have HC := hid (fun (W : World) (hW : Below w.heap.size w W) => refSectors_any x most _ W (HF2.out.below hW) (by omega))
    go_enter Try.func21, Try.ntmps21
    go_wp2_with fail
    have hbd : Below w.heap.size w w := Below.refl _ _
    refine (HC.out _ hbd).mono ?_
    rintro e w2 ⟨hb2, hr⟩
    have hb0 := hbd.trans hb2
    clear hb2 HC
    rcases hr with ⟨l, lv, h1, rfl, hs⟩ | ⟨er, h1, rfl⟩
    · have HX := hid (show SecQ w (unpL d (0 :: x) most) _ _ from ⟨hb0, .inl ⟨l, lv, by rw [HUa.out]; exact h1, rfl, hs⟩⟩)
      clear hs h1
      go_wp2_with fail
      go_ret2
      exact HX.out
    · have HX := hid (show SecQ w (unpL d (0 :: x) most) _ _ from ⟨hb0, .inr ⟨er, by rw [HUa.out]; exact h1, rfl⟩⟩)
      clear h1
      go_wp2_with fail
      go_ret2
      exact HX.out
  by_cases hm1 : m = 1
  · subst hm1
    have HUb : Hid (unpL d (1 :: x) most = Rl.dec (Rl.capm most) x) := hid (by rw [HU.out, if_neg (by decide), if_pos rfl])
    have HC := hid (fun (W : World) (hW : Below w.heap.size w W) => Rl.refDecode_any x _ most W (HF2.out.below hW) HNF.out (by omega))
    go_enter Try.func21, Try.ntmps21
    go_wp2_with fail
    have hbd : Below w.heap.size w w := Below.refl _ _
    refine (HC.out _ hbd).mono ?_
    intro e w2 hq2
    have hr := rl_sec hq2
    have hb0 := hbd.trans hq2.1
    clear hq2 HC
    rcases hr with ⟨l, lv, h1, rfl, hs⟩ | ⟨er, h1, rfl⟩
    · have HX := hid (show SecQ w (unpL d (1 :: x) most) _ _ from ⟨hb0, .inl ⟨l, lv, by rw [HUb.out]; exact h1, rfl, hs⟩⟩)
      clear hs h1
      go_wp2_with fail
      go_ret2
      exact HX.out
    · have HX := hid (show SecQ w (unpL d (1 :: x) most) _ _ from ⟨hb0, .inr ⟨er, by rw [HUb.out]; exact h1, rfl⟩⟩)
      clear h1
      go_wp2_with fail
      go_ret2
      exact HX.out
  by_cases hm2 : m = 2
  · subst hm2
    have HUc : Hid (unpL d (2 :: x) most = match decL d x (8 * most) with | .error e => .error e | .ok y => secL y most) := hid (by rw [HU.out, if_neg (by decide), if_neg (by decide), if_pos rfl])
    have HC := hid (fun (W : World) (hW : Below w.heap.size w W) => refDecode_any d x _ _ (8 * most) W (HV.out.below hW) HVN.out (HF2.out.below hW) HNF.out (by rw [HD.out]; omega) (by omega) (by omega))
    go_enter Try.func21, Try.ntmps21
    go_wp2_with fail
    have hbd : Below w.heap.size w w := Below.refl _ _
    refine (HC.out _ hbd).mono ?_
    rintro e w2 ⟨hb2, ⟨er, he, hne, rfl⟩ | ⟨y, v3, hy, rfl, hv3, hn3⟩⟩
    · have HX := hid (show SecQ w (unpL d (2 :: x) most) (.returned (.tuple #[.slice none 0 0, .int .i64 er])) w2 from ⟨hbd.trans hb2, .inr ⟨er, by rw [HUc.out, he], rfl⟩⟩)
      have f1 : (er == 0) = false := by simpa using hne
      have f2 : (er != 0) = true := by simpa using hne
      have f3 : decide (er = 0) = false := decide_eq_false hne
      clear he hb2 HC
      go_wp2_with fail
      go_ret2
      exact HX.out
    · have HS := hid (refSectors_any y most v3 w2 hv3 (by have := HLX.out y hy; omega))
      have HUd : Hid (unpL d (2 :: x) most = secL y most) := hid (by rw [HUc.out, hy])
      have hb20 := hbd.trans hb2
      clear hy hb2 HC hv3 hn3
      go_wp2_with fail
      refine HS.out.mono ?_
      rintro e w3 ⟨hb3, hr⟩
      have hb0 := below_both hb20 hb3
      clear hb3 HS
      rcases hr with ⟨l, lv, h1, rfl, hs⟩ | ⟨er, h1, rfl⟩
      · have HX := hid (show SecQ w (unpL d (2 :: x) most) _ _ from ⟨hb0, .inl ⟨l, lv, by rw [HUd.out]; exact h1, rfl, hs⟩⟩)
        clear hs h1
        go_wp2_with fail
        go_ret2
        exact HX.out
      · have HX := hid (show SecQ w (unpL d (2 :: x) most) _ _ from ⟨hb0, .inr ⟨er, by rw [HUd.out]; exact h1, rfl⟩⟩)
        clear h1
        go_wp2_with fail
        go_ret2
        exact HX.out
  have HR : Hid (unpL d (m :: x) most = .error 3) := hid (by rw [HU.out, if_neg hm0, if_neg hm1, if_neg hm2])
  have f0 : ¬ (m : Int) = 0 := by omega
  have f1 : ¬ (m : Int) = 1 := by omega
  have f2 : ¬ (m : Int) = 2 := by omega
  have g0 : ((m : Int) == 0) = false := by rw [beq_eq_false_iff_ne]; omega
  have g1 : ((m : Int) == 1) = false := by rw [beq_eq_false_iff_ne]; omega
  have g2 : ((m : Int) == 2) = false := by rw [beq_eq_false_iff_ne]; omega
  go_enter Try.func21, Try.ntmps21
  go_wp2_with fail
  go_ret2
  exact ⟨Below.refl _ _, .inr ⟨3, HR.out, rfl⟩⟩
set_option maxHeartbeats 4000000 in
set_option maxRecDepth 100000 in
theorem same_eq (l : List Sect) (v u : Value) (w : World) (hv : Sec w v l) (hu : Sec w u l) (hl : l.length ≤ 100000) : Calls Try.prog 22 #[v, u] w (SaysQ true w) := by
  obtain ⟨A, c, rfl⟩ := sec_form hv
  obtain ⟨B, c', rfl⟩ := sec_form hu
  have HV := hid hv
  have HU := hid hu
  obtain ⟨n, hn⟩ : ∃ n, l.length = n := ⟨_, rfl⟩
  have HN := hid hn
  rw [hn] at HV HU hl ⊢
  have d1 : ((n : Int) != (n : Int)) = false := by simp
  clear hv hu hn
  go_enter Try.func22, Try.ntmps22
  go_wp2_with fail
  go_loopw [5] (fun i wr => ∃ k : Nat, k ≤ n ∧ i = .int .i64 (k : Int) ∧ ∃ q, wr = w.drewN q) (fun i _ => n - (Go.RowKit.intOf i).toNat)
  case atStart => exact ⟨0, by omega, rfl, 0, rfl⟩
  case round =>
    obtain ⟨k, hk, rfl, q, rfl⟩ := hrel
    by_cases hkn : k < n
    · have hne : l ≠ [] := fun e => by have := HN.out; rw [e] at this; simp at this; omega
      obtain ⟨b1, o1, cp1, e1, hc1, hm1, hb1, hs1⟩ := sec_at HV.out hne
      obtain ⟨b2, o2, cp2, e2, hc2, hm2, hb2, hs2⟩ := sec_at HU.out hne
      injection e1 with f1 f2 f3
      injection e2 with g1 g2 g3
      subst f1 f3 g1 g3
      obtain ⟨s, hs⟩ : ∃ s, l[k]? = some s := ⟨l[k]'(by rw [HN.out]; exact hkn), List.getElem?_eq_getElem _⟩
      have hso := HV.out.1 s (List.mem_of_getElem? hs)
      have s1 := hs1 k s hs
      have s2 := hs2 k s hs
      have heq := fun (W : World) => Rl.eql_sec s s hso.1 hso.1 hso.2 hso.2 W
      rw [decide_eq_true rfl] at heq
      obtain ⟨x0, x1, x2, x3, x4, x5, x6, x7, rfl⟩ := list8 hso.1
      obtain ⟨p0, p1, p2, p3, p4, p5, p6, p7⟩ := s1.facts
      obtain ⟨r0, r1, r2, r3, r4, r5, r6, r7⟩ := s2.facts
      have heq2 : ∀ W : World, (Op.equalIn 10000 44 (.agg #[.int .u8 (x0 : Int), .int .u8 (x1 : Int), .int .u8 (x2 : Int), .int .u8 (x3 : Int), .int .u8 (x4 : Int), .int .u8 (x5 : Int), .int .u8 (x6 : Int), .int .u8 (x7 : Int)]) (.agg #[.int .u8 (x0 : Int), .int .u8 (x1 : Int), .int .u8 (x2 : Int), .int .u8 (x3 : Int), .int .u8 (x4 : Int), .int .u8 (x5 : Int), .int .u8 (x6 : Int), .int .u8 (x7 : Int)])).run Try.prog W = .ok true W := heq
      have hkc : (k : Int) < (n : Int) := by omega
      clear heq hso hs1 hs2 hs s1 s2 hne f2 g2
      go_wp2_with fail
      go_quiet (fail)
      go_wp2_with fail
      go_roundw
      case rel => exact ⟨k + 1, by omega, by go_num, _, rfl⟩
      case measure => simp [Go.RowKit.intOf]; omega
    · obtain rfl : k = n := by omega
      go_wp2_with fail
      go_ret
      exact ⟨rfl, _, rfl⟩
theorem sec_nil (w : World) : Sec w (.slice none 0 0) [] := Rl.sec_of_own (base := 0) (World.ownsRow_nil _ _ _ _) (fun s hs => by cases hs)
theorem below_dn {B : Nat} {a w : World} (h : Below B a w) (n : Nat) : Below B a (w.drewN n) := ⟨h.os, h.tape, h.output, h.size, h.block⟩
theorem sec_err {w w' : World} {r : Except Int (List Sect)} {er : Int} {e : Ending} (h : SecQ w r e w') (hr : r = .error er) : e = .returned (.tuple #[.slice none 0 0, .int .i64 er]) := by
  rcases h.2 with ⟨l, lv, h1, _⟩ | ⟨e', h1, h2⟩
  · rw [hr] at h1; cases h1
  · rw [hr] at h1; cases h1; exact h2
theorem sec_ok {w w' : World} {r : Except Int (List Sect)} {l : List Sect} {e : Ending} (h : SecQ w r e w') (hr : r = .ok l) : ∃ lv, e = .returned (.tuple #[lv, .int .i64 0]) ∧ Sec w' lv l := by
  rcases h.2 with ⟨l', lv, h1, h2, h3⟩ | ⟨e', h1, _⟩
  · rw [hr] at h1; cases h1; exact ⟨lv, h2, h3⟩
  · rw [hr] at h1; cases h1
theorem secL_len {b : List Nat} {most : Int} {l : List Sect} (h : secL b most = .ok l) : l.length ≤ b.length := by
  unfold secL at h
  split at h
  · cases h
  · split at h
    · cases h
    · injection h with h
      rw [← h]
      exact C8.ck_len _ _
theorem unpL_len {d b : List Nat} {most : Int} {l : List Sect} (h : unpL d b most = .ok l) (hb : b.length ≤ 400) : l.length ≤ 32768 := by
  unfold unpL at h
  split at h
  · cases h
  · rename_i hm
    split at h
    · cases h
    · rename_i m x
      rw [List.length_cons] at hb
      split at h
      · have := secL_len h
        omega
      · split at h
        · have := (Rl.dec_ok h).2
          have : Rl.capm most ≤ 4096 := by unfold Rl.capm; omega
          omega
        · split at h
          · split at h
            · cases h
            · rename_i y hy
              have h1 := secL_len h
              have h2 := decL_len hy
              omega
          · cases h
set_option maxHeartbeats 4000000 in
set_option maxRecDepth 100000 in
theorem unpacks_walk (d b : List Nat) (most : Int) (v u : Value) (w : World) (hv : Byt w v d) (hn : NilOk v) (hu : Byt w u b) (_hun : NilOk u) (_hmo : most ≤ 9223372036854775807) : Calls Try.prog 6 #[v, u, .int .i64 most] w (GoodB w) := by
  have hld := byt_len hv
  have hlb := byt_len hu
  have HV := hid hv
  have HU := hid hu
  have HVN := hid hn
  obtain ⟨A, c, rfl⟩ := byt_form hv
  obtain ⟨B, c', rfl⟩ := byt_form hu
  have hal := al1 w (.cells #[.slice A d.length c, .slice B b.length c'] 22)
  have HAL := hid hal
  have HS := hid (small_two A B d.length c b.length c' w hld hlb)
  have HV1 := hid (hv.below hal)
  have HU1 := hid (hu.below hal)
  obtain ⟨n, hnn⟩ : ∃ n, d.length = n := ⟨_, rfl⟩
  obtain ⟨m, hmm⟩ : ∃ m, b.length = m := ⟨_, rfl⟩
  have HNN := hid hnn
  have HMM := hid hmm
  rw [hnn] at HV HVN HAL HS HV1 hld ⊢
  rw [hmm] at HU HAL HS HU1 HV1 hlb ⊢
  rw [hnn] at HU1
  obtain ⟨W1, hW1⟩ : ∃ W, w.alloc (.cells #[.slice A n c, .slice B m c'] 22) = W := ⟨_, rfl⟩
  rw [hW1] at HAL HS HV1 HU1
  have HW1 := hid hW1
  clear hv hn hu hal hnn hmm hW1
  by_cases hsm : n ≤ 400 ∧ m ≤ 400
  · rw [decide_eq_true hsm] at HS
    by_cases h3 : 300 < most
    · have e1 : decide (300 < most) = true := decide_eq_true h3
      by_cases h4 : most ≤ 4096
      · have e2 : decide (most ≤ 4096) = true := decide_eq_true h4
        go_enter Try.func6, Try.ntmps6
        go_wp2_with fail
        rw [HW1.out]
        refine HS.out.mono ?_
        rintro e w2 ⟨rfl, hw2⟩
        rw [hw2] at HAL
        clear hw2 HS HW1
        go_wp2_with fail
        refine (awake_any _).mono ?_
        rintro e w3 ⟨rfl, hb3⟩
        have HB3 := hid (HAL.out.trans (hb3.mono HAL.out.size))
        clear hb3
        go_wp2_with fail
        go_ret
        exact ⟨rfl, HB3.out⟩
      · have e2 : decide (most ≤ 4096) = false := decide_eq_false h4
        have HC := hid (unpack_any d b _ _ most W1 HV1.out HVN.out HU1.out (by rw [HNN.out]; omega) (by rw [HMM.out]; omega))
        go_enter Try.func6, Try.ntmps6
        go_wp2_with fail
        rw [HW1.out]
        refine HS.out.mono ?_
        rintro e w2 ⟨rfl, hw2⟩
        rw [hw2] at HAL HV1 HU1 HC
        clear hw2 HS HW1
        go_wp2_with fail
        refine HC.out.mono ?_
        intro e w3 hq3
        have hb3 := hq3.1
        have HB3 := hid (HAL.out.trans (hb3.mono HAL.out.size))
        have HD := hid (refUnpack_any d b _ _ most w3 (HV1.out.below hb3) HVN.out (HU1.out.below hb3) (by rw [HNN.out]; omega) (by rw [HMM.out]; omega))
        rcases hdr : unpL d b most with er | l
        · obtain rfl := sec_err hq3 hdr
          have HDR := hid hdr
          clear hq3 hb3 hdr HC
          go_wp2_with fail
          refine HD.out.mono ?_
          intro e w4 hq4
          obtain rfl := sec_err hq4 HDR.out
          have hb4 := hq4.1
          have HB4 := hid (HB3.out.trans (hb4.mono HB3.out.size))
          clear hq4 hb4 HD
          go_wp2_with fail
          refine (awake_any _).mono ?_
          rintro e w5 ⟨rfl, hb5⟩
          have HB5 := hid (HB4.out.trans (hb5.mono HB4.out.size))
          have HQ := hid (same_eq [] (.slice none 0 0) (.slice none 0 0) w5 (sec_nil _) (sec_nil _) (by simp))
          have f1 : (er == er) = true := by simp
          have f2 : decide (er = er) = true := by simp
          clear hb5
          go_wp2_with fail
          refine HQ.out.mono ?_
          rintro e w6 ⟨rfl, nn, rfl⟩
          go_wp2_with fail
          go_ret
          exact ⟨rfl, below_dn HB5.out nn⟩
        · obtain ⟨v3, rfl, hv3⟩ := sec_ok hq3 hdr
          have HLL := hid (unpL_len hdr (by rw [HMM.out]; omega))
          have HDR := hid hdr
          have HV3 := hid hv3
          clear hq3 hb3 hdr HC hv3
          go_wp2_with fail
          refine HD.out.mono ?_
          intro e w4 hq4
          obtain ⟨v4, rfl, hv4⟩ := sec_ok hq4 HDR.out
          have hb4 := hq4.1
          have HB4 := hid (HB3.out.trans (hb4.mono HB3.out.size))
          have HV3 := hid (HV3.out.below hb4)
          have HV4 := hid hv4
          clear hq4 hb4 hv4 HD
          go_wp2_with fail
          refine (awake_any _).mono ?_
          rintro e w5 ⟨rfl, hb5⟩
          have HB5 := hid (HB4.out.trans (hb5.mono HB4.out.size))
          have HQ := hid (same_eq l _ _ w5 (HV3.out.below hb5) (HV4.out.below hb5) (by have := HLL.out; omega))
          clear hb5
          go_wp2_with fail
          refine HQ.out.mono ?_
          rintro e w6 ⟨rfl, nn, rfl⟩
          go_wp2_with fail
          go_ret
          exact ⟨rfl, below_dn HB5.out nn⟩
    · have e1 : decide (300 < most) = false := decide_eq_false h3
      have HC := hid (unpack_any d b _ _ most W1 HV1.out HVN.out HU1.out (by rw [HNN.out]; omega) (by rw [HMM.out]; omega))
      go_enter Try.func6, Try.ntmps6
      go_wp2_with fail
      rw [HW1.out]
      refine HS.out.mono ?_
      rintro e w2 ⟨rfl, hw2⟩
      rw [hw2] at HAL HV1 HU1 HC
      clear hw2 HS HW1
      go_wp2_with fail
      refine HC.out.mono ?_
      intro e w3 hq3
      have hb3 := hq3.1
      have HB3 := hid (HAL.out.trans (hb3.mono HAL.out.size))
      have HD := hid (refUnpack_any d b _ _ most w3 (HV1.out.below hb3) HVN.out (HU1.out.below hb3) (by rw [HNN.out]; omega) (by rw [HMM.out]; omega))
      rcases hdr : unpL d b most with er | l
      · obtain rfl := sec_err hq3 hdr
        have HDR := hid hdr
        clear hq3 hb3 hdr HC
        go_wp2_with fail
        refine HD.out.mono ?_
        intro e w4 hq4
        obtain rfl := sec_err hq4 HDR.out
        have hb4 := hq4.1
        have HB4 := hid (HB3.out.trans (hb4.mono HB3.out.size))
        clear hq4 hb4 HD
        go_wp2_with fail
        refine (awake_any _).mono ?_
        rintro e w5 ⟨rfl, hb5⟩
        have HB5 := hid (HB4.out.trans (hb5.mono HB4.out.size))
        have HQ := hid (same_eq [] (.slice none 0 0) (.slice none 0 0) w5 (sec_nil _) (sec_nil _) (by simp))
        have f1 : (er == er) = true := by simp
        have f2 : decide (er = er) = true := by simp
        clear hb5
        go_wp2_with fail
        refine HQ.out.mono ?_
        rintro e w6 ⟨rfl, nn, rfl⟩
        go_wp2_with fail
        go_ret
        exact ⟨rfl, below_dn HB5.out nn⟩
      · obtain ⟨v3, rfl, hv3⟩ := sec_ok hq3 hdr
        have HLL := hid (unpL_len hdr (by rw [HMM.out]; omega))
        have HDR := hid hdr
        have HV3 := hid hv3
        clear hq3 hb3 hdr HC hv3
        go_wp2_with fail
        refine HD.out.mono ?_
        intro e w4 hq4
        obtain ⟨v4, rfl, hv4⟩ := sec_ok hq4 HDR.out
        have hb4 := hq4.1
        have HB4 := hid (HB3.out.trans (hb4.mono HB3.out.size))
        have HV3 := hid (HV3.out.below hb4)
        have HV4 := hid hv4
        clear hq4 hb4 hv4 HD
        go_wp2_with fail
        refine (awake_any _).mono ?_
        rintro e w5 ⟨rfl, hb5⟩
        have HB5 := hid (HB4.out.trans (hb5.mono HB4.out.size))
        have HQ := hid (same_eq l _ _ w5 (HV3.out.below hb5) (HV4.out.below hb5) (by have := HLL.out; omega))
        clear hb5
        go_wp2_with fail
        refine HQ.out.mono ?_
        rintro e w6 ⟨rfl, nn, rfl⟩
        go_wp2_with fail
        go_ret
        exact ⟨rfl, below_dn HB5.out nn⟩
  · rw [decide_eq_false hsm] at HS
    go_enter Try.func6, Try.ntmps6
    go_wp2_with fail
    rw [HW1.out]
    refine HS.out.mono ?_
    rintro e w2 ⟨rfl, hw2⟩
    rw [hw2] at HAL
    clear hw2 HS HW1
    go_wp2_with fail
    refine (awake_any _).mono ?_
    rintro e w3 ⟨rfl, hb3⟩
    have HB3 := hid (HAL.out.trans (hb3.mono HAL.out.size))
    clear hb3
    go_wp2_with fail
    go_ret
    exact ⟨rfl, HB3.out⟩
end Go.Proofs.Ytldlddoealpomaa
