/- Deliver. -/
import Derived.Test.YtacpejoablcffaaL
namespace Go.Proofs.Ytacpejoablcffaa
open Go.RowKit Go.Lib

/-- How many flights arrive. -/
def delN (s : Lk) (l : List Fc) (now : Int) : Nat := if chk s l = 0 then unt l now else 0
theorem delN_le (s : Lk) (l : List Fc) (now : Int) : delN s l now ≤ l.length := by
  unfold delN
  split
  · exact unt_le _ _
  · omega
theorem info37 : (Try.prog.info? 37).map (fun i => (i.zero, i.size, i.bytes)) = some (some (.slice none 0 0), 1, 24) := by kernel_rfl
set_option maxRecDepth 100000 in
theorem append_pay {ops : Array Oper} {rest : List Oper} {o : Oper} {a : Act} {w : World} {Q : Exit → Act → World → Prop} (hgd : o.guard = none) (s x : Operand) (ho : o.op = .call { callee := .builtin .append, args := #[s, x], argTypes := #[47, 47] })
    (base : Nat) (v : Value) (n : Nat) (olds : List Value) (hs : a.eval s = v) (hown : w.ownsRow base 37 1 v n olds) (A : Option Addr) (m c0 : Nat) (ad : Addr) (c : Nat) (hx : a.eval x = .slice (some ad) 1 c)
    (hc : w.cell? ad = some (.slice A m c0)) (b1 : n + 1 ≤ 1000000) (hbase : base ≤ w.heap.size)
    (h : ∀ v' w', w'.ownsRow base 37 1 v' (n + 1) (olds ++ [.slice A m c0]) → w.grownBy w' v.ownBlock → wpList Try.prog ops Q rest (a.put o.dst v') w') : wpList Try.prog ops Q (o :: rest) a w := by
  obtain ⟨i0, hi, hz0, hz1, hz2⟩ := info_parts info37
  refine wpList_append_own w hgd s x 47 ho base 37 i0 _ 1 24 Try.underlying47 hi hz0 hz1 hz2 rfl (by decide) v n olds hs hown ad 1 c _ hx rfl ?_ ?_ (by unfold maxLen; omega) (by omega) hbase (fun v' w' h1 h2 _ => h v' w' h1 h2)
  · intro j u hu
    have hj : j = 0 := by have := (List.getElem?_eq_some_iff.1 hu).1; simp at this; exact this
    subst hj
    simp at hu
    subst hu
    have e : ad.add 0 = ad := by obtain ⟨b, o, s⟩ := ad; unfold Addr.add; cases s <;> simp
    rw [e]
    exact hc
  · intro u hu
    simp at hu
    subst hu
    rfl
/-- What Deliver gives. -/
def DelvQ (w : World) (s : Lk) (l : List Fc) (n : Nat) (e : Ending) (w' : World) : Prop :=
  ∃ (v pv : Value) (ps : List Fl), e = .returned (.tuple #[v, pv]) ∧ OwnL w' w.heap.size s (l.drop n) v ∧ w'.ownsRow w.heap.size 37 1 pv ps.length (ps.map Fl.d) ∧ ps.map core = l.take n ∧ (∀ x ∈ ps, Pay w' x) ∧ Below w.heap.size w w'
set_option maxHeartbeats 4000000 in
set_option maxRecDepth 100000 in
theorem deliver_any (s : Lk) (l : List Fl) (v : Value) (now : Int) (w : World) (hv : FL w v l) (hr : ∀ x ∈ l, R64 x.n) (hl : l.length ≤ 100000) (hb : ∀ x ∈ l, x.p.length ≤ 100000) :
    Calls Try.prog 21 #[vLk s v, .int .i64 now] w (DelvQ w s (l.map core) (delN s (l.map core) now)) := by
  obtain ⟨n, hR⟩ : ∃ n, delN s (l.map core) now = n := ⟨_, rfl⟩
  have hnl : n ≤ l.length := by rw [← hR]; have := delN_le s (l.map core) now; rwa [List.length_map] at this
  rw [hR]
  have HR := hid hR
  have HPB := hid hb
  clear hR hb
  obtain ⟨A, c, rfl⟩ := fl_form hv
  obtain ⟨N, hN⟩ : ∃ N, l.length = N := ⟨_, rfl⟩
  rw [hN] at hv hl hnl ⊢
  obtain ⟨mn, mx, rt, dn, idle, next⟩ := s
  unfold vLk
  dsimp only
  obtain ⟨g, hg⟩ : ∃ g, w.heap.size = g := ⟨_, rfl⟩
  obtain ⟨W1, hW1⟩ : ∃ W1, (w.alloc (.cells #[.int .i64 mn, .int .i64 mx, .int .i64 rt, .bool dn, .int .i64 idle, .int .i64 next, .slice A N c] 26)).alloc (.cells #[.int .i64 0, .int .i64 0, .int .i64 0, .bool false, .int .i64 0, .int .i64 0, .slice none 0 0] 26) = W1 := ⟨_, rfl⟩
  have hb1 : Below w.heap.size w W1 := by rw [← hW1]; exact ((Below.refl _ w).alloc (Nat.le_refl _) _).alloc (by simp) _
  have hx1 : W1.heap[g]? = some (.cells #[.int .i64 mn, .int .i64 mx, .int .i64 rt, .bool dn, .int .i64 idle, .int .i64 next, .slice A N c] 26) := by rw [← hW1, ← hg]; exact (Below.heap_alloc _ _ _ (by simp)).trans (heap_alloc_new w _)
  have hy1 : W1.heap[g + 1]? = some (.cells #[.int .i64 0, .int .i64 0, .int .i64 0, .bool false, .int .i64 0, .int .i64 0, .slice none 0 0] 26) := by rw [← hW1, ← hg]; simpa using heap_alloc_new (w.alloc (.cells #[.int .i64 mn, .int .i64 mx, .int .i64 rt, .bool dn, .int .i64 idle, .int .i64 next, .slice A N c] 26)) (.cells #[.int .i64 0, .int .i64 0, .int .i64 0, .bool false, .int .i64 0, .int .i64 0, .slice none 0 0] 26)
  have HY1 := hid hy1
  have hz1 : W1.heap.size = g + 2 := by rw [← hW1, ← hg]; simp
  obtain ⟨ck, hck⟩ : ∃ ck, chk ⟨mn, mx, rt, dn, idle, next⟩ (l.map core) = ck := ⟨_, rfl⟩
  have HCK := hid (fun (X : World) (hX : Below w.heap.size w X) => check_any ⟨mn, mx, rt, dn, idle, next⟩ l _ X (hv.below hX) hr)
  rw [hck] at HCK
  have HCE := hid hck
  have HV := hid hv
  have HN := hid hN
  have HB1 := hid hb1
  have HX1 := hid hx1
  have HZ1 := hid hz1
  have HW1 := hid hW1
  have HG := hid hg
  have x0 := cell_of_row _ _ 0 _ _ _ HX1.out
  have x1 := cell_of_row _ _ 1 _ _ _ HX1.out
  have x2 := cell_of_row _ _ 2 _ _ _ HX1.out
  have x3 := cell_of_row _ _ 3 _ _ _ HX1.out
  have x4 := cell_of_row _ _ 4 _ _ _ HX1.out
  have x5 := cell_of_row _ _ 5 _ _ _ HX1.out
  have x6 := cell_of_row _ _ 6 _ _ _ HX1.out
  clear hv hr hN hb1 hx1 hy1 hz1 hW1 hg hck
  go_enter Try.func21, Try.ntmps21
  go_wp2_with fail
  rw [HW1.out, HG.out]
  refine (HCK.out W1 HB1.out).mono ?_
  rintro e w2 ⟨rfl, hb2⟩
  have HX2 := hid ((hb2.block _ (box_lt HX1.out)).trans HX1.out)
  have HY2 := hid ((hb2.block _ (box_lt HY1.out)).trans HY1.out)
  have HB2 := hid (HB1.out.trans (hb2.mono HB1.out.size))
  have hz2 : g + 2 ≤ w2.heap.size := by rw [← HZ1.out]; exact hb2.size
  clear hb2 HCK x0 x1 x2 x3 x4 x5 x6
  have x6 := cell_of_row _ _ 6 _ _ _ HX2.out
  obtain ⟨bk, hbk⟩ : ∃ b, (ck == 0) = b := ⟨_, rfl⟩
  have HBK := hid hbk
  go_upto_if 12 with fail
  go_cut [6] from 13 to 29 (fun s6 wx => s6 = .int .i64 (n : Int) ∧ wx = w2)
  case first =>
    rcases bk with _ | _
    · have hn0 : n = 0 := by rw [← HR.out]; unfold delN; rw [HCE.out, if_neg (by rw [← beq_iff_eq, HBK.out]; simp)]
      subst hn0
      go_wp2_with fail
      go_meet
      exact ⟨rfl, rfl⟩
    · have hn0 : unt (l.map core) now = n := by rw [← HR.out]; unfold delN; rw [HCE.out, if_pos (by rw [← beq_iff_eq, HBK.out])]
      have HU := hid hn0
      clear hn0
      go_wp2_with fail
      go_loopw [6] (fun i wr => ∃ k : Nat, k ≤ N ∧ i = .int .i64 (k : Int) ∧ Hid (n = k + unt ((l.map core).drop k) now) ∧ wr = w2) (fun i _ => N - (Go.RowKit.intOf i).toNat)
      case atStart => exact ⟨0, Nat.zero_le _, rfl, hid (by rw [List.drop_zero, Nat.zero_add]; exact HU.out.symm), rfl⟩
      case round =>
        obtain ⟨k, hk, rfl, HK, rfl⟩ := hrel
        by_cases hkn : k < N
        · have hkn' : (k : Int) < (N : Int) := by omega
          have dk : decide ((k : Int) < (N : Int)) = true := decide_eq_true hkn'
          have dk' : decide (k < N) = true := decide_eq_true hkn
          obtain ⟨b, off, rfl, hbl, hc⟩ := fl_cells (HV.out.below HB2.out) (by rw [HN.out]; omega)
          obtain ⟨x, hx⟩ : ∃ x, l[k]? = some x := ⟨l[k]'(by rw [HN.out]; exact hkn), List.getElem?_eq_getElem _⟩
          obtain ⟨q0, _, _⟩ := hc k x hx
          have hud := unt_drop (l := l.map core) (i := k) (x := core x) (by rw [List.getElem?_map, hx]; rfl) now
          obtain ⟨xt, xn, xd, xp⟩ := x
          dsimp only at q0
          replace hud : unt ((l.map core).drop k) now = if now < xt then 0 else unt ((l.map core).drop (k + 1)) now + 1 := hud
          clear hc hx
          by_cases hle : xt ≤ now
          · have dle : decide (xt ≤ now) = true := decide_eq_true hle
            have HK2 : Hid (n = (k + 1 : Nat) + unt ((l.map core).drop (k + 1)) now) := hid (by
              have h := HK.out
              rw [hud, if_neg (show ¬ now < xt by omega)] at h
              omega)
            clear hle hud
            go_wp2_with fail
            go_roundw
            case rel => exact ⟨k + 1, by omega, by go_num, HK2, by first | rfl | trivial⟩
            case measure => simp [Go.RowKit.intOf]; omega
          · have dle : decide (xt ≤ now) = false := decide_eq_false hle
            have HK2 : Hid (n = k) := hid (by
              have h := HK.out
              rw [hud, if_pos (show now < xt by omega)] at h
              omega)
            clear hle hud
            go_wp2_with fail
            go_meet
            exact ⟨by rw [HK2.out], by first | rfl | trivial⟩
        · obtain rfl : k = N := by omega
          have dk : decide ((k : Int) < (k : Int)) = false := decide_eq_false (by omega)
          have dk' : decide (k < k) = false := decide_eq_false (by omega)
          have HK2 : Hid (n = k) := hid (by
            have h := HK.out
            rw [List.drop_of_length_le (by rw [List.length_map, HN.out]; exact Nat.le_refl _)] at h
            exact h)
          go_wp2_with fail
          go_meet
          exact ⟨by rw [HK2.out], by first | rfl | trivial⟩
  case rest =>
    obtain ⟨rfl, hwc⟩ := hcut
    have hwc' := hwc.symm
    subst hwc'
    clear hwc
    have hnc : n ≤ c := by have := (fl_cap (HV.out.below HB2.out)).2.1; rw [HN.out] at this; omega
    have hsl := run_to24 A N c n hnc
    have hsl2 := run_from24 A N c n hnl
    have HSL2 := hid hsl2
    clear hsl2
    go_wp2_with fail
    go_loopw [7, 35] (fun pv i wr => ∃ (k : Nat) (ps : List Fl), k ≤ n ∧ i = .int .i64 (k : Int) ∧ Hid (ps.length = k) ∧ Hid (ps.map core = (l.map core).take k) ∧ Hid (wr.ownsRow w2.heap.size 37 1 pv k (ps.map Fl.d)) ∧ Hid (∀ x ∈ ps, Pay wr x) ∧ Hid (Below w2.heap.size w2 wr)) (fun _ i _ => n - (Lib.intOf i).toNat)
    case atStart => exact ⟨0, [], Nat.zero_le _, rfl, hid rfl, hid (by simp), hid (World.ownsRow_nil _ _ _ _), hid (fun x hx => by cases hx), hid (Below.refl _ _)⟩
    case round =>
      obtain ⟨k, ps, hk, rfl, HM, HVS, HO, HP, HB⟩ := hrel
      clear hsl
      obtain ⟨eA, ec, rfl⟩ := own_formE HO.out
      have HX := hid ((HB.out.block _ (box_lt HX2.out)).trans HX2.out)
      have HY := hid ((HB.out.block _ (box_lt HY2.out)).trans HY2.out)
      have HBW := hid (HB2.out.trans (HB.out.mono HB2.out.size))
      by_cases hkn : k < n
      · have hkn' : (k : Int) < (n : Int) := by omega
        obtain ⟨b, off, rfl, hbl, hc⟩ := fl_cells (HV.out.below HBW.out) (by rw [HN.out]; omega)
        obtain ⟨x, hx⟩ : ∃ x, l[k]? = some x := ⟨l[k]'(by rw [HN.out]; omega), List.getElem?_eq_getElem _⟩
        obtain ⟨q0, q1, q2⟩ := hc k x hx
        have hxb := (HV.out.below HBW.out).1 x (List.mem_of_getElem? hx)
        have hxl := HPB.out x (List.mem_of_getElem? hx)
        have HTK := hid (show (l.map core).take (k + 1) = (l.map core).take k ++ [core x] from take_succ'' (by rw [List.getElem?_map, hx]; rfl))
        clear hc hx x6
        obtain ⟨xt, xn, xd, xp⟩ := x
        dsimp only at q0 q1 q2 hxb hxl
        obtain ⟨xA, xc, rfl⟩ := byt_form hxb.1
        obtain ⟨xm, hxm⟩ : ∃ xm, xp.length = xm := ⟨_, rfl⟩
        rw [hxm] at q2 hxb hxl
        have HXM := hid hxm
        obtain ⟨W3, hW3⟩ : ∃ W3, wr.alloc (.cells #[.int .i64 xt, .int .i64 xn, .slice xA xm xc] 69) = W3 := ⟨_, rfl⟩
        have hb3 : Below wr.heap.size wr W3 := by rw [← hW3]; exact al1 _ _
        have HCE := hid (clone_any xp (.slice xA xm xc) W3 (hxb.1.below hb3) hxb.2 (by omega))
        have HB3 := hid (HB.out.trans (hb3.mono HB.out.size))
        have HO3 := hid (own_keep HO.out (keep_below hb3))
        have HP3 := hid (fun x hx => (HP.out x hx).keep (keep_below hb3))
        have HW3 := hid hW3
        have H8 := hid hxb.1.1
        clear hb3 hxb hxm hW3
        go_wp2_with fail
        rw [HW3.out]
        refine HCE.out.mono ?_
        rintro e w4 ⟨v4, rfl, ho4, hb4⟩
        obtain ⟨dA, dc, rfl⟩ := own_form ho4
        rw [HXM.out] at ho4 ⊢
        have HB4 := hid (HB3.out.trans (hb4.mono HB3.out.size))
        have HO4 := hid (own_keep HO3.out (keep_below hb4))
        have HP4 := hid (fun x hx => (HP3.out x hx).keep (keep_below hb4))
        have HQ4 := hid ho4
        have hz4 := HB4.out.size
        clear hb4 ho4 HCE
        go_wp2_with (at_builtin; refine append_pay rfl (.tmp 39) (.tmp 43) rfl w2.heap.size (.slice eA k ec) k _ rfl (own_keep HO4.out (keep_below (al1 _ _))) dA xm dc ⟨w4.heap.size, 0, none⟩ 1 rfl (by rw [cell_of_row _ _ _ _ _ _ (heap_alloc_new _ _)]; rfl) (by omega) (by simp at *; omega) ?_; intro v5 w5 ho5 hg5; have how := own_keep HO4.out (keep_below (al1 w4 (.cells #[.slice dA xm dc] 37))); have hkp := keep_grown (T := 5) how (by decide) hg5; have HB5 := hid ((HB4.out.alloc hz4 _).grown hg5 (by simp at *; omega) (fun k e => (how.lt k e).1)); have HP5 := hid (fun x hx => ((HP4.out x hx).keep (keep_below (al1 _ _))).keep hkp); have HQ5 := hid (own_keep (own_keep HQ4.out (keep_below (al1 _ _))) hkp); obtain ⟨a5, c5, rfl⟩ := own_formE ho5; have HO5 := hid ho5; clear ho5 hg5 hkp how)
        go_roundw
        case rel => exact ⟨k + 1, ps ++ [⟨xt, xn, .slice dA xm dc, xp⟩], by omega, by go_num, hid (by rw [List.length_append, HM.out]; rfl), hid (by rw [List.map_append, HVS.out, HTK.out]; rfl), hid (by rw [List.map_append]; exact HO5.out), hid (fun x hx => (List.mem_append.1 hx).elim (HP5.out x) (fun hx => by rw [List.mem_singleton] at hx; subst hx; exact ⟨⟨_, by dsimp only; rw [HXM.out]; exact HQ5.out⟩, H8.out⟩)), HB5⟩
        case measure => simp [Lib.intOf]; omega
      · obtain rfl : k = n := by omega
        have hsl2 := HSL2.out
        have hmid := fl_mid (HV.out.below HBW.out) k N hnl (by rw [HN.out]; exact Nat.le_refl _)
        rw [List.take_of_length_le (by rw [List.length_drop, HN.out]; exact Nat.le_refl _)] at hmid
        obtain ⟨fA, hfA⟩ : ∃ fA, fromN 3 A c k = fA := ⟨_, rfl⟩
        obtain ⟨m, hm⟩ : ∃ m, N - k = m := ⟨_, rfl⟩
        obtain ⟨cm, hcm⟩ : ∃ m, c - k = m := ⟨_, rfl⟩
        rw [hfA, hm, hcm] at hsl2 hmid
        have hkN : (k : Int) ≤ (N : Int) := by omega
        have HWI := hid (with_any mn mx rt dn idle next (.slice A N c) (l.drop k) (.slice fA m cm) wr.drew (hmid.below (Below.refl _ _).drew) (by rw [List.length_drop, HN.out]; omega) (fun x hx => HPB.out x (List.mem_of_mem_drop hx)))
        have HDK := hid (show (l.drop k).map core = (l.map core).drop k from List.map_drop)
        clear hmid hfA hm hcm x6
        have x0 := cell_of_row _ _ 0 _ _ _ HX.out
        have x1 := cell_of_row _ _ 1 _ _ _ HX.out
        have x2 := cell_of_row _ _ 2 _ _ _ HX.out
        have x3 := cell_of_row _ _ 3 _ _ _ HX.out
        have x4 := cell_of_row _ _ 4 _ _ _ HX.out
        have x5 := cell_of_row _ _ 5 _ _ _ HX.out
        have x6 := cell_of_row _ _ 6 _ _ _ HX.out
        have y0 := cell_of_row _ _ 0 _ _ _ HY.out
        have y1 := cell_of_row _ _ 1 _ _ _ HY.out
        have y2 := cell_of_row _ _ 2 _ _ _ HY.out
        have y3 := cell_of_row _ _ 3 _ _ _ HY.out
        have y4 := cell_of_row _ _ 4 _ _ _ HY.out
        have y5 := cell_of_row _ _ 5 _ _ _ HY.out
        have y6 := cell_of_row _ _ 6 _ _ _ HY.out
        have fy0 := box_fr HY.out 0
        have fy1 := box_fr HY.out 1
        have fy2 := box_fr HY.out 2
        have fy3 := box_fr HY.out 3
        have fy4 := box_fr HY.out 4
        have fy5 := box_fr HY.out 5
        have fy6 := box_fr HY.out 6
        go_wp2_with fail
        go_region_held3 (fun X => X.cell? ⟨g, 0, none⟩ = some (.int .i64 mn) ∧ X.cell? ⟨g, 1, none⟩ = some (.int .i64 mx) ∧ X.cell? ⟨g, 2, none⟩ = some (.int .i64 rt) ∧ X.cell? ⟨g, 3, none⟩ = some (.bool dn) ∧ X.cell? ⟨g, 4, none⟩ = some (.int .i64 idle) ∧ X.cell? ⟨g, 5, none⟩ = some (.int .i64 (next)) ∧ X.cell? ⟨g, 6, none⟩ = some (.slice A N c)) (go_keep)
          (first | (go_at_call 38; refine HWI.out.mono ?_; rintro e w4 ⟨fv, vs, rfl, ho4, hc4, hp4, hb4'⟩; obtain ⟨fA4, fc4, rfl⟩ := own_form69 ho4; have hb4 : Below wr.heap.size wr w4 := ⟨hb4'.os, hb4'.tape, hb4'.output, hb4'.size, hb4'.block⟩; have HO4 := hid (own_keep HO.out (keep_below hb4)); have HP4 := hid (fun x hx => (HP.out x hx).keep (keep_below hb4)); have HX4 := hid ((hb4.block _ (box_lt HX.out)).trans HX.out); have HY4 := hid ((hb4.block _ (box_lt HY.out)).trans HY.out); have HB4 := hid (HBW.out.trans (hb4.mono HBW.out.size)); have HF4 := hid ho4; have HFP4 := hid hp4; have HFC4 := hid hc4; have hs4 : w2.heap.size ≤ wr.heap.size := HB.out.size; have x0 := cell_of_row _ _ 0 _ _ _ HX4.out; have x1 := cell_of_row _ _ 1 _ _ _ HX4.out; have x2 := cell_of_row _ _ 2 _ _ _ HX4.out; have x3 := cell_of_row _ _ 3 _ _ _ HX4.out; have x4 := cell_of_row _ _ 4 _ _ _ HX4.out; have x5 := cell_of_row _ _ 5 _ _ _ HX4.out; have x6 := cell_of_row _ _ 6 _ _ _ HX4.out; have y0 := cell_of_row _ _ 0 _ _ _ HY4.out; have y1 := cell_of_row _ _ 1 _ _ _ HY4.out; have y2 := cell_of_row _ _ 2 _ _ _ HY4.out; have y3 := cell_of_row _ _ 3 _ _ _ HY4.out; have y4 := cell_of_row _ _ 4 _ _ _ HY4.out; have y5 := cell_of_row _ _ 5 _ _ _ HY4.out; have y6 := cell_of_row _ _ 6 _ _ _ HY4.out; have fy0 := box_fr HY4.out 0; have fy1 := box_fr HY4.out 1; have fy2 := box_fr HY4.out 2; have fy3 := box_fr HY4.out 3; have fy4 := box_fr HY4.out 4; have fy5 := box_fr HY4.out 5; have fy6 := box_fr HY4.out 6; clear ho4 hp4 hc4 hb4 hb4'))
        go_wp2_with fail
        refine bodyPost_ret (results_v1 rfl _ _ (g + 1) _ rfl (lv26 (set7h _ _ _ _ _ _ _ HY4.out)) _ rfl) rfl ?_
        have hkp : Keep 5 w4 (set7 w4 (g + 1) (.int .i64 mn) (.int .i64 mx) (.int .i64 rt) (.bool dn) (.int .i64 idle) (.int .i64 next) (.slice fA4 vs.length fc4)) := fun q cs hq => (set7o _ _ _ _ _ _ _ (fun e => by rw [e, HY4.out] at hq; cases hq)).trans hq
        refine ⟨_, _, ps, rfl, ⟨_, vs, rfl, own_base (set7r _ _ _ _ _ _ _ HF4.out (own_ne HF4.out HY4.out (by decide))) (by show w.heap.size ≤ wr.heap.size; have := HG.out; omega), HFC4.out.trans HDK.out, fun x hx => (HFP4.out x hx).keep hkp⟩, ?_, HVS.out, fun x hx => (HP4.out x hx).keep hkp, set7b _ _ _ _ _ _ _ HB4.out (by rw [HG.out]; omega)⟩
        rw [HM.out]
        exact own_base (set7r _ _ _ _ _ _ _ HO4.out (own_ne HO4.out HY4.out (by decide))) (by have := HG.out; omega)
end Go.Proofs.Ytacpejoablcffaa
