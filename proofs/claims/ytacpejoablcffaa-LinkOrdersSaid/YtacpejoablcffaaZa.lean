/- The law LinkTimes walked. -/
import Derived.Test.YtacpejoablcffaaZ
namespace Go.Proofs.Ytacpejoablcffaa
open Go.RowKit Go.Lib

set_option maxRecDepth 100000 in
theorem append_int {ops : Array Oper} {rest : List Oper} {o : Oper} {a : Act} {w : World} {Q : Exit → Act → World → Prop} (hgd : o.guard = none) (s x : Operand) (ho : o.op = .call { callee := .builtin .append, args := #[s, x], argTypes := #[40, 40] })
    (base : Nat) (v : Value) (n : Nat) (olds : List Value) (hs : a.eval s = v) (hown : w.ownsRow base 3 1 v n olds) (y : Int) (ad : Addr) (c : Nat) (hx : a.eval x = .slice (some ad) 1 c)
    (hc : w.cell? ad = some (.int .i64 y)) (b1 : n + 1 ≤ 1000000) (hbase : base ≤ w.heap.size)
    (h : ∀ v' w', w'.ownsRow base 3 1 v' (n + 1) (olds ++ [intV y]) → w.grownBy w' v.ownBlock → wpList Try.prog ops Q rest (a.put o.dst v') w') : wpList Try.prog ops Q (o :: rest) a w := by
  obtain ⟨i0, hi, hz0, hz1, hz2⟩ := info_parts info3
  refine wpList_append_own w hgd s x 40 ho base 3 i0 _ 1 8 Try.underlying40 hi hz0 hz1 hz2 rfl (by decide) v n olds hs hown ad 1 c [intV y] hx rfl ?_ ?_ (by unfold maxLen; omega) (by omega) hbase (fun v' w' h1 h2 _ => h v' w' h1 h2)
  · intro j u hu
    have hj : j = 0 := by have := (List.getElem?_eq_some_iff.1 hu).1; simp at this; exact this
    subst hj
    simp at hu
    subst hu
    have e : ad.add 0 = ad := by obtain ⟨b, o, s⟩ := ad; unfold Addr.add; cases s <;> simp
    rw [e]
    exact hc
  · intro u hu
    simp at hu
    subst hu
    rfl
/-- A row of N numbers by a function of the place. -/
def rowF (N : Nat) (f : Nat → Int) : List Value := (List.range N).map fun j => intV (f j)
theorem rowF_len (N : Nat) (f : Nat → Int) : (rowF N f).length = N := by unfold rowF; rw [List.length_map, List.length_range]
theorem rowF_at {N : Nat} (f : Nat → Int) {j : Nat} (h : j < N) : (rowF N f)[j]? = some (intV (f j)) := by
  unfold rowF
  rw [List.getElem?_map, List.getElem?_range h]
  rfl
theorem rowF_set {N : Nat} {f f' : Nat → Int} {t : Nat} {v : Int} (h1 : f' t = v) (h2 : ∀ j, j ≠ t → f' j = f j) : (rowF N f).set t (intV v) = rowF N f' := by
  apply List.ext_getElem?
  intro j
  rw [List.getElem?_set, rowF_len]
  by_cases hj : j < N
  · by_cases e : t = j
    · subst e
      rw [if_pos rfl, if_pos hj, rowF_at f' hj, h1]
    · rw [if_neg e, rowF_at f hj, rowF_at f' hj, h2 j (fun e' => e e'.symm)]
  · have g1 : (rowF N f)[j]? = none := List.getElem?_eq_none (by rw [rowF_len]; omega)
    have g2 : (rowF N f')[j]? = none := List.getElem?_eq_none (by rw [rowF_len]; omega)
    by_cases e : t = j
    · subst e
      rw [if_pos rfl, if_neg hj, g2]
    · rw [if_neg e, g1, g2]
theorem rowF_congr {N : Nat} {f f' : Nat → Int} (h : ∀ j, j < N → f j = f' j) : rowF N f = rowF N f' := by
  unfold rowF
  exact List.map_congr_left (fun j hj => by rw [h j (List.mem_range.1 hj)])
theorem rowF_zero (k : Nat) : rowF k (fun _ => 0) ++ [intV 0] = rowF (k + 1) fun _ => 0 := by
  unfold rowF
  rw [List.range_succ, List.map_append]
  rfl
theorem own_at1 {w : World} {B E n : Nat} {A : Option Addr} {c : Nat} {xs : List Value} (h : w.ownsRow B E 1 (.slice A n c) n xs) (hp : 0 < n) : ∃ b, A = some ⟨b, 0, none⟩ ∧ b < w.heap.size ∧ B ≤ b ∧ (Value.slice A n c).ownBlock = some b ∧ (∃ cs, w.heap[b]? = some (.cells cs E)) ∧ ∀ (i : Nat) (x : Value), xs[i]? = some x → w.cell? ⟨b, i, none⟩ = some x := by
  have hlen := h.1
  rcases h.2 with ⟨e, e2⟩ | ⟨k, cap, cur, e, hk, hgb, h1, h2, h3, h4⟩
  · cases e
    omega
  · injection e with e1 _ e3
    subst e1 e3
    refine ⟨k, rfl, box_lt hgb, hk, rfl, ⟨_, hgb⟩, fun i x hx => ?_⟩
    rw [← h4, List.getElem?_take] at hx
    split at hx
    · rw [cell_of_row _ _ i _ _ _ hgb]
      simpa using hx
    · cases hx
theorem cnt_le (l : List Fc) (j : Nat) : cnt l j ≤ l.length := by
  unfold cnt
  refine Nat.le_trans List.count_le_length ?_
  rw [List.length_map]
  exact Nat.le_refl _
theorem take_snoc_core {ps : List Fl} {i : Nat} {x : Fl} (h : ps[i]? = some x) : (ps.take (i + 1)).map core = (ps.take i).map core ++ [core x] := by
  rw [List.take_add_one, h, List.map_append]
  rfl
theorem times_ok {mn mx rt : Int} {ch : List Int} {sts : List (Nat × Nat)} (h0 : 0 ≤ mn) (h1 : mn ≤ mx) (h2 : mx ≤ 100) (h3 : 0 ≤ rt) (h4 : rt ≤ 100) (hn : sts.length ≤ 20) (now : Int) {k : Nat} (hk : k < sts.length) :
    (0 < cnt ((runK mn mx rt ch sts sts.length).l.take (unt (runK mn mx rt ch sts sts.length).l now)) k → idl mn mx rt ch sts (k + 1) + mn ≤ now) ∧
    (idl mn mx rt ch sts (k + 1) + mx ≤ now → cnt ((runK mn mx rt ch sts sts.length).l.take (unt (runK mn mx rt ch sts sts.length).l now)) k = cop mn mx rt ch sts k) := by
  have ho := (runK_inv mn mx rt ch sts h0 h1 h2 h3 h4 hn sts.length (Nat.le_refl _)).ok.ord
  obtain ⟨q1, q2⟩ := run_fl (ch := ch) h0 h1 h2 h3 h4 hn sts.length (Nat.le_refl _)
  obtain ⟨l, hl⟩ : ∃ l, (runK mn mx rt ch sts sts.length).l = l := ⟨_, rfl⟩
  rw [hl] at ho q1 q2 ⊢
  refine ⟨fun h => ?_, fun h => ?_⟩
  · obtain ⟨x, hx, e⟩ := cnt_pos h
    obtain ⟨j, st, g1, g2, g3, g4, g5⟩ := q1 x (List.mem_of_mem_take hx)
    have ht := take_mem hx
    rw [g3, hd_pay] at e
    subst e
    omega
  · have hz : cnt (l.drop (unt l now)) k = 0 := cnt_zero (fun x hx e => by
      obtain ⟨j, st, g1, g2, g3, g4, g5⟩ := q1 x (List.mem_of_mem_drop hx)
      have ht := drop_mem ho hx
      rw [g3, hd_pay] at e
      subst e
      omega)
    have hs : cnt (l.take (unt l now) ++ l.drop (unt l now)) k = cop mn mx rt ch sts k := by
      rw [List.take_append_drop]
      exact q2 k hk
    rw [cnt_app, hz, Nat.add_zero] at hs
    exact hs
theorem cnt_take {ps : List Fl} {i : Nat} {x : Fl} (h : ps[i]? = some x) (j : Nat) : cnt ((ps.take (i + 1)).map core) j = cnt ((ps.take i).map core) j + if hd x.p = j then 1 else 0 := by
  rw [take_snoc_core h, cnt_app, cnt_one]
  rfl
set_option maxHeartbeats 4000000 in
set_option maxRecDepth 100000 in
theorem times_walk (mn mx rt : Int) (sv cv : Value) (sts : List (Nat × Nat)) (ch : List Int) (now : Int) (w : World) (hs : Sts w sv sts) (hc : Ints w cv ch) (hnw : (Lit.int .u16 now).wf = true) :
    Calls Try.prog 7 #[.agg #[.int .i64 mn, .int .i64 mx, .int .i64 rt, sv, cv], .int .u16 now] w (TrueQ w) := by
  have hnb := bounds_u16 hnw
  have ew : IntKind.i64.wrap now = now := by rw [IntKind.wrap_i64]; omega
  clear hnw
  obtain ⟨A, c, rfl⟩ := sts_form hs
  obtain ⟨B, c2, rfl⟩ := ints_form hc
  obtain ⟨N, hN⟩ : ∃ N, sts.length = N := ⟨_, rfl⟩
  obtain ⟨C, hC⟩ : ∃ C, ch.length = C := ⟨_, rfl⟩
  rw [hN] at hs ⊢
  rw [hC] at hc ⊢
  obtain ⟨g, hg⟩ : ∃ g, w.heap.size = g := ⟨_, rfl⟩
  obtain ⟨W1, hW1⟩ : ∃ X, w.alloc (.cells #[.int .i64 mn, .int .i64 mx, .int .i64 rt, .slice A N c, .slice B C c2] 58) = X := ⟨_, rfl⟩
  have hb1 : Below w.heap.size w W1 := by rw [← hW1]; exact al1 _ _
  have hx1 : W1.heap[g]? = some (.cells #[.int .i64 mn, .int .i64 mx, .int .i64 rt, .slice A N c, .slice B C c2] 58) := by rw [← hW1, ← hg]; exact heap_alloc_new w _
  have HFT := hid (fit_any mn mx rt A B N c C c2 W1)
  have HS := hid hs
  have HC := hid hc
  have HN := hid hN
  have HCC := hid hC
  have HB1 := hid hb1
  have HX1 := hid hx1
  have HW1 := hid hW1
  have HG := hid hg
  have x0 := cell_of_row _ _ 0 _ _ _ HX1.out
  have x1 := cell_of_row _ _ 1 _ _ _ HX1.out
  have x2 := cell_of_row _ _ 2 _ _ _ HX1.out
  have x3 := cell_of_row _ _ 3 _ _ _ HX1.out
  have x4 := cell_of_row _ _ 4 _ _ _ HX1.out
  clear hs hc hN hC hb1 hx1 hW1 hg 
  go_enter Try.func7, Try.ntmps7
  go_wp2_with fail
  rw [HW1.out, HG.out]
  refine HFT.out.mono ?_
  rintro e w2 ⟨rfl, hb2⟩
  have HX2 := hid ((hb2.block _ (box_lt HX1.out)).trans HX1.out)
  have HB2 := hid (HB1.out.trans (hb2.mono HB1.out.size))
  clear hb2 HFT x0 x1 x2 x3 x4
  by_cases hf : fitB mn mx rt N C = true
  rotate_left
  · have hf' : fitB mn mx rt N C = false := by simpa using hf
    rw [hf']
    go_wp2_with fail
    have HAW := hid (awake_any w2)
    refine HAW.out.mono ?_
    rintro e w3 ⟨rfl, hb3⟩
    go_wp2_with fail
    go_ret
    exact ⟨rfl, HB2.out.trans (hb3.mono HB2.out.size)⟩
  rw [hf]
  unfold fitB at hf
  have hf' := of_decide_eq_true hf
  obtain ⟨h0, h1, h2, h3, h4, hn20, hc100⟩ := hf'
  clear hf
  obtain ⟨r, hr⟩ : ∃ r, runK mn mx rt ch sts N = r := ⟨_, rfl⟩
  have HI : Hid (InvR mn mx rt ch N r) := hid (by rw [← hr]; exact runK_inv mn mx rt ch sts h0 h1 h2 h3 h4 (by rw [HN.out]; exact hn20) N (by rw [HN.out]; exact Nat.le_refl _))
  have HRN := hid (run_any mn mx rt sts _ ch _ w2 (HS.out.below HB2.out) (HC.out.below HB2.out) h0 h1 h2 h3 h4 (by rw [HN.out]; exact hn20) (by rw [HCC.out]; exact hc100))
  rw [HN.out, hr] at HRN
  have HR := hid hr
  clear hr
  have x0 := cell_of_row _ _ 0 _ _ _ HX2.out
  have x1 := cell_of_row _ _ 1 _ _ _ HX2.out
  have x2 := cell_of_row _ _ 2 _ _ _ HX2.out
  have x3 := cell_of_row _ _ 3 _ _ _ HX2.out
  have x4 := cell_of_row _ _ 4 _ _ _ HX2.out
  go_wp2_with fail
  refine HRN.out.mono ?_
  rintro e w3 ⟨v, tv, iv, kv, rfl, ⟨fv, vs, rfl, ho3, hv3, hp3⟩, ht3, hb3⟩
  obtain ⟨fA, fc, rfl⟩ := own_form69 ho3
  obtain ⟨q, hq⟩ : ∃ q, vs.length = q := ⟨_, rfl⟩
  rw [hq] at ho3
  unfold vLk
  dsimp only
  rw [hq]
  obtain ⟨m, hm⟩ : ∃ m, w3.heap.size = m := ⟨_, rfl⟩
  obtain ⟨W3, hW3⟩ : ∃ X, w3.alloc (.cells #[.int .i64 r.s.mn, .int .i64 r.s.mx, .int .i64 r.s.rt, .bool r.s.dn, .int .i64 r.s.idle, .int .i64 r.s.next, .slice fA q fc] 26) = X := ⟨_, rfl⟩
  have hz : Below w3.heap.size w3 W3 := by rw [← hW3]; exact al1 _ _
  have HM3 : Hid (W3.heap[m]? = some (.cells #[.int .i64 r.s.mn, .int .i64 r.s.mx, .int .i64 r.s.rt, .bool r.s.dn, .int .i64 r.s.idle, .int .i64 r.s.next, .slice fA q fc] 26)) := hid (by rw [← hW3, ← hm]; exact heap_alloc_new _ _)
  have HX3 := hid ((hz.block _ (Nat.lt_of_lt_of_le (box_lt HX2.out) hb3.size)).trans ((hb3.block _ (box_lt HX2.out)).trans HX2.out))
  have HO3 := hid (own_keep ho3 (keep_below hz))
  have HV3 := hid hv3
  have HQ := hid hq
  have HP3 := hid (fun x hx => (hp3 x hx).keep (keep_below hz))
  have HT3 := hid (ht3.keep (keep_below hz))
  have HB3 := hid (HB2.out.trans ((hb3.trans (hz.mono hb3.size)).mono HB2.out.size))
  have hgm : g ≤ m := by rw [← HG.out, ← hm]; exact (HB2.out.trans (hb3.mono HB2.out.size)).size
  have hgl : g < m := by rw [← hm]; exact Nat.lt_of_lt_of_le (box_lt HX2.out) hb3.size
  have HW3 := hid hW3
  have HM := hid hm
  clear hW3 hz ho3 hv3 hq hp3 ht3 hm HRN hb3
  clear x0 x1 x2 x3 x4
  have HOK := hid HI.out.ok
  have hr64 : ∀ x ∈ vs, R64 x.n := fun x hx => by
    have h5 := HOK.out.fld (core x) (by rw [← HV3.out]; exact List.mem_map_of_mem hx)
    have h6 := HOK.out.next
    have e1 : (core x).2.1 = x.n := rfl
    unfold R64
    omega
  have hp64 : ∀ x ∈ vs, x.p.length ≤ 100000 := fun x hx => by
    have h5 := HOK.out.fld (core x) (by rw [← HV3.out]; exact List.mem_map_of_mem hx)
    have e1 : (core x).2.2 = x.p := rfl
    rw [e1] at h5
    omega
  have hl64 : vs.length ≤ 100000 := by
    have h5 := HOK.out.len
    have h6 : vs.length = r.l.length := by rw [← HV3.out, List.length_map]
    omega
  have hts : r.ts.length = N := HI.out.lts
  have hids : r.ids.length = N := HI.out.lid
  have hcps : r.cps.length = N := HI.out.lcp
  have HTI : Hid (Ints W3 tv r.ts) := hid (ints_of_own HT3.out.oa (fun x hx => by have := HI.out.ts2 x hx; unfold R64; omega))
  have HII : Hid (Ints W3 iv r.ids) := hid (ints_of_own HT3.out.ob (fun x hx => by have := HI.out.id2 x hx; unfold R64; omega))
  have HKI : Hid (Ints W3 kv r.cps) := hid (ints_of_own HT3.out.oc (fun x hx => by have := HI.out.cp2 x hx; unfold R64; omega))
  obtain ⟨tA, tc, rfl⟩ := ints_form HTI.out
  obtain ⟨iA, ic, rfl⟩ := ints_form HII.out
  obtain ⟨kA, kc, rfl⟩ := ints_form HKI.out
  rw [hts] at HTI ⊢
  rw [hids] at HII ⊢
  rw [hcps] at HKI ⊢
  go_upto_region 6 with fail
  rw [HW3.out, HM.out]
  have y0 := cell_of_row _ _ 0 _ _ _ HM3.out
  have y1 := cell_of_row _ _ 1 _ _ _ HM3.out
  have y2 := cell_of_row _ _ 2 _ _ _ HM3.out
  have y3 := cell_of_row _ _ 3 _ _ _ HM3.out
  have y4 := cell_of_row _ _ 4 _ _ _ HM3.out
  have y5 := cell_of_row _ _ 5 _ _ _ HM3.out
  have y6 := cell_of_row _ _ 6 _ _ _ HM3.out
  obtain ⟨n, hn⟩ : ∃ n, delN r.s r.l now = n := ⟨_, rfl⟩
  have HDV := hid (deliver_any r.s vs (.slice fA q fc) now W3 (fl_of_own HO3.out HQ.out HP3.out) hr64 hl64 hp64)
  rw [HV3.out, hn] at HDV
  have HNU : Hid (n = unt r.l now) := hid (by rw [← hn]; unfold delN; rw [if_pos ((chk_iff r.s r.l).2 HOK.out)])
  unfold vLk at HDV
  clear hr64 hl64 hp64 hn
  go_wp2_with fail
  (try rw [ew])
  refine HDV.out.mono ?_
  rintro e w4 ⟨v4, pv4, ps, rfl, ⟨fv4, vs4, rfl, ho4, hv4, hp4⟩, hq4, hk4, hl4, hb4⟩
  obtain ⟨f4, c4, rfl⟩ := own_form69 ho4
  obtain ⟨qA, qc, rfl⟩ := own_formE hq4
  obtain ⟨P, hP⟩ : ∃ P, ps.length = P := ⟨_, rfl⟩
  obtain ⟨q4, hq4'⟩ : ∃ q, vs4.length = q := ⟨_, rfl⟩
  unfold vLk
  dsimp only
  rw [hP, hq4']
  rw [hP] at hq4
  obtain ⟨W4, hW4⟩ : ∃ X, w4.alloc (.cells #[.int .i64 r.s.mn, .int .i64 r.s.mx, .int .i64 r.s.rt, .bool r.s.dn, .int .i64 r.s.idle, .int .i64 r.s.next, .slice f4 q4 c4] 26) = X := ⟨_, rfl⟩
  have hz4 : Below w4.heap.size w4 W4 := by rw [← hW4]; exact al1 _ _
  have hb4' := hb4.trans (hz4.mono hb4.size)
  have HPY : Hid (PyL W4 (.slice qA P qc) ps) := hid ((py_of_own hq4 hl4).below hz4)
  have HPL := hid hP
  have HPK := hid hk4
  have HX4 := hid ((hb4'.block _ (box_lt HX3.out)).trans HX3.out)
  have HTI4 := hid (HTI.out.below hb4')
  have HII4 := hid (HII.out.below hb4')
  have HKI4 := hid (HKI.out.below hb4')
  have HB4 := hid (HB3.out.trans (hb4'.mono HB3.out.size))
  have HW4 := hid hW4
  clear hW4 hz4 ho4 hv4 hp4 hq4 hl4 hb4 hb4' HDV y0 y1 y2 y3 y4 y5 y6 hP hk4
  have hP40 : P ≤ 40 := by
    have h5 := congrArg List.length HPK.out
    rw [List.length_map, HPL.out, List.length_take] at h5
    have h6 := HI.out.len1
    omega
  obtain ⟨G, hG⟩ : ∃ G, W4.heap.size = G := ⟨_, rfl⟩
  have HGG := hid hG
  clear hG
  go_upto_region 9 with fail
  rw [HW4.out]
  go_loopw [12, 13] (fun sv jv wr => ∃ k : Nat, k ≤ N ∧ jv = .int .i64 (k : Int) ∧ Hid (wr.ownsRow G 3 1 sv k (rowF k fun _ => 0)) ∧ Hid (Below G W4 wr)) (fun _ j _ => N - (Go.RowKit.intOf j).toNat)
  case atStart => exact ⟨0, Nat.zero_le _, rfl, hid (World.ownsRow_nil _ _ _ _), hid (Below.refl _ _)⟩
  case round =>
    obtain ⟨k, hk, rfl, HO, HB⟩ := hrel
    obtain ⟨sA, sc, rfl⟩ := own_formE HO.out
    have hgs : G ≤ wr.heap.size := by rw [← HGG.out]; exact HB.out.size
    by_cases hkn : k < N
    · have hkn' : (k : Int) < (N : Int) := by omega
      go_wp2_with (at_builtin; refine append_int rfl (.tmp 43) (.tmp 44) rfl G (.slice sA k sc) k _ rfl (own_keep HO.out (keep_below (al1 _ _))) 0 ⟨wr.heap.size, 0, none⟩ 1 rfl (cell_of_row _ _ 0 _ _ _ (heap_alloc_new wr _)) (by omega) (by simp; omega) ?_; intro v2 w2 hown2 hg2; have how := own_keep HO.out (keep_below (al1 wr (.cells #[.int .i64 0] 3))); have HB2 := hid (below_ownE (HB.out.alloc hgs _) how hg2 (by simp; omega) (Nat.le_refl _)); obtain ⟨dA, dc, rfl⟩ := own_formE hown2; have HO2 := hid hown2; clear hown2 hg2 how)
      go_roundw
      case rel => exact ⟨k + 1, by omega, by go_num, hid (by rw [← rowF_zero]; exact HO2.out), HB2⟩
      case measure => simp [Go.RowKit.intOf]; omega
    · obtain rfl : N = k := by omega
      have hkn' : ¬ ((N : Nat) : Int) < (N : Int) := by omega
      have HINF := hid (fun (x : Fl) (hx : x ∈ ps) => (run_fl (ch := ch) h0 h1 h2 h3 h4 (by rw [HN.out]; exact hn20) N (by rw [HN.out]; exact Nat.le_refl _)).1 (core x) (by
        rw [HR.out]
        exact List.mem_of_mem_take (by rw [← HPK.out]; exact List.mem_map_of_mem hx)))
      have HO0 : Hid (wr.ownsRow G 3 1 (.slice sA N sc) N (rowF N fun j => (cnt ((ps.take 0).map core) j : Int))) := hid (by
        have e : (rowF N fun j => (cnt ((ps.take 0).map core) j : Int)) = rowF N fun _ => 0 := rfl
        rw [e]
        exact HO.out)
      go_upto_region 13 with fail
      go_loopw [14] (fun jv wr2 => ∃ i : Nat, i ≤ P ∧ jv = .int .i64 (i : Int) ∧ Hid (wr2.ownsRow G 3 1 (.slice sA N sc) N (rowF N fun j => (cnt ((ps.take i).map core) j : Int))) ∧ Hid (Below G W4 wr2)) (fun j _ => P - (Go.RowKit.intOf j).toNat)
      case atStart => exact ⟨0, Nat.zero_le _, rfl, HO0, HB⟩
      case round =>
        obtain ⟨i, hi, rfl, HO2, HB2⟩ := hrel
        by_cases hip : i < P
        · have hip' : (i : Int) < (P : Int) := by omega
          obtain ⟨x, hx⟩ : ∃ x, ps[i]? = some x := ⟨ps[i]'(by rw [HPL.out]; exact hip), List.getElem?_eq_getElem _⟩
          have hxm := List.mem_of_getElem? hx
          obtain ⟨j, st, hjN, hst, hxp, _, _⟩ := HINF.out x hxm
          have hPY := HPY.out.below (by rw [HGG.out]; exact HB2.out)
          have hxb := hPY.1 x hxm
          obtain ⟨qb, qo, rfl, hqb, hqc⟩ := py_cells hPY (by rw [HPL.out]; omega)
          have p0 := hqc i x hx
          have HTK := hid (cnt_take hx)
          obtain ⟨xt, xn, xd, xp⟩ := x
          dsimp only at hxb p0 HTK
          obtain rfl : xp = pay st.1 j := hxp
          obtain ⟨xA, xc, rfl⟩ := byt_form hxb
          obtain ⟨xb, xo, rfl, hxbl, hxc⟩ := byt_at hxb (by unfold pay; simp)
          have p1 := hxc 0 j rfl
          obtain ⟨xm, hxl⟩ : ∃ xm, (pay st.1 j).length = xm := ⟨_, rfl⟩
          have hxm1 : 1 ≤ xm := by rw [← hxl]; unfold pay; simp
          rw [hxl] at p0
          rw [Nat.add_zero] at p1
          have d6 : ((xm : Int) == 0) = false := by rw [beq_eq_false_iff_ne]; omega
          have hx0 : (0 : Int) < (xm : Int) := by omega
          have hj8 : j < 256 := by omega
          have ej : IntKind.i64.wrap (j : Int) = (j : Int) := by rw [IntKind.wrap_i64]; omega
          have hjN' : (j : Int) < (N : Int) := by omega
          have dj : decide ((N : Int) ≤ (j : Int)) = false := decide_eq_false (by omega)
          obtain ⟨sb, rfl, hsb, hsG, hso, hscs, hsc⟩ := own_at1 HO2.out (by omega)
          obtain ⟨cj, hcj⟩ : ∃ cj, cnt ((ps.take i).map core) j = cj := ⟨_, rfl⟩
          have p2 : wr.cell? ⟨sb, j, none⟩ = some (.int .i64 (cj : Int)) := by rw [hsc j _ (rowF_at _ hjN), hcj]
          have hcl := cnt_le ((ps.take i).map core) j
          rw [hcj, List.length_map, List.length_take] at hcl
          have es : IntKind.i64.wrap ((cj : Int) + 1) = (cj : Int) + 1 := by rw [IntKind.wrap_i64]; omega
          obtain ⟨scs, hscs⟩ := hscs
          have fz := box_fr hscs j
          obtain ⟨W7, hW7⟩ : ∃ X, wr.setCell ⟨sb, j, none⟩ (.int .i64 ((cj : Int) + 1)) = X := ⟨_, rfl⟩
          have HO7 : Hid (W7.ownsRow G 3 1 (.slice (some ⟨sb, 0, none⟩) N sc) N (rowF N fun j => (cnt ((ps.take (i + 1)).map core) j : Int))) := hid (by
            have h := own_put HO2.out j (intV ((cj : Int) + 1))
            rw [rowF_set (f' := fun j => (cnt ((ps.take (i + 1)).map core) j : Int)) (by
              rw [HTK.out, hcj, hd_pay, if_pos rfl]; rfl) (fun j' hj' => by
              rw [HTK.out, hd_pay, if_neg (fun e => hj' e.symm), Nat.add_zero])] at h
            rw [← hW7]
            exact h)
          have HB7 : Hid (Below G W4 W7) := hid (by rw [← hW7]; exact HB2.out.setCell hsG _)
          have HW7 := hid hW7
          clear hqc hxc hsc hxb hPY hW7 hcj hscs
          go_upto_region 14 with fail
          rw [HW7.out]
          go_wp2_with fail
          go_roundw
          case rel => exact ⟨i + 1, by omega, by go_num, HO7, HB7⟩
          case measure => simp [Go.RowKit.intOf]; omega
        · obtain rfl : P = i := by omega
          have hip' : ¬ ((P : Nat) : Int) < (P : Int) := by omega
          have HTOK := hid (fun (k : Nat) (hk : k < N) => times_ok (ch := ch) h0 h1 h2 h3 h4 (by rw [HN.out]; exact hn20) now (k := k) (by rw [HN.out]; exact hk))
          have HAT := hid (fun j (hj : j < N) => runK_at (ch := ch) h0 h1 h2 h3 h4 (by rw [HN.out]; exact hn20) N (by rw [HN.out]; exact Nat.le_refl _) j hj)
          have HSU := hid (fun j (hj : j < N) => idl_succ (ch := ch) h0 h1 h2 h3 h4 (by rw [HN.out]; exact hn20) (j := j) (by rw [HN.out]; exact hj))
          rw [HN.out, HR.out] at HTOK
          rw [HR.out] at HAT
          rw [show ps.take P = ps from List.take_of_length_le (by rw [HPL.out]; exact Nat.le_refl _), HPK.out, HNU.out] at HO2
          have HBW : Hid (Below W4.heap.size W4 wr) := hid (by rw [HGG.out]; exact HB2.out)
          have HX6 := hid ((HBW.out.block _ (box_lt HX4.out)).trans HX4.out)
          have HT6 := hid (HTI4.out.below HBW.out)
          have HI6 := hid (HII4.out.below HBW.out)
          have HK6 := hid (HKI4.out.below HBW.out)
          have HB6 := hid (HB4.out.trans (HBW.out.mono HB4.out.size))
          clear HO HO0 HB
          go_upto_region 19 with fail
          go_loopw [15] (fun jv wr3 => ∃ k : Nat, k ≤ N ∧ jv = .int .i64 (k : Int) ∧ ∃ q, wr3 = wr.drewN q) (fun j _ => N - (Go.RowKit.intOf j).toNat)
          case atStart => exact ⟨0, Nat.zero_le _, rfl, 0, rfl⟩
          case round =>
            obtain ⟨k, hk, rfl, q, rfl⟩ := hrel
            by_cases hkn : k < N
            · have hkn' : (k : Int) < (N : Int) := by omega
              obtain ⟨bt, ot, rfl, hbt, hct⟩ := ints_cells HT6.out (by rw [hts]; omega)
              obtain ⟨bi, oi, rfl, hbi, hci⟩ := ints_cells HI6.out (by rw [hids]; omega)
              obtain ⟨bk, ok, rfl, hbk, hck⟩ := ints_cells HK6.out (by rw [hcps]; omega)
              obtain ⟨bs, rfl, hbs, _, _, _, hcs⟩ := own_at1 HO2.out (by omega)
              obtain ⟨a1, a2, a3⟩ := HAT.out k hkn
              obtain ⟨b1, b2⟩ := HTOK.out k hkn
              have hsu := HSU.out k hkn
              have htk := tik_lo (m := plen sts k) h3
              have p0 := hct k _ a1
              have p1 := hci k _ a2
              have p2 := hck k _ a3
              have p3 := hcs k _ (rowF_at _ hkn)
              have hIr := HI.out.id2 _ (List.mem_of_getElem? a2)
              obtain ⟨T, hT⟩ : ∃ T, tms mn mx rt ch sts (k + 1) = T := ⟨_, rfl⟩
              obtain ⟨I, hI⟩ : ∃ T, idl mn mx rt ch sts (k + 1) = T := ⟨_, rfl⟩
              obtain ⟨co, hco⟩ : ∃ T, cop mn mx rt ch sts k = T := ⟨_, rfl⟩
              obtain ⟨s, hs⟩ : ∃ s, cnt (r.l.take (unt r.l now)) k = s := ⟨_, rfl⟩
              rw [hs] at p3 b1 b2
              rw [hI] at p1 hIr hsu b1 b2
              rw [hT] at p0 hsu
              rw [hco] at p2 b2
              unfold intV at p3
              have dIT : decide (I < T) = false := decide_eq_false (by omega)
              have e1 : IntKind.i64.wrap (I + mn) = I + mn := by rw [IntKind.wrap_i64]; omega
              have e2 : IntKind.i64.wrap (I + mx) = I + mx := by rw [IntKind.wrap_i64]; omega
              have x0 := cell_of_row _ _ 0 _ _ _ HX6.out
              have x1 := cell_of_row _ _ 1 _ _ _ HX6.out
              clear hct hci hck hcs a1 a2 a3 hsu htk
              by_cases hs0 : 0 < s
              · have ds : decide ((0 : Int) < (s : Int)) = true := decide_eq_true (by omega)
                have ds' : decide (0 < s) = true := decide_eq_true hs0
                have dn : decide (now < I + mn) = false := decide_eq_false (by have := b1 hs0; omega)
                by_cases hmx : I + mx ≤ now
                · have dm : decide (I + mx ≤ now) = true := decide_eq_true hmx
                  have dc : ((s : Int) != (co : Int)) = false := by rw [b2 hmx]; simp
                  clear b1 b2
                  go_upto_region 21 with fail
                  go_quiet (fail)
                  go_wp2_with fail
                  go_roundw
                  case rel => exact ⟨k + 1, by omega, by go_num, _, rfl⟩
                  case measure => simp [Go.RowKit.intOf]; omega
                · have dm : decide (I + mx ≤ now) = false := decide_eq_false hmx
                  clear b1 b2
                  go_upto_region 21 with fail
                  go_quiet (fail)
                  go_wp2_with fail
                  go_roundw
                  case rel => exact ⟨k + 1, by omega, by go_num, _, rfl⟩
                  case measure => simp [Go.RowKit.intOf]; omega
              · have ds : decide ((0 : Int) < (s : Int)) = false := decide_eq_false (by omega)
                have ds' : decide (0 < s) = false := decide_eq_false hs0
                by_cases hmx : I + mx ≤ now
                · have dm : decide (I + mx ≤ now) = true := decide_eq_true hmx
                  have dc : ((s : Int) != (co : Int)) = false := by rw [b2 hmx]; simp
                  clear b1 b2
                  go_upto_region 21 with fail
                  go_quiet (fail)
                  go_wp2_with fail
                  go_roundw
                  case rel => exact ⟨k + 1, by omega, by go_num, _, rfl⟩
                  case measure => simp [Go.RowKit.intOf]; omega
                · have dm : decide (I + mx ≤ now) = false := decide_eq_false hmx
                  clear b1 b2
                  go_upto_region 21 with fail
                  go_quiet (fail)
                  go_wp2_with fail
                  go_roundw
                  case rel => exact ⟨k + 1, by omega, by go_num, _, rfl⟩
                  case measure => simp [Go.RowKit.intOf]; omega
            · obtain rfl : N = k := by omega
              have hkn' : ¬ ((N : Nat) : Int) < (N : Int) := by omega
              go_upto_region 23 with fail
              have HAW := hid (awake_any (wr.drewN q))
              go_wp2_with fail
              refine HAW.out.mono ?_
              rintro e w9 ⟨rfl, hb9⟩
              go_wp2_with fail
              go_ret
              exact ⟨rfl, (below_both_drewN HB6.out q).trans (hb9.mono (below_both_drewN HB6.out q).size)⟩
end Go.Proofs.Ytacpejoablcffaa
