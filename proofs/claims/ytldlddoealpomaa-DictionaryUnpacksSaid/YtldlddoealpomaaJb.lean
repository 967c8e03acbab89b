/- The reference's Groups. -/
import Derived.Test.YtldlddoealpomaaGg
namespace Go.Proofs.Ytldlddoealpomaa.Rl
open Go.RowKit Go.Lib

set_option maxHeartbeats 4000000 in
set_option maxRecDepth 100000 in
theorem eqRun_any (l : List Sect) (p : Nat) (v : Value) (w : World) (hv : Sec w v l) (hp : p < l.length) (hl : l.length ≤ 100000) :
    Calls Try.prog 65 #[v, .int .i64 (p : Int)] w fun e w' => e = .returned (.int .i64 (eqh (l.drop p) : Nat)) ∧ Below w.heap.size w w' := by
  have h0 : l ≠ [] := by intro e; rw [e] at hp; simp at hp
  obtain ⟨b, off, cap, rfl, hcap, hcm, hbl, hsc⟩ := sec_at hv h0
  obtain ⟨a, hat⟩ : ∃ a, l[p]? = some a := ⟨l[p], List.getElem?_eq_getElem hp⟩
  have ha := hv.1 a (List.mem_of_getElem? hat)
  have HE0 : Hid (eqh (l.drop p) = 1 + eqs a (l.drop (p + 1))) := hid (by
    obtain ⟨hlt, rfl⟩ := List.getElem?_eq_some_iff.1 hat
    rw [List.drop_eq_getElem_cons hlt, eqh_cons]
    omega)
  have HSC := hid (fun (X : World) (hX : Below w.heap.size w X) (k : Nat) (s : Sect) (hk : l[k]? = some s) => (hsc k s hk).below hbl hX)
  have HSA := hid (fun (X : World) (hX : Below w.heap.size w X) => HSC.out X hX p a hat)
  have HSE := hid (fun (k : Nat) (s : Sect) (hk : l[k]? = some s) => hv.1 s (List.mem_of_getElem? hk))
  have HAA := hid ha
  clear hv h0 hat hsc
  obtain ⟨x0, x1, x2, x3, x4, x5, x6, x7, rfl⟩ := list8 ha.1
  clear ha
  obtain ⟨n, hn⟩ : ∃ n, l.length = n := ⟨_, rfl⟩
  have HN := hid hn
  rw [hn] at hp hl hcap ⊢
  unfold maxLen at hcm
  clear hn
  go_enter Try.func65, Try.ntmps65
  go_wp2_with fail
  go_loopw [5] (fun i wr => ∃ k : Nat, 1 ≤ k ∧ p + k ≤ n ∧ i = .int .i64 (k : Int) ∧ Hid (eqh (l.drop p) = k + eqs [x0, x1, x2, x3, x4, x5, x6, x7] (l.drop (p + k))) ∧ Hid (Below w.heap.size w wr)) (fun i _ => n - (Lib.intOf i).toNat)
  case atStart => exact ⟨1, by omega, by omega, rfl, HE0, hid (Below.refl _ _)⟩
  case round =>
    clear HE0
    obtain ⟨k, hk1, hk, rfl, HR, HB⟩ := hrel
    obtain ⟨p0, p1, p2, p3, p4, p5, p6, p7⟩ := (HSA.out wr HB.out).facts
    by_cases hkn : p + k < n
    · obtain ⟨y, hy⟩ : ∃ y, l[p + k]? = some y := ⟨l[p + k]'(by rw [HN.out]; exact hkn), List.getElem?_eq_getElem _⟩
      have hyo := HSE.out _ y hy
      have HD : Hid (l.drop (p + k) = y :: l.drop (p + k + 1)) := hid (by
        obtain ⟨hlt, rfl⟩ := List.getElem?_eq_some_iff.1 hy
        exact List.drop_eq_getElem_cons hlt)
      have s1 := HSC.out wr HB.out _ y hy
      have heq := fun (X : World) => eql_sec y [x0, x1, x2, x3, x4, x5, x6, x7] hyo.1 HAA.out.1 hyo.2 HAA.out.2 X
      clear hy
      obtain ⟨y0, y1, y2, y3, y4, y5, y6, y7, rfl⟩ := list8 hyo.1
      obtain ⟨q0, q1, q2, q3, q4, q5, q6, q7⟩ := s1.facts
      clear s1 hyo
      obtain ⟨bb, hbb⟩ : ∃ bb, decide ([y0, y1, y2, y3, y4, y5, y6, y7] = [x0, x1, x2, x3, x4, x5, x6, x7]) = bb := ⟨_, rfl⟩
      rw [hbb] at heq
      have heq2 : ∀ X : World, (Op.equalIn 10000 44 (.agg #[.int .u8 (y0 : Int), .int .u8 (y1 : Int), .int .u8 (y2 : Int), .int .u8 (y3 : Int), .int .u8 (y4 : Int), .int .u8 (y5 : Int), .int .u8 (y6 : Int), .int .u8 (y7 : Int)]) (.agg #[.int .u8 (x0 : Int), .int .u8 (x1 : Int), .int .u8 (x2 : Int), .int .u8 (x3 : Int), .int .u8 (x4 : Int), .int .u8 (x5 : Int), .int .u8 (x6 : Int), .int .u8 (x7 : Int)])).run Try.prog X = .ok bb X := heq
      clear heq
      have dk : decide (p + k < n) = true := by simp; omega
      have hkn1 : (p : Int) + (k : Int) < (n : Int) := by omega
      have hk0 : (0 : Int) ≤ (p : Int) + (k : Int) := by omega
      have hp1 : (p : Int) < (n : Int) := by omega
      rcases bb with _ | _
      · have HE : Hid (eqh (l.drop p) = k) := hid (by rw [HR.out, HD.out, eqs_stop (of_decide_eq_false hbb)]; rfl)
        clear hbb
        go_wp2_with fail
        go_quiet (fail)
        have HBd : Hid (Below w.heap.size w (wr.drewN nq)) := hid ⟨HB.out.os, HB.out.tape, HB.out.output, HB.out.size, HB.out.block⟩
        go_wp2
        go_ret
        exact ⟨by rw [HE.out]; rfl, HBd.out⟩
      · have HE : Hid (eqh (l.drop p) = (k + 1) + eqs [x0, x1, x2, x3, x4, x5, x6, x7] (l.drop (p + (k + 1)))) := hid (by rw [HR.out, HD.out, eqs_step (of_decide_eq_true hbb)]; show _ = k + 1 + eqs _ (l.drop (p + k + 1)); omega)
        clear hbb
        go_wp2_with fail
        go_quiet (fail)
        have HBd : Hid (Below w.heap.size w (wr.drewN nq)) := hid ⟨HB.out.os, HB.out.tape, HB.out.output, HB.out.size, HB.out.block⟩
        go_wp2
        go_roundw
        case rel => exact ⟨k + 1, by omega, by omega, by go_num, HE, HBd⟩
        case measure => simp [Lib.intOf]; omega
    · obtain rfl : n = p + k := by omega
      have HE : Hid (eqh (l.drop p) = k) := hid (by rw [HR.out, List.drop_of_length_le (by rw [HN.out]; omega)]; rfl)
      have dk : decide ((p : Int) + (k : Int) < (p : Int) + (k : Int)) = false := by simp
      have dk2 : decide (p + k < p + k) = false := by simp
      clear hkn
      go_wp2_with fail
      go_quiet (fail)
      have HBd : Hid (Below w.heap.size w (wr.drewN nq)) := hid ⟨HB.out.os, HB.out.tape, HB.out.output, HB.out.size, HB.out.block⟩
      go_wp2
      go_ret
      exact ⟨by rw [HE.out]; rfl, HBd.out⟩
end Go.Proofs.Ytldlddoealpomaa.Rl
namespace Go.Proofs.Ytldlddoealpomaa.Rl
open Go.RowKit Go.Lib

def cG (x : Nat × Nat × Nat) : List Value := [.int .i64 (x.1 : Int), .int .i64 (x.2.1 : Int), .int .i64 (x.2.2 : Int)]
theorem info59 : (Try.prog.info? 87).map (fun i => (i.zero, i.size, i.bytes)) = some (some (.agg #[.int .i64 0, .int .i64 0, .int .i64 0]), 3, 24) := by kernel_rfl
theorem own_form59 {w : World} {base n : Nat} {v : Value} {xs : List Value} (h : w.ownsRow base 87 3 v n xs) : ∃ A cap, v = .slice A n cap := by
  rcases h.2 with ⟨rfl, rfl⟩ | ⟨g, cap, cur, rfl, _⟩
  · exact ⟨none, 0, rfl⟩
  · exact ⟨_, _, rfl⟩
set_option maxRecDepth 100000 in
theorem append_grp {ops : Array Oper} {rest : List Oper} {o : Oper} {a : Act} {w : World} {Q : Exit → Act → World → Prop} (hgd : o.guard = none) (s x : Operand) (ho : o.op = .call { callee := .builtin .append, args := #[s, x], argTypes := #[84, 84] })
    (base : Nat) (v : Value) (n : Nat) (olds : List Value) (hs : a.eval s = v) (hown : w.ownsRow base 87 3 v n olds) (e : Nat × Nat × Nat) (ad : Addr) (c : Nat) (hx : a.eval x = .slice (some ad) 1 c)
    (hc : ∀ j u, (cG e)[j]? = some u → w.cell? (ad.add j) = some u) (b1 : n + 1 ≤ 1000000) (hbase : base ≤ w.heap.size)
    (h : ∀ v' w', w'.ownsRow base 87 3 v' (n + 1) (olds ++ cG e) → w.grownBy w' v.ownBlock → wpList Try.prog ops Q rest (a.put o.dst v') w') : wpList Try.prog ops Q (o :: rest) a w := by
  obtain ⟨i0, hi, hz0, hz1, hz2⟩ := info_parts info59
  exact wpList_append_own w hgd s x 84 ho base 87 i0 _ 3 24 Try.underlying84 hi hz0 hz1 hz2 rfl (by decide) v n olds hs hown ad 1 c _ hx rfl hc (by intro u hu; simp [cG] at hu; rcases hu with rfl | rfl | rfl <;> rfl) (by unfold maxLen; omega) (by omega) hbase (fun v' w' h1 h2 _ => h v' w' h1 h2)
/-- Groups with where they begin. -/
def rgs (p : Nat) : List (Nat × List Sect) → List (Nat × Nat × Nat)
  | [] => []
  | x :: t => (x.1, p, x.2.length) :: rgs (p + x.2.length) t
theorem rgs_next {l : List Sect} {k : Nat} (h : k < l.length) : rgs k (grps (l.drop k)) = (knd (l.drop k), k, cnt (l.drop k)) :: rgs (k + cnt (l.drop k)) (grps (l.drop (k + cnt (l.drop k)))) := by
  have h0 : l.drop k ≠ [] := by intro e; have := congrArg List.length e; rw [List.length_drop] at this; simp at this; omega
  have hc := cnt_le (l.drop k)
  rw [grps_cons h0, rgs]
  dsimp only
  rw [List.length_take, List.drop_drop, Nat.min_eq_left hc]
theorem lits_cons (a : Sect) (t : List Sect) : lits (a :: t) = if sgl (a :: t) = true then lits t + 1 else 0 := rfl

set_option maxHeartbeats 4000000 in
set_option maxRecDepth 100000 in
theorem refGroups_any (l : List Sect) (v : Value) (w : World) (hv : Sec w v l) (hl : l.length ≤ 100000) :
    Calls Try.prog 54 #[v] w fun e w' => ∃ v', e = .returned v' ∧ w'.ownsRow w.heap.size 87 3 v' (rgs 0 (grps l)).length ((rgs 0 (grps l)).map cG).flatten ∧ Below w.heap.size w w' := by
  have HV := hid hv
  obtain ⟨A, c, rfl⟩ := sec_form hv
  obtain ⟨n, hn⟩ : ∃ n, l.length = n := ⟨_, rfl⟩
  have HN := hid hn
  rw [hn] at HV hl ⊢
  clear hv hn
  go_enter Try.func54, Try.ntmps54
  go_wp2_with fail
  go_loopw [3, 4] (fun v i wr => ∃ (k m : Nat) (pre : List (Nat × Nat × Nat)), k ≤ n ∧ i = .int .i64 (k : Int) ∧ m ≤ k ∧ Hid (pre.length = m) ∧ Hid (rgs 0 (grps l) = pre ++ rgs k (grps (l.drop k))) ∧ Hid (wr.ownsRow w.heap.size 87 3 v m (pre.map cG).flatten) ∧ Hid (Below w.heap.size w wr)) (fun _ i _ => n - (Lib.intOf i).toNat)
  case atStart => exact ⟨0, 0, [], Nat.zero_le _, rfl, Nat.le_refl _, hid rfl, hid rfl, hid (World.ownsRow_nil _ _ _ _), hid (Below.refl _ _)⟩
  case round =>
    obtain ⟨k, m, pre, hk, rfl, hmk, HM, HR, HO, HB⟩ := hrel
    obtain ⟨lA, lc, rfl⟩ := own_form59 HO.out
    by_cases hkn : k < n
    · have hkn1 : (k : Int) < (n : Int) := by omega
      have HC := hid (eqRun_any l k _ wr (HV.out.below HB.out) (by rw [HN.out]; exact hkn) (by rw [HN.out]; exact hl))
      obtain ⟨q, hq⟩ : ∃ q, eqh (l.drop k) = q := ⟨_, rfl⟩
      have HQ := hid hq
      rw [hq] at HC
      obtain ⟨a, hat⟩ : ∃ a, l[k]? = some a := ⟨l[k]'(by rw [HN.out]; exact hkn), List.getElem?_eq_getElem _⟩
      have hdr : l.drop k = a :: l.drop (k + 1) := by
        obtain ⟨hlt, rfl⟩ := List.getElem?_eq_some_iff.1 hat
        exact List.drop_eq_getElem_cons hlt
      have HDR := hid hdr
      have hq1 : 1 ≤ q := by rw [← hq, hdr, eqh_cons]; omega
      have hqn : k + q ≤ n := by have := eqh_le (l.drop k); rw [hq, List.length_drop, HN.out] at this; omega
      have HRN := hid (rgs_next (l := l) (k := k) (by rw [HN.out]; exact hkn))
      have hsl : 0 < l.length := by rw [HN.out]; omega
      obtain ⟨b, off, cap, e, hcap, hcm, hbl, hsc⟩ := sec_at HV.out (fun e => by rw [e] at hsl; simp at hsl)
      rw [HN.out] at e hcap
      injection e with e1 _ e2
      subst e1 e2
      unfold maxLen at hcm
      have HSC := hid (fun (X : World) (hX : Below w.heap.size w X) (k : Nat) (s : Sect) (hk : l[k]? = some s) => (hsc k s hk).below hbl hX)
      have HSE := hid (fun (k : Nat) (s : Sect) (hk : l[k]? = some s) => HV.out.1 s (List.mem_of_getElem? hk))
      have hao := HSE.out k a hat
      have HAT := hid hat
      clear hq hdr hsc hsl hbl hat
      go_wp2_with fail
      refine HC.out.mono ?_
      rintro e w1 ⟨rfl, hb1⟩
      have HB1 := hid (below_both HB.out hb1)
      have HO1 := hid (own_keep HO.out (keep_below hb1))
      have hz1 := HB1.out.size
      have s1 := HSC.out w1 HB1.out k a HAT.out
      have heq := fun (X : World) => eql_sec a zs hao.1 rfl hao.2 (by unfold B8 zs; decide) X
      obtain ⟨bz, hbz⟩ : ∃ bz, decide (a = zs) = bz := ⟨_, rfl⟩
      rw [hbz] at heq
      have HBZ := hid hbz
      have HSQ : Hid (sgl (l.drop k) = (decide (a ≠ zs) && decide (q = 1))) := hid (by
        have h := HQ.out
        rw [HDR.out, eqh_cons] at h
        rw [HDR.out, sgl_iff]
        congr 1
        rw [Bool.eq_iff_iff]; simp; omega)
      have HHD : Hid (hdz (l.drop k) = bz) := hid (by rw [HDR.out]; exact hbz)
      clear hb1 HC HB HO hbz HAT
      obtain ⟨x0, x1, x2, x3, x4, x5, x6, x7, rfl⟩ := list8 hao.1
      obtain ⟨p0, p1, p2, p3, p4, p5, p6, p7⟩ := s1.facts
      clear s1 hao
      have heq2 : ∀ X : World, (Op.equalIn 10000 44 (.agg #[.int .u8 (x0 : Int), .int .u8 (x1 : Int), .int .u8 (x2 : Int), .int .u8 (x3 : Int), .int .u8 (x4 : Int), .int .u8 (x5 : Int), .int .u8 (x6 : Int), .int .u8 (x7 : Int)]) (.agg #[.int .u8 0, .int .u8 0, .int .u8 0, .int .u8 0, .int .u8 0, .int .u8 0, .int .u8 0, .int .u8 0])).run Try.prog X = .ok bz X := heq
      clear heq
      rcases bz with _ | _
      · have hz : [x0, x1, x2, x3, x4, x5, x6, x7] ≠ zs := of_decide_eq_false HBZ.out
        by_cases hq2 : 2 ≤ q
        · have d2 : decide ((2 : Int) ≤ (q : Int)) = true := by simp; omega
          have HK : Hid (knd (l.drop k) = 1 ∧ cnt (l.drop k) = q) := hid (by
            have hs : sgl (l.drop k) = false := by rw [HSQ.out]; have : ¬ q = 1 := by omega
                                                   simp [this]
            unfold knd cnt
            rw [hs, HHD.out, HQ.out]
            exact ⟨rfl, rfl⟩)
          have HR2 : Hid (rgs 0 (grps l) = (pre ++ [(1, k, q)]) ++ rgs (k + q) (grps (l.drop (k + q)))) := hid (by rw [HR.out, HRN.out, HK.out.1, HK.out.2, List.append_assoc]; rfl)
          go_wp2_with (at_builtin; refine append_grp rfl (.tmp 50) (.tmp 55) rfl w.heap.size (.slice lA m lc) m _ rfl (own_keep HO1.out (keep_below (al1 _ _))) (1, k, q) ⟨w1.heap.size, 0, none⟩ 1 rfl (fun j u hu => by rw [add_at', cell_of_row _ _ _ _ _ _ (heap_alloc_new w1 _)]; simpa [cG] using hu) (by omega) (by simp; omega) ?_; intro v2 w2 hown2 hg2; obtain ⟨a2, c2, rfl⟩ := own_form59 hown2; have HB2 := hid ((HB1.out.alloc hz1 _).grown hg2 (by simp; omega) (fun k e => (HO1.out.lt k e).1)); have HO2 := hid hown2; clear hown2 hg2)
          go_roundw
          case rel => exact ⟨k + q, m + 1, pre ++ [(1, k, q)], by omega, by go_num, by omega, hid (by rw [List.length_append, HM.out]; rfl), HR2, hid (by rw [List.map_append, List.flatten_append]; simpa using HO2.out), HB2⟩
          case measure => simp [Lib.intOf]; omega
        · have hq1' : q = 1 := by omega
          subst hq1'
          have d2 : decide ((2 : Int) ≤ ((1 : Nat) : Int)) = false := by decide
          have HS : Hid (sgl (l.drop k) = true) := hid (by rw [HSQ.out]; simp [hz])
          have HLT : Hid (lits (l.drop k) = 1 + lits (l.drop (k + 1))) := hid (by
            have h := HS.out
            have hd : l.drop k = [x0, x1, x2, x3, x4, x5, x6, x7] :: l.drop (k + 1) := HDR.out
            rw [hd] at h ⊢
            rw [lits_cons, if_pos h]; omega)
          have HKN : Hid (knd (l.drop k) = 0 ∧ cnt (l.drop k) = lits (l.drop k)) := hid (by
            unfold knd cnt
            rw [HS.out]
            exact ⟨rfl, rfl⟩)
          clear hz HS HSQ HHD
          go_wp2_with fail
          go_loopw [5] (fun i wy => ∃ (j : Nat), 1 ≤ j ∧ k + j ≤ n ∧ i = .int .i64 (j : Int) ∧ Hid (lits (l.drop k) = j + lits (l.drop (k + j))) ∧ Hid (Below w.heap.size w wy) ∧ Hid (wy.ownsRow w.heap.size 87 3 (.slice lA m lc) m (pre.map cG).flatten)) (fun i _ => n - (Lib.intOf i).toNat)
          case atStart => exact ⟨1, Nat.le_refl _, by omega, rfl, HLT, HB1, HO1⟩
          case round =>
            clear HLT HB1 HO1 hz1 heq2 p0 p1 p2 p3 p4 p5 p6 p7
            obtain ⟨j, hj1, hj2, rfl, HLJ, HBJ, HOJ⟩ := hrel
            have hzj := HBJ.out.size
            by_cases hjn : k + j < n
            · have hkj : (k : Int) + (j : Int) < (n : Int) := by omega
              have dk : decide (k + j < n) = true := by simp; omega
              obtain ⟨y, hy⟩ : ∃ y, l[k + j]? = some y := ⟨l[k + j]'(by rw [HN.out]; exact hjn), List.getElem?_eq_getElem _⟩
              have hyo := HSE.out _ y hy
              have HDY : Hid (l.drop (k + j) = y :: l.drop (k + j + 1)) := hid (by
                obtain ⟨hlt, rfl⟩ := List.getElem?_eq_some_iff.1 hy
                exact List.drop_eq_getElem_cons hlt)
              have s2 := HSC.out wr HBJ.out _ y hy
              have HYT := hid hy
              have heq := fun (X : World) => eql_sec y zs hyo.1 rfl hyo.2 (by unfold B8 zs; decide) X
              obtain ⟨by', hby⟩ : ∃ bz, decide (y = zs) = bz := ⟨_, rfl⟩
              rw [hby] at heq
              have HBY := hid hby
              clear hy hby
              obtain ⟨y0, y1, y2, y3, y4, y5, y6, y7, rfl⟩ := list8 hyo.1
              obtain ⟨r0, r1, r2, r3, r4, r5, r6, r7⟩ := s2.facts
              clear s2 hyo
              have heq2 : ∀ X : World, (Op.equalIn 10000 44 (.agg #[.int .u8 (y0 : Int), .int .u8 (y1 : Int), .int .u8 (y2 : Int), .int .u8 (y3 : Int), .int .u8 (y4 : Int), .int .u8 (y5 : Int), .int .u8 (y6 : Int), .int .u8 (y7 : Int)]) (.agg #[.int .u8 0, .int .u8 0, .int .u8 0, .int .u8 0, .int .u8 0, .int .u8 0, .int .u8 0, .int .u8 0])).run Try.prog X = .ok by' X := heq
              clear heq
              rcases by' with _ | _
              · obtain ⟨r, hr⟩ : ∃ r, eqh (l.drop (k + j)) = r := ⟨_, rfl⟩
                have HCJ := hid (fun (X : World) (hX : Below w.heap.size w X) => show Calls Try.prog 65 #[.slice (some ⟨b, off, none⟩) n c, .int .i64 ((k : Int) + (j : Int))] X (fun e w' => e = .returned (.int .i64 (eqh (l.drop (k + j)) : Nat)) ∧ Below X.heap.size X w') from eqRun_any l (k + j) (.slice (some ⟨b, off, none⟩) n c) X (HV.out.below hX) (by rw [HN.out]; exact hjn) (by rw [HN.out]; exact hl))
                rw [hr] at HCJ
                have HRR := hid hr
                clear hr
                have hyz : [y0, y1, y2, y3, y4, y5, y6, y7] ≠ zs := of_decide_eq_false HBY.out
                have HSG : Hid (sgl (l.drop (k + j)) = decide (r = 1)) := hid (by
                  have h := HRR.out
                  rw [HDY.out, eqh_cons] at h
                  rw [HDY.out, sgl_iff, decide_eq_true hyz, Bool.true_and]
                  rw [Bool.eq_iff_iff]; simp; omega)
                clear hyz HBY
                go_wp2_with fail
                refine (HCJ.out _ HBJ.out).mono ?_
                rintro e w5 ⟨rfl, hb5⟩
                have HBX := hid (below_both HBJ.out hb5)
                have HOX := hid (own_keep HOJ.out (keep_below hb5))
                have hzx := HBX.out.size
                clear hb5 HCJ heq2 r0 r1 r2 r3 r4 r5 r6 r7
                by_cases hr1 : r = 1
                · subst hr1
                  have HL2 : Hid (lits (l.drop k) = (j + 1) + lits (l.drop (k + (j + 1)))) := hid (by
                    have h := HSG.out
                    rw [HLJ.out, HDY.out, lits_cons]
                    rw [HDY.out] at h
                    rw [if_pos (by rw [h]; rfl), show k + (j + 1) = k + j + 1 by omega]
                    omega)
                  clear HSG HDY HYT HLJ HBJ HOJ
                  go_wp2_with fail
                  go_roundw
                  case rel => exact ⟨j + 1, by omega, by omega, by go_num, HL2, HBX, HOX⟩
                  case measure => simp [Lib.intOf]; omega
                · have HE : Hid (lits (l.drop k) = j) := hid (by
                    have h := HSG.out
                    rw [HLJ.out, HDY.out, lits_cons]
                    rw [HDY.out] at h
                    rw [if_neg (by rw [h]; simpa using hr1)]
                    exact Nat.add_zero j)
                  have d7 : ((r : Int) == 1) = false := by simp; omega
                  clear HSG HDY HYT HBJ HOJ
                  have HK : Hid (knd (l.drop k) = 0 ∧ cnt (l.drop k) = j) := hid ⟨HKN.out.1, HKN.out.2.trans HE.out⟩
                  have HR2 : Hid (rgs 0 (grps l) = (pre ++ [(0, k, j)]) ++ rgs (k + j) (grps (l.drop (k + j)))) := hid (by rw [HR.out, HRN.out, HK.out.1, HK.out.2, List.append_assoc]; rfl)
                  go_wp2_with (at_builtin; refine append_grp rfl (.tmp 50) (.tmp 55) rfl w.heap.size (.slice lA m lc) m _ rfl (own_keep HOX.out (keep_below (al1 _ _))) (0, k, j) ⟨w5.heap.size, 0, none⟩ 1 rfl (fun j u hu => by rw [add_at', cell_of_row _ _ _ _ _ _ (heap_alloc_new w5 _)]; simpa [cG] using hu) (by omega) (by simp; omega) ?_; intro v2 w2 hown2 hg2; obtain ⟨a2, c2, rfl⟩ := own_form59 hown2; have HB2 := hid ((HBX.out.alloc hzx _).grown hg2 (by simp; omega) (fun k e => (HOX.out.lt k e).1)); have HO2 := hid hown2; clear hown2 hg2)
                  go_roundw
                  case rel => exact ⟨k + j, m + 1, pre ++ [(0, k, j)], by omega, by go_num, by omega, hid (by rw [List.length_append, HM.out]; rfl), HR2, hid (by rw [List.map_append, List.flatten_append]; simpa using HO2.out), HB2⟩
                  case measure => simp [Lib.intOf]; omega
              · have HE : Hid (lits (l.drop k) = j) := hid (by
                  rw [HLJ.out, HDY.out, of_decide_eq_true HBY.out]
                  have : sgl (zs :: l.drop (k + j + 1)) = false := by rw [sgl_iff]; simp
                  rw [lits_cons, if_neg (by rw [this]; decide)]; exact Nat.add_zero j)
                clear HDY HYT HBY
                have HK : Hid (knd (l.drop k) = 0 ∧ cnt (l.drop k) = j) := hid ⟨HKN.out.1, HKN.out.2.trans HE.out⟩
                have HR2 : Hid (rgs 0 (grps l) = (pre ++ [(0, k, j)]) ++ rgs (k + j) (grps (l.drop (k + j)))) := hid (by rw [HR.out, HRN.out, HK.out.1, HK.out.2, List.append_assoc]; rfl)
                go_wp2_with (at_builtin; refine append_grp rfl (.tmp 50) (.tmp 55) rfl w.heap.size (.slice lA m lc) m _ rfl (own_keep HOJ.out (keep_below (al1 _ _))) (0, k, j) ⟨wr.heap.size, 0, none⟩ 1 rfl (fun j u hu => by rw [add_at', cell_of_row _ _ _ _ _ _ (heap_alloc_new wr _)]; simpa [cG] using hu) (by omega) (by simp; omega) ?_; intro v2 w2 hown2 hg2; obtain ⟨a2, c2, rfl⟩ := own_form59 hown2; have HB2 := hid ((HBJ.out.alloc hzj _).grown hg2 (by simp; omega) (fun k e => (HOJ.out.lt k e).1)); have HO2 := hid hown2; clear hown2 hg2)
                go_roundw
                case rel => exact ⟨k + j, m + 1, pre ++ [(0, k, j)], by omega, by go_num, by omega, hid (by rw [List.length_append, HM.out]; rfl), HR2, hid (by rw [List.map_append, List.flatten_append]; simpa using HO2.out), HB2⟩
                case measure => simp [Lib.intOf]; omega
            · have hjn' : k + j = n := by omega
              have HE : Hid (lits (l.drop k) = j) := hid (by rw [HLJ.out, List.drop_of_length_le (by rw [HN.out]; omega)]; rfl)
              have dk : decide (k + j < n) = false := by simp; omega
              have dk2 : decide ((k : Int) + (j : Int) < (n : Int)) = false := by simp; omega
              have hk0 : (k : Int) < (n : Int) := by omega
              clear hjn'
              have HK : Hid (knd (l.drop k) = 0 ∧ cnt (l.drop k) = j) := hid ⟨HKN.out.1, HKN.out.2.trans HE.out⟩
              have HR2 : Hid (rgs 0 (grps l) = (pre ++ [(0, k, j)]) ++ rgs (k + j) (grps (l.drop (k + j)))) := hid (by rw [HR.out, HRN.out, HK.out.1, HK.out.2, List.append_assoc]; rfl)
              go_wp2_with (at_builtin; refine append_grp rfl (.tmp 50) (.tmp 55) rfl w.heap.size (.slice lA m lc) m _ rfl (own_keep HOJ.out (keep_below (al1 _ _))) (0, k, j) ⟨wr.heap.size, 0, none⟩ 1 rfl (fun j u hu => by rw [add_at', cell_of_row _ _ _ _ _ _ (heap_alloc_new wr _)]; simpa [cG] using hu) (by omega) (by simp; omega) ?_; intro v2 w2 hown2 hg2; obtain ⟨a2, c2, rfl⟩ := own_form59 hown2; have HB2 := hid ((HBJ.out.alloc hzj _).grown hg2 (by simp; omega) (fun k e => (HOJ.out.lt k e).1)); have HO2 := hid hown2; clear hown2 hg2)
              go_roundw
              case rel => exact ⟨k + j, m + 1, pre ++ [(0, k, j)], by omega, by go_num, by omega, hid (by rw [List.length_append, HM.out]; rfl), HR2, hid (by rw [List.map_append, List.flatten_append]; simpa using HO2.out), HB2⟩
              case measure => simp [Lib.intOf]; omega
      · have HK : Hid (knd (l.drop k) = 2 ∧ cnt (l.drop k) = q) := hid (by
          have hs : sgl (l.drop k) = false := by rw [HSQ.out, of_decide_eq_true HBZ.out]; rfl
          unfold knd cnt
          rw [hs, HHD.out, HQ.out]
          exact ⟨rfl, rfl⟩)
        have HR2 : Hid (rgs 0 (grps l) = (pre ++ [(2, k, q)]) ++ rgs (k + q) (grps (l.drop (k + q)))) := hid (by rw [HR.out, HRN.out, HK.out.1, HK.out.2, List.append_assoc]; rfl)
        go_wp2_with (at_builtin; refine append_grp rfl (.tmp 50) (.tmp 55) rfl w.heap.size (.slice lA m lc) m _ rfl (own_keep HO1.out (keep_below (al1 _ _))) (2, k, q) ⟨w1.heap.size, 0, none⟩ 1 rfl (fun j u hu => by rw [add_at', cell_of_row _ _ _ _ _ _ (heap_alloc_new w1 _)]; simpa [cG] using hu) (by omega) (by simp; omega) ?_; intro v2 w2 hown2 hg2; obtain ⟨a2, c2, rfl⟩ := own_form59 hown2; have HB2 := hid ((HB1.out.alloc hz1 _).grown hg2 (by simp; omega) (fun k e => (HO1.out.lt k e).1)); have HO2 := hid hown2; clear hown2 hg2)
        go_roundw
        case rel => exact ⟨k + q, m + 1, pre ++ [(2, k, q)], by omega, by go_num, by omega, hid (by rw [List.length_append, HM.out]; rfl), HR2, hid (by rw [List.map_append, List.flatten_append]; simpa using HO2.out), HB2⟩
        case measure => simp [Lib.intOf]; omega
    · obtain rfl : k = n := by omega
      have HR2 : Hid (rgs 0 (grps l) = pre) := hid (by rw [HR.out, List.drop_of_length_le (by rw [HN.out]; omega), grps_nil]; exact List.append_nil _)
      go_wp2
      go_ret
      exact ⟨_, rfl, by rw [HR2.out, HM.out]; exact HO.out, HB.out⟩
end Go.Proofs.Ytldlddoealpomaa.Rl
