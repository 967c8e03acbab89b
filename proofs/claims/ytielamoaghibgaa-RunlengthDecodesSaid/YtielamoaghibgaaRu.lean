/- The reference's Runs and Same. -/
import Derived.Test.YtielamoaghibgaaRt
namespace Go.Proofs.Ytielamoaghibgaa
open Go.RowKit Go.Lib

def cE (e : Nat × Nat) : List Value := [.int .i64 (e.1 : Int), .int .i64 (e.2 : Int)]
theorem cE_len (l : List (Nat × Nat)) : (l.map cE).flatten.length = 2 * l.length := by
  induction l with
  | nil => rfl
  | cons a l ih => rw [List.map_cons, List.flatten_cons, List.length_append, ih, List.length_cons]; show 2 + _ = _; omega
theorem cE_one (l : List (Nat × Nat)) : ∀ u ∈ (l.map cE).flatten, u.oneCell' = true := fun u hu => by
  obtain ⟨x, hx, hu⟩ := List.mem_flatten.1 hu
  obtain ⟨s, _, rfl⟩ := List.mem_map.1 hx
  simp [cE] at hu
  rcases hu with rfl | rfl <;> rfl
theorem own_form46 {w : World} {base n : Nat} {v : Value} {xs : List Value} (h : w.ownsRow base 46 2 v n xs) : ∃ A cap, v = .slice A n cap := by
  rcases h.2 with ⟨rfl, rfl⟩ | ⟨g, cap, cur, rfl, _⟩
  · exact ⟨none, 0, rfl⟩
  · exact ⟨_, _, rfl⟩
set_option maxRecDepth 100000 in
theorem append_ext {ops : Array Oper} {rest : List Oper} {o : Oper} {a : Act} {w : World} {Q : Exit → Act → World → Prop} (hgd : o.guard = none) (s x : Operand) (ho : o.op = .call { callee := .builtin .append, args := #[s, x], argTypes := #[37, 37] })
    (base : Nat) (v : Value) (n : Nat) (olds : List Value) (hs : a.eval s = v) (hown : w.ownsRow base 46 2 v n olds) (e : Nat × Nat) (ad : Addr) (c : Nat) (hx : a.eval x = .slice (some ad) 1 c)
    (hc : ∀ j u, (cE e)[j]? = some u → w.cell? (ad.add j) = some u) (b1 : n + 1 ≤ 1000000) (hbase : base ≤ w.heap.size)
    (h : ∀ v' w', w'.ownsRow base 46 2 v' (n + 1) (olds ++ cE e) → w.grownBy w' v.ownBlock → wpList Try.prog ops Q rest (a.put o.dst v') w') : wpList Try.prog ops Q (o :: rest) a w := by
  obtain ⟨i0, hi, hz0, hz1, hz2⟩ := info_parts info46
  exact wpList_append_own w hgd s x 37 ho base 46 i0 _ 2 16 Try.underlying37 hi hz0 hz1 hz2 rfl (by decide) v n olds hs hown ad 1 c _ hx rfl hc (by have := cE_one [e]; simpa using this) (by unfold maxLen; omega) (by omega) hbase (fun v' w' h1 h2 _ => h v' w' h1 h2)
theorem rns_len (n : Nat) : ∀ (l : List Sect) (p : Nat), l.length ≤ n → (rns p l).length ≤ l.length := by
  induction n with
  | zero => intro l p hl; rw [List.eq_nil_of_length_eq_zero (Nat.le_zero.1 hl), rns_nil]; simp
  | succ n ih =>
    intro l p hl
    by_cases h0 : l = []
    · subst h0; rw [rns_nil]; simp
    · obtain ⟨a, t, rfl⟩ : ∃ a t, l = a :: t := by
        rcases l with _ | ⟨a, t⟩
        · exact absurd rfl h0
        · exact ⟨a, t, rfl⟩
      have he := eqh_cons a t
      have hle := eqh_le (a :: t)
      rw [rns_cons p h0, List.length_append]
      have := ih ((a :: t).drop (eqh (a :: t))) (p + eqh (a :: t)) (by rw [List.length_drop]; omega)
      rw [List.length_drop] at this
      split
      · simp only [List.length_singleton]; omega
      · simp only [List.length_nil]; omega

set_option maxHeartbeats 4000000 in
set_option maxRecDepth 100000 in
theorem refRuns_any (l : List Sect) (v : Value) (w : World) (hv : Sec w v l) (hl : l.length ≤ 100000) :
    Calls Try.prog 20 #[v] w fun e w' => ∃ v', e = .returned v' ∧ w'.ownsRow w.heap.size 46 2 v' (rns 0 l).length ((rns 0 l).map cE).flatten ∧ Below w.heap.size w w' := by
  have HV := hid hv
  obtain ⟨A, c, rfl⟩ := sec_form hv
  obtain ⟨n, hn⟩ : ∃ n, l.length = n := ⟨_, rfl⟩
  have HN := hid hn
  have HV' : Hid (Sec w (.slice A n c) l) := hid (by rw [← hn]; exact hv)
  rw [hn]
  rw [hn] at hl
  clear hv hn HV
  go_enter Try.func20, Try.ntmps20
  go_wp2_with fail
  go_loopw [3, 4] (fun v i wr => ∃ (k m : Nat) (pre : List (Nat × Nat)), k ≤ n ∧ i = .int .i64 (k : Int) ∧ m ≤ k ∧ Hid (pre.length = m) ∧ Hid (rns 0 l = pre ++ rns k (l.drop k)) ∧ Hid (wr.ownsRow w.heap.size 46 2 v m (pre.map cE).flatten) ∧ Hid (Below w.heap.size w wr)) (fun _ i _ => n - (Lib.intOf i).toNat)
  case atStart => exact ⟨0, 0, [], Nat.zero_le _, rfl, Nat.le_refl _, hid rfl, hid rfl, hid (World.ownsRow_nil _ _ _ _), hid (Below.refl _ _)⟩
  case round =>
    obtain ⟨k, m, pre, hk, rfl, hmk, HM, HR, HO, HB⟩ := hrel
    obtain ⟨lA, lc, rfl⟩ := own_form46 HO.out
    by_cases hkn : k < n
    · have hkn1 : (k : Int) < (n : Int) := by omega
      have h0 : l.drop k ≠ [] := by intro e; have := congrArg List.length e; rw [List.length_drop, HN.out] at this; simp at this; omega
      have HC := hid (eqRun_any l k _ wr (HV'.out.below HB.out) (by rw [HN.out]; exact hkn) (by rw [HN.out]; exact hl))
      obtain ⟨q, hq⟩ : ∃ q, eqh (l.drop k) = q := ⟨_, rfl⟩
      have hq1 : 1 ≤ q := by
        rw [← hq]
        obtain ⟨a, t, e⟩ : ∃ a t, l.drop k = a :: t := by
          rcases h : l.drop k with _ | ⟨a, t⟩
          · exact absurd h h0
          · exact ⟨a, t, rfl⟩
        rw [e, eqh_cons]; omega
      have hqn : k + q ≤ n := by have := eqh_le (l.drop k); rw [hq, List.length_drop, HN.out] at this; omega
      have HRN := hid (rns_cons k h0)
      rw [hq, List.drop_drop] at HRN
      rw [hq] at HC
      clear hq h0
      go_wp2_with fail
      refine HC.out.mono ?_
      rintro e w1 ⟨rfl, hb1⟩
      have HB1 := hid (below_both HB.out hb1)
      have HO1 := hid (own_keep HO.out (keep_below hb1))
      have hz1 := HB1.out.size
      clear hb1 HC HB HO
      by_cases hq2 : 2 ≤ q
      · have d2 : decide ((2 : Int) ≤ (q : Int)) = true := by simp; omega
        have HR2 : Hid (rns 0 l = (pre ++ [(k, q)]) ++ rns (k + q) (l.drop (k + q))) := hid (by rw [HR.out, HRN.out, if_pos hq2, List.append_assoc])
        go_wp2_with (at_builtin; refine append_ext rfl (.tmp 15) (.tmp 19) rfl w.heap.size (.slice lA m lc) m _ rfl (own_keep HO1.out (keep_below (al1 _ _))) (k, q) ⟨w1.heap.size, 0, none⟩ 1 rfl (fun j u hu => by rw [add_at', cell_of_row _ _ _ _ _ _ (heap_alloc_new w1 _)]; simpa [cE] using hu) (by omega) (by simp; omega) ?_; intro v2 w2 hown2 hg2; obtain ⟨a2, c2, rfl⟩ := own_form46 hown2; have HB2 := hid ((HB1.out.alloc hz1 _).grown hg2 (by simp; omega) (fun k e => (HO1.out.lt k e).1)); have HO2 := hid hown2; clear hown2 hg2)
        go_roundw
        case rel => exact ⟨k + q, m + 1, pre ++ [(k, q)], by omega, by go_num, by omega, hid (by rw [List.length_append, HM.out]; rfl), HR2, hid (by rw [List.map_append, List.flatten_append]; simpa using HO2.out), HB2⟩
        case measure => simp [Lib.intOf]; omega
      · have d2 : decide ((2 : Int) ≤ (q : Int)) = false := by simp; omega
        have HR2 : Hid (rns 0 l = pre ++ rns (k + q) (l.drop (k + q))) := hid (by rw [HR.out, HRN.out, if_neg hq2, List.nil_append])
        go_wp2_with fail
        go_roundw
        case rel => exact ⟨k + q, m, pre, by omega, by go_num, by omega, HM, HR2, HO1, HB1⟩
        case measure => simp [Lib.intOf]; omega
    · obtain rfl : k = n := by omega
      have HR2 : Hid (rns 0 l = pre) := hid (by rw [HR.out, List.drop_of_length_le (by rw [HN.out]; omega), rns_nil, List.append_nil])
      go_wp2
      go_ret
      exact ⟨_, rfl, by rw [HR2.out, HM.out]; exact HO.out, HB.out⟩
end Go.Proofs.Ytielamoaghibgaa
