/- The reference's Sizes, SizesOf, Check; few. -/
import Derived.Test.YtbcnikmhodkbfaaQ
namespace Go.Proofs.Ytbcnikmhodkbfaa
open Go.RowKit Go.Lib

set_option maxHeartbeats 2000000 in
set_option maxRecDepth 100000 in
theorem refSizes_any (l : List Int) (v : Value) (w : World) (hv : Arr w v 1 (l.map cInt)) :
    Calls Try.prog 46 #[v] w fun e w' => e = .returned (.int .i64 (chkS l)) ∧ w = w' := by
  obtain ⟨A, c, rfl⟩ := arr_form hv
  obtain ⟨_, hc1, hc2⟩ := arr_cap hv
  have HV := hid hv
  rw [List.length_map] at HV hc1 ⊢
  obtain ⟨n, hn⟩ : ∃ n, l.length = n := ⟨_, rfl⟩
  have HN := hid hn
  rw [hn] at HV hc1 ⊢
  clear hv hn
  by_cases hbad : n < 1 ∨ 8 < n
  · have HE : Hid (chkS l = 6) := hid (by unfold chkS; rw [HN.out, if_pos hbad])
    rcases Nat.lt_or_ge n 1 with h | h
    · obtain rfl : n = 0 := by omega
      clear hbad h
      go_enter Try.func46, Try.ntmps46
      go_wp2
      go_ret
      exact ⟨ret_eq HE.out.symm, rfl⟩
    · have d1 : decide ((n : Int) < 1) = false := by simp; omega
      have d2 : decide ((8 : Int) < (n : Int)) = true := by simp; omega
      clear hbad h
      go_enter Try.func46, Try.ntmps46
      go_wp2
      go_ret
      exact ⟨ret_eq HE.out.symm, rfl⟩
  · have d1 : decide ((n : Int) < 1) = false := by simp; omega
    have d2 : decide ((8 : Int) < (n : Int)) = false := by simp; omega
    have hn1 : 1 ≤ n := by omega
    have hn8 : n ≤ 8 := by omega
    obtain ⟨b, off, rfl, hb, hcell⟩ := arr_at1 HV.out (by rw [List.length_map, HN.out]; omega)
    have HC := hid hcell
    have HBAD := hid hbad
    clear hcell hbad
    go_enter Try.func46, Try.ntmps46
    go_wp2_with fail
    go_loop [3] (fun i => ∃ k : Nat, k ≤ n ∧ i = .int .i64 (k : Int) ∧ Hid ((l.take k).all szB = true)) (fun i => n - (Go.RowKit.intOf i).toNat)
    case atStart => exact ⟨0, Nat.zero_le _, rfl, hid rfl⟩
    case round =>
      obtain ⟨k, hk, rfl, HT⟩ := hrel
      by_cases hkn : k < n
      · obtain ⟨x, hx⟩ : ∃ x, l[k]? = some x := ⟨l[k]'(by rw [HN.out]; exact hkn), List.getElem?_eq_getElem _⟩
        have hcx : w.cell? ⟨b, off + k, none⟩ = some (.int .i64 x) := by
          have h := HC.out k _ (by rw [List.getElem?_map, hx]; rfl) 0 _ rfl
          rwa [Nat.mul_one, Nat.add_zero] at h
        have hkc : (k : Int) < (n : Int) := by omega
        have HX := hid hx
        clear hx
        by_cases hz : szB x = true
        · have hz' := of_decide_eq_true hz
          have e1 : decide (x < 1) = false := by simp; omega
          have e2 : decide (4096 < x) = false := by simp; omega
          have HT2 : Hid ((l.take (k + 1)).all szB = true) := hid (by
            obtain ⟨hlt, rfl⟩ := List.getElem?_eq_some_iff.1 HX.out
            rw [List.take_succ_eq_append_getElem hlt, List.all_append, HT.out]; simpa using hz)
          clear hz hz'
          go_wp2
          go_round
          case rel => exact ⟨k + 1, by omega, by go_num, HT2⟩
          case measure => simp [Go.RowKit.intOf]; omega
        · have hz' := of_decide_eq_false (by simpa using hz : szB x = false)
          have HE : Hid (chkS l = 2) := hid (by
            unfold chkS
            rw [HN.out, if_neg HBAD.out, if_neg]
            intro h
            exact hz (List.all_eq_true.1 h x (List.mem_of_getElem? HX.out)))
          clear hz
          by_cases h1 : x < 1
          · have e1 : decide (x < 1) = true := by simpa using h1
            clear hz' h1
            go_wp2
            go_ret
            exact ⟨ret_eq HE.out.symm, rfl⟩
          · have e1 : decide (x < 1) = false := by simpa using h1
            have e2 : decide (4096 < x) = true := by simp; omega
            clear hz' h1
            go_wp2
            go_ret
            exact ⟨ret_eq HE.out.symm, rfl⟩
      · obtain rfl : k = n := by omega
        have HE : Hid (chkS l = 0) := hid (by
          have h := HT.out
          rw [← HN.out, List.take_length] at h
          unfold chkS
          rw [HN.out, if_neg HBAD.out, if_pos h])
        go_wp2
        go_ret
        exact ⟨ret_eq HE.out.symm, rfl⟩
theorem append_int {ops : Array Oper} {rest : List Oper} {o : Oper} {a : Act} {w : World} {Q : Exit → Act → World → Prop} (hgd : o.guard = none) (s x : Operand) (ho : o.op = .call { callee := .builtin .append, args := #[s, x], argTypes := #[22, 22] })
    (base : Nat) (v : Value) (n : Nat) (olds : List Value) (hs : a.eval s = v) (hown : w.ownsRow base 3 1 v n olds) (y : Int) (ad : Addr) (c : Nat) (hx : a.eval x = .slice (some ad) 1 c)
    (hc : ∀ j u, [Value.int .i64 y][j]? = some u → w.cell? (ad.add j) = some u) (b1 : n + 1 ≤ 1000000) (hbase : base ≤ w.heap.size)
    (h : ∀ v' w', w'.ownsRow base 3 1 v' (n + 1) (olds ++ [Value.int .i64 y]) → w.grownBy w' v.ownBlock → wpList Try.prog ops Q rest (a.put o.dst v') w') : wpList Try.prog ops Q (o :: rest) a w := by
  obtain ⟨i0, hi, hz0, hz1, hz2⟩ := info_parts info3
  exact wpList_append_own w hgd s x 22 ho base 3 i0 _ 1 8 Try.underlying22 hi hz0 hz1 hz2 rfl (by decide) v n olds hs hown ad 1 c _ hx rfl hc (by intro u hu; simp at hu; subst hu; rfl) (by unfold maxLen; omega) (by omega) hbase (fun v' w' h1 h2 _ => h v' w' h1 h2)
theorem flat_int (l : List Int) : (l.map cInt).flatten = l.map (Value.int .i64) := by
  induction l with
  | nil => rfl
  | cons a l ih => rw [List.map_cons, List.flatten_cons, ih]; rfl
set_option maxHeartbeats 2000000 in
set_option maxRecDepth 100000 in
theorem refSizesOf_any (xs : List Vol) (v : Value) (w : World) (hv : Img w v xs) (hl : xs.length ≤ 1000) :
    Calls Try.prog 38 #[v] w fun e w' => ∃ v', e = .returned v' ∧ w'.ownsRow w.heap.size 3 1 v' (siz (con xs)).length ((siz (con xs)).map cInt).flatten ∧ Below w.heap.size w w' := by
  obtain ⟨A, c, rfl⟩ := img_form hv
  obtain ⟨_, hc1, hc2⟩ := arr_cap hv.2
  have HV := hid hv
  rw [flat_int, siz_len, con_len]
  obtain ⟨n, hn⟩ : ∃ n, xs.length = n := ⟨_, rfl⟩
  have HN := hid hn
  rw [hn] at HV hc1 hl ⊢
  clear hv hn
  go_enter Try.func38, Try.ntmps38
  go_wp2_with fail
  go_loopw [3, 4] (fun v i wr => ∃ (k : Nat), k ≤ n ∧ i = .int .i64 (k : Int) ∧ Hid (wr.ownsRow w.heap.size 3 1 v k (((siz (con xs)).take k).map (Value.int .i64))) ∧ Hid (Below w.heap.size w wr)) (fun _ i _ => n - (Go.RowKit.intOf i).toNat)
  case atStart => exact ⟨0, Nat.zero_le _, rfl, hid (World.ownsRow_nil _ _ _ _), hid (Below.refl _ _)⟩
  case round =>
    obtain ⟨k, hk, rfl, HO, HB⟩ := hrel
    obtain ⟨lA, lc, rfl⟩ := ownAny_form HO.out
    by_cases hkn : k < n
    · obtain ⟨x, hx⟩ : ∃ x, xs[k]? = some x := ⟨xs[k]'(by rw [HN.out]; exact hkn), List.getElem?_eq_getElem _⟩
      have hsx : (siz (con xs))[k]? = some (x.l.length : Int) := by unfold siz con; rw [List.getElem?_map, List.getElem?_map, hx]; rfl
      have HT : Hid ((siz (con xs)).take (k + 1) = (siz (con xs)).take k ++ [(x.l.length : Int)]) := hid (take_snoc hsx)
      obtain ⟨b, off, hbA, hb, hcell⟩ := arr_at1 HV.out.2 (by rw [List.length_map, HN.out]; omega)
      subst hbA
      obtain ⟨dA, dc, hd⟩ := sec_form (HV.out.1 x (List.mem_of_getElem? hx)).1
      have hcx : wr.cell? ⟨b, off + k, none⟩ = some (.slice dA x.l.length dc) := by
        have h := hcell k _ (by rw [List.getElem?_map, hx]; rfl) 0 _ rfl
        rw [Nat.mul_one, Nat.add_zero, hd] at h
        exact (HB.out.cell (p := ⟨b, off + k, none⟩) hb).trans h
      obtain ⟨X, hX⟩ : ∃ X, x.l.length = X := ⟨_, rfl⟩
      rw [hX] at HT hcx
      have hkc : (k : Int) < (n : Int) := by omega
      have hz1 := HB.out.size
      clear hcell hd hx hsx hX
      go_wp2_with (at_builtin; refine append_int rfl (.tmp 11) (.tmp 17) rfl w.heap.size (.slice lA k lc) k _ rfl (own_keep HO.out (keep_below (al1 _ _))) (X : Int) ⟨wr.heap.size, 0, none⟩ 1 rfl (fun j u hu => by rw [add_at', cell_of_row _ _ _ _ _ _ (heap_alloc_new wr _)]; simpa using hu) (by omega) (by simp; omega) ?_; intro v2 w2 hown2 hg2; obtain ⟨a2, c2, rfl⟩ := ownAny_form hown2; have HB2 := hid ((HB.out.alloc hz1 _).grown hg2 (by simp; omega) (fun k e => (HO.out.lt k e).1)); have HO2 := hid hown2; clear hown2 hg2)
      go_roundw
      case rel => exact ⟨k + 1, by omega, by go_num, hid (by rw [HT.out, List.map_append]; exact HO2.out), HB2⟩
      case measure => simp [Go.RowKit.intOf]; omega
    · obtain rfl : k = n := by omega
      go_wp2
      go_ret
      refine ⟨_, rfl, ?_, HB.out⟩
      have h := HO.out
      rw [List.take_of_length_le (by rw [siz_len, con_len, HN.out]; exact Nat.le_refl _)] at h
      exact h
set_option maxHeartbeats 2000000 in
theorem refCheck_any (xs : List Vol) (v : Value) (w : World) (hv : Img w v xs) (hl : xs.length ≤ 1000) :
    Calls Try.prog 19 #[v] w fun e w' => e = .returned (.int .i64 (chkS (siz (con xs)))) ∧ Below w.heap.size w w' := by
  have HC := hid (refSizesOf_any xs v w hv hl)
  obtain ⟨A, c, rfl⟩ := img_form hv
  clear hv
  go_enter Try.func19, Try.ntmps19
  go_wp2_with fail
  refine HC.out.mono ?_
  rintro e w1 ⟨v1, rfl, ho, hb⟩
  have ho' : w1.ownsRow w.heap.size 3 1 v1 ((siz (con xs)).map cInt).length ((siz (con xs)).map cInt).flatten := by rw [List.length_map]; exact ho
  have HS := hid (refSizes_any (siz (con xs)) v1 w1 (arr_of_own ho' rfl (fun r hr => by obtain ⟨x, _, rfl⟩ := List.mem_map.1 hr; rfl)))
  obtain ⟨lA, lc, rfl⟩ := ownAny_form ho
  have HB := hid hb
  clear ho ho' hb
  go_wp2_with fail
  refine HS.out.mono ?_
  rintro e w2 ⟨rfl, rfl⟩
  go_wp2
  go_ret
  exact ⟨rfl, HB.out⟩
/-- Whether the laws take an image at all. -/
def fewV (L : List (List Sect)) : Bool := decide (L.length ≤ 9) && L.all fun l => decide (l.length ≤ 24)
set_option maxHeartbeats 2000000 in
set_option maxRecDepth 100000 in
theorem few_any (xs : List Vol) (v : Value) (w : World) (hv : Img w v xs) :
    Calls Try.prog 11 #[v] w fun e w' => e = .returned (.bool (fewV (con xs))) ∧ w = w' := by
  obtain ⟨A, c, rfl⟩ := img_form hv
  obtain ⟨_, hc1, hc2⟩ := arr_cap hv.2
  have HV := hid hv
  obtain ⟨n, hn⟩ : ∃ n, xs.length = n := ⟨_, rfl⟩
  have HN := hid hn
  rw [hn] at HV hc1 ⊢
  clear hv hn
  by_cases h9 : n ≤ 9
  · have d1 : decide ((9 : Int) < (n : Int)) = false := by simp; omega
    have HD : Hid (fewV (con xs) = (con xs).all fun l => decide (l.length ≤ 24)) := hid (by unfold fewV; rw [con_len, HN.out, decide_eq_true h9, Bool.true_and])
    go_enter Try.func11, Try.ntmps11
    go_wp2_with fail
    go_loop [3] (fun i => ∃ k : Nat, k ≤ n ∧ i = .int .i64 (k : Int) ∧ Hid (((con xs).take k).all (fun l => decide (l.length ≤ 24)) = true)) (fun i => n - (Go.RowKit.intOf i).toNat)
    case atStart => exact ⟨0, Nat.zero_le _, rfl, hid rfl⟩
    case round =>
      obtain ⟨k, hk, rfl, HT⟩ := hrel
      by_cases hkn : k < n
      · obtain ⟨x, hx⟩ : ∃ x, xs[k]? = some x := ⟨xs[k]'(by rw [HN.out]; exact hkn), List.getElem?_eq_getElem _⟩
        have hcx0 : (con xs)[k]? = some x.l := by unfold con; rw [List.getElem?_map, hx]; rfl
        obtain ⟨b, off, hbA, hb, hcell⟩ := arr_at1 HV.out.2 (by rw [List.length_map, HN.out]; omega)
        subst hbA
        obtain ⟨dA, dc, hd⟩ := sec_form (HV.out.1 x (List.mem_of_getElem? hx)).1
        have hcx : w.cell? ⟨b, off + k, none⟩ = some (.slice dA x.l.length dc) := by
          have h := hcell k _ (by rw [List.getElem?_map, hx]; rfl) 0 _ rfl
          rw [Nat.mul_one, Nat.add_zero, hd] at h
          exact h
        have HX0 := hid hcx0
        have hkc : (k : Int) < (n : Int) := by omega
        obtain ⟨X, hX⟩ : ∃ X, x.l.length = X := ⟨_, rfl⟩
        have HXL := hid hX
        rw [hX] at hcx
        clear hcell hd hx hcx0 hX
        by_cases hz : X ≤ 24
        · have e1 : decide ((24 : Int) < (X : Int)) = false := by simp; omega
          have HT2 : Hid (((con xs).take (k + 1)).all (fun l => decide (l.length ≤ 24)) = true) := hid (by
            rw [take_snoc HX0.out, List.all_append, HT.out]
            simp [HXL.out, hz])
          go_wp2
          go_round
          case rel => exact ⟨k + 1, by omega, by go_num, HT2⟩
          case measure => simp [Go.RowKit.intOf]; omega
        · have e1 : decide ((24 : Int) < (X : Int)) = true := by simp; omega
          have HE : Hid (fewV (con xs) = false) := hid (by
            rw [HD.out, List.all_eq_false]
            exact ⟨x.l, List.mem_of_getElem? HX0.out, by rw [HXL.out]; simpa using hz⟩)
          clear hz
          go_wp2
          go_ret
          exact ⟨ret_b HE.out.symm, rfl⟩
      · obtain rfl : k = n := by omega
        have HE : Hid (fewV (con xs) = true) := hid (by
          have h := HT.out
          rw [List.take_of_length_le (by rw [con_len, HN.out]; exact Nat.le_refl _)] at h
          rw [HD.out, h])
        go_wp2
        go_ret
        exact ⟨ret_b HE.out.symm, rfl⟩
  · have d1 : decide ((9 : Int) < (n : Int)) = true := by simp; omega
    have HE : Hid (fewV (con xs) = false) := hid (by unfold fewV; rw [con_len, HN.out, decide_eq_false h9, Bool.false_and])
    clear h9
    go_enter Try.func11, Try.ntmps11
    go_wp2
    go_ret
    exact ⟨ret_b HE.out.symm, rfl⟩
end Go.Proofs.Ytbcnikmhodkbfaa
