/- IndexFunc of a number; Delete of one's own; Cancel. -/
import Derived.Test.YtjpfogdfgcfkcaaI
namespace Go.Proofs.Ytjpfogdfgcfkcaa
open Go.RowKit Go.Lib

theorem eqn_any (t n k o : Int) (A : Option Addr) (m c : Nat) (num : Int) (nb : Nat) (w : World) (hq : w.cell? ⟨nb, 0, none⟩ = some (.int .i64 num)) (hnl : nb < w.heap.size) :
    Calls Try.prog 40 #[.agg #[.int .i64 t, .int .i64 n, .int .i64 k, .int .i64 o, .slice A m c], .pointer (some ⟨nb, 0, none⟩)] w fun e w' => e = .returned (.bool (decide (n = num))) ∧ Below w.heap.size w w' := by
  obtain ⟨W1, hW1⟩ : ∃ W1, w.alloc (.cells #[.int .i64 t, .int .i64 n, .int .i64 k, .int .i64 o, .slice A m c] 32) = W1 := ⟨_, rfl⟩
  have hb1 : Below w.heap.size w W1 := by rw [← hW1]; exact al1 _ _
  have hx1 : W1.heap[w.heap.size]? = some (.cells #[.int .i64 t, .int .i64 n, .int .i64 k, .int .i64 o, .slice A m c] 32) := by rw [← hW1]; exact heap_alloc_new _ _
  have c1 := cell_of_row _ _ 1 _ _ _ hx1
  have q1 : W1.cell? ⟨nb, 0, none⟩ = some (.int .i64 num) := (hb1.cell (p := ⟨nb, 0, none⟩) hnl).trans hq
  have HB1 := hid hb1
  have hd : (n == num) = decide (n = num) := by rw [Bool.eq_iff_iff]; simp
  have HD := hid hd
  subst hW1
  clear hb1 hx1 hq hd
  go_enter Try.func40, Try.ntmps40
  go_wp2_with fail
  go_ret
  exact ⟨congrArg (fun b => Ending.returned (Value.bool b)) HD.out, HB1.out⟩

set_option maxHeartbeats 4000000 in
set_option maxRecDepth 100000 in
theorem idx_any (l : List Ev) (v : Value) (num : Int) (nb : Nat) (w : World) (hv : EL w v l) (hl : l.length ≤ 100000) (hq : w.cell? ⟨nb, 0, none⟩ = some (.int .i64 num)) (hnl : nb < w.heap.size) :
    Calls Try.prog 39 #[v, .func (.func 40) #[] #[.pointer (some ⟨nb, 0, none⟩)]] w fun e w' => ((∃ (r : Nat) (x : Ev), e = .returned (.int .i64 (r : Int)) ∧ l[r]? = some x ∧ x.n = num ∧ ∀ y ∈ l.take r, y.n ≠ num) ∨ (e = .returned (.int .i64 (-1)) ∧ ∀ y ∈ l, y.n ≠ num)) ∧ Below w.heap.size w w' := by
  obtain ⟨A, c, rfl⟩ := el_form hv
  obtain ⟨N, hN⟩ : ∃ N, l.length = N := ⟨_, rfl⟩
  rw [hN] at hv hl ⊢
  have HV := hid hv
  have HN := hid hN
  have HQ := hid hq
  clear hv hN hq
  go_enter Try.func39, Try.ntmps39
  go_wp2_with fail
  go_loopw [8] (fun i wr => ∃ (k : Nat), k ≤ N ∧ i = .int .i64 (k : Int) ∧ Hid (∀ y ∈ l.take k, y.n ≠ num) ∧ Hid (Below w.heap.size w wr)) (fun i _ => N - (Lib.intOf i).toNat)
  case atStart => exact ⟨0, Nat.zero_le _, rfl, hid (fun y hy => by simp at hy), hid (Below.refl _ _)⟩
  case round =>
    obtain ⟨k, hk, rfl, HNO, HB⟩ := hrel
    by_cases hkn : k < N
    · have hkn' : (k : Int) < (N : Int) := by omega
      have hel := HV.out.below HB.out
      obtain ⟨b, off, rfl, hbl, hc⟩ := el_cells hel (by rw [HN.out]; omega)
      obtain ⟨x, hx⟩ : ∃ x, l[k]? = some x := ⟨l[k]'(by rw [HN.out]; exact hkn), List.getElem?_eq_getElem _⟩
      obtain ⟨q0, q1, q2, q3, q4⟩ := hc k x hx
      have hxb := (hel.1 x (List.mem_of_getElem? hx)).1
      have HX := hid hx
      have HT := hid (take_succ'' hx)
      clear hc hx hel
      obtain ⟨xt, xn, xk, xo, xd, xp⟩ := x
      dsimp only at q0 q1 q2 q3 q4 hxb
      obtain ⟨xA, xc, rfl⟩ := byt_form hxb
      obtain ⟨xm, hxm⟩ : ∃ xm, xp.length = xm := ⟨_, rfl⟩
      rw [hxm] at q4
      have hnw : nb < wr.heap.size := Nat.lt_of_lt_of_le hnl HB.out.size
      have HE := hid (eqn_any xt xn xk xo xA xm xc num nb wr ((HB.out.cell (p := ⟨nb, 0, none⟩) hnl).trans HQ.out) hnw)
      obtain ⟨d, hd⟩ : ∃ d, decide (xn = num) = d := ⟨_, rfl⟩
      rw [hd] at HE
      have HD := hid hd
      clear hxb hxm hd
      go_wp2_with fail
      refine HE.out.mono ?_
      rintro e w2 ⟨rfl, hb2⟩
      have HB2 := hid (HB.out.trans (hb2.mono HB.out.size))
      clear hb2 HE
      rcases d with _ | _
      · go_wp2_with fail
        go_roundw
        case rel => exact ⟨k + 1, by omega, by go_num, hid (fun y hy => by
          rw [HT.out] at hy
          rcases List.mem_append.1 hy with h | h
          · exact HNO.out y h
          · rw [List.mem_singleton] at h; subst h; exact of_decide_eq_false HD.out), HB2⟩
        case measure => simp [Lib.intOf]; omega
      · go_wp2_with fail
        go_ret
        exact ⟨.inl ⟨k, _, rfl, HX.out, of_decide_eq_true HD.out, HNO.out⟩, HB2.out⟩
    · obtain rfl : k = N := by omega
      go_wp2_with fail
      go_ret
      exact ⟨.inr ⟨rfl, fun y hy => HNO.out y (by rw [List.take_of_length_le (by rw [HN.out]; omega)]; exact hy)⟩, HB.out⟩

theorem deleteOwn_any (base : Nat) (v : Value) (n i : Nat) (vs : List Ev) (w : World) (hown : w.ownsRow base 32 5 v n (vs.map cEv).flatten) (hn : vs.length = n) (hp : ∀ x ∈ vs, Pay w x) (hi : i < n) (hl : n ≤ 100000) :
    Calls Try.prog 41 #[v, .int .i64 (i : Int), .int .i64 ((i + 1 : Nat) : Int)] w fun e w' => ∃ v', e = .returned v' ∧ w'.ownsRow base 32 5 v' (n - 1) ((vs.take i ++ vs.drop (i + 1)).map cEv).flatten ∧ w.grownBy w' v.ownBlock := by
  obtain ⟨x, hx⟩ : ∃ x, vs[i]? = some x := ⟨vs[i]'(by omega), List.getElem?_eq_getElem _⟩
  have hsp : vs = vs.take i ++ [x] ++ vs.drop (i + 1) := by
    rw [← take_succ'' hx, List.take_append_drop]
  have hone := oneC (vs.drop (i + 1)) (fun y hy => pay_one (hp y (List.mem_of_mem_drop hy)))
  have hfl : (vs.map cEv).flatten = ((vs.take i).map cEv).flatten ++ cEv x ++ ((vs.drop (i + 1)).map cEv).flatten := by
    conv => lhs; rw [hsp]
    simp
  have hpl : ((vs.take i).map cEv).flatten.length = i * 5 := by rw [fl_len, List.length_take]; omega
  have hsl : ((vs.drop (i + 1)).map cEv).flatten.length = (n - 1 - i) * 5 := by rw [fl_len, List.length_drop]; omega
  obtain ⟨_, ⟨_, h0⟩ | ⟨g, cap, cur, rfl, hbg, hgc, hnc, hcm, hcs', htk⟩⟩ := hown
  · omega
  · have hcur : cur = (((vs.take i).map cEv).flatten ++ cEv x ++ ((vs.drop (i + 1)).map cEv).flatten ++ cur.toList.drop (n * 5)).toArray := by
      rw [← hfl, ← htk, List.take_append_drop, Array.toArray_toList]
    have hyl : (cur.toList.drop (n * 5)).length = (cap - n) * 5 := by rw [List.length_drop, Array.length_toList, hcs']; omega
    obtain ⟨ys, hys⟩ : ∃ ys, cur.toList.drop (n * 5) = ys := ⟨_, rfl⟩
    rw [hys] at hcur hyl
    subst hcur
    refine (delete_any base g cap n i _ (cEv x) _ ys w hgc hbg hi hl hpl rfl hsl hyl hnc hcm hone).mono ?_
    rintro e w' ⟨rfl, ho, hgr⟩
    exact ⟨_, rfl, by rw [List.map_append, List.flatten_append]; exact ho, hgr⟩
end Go.Proofs.Ytjpfogdfgcfkcaa
