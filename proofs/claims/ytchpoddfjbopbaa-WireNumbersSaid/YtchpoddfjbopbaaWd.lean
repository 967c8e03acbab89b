/- append of a list of numbers; the walk of the law WireNumbers. -/
import Derived.Test.YtchpoddfjbopbaaVc
namespace Go.Proofs.Ytchpoddfjbopbaa
open Go.RowKit Go.Lib

theorem nums_form {w : World} {v : Value} {l : List Int} (h : Nums w v l) : ∃ A cap, v = .slice A l.length cap := by
  obtain ⟨A, c, e⟩ := arr_form h
  rw [List.length_map] at e
  exact ⟨A, c, e⟩
theorem nums_len {w : World} {v : Value} {l : List Int} (h : Nums w v l) : l.length ≤ 9223372036854775807 := by
  obtain ⟨_, cap, _, h1, h2, _⟩ := h
  rw [List.length_map] at h1
  unfold maxLen at h2
  omega
theorem ins_of_nums {w : World} {v : Value} {l : List Int} (h : Nums w v l) : Ins w v l := by
  obtain ⟨A, cap, e, h1, h2, b, off, hA, hc⟩ := h
  rw [List.length_map] at e h1 hA
  refine ⟨A, cap, e, h1, h2, b, off, hA, fun i x hx => ?_⟩
  have h := hc i [.int .i64 x] (by rw [List.getElem?_map, hx]; rfl) 0 _ rfl
  rwa [Nat.mul_one, Nat.add_zero] at h
set_option maxRecDepth 100000 in
theorem append_int {ops : Array Oper} {rest : List Oper} {o : Oper} {a : Act} {w : World} {Q : Exit → Act → World → Prop} (hgd : o.guard = none) (s x : Operand) (ho : o.op = .call { callee := .builtin .append, args := #[s, x], argTypes := #[23, 23] })
    (base : Nat) (v : Value) (k : Nat) (xs : List Value) (hs : a.eval s = v) (hown : w.ownsRow base 3 1 v k xs) (l : List Int) (u : Value) (hx : a.eval x = u) (hsrc : Nums w u l) (hnil : NilOk u) (hk : k + l.length ≤ 100000) (hbase : base ≤ w.heap.size)
    (h : ∀ v' w', w'.ownsRow base 3 1 v' (k + l.length) (xs ++ l.map (Value.int .i64)) → w.grownBy w' v.ownBlock → wpList Try.prog ops Q rest (a.put o.dst v') w') : wpList Try.prog ops Q (o :: rest) a w := by
  obtain ⟨i0, hi, hz0, hz1, hz2⟩ := info_parts info3
  obtain ⟨A, cap, rfl, hcap, hcm, b, off, hA, hc⟩ := ins_of_nums hsrc
  rcases A with _ | ad
  · have hl : l = [] := by
      rcases Nat.eq_zero_or_pos l.length with h0 | h0
      · exact List.eq_nil_of_length_eq_zero h0
      · have := (hA h0).1; cases this
    subst hl
    have hc0 : cap = 0 := hnil _ _ rfl
    subst hc0
    refine wpList_append_own_none hgd s x 23 ho base 3 i0 1 Try.underlying23 hi v k xs hs hown hx ?_
    exact h v w (by simpa using hown) (World.grownBy.refl w _)
  · refine wpList_append_own w hgd s x 23 ho base 3 i0 _ 1 8 Try.underlying23 hi hz0 hz1 hz2 rfl (by decide) v k xs hs hown ad l.length cap (l.map (Value.int .i64)) hx (by simp) ?_ (ints_oneCell .i64 l) (by unfold maxLen; omega) (by omega) hbase ?_
    · intro j u hu
      rw [List.getElem?_map] at hu
      obtain ⟨z, hz, rfl⟩ := Option.map_eq_some_iff.1 hu
      have hj := (List.getElem?_eq_some_iff.1 hz).1
      have hA1 := (hA (by omega)).1
      injection hA1 with hA1
      subst hA1
      have e : (⟨b, off, none⟩ : Addr).add j = ⟨b, off + j, none⟩ := by unfold Addr.add; split <;> simp_all
      rw [e]
      exact hc j z hz
    · exact fun v' w' h1 h2 _ => h v' w' h1 h2
theorem own_one (w : World) (n : Int) : (w.alloc (.cells #[.int .i64 n] 3)).ownsRow w.heap.size 3 1 (.slice (some ⟨w.heap.size, 0, none⟩) 1 1) 1 [.int .i64 n] :=
  ⟨rfl, .inr ⟨w.heap.size, 1, #[.int .i64 n], rfl, Nat.le_refl _, heap_alloc_new w _, Nat.le_refl _, by unfold maxLen; omega, rfl, rfl⟩⟩
theorem nums_of_own {w : World} {base n : Nat} {v : Value} {l : List Int} (h : w.ownsRow base 3 1 v n (l.map (Value.int .i64))) : Nums w v l := by
  have hn : n = l.length := by have := h.1; simp at this; omega
  have e : ∀ l : List Int, (l.map cInt).flatten = l.map (Value.int .i64) := fun l => by
    induction l with
    | nil => rfl
    | cons x l ih => rw [List.map_cons, List.flatten_cons, ih]; rfl
  refine arr_of_own (by rw [e l]; exact h) (by rw [List.length_map, hn]) (fun r hr => ?_)
  obtain ⟨x, _, rfl⟩ := List.mem_map.1 hr
  rfl

set_option maxHeartbeats 4000000 in
set_option maxRecDepth 100000 in
theorem numbers_walk (d b : List Nat) (l : List Int) (v u t : Value) (w : World) (hv : Byt w v d) (hn : NilOk v) (hu : Byt w u b) (hnu : NilOk u) (ht : Nums w t l) (hnt : NilOk t) :
    Calls Try.prog 3 #[v, u, t] w (GoodB w) := by
  have HA := hid awake_any
  have HV := hid hv
  have HN := hid hn
  have HU := hid hu
  have HNU := hid hnu
  have HT := hid ht
  have HNT := hid hnt
  have hd := byt_len hv
  have hb := byt_len hu
  have hl := nums_len ht
  obtain ⟨A0, c0, rfl⟩ := byt_form hv
  obtain ⟨A1, c1, rfl⟩ := byt_form hu
  obtain ⟨A2, c2, rfl⟩ := nums_form ht
  clear hv hn hu hnu ht hnt
  by_cases h0 : 200 < d.length
  · have d0 : decide ((200 : Int) < (d.length : Int)) = true := by simp; omega
    go_enter Try.func3, Try.ntmps3
    go_wp2_with fail
    refine (HA.out _).mono ?_
    rintro e w1 ⟨rfl, hb1⟩
    have HB1 := hid hb1
    clear hb1
    go_wp2
    go_ret
    exact ⟨rfl, HB1.out⟩
  · have d0 : decide ((200 : Int) < (d.length : Int)) = false := by simp; omega
    by_cases h1 : 600 < b.length
    · have d1 : decide ((600 : Int) < (b.length : Int)) = true := by simp; omega
      go_enter Try.func3, Try.ntmps3
      go_wp2_with fail
      refine (HA.out _).mono ?_
      rintro e w1 ⟨rfl, hb1⟩
      have HB1 := hid hb1
      clear hb1
      go_wp2
      go_ret
      exact ⟨rfl, HB1.out⟩
  
    · have d1 : decide ((600 : Int) < (b.length : Int)) = false := by simp; omega
      by_cases h2 : 200 < l.length
      · have d2 : decide ((200 : Int) < (l.length : Int)) = true := by simp; omega
        go_enter Try.func3, Try.ntmps3
        go_wp2_with fail
        refine (HA.out _).mono ?_
        rintro e w1 ⟨rfl, hb1⟩
        have HB1 := hid hb1
        clear hb1
        go_wp2
        go_ret
        exact ⟨rfl, HB1.out⟩
    
      · have d2 : decide ((200 : Int) < (l.length : Int)) = false := by simp; omega
        go_enter Try.func3, Try.ntmps3
        go_wp2_with (at_builtin; refine append_int rfl (.tmp 25) (.tmp 26) rfl w.heap.size _ 1 _ rfl (own_one w (b.length : Int)) l _ rfl (HT.out.below (al1 _ _)) HNT.out (by omega) (by simp) ?_; intro v1 w1 hown1 hg1; obtain ⟨a1, k1, rfl⟩ := ownAny_form hown1; have HB1 := hid ((al1 w (.cells #[.int .i64 (b.length : Int)] 3)).grown hg1 (by simp) (fun k e => ((own_one w (b.length : Int)).lt k e).1)); have HO1 : Hid (Nums w1 (.slice a1 (1 + l.length) k1) ((b.length : Int) :: l)) := hid (nums_of_own (l := (b.length : Int) :: l) hown1); clear hown1 hg1)
        obtain ⟨L, hL⟩ : ∃ L, (b.length : Int) :: l = L := ⟨_, rfl⟩
        have hLl : L.length = 1 + l.length := by rw [← hL]; simp; omega
        rw [hL] at HO1
        have HLL := hid hLl
        have HB8d := hid HV.out.1
        clear hL hLl
        have HO := HO1.out
        obtain ⟨_, _, eo, hcap, hcm, bb, off, hA, hc⟩ := HO
        injection eo with eo1 eo2 eo3
        subst eo1 eo3
        rw [List.length_map, HLL.out] at hcap hA
        have HC := hid hc
        unfold maxLen at hcm
        clear hc eo2
        go_loopw [29] (fun i wr => ∃ k : Nat, k ≤ 1 + l.length ∧ i = .int .i64 (k : Int) ∧ Hid (Below w1.heap.size w1 wr)) (fun i _ => 1 + l.length - (Go.RowKit.intOf i).toNat)
        case atStart => exact ⟨0, by omega, rfl, hid (Below.refl _ _)⟩
        case round =>
          obtain ⟨k, hk, rfl, HB⟩ := hrel
          by_cases hkl : k < 1 + l.length
          · obtain ⟨hA1, hbl⟩ := hA (by omega)
            subst hA1
            obtain ⟨x, hx⟩ : ∃ x, L[k]? = some x := ⟨L[k]'(by rw [HLL.out]; omega), List.getElem?_eq_getElem (by rw [HLL.out]; omega)⟩
            have cx := (HB.out.cell (p := ⟨bb, off + k * 1 + 0, none⟩) hbl).trans (HC.out k (cInt x) (by rw [List.getElem?_map, hx]; rfl) 0 _ rfl)
            rw [Nat.mul_one, Nat.add_zero] at cx
            have HVr := hid (HV.out.below (HB1.out.trans (HB.out.mono HB1.out.size)))
            have HP := hid (putInt_any x d _ wr HVr.out HN.out (by omega))
            obtain ⟨m, hm⟩ : ∃ m, d ++ enc (cl x) = m := ⟨_, rfl⟩
            rw [hm] at HP
            have HM := hid hm
            clear hx hm
            go_wp2_with fail
            refine HP.out.mono ?_
            rintro e w2 ⟨v2, rfl, hv2, hn2, hb2⟩
            have HQ := hid (rput_any x d _ w2 (HVr.out.below hb2) HN.out (by omega))
            rw [HM.out] at HQ
            have HV2 := hid hv2
            have HB2 := hid (HB.out.trans (hb2.mono HB.out.size))
            obtain ⟨a2, k2, rfl⟩ := byt_form hv2
            clear hv2 hn2 hb2 HP
            go_wp2_with fail
            refine HQ.out.mono ?_
            rintro e w3 ⟨v3, rfl, hv3, hn3, hb3⟩
            have HE := hid (equal_any _ _ _ _ w3 (HV2.out.below hb3) hv3)
            rw [decide_eq_true rfl] at HE
            have HB3 := hid (HB2.out.trans (hb3.mono HB2.out.size))
            obtain ⟨a3, k3, rfl⟩ := byt_form hv3
            clear hv3 hn3 hb3 HQ
            go_wp2_with fail
            refine HE.out.mono ?_
            rintro e w4 ⟨rfl, rfl⟩
            go_wp2_with fail
            go_roundw
            case rel => exact ⟨k + 1, by omega, by go_num, HB3⟩
            case measure => simp [Go.RowKit.intOf]; omega
          · obtain rfl : k = 1 + l.length := by omega
            have HBW := hid (HB1.out.trans (HB.out.mono HB1.out.size))
            have HP := hid (putBytes_any b d _ _ wr (HV.out.below HBW.out) HN.out (HU.out.below HBW.out) HNU.out (by omega) (by omega))
            have H8 : Hid (B8 (d ++ eBytes b)) := hid (HV.out.1.append ((enc_b8 b.length).append HU.out.1))
            obtain ⟨m, hm⟩ : ∃ m, d ++ eBytes b = m := ⟨_, rfl⟩
            rw [hm] at HP H8
            have HM := hid hm
            clear hm
            go_wp2_with fail
            refine HP.out.mono ?_
            rintro e w2 h2
            obtain ⟨v2, rfl, hv2, hn2, hb2⟩ := h2.made H8.out
            have HB2 := hid (HBW.out.trans (hb2.mono HBW.out.size))
            have HQ := hid (rputBytes_own d b _ _ w2 (HV.out.below HB2.out) HN.out (HU.out.below HB2.out) HNU.out (by omega) (by omega))
            rw [HM.out] at HQ
            have HV2 := hid hv2
            obtain ⟨a2, k2, rfl⟩ := byt_form hv2
            clear hv2 hn2 hb2 HP h2
            go_wp2_with fail
            refine HQ.out.mono ?_
            rintro e w3 h3
            obtain ⟨v3, rfl, hv3, hn3, hb3⟩ := h3.made H8.out
            have HE := hid (equal_any _ _ _ _ w3 (HV2.out.below hb3) hv3)
            rw [decide_eq_true rfl] at HE
            have HB3 := hid (HB2.out.trans (hb3.mono HB2.out.size))
            obtain ⟨a3, k3, rfl⟩ := byt_form hv3
            clear hv3 hn3 hb3 HQ HB2 HV2 h3
            go_wp2_with fail
            refine HE.out.mono ?_
            rintro e w4 ⟨rfl, rfl⟩
            have hll := list_len (E := eNum) l
            have hml := many_le (E := eNum) (c := 8) (xs := l) (fun y _ => eNum_len y)
            have hel := enc_len (n := l.length) (by omega)
            have H9 := hid (HV.out.1.append (b8_list (E := eNum) (xs := l) (fun y _ => enc_b8 _)))
            have HP := hid (putInts_any l d _ _ w3 (HV.out.below HB3.out) HN.out (HT.out.below HB3.out) (by omega) (by omega))
            obtain ⟨m', hm'⟩ : ∃ m', d ++ eList eNum l = m' := ⟨_, rfl⟩
            rw [hm'] at HP H9
            have HM' := hid hm'
            clear hll hml hel HE hm'
            go_wp2_with fail
            refine HP.out.mono ?_
            rintro e w5 h5
            obtain ⟨v5, rfl, hv5, hn5, hb5⟩ := h5.made H9.out
            have HB5 := hid (HB3.out.trans (hb5.mono HB3.out.size))
            have HQ := hid (rputInts_any l d _ _ w5 (HV.out.below HB5.out) HN.out (ins_of_nums (HT.out.below HB5.out)) (by omega) (by omega))
            rw [HM'.out] at HQ
            have HV5 := hid hv5
            obtain ⟨a5, k5, rfl⟩ := byt_form hv5
            clear hv5 hn5 hb5 HP h5
            go_wp2_with fail
            refine HQ.out.mono ?_
            rintro e w6 ⟨v6, rfl, hv6, hn6, hb6⟩
            have HE := hid (equal_any _ _ _ _ w6 (HV5.out.below hb6) hv6)
            rw [decide_eq_true rfl] at HE
            have HB6 := hid (HB5.out.trans (hb6.mono HB5.out.size))
            obtain ⟨a6, k6, rfl⟩ := byt_form hv6
            clear hv6 hn6 hb6 HQ
            go_wp2_with fail
            refine HE.out.mono ?_
            rintro e w7 ⟨rfl, rfl⟩
            go_wp2_with fail
            refine (HA.out _).mono ?_
            rintro e w8 ⟨rfl, hb8⟩
            have HB8 := hid (below_both HB6.out hb8)
            clear hb8
            go_wp2
            go_ret
            exact ⟨rfl, HB8.out⟩
end Go.Proofs.Ytchpoddfjbopbaa
