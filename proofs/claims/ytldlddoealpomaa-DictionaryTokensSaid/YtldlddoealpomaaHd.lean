/- The walk of the law Tokens. -/
import Derived.Test.YtldlddoealpomaaHa
namespace Go.Proofs.Ytldlddoealpomaa
open Go.RowKit Go.Lib

set_option maxRecDepth 100000 in
theorem run_append_byt (w : World) (ty base : Nat) (v : Value) (k : Nat) (xs : List Value) (hown : w.ownsRow base 5 1 v k xs) (l : List Nat) (u : Value) (hsrc : Byt w u l) (hnil : NilOk u) (hk : k + l.length ≤ 1000000000000) (hbase : base ≤ w.heap.size) :
    ∃ v' w', (Builtin.append_ #[22, 22] ty #[v, u]).run Try.prog w = .ok v' w' ∧ w'.ownsRow base 5 1 v' (k + l.length) (xs ++ l.map byteV) ∧ w.grownBy w' v.ownBlock := by
  obtain ⟨i0, hi, hz0, hz1, hz2⟩ := info_parts info5
  obtain ⟨h8, A, cap, rfl, hcap, hcm, b, off, hA, hc⟩ := hsrc
  rcases A with _ | ad
  · have hl : l = [] := by
      rcases Nat.eq_zero_or_pos l.length with h0 | h0
      · exact List.eq_nil_of_length_eq_zero h0
      · have := (hA h0).1; cases this
    subst hl
    have hc0 : cap = 0 := hnil _ _ rfl
    subst hc0
    have h := run_append_owned_none (P := Try.prog) (w := w) base 22 ty 5 i0 1 Try.underlying22 hi v k xs hown
    exact ⟨v, w, h, by simpa using hown, World.grownBy.refl w _⟩
  · obtain ⟨v', w', hrun, r1, r2, _⟩ := run_append_own (P := Try.prog) w base 22 ty 5 i0 _ 1 1 Try.underlying22 hi hz0 hz1 hz2 rfl (by decide) v k xs hown ad l.length cap (l.map byteV) (by simp) (by
      intro j u hu
      rw [List.getElem?_map] at hu
      obtain ⟨z, hz, rfl⟩ := Option.map_eq_some_iff.1 hu
      have hj := (List.getElem?_eq_some_iff.1 hz).1
      have hA1 := (hA (by omega)).1
      injection hA1 with hA1
      subst hA1
      have e : (⟨b, off, none⟩ : Addr).add j = ⟨b, off + j, none⟩ := by unfold Addr.add; split <;> simp_all
      rw [e]
      exact hc j z hz) (byteV_one l) (by unfold maxLen; omega) (by omega) hbase
    exact ⟨v', w', hrun, r1, r2⟩
/-- An append whose guard says yes. -/
theorem append_byt_want {ops : Array Oper} {rest : List Oper} {o : Oper} {a : Act} {w : World} {Q : Exit → Act → World → Prop} (hw : Region.wanted o (yielded ops a.tmps) = true) (s x : Operand) (ho : o.op = .call { callee := .builtin .append, args := #[s, x], argTypes := #[22, 22] })
    (base : Nat) (v : Value) (k : Nat) (xs : List Value) (hs : a.eval s = v) (hown : w.ownsRow base 5 1 v k xs) (l : List Nat) (u : Value) (hx : a.eval x = u) (hsrc : Byt w u l) (hnil : NilOk u) (hk : k + l.length ≤ 1000000000000) (hbase : base ≤ w.heap.size)
    (h : ∀ v' w', w'.ownsRow base 5 1 v' (k + l.length) (xs ++ l.map byteV) → w.grownBy w' v.ownBlock → wpList Try.prog ops Q rest (a.put o.dst v') w') : wpList Try.prog ops Q (o :: rest) a w := by
  obtain ⟨v', w', hrun, r1, r2⟩ := run_append_byt w o.type base v k xs hown l u hsrc hnil hk hbase
  refine BigFrame.wpList_want hw fun K hK => ?_
  unfold Oper.wp
  simp [execOp, ho, resolve, invoke, builtin, hs, hx, hrun, Result.andThen]
  exact hK _ _ (h v' w' r1 r2)
theorem small_three (A B C : Option Addr) (n c m c' k c'' : Nat) (w : World) (hn : n ≤ 9223372036854775807) (hm : m ≤ 9223372036854775807) (hk : k ≤ 9223372036854775807) :
    Calls Try.prog 11 #[.slice (some ⟨w.heap.size, 0, none⟩) 3 3] (w.alloc (.cells #[.slice A n c, .slice B m c', .slice C k c''] 22)) (fun e w' => e = .returned (.bool (decide (n ≤ 400 ∧ m ≤ 400 ∧ k ≤ 400))) ∧ w.alloc (.cells #[.slice A n c, .slice B m c', .slice C k c''] 22) = w') := by
  have h := small_any [(A, n, c), (B, m, c'), (C, k, c'')] w.heap.size 3 (w.alloc (.cells #[.slice A n c, .slice B m c', .slice C k c''] 22)) (heap_alloc_new _ _) (by simp) (fun x hx => by
    rcases List.mem_cons.1 hx with rfl | hx
    · exact hn
    rcases List.mem_cons.1 hx with rfl | hx
    · exact hm
    · rw [List.mem_singleton.1 hx]; exact hk)
  have e : decide (∀ x ∈ [(A, n, c), (B, m, c'), (C, k, c'')], x.2.1 ≤ 400) = decide (n ≤ 400 ∧ m ≤ 400 ∧ k ≤ 400) := by simp
  rw [e] at h
  exact h
set_option maxHeartbeats 8000000 in
set_option maxRecDepth 100000 in
theorem tokens_walk (d a b : List Nat) (v u t : Value) (w : World) (hv : Byt w v d) (hn : NilOk v) (hu : Byt w u a) (hun : NilOk u) (ht : Byt w t b) (htn : NilOk t) : Calls Try.prog 10 #[v, u, t] w (GoodB w) := by
  have hld := byt_len hv
  have hla := byt_len hu
  have hlb := byt_len ht
  have HV := hid hv
  have HU := hid hu
  have HT := hid ht
  have HVN := hid hn
  have HUN := hid hun
  have HTN := hid htn
  obtain ⟨A, c, rfl⟩ := byt_form hv
  obtain ⟨B, c', rfl⟩ := byt_form hu
  obtain ⟨C, c'', rfl⟩ := byt_form ht
  have hal := al1 w (.cells #[.slice A d.length c, .slice B a.length c', .slice C b.length c''] 22)
  have HAL := hid hal
  have HS := hid (small_three A B C d.length c a.length c' b.length c'' w hld hla hlb)
  have HD2 := hid (dec_two hv.1 hu.1 ht.1)
  have H8A := hid (encL_b8 hv.1 hu.1)
  have H8B := hid (encL_b8 (hv.1.append hu.1) ht.1)
  have HLA := hid (encL_len d a)
  have HLB := hid (encL_len (d ++ a) b)
  obtain ⟨x, hx⟩ : ∃ x, encL d a = x := ⟨_, rfl⟩
  have HX := hid hx
  obtain ⟨y, hy⟩ : ∃ y, encL (d ++ a) b = y := ⟨_, rfl⟩
  have HY := hid hy
  rw [hx] at H8A HLA HD2
  rw [hy] at H8B HLB HD2
  obtain ⟨n, hnn⟩ : ∃ n, d.length = n := ⟨_, rfl⟩
  obtain ⟨m, hmm⟩ : ∃ m, a.length = m := ⟨_, rfl⟩
  obtain ⟨k, hkk⟩ : ∃ k, b.length = k := ⟨_, rfl⟩
  have HNN := hid hnn
  have HMM := hid hmm
  have HKK := hid hkk
  rw [hnn] at HV HVN HAL HS hld ⊢
  rw [hmm] at HU HUN HAL HS HLA HD2 hla ⊢
  rw [hkk] at HT HTN HAL HS HLB HD2 hlb ⊢
  obtain ⟨W1, hW1⟩ : ∃ W, w.alloc (.cells #[.slice A n c, .slice B m c', .slice C k c''] 22) = W := ⟨_, rfl⟩
  rw [hW1] at HAL HS
  have HW1 := hid hW1
  clear hv hn hu hun ht htn hal hnn hmm hkk hW1 hx hy
  by_cases hsm : n ≤ 400 ∧ m ≤ 400 ∧ k ≤ 400
  · rw [decide_eq_true hsm] at HS
    have hxl : x.length ≤ 5000 := by have := HLA.out; omega
    have hyl : y.length ≤ 5000 := by have := HLB.out; omega
    go_enter Try.func10, Try.ntmps10
    go_wp2_with fail
    rw [HW1.out]
    refine HS.out.mono ?_
    rintro e w2 ⟨rfl, hw2⟩
    rw [hw2] at HAL
    clear hw2 HS HW1
    have hale := al1 w2 (.cells #[] 5)
    have HBE := hid (HAL.out.trans (hale.mono HAL.out.size))
    have HOE := hid (own_empty w2)
    have hbs := hale.size
    obtain ⟨WE, hWE⟩ : ∃ W, w2.alloc (.cells #[] 5) = W := ⟨_, rfl⟩
    rw [hWE] at HBE HOE hbs
    have HWE := hid hWE
    have hws := HAL.out.size
    clear hWE hale
    go_wp2_with (first | (at_builtin; rw [HWE.out]; refine append_byt rfl (.tmp 18) (.tmp 19) rfl w2.heap.size (.slice (some ⟨w2.heap.size, 0, none⟩) 0 0) 0 [] rfl HOE.out d _ rfl (HV.out.below HBE.out) HVN.out (by rw [HNN.out]; omega) hbs ?_; intro v3 w3 ho3 hg3; have HB3 := hid (below_own HBE.out HOE.out hg3 (by omega) (by omega)); have HO3 := hid ho3; have hs3 := hg3.size; clear ho3 hg3) | (at_builtin; refine append_byt rfl (.tmp 20) (.tmp 21) rfl w2.heap.size v3 (0 + d.length) _ rfl HO3.out a _ rfl (HU.out.below HB3.out) HUN.out (by rw [HNN.out, HMM.out]; omega) (by omega) ?_; intro v4 w4 ho4 hg4; have HB4 := hid (below_own HB3.out HO3.out hg4 (by omega) (by omega)); have HO4 := hid ho4; clear ho4 hg4))
    have hv4 : w4.ownsRow w2.heap.size 5 1 v4 (d ++ a).length ((d ++ a).map byteV) := by
      have h := HO4.out
      rw [List.nil_append, Nat.zero_add, ← List.length_append, ← List.map_append] at h
      exact h
    have hal5 := al1 w4 (.cells #[] 5)
    have HOE5 := hid (own_empty w4)
    have HV4 := hid (byt_of_own hv4 (HV.out.1.append HU.out.1))
    have HL5 := hid hal5
    have HN4 := hid (own_nilOk hv4)
    have HB5 := hid (HB4.out.trans (hal5.mono HB4.out.size))
    have hs5 := hal5.size
    obtain ⟨W5, hW5⟩ : ∃ W, w4.alloc (.cells #[] 5) = W := ⟨_, rfl⟩
    rw [hW5] at HOE5 HL5 HB5 hs5
    have hws4 := HB4.out.size
    have HC := hid (encode_said d a _ _ W5 (HV.out.below HB5.out) HVN.out (HU.out.below HB5.out) HUN.out (by rw [HNN.out]; omega) (by rw [HMM.out]; omega))
    rw [HX.out] at HC
    rw [hW5]
    clear hv4 HO4 HO3 HB3 HOE HBE HWE hal5 hW5 HB4
    refine HC.out.mono ?_
    rintro e w6 ⟨v6, rfl, ho6, hb6⟩
    have HB6 := hid (HB5.out.trans (hb6.mono HB5.out.size))
    have HV6 := hid (byt_of_own ho6 H8A.out)
    have HN6 := hid (own_nilOk ho6)
    have HOE6 := hid (own_later HOE5.out hb6)
    have HL6 := hid (HL5.out.trans (hb6.mono hs5))
    have hs6 := hb6.size
    clear ho6 hb6 HC HB5 HOE5 HL5
    go_wp2_with (at_builtin; refine append_byt rfl (.tmp 23) (.tmp 26) rfl w4.heap.size _ 0 [] rfl HOE6.out x _ rfl HV6.out HN6.out (by omega) (by omega) ?_; intro v7 w7 ho7 hg7; have HB7 := hid (below_own HB6.out HOE6.out hg7 (by omega) (by omega)); have HO7 := hid ho7; have hs7 := hg7.size; have HL7 := hid (below_own HL6.out HOE6.out hg7 (by omega) (Nat.le_refl _)); clear ho7 hg7)
    have HC := hid (encode_said (d ++ a) b v4 _ w7 (HV4.out.below HL7.out) HN4.out (HT.out.below HB7.out) HTN.out (by rw [List.length_append, HNN.out, HMM.out]; omega) (by rw [HKK.out]; omega))
    rw [HY.out] at HC
    clear HL6 HOE6 HV6 HN6 HB6 HL7 HV4 HN4
    refine HC.out.mono ?_
    rintro e w8 ⟨v8, rfl, ho8, hb8⟩
    have HB8 := hid (HB7.out.trans (hb8.mono HB7.out.size))
    have HV8 := hid (byt_of_own ho8 H8B.out)
    have HN8 := hid (own_nilOk ho8)
    have HO8 := hid (own_later HO7.out hb8)
    have hs8 := hb8.size
    clear ho8 hb8 HC HB7 HO7
    have hwk : IntKind.i64.wrap ((m : Int) + (k : Int)) = ((m + k : Nat) : Int) := by rw [IntKind.wrap_i64]; omega
    go_wp2_with (at_builtin; refine append_byt rfl (.tmp 27) (.tmp 30) rfl w4.heap.size v7 (0 + x.length) _ rfl HO8.out y _ rfl HV8.out HN8.out (by omega) (by omega) ?_; intro v9 w9 ho9 hg9; have HB9 := hid (below_own HB8.out HO8.out hg9 (by omega) (by omega)); have HO9 := hid ho9; have hs9 := hg9.size; clear ho9 hg9)
    have hv9 : w9.ownsRow w4.heap.size 5 1 v9 (x ++ y).length ((x ++ y).map byteV) := by
      have h := HO9.out
      rw [List.nil_append, Nat.zero_add, ← List.length_append, ← List.map_append] at h
      exact h
    have HD := hid (decode_any d (x ++ y) _ v9 ((m + k : Nat) : Int) w9 (HV.out.below HB9.out) HVN.out (byt_of_own hv9 (H8A.out.append H8B.out)) (own_nilOk hv9) (by rw [HNN.out]; omega) (by rw [List.length_append]; omega) (by omega))
    clear hv9 HO9 HO8 HV8 HN8 HB8
    refine HD.out.mono ?_
    rintro e w10 hq10
    obtain ⟨v10, rfl, hb10, hv10, _⟩ := dec_ok hq10 HD2.out
    have HB10 := hid (HB9.out.trans (hb10.mono HB9.out.size))
    have HV10 := hid hv10
    clear hq10 hb10 hv10 HD HB9
    go_wp2_with fail
    refine (awake_any _).mono ?_
    rintro e w11 ⟨rfl, hb11⟩
    have HB11 := hid (HB10.out.trans (hb11.mono HB10.out.size))
    have HV11 := hid (HV10.out.below hb11)
    clear hb11 HB10 HV10
    have hal12 := al1 w11 (.cells #[] 5)
    have HL12 := hid hal12
    have HOE12 := hid (own_empty w11)
    have HB12 := hid (HB11.out.trans (hal12.mono HB11.out.size))
    have hs12 := hal12.size
    have hs11 := HB11.out.size
    obtain ⟨W12, hW12⟩ : ∃ W, w11.alloc (.cells #[] 5) = W := ⟨_, rfl⟩
    rw [hW12] at HOE12 HL12 HB12 hs12
    have HW12 := hid hW12
    clear hal12 hW12
    go_wp2_with (first | (at_builtin; rw [HW12.out]; refine append_byt_want (by rfl) (.tmp 50) (.tmp 51) rfl w11.heap.size (.slice (some ⟨w11.heap.size, 0, none⟩) 0 0) 0 [] rfl HOE12.out a _ rfl (HU.out.below HB12.out) HUN.out (by rw [HMM.out]; omega) hs12 ?_; intro v13 w13 ho13 hg13; have HB13 := hid (below_own HB12.out HOE12.out hg13 (by omega) (by omega)); have HL13 := hid (below_own HL12.out HOE12.out hg13 hs12 (Nat.le_refl _)); have HO13 := hid ho13; have hs13 := hg13.size; clear ho13 hg13) | (at_builtin; refine append_byt_want (by rfl) (.tmp 52) (.tmp 53) rfl w11.heap.size v13 (0 + a.length) _ rfl HO13.out b _ rfl (HT.out.below HB13.out) HTN.out (by rw [HMM.out, HKK.out]; omega) (by omega) ?_; intro v14 w14 ho14 hg14; have HB14 := hid (below_own HB13.out HO13.out hg14 (by omega) (by omega)); have HL14 := hid (below_own HL13.out HO13.out hg14 (by omega) (Nat.le_refl _)); have HO14 := hid ho14; clear ho14 hg14))
    have hv14 : w14.ownsRow w11.heap.size 5 1 v14 (a ++ b).length ((a ++ b).map byteV) := by
      have h := HO14.out
      rw [List.nil_append, Nat.zero_add, ← List.length_append, ← List.map_append] at h
      exact h
    have HQ := hid (equal_any (a ++ b) (a ++ b) _ _ w14 (HV11.out.below HL14.out) (byt_of_own hv14 (HU.out.1.append HT.out.1)))
    rw [decide_eq_true rfl] at HQ
    clear hv14 HO14 HO13 HB13 HL13 HOE12 HL12 HL14 HB12
    refine HQ.out.mono ?_
    rintro e w15 ⟨rfl, rfl⟩
    go_wp2_with fail
    go_ret
    exact ⟨rfl, HB14.out⟩
  · rw [decide_eq_false hsm] at HS
    go_enter Try.func10, Try.ntmps10
    go_wp2_with fail
    rw [HW1.out]
    refine HS.out.mono ?_
    rintro e w2 ⟨rfl, hw2⟩
    rw [hw2] at HAL
    clear hw2 HS HW1
    go_wp2_with fail
    refine (awake_any _).mono ?_
    rintro e w3 ⟨rfl, hb3⟩
    have HB3 := hid (HAL.out.trans (hb3.mono HAL.out.size))
    clear hb3
    go_wp2_with fail
    go_ret
    exact ⟨rfl, HB3.out⟩
end Go.Proofs.Ytldlddoealpomaa
