/- The walk of the law Knows. -/
import Derived.Test.YtldlddoealpomaaHa
namespace Go.Proofs.Ytldlddoealpomaa
open Go.RowKit Go.Lib

theorem cm_reach (x : List Nat) (p a m : Nat) : ∀ f n, (∀ i, n ≤ i → i < m → a + i < x.length ∧ x.getD (p + i) 0 = x.getD (a + i) 0) → m ≤ n + f → m ≤ cm x p a f n
  | 0, n, _, h => by rw [cm]; omega
  | f + 1, n, hs, h => by
    by_cases hn : n < m
    · rw [cm, if_pos (hs n (Nat.le_refl _) hn)]
      exact cm_reach x p a m f (n + 1) (fun i h1 h2 => hs i (by omega) h2) (by omega)
    · exact Nat.le_trans (by omega) (cm_ge x p a (f + 1) n)
theorem bst_max (x : List Nat) (a e : Nat) (h1 : 1 ≤ e) (h4 : 4 ≤ cm x (a - e) a 131 0) : ∀ d, e ≤ d → cm x (a - e) a 131 0 ≤ (bst x a d).2
  | 0, h => by omega
  | d + 1, h => by
    rw [bst]
    by_cases he : e = d + 1
    · subst he
      split
      · exact Nat.le_refl _
      · rename_i hc
        omega
    · have ih := bst_max x a e h1 h4 d (by omega)
      split
      · rename_i hc; exact Nat.le_trans ih (Nat.le_of_lt hc.2)
      · exact ih
theorem en_end (x : List Nat) (f : Nat) : en x f x.length [] = [] := by
  cases f
  · rw [en, lt_nil]
  · rw [en, if_neg (Nat.lt_irrefl _), lt_nil]
theorem enc_knows (d b : List Nat) (h4 : 4 ≤ b.length) (h5 : b.length ≤ 131) : ∃ y : List Nat, encL (d ++ b) b = (124 + b.length) :: y ∧ 1 ≤ y.length ∧ y.length ≤ 3 := by
  obtain ⟨x, hx⟩ : ∃ x, d ++ b ++ b = x := ⟨_, rfl⟩
  obtain ⟨a, ha⟩ : ∃ a, (d ++ b).length = a := ⟨_, rfl⟩
  have hda : d.length + b.length = a := by rw [← ha, List.length_append]
  have hxl : x.length = a + b.length := by rw [← hx, List.length_append, ha]
  have hg : ∀ i, i < b.length → x.getD (a - b.length + i) 0 = x.getD (a + i) 0 := fun i hi => by
    have e1 : x.getD (a + i) 0 = b.getD i 0 := by rw [← hx, ← ha, getD_right]
    have e2 : x.getD (a - b.length + i) 0 = b.getD i 0 := by
      rw [← hx, List.append_assoc, show a - b.length + i = d.length + i by omega, getD_right]
      rw [List.getD_eq_getElem?_getD, List.getElem?_append_left hi, ← List.getD_eq_getElem?_getD]
    rw [e1, e2]
  have hc := cm_reach x (a - b.length) a b.length 131 0 (fun i _ hi => ⟨by omega, hg i hi⟩) (by omega)
  have hm := bst_max x a b.length (by omega) (by omega) (min 4096 a) (by omega)
  have hin := bst_in (x := x) (a := a) (min 4096 a)
  have hb : (bst x a (min 4096 a)).2 = b.length := by omega
  obtain ⟨f, hf⟩ : ∃ f, b.length = f + 1 := ⟨b.length - 1, by omega⟩
  have hok := bst_ok x a (min 4096 a)
  refine ⟨enc (bst x a (min 4096 a)).1, ?_, enc_pos _, Nat.le_trans (enc_le (f := 1) (by omega)) (by omega)⟩
  unfold encL
  rw [hx, ha]
  have e : en x b.length a [] = en x (f + 1) a [] := by rw [hf]
  rw [e, en, if_pos (by omega), hb, if_neg (by omega), lt_nil, ← hxl, en_end]
  simp
theorem small_one (A : Option Addr) (n c : Nat) (w : World) (hn : n ≤ 9223372036854775807) :
    Calls Try.prog 11 #[.slice (some ⟨w.heap.size, 0, none⟩) 1 1] (w.alloc (.cells #[.slice A n c] 22)) (fun e w' => e = .returned (.bool (decide (n ≤ 400))) ∧ w.alloc (.cells #[.slice A n c] 22) = w') := by
  have h := small_any [(A, n, c)] w.heap.size 1 (w.alloc (.cells #[.slice A n c] 22)) (heap_alloc_new _ _) (by simp) (fun x hx => by rw [List.mem_singleton.1 hx]; exact hn)
  have e : decide (∀ x ∈ [(A, n, c)], x.2.1 ≤ 400) = decide (n ≤ 400) := by simp
  rw [e] at h
  exact h
set_option maxHeartbeats 4000000 in
set_option maxRecDepth 100000 in
theorem knows_walk (d b : List Nat) (v u : Value) (w : World) (hv : Byt w v d) (hn : NilOk v) (hu : Byt w u b) (hun : NilOk u) : Calls Try.prog 9 #[v, u] w (GoodB w) := by
  have hld := byt_len hv
  have hlb := byt_len hu
  have HV := hid hv
  have HU := hid hu
  have HVN := hid hn
  have HUN := hid hun
  obtain ⟨A, c, rfl⟩ := byt_form hv
  obtain ⟨B, c', rfl⟩ := byt_form hu
  have hal := al1 w (.cells #[.slice A d.length c] 22)
  have HAL := hid hal
  have HS := hid (small_one A d.length c w hld)
  have HK := hid (enc_knows d b)
  obtain ⟨n, hnn⟩ : ∃ n, d.length = n := ⟨_, rfl⟩
  obtain ⟨m, hmm⟩ : ∃ m, b.length = m := ⟨_, rfl⟩
  have HNN := hid hnn
  have HMM := hid hmm
  rw [hnn] at HV HVN HAL HS hld ⊢
  rw [hmm] at HU HUN HK hlb ⊢
  obtain ⟨W1, hW1⟩ : ∃ W, w.alloc (.cells #[.slice A n c] 22) = W := ⟨_, rfl⟩
  rw [hW1] at HAL HS
  have HW1 := hid hW1
  clear hv hn hu hun hal hnn hmm hW1
  by_cases hsm : n ≤ 400
  · rw [decide_eq_true hsm] at HS
    by_cases h4 : m < 4
    · have d4 : (m : Int) < 4 := by omega
      go_enter Try.func9, Try.ntmps9
      go_wp2_with fail
      rw [HW1.out]
      refine HS.out.mono ?_
      rintro e w2 ⟨rfl, hw2⟩
      rw [hw2] at HAL
      clear hw2 HS HW1
      go_wp2_with fail
      refine (awake_any _).mono ?_
      rintro e w3 ⟨rfl, hb3⟩
      have HB3 := hid (HAL.out.trans (hb3.mono HAL.out.size))
      clear hb3
      go_wp2_with fail
      go_ret
      exact ⟨rfl, HB3.out⟩
    · have d4 : ¬ (m : Int) < 4 := by omega
      by_cases h5 : 131 < m
      · have d5 : (131 : Int) < (m : Int) := by omega
        go_enter Try.func9, Try.ntmps9
        go_wp2_with fail
        rw [HW1.out]
        refine HS.out.mono ?_
        rintro e w2 ⟨rfl, hw2⟩
        rw [hw2] at HAL
        clear hw2 HS HW1
        go_wp2_with fail
        refine (awake_any _).mono ?_
        rintro e w3 ⟨rfl, hb3⟩
        have HB3 := hid (HAL.out.trans (hb3.mono HAL.out.size))
        clear hb3
        go_wp2_with fail
        go_ret
        exact ⟨rfl, HB3.out⟩
      · have d5 : ¬ (131 : Int) < (m : Int) := by omega
        obtain ⟨y, hy, hy1, hy2⟩ := HK.out (by omega) (by omega)
        have HY := hid hy
        clear hy HK
        go_enter Try.func9, Try.ntmps9
        go_wp2_with fail
        rw [HW1.out]
        refine HS.out.mono ?_
        rintro e w2 ⟨rfl, hw2⟩
        rw [hw2] at HAL
        clear hw2 HS HW1
        have hale := al1 w2 (.cells #[] 5)
        have HBE := hid (HAL.out.trans (hale.mono HAL.out.size))
        have HOE := hid (own_empty w2)
        have hbs := hale.size
        obtain ⟨WE, hWE⟩ : ∃ W, w2.alloc (.cells #[] 5) = W := ⟨_, rfl⟩
        rw [hWE] at HBE HOE hbs
        have HWE := hid hWE
        have hws := HAL.out.size
        clear hWE hale
        go_wp2_with (first | (at_builtin; rw [HWE.out]; refine append_byt rfl (.tmp 22) (.tmp 23) rfl w2.heap.size (.slice (some ⟨w2.heap.size, 0, none⟩) 0 0) 0 [] rfl HOE.out d _ rfl (HV.out.below HBE.out) HVN.out (by rw [HNN.out]; omega) hbs ?_; intro v3 w3 ho3 hg3; have HB3 := hid (below_own HBE.out HOE.out hg3 (by omega) (by omega)); have HO3 := hid ho3; have hs3 := hg3.size; clear ho3 hg3) | (at_builtin; refine append_byt rfl (.tmp 24) (.tmp 25) rfl w2.heap.size v3 (0 + d.length) _ rfl HO3.out b _ rfl (HU.out.below HB3.out) HUN.out (by rw [HNN.out, HMM.out]; omega) (by omega) ?_; intro v4 w4 ho4 hg4; have HB4 := hid (below_own HB3.out HO3.out hg4 (by omega) (by omega)); have HO4 := hid ho4; clear ho4 hg4))
        have hv4 : w4.ownsRow w2.heap.size 5 1 v4 (d ++ b).length ((d ++ b).map byteV) := by
          have h := HO4.out
          rw [List.nil_append, Nat.zero_add, ← List.length_append, ← List.map_append] at h
          exact h
        have HV4 := hid (byt_of_own hv4 (HV.out.1.append HU.out.1))
        have HC := hid (encode_said (d ++ b) b v4 _ w4 HV4.out (own_nilOk hv4) (HU.out.below HB4.out) HUN.out (by rw [List.length_append, HNN.out, HMM.out]; omega) (by rw [HMM.out]; omega))
        have H8 := hid (encL_b8 (HV.out.1.append HU.out.1) HU.out.1)
        rw [HY.out] at HC H8
        clear hv4 HO4 HO3 HB3 HOE HBE HWE
        refine HC.out.mono ?_
        rintro e w5 ⟨v5, rfl, ho5, hb5⟩
        have HB5 := hid (HB4.out.trans (hb5.mono HB4.out.size))
        have HV5 := hid (byt_of_own ho5 H8.out)
        clear ho5 hb5 HC HB4
        go_wp2_with fail
        refine (awake_any _).mono ?_
        rintro e w6 ⟨rfl, hb6⟩
        have HB6 := hid (HB5.out.trans (hb6.mono HB5.out.size))
        have hv6 := HV5.out.below hb6
        obtain ⟨k, hk⟩ : ∃ k, ((124 + m) :: y).length = k := ⟨_, rfl⟩
        have hk2 : k = y.length + 1 := by rw [← hk]; rfl
        obtain ⟨A5, c5, rfl⟩ := byt_form hv6
        obtain ⟨b5, o5, rfl, hlt5, hc5⟩ := byt_at hv6 (by simp)
        have p0 : w6.cell? ⟨b5, o5, none⟩ = some (.int .u8 ((124 + m : Nat) : Int)) := hc5 0 _ rfl
        rw [hk]
        clear hb6 hv6 hc5 hk HV5 HB5
        have e1 : (2 : Int) ≤ (k : Int) := by omega
        have e2 : (k : Int) ≤ 4 := by omega
        have e3 : IntKind.i64.wrap (128 + (m : Int)) = 128 + (m : Int) := by rw [IntKind.wrap_i64]; omega
        have e4 : IntKind.i64.wrap (128 + (m : Int) - 4) = ((124 + m : Nat) : Int) := by rw [IntKind.wrap_i64]; omega
        have e5 : IntKind.i64.wrap ((124 + m : Nat) : Int) = ((124 + m : Nat) : Int) := by rw [IntKind.wrap_i64]; omega
        obtain ⟨z, hz⟩ : ∃ z, 124 + m = z := ⟨_, rfl⟩
        rw [hz] at p0 e4 e5
        go_wp2_with fail
        go_ret
        exact ⟨rfl, HB6.out⟩
  · rw [decide_eq_false hsm] at HS
    go_enter Try.func9, Try.ntmps9
    go_wp2_with fail
    rw [HW1.out]
    refine HS.out.mono ?_
    rintro e w2 ⟨rfl, hw2⟩
    rw [hw2] at HAL
    clear hw2 HS HW1
    go_wp2_with fail
    refine (awake_any _).mono ?_
    rintro e w3 ⟨rfl, hb3⟩
    have HB3 := hid (HAL.out.trans (hb3.mono HAL.out.size))
    clear hb3
    go_wp2_with fail
    go_ret
    exact ⟨rfl, HB3.out⟩
end Go.Proofs.Ytldlddoealpomaa
