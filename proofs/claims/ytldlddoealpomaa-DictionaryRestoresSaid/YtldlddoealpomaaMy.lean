/- Unpack of a packed form, same, the walk of Restores. -/
import Derived.Test.YtldlddoealpomaaMx
import Derived.Test.YtldlddoealpomaaHx
namespace Go.Proofs.Ytldlddoealpomaa
open Go.RowKit Go.Lib
open Rl (Sect Sec Secs sec_form flat_len rl cSec)

theorem ck_flat : ∀ (f : Nat) (l : List Sect), Secs l → l.flatten.length ≤ f → C8.ck f l.flatten = l
  | 0, l, h, hf => by
    rcases l with _ | ⟨s, t⟩
    · rfl
    · have := (h s (List.mem_cons_self ..)).1
      rw [List.flatten_cons, List.length_append] at hf; omega
  | f + 1, l, h, hf => by
    rcases l with _ | ⟨s, t⟩
    · rfl
    · have h8 := (h s (List.mem_cons_self ..)).1
      rw [List.flatten_cons, List.length_append] at hf
      rw [List.flatten_cons, C8.ck, if_neg (fun e => by have := congrArg List.length e; rw [List.length_append, List.length_nil] at this; omega), ← h8, List.take_left, List.drop_left, ck_flat f t (fun x hx => h x (List.mem_cons_of_mem _ hx)) (by omega)]
def GotL (w : World) (l : List Sect) (e : Ending) (w' : World) : Prop := ∃ lv, e = .returned (.tuple #[lv, .int .i64 0]) ∧ Sec w' lv l ∧ Below w.heap.size w w'
theorem sec_of_own' {w : World} {base : Nat} {v : Value} {l : List Sect} (h : w.ownsRow base 44 8 v l.length (l.map cSec).flatten) (hl : Secs l) : Sec w v l := Rl.sec_of_own h hl
theorem sectorsOf_flat (l : List Sect) (v : Value) (w : World) (hb : Byt w v l.flatten) (hs : Secs l) (hl : l.length ≤ 4096) : Calls Try.prog 37 #[v, .int .i64 (l.length : Int)] w (GotL w l) := by
  have hfl : l.flatten.length = 8 * l.length := flat_len hs
  refine (C8.sectorsOf_ok l.flatten _ v w hb (by omega) (by omega) (by omega)).mono ?_
  rintro e w' ⟨lv, rfl, ho, hb'⟩
  rw [ck_flat _ l hs (Nat.le_refl _)] at ho
  exact ⟨lv, rfl, sec_of_own' ho hs, hb'⟩
theorem rlDec_flat (l : List Sect) (v : Value) (w : World) (hb : Byt w v (rl l)) (hn : NilOk v) (hs : Secs l) (hl : l.length ≤ 4096) (hr : (rl l).length ≤ 90000) : Calls Try.prog 38 #[v, .int .i64 (l.length : Int)] w (GotL w l) := by
  refine (Rl.decode_any (rl l) v (l.length : Int) w hb hn hr).mono ?_
  rintro e w' ⟨hb', ⟨l', lv, h1, rfl, hs', ho⟩ | ⟨er, h1, _⟩⟩
  · rw [show Rl.capm (l.length : Int) = l.length by unfold Rl.capm; omega, Rl.dec_back hs (by omega)] at h1
    cases h1
    exact ⟨lv, rfl, sec_of_own' ho hs, hb'⟩
  · rw [show Rl.capm (l.length : Int) = l.length by unfold Rl.capm; omega, Rl.dec_back hs (by omega)] at h1
    cases h1
set_option maxHeartbeats 8000000 in
set_option maxRecDepth 100000 in
theorem unpack_at (d : List Nat) (l : List Sect) (m : Nat) (x : List Nat) (v u : Value) (w : World) (hv : Byt w v d) (hn : NilOk v) (hu : Byt w u (m :: x)) (hs : Secs l) (hd : d.length ≤ 800000) (hl : l.length ≤ 100)
    (hx : (m = 0 ∧ x = l.flatten) ∨ (m = 1 ∧ x = rl l) ∨ (m = 2 ∧ x = encL d l.flatten)) :
    Calls Try.prog 20 #[v, u, .int .i64 (l.length : Int)] w (GotL w l) := by
  obtain ⟨A, c, rfl⟩ := byt_form hv
  obtain ⟨B, c', rfl⟩ := byt_form hu
  obtain ⟨b, off, rfl, hlt, hc⟩ := byt_at hu (by simp)
  have p0 : w.cell? ⟨b, off, none⟩ = some (.int .u8 (m : Int)) := hc 0 _ rfl
  have hcc := byt_cap hu
  have HV := hid hv
  have HVN := hid hn
  have HF := hid (byt_from hu (k := 1) (by simp))
  obtain ⟨n, hnn⟩ : ∃ n, (m :: x).length = n := ⟨_, rfl⟩
  have hn0 : 0 < n := by rw [← hnn]; simp
  have hfl : l.flatten.length = 8 * l.length := flat_len hs
  have h8f := flat_b8 hs
  rw [hnn] at HF hcc ⊢
  have HF2 : Hid (Byt w (.slice (fromA (some ⟨b, off, none⟩) c' 1) (n - 1) (c' - 1)) x) := hid (by have h := HF.out; simpa using h)
  have hrs := run_slice_from (some ⟨b, off, none⟩) n c' 1 (by omega)
  have HNF : Hid (NilOk (.slice (fromA (some ⟨b, off, none⟩) c' 1) (n - 1) (c' - 1))) := hid (nilOk_from (nilOk_some _ n c'))
  obtain ⟨q, hq⟩ : ∃ q, fromA (some ⟨b, off, none⟩) c' 1 = q := ⟨_, rfl⟩
  rw [hq] at HF2 hrs HNF
  have HSL := hid hs
  have d1 : ¬ (n : Int) = 0 := by omega
  have d0 : ((n : Int) == 0) = false := by simp; omega
  have hrs' : ∀ W : World, (Instr.slice 22 (.slice (some ⟨b, off, none⟩) n c') (some (.int .i64 1)) none none).run Try.prog W = .ok (.slice q (n - 1) (c' - 1)) W := fun W => hrs W
  obtain ⟨L, hL⟩ : ∃ L, l.length = L := ⟨_, rfl⟩
  have HL := hid hL
  rw [hL] at hfl hl ⊢
  have d3 : ¬ (4096 : Int) < (L : Int) := by omega
  have hmul : IntKind.i64.wrap (8 * (L : Int)) = ((8 * L : Nat) : Int) := by rw [IntKind.wrap_i64]; omega
  clear hv hn hu hnn hc HF hq hrs hs hL hcc
  rcases hx with ⟨rfl, rfl⟩ | ⟨rfl, rfl⟩ | ⟨rfl, rfl⟩
  · have HC := hid (fun (W : World) (hW : Below w.heap.size w W) => sectorsOf_flat l _ W (HF2.out.below hW) HSL.out (by rw [HL.out]; omega))
    rw [HL.out] at HC
    go_enter Try.func20, Try.ntmps20
    go_wp2_with fail
    go_quiet (fail)
    go_wp2_with fail
    have hbd : Below w.heap.size w (w.drewN nq) := ⟨rfl, rfl, rfl, Nat.le_refl _, fun _ _ => rfl⟩
    refine (HC.out _ hbd).mono ?_
    rintro e w2 ⟨lv, rfl, hsec, hb2⟩
    have HSE := hid hsec
    have HB2 := hid (hbd.trans hb2)
    clear hsec hb2 HC
    go_wp2_with fail
    go_ret2
    exact ⟨lv, rfl, HSE.out, HB2.out⟩
  · have hrl : (rl l).length ≤ 90000 := by have := (Rl.rl_len _ l (Nat.le_refl _) HSL.out).1; have := HL.out; omega
    have HC := hid (fun (W : World) (hW : Below w.heap.size w W) => rlDec_flat l _ W (HF2.out.below hW) HNF.out HSL.out (by rw [HL.out]; omega) hrl)
    rw [HL.out] at HC
    go_enter Try.func20, Try.ntmps20
    go_wp2_with fail
    go_quiet (fail)
    go_wp2_with fail
    have hbd : Below w.heap.size w (w.drewN nq) := ⟨rfl, rfl, rfl, Nat.le_refl _, fun _ _ => rfl⟩
    refine (HC.out _ hbd).mono ?_
    rintro e w2 ⟨lv, rfl, hsec, hb2⟩
    have HSE := hid hsec
    have HB2 := hid (hbd.trans hb2)
    clear hsec hb2 HC
    go_wp2_with fail
    go_ret2
    exact ⟨lv, rfl, HSE.out, HB2.out⟩
  · have hel := encL_len d l.flatten
    have HC := hid (fun (W : World) (hW : Below w.heap.size w W) => decode_any d (encL d l.flatten) _ _ ((8 * L : Nat) : Int) W (HV.out.below hW) HVN.out (HF2.out.below hW) HNF.out (by omega) (by omega) (by omega))
    have HDE : Hid (decL d (encL d l.flatten) ((8 * L : Nat) : Int) = .ok l.flatten) := hid (by rw [dec_enc _ HV.out.1 h8f, if_pos (by omega)])
    have HD := hid (fun (v3 : Value) (W : World) (hb : Byt W v3 l.flatten) => sectorsOf_flat l v3 W hb HSL.out (by rw [HL.out]; omega))
    rw [HL.out] at HD
    go_enter Try.func20, Try.ntmps20
    go_wp2_with fail
    go_quiet (fail)
    go_wp2_with fail
    have hbd : Below w.heap.size w (w.drewN nq) := ⟨rfl, rfl, rfl, Nat.le_refl _, fun _ _ => rfl⟩
    refine (HC.out _ hbd).mono ?_
    rintro e w2 hq2
    obtain ⟨v3, rfl, hb2, hv3, _⟩ := dec_ok hq2 HDE.out
    have hbd2 := below_both hbd hb2
    have HV3 := hid hv3
    clear hq2 hv3 HC hb2
    go_wp2_with fail
    refine (HD.out _ _ HV3.out).mono ?_
    rintro e w4 ⟨lv, rfl, hsec, hb4⟩
    have HSE := hid hsec
    have HB4 := hid (below_both hbd2 hb4)
    clear hsec hb4 HD
    go_wp2_with fail
    go_ret2
    exact ⟨lv, rfl, HSE.out, HB4.out⟩
end Go.Proofs.Ytldlddoealpomaa

namespace Go.Proofs.Ytldlddoealpomaa
open Go.RowKit Go.Lib
open Rl (Sect Sec Secs sec_form sec_at list8 cSec flat_len rl SaysQ)

set_option maxHeartbeats 4000000 in
set_option maxRecDepth 100000 in
theorem same_eq (l : List Sect) (v u : Value) (w : World) (hv : Sec w v l) (hu : Sec w u l) (hl : l.length ≤ 100000) : Calls Try.prog 22 #[v, u] w (SaysQ true w) := by
  obtain ⟨A, c, rfl⟩ := sec_form hv
  obtain ⟨B, c', rfl⟩ := sec_form hu
  have HV := hid hv
  have HU := hid hu
  obtain ⟨n, hn⟩ : ∃ n, l.length = n := ⟨_, rfl⟩
  have HN := hid hn
  rw [hn] at HV HU hl ⊢
  have d1 : ((n : Int) != (n : Int)) = false := by simp
  clear hv hu hn
  go_enter Try.func22, Try.ntmps22
  go_wp2_with fail
  go_loopw [5] (fun i wr => ∃ k : Nat, k ≤ n ∧ i = .int .i64 (k : Int) ∧ ∃ q, wr = w.drewN q) (fun i _ => n - (Go.RowKit.intOf i).toNat)
  case atStart => exact ⟨0, by omega, rfl, 0, rfl⟩
  case round =>
    obtain ⟨k, hk, rfl, q, rfl⟩ := hrel
    by_cases hkn : k < n
    · have hne : l ≠ [] := fun e => by have := HN.out; rw [e] at this; simp at this; omega
      obtain ⟨b1, o1, cp1, e1, hc1, hm1, hb1, hs1⟩ := sec_at HV.out hne
      obtain ⟨b2, o2, cp2, e2, hc2, hm2, hb2, hs2⟩ := sec_at HU.out hne
      injection e1 with f1 f2 f3
      injection e2 with g1 g2 g3
      subst f1 f3 g1 g3
      obtain ⟨s, hs⟩ : ∃ s, l[k]? = some s := ⟨l[k]'(by rw [HN.out]; exact hkn), List.getElem?_eq_getElem _⟩
      have hso := HV.out.1 s (List.mem_of_getElem? hs)
      have s1 := hs1 k s hs
      have s2 := hs2 k s hs
      have heq := fun (W : World) => Rl.eql_sec s s hso.1 hso.1 hso.2 hso.2 W
      rw [decide_eq_true rfl] at heq
      obtain ⟨x0, x1, x2, x3, x4, x5, x6, x7, rfl⟩ := list8 hso.1
      obtain ⟨p0, p1, p2, p3, p4, p5, p6, p7⟩ := s1.facts
      obtain ⟨r0, r1, r2, r3, r4, r5, r6, r7⟩ := s2.facts
      have heq2 : ∀ W : World, (Op.equalIn 10000 44 (.agg #[.int .u8 (x0 : Int), .int .u8 (x1 : Int), .int .u8 (x2 : Int), .int .u8 (x3 : Int), .int .u8 (x4 : Int), .int .u8 (x5 : Int), .int .u8 (x6 : Int), .int .u8 (x7 : Int)]) (.agg #[.int .u8 (x0 : Int), .int .u8 (x1 : Int), .int .u8 (x2 : Int), .int .u8 (x3 : Int), .int .u8 (x4 : Int), .int .u8 (x5 : Int), .int .u8 (x6 : Int), .int .u8 (x7 : Int)])).run Try.prog W = .ok true W := heq
      have hkc : (k : Int) < (n : Int) := by omega
      clear heq hso hs1 hs2 hs s1 s2 hne f2 g2
      go_wp2_with fail
      go_quiet (fail)
      go_wp2_with fail
      go_roundw
      case rel => exact ⟨k + 1, by omega, by go_num, _, rfl⟩
      case measure => simp [Go.RowKit.intOf]; omega
    · obtain rfl : k = n := by omega
      go_wp2_with fail
      go_ret
      exact ⟨rfl, _, rfl⟩
end Go.Proofs.Ytldlddoealpomaa

namespace Go.Proofs.Ytldlddoealpomaa
open Go.RowKit Go.Lib
open Rl (Sect Sec Secs sec_form flat_len rl)

theorem pk2_or (a b : List Nat) : pk2 a b = a ∨ (pk2 a b = b ∧ b.length < a.length) := by
  unfold pk2
  by_cases h : b.length < a.length
  · rw [if_pos h]; exact .inr ⟨rfl, h⟩
  · rw [if_neg h]; exact .inl rfl
theorem packL_is (d : List Nat) (l : List Sect) (hs : Secs l) : ∃ m x, packL d l = m :: x ∧ ((m = 0 ∧ x = l.flatten) ∨ (m = 1 ∧ x = rl l) ∨ (m = 2 ∧ x = encL d l.flatten)) ∧ x.length ≤ 8 * l.length := by
  have hf : l.flatten.length = 8 * l.length := flat_len hs
  have e : packL d l = pk2 (pk2 (0 :: l.flatten) (1 :: rl l)) (2 :: encL d l.flatten) := rfl
  rcases pk2_or (0 :: l.flatten) (1 :: rl l) with h1 | ⟨h1, h2⟩
  · rw [h1] at e
    rcases pk2_or (0 :: l.flatten) (2 :: encL d l.flatten) with h3 | ⟨h3, h4⟩
    · exact ⟨0, _, e.trans h3, .inl ⟨rfl, rfl⟩, by omega⟩
    · rw [List.length_cons, List.length_cons] at h4
      exact ⟨2, _, e.trans h3, .inr (.inr ⟨rfl, rfl⟩), by omega⟩
  · rw [h1] at e
    rw [List.length_cons, List.length_cons] at h2
    rcases pk2_or (1 :: rl l) (2 :: encL d l.flatten) with h3 | ⟨h3, h4⟩
    · exact ⟨1, _, e.trans h3, .inr (.inl ⟨rfl, rfl⟩), by omega⟩
    · rw [List.length_cons, List.length_cons] at h4
      exact ⟨2, _, e.trans h3, .inr (.inr ⟨rfl, rfl⟩), by omega⟩
theorem packL_b8' {d : List Nat} {l : List Sect} (hd : B8 d) (hl : Secs l) : B8 (packL d l) := by
  have h : ∀ (z : Nat) (t : List Nat), z < 256 → B8 t → B8 (z :: t) := fun z t hz ht x hx => by
    rcases List.mem_cons.1 hx with rfl | hx
    · exact hz
    · exact ht x hx
  have hp : ∀ a b : List Nat, B8 a → B8 b → B8 (pk2 a b) := fun a b ha hb => by unfold pk2; split <;> assumption
  exact hp _ _ (hp _ _ (h 0 _ (by decide) (flat_b8 hl)) (h 1 _ (by decide) (Rl.b8_rl _ l (Nat.le_refl _) hl))) (h 2 _ (by decide) (encL_b8 hd (flat_b8 hl)))
set_option maxHeartbeats 4000000 in
set_option maxRecDepth 100000 in
theorem restores_walk (d : List Nat) (l : List Sect) (v u : Value) (w : World) (hv : Byt w v d) (hn : NilOk v) (hu : Sec w u l) : Calls Try.prog 8 #[v, u] w (GoodB w) := by
  have hld := byt_len hv
  have HV := hid hv
  have HU := hid hu
  have HVN := hid hn
  obtain ⟨A, c, rfl⟩ := byt_form hv
  obtain ⟨B, c', rfl⟩ := sec_form hu
  have hal := al1 w (.cells #[.slice A d.length c] 22)
  have HAL := hid hal
  have HS := hid (small_one A d.length c w hld)
  have H8 := hid (packL_b8' hv.1 hu.1)
  obtain ⟨mm, x, hp, hcs, hxl⟩ := packL_is d l hu.1
  rw [hp] at H8
  have HP := hid hp
  have HCS := hid hcs
  obtain ⟨n, hnn⟩ : ∃ n, d.length = n := ⟨_, rfl⟩
  obtain ⟨m, hmm⟩ : ∃ m, l.length = m := ⟨_, rfl⟩
  have HNN := hid hnn
  have HMM := hid hmm
  rw [hnn] at HV HVN HAL HS hld ⊢
  rw [hmm] at HU hxl ⊢
  obtain ⟨W1, hW1⟩ : ∃ W, w.alloc (.cells #[.slice A n c] 22) = W := ⟨_, rfl⟩
  rw [hW1] at HAL HS
  have HW1 := hid hW1
  clear hv hn hu hal hnn hmm hW1 hp hcs
  by_cases hsm : n ≤ 400
  · rw [decide_eq_true hsm] at HS
    by_cases h4 : 40 < m
    · have d4 : (40 : Int) < (m : Int) := by omega
      go_enter Try.func8, Try.ntmps8
      go_wp2_with fail
      rw [HW1.out]
      refine HS.out.mono ?_
      rintro e w2 ⟨rfl, hw2⟩
      rw [hw2] at HAL
      clear hw2 HS HW1
      go_wp2_with fail
      refine (awake_any _).mono ?_
      rintro e w3 ⟨rfl, hb3⟩
      have HB3 := hid (HAL.out.trans (hb3.mono HAL.out.size))
      clear hb3
      go_wp2_with fail
      go_ret
      exact ⟨rfl, HB3.out⟩
    · have d4 : ¬ (40 : Int) < (m : Int) := by omega
      have HC := hid (pack_any d l _ _ W1 (HV.out.below HAL.out) HVN.out (HU.out.below HAL.out) (by rw [HNN.out]; omega) (by rw [HMM.out]; omega))
      rw [HP.out] at HC
      go_enter Try.func8, Try.ntmps8
      go_wp2_with fail
      rw [HW1.out]
      refine HS.out.mono ?_
      rintro e w2 ⟨rfl, hw2⟩
      rw [hw2] at HAL HC
      clear hw2 HS HW1
      go_wp2_with fail
      refine HC.out.mono ?_
      rintro e w3 ⟨v3, rfl, ho3, hb3⟩
      have HB3 := hid (HAL.out.trans (hb3.mono HAL.out.size))
      have hv3 := byt_of_own ho3 H8.out
      have HD := hid (unpack_at d l mm x _ v3 w3 (HV.out.below HB3.out) HVN.out hv3 HU.out.1 (by rw [HNN.out]; omega) (by rw [HMM.out]; omega) HCS.out)
      rw [HMM.out] at HD
      obtain ⟨k, hk⟩ : ∃ k, (mm :: x).length = k := ⟨_, rfl⟩
      rw [hk] at ho3
      have hk1 : 1 ≤ k ∧ k ≤ 8 * m + 1 := by rw [← hk, List.length_cons]; omega
      obtain ⟨A3, c3, rfl⟩ := own_form ho3
      clear ho3 hb3 hv3 HC hk
      go_wp2_with fail
      refine HD.out.mono ?_
      rintro e w4 ⟨lv, rfl, hsec, hb4⟩
      have HB4 := hid (HB3.out.trans (hb4.mono HB3.out.size))
      have HSE := hid hsec
      clear hsec hb4 HD
      go_wp2_with fail
      refine (awake_any _).mono ?_
      rintro e w5 ⟨rfl, hb5⟩
      have HB5 := hid (HB4.out.trans (hb5.mono HB4.out.size))
      have HQ := hid (same_eq l lv _ w5 (HSE.out.below hb5) (HU.out.below HB5.out) (by rw [HMM.out]; omega))
      clear hb5
      go_wp2_with fail
      refine HQ.out.mono ?_
      rintro e w6 h6
      obtain ⟨rfl, q, rfl⟩ := h6
      have e1 : (1 : Int) ≤ (k : Int) := by omega
      have e2 : IntKind.i64.wrap (8 * (m : Int)) = 8 * (m : Int) := by rw [IntKind.wrap_i64]; omega
      have e3 : IntKind.i64.wrap (1 + 8 * (m : Int)) = 1 + 8 * (m : Int) := by rw [IntKind.wrap_i64]; omega
      have e4 : (k : Int) ≤ 1 + 8 * (m : Int) := by omega
      go_wp2_with fail
      go_ret
      exact ⟨rfl, HB5.out.trans ⟨rfl, rfl, rfl, Nat.le_refl _, fun _ _ => rfl⟩⟩
  · rw [decide_eq_false hsm] at HS
    go_enter Try.func8, Try.ntmps8
    go_wp2_with fail
    rw [HW1.out]
    refine HS.out.mono ?_
    rintro e w2 ⟨rfl, hw2⟩
    rw [hw2] at HAL
    clear hw2 HS HW1
    go_wp2_with fail
    refine (awake_any _).mono ?_
    rintro e w3 ⟨rfl, hb3⟩
    have HB3 := hid (HAL.out.trans (hb3.mono HAL.out.size))
    clear hb3
    go_wp2_with fail
    go_ret
    exact ⟨rfl, HB3.out⟩
end Go.Proofs.Ytldlddoealpomaa
