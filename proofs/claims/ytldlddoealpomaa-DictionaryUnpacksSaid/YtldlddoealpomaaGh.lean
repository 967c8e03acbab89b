/- Pack. -/
import Derived.Test.YtldlddoealpomaaGg
namespace Go.Proofs.Ytldlddoealpomaa.Rl
theorem b8_flat {g : List Sect} (h : Secs g) : B8 g.flatten := fun x hx => by
  obtain ⟨s, hs, hx⟩ := List.mem_flatten.1 hx
  exact (h s hs).2 x hx
theorem b8_encG {l : List Sect} (h : Secs l) : B8 (encG l) := by
  have ht : Secs (l.take (cnt l)) := fun s hs => h s (List.mem_of_mem_take hs)
  refine (enc_b8 _).append ?_
  unfold body
  split
  · exact b8_flat ht
  split
  · exact b8_flat (fun s hs => ht s (List.mem_of_mem_take hs))
  · intro x hx; cases hx
theorem b8_rl (n : Nat) : ∀ l : List Sect, l.length ≤ n → Secs l → B8 (rl l) := by
  induction n with
  | zero => intro l hl _; rw [List.eq_nil_of_length_eq_zero (Nat.le_zero.1 hl), rl_nil]; intro x hx; cases hx
  | succ n ih =>
    intro l hl h
    by_cases h0 : l = []
    · subst h0; rw [rl_nil]; intro x hx; cases hx
    · have hc := cnt_pos h0
      rw [rl_cons h0]
      exact (b8_encG h).append (ih _ (by rw [List.length_drop]; have := List.length_pos_iff.2 h0; omega) fun s hs => h s (List.mem_of_mem_drop hs))
end Go.Proofs.Ytldlddoealpomaa.Rl
namespace Go.Proofs.Ytldlddoealpomaa
open Go.RowKit Go.Lib
open Rl (Sect Sec Secs sec_form flat_len rl)

/-- The shorter one, the first of two equally long ones. -/
def pk2 (a b : List Nat) : List Nat := if b.length < a.length then b else a
/-- What Pack gives. -/
def packL (d : List Nat) (l : List Sect) : List Nat := pk2 (pk2 (0 :: l.flatten) (1 :: rl l)) (2 :: encL d l.flatten)
theorem flat_b8 {l : List Sect} (h : Secs l) : B8 l.flatten := fun x hx => by
  obtain ⟨s, hs, hx⟩ := List.mem_flatten.1 hx
  exact (h s hs).2 x hx
theorem own_later {w w' : World} {base n : Nat} {v : Value} {xs : List Value} (h : w.ownsRow base 5 1 v n xs) (hb : Below w.heap.size w w') : w'.ownsRow base 5 1 v n xs := own_keep h (keep_below hb)
set_option maxHeartbeats 4000000 in
set_option maxRecDepth 100000 in
theorem pack_any (d : List Nat) (l : List Sect) (v u : Value) (w : World) (hv : Byt w v d) (hn : NilOk v) (hu : Sec w u l) (hd : d.length ≤ 800000000) (hl : l.length ≤ 100000) :
    Calls Try.prog 18 #[v, u] w (MadeO w (packL d l)) := by
  obtain ⟨A, c, rfl⟩ := byt_form hv
  obtain ⟨B, c', rfl⟩ := sec_form hu
  have HV := hid hv
  have HVN := hid hn
  have HU := hid hu
  have HC1 := hid (bytesOf_any l _ w hu hl)
  have hfl : l.flatten.length ≤ 800000 := by rw [flat_len hu.1]; omega
  have H8 := hid (flat_b8 hu.1)
  have HR8 : Hid (B8 (rl l)) := hid (Rl.b8_rl _ l (Nat.le_refl _) hu.1)
  have HE8 : Hid (B8 (encL d l.flatten)) := hid (encL_b8 hv.1 H8.out)
  have hel := encL_len d l.flatten
  have hrl : (rl l).length ≤ 900000000000 := by have := (Rl.rl_len _ l (Nat.le_refl _) hu.1).1; omega
  obtain ⟨b, hb⟩ : ∃ b, l.flatten = b := ⟨_, rfl⟩
  obtain ⟨r, hr⟩ : ∃ r, rl l = r := ⟨_, rfl⟩
  have HRL := hid hr
  unfold packL
  rw [hb] at hel HC1 hfl H8 HE8 ⊢
  rw [hr] at HR8 hrl ⊢
  obtain ⟨x, hx⟩ : ∃ x, encL d b = x := ⟨_, rfl⟩
  have HX := hid hx
  rw [hx] at hel HE8 ⊢
  obtain ⟨p0, hp0⟩ : ∃ p, 0 :: b = p := ⟨_, rfl⟩
  obtain ⟨p1, hp1⟩ : ∃ p, 1 :: r = p := ⟨_, rfl⟩
  obtain ⟨p2, hp2⟩ : ∃ p, 2 :: x = p := ⟨_, rfl⟩
  have H0 := hid hp0
  have H1 := hid hp1
  have H2 := hid hp2
  rw [hp0, hp1, hp2]
  clear hp0 hp1 hp2
  obtain ⟨nd, hnd⟩ : ∃ nd, d.length = nd := ⟨_, rfl⟩
  have HND := hid hnd
  rw [hnd]
  obtain ⟨nl, hnl⟩ : ∃ nl, l.length = nl := ⟨_, rfl⟩
  have HNL := hid hnl
  rw [hnl] at HC1 ⊢
  rw [hnd] at hd
  clear hv hn hu hb hr hx hnd hnl
  go_enter Try.func18, Try.ntmps18
  go_wp2_with fail
  refine HC1.out.mono ?_
  rintro e w1 ⟨vb, rfl, ho1, hb1⟩
  have hbb := byt_of_own ho1 H8.out
  have hbn := own_nilOk ho1
  obtain ⟨bA, bc, rfl⟩ := own_form ho1
  have HB1 := hid hb1
  have HBB := hid hbb
  have HBN := hid hbn
  have HC2 := hid (packed_any 0 b _ w1 hbb hbn (by omega))
  rw [H0.out] at HC2
  clear ho1 hb1 hbb hbn HC1
  go_wp2_with fail
  refine HC2.out.mono ?_
  rintro e w2 ⟨v0, rfl, ho2, hb2⟩
  have HO2 := hid ho2
  have HB2 := hid hb2
  have hs2 := hb2.size
  obtain ⟨cA, cc, rfl⟩ := own_form ho2
  have HW2 := hid (HB1.out.trans (hb2.mono HB1.out.size))
  have HC3 := hid (Rl.encode_any l _ w2 (HU.out.below HW2.out) hl)
  rw [HRL.out, HNL.out] at HC3
  clear ho2 hb2 HC2
  go_wp2_with fail
  refine HC3.out.mono ?_
  rintro e w3 ⟨vr, rfl, ho3, hb3⟩
  have hrb := byt_of_own ho3 HR8.out
  have hrn := own_nilOk ho3
  obtain ⟨rA, rc, rfl⟩ := own_form ho3
  have HW3 := hid (HW2.out.trans (hb3.mono HW2.out.size))
  have HO3 := hid (own_later HO2.out hb3)
  have HC4 := hid (packed_any 1 r _ w3 hrb hrn hrl)
  rw [H1.out] at HC4
  have hs3 := hb3.size
  have HB3 := hid hb3
  clear ho3 hb3 hrb hrn HC3 HO2
  go_wp2_with fail
  refine HC4.out.mono ?_
  rintro e w4 ⟨v1, rfl, ho4, hb4⟩
  obtain ⟨dA, dc, rfl⟩ := own_form ho4
  have HW4 := hid (HW3.out.trans (hb4.mono HW3.out.size))
  have HO4 := hid (own_later HO3.out hb4)
  have HP4 := hid ho4
  have hs4 := hb4.size
  have HBB4 := hid (((HBB.out.below HB2.out).below HB3.out).below hb4)
  have HC5 := hid (encode_said d b _ _ w4 (HV.out.below HW4.out) HVN.out HBB4.out HBN.out (by rw [HND.out]; omega) (by omega))
  rw [HX.out, HND.out] at HC5
  clear ho4 hb4 HC4 HO3
  go_wp2_with fail
  refine HC5.out.mono ?_
  rintro e w5 ⟨ve, rfl, ho5, hb5⟩
  have hxb := byt_of_own ho5 HE8.out
  have hxn := own_nilOk ho5
  obtain ⟨eA, ec, rfl⟩ := own_form ho5
  have HW5 := hid (HW4.out.trans (hb5.mono HW4.out.size))
  have HO5 := hid (own_later HO4.out hb5)
  have HP5 := hid (own_later HP4.out hb5)
  have HC6 := hid (packed_any 2 x _ w5 hxb hxn (by omega))
  rw [H2.out] at HC6
  have hs5 := hb5.size
  clear ho5 hb5 hxb hxn HC5 HO4 HP4
  go_wp2_with fail
  refine HC6.out.mono ?_
  rintro e w6 ⟨v2, rfl, ho6, hb6⟩
  obtain ⟨fA, fc, rfl⟩ := own_form ho6
  have hs6 := HW5.out.size
  have hs1 := HB1.out.size
  have HW6 := hid (HW5.out.trans (hb6.mono HW5.out.size))
  have HO6 := hid (own_down (base' := w.heap.size) (own_later HO5.out hb6) (by omega))
  have HP6 := hid (own_down (base' := w.heap.size) (own_later HP5.out hb6) (by omega))
  have HQ6 := hid (own_down (base' := w.heap.size) ho6 (by omega))
  clear ho6 hb6 HC6 HO5 HP5
  go_wp2_with fail
  have hi0 : ∀ W : World, (Instr.index 63 (.agg #[.slice dA p1.length dc, .slice fA p2.length fc]) (.int .i64 0)).run Try.prog W = .ok (.slice dA p1.length dc) W := fun W => by kernel_rfl
  have hi1 : ∀ W : World, (Instr.index 63 (.agg #[.slice dA p1.length dc, .slice fA p2.length fc]) (.int .i64 1)).run Try.prog W = .ok (.slice fA p2.length fc) W := fun W => by kernel_rfl
  go_loopw [6, 21] (fun u j wr => wr = w6 ∧ ((u = .slice cA p0.length cc ∧ j = .int .i64 0) ∨ (j = .int .i64 1 ∧ ∃ A9 c9, u = .slice A9 (pk2 p0 p1).length c9 ∧ Hid (w6.ownsRow w.heap.size 5 1 u (pk2 p0 p1).length ((pk2 p0 p1).map byteV))) ∨ (j = .int .i64 2 ∧ ∃ A9 c9, u = .slice A9 (pk2 (pk2 p0 p1) p2).length c9 ∧ Hid (w6.ownsRow w.heap.size 5 1 u (pk2 (pk2 p0 p1) p2).length ((pk2 (pk2 p0 p1) p2).map byteV))))) (fun _ j _ => 2 - (Go.RowKit.intOf j).toNat)
  case atStart => exact ⟨rfl, .inl ⟨rfl, rfl⟩⟩
  case round =>
    obtain ⟨hww, hcs⟩ := hrel
    have hww' := hww.symm
    clear hww
    subst hww'
    obtain (⟨rfl, rfl⟩ | ⟨rfl, A9, c9, rfl, H9⟩ | ⟨rfl, A9, c9, rfl, H9⟩) := hcs
    · by_cases hlt : p1.length < p0.length
      · have hdd : (p1.length : Int) < (p0.length : Int) := by omega
        have hpk : pk2 p0 p1 = p1 := if_pos hlt
        have HP : Hid (w6.ownsRow w.heap.size 5 1 (.slice dA p1.length dc) (pk2 p0 p1).length ((pk2 p0 p1).map byteV)) := hid (by rw [hpk]; exact HP6.out)
        have HPL := hid hpk
        clear hpk
        go_wp2_with fail
        go_roundw
        case rel => exact ⟨trivial, .inr (.inl ⟨rfl, _, _, by rw [HPL.out], HP⟩)⟩
        case measure => simp [Go.RowKit.intOf]
      · have hdd : ¬ (p1.length : Int) < (p0.length : Int) := by omega
        have hpk : pk2 p0 p1 = p0 := if_neg hlt
        have HP : Hid (w6.ownsRow w.heap.size 5 1 (.slice cA p0.length cc) (pk2 p0 p1).length ((pk2 p0 p1).map byteV)) := hid (by rw [hpk]; exact HO6.out)
        have HPL := hid hpk
        clear hpk
        go_wp2_with fail
        go_roundw
        case rel => exact ⟨trivial, .inr (.inl ⟨rfl, _, _, by rw [HPL.out], HP⟩)⟩
        case measure => simp [Go.RowKit.intOf]
    · obtain ⟨pm, hpm⟩ : ∃ pm, pk2 p0 p1 = pm := ⟨_, rfl⟩
      rw [hpm] at H9 ⊢
      by_cases hlt : p2.length < pm.length
      · have hdd : (p2.length : Int) < (pm.length : Int) := by omega
        have hpk : pk2 pm p2 = p2 := if_pos hlt
        have HP : Hid (w6.ownsRow w.heap.size 5 1 (.slice fA p2.length fc) (pk2 pm p2).length ((pk2 pm p2).map byteV)) := hid (by rw [hpk]; exact HQ6.out)
        have HPL := hid hpk
        clear hpk
        go_wp2_with fail
        go_roundw
        case rel => exact ⟨trivial, .inr (.inr ⟨rfl, _, _, by rw [HPL.out], HP⟩)⟩
        case measure => simp [Go.RowKit.intOf]
      · have hdd : ¬ (p2.length : Int) < (pm.length : Int) := by omega
        have hpk : pk2 pm p2 = pm := if_neg hlt
        have HP : Hid (w6.ownsRow w.heap.size 5 1 (.slice A9 pm.length c9) (pk2 pm p2).length ((pk2 pm p2).map byteV)) := hid (by rw [hpk]; exact H9.out)
        have HPL := hid hpk
        clear hpk
        go_wp2_with fail
        go_roundw
        case rel => exact ⟨trivial, .inr (.inr ⟨rfl, _, _, by rw [HPL.out], HP⟩)⟩
        case measure => simp [Go.RowKit.intOf]
    · obtain ⟨pm, hpm⟩ : ∃ pm, pk2 (pk2 p0 p1) p2 = pm := ⟨_, rfl⟩
      rw [hpm] at H9 ⊢
      go_wp2_with fail
      go_ret
      exact ⟨.slice A9 pm.length c9, rfl, by rw [hpm]; exact H9.out, HW6.out⟩
end Go.Proofs.Ytldlddoealpomaa
