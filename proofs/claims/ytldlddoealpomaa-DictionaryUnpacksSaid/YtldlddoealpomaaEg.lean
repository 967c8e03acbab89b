/- The reference's Encode. -/
import Derived.Test.YtldlddoealpomaaEf
namespace Go.Proofs.Ytldlddoealpomaa
open Go.RowKit Go.Lib

/-- The tokens of x from a on, where l waits. -/
def en (x : List Nat) : Nat → Nat → List Nat → List Nat
  | 0, _, l => lt l.length l
  | f + 1, a, l => if a < x.length then (if (bst x a (min 4096 a)).2 = 0 then en x f (a + 1) (l ++ [x.getD a 0]) else lt l.length l ++ ([124 + (bst x a (min 4096 a)).2] ++ (enc (bst x a (min 4096 a)).1 ++ en x f (a + (bst x a (min 4096 a)).2) []))) else lt l.length l
theorem bst_ok (x : List Nat) (a : Nat) : ∀ d, (bst x a d).1 ≤ d ∧ ((bst x a d).2 = 0 ∨ 4 ≤ (bst x a d).2) ∧ (bst x a d).2 ≤ 131
  | 0 => ⟨Nat.le_refl _, .inl rfl, by simp [bst]⟩
  | d + 1 => by
    have := cm_le x (a - (d + 1)) a 131 0
    have ih := bst_ok x a d
    rw [bst]
    split
    · rename_i h; exact ⟨Nat.le_refl _, .inr h.1, by dsimp only; omega⟩
    · exact ⟨by omega, ih.2⟩
theorem lt_len : ∀ (f : Nat) (l : List Nat), (lt f l).length ≤ 2 * l.length
  | 0, l => by simp [lt]
  | f + 1, l => by
    rw [lt]
    split
    · simp
    · rename_i h
      have := lt_len f (l.drop 127)
      have h0 := List.length_pos_iff.2 h
      rw [List.length_append, List.length_append, List.length_take]
      rw [List.length_drop] at this
      simp only [List.length_singleton]
      omega
theorem lt_b8 : ∀ (f : Nat) (l : List Nat), B8 l → B8 (lt f l)
  | 0, _, _ => fun x h => by simp [lt] at h
  | f + 1, l, h8 => by
    rw [lt]
    split
    · exact fun x h => by simp at h
    · exact B8.append (fun x hx => by rw [List.mem_singleton] at hx; omega) ((b8_take h8 127).append (lt_b8 f _ (b8_drop h8 127)))
def Sep (u v : Value) : Prop := ∀ k, u.ownBlock = some k → v.ownBlock ≠ some k
theorem sep_apart {u v : Value} (h : Sep u v) : Apart v u := fun a n c e _ e2 => h _ e2 (by rw [e]; rfl)
theorem byt_chg {w w2 : World} {u v v' : Value} {s : List Nat} (h : Byt w u s) (hc : Chg w.heap.size v v' w w2) (ha : Apart u v) : Byt w2 u s := by
  obtain ⟨h8, A, c, rfl, h1, h2, b, off, hA, hd⟩ := h
  refine ⟨h8, A, c, rfl, h1, h2, b, off, fun hp => ⟨(hA hp).1, Nat.lt_of_lt_of_le (hA hp).2 hc.low.size⟩, fun i x hx => ?_⟩
  have hp : 0 < s.length := by have := (List.getElem?_eq_some_iff.1 hx).1; omega
  obtain ⟨rfl, hb⟩ := hA hp
  have hne := ha _ _ _ rfl hp
  exact (World.cell?_of_block (hc.block b hb (by omega) (fun e => hne e.symm))).trans (hd i x hx)
theorem apart_chg {w w2 : World} {g : Nat} {u v v' : Value} {s : List Nat} (h : Byt w u s) (hc : Chg g v v' w w2) (ha : Apart u v) : Apart u v' := fun a n c e hn e2 => by
  rcases hc.own with ho | ⟨k, hk, ho⟩
  · exact ha a n c e hn (ho.symm.trans e2)
  · obtain ⟨_, A, c', e', _, _, b, off, hA, _⟩ := h
    rw [e] at e'
    injection e' with e1 e3
    obtain ⟨h1, h2⟩ := hA (by omega)
    rw [← e1] at h1
    injection h1 with h1
    subst h1
    rw [ho] at e2
    injection e2 with e2
    dsimp only at e2
    omega
theorem below_chg {w w2 : World} {v v' : Value} {base n : Nat} {xs : List Value} (hc : Chg w.heap.size v v' w w2) (ho : w.ownsRow base 5 1 v n xs) (hb : base ≤ w.heap.size) : Below base w w2 :=
  ⟨hc.low.os, hc.low.tape, hc.low.output, hc.low.size, fun k hk => hc.block k (by omega) (by omega) (fun e => by have := (ho.lt k e.symm).1; omega)⟩
theorem own_down {w : World} {base base' n : Nat} {v : Value} {xs : List Value} (h : w.ownsRow base 5 1 v n xs) (hb : base' ≤ base) : w.ownsRow base' 5 1 v n xs :=
  ⟨h.1, h.2.imp id fun ⟨g, cap, cur, e, hg, r⟩ => ⟨g, cap, cur, e, by omega, r⟩⟩
theorem sep_nil (u : Value) (n c : Nat) : Sep u (.slice none n c) := fun k _ e => by simp [Value.ownBlock] at e
theorem apart_nil (u : Value) (n c : Nat) : Apart u (.slice none n c) := fun a m k _ _ e => by simp [Value.ownBlock] at e
theorem sep_at {w : World} {base n : Nat} {u v v' : Value} {xs : List Value} (h : Sep u v) (hu : w.ownsRow base 5 1 u n xs) (hat : v'.ownBlock = v.ownBlock ∨ v'.ownBlock = some w.heap.size) : Sep u v' := fun k hk e => by
  rcases hat with ha | ha
  · exact h k hk (ha.symm.trans e)
  · rw [ha] at e
    injection e with e
    have := (hu.lt k hk).2
    omega
set_option maxHeartbeats 8000000 in
set_option maxRecDepth 100000 in
theorem refEncode_any (d b : List Nat) (v u : Value) (w : World) (hv : Byt w v d) (hn : NilOk v) (hu : Byt w u b) (hun : NilOk u) (hd : d.length ≤ 1000000000) (hl : b.length ≤ 1000000000) :
    Calls Try.prog 15 #[v, u] w (MadeO w (en (d ++ b) b.length d.length [])) := by
  obtain ⟨A, c, rfl⟩ := byt_form hv
  obtain ⟨B, c', rfl⟩ := byt_form hu
  have H8X := hid (hv.1.append hu.1)
  have HV := hid hv
  have HN := hid hn
  have HU := hid hu
  have HUN := hid hun
  obtain ⟨T, hT⟩ : ∃ T, en (d ++ b) b.length d.length [] = T := ⟨_, rfl⟩
  have HT := hid hT
  rw [hT]
  clear hv hn hu hun hT
  go_enter Try.func15, Try.ntmps15
  go_wp2_with (first | (at_builtin; refine append_byt rfl (.tmp 11) (.tmp 12) rfl w.heap.size _ 0 [] rfl (own_empty w) d _ rfl (HV.out.below (al1 _ _)) HN.out (by omega) (by simp) ?_; intro v1 w1 hown1 hg1; have HB1 := hid (below_own (al1 w _) (own_empty w) hg1 (by simp) (Nat.le_refl _)); have HO1 : Hid (w1.ownsRow w.heap.size 5 1 v1 d.length (d.map byteV)) := hid (by have h := hown1; simpa using h); have hz1 := HB1.out.size; clear hown1 hg1) | (at_builtin; refine append_byt rfl (.tmp 13) (.tmp 14) rfl w.heap.size v1 d.length _ rfl HO1.out b _ rfl (HU.out.below HB1.out) HUN.out (by omega) hz1 ?_; intro v2 w2 hown2 hg2; have HB2 := hid (HB1.out.grown hg2 hz1 (fun q e => (HO1.out.lt q e).1)); have HO2 := hid hown2; clear hown2 hg2))
  obtain ⟨xA, xc, rfl⟩ := own_form HO2.out
  have hXl : (d ++ b).length = d.length + b.length := List.length_append
  obtain ⟨X, hX⟩ : ∃ X, d ++ b = X := ⟨_, rfl⟩
  have HX2 : Hid (Byt w2 (.slice xA (d.length + b.length) xc) X) := hid (by rw [← hX]; exact byt_of_own (by have h := HO2.out; rwa [← List.map_append] at h) H8X.out)
  rw [hX] at hXl HT H8X
  obtain ⟨XL, hXL⟩ : ∃ XL, d.length + b.length = XL := ⟨_, rfl⟩
  have hXLb : XL ≤ 2000000000 := by omega
  rw [hXL] at HX2 hXl ⊢
  have HXL := hid hXl
  obtain ⟨dl, hdl⟩ : ∃ dl, d.length = dl := ⟨_, rfl⟩
  obtain ⟨bl, hbl⟩ : ∃ bl, b.length = bl := ⟨_, rfl⟩
  rw [hdl, hbl] at HT hXL
  rw [hdl, hbl]
  have HN1 : Hid (w2.ownsRow w.heap.size 5 1 (.slice none 0 0) ([] : List Nat).length (([] : List Nat).map byteV)) := hid (World.ownsRow_nil _ _ _ _)
  have HT0 : Hid ([] ++ en X bl dl [] = T) := hid (by rw [List.nil_append]; exact HT.out)
  have HSP := hid (sep_nil (.slice none 0 0) 0 0)
  have HAN := hid (apart_nil (.slice xA XL xc) 0 0)
  have H80 : Hid (B8 []) := hid (fun x h => by cases h)
  clear hX hXl HO2 HO1 HB1 HV HN HU HUN hdl hbl hd hl
  go_loopw [6, 7, 8] (fun vo vl i wr => ∃ (f a : Nat) (o l : List Nat), i = .int .i64 (a : Int) ∧ XL ≤ a + f ∧ a ≤ XL + 131 ∧ o.length + 2 * l.length ≤ 9 * a ∧ Hid (o ++ en X f a l = T) ∧ Hid (wr.ownsRow w.heap.size 5 1 vo o.length (o.map byteV)) ∧ Hid (wr.ownsRow w.heap.size 5 1 vl l.length (l.map byteV)) ∧ Hid (Byt wr (.slice xA XL xc) X) ∧ Hid (Apart (.slice xA XL xc) vo) ∧ Hid (Apart (.slice xA XL xc) vl) ∧ Hid (Sep vo vl) ∧ Hid (B8 o) ∧ Hid (B8 l) ∧ Hid (Below w.heap.size w wr)) (fun _ _ i _ => XL + 131 - (Go.RowKit.intOf i).toNat)
  case atStart => exact ⟨bl, dl, [], [], rfl, by omega, by omega, by simp, HT0, HN1, HN1, HX2, HAN, HAN, HSP, H80, H80, HB2⟩
  case round =>
    clear HN1 HT0 HSP HAN H80 HB2 HX2
    obtain ⟨f, a, o, l, rfl, hf, ha, hb, HE, HO, HLW, HX, HAO, HAL, HSP, H8O, H8L, HB⟩ := hrel
    have hz := HB.out.size
    obtain ⟨oA, oc, rfl⟩ := own_form HO.out
    obtain ⟨lA, lc, rfl⟩ := own_form HLW.out
    have HBL := hid (byt_of_own HLW.out H8L.out)
    have HNL := hid (own_nilOk HLW.out)
    have HALO := hid (sep_apart HSP.out)
    by_cases hax : a < XL
    · obtain ⟨f, rfl⟩ : ∃ f', f = f' + 1 := ⟨f - 1, by omega⟩
      have HBS := hid (refBest_any X a _ wr HX.out (by rw [HXL.out]; omega) (by omega))
      obtain ⟨D, N, hDN⟩ : ∃ D N, bst X a (min 4096 a) = (D, N) := ⟨_, _, rfl⟩
      obtain ⟨k1, k2, k3⟩ := bst_ok X a (min 4096 a)
      have HS : Hid (en X (f + 1) a l = if N = 0 then en X f (a + 1) (l ++ [X.getD a 0]) else lt l.length l ++ ([124 + N] ++ (enc D ++ en X f (a + N) []))) := hid (by rw [en, if_pos (by rw [HXL.out]; exact hax), hDN])
      rw [hDN] at k1 k2 k3 HBS
      dsimp only at k1 k2 k3
      clear hDN
      go_wp2_with fail
      refine HBS.out.mono ?_
      rintro e w3 ⟨rfl, q, rfl⟩
      have HQ : Below wr.heap.size wr (wr.drewN q) := ⟨rfl, rfl, rfl, Nat.le_refl _, fun _ _ => rfl⟩
      have HO' := hid (own_keep HO.out (keep_below HQ))
      have HLW' := hid (own_keep HLW.out (keep_below HQ))
      have HX' := hid (HX.out.below HQ)
      have HBL' := hid (HBL.out.below HQ)
      have HB' := hid (HB.out.trans (HQ.mono hz))
      have hz' : w.heap.size ≤ (wr.drewN q).heap.size := hz
      obtain ⟨W, hW⟩ : ∃ W, wr.drewN q = W := ⟨_, rfl⟩
      rw [hW] at HO' HLW' HX' HBL' HB' hz' ⊢
      clear HO HLW HX HBL HB HQ hW HBS
      obtain ⟨ol, hol⟩ : ∃ ol, o.length = ol := ⟨_, rfl⟩
      obtain ⟨ll, hll⟩ : ∃ ll, l.length = ll := ⟨_, rfl⟩
      have HOL := hid hol
      have HLL := hid hll
      rw [hol, hll] at hb
      rw [hol] at HO' HAO HSP HALO
      rw [hll] at HLW' HBL' HNL HAL HSP HALO
      rw [hol, hll]
      by_cases hN0 : N = 0
      · have HE2 : Hid (o ++ en X f (a + 1) (l ++ [X.getD a 0]) = T) := hid (by rw [← HE.out, HS.out, if_pos hN0])
        have e0 : ((N : Int) == 0) = true := by simp; omega
        obtain ⟨z, hzz⟩ : ∃ z, X.getD a 0 = z := ⟨_, rfl⟩
        have hz8 : z < 256 := by rw [← hzz]; exact getD_b8 H8X.out a
        rw [hzz] at HE2
        obtain ⟨xb, xo, rfl, hcx⟩ : ∃ xb xo, xA = some ⟨xb, xo, none⟩ ∧ W.cell? ⟨xb, xo + a, none⟩ = some (.int .u8 (z : Int)) := by
          obtain ⟨_, A', c'', e1, h1, h2, xb, xo, hA, hc⟩ := HX'.out
          injection e1 with e1 _ _
          obtain ⟨hA1, hlt⟩ := hA (by rw [HXL.out]; omega)
          rw [hA1] at e1
          refine ⟨xb, xo, e1, hc a z ?_⟩
          rw [← hzz, List.getD_eq_getElem?_getD, List.getElem?_eq_getElem (by rw [HXL.out]; exact hax)]
          rfl
        have HLA := hid (own_keep HLW'.out (keep_below (al1 W (.cells #[.int .u8 (z : Int)] 5))))
        have HOA := hid (own_keep HO'.out (keep_below (al1 W (.cells #[.int .u8 (z : Int)] 5))))
        have HXA := hid (HX'.out.below (al1 W (.cells #[.int .u8 (z : Int)] 5)))
        have HBA := hid (HB'.out.alloc hz' (.cells #[.int .u8 (z : Int)] 5))
        have HZ1 := hid (byt_one W z hz8)
        clear hzz HE HS HO' HLW' HX' HBL' HB' hN0 k1 k2 k3
        go_wp2_with (at_builtin; refine append_byt_at rfl (.tmp 30) (.tmp 35) rfl w.heap.size (.slice lA ll lc) ll _ rfl HLA.out [z] _ rfl HZ1.out (nilOk_some _ _ _) (by simp; omega) (by simp; omega) ?_; intro v4 w4 ho4 hg4 hat4; have HXL4 := hid (apart_at HXA.out HAL.out hat4); have HX4 := hid (byt_grown HXA.out hg4 HAL.out); have HO4 := hid (HOA.out.kept hg4 (by rcases hob : (Value.slice oA ol oc).ownBlock with _ | k; exact .inl rfl; exact .inr (fun e => HSP.out k hob e.symm))); have HS4 := hid (sep_at HSP.out HOA.out hat4); have HB4 := hid (HBA.out.grown hg4 (by simp; omega) (fun q e => (HLA.out.lt q e).1)); obtain ⟨lA4, lc4, rfl⟩ := own_form ho4; have HL4 := hid ho4; clear ho4 hg4 hat4)
        have hlen : (l ++ [z]).length = ll + 1 := by rw [List.length_append, HLL.out]; rfl
        have HLN := hid hlen
        have HL5 : Hid (w4.ownsRow w.heap.size 5 1 (.slice lA4 (ll + [z].length) lc4) (l ++ [z]).length ((l ++ [z]).map byteV)) := hid (by rw [hlen, List.map_append]; exact HL4.out)
        have HO5 : Hid (w4.ownsRow w.heap.size 5 1 (.slice oA ol oc) o.length (o.map byteV)) := hid (by rw [HOL.out]; exact HO4.out)
        have H85 := hid (B8.append H8L.out (show B8 [z] from fun x hx => by rw [List.mem_singleton] at hx; omega))
        clear hlen HL4 HO4 hol hll
        go_wp2
        go_roundw
        case rel => exact ⟨f, a + 1, o, l ++ [z], by go_num, by omega, by omega, by rw [HLN.out, HOL.out]; omega, HE2, HO5, HL5, HX4, HAO, HXL4, HS4, H8O, H85, HB4⟩
        case measure => simp [Go.RowKit.intOf]; omega
      · have hN4 : 4 ≤ N := by omega
        have e0 : ((N : Int) == 0) = false := by rw [beq_eq_false_iff_ne]; omega
        obtain ⟨z, hzz⟩ : ∃ z, 124 + N = z := ⟨_, rfl⟩
        have HE2 : Hid (((o ++ lt ll l) ++ [z] ++ enc D) ++ en X f (a + N) [] = T) := hid (by rw [← HE.out, HS.out, if_neg hN0, ← hzz, HLL.out]; simp only [List.append_assoc])
        have hwa : IntKind.i64.wrap ((128 : Int) + (N : Int)) = (128 : Int) + (N : Int) := by rw [IntKind.wrap_i64]; omega
        have hwc : IntKind.u8.wrap (z : Int) = (z : Int) := by rw [IntKind.wrap_u8]; omega
        have hwz : (128 : Int) + (N : Int) - 4 = (z : Int) := by omega
        have hwu : IntKind.u8.wrap ((128 : Int) + (N : Int) - 4) = (z : Int) := by rw [hwz, hwc]
        have hz8 : z < 256 := by omega
        have HC := hid (refLits_any o l _ _ w.heap.size W (by rw [HOL.out]; exact HO'.out) HBL'.out HNL.out HALO.out hz' (by rw [HOL.out]; omega) (by rw [HLL.out]; omega))
        rw [HLL.out] at HC
        have hlt : (lt ll l).length ≤ 2 * ll := by have := lt_len ll l; rw [HLL.out] at this; exact this
        have H8T := hid (B8.append H8O.out (lt_b8 ll l H8L.out))
        have hDt : D ≤ 4096 := by omega
        have HE8 := hid (enc_le8 (n := D) (by unfold top; omega))
        have HCL := hid (show cl (D : Int) = D by rw [cl_in (by omega) (by omega)]; rfl)
        clear HE HS hN0 hzz hwz
        go_wp2_with fail
        refine HC.out.mono ?_
        rintro e w5 ⟨v5, rfl, ho5, hc5⟩
        have hlen5 : (o ++ lt ll l).length = ol + (lt ll l).length := by rw [List.length_append, HOL.out]
        obtain ⟨tl, htl⟩ : ∃ tl, (lt ll l).length = tl := ⟨_, rfl⟩
        rw [htl] at hlen5 hlt
        rw [hlen5] at ho5
        have HLN5 := hid hlen5
        have HX5 := hid (byt_chg HX'.out hc5 HAO.out)
        have HAX5 := hid (apart_chg HX'.out hc5 HAO.out)
        have HB5 := hid (HB'.out.trans (below_chg hc5 HO'.out hz'))
        obtain ⟨oA5, oc5, rfl⟩ := own_form ho5
        have HO5 := hid ho5
        have hz5 := HB5.out.size
        clear ho5 hc5 hlen5 htl HC HO' HLW' HX' HBL' HB' HALO HSP
        go_wp2_with (at_builtin; refine append_byt_at rfl (.tmp 42) (.tmp 47) rfl w.heap.size (.slice oA5 (ol + tl) oc5) (ol + tl) _ rfl (HO5.out.alloc _) [z] _ rfl (byt_one_at w5 z _ (by first | rfl | exact hwu) hz8) (nilOk_some _ _ _) (by simp; omega) (by simp; omega) ?_; intro v6 w6 ho6 hg6 hat6; have HA6 := hid (apart_at (HX5.out.below (al1 w5 _)) HAX5.out hat6); have HX6 := hid (byt_grown (HX5.out.below (al1 w5 _)) hg6 HAX5.out); have HB6 := hid ((HB5.out.alloc hz5 _).grown hg6 (by simp; omega) (fun q e => (HO5.out.lt q e).1)); obtain ⟨oA6, oc6, rfl⟩ := own_form ho6; have HO6 := hid ho6; clear ho6 hg6 hat6)
        have H86 := hid (B8.append H8T.out (show B8 [z] from fun x hx => by rw [List.mem_singleton] at hx; omega))
        have HO6' : Hid (w6.ownsRow w.heap.size 5 1 (.slice oA6 (ol + tl + 1) oc6) (ol + tl + 1) ((o ++ lt ll l ++ [z]).map byteV)) := hid (by rw [List.map_append]; exact HO6.out)
        have hlen6 : (o ++ lt ll l ++ [z]).length = ol + tl + 1 := by rw [List.length_append, HLN5.out]; rfl
        refine (rput_own (D : Int) (o ++ lt ll l ++ [z]) _ w6 (byt_of_own HO6'.out H86.out) (own_nilOk HO6'.out) (by rw [hlen6]; omega)).mono ?_
        rintro e w7 ⟨v7, rfl, ho7, hb7⟩
        rw [HCL.out] at ho7
        obtain ⟨m7, hm7⟩ : ∃ m7, (o ++ lt ll l ++ [z] ++ enc D).length = m7 := ⟨_, rfl⟩
        rw [hm7] at ho7
        obtain ⟨A7, k7, rfl⟩ := own_form ho7
        have hz6 := HB6.out.size
        have HX7 := hid (HX6.out.below hb7)
        have HA7 := hid (apart_old HX6.out ho7 (Nat.le_refl _))
        have HB7 := hid (HB6.out.trans (hb7.mono hz6))
        have HO7 : Hid (w7.ownsRow w.heap.size 5 1 (.slice A7 m7 k7) (o ++ lt ll l ++ [z] ++ enc D).length ((o ++ lt ll l ++ [z] ++ enc D).map byteV)) := hid (by rw [hm7]; exact own_down ho7 hz6)
        have hlen7 : (o ++ lt ll l ++ [z] ++ enc D).length = ol + tl + 1 + (enc D).length := by rw [List.length_append, hlen6]
        have HL7 := hid hlen7
        have HN7 : Hid (w7.ownsRow w.heap.size 5 1 (.slice none 0 0) ([] : List Nat).length (([] : List Nat).map byteV)) := hid (World.ownsRow_nil _ _ _ _)
        have HSP7 := hid (sep_nil (.slice A7 m7 k7) 0 0)
        have HAN7 := hid (apart_nil (.slice xA XL xc) 0 0)
        have H87 := hid (B8.append H86.out (enc_b8 D))
        have H80 : Hid (B8 []) := hid (fun x h => by cases h)
        clear ho7 hb7 hm7 hlen7 hlen6 HO6 HO6' HA6 HX6 HB6 HX5 HAX5 HB5 HO5 hwa hwc hwu
        go_wp2
        go_roundw
        case rel => exact ⟨f, a + N, o ++ lt ll l ++ [z] ++ enc D, [], by go_num, by omega, by omega, by rw [HL7.out]; have := HE8.out; simp; omega, HE2, HO7, HN7, HX7, HA7, HAN7, HSP7, H87, H80, HB7⟩
        case measure => simp [Go.RowKit.intOf]; omega
    · have HR : Hid (o ++ lt l.length l = T) := hid (by
        rw [← HE.out]
        rcases f with _ | f
        · rfl
        · rw [en, if_neg (by rw [HXL.out]; exact hax)])
      have HC := hid (refLits_any o l _ _ w.heap.size wr HO.out HBL.out HNL.out HALO.out hz (by omega) (by omega))
      rw [HR.out] at HC
      clear HE HR
      go_wp2_with fail
      refine HC.out.mono ?_
      rintro e w3 ⟨v3, rfl, ho3, hc3⟩
      have HB3 := hid (HB.out.trans (below_chg hc3 HO.out hz))
      have HO3 := hid ho3
      clear ho3 hc3
      go_wp2
      go_ret
      exact ⟨_, rfl, HO3.out, HB3.out⟩
end Go.Proofs.Ytldlddoealpomaa
