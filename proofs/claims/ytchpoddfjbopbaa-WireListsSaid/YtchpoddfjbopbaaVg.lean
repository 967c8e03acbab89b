/- The reference's PutSectors, PutExtents, PutWrites. -/
import Derived.Test.YtchpoddfjbopbaaVc
import Derived.Deep.RegionHeld3
namespace Go.Proofs.Ytchpoddfjbopbaa
open Go.RowKit Go.Lib

theorem eSome_leL {α : Type} (E : α → List Nat) (xs : List α) (k : Nat) : (eSome E xs k).length ≤ (eList E xs).length := eSome_le E xs k

set_option maxHeartbeats 4000000 in
set_option maxRecDepth 100000 in
theorem rputExts_any (xs : List (Int × Int)) (l : List Nat) (v u : Value) (w : World) (hv : Byt w v l) (hn : NilOk v) (hu : Arr w u 2 (xs.map cExt)) (hx : xs.length ≤ 4000) (hl : l.length + (eList eExtI xs).length ≤ 20000) :
    Calls Try.prog 23 #[v, u] w (MadeY w (l ++ eList eExtI xs)) := by
  have hp := rput_any (xs.length : Int) l v w hv hn (by omega)
  rw [cl_nat (by omega), ← eSome_zero eExtI xs] at hp
  have HP := hid hp
  have HR := hid (fun (n : Int) (m : List Nat) (v1 : Value) (w1 : World) (h1 : Byt w1 v1 m) (h2 : NilOk v1) (h3 : m.length ≤ 90000) => rput_any n m v1 w1 h1 h2 h3)
  have HL := hid (fun (k : Nat) => eSome_le eExtI xs k)
  have HS := hid (fun (k : Nat) (x : (Int × Int)) (h : xs[k]? = some x) => eSome_succ (E := eExtI) h)
  rw [← eSome_all eExtI xs] at hl ⊢
  rw [← eSome_all eExtI xs] at HL
  obtain ⟨F, hF⟩ : ∃ F, eSome eExtI xs = F := ⟨_, rfl⟩
  rw [hF] at HP HL HS hl ⊢
  obtain ⟨C, cc, rfl, hcap, hcm, b, off, hA, hc⟩ := hu
  unfold maxLen at hcm
  rw [List.length_map] at hcap hA ⊢
  have HC := hid hc
  have HLL := hid hl
  obtain ⟨A, ca, rfl⟩ := byt_form hv
  clear hv hn hc hF hp hl
  go_enter Try.func23, Try.ntmps23
  go_wp2_with (go_at_call 14; refine HP.out.mono ?_; rintro e w1 ⟨v1, rfl, hv1, hn1, hb1⟩; obtain ⟨a1, c1, hv1e⟩ := byt_form hv1; subst hv1e; have HV1 := hid hv1; have HN1 := hid hn1; have HB1 := hid hb1; clear hv1 hn1 hb1)
  go_loopw [5, 6] (fun v i wr => ∃ k : Nat, k ≤ xs.length ∧ i = .int .i64 (k : Int) ∧ Hid (Byt wr v (l ++ F k)) ∧ Hid (NilOk v) ∧ Hid (Below w.heap.size w wr)) (fun _ i _ => xs.length - (Go.RowKit.intOf i).toNat)
  case atStart => exact ⟨0, by omega, rfl, by simpa using HV1, by simpa using HN1, HB1⟩
  case round =>
    clear HV1 HN1 HB1
    obtain ⟨k, hk, rfl, HV, HN, HB⟩ := hrel
    by_cases hkl : k < xs.length
    · obtain ⟨hA1, hb⟩ := hA (by omega)
      subst hA1
      obtain ⟨x, hxk⟩ : ∃ x, xs[k]? = some x := ⟨xs[k], List.getElem?_eq_getElem hkl⟩
      have hrow : ∀ (j : Nat) (z : Value) (X : World), Below w.heap.size w X → (cExt x)[j]? = some z → X.cell? ⟨b, off + k * 2 + j, none⟩ = some z := fun j z X hX hz => (hX.cell (p := ⟨b, _, none⟩) hb).trans (HC.out k _ (by rw [List.getElem?_map, hxk]; rfl) j z hz)
      have hlen := HL.out (k + 1)
      have hlk : (l ++ F k).length ≤ 20000 := by rw [List.length_append]; have := HL.out k; have := HLL.out; omega
      have HE : Hid (l ++ F (k + 1) = (l ++ F k) ++ eExtI x) := hid (by rw [HS.out k x hxk, List.append_assoc])
      have hle : ((l ++ F k) ++ eExtI x).length ≤ 20000 := by rw [← HE.out, List.length_append]; have := HLL.out; omega
      obtain ⟨m, hm⟩ : ∃ m, l ++ F k = m := ⟨_, rfl⟩
      rw [hm] at HV HE hlk hle
      clear hm hlen
      obtain ⟨a2, c2, hve⟩ := byt_form HV.out
      subst hve
      obtain ⟨x0, x1⟩ := x
      have HY := hid (fun (X : World) (h : Below w.heap.size w X) => show X.cell? ⟨b, off + k * 2, none⟩ = some (.int .i64 x0) ∧ X.cell? ⟨b, off + k * 2 + 1, none⟩ = some (.int .i64 x1) from ⟨hrow 0 _ X h rfl, hrow 1 _ X h rfl⟩)
      rw [List.length_append] at hle
      have HE0 : Hid (l ++ F (k + 1) = (m ++ eNum x0) ++ eNum x1) := hid (by rw [HE.out]; unfold eExtI; rw [List.append_assoc])
      have hle0 := eNum_len x0
      have hle1 := eNum_len x1
      have HBd : Hid (Below w.heap.size w wr.drew) := hid (below_drew HB.out)
      have HVd : Hid (Byt wr.drew (.slice a2 m.length c2) m) := hid HV.out
      obtain ⟨q0, q1⟩ := HY.out _ HB.out
      clear hrow hxk HE
      go_wp2_with fail
      go_region_held3 (fun X => X.cell? ⟨b, off + k * 2, none⟩ = some (.int .i64 x0) ∧ X.cell? ⟨b, off + k * 2 + 1, none⟩ = some (.int .i64 x1)) (go_keep)
        (first
          | (go_at_call 14; refine (HR.out x0 m _ _ HVd.out HN.out (by omega)).mono ?_; rintro e w2 ⟨v2, rfl, hv2, hn2, hb2⟩; obtain ⟨a3, c3, hv2e⟩ := byt_form hv2; rw [List.length_append] at hv2e; subst hv2e; have HV2 := hid hv2; have HN2 := hid hn2; have HB2 := hid (below_both HBd.out hb2); clear q0 q1; obtain ⟨q0, q1⟩ := HY.out _ HB2.out; clear hv2 hn2 hb2 HVd)
          | (go_at_call 14; refine (HR.out x1 (m ++ eNum x0) _ _ HV2.out HN2.out (by rw [List.length_append]; omega)).mono ?_; rintro e w3 ⟨v3, rfl, hv3, hn3, hb3⟩; have HV3 : Hid (Byt w3 v3 (l ++ F (k + 1))) := hid (by rw [HE0.out]; exact hv3); have HN3 := hid hn3; have HB3 := hid (below_both HB2.out hb3); clear q0 q1; obtain ⟨q0, q1⟩ := HY.out _ HB3.out; clear hv3 hn3 hb3 HV2))
      clear HY
      go_wp2_with fail
      go_roundw
      case rel => exact ⟨k + 1, by omega, by go_num, HV3, HN3, HB3⟩
      case measure => simp [Go.RowKit.intOf]; omega
    · obtain rfl : k = xs.length := by omega
      obtain ⟨m, hm⟩ : ∃ m, l ++ F xs.length = m := ⟨_, rfl⟩
      rw [hm] at HV
      have HM := hid hm
      clear hm
      obtain ⟨a2, c2, hve⟩ := byt_form HV.out
      subst hve
      go_wp2
      go_ret
      exact ⟨_, rfl, by rw [HM.out]; exact HV.out, HN.out, HB.out⟩

set_option maxHeartbeats 4000000 in
set_option maxRecDepth 100000 in
theorem rputSecs_any (xs : List (List Nat)) (l : List Nat) (v u : Value) (w : World) (hv : Byt w v l) (hn : NilOk v) (hu : Sec w u xs) (hx : xs.length ≤ 4000) (hl : l.length + (eList eSec xs).length ≤ 20000) :
    Calls Try.prog 21 #[v, u] w (MadeO w (l ++ eList eSec xs)) := by
  have hp := rput_own (xs.length : Int) l v w hv hn (by omega)
  rw [cl_nat (by omega), ← eSome_zero eSec xs] at hp
  have HP := hid hp
  have HL := hid (fun (k : Nat) => eSome_le eSec xs k)
  have HS := hid (fun (k : Nat) (x : List Nat) (h : xs[k]? = some x) => eSome_succ (E := eSec) h)
  have HOK := hid hu.1
  rw [← eSome_all eSec xs] at hl ⊢
  rw [← eSome_all eSec xs] at HL
  obtain ⟨F, hF⟩ : ∃ F, eSome eSec xs = F := ⟨_, rfl⟩
  rw [hF] at HP HL HS hl ⊢
  obtain ⟨_, C, cc, rfl, hcap, hcm, b, off, hA, hc⟩ := hu
  unfold maxLen at hcm
  rw [List.length_map] at hcap hA ⊢
  have HC := hid hc
  have HLL := hid hl
  obtain ⟨A, ca, rfl⟩ := byt_form hv
  clear hv hn hc hF hp hl
  go_enter Try.func21, Try.ntmps21
  go_wp2_with (go_at_call 14; refine HP.out.mono ?_; rintro e w1 ⟨v1, rfl, hv1, hb1⟩; obtain ⟨a1, c1, hv1e⟩ := own_form hv1; rw [List.length_append] at hv1e; subst hv1e; have HV1 := hid hv1; have HB1 := hid hb1; clear hv1 hb1)
  go_loopw [5, 6, 7] (fun v i _ wr => ∃ k : Nat, k ≤ xs.length ∧ i = .int .i64 (k : Int) ∧ Hid (wr.ownsRow w.heap.size 5 1 v (l ++ F k).length ((l ++ F k).map byteV)) ∧ Hid (Below w.heap.size w wr)) (fun _ i _ _ => xs.length - (Go.RowKit.intOf i).toNat)
  case atStart => exact ⟨0, by omega, rfl, HV1, HB1⟩
  case round =>
    clear HV1 HB1
    obtain ⟨k, hk, rfl, HV, HB⟩ := hrel
    by_cases hkl : k < xs.length
    · obtain ⟨hA1, hb⟩ := hA (by omega)
      subst hA1
      obtain ⟨s, hxk⟩ : ∃ s, xs[k]? = some s := ⟨xs[k], List.getElem?_eq_getElem hkl⟩
      have hs8 := HOK.out s (List.mem_of_getElem? hxk)
      have hrow : ∀ (j z : Nat) (X : World), Below w.heap.size w X → s[j]? = some z → X.cell? ⟨b, off + k * 8 + j, none⟩ = some (.int .u8 (z : Int)) := fun j z X hX hz => (hX.cell (p := ⟨b, _, none⟩) hb).trans (HC.out k (cSec s) (by rw [List.getElem?_map, hxk]; rfl) j _ (by unfold cSec; rw [List.getElem?_map, hz]; rfl))
      have HROW := hid hrow
      have hlen := HL.out (k + 1)
      have HE : Hid (l ++ F (k + 1) = (l ++ F k) ++ s) := hid (by rw [HS.out k s hxk, List.append_assoc]; rfl)
      have hle : (l ++ F k).length + 8 ≤ 20000 := by
        have h := congrArg List.length HE.out
        simp only [List.length_append] at h ⊢
        have := HLL.out
        have := hs8.1
        omega
      obtain ⟨m, hm⟩ : ∃ m, l ++ F k = m := ⟨_, rfl⟩
      rw [hm] at HV HE hle
      have H8 := hid hs8
      clear hm hlen hrow hxk hs8
      obtain ⟨a2, c2, hve⟩ := own_form HV.out
      subst hve
      go_wp2
      go_loopw [5, 7] (fun v j wr => ∃ jn : Nat, jn ≤ 8 ∧ j = .int .i64 (jn : Int) ∧ Hid (wr.ownsRow w.heap.size 5 1 v (m.length + jn) ((m ++ s.take jn).map byteV)) ∧ Hid (Below w.heap.size w wr)) (fun _ j _ => 8 - (Go.RowKit.intOf j).toNat)
      case atStart => exact ⟨0, by omega, rfl, hid (by simpa using HV.out), HB⟩
      case round =>
        clear HV HB
        obtain ⟨jn, hj, rfl, HV, HB⟩ := hrel
        obtain ⟨a3, c3, hve⟩ := own_form HV.out
        subst hve
        by_cases hj8 : jn < 8
        · obtain ⟨z, hz⟩ : ∃ z, s[jn]? = some z := ⟨s[jn]'(by rw [H8.out.1]; exact hj8), List.getElem?_eq_getElem (by rw [H8.out.1]; exact hj8)⟩
          have hz8 := H8.out.2 z (List.mem_of_getElem? hz)
          have cz := HROW.out jn z wr HB.out hz
          have HT : Hid (s.take (jn + 1) = s.take jn ++ [z]) := hid (take_succ' hz)
          have hBs := HB.out.size
          clear hz
          go_wp2_with (at_builtin; refine append_byt rfl (.tmp 22) (.tmp 29) rfl w.heap.size (.slice a3 (m.length + jn) c3) (m.length + jn) _ rfl (HV.out.alloc _) [z] _ rfl (byt_one_at wr _ _ rfl (by omega)) (nilOk_some _ _ _) (by simp; omega) (by simp; omega) ?_; intro v4 w4 hown4 hg4; obtain ⟨a4, c4, rfl⟩ := own_form hown4; have HB4 := hid (below_own (HB.out.alloc hBs _) (HV.out.alloc _) hg4 (by simp; omega) (Nat.le_refl _)); have HV4 : Hid (w4.ownsRow w.heap.size 5 1 (.slice a4 (m.length + jn + [z].length) c4) (m.length + (jn + 1)) ((m ++ s.take (jn + 1)).map byteV)) := hid (by rw [HT.out, ← List.append_assoc, List.map_append]; exact hown4); clear hown4 hg4)
          go_roundw
          case rel => exact ⟨jn + 1, by omega, by go_num, HV4, HB4⟩
          case measure => simp [Go.RowKit.intOf]; omega
        · obtain rfl : jn = 8 := by omega
          have HV5 : Hid (wr.ownsRow w.heap.size 5 1 (.slice a3 (m.length + 8) c3) (l ++ F (k + 1)).length ((l ++ F (k + 1)).map byteV)) := hid (by
            have h := HV.out
            rw [List.take_of_length_le (by rw [H8.out.1]; omega)] at h
            rw [HE.out, List.length_append, H8.out.1]
            exact h)
          go_wp2
          go_roundw
          case rel => exact ⟨k + 1, by omega, by go_num, HV5, HB⟩
          case measure => simp [Go.RowKit.intOf]; omega
    · obtain rfl : k = xs.length := by omega
      obtain ⟨m, hm⟩ : ∃ m, l ++ F xs.length = m := ⟨_, rfl⟩
      rw [hm] at HV
      have HM := hid hm
      clear hm
      obtain ⟨a2, c2, hve⟩ := own_form HV.out
      subst hve
      go_wp2
      go_ret
      exact ⟨_, rfl, by rw [HM.out]; exact HV.out, HB.out⟩

set_option maxHeartbeats 4000000 in
set_option maxRecDepth 100000 in
theorem rputWris_any (xs : List Wri) (l : List Nat) (v u : Value) (w : World) (hv : Byt w v l) (hn : NilOk v) (hu : Arr w u 3 (xs.map cWri)) (hxs : ∀ x ∈ xs, Sec w x.d x.l ∧ x.l.length ≤ 4000) (hx : xs.length ≤ 4000) (hl : l.length + (eList eWri xs).length ≤ 20000) :
    Calls Try.prog 25 #[v, u] w (MadeY w (l ++ eList eWri xs)) := by
  have hp := rput_any (xs.length : Int) l v w hv hn (by omega)
  rw [cl_nat (by omega), ← eSome_zero eWri xs] at hp
  have HP := hid hp
  have HR := hid (fun (n : Int) (m : List Nat) (v1 : Value) (w1 : World) (h1 : Byt w1 v1 m) (h2 : NilOk v1) (h3 : m.length ≤ 90000) => rput_any n m v1 w1 h1 h2 h3)
  have HL := hid (fun (k : Nat) => eSome_le eWri xs k)
  have HS := hid (fun (k : Nat) (x : Wri) (h : xs[k]? = some x) => eSome_succ (E := eWri) h)
  have HXS := hid hxs
  clear hxs
  rw [← eSome_all eWri xs] at hl ⊢
  rw [← eSome_all eWri xs] at HL
  obtain ⟨F, hF⟩ : ∃ F, eSome eWri xs = F := ⟨_, rfl⟩
  rw [hF] at HP HL HS hl ⊢
  obtain ⟨C, cc, rfl, hcap, hcm, b, off, hA, hc⟩ := hu
  unfold maxLen at hcm
  rw [List.length_map] at hcap hA ⊢
  have HC := hid hc
  have HLL := hid hl
  obtain ⟨A, ca, rfl⟩ := byt_form hv
  clear hv hn hc hF hp hl
  go_enter Try.func25, Try.ntmps25
  go_wp2_with (go_at_call 14; refine HP.out.mono ?_; rintro e w1 ⟨v1, rfl, hv1, hn1, hb1⟩; obtain ⟨a1, c1, hv1e⟩ := byt_form hv1; subst hv1e; have HV1 := hid hv1; have HN1 := hid hn1; have HB1 := hid hb1; clear hv1 hn1 hb1)
  go_loopw [5, 6] (fun v i wr => ∃ k : Nat, k ≤ xs.length ∧ i = .int .i64 (k : Int) ∧ Hid (Byt wr v (l ++ F k)) ∧ Hid (NilOk v) ∧ Hid (Below w.heap.size w wr)) (fun _ i _ => xs.length - (Go.RowKit.intOf i).toNat)
  case atStart => exact ⟨0, by omega, rfl, by simpa using HV1, by simpa using HN1, HB1⟩
  case round =>
    clear HV1 HN1 HB1
    obtain ⟨k, hk, rfl, HV, HN, HB⟩ := hrel
    by_cases hkl : k < xs.length
    · obtain ⟨hA1, hb⟩ := hA (by omega)
      subst hA1
      obtain ⟨x, hxk⟩ : ∃ x, xs[k]? = some x := ⟨xs[k], List.getElem?_eq_getElem hkl⟩
      have hrow : ∀ (j : Nat) (z : Value) (X : World), Below w.heap.size w X → (cWri x)[j]? = some z → X.cell? ⟨b, off + k * 3 + j, none⟩ = some z := fun j z X hX hz => (hX.cell (p := ⟨b, _, none⟩) hb).trans (HC.out k _ (by rw [List.getElem?_map, hxk]; rfl) j z hz)
      have hlen := HL.out (k + 1)
      have hlk : (l ++ F k).length ≤ 20000 := by rw [List.length_append]; have := HL.out k; have := HLL.out; omega
      have HE : Hid (l ++ F (k + 1) = (l ++ F k) ++ eWri x) := hid (by rw [HS.out k x hxk, List.append_assoc])
      have hle : ((l ++ F k) ++ eWri x).length ≤ 20000 := by rw [← HE.out, List.length_append]; have := HLL.out; omega
      obtain ⟨m, hm⟩ : ∃ m, l ++ F k = m := ⟨_, rfl⟩
      rw [hm] at HV HE hlk hle
      clear hm hlen
      obtain ⟨a2, c2, hve⟩ := byt_form HV.out
      subst hve
      have hsx := HXS.out x (List.mem_of_getElem? hxk)
      obtain ⟨x0, x1, x2, x3⟩ := x
      dsimp only at hsx
      obtain ⟨A3, c33, hx2⟩ := sec_form hsx.1
      subst hx2
      have HSX := hid hsx
      have HY := hid (fun (X : World) (h : Below w.heap.size w X) => show X.cell? ⟨b, off + k * 3, none⟩ = some (.int .i64 x0) ∧ X.cell? ⟨b, off + k * 3 + 1, none⟩ = some (.int .i64 x1) ∧ X.cell? ⟨b, off + k * 3 + 2, none⟩ = some (.slice A3 x3.length c33) from ⟨hrow 0 _ X h rfl, hrow 1 _ X h rfl, hrow 2 _ X h rfl⟩)
      unfold eWri at hle
      dsimp only at hle
      rw [List.length_append, List.length_append, List.length_append] at hle
      have HE0 : Hid (l ++ F (k + 1) = ((m ++ eNum x0) ++ eNum x1) ++ eList eSec x3) := hid (by rw [HE.out]; unfold eWri; simp only [List.append_assoc])
      have hle0 := eNum_len x0
      have hle1 := eNum_len x1
      have HB8 : Hid (B8 (((m ++ eNum x0) ++ eNum x1) ++ eList eSec x3)) := hid (((HV.out.1.append (enc_b8 _)).append (enc_b8 _)).append (b8_list (fun s hs => (hsx.1.1 s hs).2)))
      have HBd : Hid (Below w.heap.size w wr.drew) := hid (below_drew HB.out)
      have HVd : Hid (Byt wr.drew (.slice a2 m.length c2) m) := hid HV.out
      obtain ⟨q0, q1, q2⟩ := HY.out _ HB.out
      clear hrow hxk HE hsx
      go_wp2_with fail
      go_region_held3 (fun X => X.cell? ⟨b, off + k * 3, none⟩ = some (.int .i64 x0) ∧ X.cell? ⟨b, off + k * 3 + 1, none⟩ = some (.int .i64 x1) ∧ X.cell? ⟨b, off + k * 3 + 2, none⟩ = some (.slice A3 x3.length c33)) (go_keep)
        (first
          | (go_at_call 14; refine (HR.out x0 m _ _ HVd.out HN.out (by omega)).mono ?_; rintro e w2 ⟨v2, rfl, hv2, hn2, hb2⟩; obtain ⟨a3, c3, hv2e⟩ := byt_form hv2; rw [List.length_append] at hv2e; subst hv2e; have HV2 := hid hv2; have HN2 := hid hn2; have HB2 := hid (below_both HBd.out hb2); clear q0 q1 q2; obtain ⟨q0, q1, q2⟩ := HY.out _ HB2.out; clear hv2 hn2 hb2 HVd)
          | (go_at_call 14; refine (HR.out x1 (m ++ eNum x0) _ _ HV2.out HN2.out (by rw [List.length_append]; omega)).mono ?_; rintro e w3 ⟨v3, rfl, hv3, hn3, hb3⟩; obtain ⟨a4, c4, hv3e⟩ := byt_form hv3; rw [List.length_append, List.length_append] at hv3e; subst hv3e; have HV3 := hid hv3; have HN3 := hid hn3; have HB3 := hid (below_both HB2.out hb3); clear q0 q1 q2; obtain ⟨q0, q1, q2⟩ := HY.out _ HB3.out; clear hv3 hn3 hb3 HV2)
          | (go_at_call 21; refine (rputSecs_any x3 ((m ++ eNum x0) ++ eNum x1) _ _ w3 HV3.out HN3.out (HSX.out.1.below HB3.out) HSX.out.2 (by rw [List.length_append, List.length_append]; omega)).mono ?_; rintro e w4 h4; obtain ⟨v4, rfl, hv4, hn4, hb4⟩ := h4.made HB8.out; have HV4 : Hid (Byt w4 v4 (l ++ F (k + 1))) := hid (by rw [HE0.out]; exact hv4); have HN4 := hid hn4; have HB4 := hid (below_both HB3.out hb4); clear q0 q1 q2; obtain ⟨q0, q1, q2⟩ := HY.out _ HB4.out; clear hv4 hn4 hb4 HV3 h4))
      clear HY
      go_wp2_with fail
      go_roundw
      case rel => exact ⟨k + 1, by omega, by go_num, HV4, HN4, HB4⟩
      case measure => simp [Go.RowKit.intOf]; omega
    · obtain rfl : k = xs.length := by omega
      obtain ⟨m, hm⟩ : ∃ m, l ++ F xs.length = m := ⟨_, rfl⟩
      rw [hm] at HV
      have HM := hid hm
      clear hm
      obtain ⟨a2, c2, hve⟩ := byt_form HV.out
      subst hve
      go_wp2
      go_ret
      exact ⟨_, rfl, by rw [HM.out]; exact HV.out, HN.out, HB.out⟩
end Go.Proofs.Ytchpoddfjbopbaa
