/- Unsynced, the program's and the reference's. -/
import Derived.Test.YtoefbgkeinhibaaXI
import Derived.Test.YtoefbgkeinhibaaRc
namespace Go.Proofs.Ytoefbgkeinhibaa
open Go.RowKit Go.Lib

/-- Which sectors are cached. -/
def setU (n : Nat) (ca : List Ca) (x : Int) : Bool := decide (chkD n ca = 0) && !(G ca x).isEmpty
def ones1 (ks : List Int) : List (Int × Int) := ks.map fun x => (x, 1)
theorem mem_ones {ks : List Int} (h : ∀ k ∈ ks, 0 ≤ k ∧ k < 4096) (x : Int) : Xt.mem (ones1 ks) x = decide (x ∈ ks) := by
  rw [Bool.eq_iff_iff, decide_eq_true_iff]
  unfold Xt.mem ones1
  rw [List.any_map, List.any_eq_true]
  constructor
  · rintro ⟨k, hk, he⟩
    have he := Xt.inE_iff.1 he
    dsimp only at he
    obtain rfl : x = k := by omega
    exact hk
  · intro hx
    refine ⟨x, hx, Xt.inE_iff.2 ?_⟩
    have := h x hx
    dsimp only
    omega
theorem ca_key {n : Nat} {ca : List Ca} (h : chkC n ca = 0) {x : Int} (hx : G ca x ≠ []) : 0 ≤ x ∧ x < n := by
  induction ca with
  | nil => exact absurd rfl hx
  | cons c r ih =>
    unfold chkC at h
    split at h
    · exact absurd h (by decide)
    · rename_i hb
      have hb' : insB n c.1 1 = true := by simpa using hb
      obtain ⟨q1, q2, q3⟩ := of_decide_eq_true hb'
      by_cases hc : c.1 = x
      · omega
      · refine ih h (fun e => hx ?_)
        unfold G at e ⊢
        rw [List.filter_cons, if_neg (by simpa using hc)]
        exact e
theorem mem_keys {n : Nat} {ca : List Ca} (hn : n ≤ 4096) (h : chkC n ca = 0) (x : Int) : Xt.mem (ones1 (keysL n ca)) x = !(G ca x).isEmpty := by
  rw [mem_ones (fun k hk => by have := keysL_mem hk; omega), Bool.eq_iff_iff, decide_eq_true_iff]
  constructor
  · intro hx
    have := (keysL_mem hx).2.2
    simpa using this
  · intro hx
    have hg : G ca x ≠ [] := by simpa using hx
    obtain ⟨h0, h1⟩ := ca_key h hg
    exact keysL_has h0 h1 hg
def UnsQ (n : Nat) (ca : List Ca) (w : World) (e : Ending) (w' : World) : Prop := Xt.Made w (setU n ca) e w'
theorem unsQ_none {n : Nat} {ca : List Ca} (h : chkD n ca ≠ 0) {w w' : World} (hb : Below w.heap.size w w') : UnsQ n ca w (.returned (.slice none 0 0)) w' :=
  ⟨_, [], rfl, trivial, fun x => by unfold setU; rw [decide_eq_false h]; rfl, Xt.ext_nil _, hb⟩
set_option maxHeartbeats 4000000 in
set_option maxRecDepth 100000 in
theorem unsynced_any (st : List Sect) (ca : List Ca) (sv cv : Value) (w : World) (hs : Sec w sv st) (hc : Cas w cv ca) (hca : ca.length ≤ 500000) :
    Calls Try.prog 27 #[.agg #[sv, cv]] w (UnsQ st.length ca w) := by
  obtain ⟨i0, hi, hz0, hz1, hz2⟩ := info_parts Xt.info29
  obtain ⟨A, c, rfl⟩ := sec_form hs
  obtain ⟨B, d, rfl⟩ := cas_form hc
  obtain ⟨n, hn⟩ : ∃ n, st.length = n := ⟨_, rfl⟩
  obtain ⟨m, hm⟩ : ∃ n, ca.length = n := ⟨_, rfl⟩
  rw [hn] at hs ⊢
  rw [hm] at hc hca ⊢
  obtain ⟨g, hg⟩ : ∃ g, w.heap.size = g := ⟨_, rfl⟩
  obtain ⟨W1, hW1⟩ : ∃ X, w.alloc (.cells #[.slice A n c, .slice B m d] 25) = X := ⟨_, rfl⟩
  have hb1 : Below w.heap.size w W1 := by rw [← hW1]; exact al1 _ _
  have hx1 : W1.heap[g]? = some (.cells #[.slice A n c, .slice B m d] 25) := by rw [← hW1, ← hg]; exact heap_alloc_new _ _
  obtain ⟨k0, hk0⟩ : ∃ k, chkD n ca = k := ⟨_, rfl⟩
  have HCK := hid (show Calls Try.prog 22 #[.agg #[.slice A n c, .slice B m d]] W1 fun e w' => e = .returned (.int .i64 k0) ∧ Below W1.heap.size W1 w' from by
    have h := check_any st ca (.slice A n c) (.slice B m d) W1 (hs.below hb1) (hc.below hb1)
    rwa [hn, hk0] at h)
  have HC := hid (fun X (hX : Below W1.heap.size W1 X) => occurrences_any ca (.slice B m d) X (hc.below (hb1.trans (hX.mono hb1.size))) (by omega))
  have HX1 := hid hx1
  have HB1 := hid hb1
  have HW1 := hid hW1
  have HG := hid hg
  have HM := hid hm
  have HK0 := hid hk0
  have x0 := cell_of_row _ _ 0 _ _ _ hx1
  have x1 := cell_of_row _ _ 1 _ _ _ hx1
  clear hs hc hn hm hb1 hx1 hW1 hg hk0
  go_enter Try.func27, Try.ntmps27
  go_upto_region 1 with fail
  rw [HW1.out, HG.out]
  by_cases h0 : k0 = 0
  rotate_left
  · have dk : (k0 != 0) = true := by rw [bne_iff_ne]; exact h0
    have HNE := hid (show chkD n ca ≠ 0 by rw [HK0.out]; exact h0)
    go_wp2_with (go_at_call 22; refine HCK.out.mono ?_; rintro e X1 ⟨rfl, hb2⟩; have HB2 := hid hb2; clear hb2)
    go_ret
    exact unsQ_none HNE.out (below_both HB1.out HB2.out)
  subst h0
  have dk : ((0 : Int) != 0) = false := rfl
  obtain ⟨hn4, hkC⟩ := chkD_C HK0.out
  have HKC := hid hkC
  clear hkC
  go_upto_region 4 with (go_at_call 22; refine HCK.out.mono ?_; rintro e X1 ⟨rfl, hb2⟩; have HB2 := hid hb2; clear hb2)
  have z1 := cell_of_row _ _ 1 _ _ _ ((HB2.out.block _ (box_lt HX1.out)).trans HX1.out)
  clear x0 x1
  have HN4 := hid hn4
  have HCAM := hid hca
  go_upto_region 5 with (first
    | (go_at_call 48; refine (HC.out X1 HB2.out).mono ?_; rintro e X6 ⟨bm, rfl, hbm, hocc, hb7⟩; have HOCC := hid hocc; have HB7 := hid hb7; clear hbm hocc hb7)
    | (go_at_call 47; refine (sectors_any bm n ca X6 HOCC.out (by have := HM.out; have := HCAM.out; omega) HKC.out (by have := HN4.out; omega)).mono ?_; rintro e X7 ⟨kv, rfl, hkv, hb8⟩; obtain ⟨KA, kc, rfl⟩ := own_formE hkv; have HKV := hid hkv; have HB8 := hid hb8; clear hkv hb8))
  clear z1
  have HBX : Hid (Below w.heap.size w X7) := hid (below_both HB1.out (below_both HB2.out (below_both HB7.out HB8.out)))
  obtain ⟨ks, hks⟩ : ∃ ks, keysL n ca = ks := ⟨_, rfl⟩
  rw [hks] at HKV
  rw [hks]
  have HKS := hid hks
  have HKR := hid (show ∀ κ ∈ ks, 0 ≤ κ ∧ κ < n from fun κ hκ => by rw [← hks] at hκ; have := keysL_mem hκ; omega)
  have HKI : Hid (Ints X7 (.slice KA ks.length kc) ks) := hid (ints_of_own HKV.out (fun x hx => by have := HKR.out x hx; exact ⟨by omega, by omega⟩))
  obtain ⟨N, hN⟩ : ∃ N, ks.length = N := ⟨_, rfl⟩
  have hNM : N ≤ n := by rw [← hN, ← hks]; unfold keysL; rw [List.length_map]; exact Nat.le_trans (List.length_filter_le _ _) (by rw [List.length_range]; omega)
  rw [hN] at HKV HKI
  rw [hN]
  have HNK := hid hN
  clear hks hN
  obtain ⟨D, hD⟩ : ∃ D, X7.heap.size = D := ⟨_, rfl⟩
  have HD := hid hD
  clear hD
  go_loopw [3, 14] (fun lx iv wr => ∃ (q : Nat) (L : Value), q ≤ N ∧ iv = .int .i64 (q : Int) ∧ L = lx ∧ Hid (wr.ownsRow D 29 2 L q (Xt.xflat (ones1 (ks.take q)))) ∧ Hid (Below D X7 wr)) (fun _ i _ => N - (Go.RowKit.intOf i).toNat)
  case atStart => exact ⟨0, _, Nat.zero_le _, rfl, rfl, hid (World.ownsRow_nil _ _ _ _), hid (Below.refl _ _)⟩
  case round =>
    obtain ⟨q, L, hq, rfl, rfl, HO, HB⟩ := hrel
    have HBwr : Hid (Below X7.heap.size X7 wr) := hid (by rw [HD.out]; exact HB.out)
    by_cases hqn : q < N
    · have e1 : decide ((q : Int) < (N : Int)) = true := decide_eq_true (by omega)
      have hqn' : (q : Int) < (N : Int) := by omega
      obtain ⟨κ, hκ⟩ : ∃ κ, ks[q]? = some κ := ⟨ks[q]'(by rw [HNK.out]; exact hqn), List.getElem?_eq_getElem _⟩
      obtain ⟨kb, koff, rfl, hkb, hkc⟩ := ints_cells (HKI.out.below HBwr.out) (by rw [HNK.out]; omega)
      have k0 := hkc q κ hκ
      have HTK := hid (show ks.take (q + 1) = ks.take q ++ [κ] from by rw [List.take_add_one, hκ]; rfl)
      have hown := HO.out
      have hb29 := fun (s : Int) X => Xt.build29 s 1 X
      have hDw : D ≤ wr.heap.size := Nat.le_trans (Nat.le_of_eq HD.out.symm) HBwr.out.size
      clear hκ hkc
      go_wp2_with (at_builtin; refine wpList_append_own _ rfl _ _ 52 rfl D 29 i0 (.agg #[.int .i64 0, .int .i64 0]) 2 16 Try.underlying52 hi hz0 hz1 hz2 rfl (by decide) _ _ _ rfl (hown.alloc _) ⟨wr.heap.size, 0, none⟩ 1 1 _ rfl (Xt.xflat_length [(κ, 1)]) (Xt.cells_new wr 29 _) (Xt.one_cells _ _) (by unfold maxLen; omega) (by omega) (by simp; omega) ?_)
      intro v' w2 hown2 hgrow _
      have hB2 : Below D X7 w2 := (HB.out.alloc hDw _).grown hgrow (by simp; omega) (fun k hk => (hown.lt k hk).1)
      have HO2 := hid hown2
      have HBw2 := hid hB2
      clear hown2 hgrow hown hB2
      go_wp2_with fail
      go_roundw
      case rel =>
        refine ⟨q + 1, v', by omega, by go_num, rfl, hid ?_, HBw2⟩
        have h := HO2.out
        rw [HTK.out]
        unfold ones1 at h ⊢
        rw [List.map_append, Xt.xflat_append]
        exact h
      case measure => simp [Go.RowKit.intOf]; omega
    · obtain rfl : N = q := by omega
      have e1 : decide ((N : Int) < (N : Int)) = false := decide_eq_false (by omega)
      have HTA := hid (show ks.take N = ks from List.take_of_length_le (by rw [HNK.out]; exact Nat.le_refl _))
      rw [HTA.out] at HO
      have hol : (ones1 ks).length = N := by unfold ones1; rw [List.length_map, HNK.out]
      have hext : Xt.Ext wr L (ones1 ks) := Xt.ext_of_own (base := D) (by rw [hol]; exact HO.out) (fun e he => by
        unfold ones1 at he
        obtain ⟨κ, hκ, rfl⟩ := List.mem_map.1 he
        have := HKR.out κ hκ
        exact ⟨⟨by dsimp only; omega, by dsimp only; omega⟩, ⟨by dsimp only; omega, by dsimp only; omega⟩⟩)
      obtain ⟨LA, lc, rfl⟩ := ownAny_form HO.out
      have HUN := hid (Xt.union_any (ones1 ks) [] _ _ wr hext (Xt.ext_nil wr) (by rw [hol]; omega) (Nat.zero_le _))
      clear hext hol
      go_wp2_with (go_at_call 49; refine HUN.out.mono ?_; rintro e X9 ⟨v9, l9, rfl, hcan, hmem, hex, hb9⟩; have HR9 := hid (show Xt.Canon 0 l9 ∧ (∀ x, Xt.mem l9 x = (Xt.mem (ones1 ks) x || Xt.mem [] x)) ∧ Xt.Ext X9 v9 l9 ∧ Below wr.heap.size wr X9 from ⟨hcan, hmem, hex, hb9⟩); clear hcan hmem hex hb9)
      go_ret
      obtain ⟨r1, r2, r3, r4⟩ := HR9.out
      refine ⟨_, l9, rfl, r1, fun x => ?_, r3, below_both HBX.out (below_both HBwr.out r4)⟩
      rw [r2 x, Xt.mem_nil, Bool.or_false, ← HKS.out, mem_keys HN4.out HKC.out]
      unfold setU
      rw [HK0.out]
      rfl
end Go.Proofs.Ytoefbgkeinhibaa
