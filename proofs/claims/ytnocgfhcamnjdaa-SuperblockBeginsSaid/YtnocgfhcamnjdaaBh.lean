/- Superblock: small 20, begin 21. -/
import Derived.Test.YtnocgfhcamnjdaaBf
import Derived.Test.YtnocgfhcamnjdaaBg
namespace Go.Proofs.Ytnocgfhcamnjdaa
open Go.RowKit Go.Lib

/-- Steps as an argument. -/
def Steps (w : World) (v : Value) (l : List StT) : Prop := (∀ x ∈ l, StOk w x) ∧ Arr w v 3 (l.map cSt)
theorem Steps.below {w w' : World} {v : Value} {l : List StT} (h : Steps w v l) (hb : Below w.heap.size w w') : Steps w' v l := ⟨fun x hx => (h.1 x hx).below hb, h.2.below hb⟩
theorem steps_form {w : World} {v : Value} {l : List StT} (h : Steps w v l) : ∃ A c, v = .slice A l.length c := by
  obtain ⟨A, c, e⟩ := arr_form h.2
  rw [List.length_map] at e
  exact ⟨A, c, e⟩
theorem steps_at {w : World} {A : Option Addr} {n c : Nat} {l : List StT} (h : Steps w (.slice A n c) l) (hp : 0 < l.length) : ∃ b off, A = some ⟨b, off, none⟩ ∧ b < w.heap.size ∧ ∀ (k : Nat) (x : StT), l[k]? = some x → ∀ (j : Nat) (u : Value), (cSt x)[j]? = some u → w.cell? ⟨b, off + k * 3 + j, none⟩ = some u := by
  obtain ⟨b, off, hA, hb, hc⟩ := arr_at1 h.2 (by rw [List.length_map]; exact hp)
  exact ⟨b, off, hA, hb, fun k x hx j u hj => hc k _ (by rw [List.getElem?_map, hx]; rfl) j u hj⟩
def smallB (l : List StT) : Bool := decide ((∀ x ∈ l, Few1 x) ∧ l.length ≤ 12)
set_option maxHeartbeats 2000000 in
set_option maxRecDepth 100000 in
theorem small_any (l : List StT) (v : Value) (w : World) (hv : Steps w v l) :
    Calls Try.prog 20 #[v] w fun e w' => e = .returned (.bool (smallB l)) ∧ w' = w := by
  obtain ⟨A, c, rfl⟩ := steps_form hv
  have hcap := (arr_cap hv.2)
  obtain ⟨n, hn⟩ : ∃ n, l.length = n := ⟨_, rfl⟩
  have HB : Hid (smallB l = decide ((∀ x ∈ l, Few1 x) ∧ n ≤ 12)) := hid (by rw [← hn]; rfl)
  obtain ⟨bo, hbo⟩ : ∃ b, smallB l = b := ⟨_, rfl⟩
  rw [hbo] at HB ⊢
  have hcap63 : n ≤ 9223372036854775807 := by rw [← hn]; exact Nat.le_trans hcap.2.1 hcap.2.2
  rw [hn] at hv ⊢
  have HV := hid hv
  have HN := hid hn
  clear hv hn hbo hcap
  go_enter Try.func20, Try.ntmps20
  go_upto_region 2 with fail
  go_loopw [3] (fun iv wr => ∃ i : Nat, i ≤ n ∧ iv = .int .i64 (i : Int) ∧ Hid (∀ x ∈ l.take i, Few1 x) ∧ wr = w) (fun iv _ => n - (Go.RowKit.intOf iv).toNat)
  case atStart => exact ⟨0, Nat.zero_le _, rfl, hid (fun x hx => by rw [List.take_zero] at hx; cases hx), rfl⟩
  case round =>
    obtain ⟨i, hi, rfl, HA, rfl⟩ := hrel
    by_cases hin : i < n
    · have d0 : decide ((i : Int) < (n : Int)) = true := decide_eq_true (by omega)
      have hin' : (i : Int) < (n : Int) := by omega
      obtain ⟨b, off, rfl, _, hc⟩ := steps_at HV.out (by rw [HN.out]; omega)
      obtain ⟨x, hx⟩ : ∃ s, l[i]? = some s := ⟨l[i]'(by rw [HN.out]; exact hin), List.getElem?_eq_getElem _⟩
      have hok := HV.out.1 x (List.mem_of_getElem? hx)
      have HT : Hid (l.take (i + 1) = l.take i ++ [x]) := hid (take_succ'' hx)
      have HM : Hid (x ∈ l) := hid (List.mem_of_getElem? hx)
      have HFX : Hid (Few1 x ↔ x.q.length ≤ 31 ∧ x.ch.length ≤ 40) := hid Iff.rfl
      obtain ⟨PA, pc, hpv⟩ := byt_form hok.1
      obtain ⟨LA, lc, hcv⟩ := ints_form hok.2.2
      obtain ⟨pm, hpm⟩ : ∃ z, x.q.length = z := ⟨_, rfl⟩
      obtain ⟨lm, hlm⟩ : ∃ z, x.ch.length = z := ⟨_, rfl⟩
      rw [hpm, hlm] at HFX
      have k0 : wr.cell? ⟨b, off + i * 3, none⟩ = some (.slice PA pm pc) := (hc i x hx 0 _ rfl).trans (by rw [hpv, hpm])
      have k2 : wr.cell? ⟨b, off + i * 3 + 2, none⟩ = some (.slice LA lm lc) := (hc i x hx 2 _ rfl).trans (by rw [hcv, hlm])
      clear hc hx hok hpv hcv hpm hlm
      by_cases h1 : 31 < pm
      · have d1 : decide (31 < (pm : Int)) = true := decide_eq_true (by omega)
        have d1' : decide (31 < pm) = true := decide_eq_true h1
        obtain rfl : bo = false := by
          rw [HB.out]
          refine decide_eq_false (fun h => ?_)
          have := (HFX.out.1 (h.1 x HM.out)).1
          omega
        go_wp2_with fail
        go_ret
        exact ⟨rfl, rfl⟩
      have d1 : decide (31 < (pm : Int)) = false := decide_eq_false (by omega)
      have d1' : decide (31 < pm) = false := decide_eq_false h1
      by_cases h2 : 40 < lm
      · have d2 : decide (40 < (lm : Int)) = true := decide_eq_true (by omega)
        have d2' : decide (40 < lm) = true := decide_eq_true h2
        obtain rfl : bo = false := by
          rw [HB.out]
          refine decide_eq_false (fun h => ?_)
          have := (HFX.out.1 (h.1 x HM.out)).2
          omega
        go_wp2_with fail
        go_ret
        exact ⟨rfl, rfl⟩
      have d2 : decide (40 < (lm : Int)) = false := decide_eq_false (by omega)
      have d2' : decide (40 < lm) = false := decide_eq_false h2
      have HF : Hid (Few1 x) := hid (HFX.out.2 ⟨by omega, by omega⟩)
      go_wp2_with fail
      go_roundw
      case rel =>
        refine ⟨i + 1, by omega, by go_num, hid (fun y hy => ?_), trivial⟩
        rw [HT.out] at hy
        rcases List.mem_append.1 hy with hy | hy
        · exact HA.out y hy
        · rw [List.mem_singleton.1 hy]; exact HF.out
      case measure => simp [Go.RowKit.intOf]; omega
    · obtain rfl : n = i := by omega
      have d0 : decide ((n : Int) < (n : Int)) = false := decide_eq_false (by omega)
      have HAL : Hid (∀ x ∈ l, Few1 x) := hid (fun x hx => HA.out x (by rw [List.take_of_length_le (by rw [HN.out]; exact Nat.le_refl _)]; exact hx))
      by_cases h12 : n ≤ 12
      · have d1 : decide ((n : Int) ≤ 12) = true := decide_eq_true (by omega)
        obtain rfl : bo = true := by rw [HB.out]; exact decide_eq_true ⟨HAL.out, h12⟩
        go_wp2_with fail
        go_ret
        exact ⟨rfl, rfl⟩
      · have d1 : decide ((n : Int) ≤ 12) = false := decide_eq_false (by omega)
        obtain rfl : bo = false := by rw [HB.out]; exact decide_eq_false (fun h => h12 h.2)
        go_wp2_with fail
        go_ret
        exact ⟨rfl, rfl⟩
/-- What begin leaves. -/
structure Begun (C : List Sect) (p : List Nat) (st : List Sect) : Prop where
  len : st.length = C.length + 30
  secs : Secs st
  good : Good (supL st) 0 p 1
  grt : grt (supL st) ≤ 1
  out : ∀ j, ¬ (5 ≤ j ∧ j < 21) → st[j]? = (C ++ List.replicate 30 zs)[j]?
  zero : ∀ j, j < 8 → st[13 + j]? = some zs
theorem run_fmt {st : List Sect} {Z S : List Sect} (hl2 : st.length ≤ 4096) (hZ : 5 + Z.length ≤ st.length) (hS : 5 + S.length ≤ st.length) : runC st [] (repC 5 Z ++ repC 5 S) = (4, 0, newL (newL st (putL ((5 : Nat) : Int) Z)) (putL ((5 : Nat) : Int) S), []) := by
  unfold runC runS
  rw [if_pos (chk_nil hl2)]
  show exec st [] [mkO (0, ((5 : Nat) : Int), Z), mkO (1, 0, []), mkO (0, ((5 : Nat) : Int), S), mkO (1, 0, [])] 0 = _
  rw [exec_put rfl (insB_ok hZ), List.nil_append, exec_sync rfl, exec_put rfl (insB_ok (by rw [newL_len]; exact hS)), List.nil_append, exec_sync rfl]
  rfl
theorem zs_num : num4 zs = 0 := rfl
theorem begun {C : List Sect} {p : List Nat} (hC : Secs C) (hp : p.length ≤ 31) (hp8 : B8 p) : Begun C p (newL (newL (C ++ List.replicate 30 zs) (putL ((5 : Nat) : Int) (List.replicate 16 zs))) (putL ((5 : Nat) : Int) (secsN 1 8 (conL p)))) := by
  obtain ⟨S, hS⟩ : ∃ z, secsN 1 8 (conL p) = z := ⟨_, rfl⟩
  have hSS : Secs S := hS ▸ secsN_secs _ 8 _ (conL_b8 hp hp8) (by rw [conL_len hp])
  have hSl : S.length = 8 := by rw [← hS]; exact secsN_len _ 8 _
  have hl0 : (C ++ List.replicate 30 zs).length = C.length + 30 := by rw [List.length_append, List.length_replicate]
  have hs0 : Secs (C ++ List.replicate 30 zs) := fun s hs => (List.mem_append.1 hs).elim (hC s) (rep_secs 30 s)
  have h1 := left_new (b := 5) hs0 (rep_secs 16) (by rw [List.length_replicate, hl0]; omega) True
  obtain ⟨s1, hs1⟩ : ∃ z, newL (C ++ List.replicate 30 zs) (putL ((5 : Nat) : Int) (List.replicate 16 zs)) = z := ⟨_, rfl⟩
  rw [hs1] at h1
  have h2 := left_new (st := s1) (b := 5) h1.secs hSS (by rw [hSl, h1.len, hl0]; omega) True
  rw [hS, hs1]
  obtain ⟨s2, hs2⟩ : ∃ z, newL s1 (putL ((5 : Nat) : Int) S) = z := ⟨_, rfl⟩
  rw [hs2] at h2 ⊢
  have hlen : s2.length = C.length + 30 := by rw [h2.len, h1.len, hl0]
  have h1o := h1.out
  have h1a := h1.all trivial
  have h2o := h2.out
  have h2a := h2.all trivial
  rw [List.length_replicate] at h1o h1a
  rw [hSl] at h2o h2a
  have hz : ∀ j, j < 8 → s2[13 + j]? = some zs := fun j hj => by
    rw [h2o _ (by omega), show 13 + j = 5 + (8 + j) by omega, h1a _ (by omega), List.getElem?_replicate, if_pos (by omega)]
  have hln := supL_len (st := s2) (by omega)
  have hh0 : halfL (supL s2) 0 = S := List.ext_getElem? fun j => by
    rcases Nat.lt_or_ge j 8 with hj | hj
    · rw [half_sup (by omega) hj]
      exact h2a j hj
    · rw [List.getElem?_eq_none (by rw [half_len hln (by omega)]; exact hj), List.getElem?_eq_none (by omega)]
  have hh1 : ∀ s ∈ halfL (supL s2) 1, s = zs := fun s hs => by
    obtain ⟨j, hj⟩ := List.mem_iff_getElem?.1 hs
    have hj8 : j < 8 := by
      have := (List.getElem?_eq_some_iff.1 hj).1
      rw [half_len hln (by omega)] at this
      exact this
    rw [half_sup (by omega) hj8, show 5 + 8 * 1 + j = 13 + j by omega, hz j hj8] at hj
    injection hj with hj
    exact hj.symm
  refine ⟨hlen, h2.secs, ⟨hln, secs_mid h2.secs _ _, by omega, hp, hp8, by omega, by omega, hh0.trans hS.symm, fun _ => ?_⟩, grt_le (fun s hs => ?_), fun j hj => ?_, hz⟩
  · have hm : (halfL (supL s2) 1).getD 0 [] ∈ halfL (supL s2) 1 := by
      rw [List.getD_eq_getElem?_getD, List.getElem?_eq_getElem (by rw [half_len hln (by omega)]; decide)]
      exact List.getElem_mem _
    show num4 ((halfL (supL s2) 1).getD 0 []) < 1
    rw [hh1 _ hm, zs_num]
    decide
  · obtain ⟨j, hj⟩ := List.mem_iff_getElem?.1 hs
    have hj16 : j < 16 := by
      have := (List.getElem?_eq_some_iff.1 hj).1
      rw [hln] at this
      exact this
    rw [supL_get hj16] at hj
    by_cases h8 : j < 8
    · rw [h2a j h8, ← hS] at hj
      rw [secsN_num (by decide) 8 _ s (List.mem_of_getElem? hj)]
      exact Nat.le_refl _
    · rw [show 5 + j = 13 + (j - 8) by omega, hz _ (by omega)] at hj
      injection hj with hj
      rw [← hj, zs_num]
      decide
  · rw [h2o j (by omega), h1o j (by omega)]
set_option maxHeartbeats 4000000 in
set_option maxRecDepth 100000 in
theorem begin_any (C : List Sect) (v pv : Value) (p : List Nat) (w : World) (hv : Sec w v C) (hvn : NilOk v) (hp : Byt w pv p) (hC : C.length ≤ 30) (hpl : p.length ≤ 31) :
    Calls Try.prog 21 #[v, pv] w fun e w' => ∃ st A c B d, e = .returned (.tuple #[.agg #[.slice A st.length c, .slice B 0 d], .bool true]) ∧ OwnG w' w.heap.size st [] (.agg #[.slice A st.length c, .slice B 0 d]) ∧ Begun C p st ∧ Below w.heap.size w w' := by
  obtain ⟨A, c, rfl⟩ := sec_form hv
  obtain ⟨PA, pc, rfl⟩ := byt_form hp
  obtain ⟨n, hn⟩ : ∃ n, C.length = n := ⟨_, rfl⟩
  obtain ⟨pm, hpm⟩ : ∃ n, p.length = n := ⟨_, rfl⟩
  have hBG := begun hv.1 hpl hp.1
  have hRN := run_fmt (st := C ++ List.replicate 30 zs) (Z := List.replicate 16 zs) (S := secsN 1 8 (conL p)) (by rw [List.length_append, List.length_replicate]; omega) (by rw [List.length_append, List.length_replicate, List.length_replicate]; omega) (by rw [secsN_len, List.length_append, List.length_replicate]; omega)
  have hfE : fmtE 5 p = 0 := by unfold fmtE; rw [if_neg (by omega), if_neg (by omega)]
  have hfC : fmtC 5 p = repC 5 (List.replicate 16 zs) ++ repC 5 (secsN 1 8 (conL p)) := by unfold fmtC; rw [if_pos hfE]
  obtain ⟨st, hst⟩ : ∃ z, newL (newL (C ++ List.replicate 30 zs) (putL ((5 : Nat) : Int) (List.replicate 16 zs))) (putL ((5 : Nat) : Int) (secsN 1 8 (conL p))) = z := ⟨_, rfl⟩
  rw [hst] at hBG hRN
  have hstl : st.length = n + 30 := by rw [hBG.len, hn]
  obtain ⟨FC, hFC⟩ : ∃ z, repC 5 (List.replicate 16 zs) ++ repC 5 (secsN 1 8 (conL p)) = z := ⟨_, rfl⟩
  rw [hFC] at hRN hfC
  have hFl : FC.length = 4 := by rw [← hFC]; rfl
  have hFt : tot (FC.map mkO) = 24 := by
    rw [← hFC]
    show 16 + (0 + ((secsN 1 8 (conL p)).length + (0 + 0))) = 24
    rw [secsN_len]
  have hs0 : Secs (C ++ List.replicate 30 zs) := fun s hs => (List.mem_append.1 hs).elim (hv.1 s) (rep_secs 30 s)
  obtain ⟨g4, hg4⟩ : ∃ g, w.heap.size = g := ⟨_, rfl⟩
  obtain ⟨W1, hW1⟩ : ∃ X, w.alloc (.cells #[.slice none 0 0, .slice none 0 0] 35) = X := ⟨_, rfl⟩
  have hb1 : Below w.heap.size w W1 := by rw [← hW1]; exact al1 _ _
  have hx4 : W1.heap[g4]? = some (.cells #[.slice none 0 0, .slice none 0 0] 35) := by rw [← hW1, ← hg4]; exact heap_alloc_new _ _
  have HV := hid (hv.below (hb1))
  have HVN := hid hvn
  have HP := hid (hp.below hb1)
  rw [hn] at HV HVN
  rw [hpm] at HP
  have HN := hid hn
  have HPM := hid hpm
  have HC30 := hid hC
  have HBG := hid hBG
  have HRN0 := hid hRN
  have HFE := hid hfE
  have HFCe := hid hfC
  have HFL := hid hFl
  have HFT := hid hFt
  have HS0 := hid hs0
  have HSTL := hid hstl
  have HB1 := hid hb1
  have HX4 := hid hx4
  have HG4 : Hid (w.heap.size ≤ g4) := hid (Nat.le_of_eq hg4)
  have HW1 := hid hW1
  have HG4e := hid hg4
  rw [hn, hpm]
  clear hv hvn hp hC hpl hn hpm hBG hRN hfE hfC hst hstl hFC hFl hFt hs0 hg4 hW1 hb1 hx4
  go_enter Try.func21, Try.ntmps21
  go_upto_region 1 with fail
  rw [HW1.out, HG4e.out]
  have hwz : W1.heap.size ≤ (W1.alloc (.cells #[] 57)).heap.size := by simp
  go_upto_region 2 with (first
    | (at_builtin; refine wpl_append_z30 rfl (.tmp 13) (.const (.int .i64 30)) rfl W1.heap.size _ n _ rfl rfl (by have := HC30.out; have := HN.out; omega) HO1.out HBA.out.size ?_; intro v2 w2 ho2 hg2; obtain ⟨A2, c2, rfl⟩ := own_formE ho2; have HB2 := hid (below_ownE HBA.out HO1.out hg2 HBA.out.size (Nat.le_refl _)); have HO2 := hid ho2; clear ho2 hg2)
    | (at_builtin; refine append_sec rfl (.tmp 11) (.tmp 12) rfl W1.heap.size _ 0 [] rfl (own_empty73 W1) C _ rfl (HV.out.below (al1 _ _)) HVN.out (by have := HC30.out; omega) hwz ?_; intro v1 w1 ho1 hg1; rw [Nat.zero_add, HN.out, List.nil_append] at ho1; obtain ⟨A1, c1, rfl⟩ := own_formE ho1; have HBA := hid (below_ownE (al1 W1 _) (own_empty73 W1) hg1 hwz (Nat.le_refl _)); have HO1 := hid ho1; clear ho1 hg1))
  obtain ⟨W3, hW3⟩ : ∃ X, w2.alloc (.cells #[.slice A2 (n + 30) c2, .slice none 0 0] 35) = X := ⟨_, rfl⟩
  obtain ⟨g6, hg6⟩ : ∃ q, w2.heap.size = q := ⟨_, rfl⟩
  have hb23 : Below w2.heap.size w2 W3 := by rw [← hW3]; exact al1 _ _
  have hb13 : Below W1.heap.size W1 W3 := HB2.out.trans (hb23.mono HB2.out.size)
  have hx6 : W3.heap[g6]? = some (.cells #[.slice A2 (n + 30) c2, .slice none 0 0] 35) := by rw [← hW3, ← hg6]; exact heap_alloc_new _ _
  have hsec : Sec W3 (.slice A2 (n + 30) c2) (C ++ List.replicate 30 zs) := by
    have ho := own_keep HO2.out (keep_below hb23)
    have e : (C ++ List.replicate 30 zs).length = n + 30 := by rw [List.length_append, List.length_replicate, HN.out]
    refine sec_of_own (base := W1.heap.size) ?_ HS0.out
    rw [e, List.map_append, List.flatten_append]
    exact ho
  have HD3 : Hid (Dk W3 (.agg #[.slice A2 (n + 30) c2, .slice none 0 0]) (C ++ List.replicate 30 zs) []) := hid ⟨_, _, rfl, hsec, own_nilOkE HO2.out, (fun x hx => by cases hx), nilOk_nil, arr_nil _ _⟩
  have HX6 := hid hx6
  have HX4b := hid ((hb13.block _ (box_lt HX4.out)).trans HX4.out)
  have HPb := hid (HP.out.below hb13)
  have HBW3 := hid (HB1.out.trans (hb13.mono HB1.out.size))
  have HG6 : Hid (w.heap.size ≤ g6) := hid (by rw [← hg6]; exact (HB1.out.trans (HB2.out.mono HB1.out.size)).size)
  have hg46 : g4 ≠ g6 := by
    have h1 := box_lt HX4.out
    have h2 := HB2.out.size
    omega
  rw [hW3, hg6]
  clear hW3 hg6 hb23 hb13 hx6 hsec hwz
  have HFM := hid (made_at 4 (format_any 5 p _ W3 HPb.out ⟨by omega, by omega⟩) HFE.out HFCe.out HFL.out)
  go_upto_region 3 with (go_at_call 11; refine HFM.out.mono ?_; rintro e X4 ⟨O7, o7, l7, rfl, ho, _, hl7, hb4⟩; have HO := hid ho; have HLO := hid hl7; have HD4 := hid (HD3.out.below hb4); have hx6 := (hb4.block _ (box_lt HX6.out)).trans HX6.out; have y0 := cell_of_row _ _ 0 _ _ _ hx6; have y1 := cell_of_row _ _ 1 _ _ _ hx6; have HX6b := hid hx6; have HX4c := hid ((hb4.block _ (box_lt HX4b.out)).trans HX4b.out); have HB4 := hid (HBW3.out.trans (hb4.mono HBW3.out.size)); clear ho hl7 hb4 hx6)
  have HRN := hid (run_dk HD4.out HO.out HLO.out HRN0.out (by rw [HFT.out]; decide))
  rw [HSTL.out] at HRN
  clear HFM HX6 HX4b
  go_upto_region 4 with (go_at_call 25; refine HRN.out.mono ?_; rintro e X5 ⟨A8, c8, B8', d8, rfl, hg8, hb5⟩; have HG8 := hid hg8; have HB5 := hid (HB4.out.trans (hb5.mono HB4.out.size)); have hx6 := (hb5.block _ (box_lt HX6b.out)).trans HX6b.out; have HX6c := hid hx6; have HX4d := hid ((hb5.block _ (box_lt HX4c.out)).trans HX4c.out); have z0 := cell_of_row _ _ 0 _ _ _ hx6; have z1 := cell_of_row _ _ 1 _ _ _ hx6; have f0 := box_fr hx6 0; have f1 := box_fr hx6 1; clear hg8 hb5 hx6)
  clear y0 y1 z0 z1 f0 f1
  obtain ⟨W6, hW6⟩ : ∃ X, (X5.setCell ⟨g6, 0, none⟩ (.slice A8 (n + 30) c8)).setCell ⟨g6, 1, none⟩ (.slice B8' 0 d8) = X := ⟨_, rfl⟩
  have hx66 : W6.heap[g6]? = some (.cells #[.slice A8 (n + 30) c8, .slice B8' 0 d8] 35) := by rw [← hW6]; exact disk_set HX6c.out _ _
  have hx46 : W6.heap[g4]? = some (.cells #[.slice none 0 0, .slice none 0 0] 35) := by rw [← hW6, Below.heap_setCell _ _ _ _ hg46, Below.heap_setCell _ _ _ _ hg46]; exact HX4d.out
  have HX46 := hid hx46
  have HG6b : Hid (OwnG W6 X4.heap.size st [] (.agg #[.slice A8 (n + 30) c8, .slice B8' 0 d8])) := hid (by rw [← hW6]; exact HG8.out.keep (keep_two HX6c.out (by decide)) (keep_two HX6c.out (by decide)) (Nat.le_refl _))
  have HB6 : Hid (Below w.heap.size w W6) := hid (by rw [← hW6]; exact (HB5.out.setCell (p := ⟨g6, 0, none⟩) HG6.out _).setCell (p := ⟨g6, 1, none⟩) HG6.out _)
  have v0 := cell_of_row _ _ 0 _ _ _ hx66
  have v1 := cell_of_row _ _ 1 _ _ _ hx66
  have w0 := cell_of_row _ _ 0 _ _ _ hx46
  have w1' := cell_of_row _ _ 1 _ _ _ hx46
  have f0 := box_fr hx46 0
  have f1 := box_fr hx46 1
  have hg64 := hg46.symm
  rw [hW6]
  clear hW6 hx66 hx46
  go_wp2_with fail
  refine bodyPost_ret (results_v1 rfl _ _ g4 _ (by rfl) (disk_load (disk_set HX46.out _ _)) _ rfl) rfl ?_
  refine ⟨st, A8, c8, B8', d8, ?_, ?_, HBG.out, ?_⟩
  · rw [HSTL.out]
    rfl
  · rw [HSTL.out]
    exact HG6b.out.keep (keep_two HX46.out (by decide)) (keep_two HX46.out (by decide)) HB4.out.size
  · exact (HB6.out.setCell (p := ⟨g4, 0, none⟩) HG4.out _).setCell (p := ⟨g4, 1, none⟩) HG4.out _
end Go.Proofs.Ytnocgfhcamnjdaa
