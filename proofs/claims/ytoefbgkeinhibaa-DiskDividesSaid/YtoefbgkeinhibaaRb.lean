/- The laws' crashed; FewOps; Same of equal disks. -/
import Derived.Test.YtoefbgkeinhibaaRa
namespace Go.Proofs.Ytoefbgkeinhibaa
open Go.RowKit Go.Lib

/-- What is stable behind a crash. -/
def CrdQ (w : World) (l : List Sect) (e : Ending) (w' : World) : Prop := ∃ v, e = .returned v ∧ w'.ownsRow w.heap.size 73 8 v l.length (l.map cSec).flatten ∧ Secs l ∧ Below w.heap.size w w'
set_option maxHeartbeats 4000000 in
set_option maxRecDepth 100000 in
theorem crashed_any (st : List Sect) (ca : List Ca) (sv cv lv : Value) (l : List Int) (w : World) (hs : Sec w sv st) (hsn : NilOk sv) (hc : Cas w cv ca) (hl : Ints w lv l) (hst : st.length ≤ 1000000) (hca : ca.length ≤ 500000) (hll : l.length ≤ 900000000000) :
    Calls Try.prog 41 #[.agg #[sv, cv], lv] w (CrdQ w (crashS st ca l).1) := by
  obtain ⟨A, c, rfl⟩ := sec_form hs
  obtain ⟨B, d, rfl⟩ := cas_form hc
  obtain ⟨LA, lc, rfl⟩ := ints_form hl
  obtain ⟨n, hn⟩ : ∃ n, st.length = n := ⟨_, rfl⟩
  obtain ⟨m, hm⟩ : ∃ n, ca.length = n := ⟨_, rfl⟩
  obtain ⟨M, hM⟩ : ∃ n, l.length = n := ⟨_, rfl⟩
  rw [hn] at hs hsn ⊢
  rw [hm] at hc ⊢
  rw [hM] at hl ⊢
  obtain ⟨g, hg⟩ : ∃ g, w.heap.size = g := ⟨_, rfl⟩
  obtain ⟨W1, hW1⟩ : ∃ X, w.alloc (.cells #[.slice A n c, .slice B m d] 25) = X := ⟨_, rfl⟩
  have hb1 : Below w.heap.size w W1 := by rw [← hW1]; exact al1 _ _
  have hx1 : W1.heap[g]? = some (.cells #[.slice A n c, .slice B m d] 25) := by rw [← hW1, ← hg]; exact heap_alloc_new w _
  obtain ⟨r, hr⟩ : ∃ r, crashS st ca l = r := ⟨_, rfl⟩
  have HC : Hid (Calls Try.prog 31 #[.agg #[.slice A n c, .slice B m d], .slice LA M lc] W1 (CrashQ W1 r)) := hid (by
    rw [← hr]
    exact crash_any st ca _ _ _ l W1 (hs.below hb1) hsn (hc.below hb1) (hl.below hb1) hst hca hll)
  rw [hr]
  have HB1 := hid hb1
  have HW1 := hid hW1
  have HG := hid hg
  have x0 := cell_of_row _ _ 0 _ _ _ hx1
  have x1 := cell_of_row _ _ 1 _ _ _ hx1
  clear hs hsn hc hl hn hm hM hb1 hx1 hW1 hg hr
  obtain ⟨rs, rc, rl⟩ := r
  go_enter Try.func41, Try.ntmps41
  go_upto_region 1 with fail
  rw [HW1.out, HG.out]
  go_upto_region 2 with (go_at_call 31; refine HC.out.mono ?_; rintro e X2 ⟨v2, u2, rfl, ⟨⟨sv2, cv2, rfl, h1, h2⟩, h3⟩, hu, hb⟩; dsimp only at h1 h2 h3 hu; obtain ⟨A2, c2, rfl⟩ := ownAny_form h1; obtain ⟨B2, d2, rfl⟩ := ownAny_form h2; obtain ⟨U2, uc2, rfl⟩ := own_formE hu; have H1 := hid h1; have H3 := hid h3; have HB := hid hb; clear h1 h2 h3 hu hb)
  obtain ⟨X3, hX3⟩ : ∃ X, X2.alloc (.cells #[.slice A2 rs.length c2, .slice B2 rc.length d2] 25) = X := ⟨_, rfl⟩
  obtain ⟨p, hp⟩ : ∃ p, X2.heap.size = p := ⟨_, rfl⟩
  have hb3 : Below X2.heap.size X2 X3 := by rw [← hX3]; exact al1 _ _
  have hx3 : X3.heap[p]? = some (.cells #[.slice A2 rs.length c2, .slice B2 rc.length d2] 25) := by rw [← hX3, ← hp]; exact heap_alloc_new _ _
  have q0 := cell_of_row _ _ 0 _ _ _ hx3
  have HB3 := hid hb3
  rw [hX3, hp]
  clear hX3 hp hx3 hb3 x0 x1
  go_wp2_with fail
  go_ret
  exact ⟨_, rfl, own_base (own_keep H1.out (keep_below HB3.out)) HB1.out.size, H3.out.1, HB1.out.trans ((HB.out.trans (HB3.out.mono HB.out.size)).mono HB1.out.size)⟩
theorem tot_snoc (l : List OpT) (x : OpT) : tot (l ++ [x]) = tot l + x.l.length := by
  induction l with
  | nil => simp [tot]
  | cons a r ih => rw [List.cons_append, tot, tot, ih]; omega
/-- Are operations few? -/
def fewO (l : List OpT) : Bool := decide (l.length ≤ 60 ∧ tot (l.take 100) ≤ 400)
theorem fewO_tot {l : List OpT} (h : fewO l = true) : l.length ≤ 60 ∧ tot l ≤ 400 := by
  obtain ⟨h1, h2⟩ := of_decide_eq_true h
  rw [List.take_of_length_le (by omega)] at h2
  exact ⟨h1, h2⟩
/-- No operation writes more than memory holds. -/
def BigO (l : List OpT) : Prop := ∀ x ∈ l, x.l.length ≤ 17592186044416
set_option maxHeartbeats 4000000 in
set_option maxRecDepth 100000 in
theorem fewOps_any (ops : List OpT) (ov : Value) (w : World) (ho : OpsA w ov ops) (hbig : BigO ops) :
    Calls Try.prog 12 #[ov] w fun e w' => e = .returned (.bool (fewO ops)) ∧ Below w.heap.size w w' := by
  obtain ⟨O, oc, rfl⟩ := ops_form ho
  obtain ⟨N, hN⟩ : ∃ n, ops.length = n := ⟨_, rfl⟩
  obtain ⟨r, hr⟩ : ∃ r, fewO ops = r := ⟨_, rfl⟩
  rw [hN] at ho ⊢
  rw [hr]
  have hNM : N ≤ 9223372036854775807 := by
    obtain ⟨_, h5, h6⟩ := arr_cap ho.2
    omega
  have HO := hid ho
  have HN := hid hN
  have HR := hid hr
  have HBG := hid hbig
  have hend : ∀ t : Nat, t = tot (ops.take 100) → ((decide (N ≤ 60) && decide (t ≤ 400)) = r) := fun t ht => by
    rw [← HR.out]
    unfold fewO
    rw [HN.out, ← ht]
    by_cases h1 : N ≤ 60 <;> by_cases h2 : t ≤ 400 <;> simp [h1, h2]
  have HEND := hid hend
  clear ho hN hr hbig hend
  go_enter Try.func12, Try.ntmps12
  go_upto_region 3 with fail
  go_loopw [3, 4] (fun s iv wr => ∃ q : Nat, q ≤ N ∧ q ≤ 100 ∧ iv = .int .i64 (q : Int) ∧ ∃ t : Nat, s = .int .i64 (t : Int) ∧ Hid (t = tot (ops.take q)) ∧ t ≤ q * 17592186044416 ∧ wr = w) (fun _ i _ => 100 - (Go.RowKit.intOf i).toNat)
  case atStart => exact ⟨0, Nat.zero_le _, by omega, rfl, 0, rfl, hid (by simp [tot]), by omega, rfl⟩
  case round =>
    obtain ⟨q, hq, hq2, rfl, t, rfl, HT, htb, rfl⟩ := hrel
    by_cases hqn : q < N
    · have d0 : decide ((q : Int) < (N : Int)) = true := decide_eq_true (by omega)
      have d0' : decide (q < N) = true := decide_eq_true hqn
      by_cases hq3 : q < 100
      · have d1 : decide ((q : Int) < 100) = true := decide_eq_true (by omega)
        have d1' : decide (q < 100) = true := decide_eq_true hq3
        have hqn' : (q : Int) < (N : Int) := by omega
        obtain ⟨b, off, rfl, hb, hcc⟩ := ops_at HO.out (by rw [HN.out]; omega)
        obtain ⟨x, hx⟩ : ∃ x, ops[q]? = some x := ⟨ops[q]'(by rw [HN.out]; exact hqn), List.getElem?_eq_getElem _⟩
        have HTK := hid (show ops.take (q + 1) = ops.take q ++ [x] from by rw [List.take_add_one, hx]; rfl)
        obtain ⟨hs0, _⟩ := HO.out.1 x (List.mem_of_getElem? hx)
        have hdl := HBG.out x (List.mem_of_getElem? hx)
        obtain ⟨k, a, dv, dl⟩ := x
        dsimp only at hs0 hdl
        obtain ⟨dA, dc, rfl⟩ := sec_form hs0
        obtain ⟨m, hm⟩ : ∃ m, dl.length = m := ⟨_, rfl⟩
        have c2 := hcc q _ hx 2 (.slice dA dl.length dc) rfl
        rw [hm] at c2 hdl
        have HM := hid hm
        clear hcc hx hs0 hm
        have hw : IntKind.i64.wrap ((t : Int) + (m : Int)) = (t : Int) + (m : Int) := by rw [IntKind.wrap_i64]; omega
        go_wp2_with fail
        go_roundw
        case rel => exact ⟨q + 1, by omega, by omega, by go_num, t + m, by go_num, hid (by rw [HTK.out, tot_snoc, HT.out, ← HM.out]), by omega, trivial⟩
        case measure => simp [Go.RowKit.intOf]; omega
      · obtain rfl : q = 100 := by omega
        have hN6 : decide (N ≤ 60) = false := decide_eq_false (by omega)
        have hN6' : decide ((N : Int) ≤ 60) = false := decide_eq_false (by omega)
        have hR2 := HEND.out t HT.out
        rw [hN6] at hR2
        obtain rfl : false = r := hR2
        have d1 : decide (((100 : Nat) : Int) < 100) = false := rfl
        have d2 : decide ((100 : Int) < 100) = false := rfl
        go_wp2_with fail
        go_ret
        exact ⟨rfl, Below.refl _ _⟩
    · obtain rfl : N = q := by omega
      have d0 : decide ((N : Int) < (N : Int)) = false := decide_eq_false (by omega)
      have d0' : decide (N < N) = false := decide_eq_false (by omega)
      have hR2 := HEND.out t (by rw [HT.out, ← HN.out, List.take_length, List.take_of_length_le (by rw [HN.out]; exact hq2)])
      by_cases h1 : N ≤ 60
      · have e1 : decide (N ≤ 60) = true := decide_eq_true h1
        have e1' : decide ((N : Int) ≤ 60) = true := decide_eq_true (by omega)
        obtain ⟨b4, hb4⟩ : ∃ b, decide (t ≤ 400) = b := ⟨_, rfl⟩
        have hb4' : decide ((t : Int) ≤ 400) = b4 := by rw [← hb4, decide_eq_decide]; omega
        rw [e1, hb4] at hR2
        have HR2 := hid hR2
        clear hR2
        go_wp2_with fail
        go_ret
        exact ⟨by rw [← HR2.out, Bool.true_and]; rfl, Below.refl _ _⟩
      · have e1 : decide (N ≤ 60) = false := decide_eq_false h1
        have e1' : decide ((N : Int) ≤ 60) = false := decide_eq_false (by omega)
        rw [e1, Bool.false_and] at hR2
        obtain rfl : false = r := hR2
        go_wp2_with fail
        go_ret
        exact ⟨rfl, Below.refl _ _⟩
theorem eql_bytes9 (l : List Nat) (hl : B8 l) (h1 : l.length = 8) (w : World) :
    (Op.equalIn 9999 73 (.agg (l.map byteV).toArray) (.agg (l.map byteV).toArray)).run Try.prog w = .ok true w := by
  have h := run_equalIn_bytes (P := Try.prog) w 9997 73 5 8 Try.underlying73 Try.underlying5 size5 (l.map UInt8.ofNat) (l.map UInt8.ofNat) (by rw [List.length_map]; exact h1) (by rw [List.length_map]; exact h1)
  rw [map_cells hl] at h
  simpa using h
theorem und77 : Try.prog.underlying 77 = some (.struct (Try.prog.fieldsOf 77)) := by kernel_rfl
set_option maxRecDepth 100000 in
theorem eql_ca_self (a : Int) (s0 s1 s2 s3 s4 s5 s6 s7 : Nat) (h8 : B8 [s0, s1, s2, s3, s4, s5, s6, s7]) (W : World) : (Op.equalIn 10000 77 (.agg #[.int .i64 a, .int .u8 (s0 : Int), .int .u8 (s1 : Int), .int .u8 (s2 : Int), .int .u8 (s3 : Int), .int .u8 (s4 : Int), .int .u8 (s5 : Int), .int .u8 (s6 : Int), .int .u8 (s7 : Int)]) (.agg #[.int .i64 a, .int .u8 (s0 : Int), .int .u8 (s1 : Int), .int .u8 (s2 : Int), .int .u8 (s3 : Int), .int .u8 (s4 : Int), .int .u8 (s5 : Int), .int .u8 (s6 : Int), .int .u8 (s7 : Int)])).run Try.prog W = .ok true W := by
  rw [run_equalIn_struct W 9999 77 _ _ und77 (by kernel_rfl)]
  have hf : (Try.prog.fieldsOf 77).toList = [{ name := "At", type := 3, offset := 0, embedded := false, tag := "", pkgPath := "", byteOffset := 0 }, { name := "Data", type := 73, offset := 1, embedded := false, tag := "", pkgPath := "", byteOffset := 8 }] := by kernel_rfl
  rw [hf]
  have h := eql_bytes9 [s0, s1, s2, s3, s4, s5, s6, s7] h8 rfl W
  simp only [List.map_cons, List.map_nil, byteV] at h
  simp [Op.eqFields, go_sem, h, Result.andThen]
set_option maxHeartbeats 4000000 in
set_option maxRecDepth 100000 in
theorem same_eq (st : List Sect) (ca : List Ca) (v u : Value) (w : World) (h1 : Dk w v st ca) (h2 : Dk w u st ca) (hca : ca.length ≤ 1000000) : Calls Try.prog 18 #[v, u] w (TrueQ w) := by
  obtain ⟨sv, cv, rfl, hs1, hn1, hc1⟩ := h1
  obtain ⟨su, cu, rfl, hs2, hn2, hc2⟩ := h2
  obtain ⟨A, c, rfl⟩ := sec_form hs1
  obtain ⟨B, d, rfl⟩ := cas_form hc1
  obtain ⟨A', c', rfl⟩ := sec_form hs2
  obtain ⟨B', d', rfl⟩ := cas_form hc2
  obtain ⟨n, hn⟩ : ∃ n, st.length = n := ⟨_, rfl⟩
  obtain ⟨m, hm⟩ : ∃ n, ca.length = n := ⟨_, rfl⟩
  rw [hn] at hs1 hs2 ⊢
  rw [hm] at hc1 hc2 hca ⊢
  obtain ⟨g, hg⟩ : ∃ g, w.heap.size = g := ⟨_, rfl⟩
  obtain ⟨W1, hW1⟩ : ∃ X, (w.alloc (.cells #[.slice A n c, .slice B m d] 25)).alloc (.cells #[.slice A' n c', .slice B' m d'] 25) = X := ⟨_, rfl⟩
  have hb1 : Below w.heap.size w W1 := by rw [← hW1]; exact ((Below.refl _ w).alloc (Nat.le_refl _) _).alloc (by simp) _
  have hx1 : W1.heap[g]? = some (.cells #[.slice A n c, .slice B m d] 25) := by rw [← hW1, ← hg]; exact (Below.heap_alloc _ _ _ (by simp)).trans (heap_alloc_new w _)
  have hy1 : W1.heap[g + 1]? = some (.cells #[.slice A' n c', .slice B' m d'] 25) := by rw [← hW1, ← hg]; simpa using heap_alloc_new (w.alloc (.cells #[.slice A n c, .slice B m d] 25)) (.cells #[.slice A' n c', .slice B' m d'] 25)
  have HE := hid (eqSame_any st st _ _ W1 (hs1.below hb1).2 (hs2.below hb1).2 hs1.1 hs1.1)
  rw [decide_eq_true rfl] at HE
  have HC1 := hid (hc1.below hb1)
  have HC2 := hid (hc2.below hb1)
  have HB1 := hid hb1
  have HX1 := hid hx1
  have HY1 := hid hy1
  have HM := hid hm
  have HW1 := hid hW1
  have HG := hid hg
  have x0 := cell_of_row _ _ 0 _ _ _ hx1
  have x1 := cell_of_row _ _ 1 _ _ _ hx1
  have y0 := cell_of_row _ _ 0 _ _ _ hy1
  have y1 := cell_of_row _ _ 1 _ _ _ hy1
  have dm : ((m : Int) != (m : Int)) = false := by simp
  clear hs1 hs2 hc1 hc2 hn hm hb1 hx1 hy1 hW1 hg hn1 hn2
  go_enter Try.func18, Try.ntmps18
  go_upto_region 1 with fail
  rw [HW1.out, HG.out]
  go_upto_region 4 with (go_at_call 19; refine HE.out.mono ?_; intro e X2 hE; obtain ⟨rfl, q2, rfl⟩ := hE)
  go_loopw [5] (fun i wr => ∃ k : Nat, k ≤ m ∧ i = .int .i64 (k : Int) ∧ ∃ q, wr = W1.drewN q) (fun i _ => m - (Go.RowKit.intOf i).toNat)
  case atStart => exact ⟨0, by omega, rfl, q2, rfl⟩
  case round =>
    obtain ⟨k, hk, rfl, q, rfl⟩ := hrel
    by_cases hkl : k < m
    · have hkl' : (k : Int) < (m : Int) := by omega
      obtain ⟨b1, o1, rfl, hb1, hk1⟩ := cas_cells HC1.out (by rw [HM.out]; omega)
      obtain ⟨b2, o2, rfl, hb2, hk2⟩ := cas_cells HC2.out (by rw [HM.out]; omega)
      obtain ⟨x, hx⟩ : ∃ x, ca[k]? = some x := ⟨ca[k]'(by rw [HM.out]; exact hkl), List.getElem?_eq_getElem _⟩
      have h8 := HC1.out.1 x (List.mem_of_getElem? hx)
      obtain ⟨a, s⟩ := x
      dsimp only at h8
      obtain ⟨s0, s1, s2, s3, s4, s5, s6, s7, rfl⟩ := list8 h8.1
      have p0 := hk1 k _ hx 0 (.int .i64 a) rfl
      rw [Nat.add_zero] at p0
      have p1 := hk1 k _ hx 1 (.int .u8 (s0 : Int)) rfl
      have p2 := hk1 k _ hx 2 (.int .u8 (s1 : Int)) rfl
      have p3 := hk1 k _ hx 3 (.int .u8 (s2 : Int)) rfl
      have p4 := hk1 k _ hx 4 (.int .u8 (s3 : Int)) rfl
      have p5 := hk1 k _ hx 5 (.int .u8 (s4 : Int)) rfl
      have p6 := hk1 k _ hx 6 (.int .u8 (s5 : Int)) rfl
      have p7 := hk1 k _ hx 7 (.int .u8 (s6 : Int)) rfl
      have p8 := hk1 k _ hx 8 (.int .u8 (s7 : Int)) rfl
      have r0 := hk2 k _ hx 0 (.int .i64 a) rfl
      rw [Nat.add_zero] at r0
      have r1 := hk2 k _ hx 1 (.int .u8 (s0 : Int)) rfl
      have r2 := hk2 k _ hx 2 (.int .u8 (s1 : Int)) rfl
      have r3 := hk2 k _ hx 3 (.int .u8 (s2 : Int)) rfl
      have r4 := hk2 k _ hx 4 (.int .u8 (s3 : Int)) rfl
      have r5 := hk2 k _ hx 5 (.int .u8 (s4 : Int)) rfl
      have r6 := hk2 k _ hx 6 (.int .u8 (s5 : Int)) rfl
      have r7 := hk2 k _ hx 7 (.int .u8 (s6 : Int)) rfl
      have r8 := hk2 k _ hx 8 (.int .u8 (s7 : Int)) rfl
      have heq := fun (W : World) => eql_ca_self a s0 s1 s2 s3 s4 s5 s6 s7 h8.2.1 W
      clear hk1 hk2 hx h8
      go_wp2_with fail
      go_quiet (fail)
      go_wp2_with fail
      go_roundw
      case rel => exact ⟨k + 1, by omega, by go_num, _, rfl⟩
      case measure => simp [Go.RowKit.intOf]; omega
    · obtain rfl : k = m := by omega
      go_wp2
      go_ret
      exact ⟨rfl, below_drewN HB1.out q⟩
end Go.Proofs.Ytoefbgkeinhibaa
