/- The reference's Scan; SameList. -/
import Derived.Test.YtcmmkeadbedooaaYa
namespace Go.Proofs.Ytcmmkeadbedooaa
open Go.RowKit Go.Lib

set_option maxHeartbeats 4000000 in
set_option maxRecDepth 100000 in
theorem rscan_any (l : List Sect) (v : Value) (q : Int) (w : World) (hv : Sec w v l) (hl : l.length ≤ 100000) (hq : R64 q) :
    Calls Try.prog 21 #[v, .int .i64 q] w (ScnQ w (scan l q)) := by
  obtain ⟨A, c, rfl⟩ := sec_form hv
  obtain ⟨n, hn⟩ : ∃ n, l.length = n := ⟨_, rfl⟩
  have HV := hid hv
  have HN := hid hn
  have HQ := hid hq
  rw [hn] at HV hl ⊢
  clear hv hn hq
  go_enter Try.func21, Try.ntmps21
  go_wp2_with fail
  go_loopw [1, 6, 7] (fun sq rv u wr => ∃ (m k : Nat) (s : Int) (vs : List Rv) (rs : List Rc), k ≤ n ∧ m ≤ k ∧ u = .int .i64 (k : Int) ∧ sq = .int .i64 s ∧ Hid (s = q + m) ∧ Hid (q + m ≤ 9223372036854775807) ∧ Hid (vs.length = m) ∧ Hid (vs.map core = rs.map coreR) ∧ Hid (scan l q = (rs ++ (scan (l.drop k) (q + m)).1, k + (scan (l.drop k) (q + m)).2)) ∧ Hid (wr.ownsRow w.heap.size 27 3 rv m (vs.map cRv).flatten) ∧ Hid (∀ x ∈ vs, Pay wr x) ∧ Hid (Below w.heap.size w wr)) (fun _ _ u _ => n - (Lib.intOf u).toNat)
  case atStart => exact ⟨0, 0, q, [], [], Nat.zero_le _, Nat.le_refl _, rfl, rfl, hid (by simp), hid (by have := HQ.out.2; omega), hid rfl, hid rfl, hid (by simp), hid (World.ownsRow_nil _ _ _ _), hid (fun x hx => by cases hx), hid (Below.refl _ _)⟩
  case round =>
    obtain ⟨m, k, s, vs, rs, hk, hmk, rfl, rfl, HSQ, HQM, HM, HVS, HS, HO, HP, HB⟩ := hrel
    obtain ⟨lA, lc, rfl⟩ := own_form27 HO.out
    by_cases hlow : s < 1
    · have d0 : decide ((1 : Int) ≤ s) = false := decide_eq_false (by omega)
      have d0' : ¬ (1 : Int) ≤ s := by omega
      have hlo := scan_low (l := l.drop k) (q := q + m) (by rw [← HSQ.out]; exact hlow)
      have hs := HS.out
      rw [hlo] at hs
      have HS2 := hid hs
      clear hlo hs
      go_wp2_with fail
      go_ret2
      rw [HS2.out]
      exact ⟨_, vs, rfl, by rw [HM.out]; exact HO.out, by simpa using HVS.out, HP.out, HB.out⟩
    have d0 : decide ((1 : Int) ≤ s) = true := decide_eq_true (by omega)
    have d0' : (1 : Int) ≤ s := by omega
    have hr := fun W : World => run_secs_from A n c k hk W
    have hfv := sec_from (HV.out.below HB.out) k (by rw [HN.out]; exact hk)
    have HD := hid (rdecode_any (l.drop k) _ wr hfv (by rw [List.length_drop, HN.out]; omega))
    obtain ⟨fA, hfA⟩ : ∃ fA, fromS A c k = fA := ⟨_, rfl⟩
    rw [hfA] at hr HD
    clear hfv hfA
    go_wp2_with fail
    refine HD.out.mono ?_
    rintro e w2 ⟨hb2, ⟨r, n', pv, hd, rfl, ho, h8⟩ | ⟨er, hd, rfl⟩⟩
    · obtain ⟨pA, pc, rfl⟩ := own_form ho
      obtain ⟨pk, pq, pp⟩ := r
      dsimp only at ho h8 ⊢
      obtain ⟨pn, hpn⟩ : ∃ pn, pp.length = pn := ⟨_, rfl⟩
      rw [hpn] at ho ⊢
      obtain ⟨W3, hW3⟩ : ∃ W3, w2.alloc (.cells #[.int .i64 (pk : Int), .int .i64 (pq : Int), .slice pA pn pc] 27) = W3 := ⟨_, rfl⟩
      have hb3 : Below w2.heap.size w2 W3 := by rw [← hW3]; exact al1 _ _
      have hx3 : W3.heap[w2.heap.size]? = some (.cells #[.int .i64 (pk : Int), .int .i64 (pq : Int), .slice pA pn pc] 27) := by rw [← hW3]; exact heap_alloc_new _ _
      have x0 : W3.cell? ⟨w2.heap.size, 0, none⟩ = some (.int .i64 (pk : Int)) := cell_of_row _ _ 0 _ _ _ hx3
      have x1 : W3.cell? ⟨w2.heap.size, 1, none⟩ = some (.int .i64 (pq : Int)) := cell_of_row _ _ 1 _ _ _ hx3
      have x2 : W3.cell? ⟨w2.heap.size, 2, none⟩ = some (.slice pA pn pc) := cell_of_row _ _ 2 _ _ _ hx3
      have hb13 : Below wr.heap.size wr W3 := hb2.trans (hb3.mono hb2.size)
      have HB3 := hid (HB.out.trans (hb13.mono HB.out.size))
      have HO3 := hid (own_keep HO.out (keep_below hb13))
      have HP3 := hid (fun x hx => (HP.out x hx).keep (keep_below hb13))
      have HY3 := hid (own_keep ho (keep_below hb3))
      have H8 := hid h8
      have HPN := hid hpn
      have hi := dR_inv hd
      have hnu := dR_num (fun s hs => HV.out.1 s (List.mem_of_mem_drop hs)) hd
      dsimp only at hi hnu
      rw [List.length_drop, HN.out] at hi
      have HDD := hid hd
      by_cases hqq : (pq : Int) = s
      · have d2 : ((pq : Int) != s) = false := by rw [hqq]; simp
        have HS2 := hid (scan_ok hd (hqq.trans HSQ.out))
        have hws : IntKind.i64.wrap (s + 1) = s + 1 := by rw [IntKind.wrap_i64]; omega
        have hz3 := HB3.out.size
        have HSB := hid (show q + (m : Int) < 4294967296 by have := HSQ.out; omega)
        clear hqq
        have hwk : IntKind.i64.wrap ((k : Int) + (n' : Int)) = ((k + n' : Nat) : Int) := by rw [IntKind.wrap_i64]; omega
        subst hW3
        clear hd hb2 hb3 hb13 ho h8 HD hx3 hpn
        go_wp2_with (at_builtin; go_loud (refine append_rec rfl (.tmp 29) (.tmp 31) rfl w.heap.size (.slice lA m lc) m _ rfl (own_keep HO3.out (keep_below (al1 _ _))) (pk : Int) (pq : Int) pA pn pc ⟨w2.heap.size + 1, 0, none⟩ 1 rfl (fun j u hu => by rw [add_at, cell_of_row _ _ _ _ _ _ (show ((w2.alloc (.cells #[.int .i64 (pk : Int), .int .i64 (pq : Int), .slice pA pn pc] 27)).alloc (.cells #[.int .i64 (pk : Int), .int .i64 (pq : Int), .slice pA pn pc] 27)).heap[w2.heap.size + 1]? = _ by simpa using heap_alloc_new (w2.alloc (.cells #[.int .i64 (pk : Int), .int .i64 (pq : Int), .slice pA pn pc] 27)) (.cells #[.int .i64 (pk : Int), .int .i64 (pq : Int), .slice pA pn pc] 27))]; simpa using hu) (by omega) (by simp at *; omega) ?_; intro v4 w4 hown4 hg4; obtain ⟨a4, c4, rfl⟩ := own_form27 hown4; have hkp := keep_grown (T := 5) (own_keep HO3.out (keep_below (al1 _ _))) (by decide) hg4; have HB4 := hid ((HB3.out.alloc hz3 _).grown hg4 (by simp at *; omega) (fun k e => (HO3.out.lt k e).1)); have HO4 := hid hown4; have HP4 := hid (fun x hx => ((HP3.out x hx).keep (keep_below (al1 _ _))).keep hkp); have HY4 := hid (own_keep (own_keep HY3.out (keep_below (al1 _ _))) hkp); clear hown4 hg4 hkp))
        go_roundw
        case rel => exact ⟨m + 1, k + n', s + 1, vs ++ [⟨(pk : Int), (pq : Int), .slice pA pn pc, pp⟩], rs ++ [(pk, pq, pp)], by omega, by omega, by go_num, rfl, hid (by have := HSQ.out; omega), hid (by have := HSB.out; omega), hid (by rw [List.length_append, HM.out]; rfl), hid (by rw [List.map_append, List.map_append, HVS.out]; rfl), hid (by rw [HS.out, HS2.out, List.drop_drop, show q + (m : Int) + 1 = q + ((m + 1 : Nat) : Int) by omega]; simp [Nat.add_assoc]), hid (by rw [List.map_append, List.flatten_append]; simpa [cRv] using HO4.out), hid (fun x hx => (List.mem_append.1 hx).elim (HP4.out x) (fun hx => by rw [List.mem_singleton] at hx; subst hx; exact ⟨⟨_, by dsimp only; rw [HPN.out]; exact HY4.out⟩, H8.out⟩)), HB4⟩
        case measure => simp [Lib.intOf]; omega
      · have d2 : ((pq : Int) != s) = true := by rw [bne_iff_ne]; exact hqq
        have HS2 := hid (scan_ne (q := q + m) hd (fun e => hqq (e.trans HSQ.out.symm)))
        subst hW3
        clear hd hb2 hb3 hb13 ho h8 HD hx3 hpn
        go_wp2_with fail
        go_ret2
        have hs := HS.out
        rw [HS2.out] at hs
        rw [hs]
        exact ⟨_, vs, rfl, by rw [HM.out]; exact HO3.out, by simpa using HVS.out, HP3.out, HB3.out⟩
    · have hne := dR_ne0 hd
      have d1 : (er != 0) = true := by rw [bne_iff_ne]; exact hne
      obtain ⟨W3, hW3⟩ : ∃ W3, w2.alloc (.cells #[.int .i64 0, .int .i64 0, .slice none 0 0] 27) = W3 := ⟨_, rfl⟩
      have hb3 : Below w2.heap.size w2 W3 := by rw [← hW3]; exact al1 _ _
      have hb13 : Below wr.heap.size wr W3 := hb2.trans (hb3.mono hb2.size)
      have HB3 := hid (HB.out.trans (hb13.mono HB.out.size))
      have HO3 := hid (own_keep HO.out (keep_below hb13))
      have HP3 := hid (fun x hx => (HP.out x hx).keep (keep_below hb13))
      have HS2 := hid (scan_err (q := q + m) hd)
      subst hW3
      clear hd hb2 hb3 hb13 HD hne
      go_wp2_with fail
      go_ret2
      have hs := HS.out
      rw [HS2.out] at hs
      rw [hs]
      exact ⟨_, vs, rfl, by rw [HM.out]; exact HO3.out, by simpa using HVS.out, HP3.out, HB3.out⟩
end Go.Proofs.Ytcmmkeadbedooaa
