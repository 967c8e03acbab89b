/- The reference's readers: Int, length, Bytes. -/
import Derived.Test.YtchpoddfjbopbaaXa
namespace Go.Proofs.Ytchpoddfjbopbaa
open Go.RowKit Go.Lib

theorem rd_len {s : List Nat} {v k : Nat} (h8 : B8 s) (h : rd 8 0 0 s = (v, k, 0)) : k ≤ s.length ∧ v ≤ top := by
  obtain ⟨m, r, e1, e2, e3, e4, _⟩ := rd_once 8 0 0 s v k h8 h
  refine ⟨?_, e4⟩
  rw [e1, e3, List.length_append]
  omega
theorem b8_drop {s : List Nat} (h : B8 s) (k : Nat) : B8 (s.drop k) := fun x hx => h x (List.mem_of_mem_drop hx)

set_option maxHeartbeats 2000000 in
set_option maxRecDepth 100000 in
theorem rint (s : List Nat) (v : Value) (w : World) (hv : Byt w v s) (hn : NilOk v) (hl : s.length ≤ 90000) :
    Calls Try.prog 27 #[v] w (Red dNum VNat (.int .i64 0) w s) := by
  have HP := hid (rrnum s v w hv)
  have H8 := hid hv.1
  obtain ⟨A, c, rfl⟩ := byt_form hv
  have HV := hid hv
  have HN := hid hn
  clear hv hn
  go_enter Try.func27, Try.ntmps27
  go_wp2_with fail
  refine HP.out.mono ?_
  rintro e w1 ⟨rfl, n, k, er, hrd, rfl⟩
  by_cases he : er = 0
  · subst he
    obtain ⟨hk, hn⟩ := rd_len H8.out hrd
    have HD := hid (dNum_ok hrd)
    have HR := hid (rrest s k _ w1 HV.out HN.out hk hl)
    clear hrd
    unfold top at hn
    go_wp2_with fail
    refine HR.out.mono ?_
    rintro e w2 ⟨v2, rfl, ho, hb⟩
    obtain ⟨a2, c2, rfl⟩ := own_form ho
    have HO := hid ho
    have HB := hid hb
    clear ho hb
    go_wp2
    refine bodyPost_ret (v := .tuple #[.int .i64 (n : Int), .slice a2 (s.drop k).length c2, .int .i64 0]) (by simp [results, Try.results27, go_sem]) rfl ?_
    exact ⟨_, _, _, rfl, HB.out, .inl ⟨n, _, HD.out, rfl, rfl, b8_drop H8.out k, _, HO.out⟩⟩
  · have HD := hid (dNum_err hrd he)
    have HE := hid he
    have hb : (er == 0) = false := by rw [beq_eq_false_iff_ne]; exact he
    have hb2 : (er != 0) = true := by simpa using he
    clear hrd he
    go_wp2
    refine bodyPost_ret (v := .tuple #[.int .i64 0, .slice none 0 0, .int .i64 er]) (by simp [results, Try.results27, go_sem]) rfl ?_
    exact ⟨_, _, _, rfl, Below.refl _ _, .inr ⟨HD.out, HE.out, rfl, rfl⟩⟩

set_option maxHeartbeats 2000000 in
set_option maxRecDepth 100000 in
theorem rlength (s : List Nat) (v : Value) (w : World) (hv : Byt w v s) (hn : NilOk v) (hl : s.length ≤ 90000) :
    Calls Try.prog 69 #[v] w (Red dLength VNat (.int .i64 0) w s) := by
  have HP := hid (rint s v w hv hn hl)
  obtain ⟨A, c, rfl⟩ := byt_form hv
  clear hv hn
  go_enter Try.func69, Try.ntmps69
  go_wp2_with fail
  refine HP.out.mono ?_
  rintro e w1 ⟨v1, r1, er, rfl, hb, h⟩
  have HB := hid hb
  clear hb
  rcases h with ⟨x, t, hd, rfl, rfl, hr⟩ | ⟨hd, he, rfl, rfl⟩
  · have HD := hid hd
    have HR := hid hr
    clear hd hr
    by_cases hbig : 65536 < x
    · have d1 : decide ((65536 : Int) < (x : Int)) = true := by simp; omega
      go_wp2
      refine bodyPost_ret (v := .tuple #[.int .i64 0, .slice none 0 0, .int .i64 5]) (by simp [results, Try.results69, go_sem]) rfl ?_
      exact ⟨_, _, _, rfl, HB.out, .inr ⟨dLen_long HD.out hbig, by decide, rfl, rfl⟩⟩
    · have d1 : decide ((65536 : Int) < (x : Int)) = false := by simp; omega
      go_wp2
      refine bodyPost_ret (v := .tuple #[.int .i64 (x : Int), r1, .int .i64 0]) (by simp [results, Try.results69, go_sem]) rfl ?_
      exact ⟨_, _, _, rfl, HB.out, .inl ⟨x, t, dLen_ok HD.out hbig, rfl, rfl, HR.out⟩⟩
  · have HD := hid hd
    have HE := hid he
    have hb : (er == 0) = false := by rw [beq_eq_false_iff_ne]; exact he
    have hb2 : (er != 0) = true := by simpa using he
    clear hd he
    go_wp2
    refine bodyPost_ret (v := .tuple #[.int .i64 0, .slice none 0 0, .int .i64 er]) (by simp [results, Try.results69, go_sem]) rfl ?_
    exact ⟨_, _, _, rfl, HB.out, .inr ⟨dLen_err HD.out, HE.out, rfl, rfl⟩⟩

theorem run_slice_to (A : Option Addr) (n c k : Nat) (hk : k ≤ c) (W : World) : (Instr.slice 22 (.slice A n c) none (some (.int .i64 (k : Int))) none).run Try.prog W = .ok (.slice A k c) W := by
  simp [Instr.slice, run_underlying Try.underlying22, Instr.sliceBounds, Sem.run_bind, run_sliceBound_if]
  rw [if_pos hk]
  have e : (if c = 0 then A else Option.map (fun (x : Addr) => x.add 0) A) = A := by
    rcases A with _ | a
    · simp
    · simp [Addr.add]
  rw [e]
theorem dBytes_len {s t : List Nat} {n : Nat} (h : dLength s = .ok (n, t)) : dBytes s = dTake n t := by
  unfold dLength at h
  unfold dBytes
  rcases hd : dNum s with e | ⟨m, u⟩
  · rw [dLen_err hd] at h; cases h
  · by_cases hb : 65536 < m
    · rw [dLen_long hd hb] at h; cases h
    · rw [dLen_ok hd hb] at h
      cases h
      exact dLen_ok hd hb
theorem dLength_le {s t : List Nat} {n : Nat} (h : dLength s = .ok (n, t)) : n ≤ 65536 := by
  unfold dLength at h
  rcases hd : dNum s with e | ⟨m, u⟩
  · rw [dLen_err hd] at h; cases h
  · by_cases hb : 65536 < m
    · rw [dLen_long hd hb] at h; cases h
    · rw [dLen_ok hd hb] at h
      cases h
      omega
theorem dBytes_lerr {s : List Nat} {e : Int} (h : dLength s = .error e) : dBytes s = .error e := by
  unfold dLength at h
  unfold dBytes
  rcases hd : dNum s with e1 | ⟨m, u⟩
  · rw [dLen_err hd] at h; cases h; exact dLen_err hd
  · by_cases hb : 65536 < m
    · rw [dLen_long hd hb] at h; cases h; exact dLen_long hd hb
    · rw [dLen_ok hd hb] at h; cases h

set_option maxHeartbeats 2000000 in
set_option maxRecDepth 100000 in
theorem rbytes (s : List Nat) (v : Value) (w : World) (hv : Byt w v s) (hn : NilOk v) (hl : s.length ≤ 90000) :
    Calls Try.prog 29 #[v] w (Red dBytes VByt (.slice none 0 0) w s) := by
  have HP := hid (rlength s v w hv hn hl)
  obtain ⟨A, c, rfl⟩ := byt_form hv
  clear hv hn
  go_enter Try.func29, Try.ntmps29
  go_wp2_with fail
  refine HP.out.mono ?_
  rintro e w1 ⟨v1, r1, er, rfl, hb, h⟩
  have HB := hid hb
  clear hb
  rcases h with ⟨x, t, hd, rfl, rfl, hr⟩ | ⟨hd, he, rfl, rfl⟩
  · have htl : t.length ≤ 90000 := Nat.le_trans (shr_length _ _ _ hd) hl
    have hx := dLength_le hd
    have HD := hid (dBytes_len hd)
    have HR := hid hr
    have HV := hid (vbyt_byt hr)
    have HN := hid (vbyt_nil hr)
    clear hd hr hl
    obtain ⟨a1, c1, rfl⟩ := byt_form HV.out
    have hcp := byt_cap HV.out
    by_cases hlt : t.length < x
    · have d1 : decide (t.length < x) = true := decide_eq_true hlt
      have HL := hid hlt
      clear hlt
      go_wp2_with fail
      refine bodyPost_ret (v := .tuple #[.slice none 0 0, .slice none 0 0, .int .i64 10]) (by simp [results, Try.results29, go_sem]) rfl ?_
      exact ⟨_, _, _, rfl, HB.out, .inr ⟨by rw [HD.out]; exact if_pos HL.out, by decide, rfl, rfl⟩⟩
    · have d1 : decide (t.length < x) = false := decide_eq_false hlt
      have HL : Hid (x ≤ t.length) := hid (by omega)
      have HS := run_slice_to a1 t.length c1 x (by omega)
      have HT := hid (byt_take HV.out HL.out)
      have HTN : Hid (NilOk (.slice a1 x c1)) := hid (by
        rcases a1 with _ | a
        · intro n c h
          injection h with _ _ h3
          rw [← h3]
          exact HN.out _ _ rfl
        · exact nilOk_some _ _ _)
      obtain ⟨D, hD⟩ : ∃ D, t.take x = D := ⟨_, rfl⟩
      have hDl : x = D.length := by rw [← hD, List.length_take, Nat.min_eq_left HL.out]
      have HDt := hid hD
      rw [hD] at HT
      clear hD hlt
      subst hDl
      go_wp2_with (at_builtin; refine append_byt rfl (.tmp 21) (.tmp 24) rfl w1.heap.size _ 0 [] rfl (World.ownsRow_nil _ _ _ _) D _ rfl HT.out HTN.out (by omega) (Nat.le_refl _) ?_; intro v2 w2 hown2 hg2; have HB2 := hid (below_own (Below.refl _ w1) (World.ownsRow_nil _ _ _ _) hg2 (Nat.le_refl _) (Nat.le_refl _)); have HO2 : Hid (w2.ownsRow w1.heap.size 5 1 v2 D.length (D.map byteV)) := hid (by simpa using hown2); clear hown2 hg2)
      have hVs := HO2.out
      obtain ⟨a2, c2, rfl⟩ := own_form hVs
      clear hVs
      refine (rrest t D.length _ w2 (HV.out.below HB2.out) HN.out HL.out htl).mono ?_
      rintro e w3 ⟨v3, rfl, ho3, hb3⟩
      obtain ⟨a3, c3, rfl⟩ := own_form ho3
      have HO3 := hid ho3
      have HB3 := hid hb3
      clear ho3 hb3
      go_wp2
      refine bodyPost_ret (v := .tuple #[.slice a2 D.length c2, .slice a3 (t.drop D.length).length c3, .int .i64 0]) (by simp [results, Try.results29, go_sem]) rfl ?_
      refine ⟨_, _, _, rfl, below_both HB.out (below_both HB2.out HB3.out), .inl ⟨D, t.drop D.length, ?_, rfl, vbyt_below HB3.out ⟨HT.out.1, _, HO2.out⟩, b8_drop HV.out.1 _, _, HO3.out⟩⟩
      rw [HD.out]
      unfold dTake
      rw [if_neg (by have := HL.out; omega), HDt.out]
  · have HD := hid hd
    have HE := hid he
    have hb : (er == 0) = false := by rw [beq_eq_false_iff_ne]; exact he
    have hb2 : (er != 0) = true := by simpa using he
    clear hd he
    go_wp2
    refine bodyPost_ret (v := .tuple #[.slice none 0 0, .slice none 0 0, .int .i64 er]) (by simp [results, Try.results29, go_sem]) rfl ?_
    exact ⟨_, _, _, rfl, HB.out, .inr ⟨dBytes_lerr HD.out, HE.out, rfl, rfl⟩⟩
end Go.Proofs.Ytchpoddfjbopbaa
#print axioms Go.Proofs.Ytchpoddfjbopbaa.rbytes
