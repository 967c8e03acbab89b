/- bytes.Equal; the reference's number, rest, Int. -/
import Derived.Test.YtldlddoealpomaaG
import Derived.Shelf.Bytes.SlSmallAll
namespace Go.Proofs.Ytldlddoealpomaa
open Go.RowKit Go.Lib

theorem byt_none {w : World} {n c : Nat} {l : List Nat} (h : Byt w (.slice none n c) l) : l = [] := by
  obtain ⟨_, A, cap, e, h1, h2, b, off, hA, _⟩ := h
  injection e with e1
  rcases Nat.eq_zero_or_pos l.length with h0 | h0
  · exact List.eq_nil_of_length_eq_zero h0
  · have := (hA h0).1
    rw [← e1] at this
    cases this
def ints (l : List Nat) : List Int := l.map fun (x : Nat) => (x : Int)
set_option maxRecDepth 100000 in
theorem byt_conv {w : World} {A : Option Addr} {n c : Nat} {l : List Nat} (h : Byt w (.slice A n c) l) : (convert 22 9 (.slice A n c)).run Try.prog w = .ok (.string (strOfNums (ints l))) w := by
  obtain ⟨h8, A', c', e, h1, h2, b, off, hA, hc⟩ := h
  injection e with e1 e2 e3
  subst e1 e2 e3
  rcases Nat.eq_zero_or_pos l.length with hn | hn
  · have hl : l = [] := List.eq_nil_of_length_eq_zero hn
    subst hl
    exact run_convert_bytes_zero w 22 5 Try.underlying22 Try.underlying5 A c 9 Try.underlying9
  · obtain ⟨rfl, _⟩ := hA hn
    refine run_convert_bytes_arg (P := Try.prog) w 22 5 Try.underlying22 Try.underlying5 b off l.length c (ints l) (by simp [ints]) (fun i hi => ?_) 9 Try.underlying9
    rw [hc i l[i] (List.getElem?_eq_getElem hi)]
    simp [ints, List.getD, hi]
theorem str_eq {a b : List Nat} (ha : B8 a) (hb : B8 b) : ((strOfNums (ints a)).toList == (strOfNums (ints b)).toList) = decide (a = b) := by
  rw [ByteArray.toList_eq, ByteArray.toList_eq]
  by_cases h : a = b
  · subst h; simp
  · rw [decide_eq_false h]
    rw [beq_eq_false_iff_ne]
    intro he
    apply h
    have h1 := he
    simp only [strOfNums_data, ints, List.map_map] at h1
    clear he h
    induction a generalizing b with
    | nil => cases b with
      | nil => rfl
      | cons y b => simp at h1
    | cons x a ih =>
      cases b with
      | nil => simp at h1
      | cons y b =>
        simp only [List.map_cons, List.cons.injEq] at h1
        have hx := ha x (List.mem_cons_self ..)
        have hy := hb y (List.mem_cons_self ..)
        have h2 := congrArg UInt8.toNat h1.1
        simp at h2
        rw [ih (fun z hz => ha z (List.mem_cons_of_mem _ hz)) (fun z hz => hb z (List.mem_cons_of_mem _ hz)) h1.2, show x = y by omega]
/-- What a call answers that only looks. -/
def Says (b : Bool) (w : World) (e : Ending) (w' : World) : Prop := e = .returned (.bool b) ∧ w = w'
set_option maxHeartbeats 2000000 in
set_option maxRecDepth 100000 in
theorem equal_any (a b : List Nat) (v u : Value) (w : World) (hv : Byt w v a) (hu : Byt w u b) :
    Calls Try.prog 13 #[v, u] w (Says (decide (a = b)) w) := by
  obtain ⟨A, c, rfl⟩ := byt_form hv
  obtain ⟨C, d, rfl⟩ := byt_form hu
  have e1 := byt_conv hv
  have e2 := byt_conv hu
  have e3 := str_eq hv.1 hu.1
  obtain ⟨s, hs⟩ : ∃ s, strOfNums (ints a) = s := ⟨_, rfl⟩
  obtain ⟨t, ht⟩ : ∃ t, strOfNums (ints b) = t := ⟨_, rfl⟩
  obtain ⟨q, hq⟩ : ∃ q, decide (a = b) = q := ⟨_, rfl⟩
  rw [hs] at e1 e3
  rw [ht] at e2 e3
  rw [hq] at e3 ⊢
  clear hs ht hq hv hu
  go_enter Try.func13, Try.ntmps13
  go_wp2
  go_ret
  exact ⟨rfl, rfl⟩
theorem racc_eq (x k m N : Nat) (hk : k < 8) (hm : m < 128 ^ k) (hN : m + x % 128 * 128 ^ k = N) : wrap64 ((m : Int) + wrap64 ((x : Int) % 128 * ((128 ^ k : Nat) : Int))) = (N : Int) := by
  have h1 := weigh_le x k m hm
  have h2 := pow_le8 k hk
  have e2 : ((x : Int) % 128 * ((128 ^ k : Nat) : Int)) = ((x % 128 * 128 ^ k : Nat) : Int) := by simp
  rw [e2]
  obtain ⟨P, hP⟩ : ∃ P, x % 128 * 128 ^ k = P := ⟨_, rfl⟩
  rw [hP] at h1 hN ⊢
  have e := IntWalk.wrap64_in (P : Int) (by omega)
  rw [e, IntWalk.wrap64_in _ (by omega)]
  omega
theorem wt_eq (k : Nat) (hk : k < 8) : wrap64 (((128 ^ k : Nat) : Int) * 128) = ((128 ^ (k + 1) : Nat) : Int) := by
  have h2 := pow_le8 k hk
  rw [Nat.pow_succ] at h2 ⊢
  obtain ⟨P, hP⟩ : ∃ P, 128 ^ k = P := ⟨_, rfl⟩
  rw [hP] at h2 ⊢
  rw [IntWalk.wrap64_in _ (by omega)]
  omega
set_option maxHeartbeats 2000000 in
set_option maxRecDepth 100000 in
theorem rrnum (s : List Nat) (v : Value) (w : World) (hv : Byt w v s) :
    Calls Try.prog 49 #[v] w fun e w' => w' = w ∧ ∃ n k : Nat, ∃ er : Int, rd 8 0 0 s = (n, k, er) ∧ e = .returned (.tuple #[.int .i64 (n : Int), .int .i64 (k : Int), .int .i64 er]) := by
  obtain ⟨A, c, rfl⟩ := byt_form hv
  have h8 := hid hv.1
  have hcp := byt_cap hv
  obtain ⟨_, A', c', e1, h1, h2, b, off, hA, hc⟩ := hv
  injection e1 with e1 _ e2
  subst e1 e2
  unfold maxLen at h2
  have HC := hid hc
  have HA := hid hA
  clear hc hA
  go_enter Try.func49, Try.ntmps49
  go_wp2
  go_loopw [5, 6, 7] (fun n t i wr => ∃ (k m P : Nat), k ≤ 8 ∧ k ≤ s.length ∧ m < 72057594037927936 ∧ P ≤ 72057594037927936 ∧ i = .int .i64 (k : Int) ∧ n = .int .i64 (m : Int) ∧ t = .int .i64 (P : Int) ∧ Hid (128 ^ k = P) ∧ Hid (m < 128 ^ k) ∧ Hid (rd (8 - k) k m (s.drop k) = rd 8 0 0 s) ∧ w = wr) (fun _ _ i _ => 8 - (Lib.intOf i).toNat)
  case atStart => exact ⟨0, 0, 1, by omega, by omega, by omega, by omega, rfl, rfl, rfl, hid (by simp), hid (by simp), hid rfl, rfl⟩
  case round =>
    obtain ⟨k, m, P, hk, hks, hm, hP, rfl, rfl, rfl, HP, HM, HR, rfl⟩ := hrel
    by_cases hk8 : k < 8
    · have d8 : decide ((k : Int) < 8) = true := by simp; omega
      by_cases hkl : k = s.length
      · have d1 : decide (s.length ≤ k) = true := by simp; omega
        have HE : Hid (rd 8 0 0 s = (0, 0, 10)) := hid (by
          have h := HR.out
          rw [hkl, List.drop_length, show 8 - s.length = (7 - s.length) + 1 by omega, rd_nil] at h
          exact h.symm)
        clear hkl
        go_wp2
        refine bodyPost_ret (v := .tuple #[.int .i64 0, .int .i64 0, .int .i64 10]) (by simp [results, Try.results49, go_sem]) rfl ?_
        exact ⟨rfl, 0, 0, 10, HE.out, rfl⟩
      · have d1 : decide (s.length ≤ k) = false := by simp; omega
        have hkl' : k < s.length := by omega
        obtain ⟨x, hx⟩ : ∃ x, s[k]? = some x := ⟨s[k], List.getElem?_eq_getElem hkl'⟩
        have hx8 : x < 256 := h8.out x (List.mem_of_getElem? hx)
        obtain ⟨hA1, hblt⟩ := HA.out (by omega)
        subst hA1
        have hcx := HC.out k x hx
        have HD : Hid (s.drop k = x :: s.drop (k + 1)) := hid (by
          obtain ⟨hlt, rfl⟩ := List.getElem?_eq_some_iff.1 hx
          exact List.drop_eq_getElem_cons hlt)
        have HR2 : Hid (rd 8 0 0 s = if x < 128 then (if x = 0 ∧ 0 < k ∨ top < m + x % 128 * 128 ^ k then (0, 0, 3) else (m + x % 128 * 128 ^ k, k + 1, 0)) else rd (8 - (k + 1)) (k + 1) (m + x % 128 * 128 ^ k) (s.drop (k + 1))) := hid (by
          rw [← HR.out, HD.out, show 8 - k = (8 - (k + 1)) + 1 by omega, rd_cons])
        obtain ⟨N, hN⟩ : ∃ N, m + x % 128 * 128 ^ k = N := ⟨_, rfl⟩
        have hw := racc_eq x k m N hk8 HM.out hN
        rw [HP.out] at hw
        have hNl : N < 72057594037927936 := by rw [← hN]; exact Nat.lt_of_lt_of_le (weigh_le x k m HM.out) (pow_le8 k hk8)
        have HNp : Hid (N < 128 ^ (k + 1)) := hid (by rw [← hN]; exact weigh_le x k m HM.out)
        obtain ⟨P2, hP2⟩ : ∃ P2, 128 ^ (k + 1) = P2 := ⟨_, rfl⟩
        have hwt := wt_eq k hk8
        rw [hP2, HP.out] at hwt
        have HP2 := hid hP2
        have hP2l : P2 ≤ 72057594037927936 := by rw [← hP2]; exact pow_le8 k hk8
        rw [hN] at HR2
        clear hx hkl HR hN hm hP2
        by_cases hx1 : 128 ≤ x
        · have e1 : decide ((x : Int) < 128) = false := by simp; omega
          go_wp2
          go_roundw
          case rel => exact ⟨k + 1, N, P2, by omega, by omega, hNl, hP2l, by go_num, int_eq hw, int_eq hwt, HP2, HNp, hid (by have h := HR2.out; rw [if_neg (by omega)] at h; exact h.symm), trivial⟩
          case measure => simp [Lib.intOf]; omega
        · have e1 : decide ((x : Int) < 128) = true := by simp; omega
          have hHE : ((x = 0 ∧ 0 < k) ∨ top < N) → Hid (rd 8 0 0 s = (0, 0, 3)) := fun hbad => hid (by
            have h := HR2.out
            rw [if_pos (by omega), if_pos hbad] at h
            exact h)
          by_cases hz : x = 0 ∧ 0 < k
          · have e2 : ((x : Int) == 0) = true := by simp; omega
            have HE := hHE (.inl hz)
            obtain ⟨hz1, hz2⟩ := hz
            have HZ := hid hz1
            clear hz1 hHE
            go_wp2
            refine bodyPost_ret (v := .tuple #[.int .i64 0, .int .i64 0, .int .i64 3]) (by simp [results, Try.results49, go_sem]) rfl ?_
            exact ⟨rfl, 0, 0, 3, HE.out, rfl⟩
          · by_cases hbig : 9007199254740991 < N
            · have HE := hHE (.inr hbig)
              have e3 : decide ((9007199254740991 : Int) < (N : Int)) = true := by simp; omega
              clear hHE
              have hxp : 0 < x := by
                rcases Nat.eq_zero_or_pos x with hx0 | hx0
                · obtain rfl : k = 0 := by omega
                  have := HNp.out
                  omega
                · exact hx0
              have e2 : ((x : Int) == 0) = false := by rw [beq_eq_false_iff_ne]; omega
              clear hz
              go_wp2
              refine bodyPost_ret (v := .tuple #[.int .i64 0, .int .i64 0, .int .i64 3]) (by simp [results, Try.results49, go_sem]) rfl ?_
              exact ⟨rfl, 0, 0, 3, HE.out, rfl⟩
            · have e3 : decide ((9007199254740991 : Int) < (N : Int)) = false := by simp; omega
              have HE : Hid (rd 8 0 0 s = (N, k + 1, 0)) := hid (by
                have h := HR2.out
                rw [if_pos (by omega), if_neg (by unfold top; omega)] at h
                exact h)
              clear hHE
              rcases Nat.eq_zero_or_pos k with hk0 | hk0
              · clear hz
                have HK0 := hid hk0
                have g0 : decide (0 < k) = false := by rw [hk0]; rfl
                have g1 : decide ((0 : Int) < (k : Int)) = false := by rw [hk0]; rfl
                clear hk0
                rcases Nat.eq_zero_or_pos x with hx0 | hx0
                · have e2 : ((x : Int) == 0) = true := by simp; omega
                  have HX0 := hid hx0
                  clear hx0
                  go_wp2
                  refine bodyPost_ret (v := .tuple #[.int .i64 (N : Int), .int .i64 ((k : Int) + 1), .int .i64 0]) (by simp [results, Try.results49, go_sem]) rfl ?_
                  exact ⟨rfl, N, k + 1, 0, HE.out, rfl⟩
                · have e2 : ((x : Int) == 0) = false := by rw [beq_eq_false_iff_ne]; omega
                  go_wp2
                  refine bodyPost_ret (v := .tuple #[.int .i64 (N : Int), .int .i64 ((k : Int) + 1), .int .i64 0]) (by simp [results, Try.results49, go_sem]) rfl ?_
                  exact ⟨rfl, N, k + 1, 0, HE.out, rfl⟩
              · have e2 : ((x : Int) == 0) = false := by rw [beq_eq_false_iff_ne]; omega
                clear hz
                go_wp2
                refine bodyPost_ret (v := .tuple #[.int .i64 (N : Int), .int .i64 ((k : Int) + 1), .int .i64 0]) (by simp [results, Try.results49, go_sem]) rfl ?_
                exact ⟨rfl, N, k + 1, 0, HE.out, rfl⟩
    · obtain rfl : k = 8 := by omega
      have HE : Hid (rd 8 0 0 s = (0, 0, 3)) := hid (by
        have h := HR.out
        rw [Nat.sub_self, rd_zero] at h
        exact h.symm)
      go_wp2
      refine bodyPost_ret (v := .tuple #[.int .i64 0, .int .i64 0, .int .i64 3]) (by simp [results, Try.results49, go_sem]) rfl ?_
      exact ⟨rfl, 0, 0, 3, HE.out, rfl⟩
set_option maxHeartbeats 2000000 in
set_option maxRecDepth 100000 in
theorem rrest (s : List Nat) (k : Nat) (v : Value) (w : World) (hv : Byt w v s) (hn : NilOk v) (hk : k ≤ s.length) (hl : s.length ≤ 90000) :
    Calls Try.prog 50 #[v, .int .i64 (k : Int)] w (MadeO w (s.drop k)) := by
  obtain ⟨A, c, rfl⟩ := byt_form hv
  have hcp := byt_cap hv
  have H8 : Hid (B8 (s.drop k)) := hid (fun x hx => hv.1 x (List.mem_of_mem_drop hx))
  have HV := hid (byt_from hv hk)
  have HN : Hid (NilOk (.slice (fromA A c k) (s.length - k) (c - k))) := hid (by
    rcases A with _ | a
    · have h0 := byt_none hv
      subst h0
      have hc := hn _ _ rfl
      subst hc
      intro n c h
      injection h with _ _ h3
      omega
    · intro n c h
      injection h with h1
      unfold fromA at h1
      split at h1 <;> cases h1)
  have HS := run_slice_from A s.length c k hk
  have hdl : (s.drop k).length = s.length - k := List.length_drop
  clear hv hn
  obtain ⟨FA, hFA⟩ : ∃ FA, fromA A c k = FA := ⟨_, rfl⟩
  rw [hFA] at HV HN HS
  obtain ⟨D, hD⟩ : ∃ D, s.drop k = D := ⟨_, rfl⟩
  rw [hD] at HV H8 hdl ⊢
  rw [← hdl] at HS HV HN
  have hD9 : D.length ≤ 90000 := by omega
  clear hFA hD hdl
  go_enter Try.func50, Try.ntmps50
  go_wp2_with (at_builtin; refine append_byt rfl (.tmp 6) (.tmp 9) rfl w.heap.size _ 0 [] rfl (World.ownsRow_nil _ _ _ _) D _ rfl HV.out HN.out (by omega) (Nat.le_refl _) ?_; intro v1 w1 hown1 hg1; have HB1 := hid (below_own (Below.refl _ w) (World.ownsRow_nil _ _ _ _) hg1 (Nat.le_refl _) (Nat.le_refl _)); have HO1 : Hid (w1.ownsRow w.heap.size 5 1 v1 D.length (D.map byteV)) := hid (by simpa using hown1); clear hown1 hg1)
  obtain ⟨av, cv, rfl⟩ := own_form HO1.out
  go_wp2
  go_ret
  exact ⟨_, rfl, HO1.out, HB1.out⟩
theorem rd_len {s : List Nat} {v k : Nat} (h8 : B8 s) (h : rd 8 0 0 s = (v, k, 0)) : k ≤ s.length ∧ v ≤ top := by
  obtain ⟨m, r, e1, e2, e3, e4, _⟩ := rd_once 8 0 0 s v k h8 h
  refine ⟨?_, e4⟩
  rw [e1, e3, List.length_append]
  omega
theorem b8_drop {s : List Nat} (h : B8 s) (k : Nat) : B8 (s.drop k) := fun x hx => h x (List.mem_of_mem_drop hx)
set_option maxHeartbeats 2000000 in
set_option maxRecDepth 100000 in
theorem rint (s : List Nat) (v : Value) (w : World) (hv : Byt w v s) (hn : NilOk v) (hl : s.length ≤ 90000) :
    Calls Try.prog 31 #[v] w (Red dNum VNat (.int .i64 0) w s) := by
  have HP := hid (rrnum s v w hv)
  have H8 := hid hv.1
  obtain ⟨A, c, rfl⟩ := byt_form hv
  have HV := hid hv
  have HN := hid hn
  clear hv hn
  go_enter Try.func31, Try.ntmps31
  go_wp2_with fail
  refine HP.out.mono ?_
  rintro e w1 ⟨rfl, n, k, er, hrd, rfl⟩
  by_cases he : er = 0
  · subst he
    obtain ⟨hk, hn⟩ := rd_len H8.out hrd
    have HD := hid (dNum_ok hrd)
    have HR := hid (rrest s k _ w1 HV.out HN.out hk hl)
    clear hrd
    unfold top at hn
    go_wp2_with fail
    refine HR.out.mono ?_
    rintro e w2 ⟨v2, rfl, ho, hb⟩
    obtain ⟨a2, c2, rfl⟩ := own_form ho
    have HO := hid ho
    have HB := hid hb
    clear ho hb
    go_wp2
    refine bodyPost_ret (v := .tuple #[.int .i64 (n : Int), .slice a2 (s.drop k).length c2, .int .i64 0]) (by simp [results, Try.results31, go_sem]) rfl ?_
    exact ⟨_, _, _, rfl, HB.out, .inl ⟨n, _, HD.out, rfl, rfl, b8_drop H8.out k, _, HO.out⟩⟩
  · have HD := hid (dNum_err hrd he)
    have HE := hid he
    have hb : (er == 0) = false := by rw [beq_eq_false_iff_ne]; exact he
    have hb2 : (er != 0) = true := by simpa using he
    clear hrd he
    go_wp2
    refine bodyPost_ret (v := .tuple #[.int .i64 0, .slice none 0 0, .int .i64 er]) (by simp [results, Try.results31, go_sem]) rfl ?_
    exact ⟨_, _, _, rfl, Below.refl _ _, .inr ⟨HD.out, HE.out, rfl, rfl⟩⟩
theorem run_slice_to (A : Option Addr) (n c k : Nat) (hk : k ≤ c) (W : World) : (Instr.slice 22 (.slice A n c) none (some (.int .i64 (k : Int))) none).run Try.prog W = .ok (.slice A k c) W := by
  simp [Instr.slice, run_underlying Try.underlying22, Instr.sliceBounds, Sem.run_bind, run_sliceBound_if]
  rw [if_pos hk]
  have e : (if c = 0 then A else Option.map (fun (x : Addr) => x.add 0) A) = A := by
    rcases A with _ | a
    · simp
    · simp [Addr.add]
  rw [e]
end Go.Proofs.Ytldlddoealpomaa
