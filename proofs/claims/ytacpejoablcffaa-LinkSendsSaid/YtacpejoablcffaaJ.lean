/- Send. -/
import Derived.Test.YtacpejoablcffaaI
namespace Go.Proofs.Ytacpejoablcffaa
open Go.RowKit Go.Lib

def ltE (a b : Fc) : Prop := a.1 < b.1 ∨ (a.1 = b.1 ∧ a.2.1 < b.2.1)
theorem ltE_trans {a b c : Fc} (h : ltE a b) (k : ltE b c) : ltE a c := by unfold ltE at *; omega
theorem cmpE_pos {t n t' n' : Int} (h : ¬ cmpE t n t' n' ≤ 0) : t' < t ∨ (t' = t ∧ n' < n) := by
  unfold cmpE orI cmpI at h
  by_cases h1 : t < t'
  · simp [h1] at h
  · by_cases h2 : t' < t
    · exact .inl h2
    · have e : t' = t := by omega
      subst e
      simp at h
      by_cases h3 : n < n'
      · simp [h3] at h
      · by_cases h4 : n' < n
        · exact .inr ⟨rfl, h4⟩
        · simp [h3, h4] at h
theorem cmpE_ge {t n t' n' : Int} : decide (0 ≤ cmpE t n t' n') = decide (t' < t ∨ (t' = t ∧ n' ≤ n)) := by
  rw [decide_eq_decide]
  unfold cmpE orI cmpI
  by_cases h1 : t < t'
  · simp [h1] <;> omega
  · by_cases h2 : t' < t
    · simp [h1, h2]
    · have e : t' = t := by omega
      subst e
      simp
      by_cases h3 : n < n'
      · simp [h3] <;> omega
      · by_cases h4 : n' < n
        · simp [h3, h4] <;> omega
        · simp [h3, h4] <;> omega
theorem prevE_some {pre : List Fc} {q e : Fc} (h : pre.getLast? = some q) : prevE pre e = badE e q := by unfold prevE; rw [h]
theorem chkR_ok (next : Int) : ∀ (r pre : List Fc), pre.Pairwise ltE → chkR next pre r = 0 → (∀ e ∈ r, fldC e next = 0) ∧ (pre ++ r).Pairwise ltE := by
  intro r
  induction r with
  | nil => intro pre hp _; exact ⟨fun e he => (by cases he), by simpa using hp⟩
  | cons e r ih =>
    intro pre hp h
    rw [chkR_cons] at h
    by_cases h0 : fldC e next = 0
    · rw [if_neg (by rw [h0]; simp)] at h
      by_cases h1 : prevE pre e = true
      · rw [if_pos h1] at h; omega
      · rw [if_neg h1] at h
        by_cases h2 : seenE pre e.2.1 = true
        · rw [if_pos h2] at h; omega
        · rw [if_neg h2] at h
          have hpe : (pre ++ [e]).Pairwise ltE := by
            rw [List.pairwise_append]
            refine ⟨hp, List.pairwise_singleton _ _, fun a ha b hb => ?_⟩
            rw [List.mem_singleton] at hb
            subst hb
            rcases hl : pre.getLast? with _ | q
            · rw [List.getLast?_eq_none_iff] at hl; subst hl; cases ha
            · have hb := h1
              rw [prevE_some hl] at hb
              unfold badE at hb
              have hlt := cmpE_pos (fun hc => hb (decide_eq_true hc))
              have hq : ltE q b := by unfold ltE; omega
              obtain ⟨p', hp'⟩ : ∃ p', pre = p' ++ [q] := by
                rcases List.getLast?_eq_some_iff.1 hl with ⟨p', hp'⟩
                exact ⟨p', hp'⟩
              rw [hp'] at ha hp
              rcases List.mem_append.1 ha with ha | ha
              · exact ltE_trans ((List.pairwise_append.1 hp).2.2 a ha q (List.mem_singleton.2 rfl)) hq
              · rw [List.mem_singleton] at ha; subst ha; exact hq
          obtain ⟨i1, i2⟩ := ih (pre ++ [e]) hpe h
          refine ⟨fun x hx => ?_, by simpa using i2⟩
          rcases List.mem_cons.1 hx with rfl | hx
          · exact h0
          · exact i1 x hx
    · rw [if_pos h0] at h; exact absurd h h0
theorem chk_ok {s : Lk} {l : List Fc} (h : chk s l = 0) : (0 ≤ s.mn ∧ s.mn ≤ s.mx ∧ s.mx ≤ 1073741824 ∧ 0 ≤ s.rt ∧ s.rt ≤ 65536) ∧ 0 ≤ s.idle ∧ s.idle ≤ 1073741824 ∧ 0 ≤ s.next ∧ s.next ≤ 1073741824 ∧ l.length ≤ 4096 ∧ (s.dn = true → l = []) ∧ (∀ e ∈ l, fldC e s.next = 0) ∧ l.Pairwise ltE := by
  unfold chk at h
  split at h
  · omega
  · rename_i h0
    split at h
    · omega
    · rename_i h1
      split at h
      · omega
      · rename_i h2
        split at h
        · omega
        · rename_i h3
          split at h
          · omega
          · rename_i h4
            obtain ⟨i1, i2⟩ := chkR_ok s.next l [] List.Pairwise.nil h
            have h0' : cfgB s.mn s.mx s.rt = true := by revert h0; cases cfgB s.mn s.mx s.rt <;> simp
            have h1' : timeB s.idle = true := by revert h1; cases timeB s.idle <;> simp
            unfold cfgB at h0'
            unfold timeB at h1'
            have h0'' := of_decide_eq_true h0'
            have h1'' := of_decide_eq_true h1'
            refine ⟨h0'', h1''.1, h1''.2, by omega, by omega, by omega, fun hd => ?_, i1, i2⟩
            rcases Nat.eq_zero_or_pos l.length with h | h
            · exact List.eq_nil_of_length_eq_zero h
            · exact absurd ⟨hd, h⟩ h4
theorem fldC_ok {e : Fc} {next : Int} (h : fldC e next = 0) : 0 ≤ e.1 ∧ e.1 ≤ 1073741824 ∧ 0 ≤ e.2.1 ∧ e.2.1 < next ∧ e.2.2.length ≤ 65536 := by
  unfold fldC fldI at h
  split at h
  · omega
  · rename_i h0
    have h0' : timeB e.1 = true := by revert h0; cases timeB e.1 <;> simp
    unfold timeB at h0'
    have := of_decide_eq_true h0'
    split at h
    · omega
    · split at h
      · omega
      · omega
/-- What Send gives. -/
def sendS (s : Lk) (l : List Fc) (now : Int) (p : List Nat) (ch : List Int) : Except Int (Lk × List Fc × List Int) :=
  if chk s l ≠ 0 then .error (chk s l) else if timeB now = false then .error 24 else if 65536 < p.length then .error 5 else if s.dn = true then .ok (s, l, ch) else
  if 1073741824 < max now s.idle + tik p.length s.rt + s.mx then .error 24 else if 4094 < l.length ∨ 1073741822 < s.next then .error 11 else
  .ok (⟨s.mn, s.mx, s.rt, s.dn, max now s.idle + tik p.length s.rt, s.next + (arr ch : Int)⟩, lau (max now s.idle + tik p.length s.rt) p (dls s.mn (s.mx - s.mn + 1) (arr ch) ch.tail) s.next l, ch.drop (arr ch + 1))
/-- The value of a link. -/
def vLk (s : Lk) (fv : Value) : Value := .agg #[.int .i64 s.mn, .int .i64 s.mx, .int .i64 s.rt, .bool s.dn, .int .i64 s.idle, .int .i64 s.next, fv]
/-- A link with flights of its own. -/
def OwnL (w : World) (B : Nat) (s : Lk) (l : List Fc) (v : Value) : Prop := ∃ (fv : Value) (vs : List Fl), v = vLk s fv ∧ w.ownsRow B 69 3 fv vs.length (vs.map cFl).flatten ∧ vs.map core = l ∧ ∀ x ∈ vs, Pay w x
def zLk : Value := .agg #[.int .i64 0, .int .i64 0, .int .i64 0, .bool false, .int .i64 0, .int .i64 0, .slice none 0 0]
def SendQ (w : World) (r : Except Int (Lk × List Fc × List Int)) (e : Ending) (w' : World) : Prop :=
  Below w.heap.size w w' ∧ ((∃ er, r = .error er ∧ er ≠ 0 ∧ e = .returned (.tuple #[zLk, .slice none 0 0, .int .i64 er])) ∨ (∃ s l ch v cv, r = .ok (s, l, ch) ∧ e = .returned (.tuple #[v, cv, .int .i64 0]) ∧ OwnL w' w.heap.size s l v ∧ w'.ownsRow w.heap.size 3 1 cv ch.length (ch.map intV)))
theorem timeB_le {t : Int} (h : timeB t = true) : 0 ≤ t ∧ t ≤ 1073741824 := by unfold timeB at h; exact of_decide_eq_true h
theorem tik_lo {m : Nat} {rate : Int} (h0 : 0 ≤ rate) : 0 ≤ tik m rate := by
  unfold tik
  split
  · omega
  · exact Int.ediv_nonneg (by omega) h0
theorem tik_hi {m : Nat} {rate : Int} (hm : m ≤ 65536) (h0 : 0 ≤ rate) : tik m rate ≤ 65536 := by
  unfold tik
  split
  · omega
  · have hr : 1 ≤ rate := by omega
    have h2 : ((m : Int) + rate - 1) / rate < 65537 := Int.ediv_lt_of_lt_mul (by omega) (by
      omega)
    omega
theorem dls_range {mn m : Int} (h : 0 < m) (h0 : 0 ≤ mn) (hm : mn + m ≤ 1073741825) : ∀ (k : Nat) (l : List Int), ∀ x ∈ dls mn m k l, 0 ≤ x ∧ x ≤ 1073741824 := by
  intro k
  induction k with
  | zero => intro l x hx; cases hx
  | succ k ih =>
    intro l x hx
    unfold dls at hx
    rcases List.mem_cons.1 hx with rfl | hx
    · have := dec_lo l h; have := dec_hi l h; omega
    · exact ih _ _ hx
theorem results_v2 {fn : Func} {p u u2 : Tmp} {ty : TypeId} (h : fn.results = #[.cell p ty, .tmp u, .tmp u2]) (tmps : Array Value) (w : World) (g : Nat) (v : Value)
    (hp : tmps.getD p undef = .pointer (some ⟨g, 0, none⟩)) (hlv : (loadVar ty ⟨g, 0, none⟩).run Try.prog w = .ok v w) (z : Value) (hz : tmps.getD u undef = z) (z2 : Value) (hz2 : tmps.getD u2 undef = z2) :
    (results fn tmps).run Try.prog w = .ok (.tuple #[v, z, z2]) w := by
  have hp' : tmps[p]?.getD undef = .pointer (some ⟨g, 0, none⟩) := by simpa using hp
  have hz' : tmps[u]?.getD undef = z := by simpa using hz
  have hz2' : tmps[u2]?.getD undef = z2 := by simpa using hz2
  simp [results, h, hp', hz', hz2', asAddr, hlv]
set_option maxHeartbeats 4000000 in
set_option maxRecDepth 100000 in
theorem send_any (s : Lk) (l : List Fl) (v : Value) (now : Int) (p : List Nat) (pv : Value) (ch : List Int) (cv : Value) (w : World) (hv : FL w v l) (hr : ∀ x ∈ l, R64 x.n) (hp : Byt w pv p) (hpn : NilOk pv) (hc : Ints w cv ch) (hcl : ch.length ≤ 1000000) :
    Calls Try.prog 18 #[vLk s v, .int .i64 now, pv, cv] w (SendQ w (sendS s (l.map core) now p ch)) := by
  obtain ⟨A, c, rfl⟩ := fl_form hv
  obtain ⟨pA, pc, rfl⟩ := byt_form hp
  obtain ⟨cA, cc, rfl⟩ := ints_form hc
  obtain ⟨N, hN⟩ : ∃ N, l.length = N := ⟨_, rfl⟩
  obtain ⟨M, hM⟩ : ∃ M, p.length = M := ⟨_, rfl⟩
  obtain ⟨C, hC⟩ : ∃ C, ch.length = C := ⟨_, rfl⟩
  rw [hN] at hv ⊢
  rw [hM] at hp hpn ⊢
  rw [hC] at hc hcl ⊢
  obtain ⟨mn, mx, rt, dn, idle, next⟩ := s
  unfold vLk
  dsimp only
  obtain ⟨g, hg⟩ : ∃ g, w.heap.size = g := ⟨_, rfl⟩
  obtain ⟨W1, hW1⟩ : ∃ W1, (w.alloc (.cells #[.int .i64 mn, .int .i64 mx, .int .i64 rt, .bool dn, .int .i64 idle, .int .i64 next, .slice A N c] 26)).alloc (.cells #[.int .i64 0, .int .i64 0, .int .i64 0, .bool false, .int .i64 0, .int .i64 0, .slice none 0 0] 26) = W1 := ⟨_, rfl⟩
  have hb1 : Below w.heap.size w W1 := by rw [← hW1]; exact ((Below.refl _ w).alloc (Nat.le_refl _) _).alloc (by simp) _
  have hx1 : W1.heap[g]? = some (.cells #[.int .i64 mn, .int .i64 mx, .int .i64 rt, .bool dn, .int .i64 idle, .int .i64 next, .slice A N c] 26) := by rw [← hW1, ← hg]; exact (Below.heap_alloc _ _ _ (by simp)).trans (heap_alloc_new w _)
  have hy1 : W1.heap[g + 1]? = some (.cells #[.int .i64 0, .int .i64 0, .int .i64 0, .bool false, .int .i64 0, .int .i64 0, .slice none 0 0] 26) := by rw [← hW1, ← hg]; simpa using heap_alloc_new (w.alloc (.cells #[.int .i64 mn, .int .i64 mx, .int .i64 rt, .bool dn, .int .i64 idle, .int .i64 next, .slice A N c] 26)) (.cells #[.int .i64 0, .int .i64 0, .int .i64 0, .bool false, .int .i64 0, .int .i64 0, .slice none 0 0] 26)
  have hz1 : W1.heap.size = g + 2 := by rw [← hW1, ← hg]; simp
  have HCK := hid (check_any ⟨mn, mx, rt, dn, idle, next⟩ l _ W1 (hv.below hb1) hr)
  obtain ⟨ck, hck⟩ : ∃ ck, chk ⟨mn, mx, rt, dn, idle, next⟩ (l.map core) = ck := ⟨_, rfl⟩
  rw [hck] at HCK
  obtain ⟨R, hR⟩ : ∃ R, sendS ⟨mn, mx, rt, dn, idle, next⟩ (l.map core) now p ch = R := ⟨_, rfl⟩
  have HR0 := hid hR
  rw [hR]
  have HR1 : Hid (R = if ck ≠ 0 then .error ck else if timeB now = false then .error 24 else if 65536 < M then .error 5 else if dn = true then .ok (⟨mn, mx, rt, dn, idle, next⟩, l.map core, ch) else
    if 1073741824 < max now idle + tik M rt + mx then .error 24 else if 4094 < N ∨ 1073741822 < next then .error 11 else
    .ok (⟨mn, mx, rt, dn, max now idle + tik M rt, next + (arr ch : Int)⟩, lau (max now idle + tik M rt) p (dls mn (mx - mn + 1) (arr ch) ch.tail) next (l.map core), ch.drop (arr ch + 1))) := hid (by
      rw [← hR]; unfold sendS; rw [hck, hM, List.length_map, hN])
  have HV := hid hv
  have HP := hid hp
  have HPN := hid hpn
  have HC := hid hc
  have HN := hid hN
  have HM := hid hM
  have HCC := hid hC
  have HB1 := hid hb1
  have HX1 := hid hx1
  have HY1 := hid hy1
  have HZ1 := hid hz1
  have HW1 := hid hW1
  have HG := hid hg
  have HCE := hid hck
  have x0 := cell_of_row _ _ 0 _ _ _ hx1
  have x1 := cell_of_row _ _ 1 _ _ _ hx1
  have x2 := cell_of_row _ _ 2 _ _ _ hx1
  have x3 := cell_of_row _ _ 3 _ _ _ hx1
  have x4 := cell_of_row _ _ 4 _ _ _ hx1
  have x5 := cell_of_row _ _ 5 _ _ _ hx1
  have x6 := cell_of_row _ _ 6 _ _ _ hx1
  clear hv hr hp hpn hc hN hM hC hb1 hx1 hy1 hz1 hW1 hg hck hR HR0
  go_enter Try.func18, Try.ntmps18
  go_wp2_with fail
  rw [HW1.out, HG.out]
  refine HCK.out.mono ?_
  rintro e w2 ⟨rfl, hb2⟩
  have HX2 := hid ((hb2.block _ (box_lt HX1.out)).trans HX1.out)
  have HY2 := hid ((hb2.block _ (box_lt HY1.out)).trans HY1.out)
  have HB2 := hid (HB1.out.trans (hb2.mono HB1.out.size))
  have hz2 : g + 2 ≤ w2.heap.size := by rw [← HZ1.out]; exact hb2.size
  clear hb2 HCK x0 x1 x2 x3 x4 x5 x6
  have x0 := cell_of_row _ _ 0 _ _ _ HX2.out
  have x1 := cell_of_row _ _ 1 _ _ _ HX2.out
  have x2 := cell_of_row _ _ 2 _ _ _ HX2.out
  have x3 := cell_of_row _ _ 3 _ _ _ HX2.out
  have x4 := cell_of_row _ _ 4 _ _ _ HX2.out
  have x5 := cell_of_row _ _ 5 _ _ _ HX2.out
  have x6 := cell_of_row _ _ 6 _ _ _ HX2.out
  have y0 := cell_of_row _ _ 0 _ _ _ HY2.out
  have y1 := cell_of_row _ _ 1 _ _ _ HY2.out
  have y2 := cell_of_row _ _ 2 _ _ _ HY2.out
  have y3 := cell_of_row _ _ 3 _ _ _ HY2.out
  have y4 := cell_of_row _ _ 4 _ _ _ HY2.out
  have y5 := cell_of_row _ _ 5 _ _ _ HY2.out
  have y6 := cell_of_row _ _ 6 _ _ _ HY2.out
  have fy0 := box_fr HY2.out 0
  have fy1 := box_fr HY2.out 1
  have fy2 := box_fr HY2.out 2
  have fy3 := box_fr HY2.out 3
  have fy4 := box_fr HY2.out 4
  have fy5 := box_fr HY2.out 5
  have fy6 := box_fr HY2.out 6
  by_cases hc0 : ck = 0
  rotate_left
  · have d1 : (ck != 0) = true := by rw [bne_iff_ne]; exact hc0
    have HR := hid (HR1.out.trans (if_pos hc0))
    have HC0 := hid hc0
    clear hc0
    go_wp2_with fail
    refine bodyPost_ret (results_v2 rfl _ _ (g + 1) _ rfl (lv26 (set7h _ _ _ _ _ _ _ HY2.out)) _ rfl _ rfl) rfl ?_
    exact ⟨set7b _ _ _ _ _ _ _ HB2.out (by rw [HG.out]; omega), .inl ⟨ck, HR.out, HC0.out, rfl⟩⟩
  subst hc0
  have HR2 := hid (HR1.out.trans (if_neg (by simp)))
  obtain ⟨⟨hc1, hc2, hc3, hc4, hc5⟩, hc6, hc7, hc8, hc9, hc10, hc11, hc12, _⟩ := chk_ok HCE.out
  dsimp only at hc1 hc2 hc3 hc4 hc5 hc6 hc7 hc8 hc9
  rw [List.length_map, HN.out] at hc10
  have HDN : Hid (dn = true → l.map core = []) := hid hc11
  have HFL : Hid (∀ x ∈ l, x.p.length ≤ 65536) := hid (fun x hx => (fldC_ok (hc12 (core x) (List.mem_map_of_mem hx))).2.2.2.2)
  clear hc11 hc12
  obtain ⟨bt, hbt⟩ : ∃ b, timeB now = b := ⟨_, rfl⟩
  have HTM := hid (fun W => isTime_any now W)
  rw [hbt] at HTM HR2
  have HBT := hid hbt
  clear hbt
  rcases bt with _ | _
  · have HR := hid (HR2.out.trans (if_pos rfl))
    go_wp2_with (first | (go_at_call 35; refine (HTM.out _).mono ?_; rintro e w' ⟨rfl, rfl⟩))
    refine bodyPost_ret (results_v2 rfl _ _ (g + 1) _ rfl (lv26 (set7h _ _ _ _ _ _ _ HY2.out)) _ rfl _ rfl) rfl ?_
    exact ⟨set7b _ _ _ _ _ _ _ HB2.out (by rw [HG.out]; omega), .inl ⟨24, HR.out, by decide, rfl⟩⟩
  have HR3 := hid (HR2.out.trans (if_neg (by simp)))
  obtain ⟨ht0, ht1⟩ := timeB_le HBT.out
  by_cases hm : 65536 < M
  · have dm : decide ((65536 : Int) < (M : Int)) = true := decide_eq_true (by omega)
    have HR := hid (HR3.out.trans (if_pos hm))
    clear hm
    go_wp2_with (first | (go_at_call 35; refine (HTM.out _).mono ?_; rintro e w' ⟨rfl, rfl⟩))
    refine bodyPost_ret (results_v2 rfl _ _ (g + 1) _ rfl (lv26 (set7h _ _ _ _ _ _ _ HY2.out)) _ rfl _ rfl) rfl ?_
    exact ⟨set7b _ _ _ _ _ _ _ HB2.out (by rw [HG.out]; omega), .inl ⟨5, HR.out, by decide, rfl⟩⟩
  have dm : decide ((65536 : Int) < (M : Int)) = false := decide_eq_false (by omega)
  have HR4 := hid (HR3.out.trans (if_neg hm))
  have HWI := hid (with_any mn mx rt dn idle next (.slice A N c) l (.slice A N c) w2 (HV.out.below HB2.out) (by rw [HN.out]; omega) (fun x hx => by have := HFL.out x hx; omega))
  have HRC := hid HC.out.1
  go_wp2_with fail
  refine (HTM.out _).mono ?_
  rintro e w3 ⟨rfl, hw3⟩
  have hw3' := hw3.symm
  subst hw3'
  clear hw3
  go_wp2_with fail
  refine HWI.out.mono ?_
  rintro e w3 ⟨fv, vs, rfl, ho3, hc3, hp3, hb3⟩
  have hvn : vs.length = N := by rw [map_cores hc3]; exact HN.out
  rw [hvn] at ho3
  obtain ⟨fA, fc, rfl⟩ := own_form69 ho3
  have HX3 := hid ((hb3.block _ (box_lt HX2.out)).trans HX2.out)
  have HY3 := hid ((hb3.block _ (box_lt HY2.out)).trans HY2.out)
  have HB3 := hid (HB2.out.trans (hb3.mono HB2.out.size))
  have hz3 : w2.heap.size ≤ w3.heap.size := hb3.size
  obtain ⟨B, hB⟩ : ∃ B, w2.heap.size = B := ⟨_, rfl⟩
  rw [hB] at ho3 hz2 hz3
  have HVC := hid hc3
  have HVN := hid hvn
  have HFR := hid (from_any ch (.slice cA C cc) w3 (HC.out.below HB3.out) (by rw [HCC.out]; omega))
  clear hb3 hB hc3 hvn x0 x1 x2 x3 x4 x5 x6 y0 y1 y2 y3 y4 y5 y6 fy0 fy1 fy2 fy3 fy4 fy5 fy6 HWI
  have HO3 := hid ho3
  have HP3 := hid hp3
  clear ho3 hp3
  go_wp2_with fail
  refine HFR.out.mono ?_
  rintro e w4 ⟨cb, rfl, hcb, hch4, hb4⟩
  obtain ⟨W5, hW5⟩ : ∃ X, w4.alloc (.cells #[.int .i64 mn, .int .i64 mx, .int .i64 rt, .bool dn, .int .i64 idle, .int .i64 next, .slice fA N fc] 26) = X := ⟨_, rfl⟩
  obtain ⟨a, ha⟩ : ∃ a, w4.heap.size = a := ⟨_, rfl⟩
  have hb5 : Below w4.heap.size w4 W5 := by rw [← hW5]; exact al1 _ _
  have hz4 : w3.heap.size ≤ w4.heap.size := hb4.size
  have hb45 : Below w3.heap.size w3 W5 := hb4.trans (hb5.mono hb4.size)
  have HA5 : Hid (W5.heap[a]? = some (.cells #[.int .i64 mn, .int .i64 mx, .int .i64 rt, .bool dn, .int .i64 idle, .int .i64 next, .slice fA N fc] 26)) := hid (by rw [← hW5, ← ha]; exact heap_alloc_new _ _)
  have HX5 := hid ((hb45.block _ (box_lt HX3.out)).trans HX3.out)
  have HY5 := hid ((hb45.block _ (box_lt HY3.out)).trans HY3.out)
  have HO5 := hid (own_keep HO3.out (keep_below hb45))
  have HP5 := hid (fun x hx => (HP3.out x hx).keep (keep_below hb45))
  have HB5 := hid (HB3.out.trans (hb45.mono HB3.out.size))
  have HC5 : Hid (Chs a W5 cb ch) := hid (by rw [← ha]; exact hch4.below hb5 (Nat.le_refl _))
  have hs5 : W5.heap.size = a + 1 := by rw [← hW5, ← ha]; simp
  have hBa : B ≤ a := by omega
  have hga : g + 2 ≤ a := by omega
  have hcba : cb < a := by obtain ⟨_, _, _, h, _⟩ := HC5.out; exact h
  have HW5 := hid hW5
  have HA := hid ha
  have hcbg : g ≤ cb := by omega
  clear hb4 hb5 hb45 hch4 hcb hz3 hz4 hW5 ha
  have x3 : (w4.alloc (.cells #[.int .i64 mn, .int .i64 mx, .int .i64 rt, .bool dn, .int .i64 idle, .int .i64 next, .slice fA N fc] 26)).cell? ⟨g, 3, none⟩ = some (.bool dn) := by rw [HW5.out]; exact cell_of_row _ _ 3 _ _ _ HX5.out
  rcases dn with _ | _
  rotate_left
  · go_wp2_with fail
    rw [HW5.out, HA.out]
    clear x3
    have a0 := cell_of_row _ _ 0 _ _ _ HA5.out
    have a1 := cell_of_row _ _ 1 _ _ _ HA5.out
    have a2 := cell_of_row _ _ 2 _ _ _ HA5.out
    have a3 := cell_of_row _ _ 3 _ _ _ HA5.out
    have a4 := cell_of_row _ _ 4 _ _ _ HA5.out
    have a5 := cell_of_row _ _ 5 _ _ _ HA5.out
    have a6 := cell_of_row _ _ 6 _ _ _ HA5.out
    have n1 : g + 1 ≠ a := by omega
    have n2 : a ≠ g + 1 := by omega
    have y0 := cell_of_row _ _ 0 _ _ _ HY5.out
    have y1 := cell_of_row _ _ 1 _ _ _ HY5.out
    have y2 := cell_of_row _ _ 2 _ _ _ HY5.out
    have y3 := cell_of_row _ _ 3 _ _ _ HY5.out
    have y4 := cell_of_row _ _ 4 _ _ _ HY5.out
    have y5 := cell_of_row _ _ 5 _ _ _ HY5.out
    have y6 := cell_of_row _ _ 6 _ _ _ HY5.out
    have fy0 := box_fr HY5.out 0
    have fy1 := box_fr HY5.out 1
    have fy2 := box_fr HY5.out 2
    have fy3 := box_fr HY5.out 3
    have fy4 := box_fr HY5.out 4
    have fy5 := box_fr HY5.out 5
    have fy6 := box_fr HY5.out 6
    have HLE := hid (left_any a cb ch W5.drew (HC5.out.below (Below.refl _ _).drew (by omega)) (by rw [HCC.out]; omega))
    go_region_held3 (fun X => X.cell? ⟨a, 0, none⟩ = some (.int .i64 mn) ∧ X.cell? ⟨a, 1, none⟩ = some (.int .i64 mx) ∧ X.cell? ⟨a, 2, none⟩ = some (.int .i64 rt) ∧ X.cell? ⟨a, 3, none⟩ = some (.bool true) ∧ X.cell? ⟨a, 4, none⟩ = some (.int .i64 idle) ∧ X.cell? ⟨a, 5, none⟩ = some (.int .i64 (next)) ∧ X.cell? ⟨a, 6, none⟩ = some (.slice fA N fc)) (go_keep)
      (first | (go_at_call 40; refine HLE.out.mono ?_; rintro e w6 ⟨v6, rfl, ho6, hb6'⟩; obtain ⟨lA, lc, rfl⟩ := own_formE ho6; have hb6 : Below W5.heap.size W5 w6 := ⟨hb6'.os, hb6'.tape, hb6'.output, hb6'.size, hb6'.block⟩; have HO6 := hid (own_keep HO5.out (keep_below hb6)); have HP6 := hid (fun x hx => (HP5.out x hx).keep (keep_below hb6)); have HA6 := hid ((hb6.block _ (box_lt HA5.out)).trans HA5.out); have HY6 := hid ((hb6.block _ (box_lt HY5.out)).trans HY5.out); have HB6 := hid (HB5.out.trans (hb6.mono HB5.out.size)); have HL6 := hid ho6; have a0 := cell_of_row _ _ 0 _ _ _ HA6.out; have a1 := cell_of_row _ _ 1 _ _ _ HA6.out; have a2 := cell_of_row _ _ 2 _ _ _ HA6.out; have a3 := cell_of_row _ _ 3 _ _ _ HA6.out; have a4 := cell_of_row _ _ 4 _ _ _ HA6.out; have a5 := cell_of_row _ _ 5 _ _ _ HA6.out; have a6 := cell_of_row _ _ 6 _ _ _ HA6.out; have y0 := cell_of_row _ _ 0 _ _ _ HY6.out; have y1 := cell_of_row _ _ 1 _ _ _ HY6.out; have y2 := cell_of_row _ _ 2 _ _ _ HY6.out; have y3 := cell_of_row _ _ 3 _ _ _ HY6.out; have y4 := cell_of_row _ _ 4 _ _ _ HY6.out; have y5 := cell_of_row _ _ 5 _ _ _ HY6.out; have y6 := cell_of_row _ _ 6 _ _ _ HY6.out; have fy0 := box_fr HY6.out 0; have fy1 := box_fr HY6.out 1; have fy2 := box_fr HY6.out 2; have fy3 := box_fr HY6.out 3; have fy4 := box_fr HY6.out 4; have fy5 := box_fr HY6.out 5; have fy6 := box_fr HY6.out 6; clear ho6 hb6 hb6'))
    go_wp2_with fail
    refine bodyPost_ret (results_v2 rfl _ _ (g + 1) _ rfl (lv26 (set7h _ _ _ _ _ _ _ HY6.out)) _ rfl _ rfl) rfl ?_
    refine ⟨set7b _ _ _ _ _ _ _ HB6.out (by rw [HG.out]; omega), .inr ⟨⟨mn, mx, rt, true, idle, next⟩, l.map core, ch, _, _, HR4.out.trans (by first | exact if_pos rfl | exact if_pos trivial), rfl, ⟨.slice fA N fc, vs, rfl, ?_, HVC.out, fun x hx => ?_⟩, ?_⟩⟩
    · rw [HVN.out]
      exact own_base (set7r _ _ _ _ _ _ _ HO6.out (own_ne HO6.out HY6.out (by decide))) (by rw [HG.out]; omega)
    · refine (HP6.out x hx).keep (fun q cs hq => (set7o _ _ _ _ _ _ _ (fun e => ?_)).trans hq)
      rw [e, HY6.out] at hq
      cases hq
    · exact own_base (set7r _ _ _ _ _ _ _ HL6.out (own_ne HL6.out HY6.out (by decide))) (by have := HB5.out.size; exact this)
  · have HR5 := hid (HR4.out.trans (by first | exact if_neg (by decide) | exact if_neg not_false))
    obtain ⟨tk, htk⟩ : ∃ tk, tik M rt = tk := ⟨_, rfl⟩
    have htk0 : 0 ≤ tk := by rw [← htk]; exact tik_lo hc4
    have htk1 : tk ≤ 65536 := by rw [← htk]; exact tik_hi (by omega) hc4
    rw [htk] at HR5
    obtain ⟨mi, hmi⟩ : ∃ mi, max now idle = mi := ⟨_, rfl⟩
    have hmi0 : 0 ≤ mi ∧ mi ≤ 1073741824 := by omega
    rw [hmi] at HR5
    have HTK := hid (fun W => ticks_any M rt W (by omega) hc4 (by omega))
    rw [htk] at HTK
    have HMI := hid hmi
    have HTKK := hid htk
    clear htk hmi
    have x0 : (w4.alloc (.cells #[.int .i64 mn, .int .i64 mx, .int .i64 rt, .bool false, .int .i64 idle, .int .i64 next, .slice fA N fc] 26)).cell? ⟨g, 4, none⟩ = some (.int .i64 idle) := by rw [HW5.out]; exact cell_of_row _ _ 4 _ _ _ HX5.out
    go_wp2_with fail
    rw [HW5.out, HA.out]
    clear x3 x0
    have x2 := cell_of_row _ _ 2 _ _ _ HX5.out
    have x4 := cell_of_row _ _ 4 _ _ _ HX5.out
    have z4 := cell_of_row _ _ 4 _ _ _ HA5.out
    have fz := box_fr HA5.out 4
    have n1 : g ≠ a := by omega
    have n2 : a ≠ g := by omega
    obtain ⟨id2, hid2⟩ : ∃ x, mi + tk = x := ⟨_, rfl⟩
    rw [hid2] at HR5
    have e1 : IntKind.i64.wrap (max now idle + tk) = id2 := by rw [HMI.out, IntKind.wrap_i64]; omega
    have hi0 : 0 ≤ id2 ∧ id2 ≤ 1073807360 := by omega
    clear hid2
    go_region_held3 (fun X => X.cell? ⟨g, 4, none⟩ = some (.int .i64 idle) ∧ X.cell? ⟨g, 2, none⟩ = some (.int .i64 rt)) (go_keep)
      (first | (go_at_call 41; refine (HTK.out _).mono ?_; rintro e w6 ⟨rfl, rfl⟩))
    all_goals
      obtain ⟨W6, hW6⟩ : ∃ X, (W5.setCell ⟨a, 4, none⟩ (.int .i64 id2)).drew = X := ⟨_, rfl⟩
      rw [hW6]
      have hbx := box_set (cs := [Value.int .i64 mn, Value.int .i64 mx, .int .i64 rt, .bool false, .int .i64 idle, .int .i64 next, .slice fA N fc]) HA5.out 4 (.int .i64 id2)
      have hu6 : Upd a W5 W6 := by rw [← hW6]; exact ((Upd.refl a W5).set 4 _).drew
      have HA6 : Hid (W6.heap[a]? = some (.cells #[.int .i64 mn, .int .i64 mx, .int .i64 rt, .bool false, .int .i64 id2, .int .i64 next, .slice fA N fc] 26)) := hid (by rw [← hW6]; exact hbx)
      have HX6 := hid ((hu6.block g (box_lt HX5.out) n1).trans HX5.out)
      have HY6 := hid ((hu6.block (g + 1) (box_lt HY5.out) (by omega)).trans HY5.out)
      have HO6 := hid (own_keep HO5.out (keep_updc hu6 HA5.out (by decide)))
      have HP6 := hid (fun x hx => (HP5.out x hx).keep (keep_updc hu6 HA5.out (by decide)))
      have HC6 : Hid (Chs a W6 cb ch) := hid (HC5.out.upd hu6 (by rw [hs5]; omega) (Nat.le_refl _))
      have HB6 : Hid (Below w.heap.size w W6) := hid (by rw [← hW6]; exact (HB5.out.setCell (p := ⟨a, 4, none⟩) (by rw [HG.out]; show g ≤ a; omega) _).drew)
      have hs6 : a + 1 ≤ W6.heap.size := by rw [← hs5]; exact hu6.low.size
      clear hbx hu6 hW6 x2 x4 z4 fz e1
      have x1 := cell_of_row _ _ 1 _ _ _ HX6.out
      have x5 := cell_of_row _ _ 5 _ _ _ HX6.out
      have x6 := cell_of_row _ _ 6 _ _ _ HX6.out
      have z4 := cell_of_row _ _ 4 _ _ _ HA6.out
      have y0 := cell_of_row _ _ 0 _ _ _ HY6.out
      have y1 := cell_of_row _ _ 1 _ _ _ HY6.out
      have y2 := cell_of_row _ _ 2 _ _ _ HY6.out
      have y3 := cell_of_row _ _ 3 _ _ _ HY6.out
      have y4 := cell_of_row _ _ 4 _ _ _ HY6.out
      have y5 := cell_of_row _ _ 5 _ _ _ HY6.out
      have y6 := cell_of_row _ _ 6 _ _ _ HY6.out
      have fy0 := box_fr HY6.out 0
      have fy1 := box_fr HY6.out 1
      have fy2 := box_fr HY6.out 2
      have fy3 := box_fr HY6.out 3
      have fy4 := box_fr HY6.out 4
      have fy5 := box_fr HY6.out 5
      have fy6 := box_fr HY6.out 6
      have e2 : IntKind.i64.wrap (1073741824 - id2) = 1073741824 - id2 := by rw [IntKind.wrap_i64]; omega
      by_cases h6 : 1073741824 < id2 + mx
      · have d6 : decide (1073741824 - id2 < mx) = true := decide_eq_true (by omega)
        have HR := hid (HR5.out.trans (if_pos h6))
        clear h6
        go_wp2_with fail
        refine bodyPost_ret (results_v2 rfl _ _ (g + 1) _ rfl (lv26 (set7h _ _ _ _ _ _ _ HY6.out)) _ rfl _ rfl) rfl ?_
        exact ⟨set7b _ _ _ _ _ _ _ HB6.out (by rw [HG.out]; omega), .inl ⟨24, HR.out, by decide, rfl⟩⟩
      have d6 : decide (1073741824 - id2 < mx) = false := decide_eq_false (by omega)
      have HR6 := hid (HR5.out.trans (if_neg h6))
      by_cases h7 : 4094 < N ∨ 1073741822 < next
      · have HR := hid (HR6.out.trans (if_pos h7))
        by_cases h8 : 4094 < N
        · have d8 : decide ((4094 : Int) < (N : Int)) = true := decide_eq_true (by omega)
          clear h6 h7 h8
          go_wp2_with fail
          refine bodyPost_ret (results_v2 rfl _ _ (g + 1) _ rfl (lv26 (set7h _ _ _ _ _ _ _ HY6.out)) _ rfl _ rfl) rfl ?_
          exact ⟨set7b _ _ _ _ _ _ _ HB6.out (by rw [HG.out]; omega), .inl ⟨11, HR.out, by decide, rfl⟩⟩
        · have d8 : decide ((4094 : Int) < (N : Int)) = false := decide_eq_false (by omega)
          have d9 : decide ((1073741822 : Int) < next) = true := decide_eq_true (by omega)
          clear h6 h7 h8
          go_wp2_with fail
          refine bodyPost_ret (results_v2 rfl _ _ (g + 1) _ rfl (lv26 (set7h _ _ _ _ _ _ _ HY6.out)) _ rfl _ rfl) rfl ?_
          exact ⟨set7b _ _ _ _ _ _ _ HB6.out (by rw [HG.out]; omega), .inl ⟨11, HR.out, by decide, rfl⟩⟩
      have d8 : decide ((4094 : Int) < (N : Int)) = false := decide_eq_false (by omega)
      have d9 : decide ((1073741822 : Int) < next) = false := decide_eq_false (by omega)
      have HR7 := hid (HR6.out.trans (if_neg h7))
      have hN4 : N ≤ 4094 := by omega
      have hnx : next ≤ 1073741822 := by omega
      have HDL := hid (delays_any a mn mx rt cb ch W6 HC6.out (by omega) hc1 hc2 hc3)
      have hi1 : id2 ≤ 1073741824 := by omega
      clear fy0 fy1 fy2 fy3 fy4 fy5 fy6 y0 y1 y2 y3 y4 y5 y6 h6 h7
      have x0 := cell_of_row _ _ 0 _ _ _ HX6.out
      have x2 := cell_of_row _ _ 2 _ _ _ HX6.out
      go_wp2_with fail
      refine HDL.out.mono ?_
      rintro e w7 ⟨dv, rfl, hd7, hc7', hu7⟩
      have hcbx : ∃ u, W6.heap[cb]? = some (.cells #[u] 93) := by obtain ⟨u, h, _⟩ := HC6.out; exact ⟨u, h⟩
      obtain ⟨u7, hcbx⟩ := hcbx
      obtain ⟨k, hk⟩ : ∃ k, arr ch = k := ⟨_, rfl⟩
      obtain ⟨ds, hds⟩ : ∃ ds, dls mn (mx - mn + 1) (arr ch) ch.tail = ds := ⟨_, rfl⟩
      have hdl : ds.length = k := by rw [← hds, dls_len, hk]
      have hk2 : k ≤ 2 := by rw [← hk]; exact arr_le ch
      have hdr : ∀ x ∈ ds, 0 ≤ x ∧ x ≤ 1073741824 := by rw [← hds]; exact dls_range (by omega) hc1 (by omega) _ _
      rw [hds] at hd7
      rw [hk] at hd7 hc7'
      rw [← hdl] at hd7
      have HA7 := hid ((hu7.block a (box_lt HA6.out) (by omega)).trans HA6.out)
      have HY7 := hid ((hu7.block (g + 1) (box_lt HY6.out) (by have h1 := hcbx; intro e; rw [← e, HY6.out] at h1; cases h1)).trans HY6.out)
      have hw7 : Below w.heap.size w w7 := HB6.out.trans (hu7.below (by rw [HG.out]; exact hcbg) HB6.out.size)
      have hs7 : a + 1 ≤ w7.heap.size := Nat.le_trans hs6 hu7.low.size
      have HLA := hid (launch_any B a mn mx rt false id2 next (.slice fA N fc) (.slice pA M pc) dv vs p ds W6.heap.size w w7 HA7.out hBa (by omega) (by rw [HVN.out]; exact own_keep HO6.out (keep_updc hu7 hcbx (by decide))) (fun x hx => (HP6.out x hx).keep (keep_updc hu7 hcbx (by decide))) HP.out HPN.out (by rw [HM.out]; omega) hw7 (by rw [HG.out]; omega) hd7 (by omega) hdr (by omega) hi1 hc8 (by omega) (by rw [HVN.out]; omega))
      rw [HVC.out, hdl] at HLA
      have HC7 := hid hc7'
      have HW7 := hid hw7
      have HK := hid hk
      have HDS := hid hds
      have HR8 := HR7
      rw [hds, hk] at HR8
      clear hd7 hc7' hu7 hcbx hdl hdr hw7 hk hds
      go_wp2_with fail
      refine HLA.out.mono ?_
      rintro e w8 ⟨rfl, fv8, vs8, hl8, ho8, hv8, hp8, hkp8, hb8⟩
      have HA8 := hid hl8
      have HY8 := hid ((hb8.block (g + 1) (by omega)).trans HY7.out)
      have HO8 := hid ho8
      have HP8 := hid hp8
      have HV8 := hid hv8
      have HB8 := hid (HW7.out.trans (hb8.mono (by rw [HG.out]; omega)))
      have hs8 : a + 1 ≤ w8.heap.size := Nat.le_trans hs7 hb8.size
      obtain ⟨ch8, hch8⟩ : ∃ x, ch.drop (k + 1) = x := ⟨_, rfl⟩
      have hc8' : Chs a w8 cb ch8 := by rw [← hch8]; exact HC7.out.keep hb8.size (hkp8 93 (by decide) (by decide)) (hkp8 3 (by decide) (by decide))
      rw [hch8] at HR8
      have hcl8 : ch8.length ≤ 900000000000 := by rw [← hch8, List.length_drop, HCC.out]; omega
      have HLE := hid (left_any a cb ch8 w8.drew (hc8'.below (Below.refl _ _).drew (by omega)) hcl8)
      obtain ⟨fA8, fc8, rfl⟩ := own_form69 HO8.out
      have n3 : g + 1 ≠ a := by omega
      have n4 : a ≠ g + 1 := by omega
      clear hl8 ho8 hv8 hp8 hkp8 hb8 hch8 hc8' HLA x0 x1 x2 x5 x6 z4 e2 n1 n2
      have z0 := cell_of_row _ _ 0 _ _ _ HA8.out
      have z1 := cell_of_row _ _ 1 _ _ _ HA8.out
      have z2 := cell_of_row _ _ 2 _ _ _ HA8.out
      have z3 := cell_of_row _ _ 3 _ _ _ HA8.out
      have z4 := cell_of_row _ _ 4 _ _ _ HA8.out
      have z5 := cell_of_row _ _ 5 _ _ _ HA8.out
      have z6 := cell_of_row _ _ 6 _ _ _ HA8.out
      have y0 := cell_of_row _ _ 0 _ _ _ HY8.out
      have y1 := cell_of_row _ _ 1 _ _ _ HY8.out
      have y2 := cell_of_row _ _ 2 _ _ _ HY8.out
      have y3 := cell_of_row _ _ 3 _ _ _ HY8.out
      have y4 := cell_of_row _ _ 4 _ _ _ HY8.out
      have y5 := cell_of_row _ _ 5 _ _ _ HY8.out
      have y6 := cell_of_row _ _ 6 _ _ _ HY8.out
      have fy0 := box_fr HY8.out 0
      have fy1 := box_fr HY8.out 1
      have fy2 := box_fr HY8.out 2
      have fy3 := box_fr HY8.out 3
      have fy4 := box_fr HY8.out 4
      have fy5 := box_fr HY8.out 5
      have fy6 := box_fr HY8.out 6
      go_wp2_with fail
      go_region_held3 (fun X => X.cell? ⟨a, 0, none⟩ = some (.int .i64 mn) ∧ X.cell? ⟨a, 1, none⟩ = some (.int .i64 mx) ∧ X.cell? ⟨a, 2, none⟩ = some (.int .i64 rt) ∧ X.cell? ⟨a, 3, none⟩ = some (.bool false) ∧ X.cell? ⟨a, 4, none⟩ = some (.int .i64 id2) ∧ X.cell? ⟨a, 5, none⟩ = some (.int .i64 (next + (k : Int))) ∧ X.cell? ⟨a, 6, none⟩ = some (.slice fA8 vs8.length fc8)) (go_keep)
        (first | (go_at_call 40; refine HLE.out.mono ?_; rintro e w9 ⟨v9, rfl, ho9, hb9'⟩; obtain ⟨lA, lc, rfl⟩ := own_formE ho9; have hb9 : Below w8.heap.size w8 w9 := ⟨hb9'.os, hb9'.tape, hb9'.output, hb9'.size, hb9'.block⟩; have HO9 := hid (own_keep HO8.out (keep_below hb9)); have HP9 := hid (fun x hx => (HP8.out x hx).keep (keep_below hb9)); have HA9 := hid ((hb9.block _ (box_lt HA8.out)).trans HA8.out); have HY9 := hid ((hb9.block _ (box_lt HY8.out)).trans HY8.out); have HB9 := hid (HB8.out.trans (hb9.mono HB8.out.size)); have HL9 := hid ho9; have z0 := cell_of_row _ _ 0 _ _ _ HA9.out; have z1 := cell_of_row _ _ 1 _ _ _ HA9.out; have z2 := cell_of_row _ _ 2 _ _ _ HA9.out; have z3 := cell_of_row _ _ 3 _ _ _ HA9.out; have z4 := cell_of_row _ _ 4 _ _ _ HA9.out; have z5 := cell_of_row _ _ 5 _ _ _ HA9.out; have z6 := cell_of_row _ _ 6 _ _ _ HA9.out; have y0 := cell_of_row _ _ 0 _ _ _ HY9.out; have y1 := cell_of_row _ _ 1 _ _ _ HY9.out; have y2 := cell_of_row _ _ 2 _ _ _ HY9.out; have y3 := cell_of_row _ _ 3 _ _ _ HY9.out; have y4 := cell_of_row _ _ 4 _ _ _ HY9.out; have y5 := cell_of_row _ _ 5 _ _ _ HY9.out; have y6 := cell_of_row _ _ 6 _ _ _ HY9.out; have fy0 := box_fr HY9.out 0; have fy1 := box_fr HY9.out 1; have fy2 := box_fr HY9.out 2; have fy3 := box_fr HY9.out 3; have fy4 := box_fr HY9.out 4; have fy5 := box_fr HY9.out 5; have fy6 := box_fr HY9.out 6; clear ho9 hb9 hb9'))
      go_wp2_with fail
      refine bodyPost_ret (results_v2 rfl _ _ (g + 1) _ rfl (lv26 (set7h _ _ _ _ _ _ _ HY9.out)) _ rfl _ rfl) rfl ?_
      refine ⟨set7b _ _ _ _ _ _ _ HB9.out (by rw [HG.out]; omega), .inr ⟨⟨mn, mx, rt, false, id2, next + (k : Int)⟩, _, ch8, _, _, HR8.out, rfl, ⟨.slice fA8 vs8.length fc8, vs8, rfl, ?_, HV8.out, fun x hx => ?_⟩, ?_⟩⟩
      · exact own_base (set7r _ _ _ _ _ _ _ HO9.out (own_ne HO9.out HY9.out (by decide))) (by rw [HG.out]; omega)
      · refine (HP9.out x hx).keep (fun q cs hq => (set7o _ _ _ _ _ _ _ (fun e => ?_)).trans hq)
        rw [e, HY9.out] at hq
        cases hq
      · exact own_base (set7r _ _ _ _ _ _ _ HL9.out (own_ne HL9.out HY9.out (by decide))) (by have := HB8.out.size; exact this)
end Go.Proofs.Ytacpejoablcffaa
