/- The reference's Decode. -/
import Derived.Test.YtldlddoealpomaaO
namespace Go.Proofs.Ytldlddoealpomaa
open Go.RowKit Go.Lib

/-- What u reads lies in no row that o owns. -/
def Apart (u o : Value) : Prop := ∀ a n c, u = .slice (some a) n c → 0 < n → o.ownBlock ≠ some a.block
theorem byt_grown {w w2 : World} {u o : Value} {s : List Nat} (h : Byt w u s) (hg : w.grownBy w2 o.ownBlock) (ha : Apart u o) : Byt w2 u s := by
  obtain ⟨h8, A, c, rfl, h1, h2, b, off, hA, hc⟩ := h
  refine ⟨h8, A, c, rfl, h1, h2, b, off, fun hp => ⟨(hA hp).1, Nat.lt_of_lt_of_le (hA hp).2 hg.size⟩, fun i x hx => ?_⟩
  have hp : 0 < s.length := by have := (List.getElem?_eq_some_iff.1 hx).1; omega
  obtain ⟨rfl, hb⟩ := hA hp
  have hne := ha _ _ _ rfl hp
  exact (World.cell?_of_block (hg.block b hb (fun e => hne e.symm))).trans (hc i x hx)
set_option maxRecDepth 100000 in
theorem append_byt_at {ops : Array Oper} {rest : List Oper} {o : Oper} {a : Act} {w : World} {Q : Exit → Act → World → Prop} (hgd : o.guard = none) (s x : Operand) (ho : o.op = .call { callee := .builtin .append, args := #[s, x], argTypes := #[22, 22] })
    (base : Nat) (v : Value) (k : Nat) (xs : List Value) (hs : a.eval s = v) (hown : w.ownsRow base 5 1 v k xs) (l : List Nat) (u : Value) (hx : a.eval x = u) (hsrc : Byt w u l) (hnil : NilOk u) (hk : k + l.length ≤ 1000000000000) (hbase : base ≤ w.heap.size)
    (h : ∀ v' w', w'.ownsRow base 5 1 v' (k + l.length) (xs ++ l.map byteV) → w.grownBy w' v.ownBlock → (v'.ownBlock = v.ownBlock ∨ v'.ownBlock = some w.heap.size) → wpList Try.prog ops Q rest (a.put o.dst v') w') : wpList Try.prog ops Q (o :: rest) a w := by
  obtain ⟨i0, hi, hz0, hz1, hz2⟩ := info_parts info5
  obtain ⟨h8, A, cap, rfl, hcap, hcm, b, off, hA, hc⟩ := hsrc
  rcases A with _ | ad
  · have hl : l = [] := by
      rcases Nat.eq_zero_or_pos l.length with h0 | h0
      · exact List.eq_nil_of_length_eq_zero h0
      · have := (hA h0).1; cases this
    subst hl
    have hc0 : cap = 0 := hnil _ _ rfl
    subst hc0
    refine wpList_append_own_none hgd s x 22 ho base 5 i0 1 Try.underlying22 hi v k xs hs hown hx ?_
    exact h v w (by simpa using hown) (World.grownBy.refl w _) (.inl rfl)
  · refine wpList_append_own_at (w := w) hgd s x 22 ho base 5 i0 _ 1 1 Try.underlying22 hi hz0 hz1 hz2 rfl (by decide) v k xs hs hown ad l.length cap (l.map byteV) hx (by simp) ?_ (byteV_one l) (by unfold maxLen; omega) (by omega) hbase ?_
    · intro j u hu
      rw [List.getElem?_map] at hu
      obtain ⟨z, hz, rfl⟩ := Option.map_eq_some_iff.1 hu
      have hj := (List.getElem?_eq_some_iff.1 hz).1
      have hA1 := (hA (by omega)).1
      injection hA1 with hA1
      subst hA1
      rw [show (⟨b, off, none⟩ : Addr).add j = ⟨b, off + j, none⟩ by unfold Addr.add; split <;> simp_all]
      exact hc j z hz
    · exact fun v' w' h1 h2 _ h4 => h v' w' h1 h2 h4
theorem apart_at {w : World} {u o o' : Value} {s : List Nat} (h : Byt w u s) (ha : Apart u o) (hat : o'.ownBlock = o.ownBlock ∨ o'.ownBlock = some w.heap.size) : Apart u o' := fun a n c e hn => by
  rcases hat with hat | hat
  · rw [hat]; exact ha a n c e hn
  · rw [hat]
    obtain ⟨_, A, c', e', _, _, b, off, hA, _⟩ := h
    rw [e] at e'
    injection e' with e1 e2
    obtain ⟨h1, h2⟩ := hA (by omega)
    rw [← e1] at h1
    injection h1 with h1
    subst h1
    intro e3
    injection e3 with e3
    dsimp only at e3
    omega
theorem apart_old {w w2 : World} {base n : Nat} {u o : Value} {xs : List Value} {s : List Nat} (h : Byt w u s) (ho : w2.ownsRow base 5 1 o n xs) (hb : w.heap.size ≤ base) : Apart u o := fun a m c e hm e2 => by
  obtain ⟨_, A, c', e', _, _, b, off, hA, _⟩ := h
  rw [e] at e'
  injection e' with e1 e3
  obtain ⟨h1, h2⟩ := hA (by omega)
  rw [← e1] at h1
  injection h1 with h1
  subst h1
  have := (ho.lt _ e2).1
  dsimp only at this
  omega
/-- What is read later. -/
theorem apart_sub {A A' : Option Addr} {n n' c c' : Nat} {o : Value} (h : Apart (.slice A n c) o) (hA : ∀ a, A' = some a → 0 < n' → ∃ b, A = some b ∧ b.block = a.block ∧ 0 < n) : Apart (.slice A' n' c') o := fun a m k e hm => by
  injection e with e1 e2
  obtain ⟨b, hb, hbb, hn⟩ := hA a e1 (by omega)
  rw [← hbb]
  exact h b n c (by rw [hb]) hn
theorem apart_from {A : Option Addr} {n c k : Nat} {o : Value} (h : Apart (.slice A n c) o) : Apart (.slice (fromA A c k) (n - k) (c - k)) o := apart_sub h (fun a ha hp => by
  unfold fromA at ha
  split at ha
  · exact ⟨a, ha, rfl, by omega⟩
  · rcases A with _ | b
    · cases ha
    · injection ha with ha
      subst ha
      refine ⟨b, rfl, ?_, by omega⟩
      unfold Addr.add
      split <;> rfl)
/-- A row of one's own that was made behind o lies apart from it. -/
theorem apart_new {w : World} {base n m : Nat} {u o : Value} {xs ys : List Value} {base' : Nat} (hu : w.ownsRow base 5 1 u n xs) {w0 : World} (ho : w0.ownsRow base' 5 1 o m ys) (hb : w0.heap.size ≤ base) : Apart u o := fun a k c e hk e2 => by
  have h1 := (ho.lt _ e2).2
  subst e
  have h2 := (hu.lt a.block rfl).1
  omega
/-- What the reference's Int answers: the rest in a row of its own. -/
def RintQ (w : World) (s : List Nat) (e : Ending) (w' : World) : Prop :=
  ∃ v r er, e = .returned (.tuple #[v, r, .int .i64 er]) ∧ Below w.heap.size w w' ∧ ((∃ x t, dNum s = .ok (x, t) ∧ er = 0 ∧ v = .int .i64 (x : Int) ∧ B8 t ∧ w'.ownsRow w.heap.size 5 1 r t.length (t.map byteV)) ∨ (dNum s = .error er ∧ er ≠ 0 ∧ v = .int .i64 0 ∧ r = .slice .none 0 0))
set_option maxHeartbeats 2000000 in
set_option maxRecDepth 100000 in
theorem rint_own (s : List Nat) (v : Value) (w : World) (hv : Byt w v s) (hn : NilOk v) (hl : s.length ≤ 90000) :
    Calls Try.prog 31 #[v] w (RintQ w s) := by
  have HP := hid (rrnum s v w hv)
  have H8 := hid hv.1
  obtain ⟨A, c, rfl⟩ := byt_form hv
  have HV := hid hv
  have HN := hid hn
  clear hv hn
  go_enter Try.func31, Try.ntmps31
  go_wp2_with fail
  refine HP.out.mono ?_
  rintro e w1 ⟨rfl, n, k, er, hrd, rfl⟩
  by_cases he : er = 0
  · subst he
    obtain ⟨hk, hn⟩ := rd_len H8.out hrd
    have HD := hid (dNum_ok hrd)
    have HR := hid (rrest s k _ w1 HV.out HN.out hk hl)
    clear hrd
    unfold top at hn
    go_wp2_with fail
    refine HR.out.mono ?_
    rintro e w2 ⟨v2, rfl, ho, hb⟩
    obtain ⟨a2, c2, rfl⟩ := own_form ho
    have HO := hid ho
    have HB := hid hb
    clear ho hb
    go_wp2
    refine bodyPost_ret (v := .tuple #[.int .i64 (n : Int), .slice a2 (s.drop k).length c2, .int .i64 0]) (by simp [results, Try.results31, go_sem]) rfl ?_
    exact ⟨_, _, _, rfl, HB.out, .inl ⟨n, _, HD.out, rfl, rfl, b8_drop H8.out k, HO.out⟩⟩
  · have HD := hid (dNum_err hrd he)
    have HE := hid he
    have hb : (er == 0) = false := by rw [beq_eq_false_iff_ne]; exact he
    have hb2 : (er != 0) = true := by simpa using he
    clear hrd he
    go_wp2
    refine bodyPost_ret (v := .tuple #[.int .i64 0, .slice none 0 0, .int .i64 er]) (by simp [results, Try.results31, go_sem]) rfl ?_
    exact ⟨_, _, _, rfl, Below.refl _ _, .inr ⟨HD.out, HE.out, rfl, rfl⟩⟩
end Go.Proofs.Ytldlddoealpomaa
