/- run: the walk. -/
import Derived.Test.YtacpejoablcffaaS
import Derived.Maps.AppendAt
namespace Go.Proofs.Ytacpejoablcffaa
open Go.RowKit Go.Lib

set_option maxRecDepth 100000 in
theorem step_append_int {ops : Array Oper} {o : Oper} {a : Act} {w : World} {K : Act → World → Prop} {Q : Exit → Act → World → Prop} {E : Prop} (hgd : o.guard = none) (s x : Operand) (ho : o.op = .call { callee := .builtin .append, args := #[s, x], argTypes := #[40, 40] })
    (base : Nat) (v : Value) (n : Nat) (olds : List Value) (hs : a.eval s = v) (hown : w.ownsRow base 3 1 v n olds) (y : Int) (ad : Addr) (c : Nat) (hx : a.eval x = .slice (some ad) 1 c)
    (hc : w.cell? ad = some (.int .i64 y)) (b1 : n + 1 ≤ 1000000) (hbase : base ≤ w.heap.size)
    (h : ∀ v' w', w'.ownsRow base 3 1 v' (n + 1) (olds ++ [intV y]) → w.grownBy w' v.ownBlock → (v'.ownBlock = v.ownBlock ∨ v'.ownBlock = some w.heap.size) → K (a.put o.dst v') w') :
    if Region.wanted o (yielded ops a.tmps) = true then Oper.wp Try.prog o a w K Q else E := by
  obtain ⟨i0, hi, hz0, hz1, hz2⟩ := info_parts info3
  have hw : Region.wanted o (yielded ops a.tmps) = true := by simp [Region.wanted, hgd]
  rw [if_pos hw]
  have hnews : ∀ j u, [intV y][j]? = some u → w.cell? (ad.add j) = some u := fun j u hu => by
    have hj : j = 0 := by have := (List.getElem?_eq_some_iff.1 hu).1; simp at this; exact this
    subst hj
    simp at hu
    subst hu
    have e : ad.add 0 = ad := by obtain ⟨b, o, s⟩ := ad; unfold Addr.add; cases s <;> simp
    rw [e]
    exact hc
  obtain ⟨v', w', hrun, r1, r2, _, r4⟩ := run_append_own_at (P := Try.prog) w base 40 o.type 3 i0 _ 1 8 Try.underlying40 hi hz0 hz1 hz2 rfl (by decide) v n olds hown ad 1 c [intV y] rfl hnews (by intro u hu; simp at hu; subst hu; rfl) (by unfold maxLen; omega) (by omega) hbase
  unfold Oper.wp
  simp [execOp, ho, resolve, invoke, builtin, hs, hx, hrun, Result.andThen]
  exact h v' w' r1 r2 r4
/-- Three rows of numbers, each in a block of its own. -/
structure Th (w : World) (B : Nat) (a b c : Value) (la lb lc : List Int) : Prop where
  oa : w.ownsRow B 3 1 a la.length (la.map intV)
  ob : w.ownsRow B 3 1 b lb.length (lb.map intV)
  oc : w.ownsRow B 3 1 c lc.length (lc.map intV)
  ab : ∀ k, a.ownBlock = some k → b.ownBlock ≠ some k
  ac : ∀ k, a.ownBlock = some k → c.ownBlock ≠ some k
  bc : ∀ k, b.ownBlock = some k → c.ownBlock ≠ some k
theorem Th.keep {w w' : World} {B : Nat} {a b c : Value} {la lb lc : List Int} (h : Th w B a b c la lb lc) (hk : Keep 3 w w') : Th w' B a b c la lb lc := ⟨own_keep h.oa hk, own_keep h.ob hk, own_keep h.oc hk, h.ab, h.ac, h.bc⟩
theorem own_other {w w' : World} {B n : Nat} {u v : Value} {xs : List Value} (ho : w.ownsRow B 3 1 u n xs) (hg : w.grownBy w' v.ownBlock) (hne : ∀ k, u.ownBlock = some k → v.ownBlock ≠ some k) : w'.ownsRow B 3 1 u n xs := by
  refine ⟨ho.1, ?_⟩
  rcases ho.2 with h0 | ⟨k, cap, cur, e, hb, hgb, h2⟩
  · exact .inl h0
  · refine .inr ⟨k, cap, cur, e, hb, (hg.block k (box_lt hgb) (fun e2 => ?_)).trans hgb, h2⟩
    exact hne k (by rw [e]; rfl) e2.symm
theorem ne_at {w : World} {B n : Nat} {u v v' : Value} {xs : List Value} (ho : w.ownsRow B 3 1 u n xs) (hne : ∀ k, u.ownBlock = some k → v.ownBlock ≠ some k) (hat : v'.ownBlock = v.ownBlock ∨ v'.ownBlock = some w.heap.size) : ∀ k, u.ownBlock = some k → v'.ownBlock ≠ some k := fun k hk e => by
  rcases hat with h | h
  · exact hne k hk (by rw [← h]; exact e)
  · rw [h] at e
    injection e with e
    have := (ho.lt k hk).2
    omega
theorem ne_symm' {u v : Value} (h : ∀ k, u.ownBlock = some k → v.ownBlock ≠ some k) : ∀ k, v.ownBlock = some k → u.ownBlock ≠ some k := fun k hk e => h k e hk
theorem Th.appA {w w' : World} {B : Nat} {a b c a' : Value} {la lb lc : List Int} (h : Th w B a b c la lb lc) (y : Int) (ho : w'.ownsRow B 3 1 a' (la.length + 1) (la.map intV ++ [intV y])) (hg : w.grownBy w' a.ownBlock) (hat : a'.ownBlock = a.ownBlock ∨ a'.ownBlock = some w.heap.size) : Th w' B a' b c (la ++ [y]) lb lc :=
  ⟨by simpa using ho, own_other h.ob hg (ne_symm' h.ab), own_other h.oc hg (ne_symm' h.ac), ne_symm' (ne_at h.ob (ne_symm' h.ab) hat), ne_symm' (ne_at h.oc (ne_symm' h.ac) hat), h.bc⟩
theorem Th.appB {w w' : World} {B : Nat} {a b c b' : Value} {la lb lc : List Int} (h : Th w B a b c la lb lc) (y : Int) (ho : w'.ownsRow B 3 1 b' (lb.length + 1) (lb.map intV ++ [intV y])) (hg : w.grownBy w' b.ownBlock) (hat : b'.ownBlock = b.ownBlock ∨ b'.ownBlock = some w.heap.size) : Th w' B a b' c la (lb ++ [y]) lc :=
  ⟨own_other h.oa hg h.ab, by simpa using ho, own_other h.oc hg (ne_symm' h.bc), ne_at h.oa h.ab hat, h.ac, ne_symm' (ne_at h.oc (ne_symm' h.bc) hat)⟩
theorem Th.appC {w w' : World} {B : Nat} {a b c c' : Value} {la lb lc : List Int} (h : Th w B a b c la lb lc) (y : Int) (ho : w'.ownsRow B 3 1 c' (lc.length + 1) (lc.map intV ++ [intV y])) (hg : w.grownBy w' c.ownBlock) (hat : c'.ownBlock = c.ownBlock ∨ c'.ownBlock = some w.heap.size) : Th w' B a b c' la lb (lc ++ [y]) :=
  ⟨own_other h.oa hg h.ac, own_other h.ob hg h.bc, by simpa using ho, h.ab, ne_at h.oa h.ac hat, ne_at h.ob h.bc hat⟩
/-- A cell that was made for an append. -/
def One (w : World) (h : Nat) (y : Int) (a b c : Value) : Prop := w.heap[h]? = some (.cells #[.int .i64 y] 3) ∧ a.ownBlock ≠ some h ∧ b.ownBlock ≠ some h ∧ c.ownBlock ≠ some h
theorem one_new {w : World} {B : Nat} {a b c : Value} {la lb lc : List Int} (h : Th w B a b c la lb lc) (y : Int) : One (w.alloc (.cells #[.int .i64 y] 3)) w.heap.size y a b c :=
  ⟨heap_alloc_new _ _, fun e => by have := (h.oa.lt _ e).2; omega, fun e => by have := (h.ob.lt _ e).2; omega, fun e => by have := (h.oc.lt _ e).2; omega⟩
theorem One.alloc {w : World} {h : Nat} {y : Int} {a b c : Value} (H : One w h y a b c) (o : Obj) : One (w.alloc o) h y a b c := ⟨(Below.heap_alloc _ _ _ (box_lt H.1)).trans H.1, H.2⟩
theorem one_at {w : World} {h : Nat} {u : Value} (hl : h < w.heap.size) {v : Value} (hn : v.ownBlock ≠ some h) (hat : u.ownBlock = v.ownBlock ∨ u.ownBlock = some w.heap.size) : u.ownBlock ≠ some h := fun e => by
  rcases hat with h1 | h1
  · exact hn (by rw [← h1]; exact e)
  · rw [h1] at e; injection e with e; omega
theorem One.appA {w w' : World} {h : Nat} {y : Int} {a b c a' : Value} (H : One w h y a b c) (hg : w.grownBy w' a.ownBlock) (hat : a'.ownBlock = a.ownBlock ∨ a'.ownBlock = some w.heap.size) : One w' h y a' b c :=
  ⟨(hg.block h (box_lt H.1) (fun e => H.2.1 e.symm)).trans H.1, one_at (box_lt H.1) H.2.1 hat, H.2.2⟩
theorem One.appB {w w' : World} {h : Nat} {y : Int} {a b c b' : Value} (H : One w h y a b c) (hg : w.grownBy w' b.ownBlock) (hat : b'.ownBlock = b.ownBlock ∨ b'.ownBlock = some w.heap.size) : One w' h y a b' c :=
  ⟨(hg.block h (box_lt H.1) (fun e => H.2.2.1 e.symm)).trans H.1, H.2.1, one_at (box_lt H.1) H.2.2.1 hat, H.2.2.2⟩
theorem One.appC {w w' : World} {h : Nat} {y : Int} {a b c c' : Value} (H : One w h y a b c) (hg : w.grownBy w' c.ownBlock) (hat : c'.ownBlock = c.ownBlock ∨ c'.ownBlock = some w.heap.size) : One w' h y a b c' :=
  ⟨(hg.block h (box_lt H.1) (fun e => H.2.2.2 e.symm)).trans H.1, H.2.1, H.2.2.1, one_at (box_lt H.1) H.2.2.2 hat⟩
/-- A fourth row, apart from three. -/
structure Fo (w : World) (B : Nat) (v : Value) (l : List Int) (a b c : Value) : Prop where
  ov : w.ownsRow B 3 1 v l.length (l.map intV)
  va : ∀ k, v.ownBlock = some k → a.ownBlock ≠ some k
  vb : ∀ k, v.ownBlock = some k → b.ownBlock ≠ some k
  vc : ∀ k, v.ownBlock = some k → c.ownBlock ≠ some k
theorem Fo.keep {w w' : World} {B : Nat} {v a b c : Value} {l : List Int} (h : Fo w B v l a b c) (hk : Keep 3 w w') : Fo w' B v l a b c := ⟨own_keep h.ov hk, h.va, h.vb, h.vc⟩
theorem Fo.appA {w w' : World} {B : Nat} {v a b c a' : Value} {l : List Int} (h : Fo w B v l a b c) (hg : w.grownBy w' a.ownBlock) (hat : a'.ownBlock = a.ownBlock ∨ a'.ownBlock = some w.heap.size) : Fo w' B v l a' b c :=
  ⟨own_other h.ov hg h.va, ne_at h.ov h.va hat, h.vb, h.vc⟩
theorem Fo.appB {w w' : World} {B : Nat} {v a b c b' : Value} {l : List Int} (h : Fo w B v l a b c) (hg : w.grownBy w' b.ownBlock) (hat : b'.ownBlock = b.ownBlock ∨ b'.ownBlock = some w.heap.size) : Fo w' B v l a b' c :=
  ⟨own_other h.ov hg h.vb, h.va, ne_at h.ov h.vb hat, h.vc⟩
theorem Fo.appC {w w' : World} {B : Nat} {v a b c c' : Value} {l : List Int} (h : Fo w B v l a b c) (hg : w.grownBy w' c.ownBlock) (hat : c'.ownBlock = c.ownBlock ∨ c'.ownBlock = some w.heap.size) : Fo w' B v l a b c' :=
  ⟨own_other h.ov hg h.vc, h.va, h.vb, ne_at h.ov h.vc hat⟩
end Go.Proofs.Ytacpejoablcffaa
