/- Patch. -/
import Derived.Test.YtbcnikmhodkbfaaL
namespace Go.Proofs.Ytbcnikmhodkbfaa
open Go.RowKit Go.Lib

/-- A list of writes that a call has made. -/
def OwnW (w : World) (base : Nat) (v : Value) (ws : List Wri) : Prop := w.ownsRow base 42 3 v ws.length (ws.map cWri).flatten ∧ ∀ x ∈ ws, Secs x.l ∧ w.ownsRow base 58 8 x.d x.l.length (x.l.map cSec).flatten ∧ R64 x.v ∧ R64 x.s
theorem ownW_keep {w w' : World} {base : Nat} {v : Value} {ws : List Wri} (h : OwnW w base v ws) (h1 : Keep 42 w w') (h2 : Keep 58 w w') : OwnW w' base v ws := ⟨own_keep h.1 h1, fun x hx => ⟨(h.2 x hx).1, own_keep (h.2 x hx).2.1 h2, (h.2 x hx).2.2⟩⟩
theorem wrs_of_own {w : World} {base : Nat} {v : Value} {ws : List Wri} (h : OwnW w base v ws) : WrsA w v ws := by
  refine ⟨fun x hx => ⟨sec_of_own (h.2 x hx).2.1 (h.2 x hx).1, ownAny_nilOk (h.2 x hx).2.1, (h.2 x hx).2.2⟩, ?_⟩
  have h' : w.ownsRow base 42 3 v (ws.map cWri).length (ws.map cWri).flatten := by rw [List.length_map]; exact h.1
  exact arr_of_own h' rfl (fun r hr => by
    obtain ⟨x, _, rfl⟩ := List.mem_map.1 hr
    rfl)
def wv (x : Wri) : Int × Int × List Sect := (x.v, x.s, x.l)
def pat1 (M : List (List Sect)) (i : Nat) (l : List (Int × Int)) : List (Int × Int × List Sect) := l.map fun e => ((i : Int), e.1, ((M.getD i []).drop e.1.toNat).take e.2.toNat)
def exs (ds : List Dvol) (i : Nat) : List (Int × Int) := ((ds[i]?).map (·.l)).getD []
def patK (M : List (List Sect)) (ds : List Dvol) : Nat → List (Int × Int × List Sect)
  | 0 => []
  | k + 1 => patK M ds k ++ pat1 M k (exs ds k)
/-- What Patch answers. -/
def PatQ (w : World) (L M : List (List Sect)) (e : Ending) (w' : World) : Prop :=
  Below w.heap.size w w' ∧ ((difErr L M ≠ 0 ∧ e = .returned (.tuple #[.slice none 0 0, .int .i64 (difErr L M)])) ∨ (difErr L M = 0 ∧ ∃ v ws ds, e = .returned (.tuple #[v, .int .i64 0]) ∧ AllDx L M ds ∧ ws.map wv = patK M ds L.length ∧ OwnW w' w.heap.size v ws))
theorem info42 : (Try.prog.info? 42).map (fun i => (i.zero, i.size, i.bytes)) = some (some (.agg #[.int .i64 0, .int .i64 0, .slice none 0 0]), 3, 40) := by kernel_rfl
theorem cell3 (W : World) (a b c : Value) (T : TypeId) : ∀ (j : Nat) (u : Value), [a, b, c][j]? = some u → (W.alloc (.cells #[a, b, c] T)).cell? ((⟨W.heap.size, 0, none⟩ : Addr).add j) = some u := fun j u hu => by
  rw [add_at', cell_of_row _ _ _ _ _ _ (heap_alloc_new W _)]
  simpa using hu
set_option maxRecDepth 100000 in
theorem step_append_wri {ops : Array Oper} {o : Oper} {a : Act} {w : World} {K : Act → World → Prop} {Q : Exit → Act → World → Prop} {E : Prop} (hgd : o.guard = none) (s x : Operand) (ho : o.op = .call { callee := .builtin .append, args := #[s, x], argTypes := #[38, 38] })
    (base : Nat) (v : Value) (n : Nat) (olds : List Value) (hs : a.eval s = v) (hown : w.ownsRow base 42 3 v n olds) (y0 y1 : Int) (A : Option Addr) (m c0 : Nat) (ad : Addr) (c : Nat) (hx : a.eval x = .slice (some ad) 1 c)
    (hc : ∀ j u, [Value.int .i64 y0, .int .i64 y1, .slice A m c0][j]? = some u → w.cell? (ad.add j) = some u) (b1 : n + 1 ≤ 1000000) (hbase : base ≤ w.heap.size)
    (h : ∀ v' w', w'.ownsRow base 42 3 v' (n + 1) (olds ++ [Value.int .i64 y0, .int .i64 y1, .slice A m c0]) → w.grownBy w' v.ownBlock → K (a.put o.dst v') w') :
    if Region.wanted o (yielded ops a.tmps) = true then Oper.wp Try.prog o a w K Q else E := by
  obtain ⟨i0, hi, hz0, hz1, hz2⟩ := info_parts info42
  have hw : Region.wanted o (yielded ops a.tmps) = true := by simp [Region.wanted, hgd]
  rw [if_pos hw]
  obtain ⟨v', w', hrun, r1, r2, _⟩ := run_append_own (P := Try.prog) w base 38 o.type 42 i0 _ 3 40 Try.underlying38 hi hz0 hz1 hz2 rfl (by decide) v n olds hown ad 1 c [Value.int .i64 y0, .int .i64 y1, .slice A m c0] rfl hc (by intro u hu; simp at hu; rcases hu with rfl | rfl | rfl <;> rfl) (by unfold maxLen; omega) (by omega) hbase
  unfold Oper.wp
  simp [execOp, ho, resolve, invoke, builtin, hs, hx, hrun, Result.andThen]
  exact h v' w' r1 r2
/-- The extents of a difference lie in the volume. -/
theorem dx_in {a b : List Sect} {l : List (Int × Int)} (h : Dx a b l) (hlen : a.length = b.length) : ∀ e ∈ l, 0 ≤ e.1 ∧ 1 ≤ e.2 ∧ e.1 + e.2 ≤ b.length := fun e he => by
  obtain ⟨h1, h2, h3⟩ := Xt.canon_each h.1 e he
  refine ⟨h1, h2, ?_⟩
  have hm : Xt.mem l (e.1 + e.2 - 1) = true := List.any_eq_true.2 ⟨e, he, Xt.inE_iff.2 ⟨by omega, by omega, by omega, by omega⟩⟩
  rw [h.2] at hm
  obtain ⟨f, hf, hin⟩ := List.any_eq_true.1 hm
  unfold one1 at hf
  obtain ⟨x, hx, rfl⟩ := List.mem_map.1 hf
  have := Xt.inE_iff.1 hin
  have hlt := dif_lt hx
  dsimp only at this
  omega
theorem exs_at {ds : List Dvol} {k : Nat} {x : Dvol} (h : ds[k]? = some x) : exs ds k = x.l := by unfold exs; rw [h]; rfl
theorem ext_cells {w : World} {A : Option Addr} {n c : Nat} {l : List (Int × Int)} (h : Xt.Ext w (.slice A n c) l) (hp : 0 < l.length) : ∃ b off, A = some ⟨b, off, none⟩ ∧ b < w.heap.size ∧ ∀ i e, l[i]? = some e → w.cell? ⟨b, off + i * 2, none⟩ = some (.int .i64 e.1) ∧ w.cell? ⟨b, off + i * 2 + 1, none⟩ = some (.int .i64 e.2) := by
  obtain ⟨_, A', c', e, _, _, b, off, hA, hc⟩ := h
  injection e with e1
  subst e1
  exact ⟨b, off, (hA hp).1, (hA hp).2, hc⟩
theorem ownW_base {w : World} {base base' : Nat} {v : Value} {ws : List Wri} (h : OwnW w base v ws) (hb : base' ≤ base) : OwnW w base' v ws := ⟨own_base h.1 hb, fun x hx => ⟨(h.2 x hx).1, own_base (h.2 x hx).2.1 hb, (h.2 x hx).2.2⟩⟩
theorem ownW_nil (w : World) (base : Nat) : OwnW w base (.slice none 0 0) [] := ⟨World.ownsRow_nil _ _ _ _, fun x h => by cases h⟩
theorem difErr_ok {L M : List (List Sect)} (h : difErr L M = 0) : chkS (siz L) = 0 ∧ chkS (siz M) = 0 ∧ siz L = siz M := by
  unfold difErr at h
  by_cases h1 : chkS (siz L) ≠ 0
  · rw [if_pos h1] at h; exact absurd h h1
  · rw [if_neg h1] at h
    by_cases h2 : chkS (siz M) ≠ 0
    · rw [if_pos h2] at h; exact absurd h h2
    · rw [if_neg h2] at h
      by_cases h3 : siz L ≠ siz M
      · rw [if_pos h3] at h; cases h
      · exact ⟨Classical.not_not.1 h1, Classical.not_not.1 h2, Classical.not_not.1 h3⟩
theorem pat_next {w1 w6 w8 : World} {B k sn pn dn : Nat} {pA cA : Option Addr} {pc cc : Nat} {v8 : Value} {ws : List Wri} {data : List Sect} (hW : OwnW w6 B (.slice pA pn pc) ws) (hn : ws.length = pn) (hd : w6.ownsRow B 58 8 (.slice cA dn cc) data.length (data.map cSec).flatten) (hs : Secs data) (hk : k ≤ 1000000) (hsn : sn ≤ 1000000)
    (hg : (w6.alloc (.cells #[.int .i64 (k : Int), .int .i64 (sn : Int), .slice cA dn cc] 42)).grownBy w8 (Value.slice pA pn pc).ownBlock) (ho : w8.ownsRow B 42 3 v8 (pn + 1) ((ws.map cWri).flatten ++ [.int .i64 (k : Int), .int .i64 (sn : Int), .slice cA dn cc])) (hB : Below B w1 w6) (hz : B ≤ w6.heap.size) :
    OwnW w8 B v8 (ws ++ [⟨(k : Int), (sn : Int), .slice cA dn cc, data⟩]) ∧ Below B w1 w8 := by
  have hb := al1 w6 (.cells #[.int .i64 (k : Int), .int .i64 (sn : Int), .slice cA dn cc] 42)
  have ho' := own_keep hW.1 (keep_below hb)
  rw [hn] at ho'
  have hk58 : Keep 58 w6 w8 := (keep_below hb).trans (keep_grown ho' (by decide) hg)
  refine ⟨⟨?_, fun x hx => ?_⟩, (hB.alloc hz _).grown hg (by simp; omega) (fun q e => (ho'.lt q e).1)⟩
  · rw [List.length_append, hn, List.map_append, List.flatten_append]
    simpa [cWri] using ho
  · rcases List.mem_append.1 hx with hx | hx
    · exact ⟨(hW.2 x hx).1, own_keep (hW.2 x hx).2.1 hk58, (hW.2 x hx).2.2⟩
    · rw [List.mem_singleton] at hx
      subst hx
      exact ⟨hs, own_keep hd hk58, ⟨by dsimp only; omega, by dsimp only; omega⟩, ⟨by dsimp only; omega, by dsimp only; omega⟩⟩
end Go.Proofs.Ytbcnikmhodkbfaa
