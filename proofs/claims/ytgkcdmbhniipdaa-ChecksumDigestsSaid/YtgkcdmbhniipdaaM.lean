/- Rows of bytes that a call makes: append of a slice of bytes, nil or not. -/
import Derived.Test.YtgkcdmbhniipdaaL
import Derived.OwnWalk
import Derived.Laws.AppendOwnNone
import Derived.Laws.OwnMore
import Derived.OneCell
namespace Go.Proofs.Ytgkcdmbhniipdaa
open Go.RowKit Go.Lib

def byteV (x : Nat) : Value := .int .u8 (x : Int)
theorem info5 : (Try.prog.info? 5).map (fun i => (i.zero, i.size, i.bytes)) = some (some (.int .u8 0), 1, 1) := by kernel_rfl
theorem byteV_one (l : List Nat) : ∀ u ∈ l.map byteV, u.oneCell' = true := fun u hu => by
  obtain ⟨x, _, rfl⟩ := List.mem_map.1 hu
  rfl
/-- A slice value that is nil has no capacity. -/
def NilOk (v : Value) : Prop := ∀ n c, v = .slice none n c → c = 0
theorem nilOk_some (a : Addr) (n c : Nat) : NilOk (.slice (some a) n c) := fun n c h => by injection h with h; cases h
theorem nilOk_nil : NilOk (.slice none 0 0) := fun n c h => by injection h with _ _ h; exact h.symm

theorem append_byt {ops : Array Oper} {rest : List Oper} {o : Oper} {a : Act} {w : World} {Q : Exit → Act → World → Prop} (hgd : o.guard = none) (s x : Operand) (ho : o.op = .call { callee := .builtin .append, args := #[s, x], argTypes := #[22, 22] })
    (base : Nat) (v : Value) (k : Nat) (xs : List Value) (hs : a.eval s = v) (hown : w.ownsRow base 5 1 v k xs) (l : List Nat) (u : Value) (hx : a.eval x = u) (hsrc : Byt w u l) (hnil : NilOk u) (hk : k + l.length ≤ 100000) (hbase : base ≤ w.heap.size)
    (h : ∀ v' w', w'.ownsRow base 5 1 v' (k + l.length) (xs ++ l.map byteV) → w.grownBy w' v.ownBlock → wpList Try.prog ops Q rest (a.put o.dst v') w') : wpList Try.prog ops Q (o :: rest) a w := by
  obtain ⟨i0, hi, hz0, hz1, hz2⟩ := info_parts info5
  obtain ⟨h8, A, cap, rfl, hcap, hcm, b, off, hA, hc⟩ := hsrc
  rcases A with _ | ad
  · have hl : l = [] := by
      rcases Nat.eq_zero_or_pos l.length with h0 | h0
      · exact List.eq_nil_of_length_eq_zero h0
      · have := (hA h0).1; cases this
    subst hl
    have hc0 : cap = 0 := hnil _ _ rfl
    subst hc0
    refine wpList_append_own_none hgd s x 22 ho base 5 i0 1 Try.underlying22 hi v k xs hs hown hx ?_
    exact h v w (by simpa using hown) (World.grownBy.refl w _)
  · refine wpList_append_own w hgd s x 22 ho base 5 i0 _ 1 1 Try.underlying22 hi hz0 hz1 hz2 rfl (by decide) v k xs hs hown ad l.length cap (l.map byteV) hx (by simp) ?_ (byteV_one l) (by unfold maxLen; omega) (by omega) hbase ?_
    · intro j u hu
      rw [List.getElem?_map] at hu
      obtain ⟨z, hz, rfl⟩ := Option.map_eq_some_iff.1 hu
      have hj := (List.getElem?_eq_some_iff.1 hz).1
      have hA1 := (hA (by omega)).1
      injection hA1 with hA1
      subst hA1
      have e : (⟨b, off, none⟩ : Addr).add j = ⟨b, off + j, none⟩ := by unfold Addr.add; split <;> simp_all
      rw [e]
      exact hc j z hz
    · exact fun v' w' h1 h2 _ => h v' w' h1 h2
theorem byt_of_own {w : World} {base n : Nat} {v : Value} {l : List Nat} (h : w.ownsRow base 5 1 v n (l.map byteV)) (h8 : B8 l) : Byt w v l := by
  have hn : n = l.length := by have := h.1; simp at this; omega
  subst hn
  refine ⟨h8, ?_⟩
  rcases h.2 with ⟨rfl, hn⟩ | ⟨g, cap, cur, rfl, hb, hcur, hcap, hcm, hs, ht⟩
  · have hl : l = [] := List.eq_nil_of_length_eq_zero hn
    subst hl
    exact ⟨none, 0, rfl, Nat.le_refl _, by unfold maxLen; omega, 0, 0, fun h => absurd h (by simp), fun i x h => by simp at h⟩
  · refine ⟨some ⟨g, 0, none⟩, cap, rfl, hcap, hcm, g, 0, fun _ => ⟨rfl, (h.lt g rfl).2⟩, fun i x hi => ?_⟩
    have hl := (List.getElem?_eq_some_iff.1 hi).1
    have h0 := h.cellAt i (by omega)
    rw [List.getElem?_map, hi] at h0
    simp only [Nat.zero_add]
    exact h0
theorem own_nilOk {w : World} {base n : Nat} {v : Value} {xs : List Value} (h : w.ownsRow base 5 1 v n xs) : NilOk v := by
  rcases h.2 with ⟨rfl, _⟩ | ⟨g, cap, cur, rfl, _⟩
  · exact nilOk_nil
  · exact nilOk_some _ _ _
theorem own_form {w : World} {base n : Nat} {v : Value} {xs : List Value} (h : w.ownsRow base 5 1 v n xs) : ∃ A cap, v = .slice A n cap := by
  rcases h.2 with ⟨rfl, rfl⟩ | ⟨g, cap, cur, rfl, _⟩
  · exact ⟨none, 0, rfl⟩
  · exact ⟨_, _, rfl⟩
theorem own_empty (w : World) : (w.alloc (.cells #[] 5)).ownsRow w.heap.size 5 1 (.slice (some ⟨w.heap.size, 0, none⟩) 0 0) 0 [] :=
  ⟨rfl, .inr ⟨w.heap.size, 0, #[], rfl, Nat.le_refl _, heap_alloc_new w _, Nat.le_refl _, by unfold maxLen; omega, rfl, rfl⟩⟩
theorem below_own {B : Nat} {W w w' : World} {n : Nat} {v : Value} {xs : List Value} {base : Nat} (h : Below B W w) (hw : w.ownsRow base 5 1 v n xs) (hg : w.grownBy w' v.ownBlock) (hB : B ≤ w.heap.size) (hb : B ≤ base) : Below B W w' :=
  h.grown hg hB (fun k e => by have := (hw.lt k e).1; omega)
theorem own_snoc (l m : List Nat) : l.map byteV ++ m.map byteV = (l ++ m).map byteV := by rw [List.map_append]
theorem B8_append {l m : List Nat} (h1 : B8 l) (h2 : B8 m) : B8 (l ++ m) := fun x hx => (List.mem_append.1 hx).elim (h1 x) (h2 x)

set_option maxHeartbeats 2000000 in
theorem joins_walk (x y : List Nat) (vx vy : Value) (w : World) (hx : Byt w vx x) (hy : Byt w vy y) (hnx : NilOk vx) (hny : NilOk vy) :
    Calls Try.prog 7 #[vx, vy] w fun e w' => e = .returned (.bool true) ∧ Below w.heap.size w w' := by
  have hlx := byt_len hx
  have hly := byt_len hy
  have HX := hid hx
  have HY := hid hy
  have HNX := hid hnx
  have HNY := hid hny
  obtain ⟨A, ca, rfl⟩ := byt_form hx
  obtain ⟨C, cc, rfl⟩ := byt_form hy
  clear hx hy hnx hny
  by_cases h1 : x.length ≤ 2000
  · by_cases h2 : y.length ≤ 2000
    · have h8 := B8_append HX.out.1 HY.out.1
      have hsx : sum0 x < 4294967296 := upd_lt (by decide) HX.out.1
      have hsy : sum0 y < 4294967296 := upd_lt (by decide) HY.out.1
      have HU := hid (fun (w0 : World) (hv : Byt w0 (.slice C y.length cc) y) => update_any (sum0 x) y _ w0 hv hsx)
      have HC := hid (fun (w0 : World) => combine_any (sum0 x) (sum0 y) (y.length : Int) w0 hsx hsy (by omega) (by omega))
      have e1 : upd (sum0 x) y = sum0 (x ++ y) := upd_append 0 x y
      have e2 : combS (sum0 x) (sum0 y) (y.length : Int) = sum0 (x ++ y) := by
        unfold combS
        rw [if_pos (by omega), Int.toNat_natCast, comb_sum, e1]
      rw [e1] at HU
      rw [e2] at HC
      have HS := hid (fun (w0 : World) (v : Value) (hv : Byt w0 v (x ++ y)) => sum_any (x ++ y) v w0 hv)
      obtain ⟨S, hS⟩ : ∃ S, sum0 (x ++ y) = S := ⟨_, rfl⟩
      rw [hS] at HU HC HS
      have H8 := hid h8
      clear e1 e2 hS h8 hsx hsy
      go_enter Try.func7, Try.ntmps7
      go_wp2_with (first | (at_builtin; refine append_byt rfl (.tmp 15) (.tmp 16) rfl w.heap.size _ 0 [] rfl (own_empty w) x _ rfl (HX.out.below (al1 _ _)) HNX.out (by omega) (by simp) ?_; intro v1 w1 hown1 hg1; have HB1 := hid (below_own (al1 w _) (own_empty w) hg1 (by simp) (Nat.le_refl _)); have HO1 := hid hown1; clear hown1 hg1) | (at_builtin; refine append_byt rfl (.tmp 17) (.tmp 18) rfl w.heap.size v1 (0 + x.length) ([] ++ x.map byteV) rfl HO1.out y _ rfl (HY.out.below HB1.out) HNY.out (by omega) HB1.out.size ?_; intro v2 w2 hown2 hg2; have HB2 := hid (below_own HB1.out HO1.out hg2 HB1.out.size (Nat.le_refl _)); have HV2 : Hid (Byt w2 v2 (x ++ y)) := hid (byt_of_own (by rw [List.nil_append, own_snoc] at hown2; exact hown2) H8.out); clear hown2 hg2))
      obtain ⟨av, cv, hve⟩ := byt_form HV2.out
      subst hve
      refine (HS.out _ _ HV2.out).mono ?_
      rintro e w3 ⟨rfl, hb⟩
      replace HB2 := hid (below_both HB2.out hb)
      clear hb HV2 HO1 HB1
      go_wp2_with fail
      refine (awake_any _).mono ?_
      rintro e w4 ⟨rfl, hb⟩
      replace HB2 := hid (below_both HB2.out hb)
      clear hb
      go_wp2_with fail
      refine (sum_any x _ _ (HX.out.below HB2.out)).mono ?_
      rintro e w5 ⟨rfl, hb⟩
      replace HB2 := hid (below_both HB2.out hb)
      clear hb
      go_wp2_with fail
      refine (HU.out _ (HY.out.below HB2.out)).mono ?_
      rintro e w6 ⟨rfl, hb⟩
      replace HB2 := hid (below_both HB2.out hb)
      clear hb
      go_wp2_with fail
      refine (sum_any x _ _ (HX.out.below HB2.out)).mono ?_
      rintro e w7 ⟨rfl, hb⟩
      replace HB2 := hid (below_both HB2.out hb)
      clear hb
      go_wp2_with fail
      refine (sum_any y _ _ (HY.out.below HB2.out)).mono ?_
      rintro e w8 ⟨rfl, hb⟩
      replace HB2 := hid (below_both HB2.out hb)
      clear hb
      go_wp2_with fail
      refine (HC.out _).mono ?_
      rintro e w9 ⟨rfl, hb⟩
      replace HB2 := hid (below_both HB2.out hb)
      clear hb
      go_wp2
      go_ret
      exact ⟨rfl, HB2.out⟩
    · go_enter Try.func7, Try.ntmps7
      go_wp2_with fail
      refine (awake_any _).mono ?_
      rintro e w1 ⟨rfl, hb⟩
      have HB := hid hb
      clear hb
      go_wp2
      go_ret
      exact ⟨rfl, HB.out⟩
  · go_enter Try.func7, Try.ntmps7
    go_wp2_with fail
    refine (awake_any _).mono ?_
    rintro e w1 ⟨rfl, hb⟩
    have HB := hid hb
    clear hb
    go_wp2
    go_ret
    exact ⟨rfl, HB.out⟩
end Go.Proofs.Ytgkcdmbhniipdaa
