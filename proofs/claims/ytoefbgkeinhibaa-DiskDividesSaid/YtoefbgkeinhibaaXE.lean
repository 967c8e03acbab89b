/- extent.edges: the ends of the extents of two lists in ascending order. -/
import Derived.Test.YtoefbgkeinhibaaXD
import Derived.Shelf.SlSortCmp.NoneTotal
namespace Go.Proofs.Ytoefbgkeinhibaa.Xt
open Go.RowKit

theorem below_sortWorld {B blk off n : Nat} {a w : World} {d : Array Edge} {os : Array Obj} (h : Below B a w) (hb : B ≤ blk) (hs : B ≤ w.heap.size) : Below B a (sortWorldK enc3 3 w blk off n d os) := by
  refine ⟨h.os, h.tape, h.output, Nat.le_trans h.size (size_sortWorldK_c enc3 3 w blk off n d os), fun k hk => (?_ : _ = w.heap[k]?).trans (h.block k hk)⟩
  unfold sortWorldK
  rw [Go.Sort.heap_grow_old _ _ (by rw [Go.Sort.size_putRowK]; exact Nat.lt_of_lt_of_le hk hs)]
  show (Go.Sort.mapBlock _ _ _).heap[k]? = _
  show (Array.modify _ _ _)[k]? = _
  rw [Array.getElem?_modify, if_neg (by omega)]
  rfl

theorem eflat_get (d : List Edge) (i c : Nat) (hc : c < 3) : (eflat d)[i * 3 + c]? = (d[i]?).bind fun e => (enc3 e)[c]? := by
  induction d generalizing i with
  | nil => simp [eflat]
  | cons e r ih =>
    have hsplit : eflat (e :: r) = enc3 e ++ eflat r := by simp [eflat]
    rw [hsplit]
    cases i with
    | zero =>
      rw [List.getElem?_append_left (by simp [enc3]; omega)]
      simp
    | succ i =>
      rw [List.getElem?_append_right (by simp [enc3]; omega)]
      have : (i + 1) * 3 + c - (enc3 e).length = i * 3 + c := by simp [enc3]; omega
      rw [this, ih]
      simp

theorem holds_of_own {w : World} {base g cap : Nat} {d : List Edge} (h : w.ownsRow base 132 3 (.slice (some ⟨g, 0, none⟩) d.length cap) d.length (eflat d)) : Go.Sort.HoldsK enc3 3 w g 0 d.toArray := by
  intro j hj
  rw [Go.Sort.size_flatK] at hj
  simp only [List.size_toArray] at hj
  refine ⟨?_, h.frozenAt _⟩
  rw [Nat.zero_add, h.cellAt j hj, Go.Sort.get_flatK _ _ _ _ (by simpa using hj)]
  have hi : j / 3 < d.length := by omega
  have e := eflat_get d (j / 3) (j % 3) (by omega)
  rw [show j / 3 * 3 + j % 3 = j from by omega] at e
  rw [e, List.getElem?_eq_getElem hi]
  simp only [Option.bind_some, id]
  have h3 : j % 3 < (enc3 d[j / 3]).length := by simp [enc3]; omega
  rw [List.getElem?_eq_getElem h3]
  congr 1
  simp [hi, h3]

/-- The value v reads as the list d of edges, in memory from block base on. -/
def Eds (w : World) (base : Nat) (v : Value) (d : List Edge) : Prop :=
  ∃ A cap g, v = .slice A d.length cap ∧ (0 < d.length → A = some ⟨g, 0, none⟩ ∧ base ≤ g ∧ g < w.heap.size) ∧ ∀ i e, d[i]? = some e →
    w.cell? ⟨g, i * 3, none⟩ = some (.int .i64 e.1) ∧ w.cell? ⟨g, i * 3 + 1, none⟩ = some (.int .i64 e.2.1) ∧ w.cell? ⟨g, i * 3 + 2, none⟩ = some (.int .i64 e.2.2)

theorem own_below {w w' : World} {base : Nat} {e : TypeId} {size : Nat} {v : Value} {n : Nat} {xs : List Value} (h : w.ownsRow base e size v n xs) (hb : Below w.heap.size w w') : w'.ownsRow base e size v n xs :=
  World.ownsRow.kept (row := none) h ⟨hb.os, hb.tape, hb.output, hb.size, fun k hk _ => hb.block k hk⟩ (by cases v.ownBlock <;> simp)

def pre2 (a b : List (Int × Int)) (j : Nat) : List Edge := if j = 0 then [] else if j = 1 then edgesOf 0 a else edgesOf 0 a ++ edgesOf 1 b
theorem pre2_step {a b : List (Int × Int)} {j : Nat} (hj : j < 2) : pre2 a b (j + 1) = pre2 a b j ++ edgesOf j (if j = 0 then a else b) := by
  rcases (show j = 0 ∨ j = 1 from by omega) with rfl | rfl <;> simp [pre2]
theorem edgesOf_append (k : Int) (a b : List (Int × Int)) : edgesOf k (a ++ b) = edgesOf k a ++ edgesOf k b := by
  induction a with
  | nil => rfl
  | cons e r ih => simp only [List.cons_append, edgesOf, ih, List.append_assoc]
theorem edgesOf_take {k : Int} {l : List (Int × Int)} {i : Nat} {s n : Int} (h : Hid (l[i]? = some (s, n))) : edgesOf k (l.take (i + 1)) = edgesOf k (l.take i) ++ (if clipF s n < clipE s n then [(clipF s n, k, 1), (clipE s n, k, -1)] else []) := by
  obtain ⟨hi, he⟩ := List.getElem?_eq_some_iff.1 h.out
  rw [List.take_succ_eq_append_getElem hi, edgesOf_append, he]
  simp [edgesOf]

theorem sortE_none (p : Option Addr) (cap : Nat) (fv : Value) (w : World) : Calls Try.prog 78 #[.slice p 0 cap, fv] w fun e w' => e = .returned (.tuple #[]) ∧ w' = w :=
  AnyF.slices_SortFunc_none { Try.sortE with } p cap fv w

theorem sort_own (base : Nat) (d : List Edge) (v : Value) (w : World) (hown : w.ownsRow base 132 3 v d.length (eflat d)) (hb : base ≤ w.heap.size) (hl : d.length ≤ 100000) :
    Calls Try.prog 78 #[v, .func (.func 79) #[] #[]] w fun e w' => e = .returned (.tuple #[]) ∧ ∃ d', d.Perm d' ∧ (∀ (i j : Nat) (e f : Edge), i ≤ j → d'[i]? = some e → d'[j]? = some f → e.1 ≤ f.1) ∧ Eds w' base v d' ∧ Below base w w' := by
  rcases hown.2 with ⟨rfl, hn⟩ | ⟨g, cap, cur, rfl, hbg, hcur, hcap, hcm, _, _⟩
  · have hd : d = [] := List.eq_nil_of_length_eq_zero hn
    subst hd
    refine (sortE_none none 0 _ w).mono ?_
    rintro e w' ⟨rfl, rfl⟩
    exact ⟨rfl, [], List.Perm.refl _, fun i j e f _ h => by simp at h, ⟨none, 0, 0, rfl, fun h => absurd h (by simp), fun i e h => by simp at h⟩, Below.refl _ _⟩
  · have hg : g < w.heap.size := (hown.lt g rfl).2
    have hc := sortE_any g 0 cap d.toArray w (holds_of_own hown) hg (by simp; omega)
    simp only [List.size_toArray] at hc
    refine hc.mono ?_
    rintro e w' ⟨rfl, d', n, os, ⟨hsz, _, hp⟩, hs, rfl⟩
    simp only [List.size_toArray] at hsz hp
    have hx : d'.extract 0 d.length = d' := by rw [← hsz]; simp
    have hx2 : d.toArray.extract 0 d.length = d.toArray := by simp
    rw [hx, hx2] at hp
    have hH := holdsK_sortWorldK_c enc3 3 w g 0 d.toArray d' n os (holds_of_own hown) hg (by simpa using hsz)
    have hlen : d'.toList.length = d.length := by simpa using hsz
    refine ⟨rfl, d'.toList, hp.symm, ?_, ⟨some ⟨g, 0, none⟩, cap, g, by rw [hlen], fun _ => ⟨rfl, hbg, Nat.lt_of_lt_of_le hg (size_sortWorldK_c enc3 3 w g 0 n d' os)⟩, ?_⟩, below_sortWorld (Below.refl _ _) hbg hb⟩
    · intro i j e f hij hi hj
      obtain ⟨hi1, hi2⟩ := List.getElem?_eq_some_iff.1 hi
      obtain ⟨hj1, hj2⟩ := List.getElem?_eq_some_iff.1 hj
      rcases Nat.lt_or_ge i j with h | h
      · have := hs i j (Nat.zero_le _) h (by omega)
        rw [lt_edge] at this
        simp only [decide_eq_false_iff_not] at this
        simp only [Array.length_toList] at hi1 hj1
        rw [getElem!_pos d' i hi1, getElem!_pos d' j hj1] at this
        simp only [Array.getElem_toList] at hi2 hj2
        rw [hi2, hj2] at this
        omega
      · obtain rfl : i = j := by omega
        rw [hi] at hj
        injection hj with hj
        subst hj
        exact Int.le_refl _
    · intro i e hi
      obtain ⟨hi1, hi2⟩ := List.getElem?_eq_some_iff.1 hi
      simp only [Array.length_toList] at hi1
      simp only [Array.getElem_toList] at hi2
      have h0 := (hH.cell (i := i) (c := 0) hi1 (by omega)).1
      have h1 := (hH.cell (i := i) (c := 1) hi1 (by omega)).1
      have h2 := (hH.cell (i := i) (c := 2) hi1 (by omega)).1
      rw [getElem!_pos d' i hi1, hi2] at h0 h1 h2
      simp only [Nat.zero_add, Nat.add_zero] at h0 h1 h2
      exact ⟨h0, h1, h2⟩

theorem pre2_length (a b : List (Int × Int)) (k : Nat) : (pre2 a b k).length ≤ 2 * a.length + 2 * b.length := by
  unfold pre2
  have := edgesOf_length 0 a
  have := edgesOf_length 1 b
  (repeat' split) <;> simp <;> omega
theorem cells_new (W : World) (t : TypeId) (cs : List Value) : ∀ (j : Nat) (u : Value), cs[j]? = some u → (W.alloc (.cells cs.toArray t)).cell? ((⟨W.heap.size, 0, none⟩ : Addr).add j) = some u := by
  intro j u h
  have hc := cell_of_row (W.alloc (.cells cs.toArray t)) W.heap.size j cs.toArray t (0, 0) (heap_alloc_new W _)
  have e : (⟨W.heap.size, 0, none⟩ : Addr).add j = ⟨W.heap.size, j, none⟩ := by unfold Addr.add; split <;> simp_all
  rw [e, hc]
  simpa using h
theorem eflat_two {k : Int} {s n : Int} (_h : clipF s n < clipE s n) : eflat [(clipF s n, k, 1), (clipE s n, k, -1)] = [.int .i64 (clipF s n), .int .i64 k, .int .i64 1, .int .i64 (clipE s n), .int .i64 k, .int .i64 (-1)] := rfl

set_option maxHeartbeats 2000000 in
set_option maxRecDepth 100000 in
theorem edges_loop (a b : List (Int × Int)) (va vb : Value) (w : World) (ha : Ext w va a) (hb : Ext w vb b) (la : a.length ≤ 10000) (lb : b.length ≤ 10000) :
    Calls Try.prog 74 #[va, vb] w fun e w' => ∃ v d, e = .returned v ∧ (edgesOf 0 a ++ edgesOf 1 b).Perm d ∧ (∀ (i j : Nat) (e f : Edge), i ≤ j → d[i]? = some e → d[j]? = some f → e.1 ≤ f.1) ∧ Eds w' w.heap.size v d ∧ Below w.heap.size w w' := by
  obtain ⟨hra, A, ca, rfl, hca, hcam, ba, offa, hA, hcella⟩ := ha
  obtain ⟨hrb, B, cb, rfl, hcb, hcbm, bb, offb, hB, hcellb⟩ := hb
  obtain ⟨i0, hi, hz0, hz1, hz2⟩ := info_parts info132
  have hb69 := fun W => build137 A B a.length ca b.length cb W
  have hra' := hid hra
  have hrb' := hid hrb
  have hca' := hid hcella
  have hcb' := hid hcellb
  clear hra hrb hcella hcellb
  go_enter Try.func74, Try.ntmps74
  go_wp2
  go_loopw [5, 15] (fun v j wr => ∃ (k : Nat), k ≤ 2 ∧ j = .int .i64 k ∧ wr.ownsRow w.heap.size 132 3 v (pre2 a b k).length (eflat (pre2 a b k)) ∧ Below w.heap.size w wr) (fun _ j _ => 2 - (intOf j).toNat)
  case atStart => exact ⟨0, by omega, rfl, World.ownsRow_nil _ _ _ _, Below.refl _ _⟩
  case round =>
    obtain ⟨k, hk, rfl, hown, hBl⟩ := hrel
    by_cases hlt : k < 2
    · obtain ⟨L, l, cl, bl, offl, hix, hll, hAl, hcl, hrl, hstep⟩ : ∃ (L : Option Addr) (l : List (Int × Int)) (cl bl offl : Nat),
          (∀ W, (Instr.index 137 (.agg #[.slice A a.length ca, .slice B b.length cb]) (.int .i64 (k : Int))).run Try.prog W = .ok (.slice L l.length cl) W) ∧ l.length ≤ 10000 ∧
          (0 < l.length → L = some ⟨bl, offl, none⟩ ∧ bl < w.heap.size) ∧ Hid (∀ i e, l[i]? = some e → w.cell? ⟨bl, offl + i * 2, none⟩ = some (.int .i64 e.1) ∧ w.cell? ⟨bl, offl + i * 2 + 1, none⟩ = some (.int .i64 e.2)) ∧
          Hid (∀ e ∈ l, R64 e.1 ∧ R64 e.2) ∧ Hid (pre2 a b (k + 1) = pre2 a b k ++ edgesOf k l) := by
        rcases (show k = 0 ∨ k = 1 from by omega) with rfl | rfl
        · exact ⟨A, a, ca, ba, offa, fun W => index137_0 A B _ _ _ _ W, la, hA, hca', hra', hid (pre2_step (by omega))⟩
        · exact ⟨B, b, cb, bb, offb, fun W => index137_1 A B _ _ _ _ W, lb, hB, hcb', hrb', hid (pre2_step (by omega))⟩
      have hd2 : decide ((k : Int) < 2) = true := by simp; omega
      go_wp2
      obtain ⟨wo, rfl⟩ : ∃ wo : World, wo = wr := ⟨_, rfl⟩
      go_loopw [5, 21] (fun v j wr => ∃ (i : Nat), i ≤ l.length ∧ j = .int .i64 i ∧ wr.ownsRow w.heap.size 132 3 v (pre2 a b k ++ edgesOf k (l.take i)).length (eflat (pre2 a b k ++ edgesOf k (l.take i))) ∧ Below w.heap.size w wr) (fun _ j _ => l.length - (intOf j).toNat)
      case atStart => exact ⟨0, by omega, rfl, by simpa [edgesOf] using hown, hBl⟩
      case round =>
        obtain ⟨i, hil, rfl, hown, hBl⟩ := hrel
        have hBs := hBl.size
        by_cases hlt2 : i < l.length
        · obtain ⟨hL1, hbl⟩ := hAl (by omega)
          subst hL1
          obtain ⟨⟨s, n⟩, he⟩ : ∃ e, l[i]? = some e := ⟨l[i], List.getElem?_eq_getElem hlt2⟩
          obtain ⟨hs, hn⟩ := hrl.out (s, n) (List.mem_of_getElem? he)
          have hc1 := (hBl.cell (p := ⟨bl, offl + i * 2, none⟩) hbl).trans (hcl.out i _ he).1
          have hc2 := (hBl.cell (p := ⟨bl, offl + i * 2 + 1, none⟩) hbl).trans (hcl.out i _ he).2
          have HE := hid he
          have hlen : (pre2 a b k ++ edgesOf k (l.take i)).length ≤ 60000 := by
            have := pre2_length a b k
            have := edgesOf_length k (l.take i)
            have : (l.take i).length ≤ i := List.length_take_le _ _
            rw [List.length_append]
            omega
          clear he
          dsimp only at hc1 hc2 hs hn
          by_cases hcl2 : clipF s n < clipE s n
          · go_wp2_with (first | (go_at_call 58; refine (clip_any s n _ hs hn).mono ?_; rintro e w1 ⟨rfl, hb1⟩; have hown1 := own_below (hown.alloc _) hb1) | (at_builtin; refine wpList_append_own _ rfl _ _ 129 rfl w.heap.size 132 i0 (.agg #[.int .i64 0, .int .i64 0, .int .i64 0]) 3 24 Try.underlying129 hi hz0 hz1 hz2 rfl (by decide) _ _ _ rfl (hown1.alloc _) ⟨w1.heap.size, 0, none⟩ 2 2 _ rfl (eflat_length [(clipF s n, (k : Int), 1), (clipE s n, k, -1)]) (cells_new w1 132 _) ?_ ?_ ?_ ?_ ?_))
            · intro u hu
              simp only [eflat, enc3, List.flatMap_cons, List.flatMap_nil, List.cons_append, List.nil_append, List.mem_cons, List.not_mem_nil, or_false] at hu
              rcases hu with rfl | rfl | rfl | rfl | rfl | rfl <;> rfl
            · unfold maxLen; omega
            · omega
            · have := hb1.size; simp at this ⊢; omega
            · intro v' w2 hown2 hgrow _
              have hrel2 : w2.ownsRow w.heap.size 132 3 v' (pre2 a b k ++ edgesOf k (l.take (i + 1))).length (eflat (pre2 a b k ++ edgesOf k (l.take (i + 1)))) := by
                rw [edgesOf_take HE, if_pos hcl2, ← List.append_assoc, eflat_append]
                simp only [List.length_append, List.length_cons, List.length_nil] at hown2 ⊢
                exact hown2
              have hB2 : Below w.heap.size w w2 := (hBl.trans ((below_more hb1 hBs).alloc (by have := hb1.size; simp at this; omega) _)).grown hgrow (by have := hb1.size; simp at this ⊢; omega) (fun q hq => (hown1.lt q hq).1)
              clear hown2 hgrow hown1 hown
              go_wp2
              go_roundw
              case rel =>
                exact ⟨i + 1, by omega, by go_num, hrel2, hB2⟩
              case measure => simp [intOf]; omega
          · go_wp2_with (go_at_call 58; refine (clip_any s n _ hs hn).mono ?_; rintro e w1 ⟨rfl, hb1⟩; have hown1 := own_below (hown.alloc _) hb1)
            go_roundw
            case rel =>
              have hrel2 : w1.ownsRow w.heap.size 132 3 u5 (pre2 a b k ++ edgesOf k (l.take (i + 1))).length (eflat (pre2 a b k ++ edgesOf k (l.take (i + 1)))) := by
                rw [edgesOf_take HE, if_neg (by omega), List.append_nil]
                exact hown1
              exact ⟨i + 1, by omega, by go_num, hrel2, hBl.trans (below_more hb1 hBs)⟩
            case measure => simp [intOf]; omega
        · obtain rfl : i = l.length := by omega
          have hown' : wr.ownsRow w.heap.size 132 3 u5 (pre2 a b (k + 1)).length (eflat (pre2 a b (k + 1))) := by
            rw [hstep.out]
            rw [List.take_length] at hown
            exact hown
          clear hown
          go_wp2
          go_roundw
          case rel => exact ⟨k + 1, by omega, by go_num, hown', hBl⟩
          case measure => simp [intOf]; omega
    · obtain rfl : k = 2 := by omega
      have hp2 : pre2 a b 2 = edgesOf 0 a ++ edgesOf 1 b := rfl
      rw [hp2] at hown
      have hlen : (edgesOf 0 a ++ edgesOf 1 b).length ≤ 100000 := by
        have := edgesOf_length 0 a
        have := edgesOf_length 1 b
        rw [List.length_append]
        omega
      go_wp2_with (go_at_call 78; refine (sort_own w.heap.size _ _ _ hown hBl.size hlen).mono ?_; rintro e w2 ⟨rfl, d', hperm, hsorted, heds, hbel⟩)
      go_ret
      exact ⟨_, d', rfl, hperm, hsorted, heds, hBl.trans hbel⟩
end Go.Proofs.Ytoefbgkeinhibaa.Xt
