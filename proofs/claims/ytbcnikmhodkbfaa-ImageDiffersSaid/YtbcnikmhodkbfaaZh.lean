/- Runs of sectors, one after the other; what a patch makes of an image. -/
import Derived.Test.YtbcnikmhodkbfaaZf
namespace Go.Proofs.Ytbcnikmhodkbfaa
open Go.RowKit Go.Lib

/-- A list of extents with one more sector behind all others. -/
def addR (out : List (Int × Int)) (i : Nat) : List (Int × Int) :=
  match out.getLast? with
  | some e => if e.1 + e.2 = (i : Int) then out.dropLast ++ [(e.1, e.2 + 1)] else out ++ [((i : Int), 1)]
  | none => [((i : Int), 1)]
theorem addR_nil (i : Nat) : addR [] i = [((i : Int), 1)] := rfl
theorem addR_on {pre : List (Int × Int)} {e : Int × Int} {i : Nat} (h : e.1 + e.2 = (i : Int)) : addR (pre ++ [e]) i = pre ++ [(e.1, e.2 + 1)] := by
  unfold addR
  simp [h]
theorem addR_new {pre : List (Int × Int)} {e : Int × Int} {i : Nat} (h : e.1 + e.2 ≠ (i : Int)) : addR (pre ++ [e]) i = (pre ++ [e]) ++ [((i : Int), 1)] := by
  unfold addR
  simp [h]
theorem list_ends {α : Type} (l : List α) : l = [] ∨ ∃ p e, l = p ++ [e] := by
  rcases List.eq_nil_or_concat l with h | ⟨p, e, h⟩
  · exact .inl h
  · exact .inr ⟨p, e, by simpa using h⟩
def sumE (l : List (Int × Int)) : Int := (l.map (·.2)).sum
theorem sumE_append (a b : List (Int × Int)) : sumE (a ++ b) = sumE a + sumE b := by unfold sumE; rw [List.map_append, List.sum_append]
theorem sumE_one (e : Int × Int) : sumE [e] = e.2 := by unfold sumE; simp
theorem addR_sum (out : List (Int × Int)) (i : Nat) : sumE (addR out i) = sumE out + 1 := by
  rcases list_ends out with rfl | ⟨p, e, rfl⟩
  · rfl
  · by_cases h : e.1 + e.2 = (i : Int)
    · rw [addR_on h, sumE_append, sumE_append, sumE_one, sumE_one]
      omega
    · rw [addR_new h, sumE_append, sumE_one]
def GoodR (out : List (Int × Int)) (i : Nat) : Prop := Xt.Canon 0 out ∧ ∀ e ∈ out, e.1 + e.2 ≤ (i : Int)
theorem inE_one {i : Nat} (hi : i < 4096) (x : Int) : Xt.inE ((i : Int), 1) x = decide (x = (i : Int)) := by
  rw [Bool.eq_iff_iff, Xt.inE_iff, decide_eq_true_iff]
  dsimp only
  omega
theorem addR_good {out : List (Int × Int)} {i : Nat} (h : GoodR out i) (hi : i < 4096) : GoodR (addR out i) (i + 1) ∧ ∀ x, Xt.mem (addR out i) x = (Xt.mem out x || decide (x = (i : Int))) := by
  rcases list_ends out with rfl | ⟨p, e, rfl⟩
  · rw [addR_nil]
    refine ⟨⟨⟨by omega, by omega, by omega, trivial⟩, fun f hf => ?_⟩, fun x => ?_⟩
    · rw [List.mem_singleton] at hf
      subst hf
      dsimp only
      omega
    · rw [Xt.mem_cons, Xt.mem_nil, inE_one hi, Bool.or_false, Bool.false_or]
  · obtain ⟨h1, h2⟩ := h
    obtain ⟨c1, c2, c3, c4, c5⟩ := Xt.canon_split (s := e.1) (n := e.2) h1
    have he := h2 e (by simp)
    by_cases hc : e.1 + e.2 = (i : Int)
    · rw [addR_on hc]
      refine ⟨⟨Xt.canon_snoc c1 c2 c3 (by omega) (by omega), fun f hf => ?_⟩, fun x => ?_⟩
      · rcases List.mem_append.1 hf with hf | hf
        · have := h2 f (List.mem_append_left _ hf)
          omega
        · rw [List.mem_singleton] at hf
          subst hf
          dsimp only
          omega
      · rw [Xt.mem_append, Xt.mem_append, Xt.mem_cons, Xt.mem_cons, Xt.mem_nil, Bool.or_false, Bool.or_false, Bool.or_assoc]
        congr 1
        rw [Bool.eq_iff_iff, Bool.or_eq_true, Xt.inE_iff, Xt.inE_iff, decide_eq_true_iff]
        dsimp only
        omega
    · rw [addR_new hc]
      refine ⟨⟨Xt.canon_snoc h1 (by omega) (fun f hf => ?_) (by omega) (by omega), fun f hf => ?_⟩, fun x => ?_⟩
      · rcases List.mem_append.1 hf with hf | hf
        · have := c3 f hf
          omega
        · rw [List.mem_singleton] at hf
          subst hf
          omega
      · rcases List.mem_append.1 hf with hf | hf
        · have := h2 f hf
          omega
        · rw [List.mem_singleton] at hf
          subst hf
          dsimp only
          omega
      · rw [Xt.mem_append, Xt.mem_cons, Xt.mem_nil, inE_one hi, Bool.or_false]
def runsL (l : List Nat) : List (Int × Int) := l.foldl addR []
theorem runs_snoc (l : List Nat) (i : Nat) : runsL (l ++ [i]) = addR (runsL l) i := by unfold runsL; rw [List.foldl_append]; rfl
theorem runs_dif (a b : List Sect) : ∀ (k : Nat), k ≤ 4096 → GoodR (runsL (difN a b k)) k ∧ (∀ x, Xt.mem (runsL (difN a b k)) x = Xt.mem (one1 (difN a b k)) x) ∧ sumE (runsL (difN a b k)) = ((difN a b k).length : Int) := by
  intro k
  induction k with
  | zero => intro _; exact ⟨⟨trivial, fun e he => by cases he⟩, fun x => rfl, rfl⟩
  | succ k ih =>
    intro hk
    obtain ⟨h1, h2, h3⟩ := ih (by omega)
    rw [difN_succ]
    split
    · obtain ⟨g1, g2⟩ := addR_good h1 (by omega)
      rw [runs_snoc, one1_snoc, addR_sum, h3, List.length_append, List.length_singleton]
      refine ⟨g1, fun x => ?_, by omega⟩
      rw [g2, Xt.mem_append, Xt.mem_cons, Xt.mem_nil, inE_one (by omega), Bool.or_false, h2]
    · rw [List.append_nil]
      exact ⟨⟨h1.1, fun e he => by have := h1.2 e he; omega⟩, h2, h3⟩
theorem dx_runs {a b : List Sect} {l : List (Int × Int)} (h : Dx a b l) (ha : a.length ≤ 4096) : l = runsL (dif a b) := by
  obtain ⟨h1, h2, _⟩ := runs_dif a b a.length ha
  exact Xt.canon_ext (Int.le_refl 0) h.1 h1.1 (fun x => by rw [h.2 x]; exact (h2 x).symm)
theorem dx_sum {a b : List Sect} {l : List (Int × Int)} (h : Dx a b l) (ha : a.length ≤ 4096) : sumE l = ((dif a b).length : Int) := by
  rw [dx_runs h ha]
  exact (runs_dif a b a.length ha).2.2
theorem runs_dx {a b : List Sect} (ha : a.length ≤ 4096) : Dx a b (runsL (dif a b)) := by
  obtain ⟨h1, h2, _⟩ := runs_dif a b a.length ha
  exact ⟨h1.1, h2⟩
theorem dif_self (a : List Sect) : dif a a = [] := by
  unfold dif difN
  simp
/- What a patch makes of an image. -/
theorem patK_mem {M : List (List Sect)} {ds : List Dvol} {n : Nat} {p : Int × Int × List Sect} : p ∈ patK M ds n ↔ ∃ k, k < n ∧ ∃ e ∈ exs ds k, p = ((k : Int), e.1, ((M.getD k []).drop e.1.toNat).take e.2.toNat) := by
  induction n with
  | zero =>
    constructor
    · intro h
      cases h
    · rintro ⟨k, hk, _⟩
      omega
  | succ n ih =>
    rw [patK, List.mem_append, ih]
    constructor
    · rintro (⟨k, hk, h⟩ | h)
      · exact ⟨k, by omega, h⟩
      · unfold pat1 at h
        obtain ⟨e, he, rfl⟩ := List.mem_map.1 h
        exact ⟨n, by omega, e, he, rfl⟩
    · rintro ⟨k, hk, e, he, rfl⟩
      by_cases h : k = n
      · subst h
        exact .inr (by unfold pat1; exact List.mem_map.2 ⟨e, he, rfl⟩)
      · exact .inl ⟨k, by omega, e, he, rfl⟩
theorem appW_all : ∀ {ws : List Wri} {L : List (List Sect)} {i : Nat}, (∀ x ∈ ws, fitE L x.v x.s x.l.length = 0) → ∃ L', appW L ws i = .ok L' := by
  intro ws
  induction ws with
  | nil => intro L i _; exact ⟨L, rfl⟩
  | cons x t ih =>
    intro L i h
    have h0 := h x (List.mem_cons_self ..)
    rw [appW, if_neg (fun h1 => h1 h0)]
    obtain ⟨_, h1, h2, h3, h4, h5⟩ := fit_ok h0
    exact ih (fun y hy => by rw [fitE_congr (siz_app1 (by omega))]; exact h y (List.mem_cons_of_mem _ hy))
def covB (v s : Nat) (x : Wri) : Prop := x.v = (v : Int) ∧ x.s ≤ (s : Int) ∧ (s : Int) - x.s < (x.l.length : Int)
theorem fold_cov {v s : Nat} {m : Sect} : ∀ {ws : List Wri} {c : Sect}, (∀ x ∈ ws, covB v s x → (x.l[((s : Int) - x.s).toNat]?).getD [] = m) → (c = m ∨ ∃ x ∈ ws, covB v s x) → ws.foldl (stepW v s) c = m := by
  intro ws
  induction ws with
  | nil =>
    rintro c _ (h | ⟨x, hx, _⟩)
    · exact h
    · cases hx
  | cons x t ih =>
    intro c h1 h2
    rw [List.foldl_cons]
    by_cases hc : covB v s x
    · have e : stepW v s c x = m := by
        have h0 := h1 x (List.mem_cons_self ..) hc
        unfold stepW
        unfold covB at hc
        rw [if_pos hc]
        exact h0
      rw [e]
      exact ih (fun y hy => h1 y (List.mem_cons_of_mem _ hy)) (.inl rfl)
    · have e : stepW v s c x = c := by
        unfold stepW
        unfold covB at hc
        rw [if_neg hc]
      rw [e]
      refine ih (fun y hy => h1 y (List.mem_cons_of_mem _ hy)) ?_
      rcases h2 with h2 | ⟨y, hy, hcy⟩
      · exact .inl h2
      · rcases List.mem_cons.1 hy with rfl | hy
        · exact absurd hcy hc
        · exact .inr ⟨y, hy, hcy⟩
theorem mem_dif {a b : List Sect} {s : Nat} (hs : s < a.length) (h : a[s]? ≠ b[s]?) : s ∈ dif a b := by
  unfold dif difN
  exact List.mem_filter.2 ⟨List.mem_range.2 hs, decide_eq_true h⟩
theorem getD_lt {L : List (List Sect)} {v s : Nat} {c : Sect} (h : (L.getD v [])[s]? = some c) : v < L.length := by
  rcases Nat.lt_or_ge v L.length with hl | hl
  · exact hl
  · rw [List.getD_eq_getElem?_getD, List.getElem?_eq_none hl] at h
    simp at h
theorem patch_makes {L M : List (List Sect)} {ds : List Dvol} {ws : List Wri} (h0 : difErr L M = 0) (ha : AllDx L M ds) (hw : ws.map wv = patK M ds L.length) : appM L ws = .ok M := by
  obtain ⟨hk, hkM, hsz⟩ := difErr_ok h0
  have hlen : L.length = M.length := by rw [← siz_len L, hsz, siz_len]
  have hex : ∀ k, k < L.length → Dx (L.getD k []) (M.getD k []) (exs ds k) := fun k hk => by
    obtain ⟨x, hx⟩ : ∃ x, ds[k]? = some x := ⟨ds[k]'(by rw [ha.1]; exact hk), List.getElem?_eq_getElem _⟩
    rw [exs_at hx]
    exact ha.2 k x hx
  have hmem : ∀ x ∈ ws, ∃ k, k < L.length ∧ ∃ e ∈ exs ds k, x.v = (k : Int) ∧ x.s = e.1 ∧ x.l = ((M.getD k []).drop e.1.toNat).take e.2.toNat := fun x hx => by
    have h1 : wv x ∈ patK M ds L.length := by rw [← hw]; exact List.mem_map.2 ⟨x, hx, rfl⟩
    obtain ⟨k, hk, e, he, h2⟩ := patK_mem.1 h1
    unfold wv at h2
    injection h2 with h2 h3
    injection h3 with h3 h4
    exact ⟨k, hk, e, he, h2, h3, h4⟩
  have hfit : ∀ x ∈ ws, fitE L x.v x.s x.l.length = 0 := fun x hx => by
    obtain ⟨k, hkl, e, he, e1, e2, e3⟩ := hmem x hx
    obtain ⟨d1, d2, d3⟩ := dx_in (hex k hkl) (siz_getD hsz k) e he
    have hl : x.l.length = e.2.toNat := by rw [e3, List.length_take, List.length_drop]; omega
    unfold fitE
    rw [hk, if_neg (by decide), if_neg (by rw [e1]; omega), if_neg (by omega), if_neg]
    rw [e1, e2, hl, Int.toNat_natCast]
    unfold insB
    have := siz_getD hsz k
    rw [decide_eq_false_iff_not]
    omega
  obtain ⟨L', hL'⟩ := appW_all (i := 0) hfit
  have hM : appM L ws = .ok L' := by unfold appM; rw [hk, if_neg (by decide), hL']
  rw [hM]
  have hs' := (appW_ok hL').1
  have hl' : L'.length = L.length := by rw [← siz_len L', hs', siz_len]
  have hpt : ∀ v s : Nat, (L'.getD v [])[s]? = (M.getD v [])[s]? := fun v s => by
    have z1 := siz_getD hs' v
    have z2 := siz_getD hsz v
    rcases Nat.lt_or_ge s (L.getD v []).length with hs | hs
    · obtain ⟨c, hc⟩ : ∃ c, (L.getD v [])[s]? = some c := ⟨_, List.getElem?_eq_getElem hs⟩
      obtain ⟨m, hm⟩ : ∃ m, (M.getD v [])[s]? = some m := ⟨_, List.getElem?_eq_getElem (by omega)⟩
      have hv := getD_lt hc
      rw [appW_at hL' hc, hm]
      refine congrArg some (fold_cov (fun x hx hcv => ?_) ?_)
      · obtain ⟨k, hkl, e, he, e1, e2, e3⟩ := hmem x hx
        obtain ⟨d1, d2, d3⟩ := dx_in (hex k hkl) (siz_getD hsz k) e he
        obtain ⟨c1, c2, c3⟩ := hcv
        obtain rfl : k = v := by omega
        have hl : x.l.length = e.2.toNat := by rw [e3, List.length_take, List.length_drop]; omega
        rw [e3, List.getElem?_take, if_pos (by omega), List.getElem?_drop, show e.1.toNat + ((s : Int) - x.s).toNat = s by omega, hm]
        rfl
      · by_cases hcm : c = m
        · exact .inl hcm
        · refine .inr ?_
          have hd := mem_dif hs (b := M.getD v []) (by rw [hc, hm]; intro h; injection h with h; exact hcm h)
          have h4 : s < 4096 := by
            have := ((chk_ok hk).2.2 (L.getD v []) (by rw [List.getD_eq_getElem?_getD, List.getElem?_eq_getElem hv]; exact List.getElem_mem _)).2
            omega
          have hin : Xt.mem (exs ds v) (s : Int) = true := by
            rw [(hex v hv).2]
            exact List.any_eq_true.2 ⟨((s : Int), 1), by unfold one1; exact List.mem_map.2 ⟨s, hd, rfl⟩, Xt.inE_iff.2 ⟨by omega, by omega, by omega, by omega⟩⟩
          obtain ⟨e, he, hie⟩ := List.any_eq_true.1 hin
          obtain ⟨_, _, i1, i2⟩ := Xt.inE_iff.1 hie
          obtain ⟨d1, d2, d3⟩ := dx_in (hex v hv) (siz_getD hsz v) e he
          have hpm : ((v : Int), e.1, ((M.getD v []).drop e.1.toNat).take e.2.toNat) ∈ ws.map wv := by rw [hw]; exact patK_mem.2 ⟨v, hv, e, he, rfl⟩
          obtain ⟨x, hx, hxe⟩ := List.mem_map.1 hpm
          unfold wv at hxe
          injection hxe with e1 hxe
          injection hxe with e2 e3
          exact ⟨x, hx, e1, by omega, by rw [e3, List.length_take, List.length_drop]; omega⟩
    · rw [List.getElem?_eq_none (by omega), List.getElem?_eq_none (by omega)]
  have : L' = M := by
    apply List.ext_getElem?
    intro v
    rcases Nat.lt_or_ge v L.length with hv | hv
    · have e : L'.getD v [] = M.getD v [] := List.ext_getElem? (hpt v)
      rw [List.getD_eq_getElem?_getD, List.getD_eq_getElem?_getD, List.getElem?_eq_getElem (by omega), List.getElem?_eq_getElem (by omega)] at e
      rw [List.getElem?_eq_getElem (by omega), List.getElem?_eq_getElem (by omega)]
      exact congrArg some e
    · rw [List.getElem?_eq_none (by omega), List.getElem?_eq_none (by omega)]
  rw [this]
/-- How many sectors differ in the first volumes; how many a list of writes has. -/
def difC (L M : List (List Sect)) : Nat → Nat
  | 0 => 0
  | k + 1 => difC L M k + (dif (L.getD k []) (M.getD k [])).length
def sumW (ws : List Wri) : Nat := (ws.map (fun x => x.l.length)).sum
theorem patch_sum {L M : List (List Sect)} {ds : List Dvol} {ws : List Wri} (h0 : difErr L M = 0) (ha : AllDx L M ds) (hw : ws.map wv = patK M ds L.length) : sumW ws = difC L M L.length := by
  obtain ⟨hk, hkM, hsz⟩ := difErr_ok h0
  have e1 : sumW ws = ((ws.map wv).map (fun p => p.2.2.length)).sum := by unfold sumW; rw [List.map_map]; rfl
  rw [e1, hw]
  have hn : ∀ n, n ≤ L.length → ((patK M ds n).map (fun p => p.2.2.length)).sum = difC L M n := by
    intro n
    induction n with
    | zero => intro _; rfl
    | succ n ih =>
      intro hn
      obtain ⟨x, hx⟩ : ∃ x, ds[n]? = some x := ⟨ds[n]'(by rw [ha.1]; omega), List.getElem?_eq_getElem _⟩
      have hd := ha.2 n x hx
      rw [patK, List.map_append, List.sum_append, ih (by omega), difC, exs_at hx]
      have hal : (L.getD n []).length ≤ 4096 := by
        rw [List.getD_eq_getElem?_getD, List.getElem?_eq_getElem (show n < L.length by omega), Option.getD_some]
        exact ((chk_ok hk).2.2 _ (List.getElem_mem _)).2
      have hs := dx_sum hd hal
      have hin := dx_in hd (siz_getD hsz n)
      have e2 : ∀ l : List (Int × Int), (∀ e ∈ l, 0 ≤ e.1 ∧ 1 ≤ e.2 ∧ e.1 + e.2 ≤ (M.getD n []).length) → ((((pat1 M n l).map (fun p => p.2.2.length)).sum : Nat) : Int) = sumE l := by
        intro l
        induction l with
        | nil => intro _; rfl
        | cons e l il =>
          intro he
          have h1 := he e (List.mem_cons_self ..)
          have h2 := il (fun f hf => he f (List.mem_cons_of_mem _ hf))
          unfold pat1 sumE at h2 ⊢
          rw [List.map_cons, List.map_cons, List.sum_cons, List.map_cons, List.sum_cons, ← h2, Int.natCast_add]
          dsimp only
          rw [List.length_take, List.length_drop]
          omega
      have h3 := e2 x.l hin
      rw [hs] at h3
      omega
  exact hn _ (Nat.le_refl _)
theorem patch_nil {L M : List (List Sect)} {ds : List Dvol} {ws : List Wri} (h0 : difErr L M = 0) (ha : AllDx L M ds) (hw : ws.map wv = patK M ds L.length) : ws.length = 0 ↔ L = M := by
  constructor
  · intro h
    obtain rfl := List.eq_nil_of_length_eq_zero h
    have := patch_makes h0 ha hw
    unfold appM at this
    rw [(difErr_ok h0).1, if_neg (by decide)] at this
    injection this
  · intro h
    subst h
    have hs := patch_sum h0 ha hw
    have h1 : ∀ n, difC L L n = 0 := by
      intro n
      induction n with
      | zero => rfl
      | succ n ih => rw [difC, ih, dif_self]; rfl
    rw [h1] at hs
    rcases hws : ws with _ | ⟨x, t⟩
    · rfl
    · exfalso
      have hx : wv x ∈ patK L ds L.length := by rw [← hw]; exact List.mem_map.2 ⟨x, by rw [hws]; exact List.mem_cons_self .., rfl⟩
      obtain ⟨k, hk, e, he, h2⟩ := patK_mem.1 hx
      obtain ⟨y, hy⟩ : ∃ y, ds[k]? = some y := ⟨ds[k]'(by rw [ha.1]; exact hk), List.getElem?_eq_getElem _⟩
      rw [exs_at hy] at he
      obtain ⟨d1, d2, d3⟩ := dx_in (ha.2 k y hy) rfl e he
      unfold wv at h2
      injection h2 with _ h3
      injection h3 with _ h4
      have hl := congrArg List.length h4
      rw [List.length_take, List.length_drop] at hl
      unfold sumW at hs
      rw [hws, List.map_cons, List.sum_cons] at hs
      omega
end Go.Proofs.Ytbcnikmhodkbfaa
