/- What was read is put again. -/
import Derived.Test.YtchpoddfjbopbaaWa
namespace Go.Proofs.Ytchpoddfjbopbaa
open Go.RowKit Go.Lib

theorem arr_of_own {E : TypeId} {st base n : Nat} {w : World} {v : Value} {rows : List (List Value)} (ho : w.ownsRow base E st v n rows.flatten) (hn : rows.length = n) (hr : ∀ r ∈ rows, r.length = st) : Arr w v st rows := by
  rcases ho.2 with ⟨rfl, h0⟩ | ⟨g, cap, cur, rfl, _, hg, hc, hm, hs, ht⟩
  · obtain rfl : rows = [] := List.eq_nil_of_length_eq_zero (by omega)
    exact arr_nil _ _
  · refine arr_at hr hn.symm hc hm hg (fun k u hu => ?_)
    rw [← ht, List.getElem?_take] at hu
    split at hu
    · simpa using hu
    · cases hu
theorem lv_arr {α : Type} {E : TypeId} {st : Nat} {CR : World → List Value → α → Prop} {w : World} {v : Value} {xs : List α} (cX : α → List Value) (hcr : ∀ r x, CR w r x → r = cX x ∧ r.length = st) (h : LV E st CR w v xs) : Arr w v st (xs.map cX) := by
  obtain ⟨base, rows, ho, hl, hr⟩ := h
  have he : rows = xs.map cX := by
    apply List.ext_getElem?
    intro i
    rw [List.getElem?_map]
    rcases Nat.lt_or_ge i rows.length with hi | hi
    · obtain ⟨x, hx⟩ : ∃ x, xs[i]? = some x := ⟨xs[i]'(by omega), List.getElem?_eq_getElem (by omega)⟩
      rw [hx, List.getElem?_eq_getElem hi]
      exact congrArg some (hcr _ _ (hr i _ x (List.getElem?_eq_getElem hi) hx)).1
    · rw [List.getElem?_eq_none hi, List.getElem?_eq_none (by omega)]
      rfl
  rw [← he]
  refine arr_of_own ho hl (fun r hr' => ?_)
  obtain ⟨i, hi⟩ := List.mem_iff_getElem?.1 hr'
  have hil := (List.getElem?_eq_some_iff.1 hi).1
  exact (hcr _ _ (hr i r (xs[i]'(by omega)) hi (List.getElem?_eq_getElem (by omega)))).2
theorem many_len {α : Type} {E : α → List Nat} {c : Nat} {xs : List α} (h : ∀ x ∈ xs, c ≤ (E x).length) : c * xs.length ≤ (eMany E xs).length := by
  unfold eMany
  induction xs with
  | nil => simp
  | cons x xs ih =>
    rw [List.map_cons, List.flatten_cons, List.length_append, List.length_cons, Nat.mul_succ]
    have h1 := h x (List.mem_cons_self ..)
    have h2 := ih (fun y hy => h y (List.mem_cons_of_mem _ hy))
    omega
theorem many_in {α : Type} {E : α → List Nat} {xs : List α} {x : α} (h : x ∈ xs) : (E x).length ≤ (eMany E xs).length := by
  unfold eMany
  induction xs with
  | nil => cases h
  | cons y xs ih =>
    rw [List.map_cons, List.flatten_cons, List.length_append]
    rcases List.mem_cons.1 h with rfl | h
    · omega
    · have := ih h; omega
theorem list_len {α : Type} {E : α → List Nat} (xs : List α) : (eList E xs).length = (enc xs.length).length + (eMany E xs).length := by unfold eList; rw [List.length_append]
theorem eList_congr {α β : Type} {E : α → List Nat} {F : β → List Nat} {f : α → β} {xs : List α} (h : ∀ x ∈ xs, F (f x) = E x) : eList F (xs.map f) = eList E xs := by
  unfold eList eMany
  rw [List.length_map, List.map_map]
  congr 2
  exact List.map_congr_left (fun x hx => h x hx)

theorem nums_of_lv {w : World} {v : Value} {xs : List Nat} (h : LV 3 1 crNum w v xs) : Nums w v (xs.map fun (x : Nat) => (x : Int)) := by
  have := lv_arr (fun (x : Nat) => cInt (x : Int)) (fun r x (hr : r = _) => ⟨hr, by rw [hr]; rfl⟩) h
  unfold Nums
  rw [List.map_map]
  exact this
theorem sec_of_lv {w : World} {v : Value} {xs : List (List Nat)} (h : LV 59 8 crSec w v xs) : Sec w v xs := by
  refine ⟨fun s hs => ?_, lv_arr cSec (fun r x hr => ⟨hr.1, by rw [hr.1]; unfold cSec; rw [List.length_map]; exact hr.2.1⟩) h⟩
  obtain ⟨base, rows, _, hl, hr⟩ := h
  obtain ⟨i, hi⟩ := List.mem_iff_getElem?.1 hs
  have hil := (List.getElem?_eq_some_iff.1 hi).1
  exact (hr i (rows[i]'(by omega)) s (List.getElem?_eq_getElem (by omega)) hi).2
def castE (x : Nat × Nat) : Int × Int := ((x.1 : Int), (x.2 : Int))
theorem ext_of_lv {w : World} {v : Value} {xs : List (Nat × Nat)} (h : LV 66 2 crExt w v xs) : Ext w v (xs.map castE) := by
  have := lv_arr (fun x => cExt (castE x)) (fun r x (hr : r = _) => ⟨hr, by rw [hr]; rfl⟩) h
  unfold Ext
  rw [List.map_map]
  exact this
theorem list_of' {α : Type} {p : Nat → α → Prop} : ∀ (n : Nat), (∀ i, i < n → ∃ e, p i e) → ∃ l : List α, l.length = n ∧ ∀ i e, l[i]? = some e → p i e := by
  intro n
  induction n with
  | zero => intro _; exact ⟨[], rfl, fun i e h => by simp at h⟩
  | succ n ih =>
    intro h
    obtain ⟨l, hl, hp⟩ := ih fun i hi => h i (by omega)
    obtain ⟨e, he⟩ := h n (by omega)
    refine ⟨l ++ [e], by simp [hl], fun i f hf => ?_⟩
    rcases Nat.lt_or_ge i n with hi | hi
    · rw [List.getElem?_append_left (by omega)] at hf
      exact hp i f hf
    · rw [List.getElem?_append_right (by omega)] at hf
      have hi' : i = n := by
        have := (List.getElem?_eq_some_iff.1 hf).1
        simp at this
        omega
      subst hi'
      simp [hl] at hf
      subst hf
      exact he
theorem wrs_of_lv {w : World} {v : Value} {xs : List ((Nat × Nat) × List (List Nat))} (h : LV 79 3 crWri w v xs) (hb : ∀ x ∈ xs, x.2.length ≤ 60000) : ∃ ds : List Value, ds.length = xs.length ∧ Wrs w v ((xs.zip ds).map fun p => ⟨(p.1.1.1 : Int), (p.1.1.2 : Int), p.2, p.1.2⟩) := by
  obtain ⟨base, rows, ho, hl, hr⟩ := h
  have hch : ∀ i, i < xs.length → ∃ dv : Value, ∀ r x, rows[i]? = some r → xs[i]? = some x → r = [.int .i64 (x.1.1 : Int), .int .i64 (x.1.2 : Int), dv] ∧ LV 59 8 crSec w dv x.2 := fun i hi => by
    obtain ⟨dv, h1, h2⟩ := hr i (rows[i]'(by omega)) (xs[i]'hi) (List.getElem?_eq_getElem (by omega)) (List.getElem?_eq_getElem hi)
    refine ⟨dv, fun r x hr hx => ?_⟩
    rw [List.getElem?_eq_getElem (by omega)] at hr
    rw [List.getElem?_eq_getElem hi] at hx
    cases hr
    cases hx
    exact ⟨h1, h2⟩
  obtain ⟨ds, hdl, hds0⟩ := list_of' (p := fun i (dv : Value) => ∀ (r : List Value) (x : (Nat × Nat) × List (List Nat)), rows[i]? = some r → xs[i]? = some x → r = [.int .i64 (x.1.1 : Int), .int .i64 (x.1.2 : Int), dv] ∧ LV 59 8 crSec w dv x.2) xs.length hch
  have hds : ∀ (i : Nat) (r : List Value) (x : (Nat × Nat) × List (List Nat)) (d : Value), rows[i]? = some r → xs[i]? = some x → ds[i]? = some d → r = [.int .i64 (x.1.1 : Int), .int .i64 (x.1.2 : Int), d] ∧ LV 59 8 crSec w d x.2 := fun i r x d h1 h2 h3 => hds0 i d h3 r x h1 h2
  refine ⟨ds, hdl, fun y hy => ?_, ?_⟩
  · obtain ⟨p, hp, rfl⟩ := List.mem_map.1 hy
    obtain ⟨i, hi⟩ := List.mem_iff_getElem?.1 hp
    rw [List.getElem?_zip_eq_some] at hi
    have hil := (List.getElem?_eq_some_iff.1 hi.1).1
    have := (hds i (rows[i]'(by omega)) p.1 p.2 (List.getElem?_eq_getElem (by omega)) hi.1 hi.2).2
    exact ⟨sec_of_lv this, hb p.1 (List.mem_of_getElem? hi.1)⟩
  · have he : rows = ((xs.zip ds).map fun p => (⟨(p.1.1.1 : Int), (p.1.1.2 : Int), p.2, p.1.2⟩ : Wri)).map cWri := by
      apply List.ext_getElem?
      intro i
      rw [List.getElem?_map, List.getElem?_map]
      rcases Nat.lt_or_ge i rows.length with hi | hi
      · obtain ⟨x, hx⟩ : ∃ x, xs[i]? = some x := ⟨xs[i]'(by omega), List.getElem?_eq_getElem (by omega)⟩
        obtain ⟨d, hd⟩ : ∃ d, ds[i]? = some d := ⟨ds[i]'(by omega), List.getElem?_eq_getElem (by omega)⟩
        have hz : (xs.zip ds)[i]? = some (x, d) := List.getElem?_zip_eq_some.2 ⟨hx, hd⟩
        rw [hz, List.getElem?_eq_getElem hi]
        exact congrArg some (hds i _ x d (List.getElem?_eq_getElem hi) hx hd).1
      · rw [List.getElem?_eq_none hi, List.getElem?_eq_none (by rw [List.length_zip]; omega)]
        rfl
    have hrow : ∀ r ∈ rows, r.length = 3 := fun r hr' => by
      obtain ⟨i, hi⟩ := List.mem_iff_getElem?.1 hr'
      have hil := (List.getElem?_eq_some_iff.1 hi).1
      rw [(hds i r (xs[i]'(by omega)) (ds[i]'(by omega)) hi (List.getElem?_eq_getElem (by omega)) (List.getElem?_eq_getElem (by omega))).1]
      rfl
    rw [← he]
    exact arr_of_own ho hl hrow

theorem eNum_cast {n : Nat} (h : n ≤ top) : eNum (n : Int) = enc n := by unfold eNum; rw [cl_nat (by unfold top at h; omega)]
theorem eWr_len (x : (Nat × Nat) × List (List Nat)) (h : ∀ l ∈ x.2, l.length = 8 ∧ B8 l) : 8 * x.2.length ≤ (eWr x).length := by
  have hm := many_len (E := fun l : List Nat => l) (c := 8) (xs := x.2) (fun y hy => by have := (h y hy).1; simp only [this]; omega)
  unfold eWr
  rw [List.length_append, list_len]
  omega
/-- What is put when x was read at the beginning of s, with t behind it. -/
def Putback (F : FuncId) (s t : List Nat) (u : Value) (w : World) : Prop := ∃ b : List Nat, s = b ++ t ∧ Calls Try.prog F #[.slice none 0 0, u] w (MadeY w b)
theorem pb_int {s t : List Nat} {x : Nat} {w : World} {u : Value} (h8 : B8 s) (hd : dNum s = .ok (x, t)) (hv : VNat w u x) : Putback 13 s t u w := by
  obtain ⟨h1, h2⟩ := num_code.once s x t h8 hd
  unfold VNat at hv
  subst hv
  refine ⟨_, h1, (putInt_any (x : Int) [] (.slice none 0 0) w (byt_nil _) nilOk_nil (by simp)).mono fun e w' h => ?_⟩
  rw [show [] ++ enc (cl (x : Int)) = enc x by rw [cl_nat (by unfold top at h2; omega)]; rfl] at h
  exact h
theorem pb_bytes {s t x : List Nat} {w : World} {u : Value} (hl : s.length ≤ 1000) (h8 : B8 s) (hd : dBytes s = .ok (x, t)) (hv : VByt w u x) : Putback 15 s t u w := by
  obtain ⟨h1, _, _, h2⟩ := bytes_code.once s x t h8 hd
  have hlx : x.length ≤ s.length := by rw [h1]; unfold eBytes; simp; omega
  exact ⟨_, h1, (putBytes_any x [] (.slice none 0 0) u w (byt_nil _) nilOk_nil (vbyt_byt hv) (vbyt_nil hv) (by simp) (by omega)).mono fun e w' h => h.made (by rw [List.nil_append]; exact (h1 ▸ h8).left)⟩
theorem pb_ints {s t : List Nat} {xs : List Nat} {w : World} {u : Value} (hl : s.length ≤ 1000) (h8 : B8 s) (hd : dList dNum s = .ok (xs, t)) (hv : LV 3 1 crNum w u xs) : Putback 17 s t u w := by
  obtain ⟨h1, _, _, h2⟩ := (list_code num_code).once s xs t h8 hd
  have he : eList eNum (xs.map fun (x : Nat) => (x : Int)) = eList Ytchpoddfjbopbaa.enc xs := eList_congr (fun x hx => eNum_cast (h2 x hx))
  have hlen := congrArg List.length h1
  rw [List.length_append] at hlen
  have hll := list_len (E := Ytchpoddfjbopbaa.enc) xs
  have hml := many_len (E := Ytchpoddfjbopbaa.enc) (c := 1) (xs := xs) (fun x _ => enc_pos x)
  refine ⟨_, h1, (putInts_any (xs.map fun (x : Nat) => (x : Int)) [] (.slice none 0 0) u w (byt_nil _) nilOk_nil (nums_of_lv hv) (by rw [List.length_map]; omega) (by rw [he]; simp; omega)).mono fun e w' h => ?_⟩
  rw [he, List.nil_append] at h
  exact h.made (h1 ▸ h8).left
theorem pb_secs {s t : List Nat} {xs : List (List Nat)} {w : World} {u : Value} (hl : s.length ≤ 1000) (h8 : B8 s) (hd : dList dSec s = .ok (xs, t)) (hv : LV 59 8 crSec w u xs) : Putback 20 s t u w := by
  obtain ⟨h1, _, _, h2⟩ := (list_code sec_code).once s xs t h8 hd
  have hlen := congrArg List.length h1
  rw [List.length_append] at hlen
  have hll := list_len (E := fun l : List Nat => l) xs
  have hml := many_len (E := fun l : List Nat => l) (c := 8) (xs := xs) (fun x hx => by have := (h2 x hx).1; simp only [this]; omega)
  refine ⟨_, h1, (putSecs_any xs [] (.slice none 0 0) u w (byt_nil _) nilOk_nil (sec_of_lv hv) (by omega) (by show 0 + (eList (fun l : List Nat => l) xs).length ≤ 60000; omega)).mono fun e w' h => ?_⟩
  rw [List.nil_append] at h
  exact h.made (h1 ▸ h8).left
theorem eExt_cast {x : Nat × Nat} (h : x.1 ≤ top ∧ x.2 ≤ top) : eExtI (castE x) = eExt x := by
  unfold eExtI eExt castE
  rw [eNum_cast h.1, eNum_cast h.2]
theorem pb_exts {s t : List Nat} {xs : List (Nat × Nat)} {w : World} {u : Value} (hl : s.length ≤ 1000) (h8 : B8 s) (hd : dList dExt s = .ok (xs, t)) (hv : LV 66 2 crExt w u xs) : Putback 22 s t u w := by
  obtain ⟨h1, _, _, h2⟩ := (list_code ext_code).once s xs t h8 hd
  have he : eList eExtI (xs.map castE) = eList eExt xs := eList_congr (fun x hx => eExt_cast (h2 x hx))
  have hlen := congrArg List.length h1
  rw [List.length_append] at hlen
  have hll := list_len (E := eExt) xs
  have hml := many_len (E := eExt) (c := 1) (xs := xs) (fun x _ => by unfold eExt; rw [List.length_append]; have := enc_pos x.1; omega)
  refine ⟨_, h1, (putExts_any (xs.map castE) [] (.slice none 0 0) u w (byt_nil _) nilOk_nil (ext_of_lv hv) (by rw [List.length_map]; omega) (by rw [he]; simp; omega)).mono fun e w' h => ?_⟩
  rw [he, List.nil_append] at h
  exact h.made (h1 ▸ h8).left
theorem pb_wris {s t : List Nat} {xs : List ((Nat × Nat) × List (List Nat))} {w : World} {u : Value} (hl : s.length ≤ 1000) (h8 : B8 s) (hd : dList dWr s = .ok (xs, t)) (hv : LV 79 3 crWri w u xs) : Putback 24 s t u w := by
  obtain ⟨h1, _, _, h2⟩ := (list_code wr_code).once s xs t h8 hd
  have hlen := congrArg List.length h1
  rw [List.length_append] at hlen
  have hll := list_len (E := eWr) xs
  have hml := many_len (E := eWr) (c := 1) (xs := xs) (fun x _ => by unfold eWr eExt; rw [List.length_append, List.length_append]; have := enc_pos x.1.1; omega)
  obtain ⟨ds, hdl, hw⟩ := wrs_of_lv hv (fun x hx => by have h3 := eWr_len x (h2 x hx).2.2.2; have h4 := many_in (E := eWr) hx; omega)
  have he : eList eWri ((xs.zip ds).map fun p => ⟨(p.1.1.1 : Int), (p.1.1.2 : Int), p.2, p.1.2⟩) = eList eWr xs := by
    rw [eList_congr (E := fun p : ((Nat × Nat) × List (List Nat)) × Value => eWr p.1) (fun p hp => ?_)]
    · have hz : (xs.zip ds).map (fun p => p.1) = xs := by rw [List.map_fst_zip (by omega)]
      conv => rhs; rw [← hz]
      exact (eList_congr (fun _ _ => rfl)).symm
    · have hp1 : p.1 ∈ xs := (List.of_mem_zip hp).1
      have ho := h2 p.1 hp1
      unfold eWri eWr
      dsimp only
      rw [eNum_cast ho.1.1, eNum_cast ho.1.2]
      rfl
  refine ⟨_, h1, (putWris_any _ [] (.slice none 0 0) u w (byt_nil _) nilOk_nil hw (by rw [List.length_map, List.length_zip]; omega) (by rw [he]; simp; omega)).mono fun e w' h => ?_⟩
  rw [he, List.nil_append] at h
  exact h.made (h1 ▸ h8).left
end Go.Proofs.Ytchpoddfjbopbaa
