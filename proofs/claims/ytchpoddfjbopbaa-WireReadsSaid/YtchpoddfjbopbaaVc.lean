/- What values of a law are put as. -/
import Derived.Test.YtchpoddfjbopbaaVb
namespace Go.Proofs.Ytchpoddfjbopbaa
open Go.RowKit Go.Lib

theorem many_le {α : Type} {E : α → List Nat} {c : Nat} {xs : List α} (h : ∀ x ∈ xs, (E x).length ≤ c) : (eMany E xs).length ≤ c * xs.length := by
  unfold eMany
  induction xs with
  | nil => simp
  | cons x xs ih =>
    rw [List.map_cons, List.flatten_cons, List.length_append, List.length_cons, Nat.mul_succ]
    have h1 := h x (List.mem_cons_self ..)
    have h2 := ih (fun y hy => h y (List.mem_cons_of_mem _ hy))
    omega
theorem b8_many {α : Type} {E : α → List Nat} {xs : List α} (h : ∀ x ∈ xs, B8 (E x)) : B8 (eMany E xs) := fun y hy => by
  obtain ⟨z, hz, hy⟩ := List.mem_flatten.1 hy
  obtain ⟨x, hx, rfl⟩ := List.mem_map.1 hz
  exact h x hx y hy
theorem b8_list {α : Type} {E : α → List Nat} {xs : List α} (h : ∀ x ∈ xs, B8 (E x)) : B8 (eList E xs) := (enc_b8 _).append (b8_many h)
theorem b8_wri {x : Wri} (h : Secs x.l) : B8 (eWri x) := ((enc_b8 _).append (enc_b8 _)).append (b8_list (fun s hs => (h s hs).2))
/-- A call that puts b behind what it is given, with the value u. -/
def Puts (F : FuncId) (b : List Nat) (u : Value) (w : World) : Prop := ∀ (l : List Nat) (v : Value), Byt w v l → NilOk v → l.length ≤ 300 → Calls Try.prog F #[v, u] w (MadeY w (l ++ b))
theorem few_true {x : Vals} (h : fewB x = true) : x.li.length ≤ 40 ∧ x.ls.length ≤ 40 ∧ x.le.length ≤ 40 ∧ x.lw.length ≤ 20 ∧ ∀ y ∈ x.lw, y.l.length ≤ 20 := by
  unfold fewB at h
  simp only [Bool.and_eq_true, decide_eq_true_eq, Bool.not_eq_true', List.any_eq_false] at h
  refine ⟨h.1, h.2.1, h.2.2.1, h.2.2.2.1, fun y hy => ?_⟩
  have := h.2.2.2.2 y hy
  unfold longB at this
  simp at this
  exact this
theorem puts_int (n : Int) (w : World) : Puts 13 (enc (cl n)) (.int .i64 n) w := fun l v hv hn hl => putInt_any n l v w hv hn (by omega)
theorem puts_bytes {d : List Nat} {u : Value} {w : World} (hu : Byt w u d) (hn : NilOk u) (hd : d.length ≤ 300) : Puts 15 (eBytes d) u w := fun l v hv hnv hl => (putBytes_any d l v u w hv hnv hu hn (by omega) (by omega)).mono fun _ _ h => h.made (hv.1.append ((enc_b8 _).append hu.1))
theorem puts_ints {x : Vals} {w : World} (hx : Val w x) (hf : fewB x = true) : Puts 17 (eList eNum x.li) x.vi w := fun l v hv hn hl => by
  have hb := few_true hf
  have h1 := many_le (E := eNum) (c := 8) (xs := x.li) (fun y _ => eNum_len y)
  have h2 := list_len (E := eNum) x.li
  have h3 := enc_len (n := x.li.length) (by omega)
  exact (putInts_any x.li l v x.vi w hv hn hx.1 (by omega) (by omega)).mono fun _ _ h => h.made (hv.1.append (b8_list (fun y _ => enc_b8 _)))
theorem puts_secs {x : Vals} {w : World} (hx : Val w x) (hf : fewB x = true) : Puts 20 (eList eSec x.ls) x.vs w := fun l v hv hn hl => by
  have hb := few_true hf
  have h1 := many_le (E := eSec) (c := 8) (xs := x.ls) (fun y hy => by have := (hx.2.1.1 y hy).1; unfold eSec; omega)
  have h2 := list_len (E := eSec) x.ls
  have h3 := enc_len (n := x.ls.length) (by omega)
  exact (putSecs_any x.ls l v x.vs w hv hn hx.2.1 (by omega) (by omega)).mono fun _ _ h => h.made (hv.1.append (b8_list (fun y hy => (hx.2.1.1 y hy).2)))
theorem puts_exts {x : Vals} {w : World} (hx : Val w x) (hf : fewB x = true) : Puts 22 (eList eExtI x.le) x.ve w := fun l v hv hn hl => by
  have hb := few_true hf
  have h1 := many_le (E := eExtI) (c := 16) (xs := x.le) (fun y _ => by have h0 := eNum_len y.1; have h00 := eNum_len y.2; unfold eExtI; rw [List.length_append]; omega)
  have h2 := list_len (E := eExtI) x.le
  have h3 := enc_len (n := x.le.length) (by omega)
  exact (putExts_any x.le l v x.ve w hv hn hx.2.2.1 (by omega) (by omega)).mono fun _ _ h => h.made (hv.1.append (b8_list (fun y _ => (enc_b8 _).append (enc_b8 _))))
theorem wri_len {x : Wri} (h : Secs x.l) (hl : x.l.length ≤ 20) : (eWri x).length ≤ 184 := by
  have h1 := many_le (E := eSec) (c := 8) (xs := x.l) (fun y hy => by have := (h y hy).1; unfold eSec; omega)
  have h2 := list_len (E := eSec) x.l
  have h3 := enc_len (n := x.l.length) (by omega)
  have h4 := eNum_len x.v
  have h5 := eNum_len x.s
  unfold eWri
  rw [List.length_append, List.length_append]
  omega
theorem puts_wris {x : Vals} {w : World} (hx : Val w x) (hf : fewB x = true) : Puts 24 (eList eWri x.lw) x.vw w := fun l v hv hn hl => by
  have hb := few_true hf
  have h1 := many_le (E := eWri) (c := 184) (xs := x.lw) (fun y hy => wri_len (hx.2.2.2.1 y hy).1 (hb.2.2.2.2 y hy))
  have h2 := list_len (E := eWri) x.lw
  have h3 := enc_len (n := x.lw.length) (by omega)
  exact (putWris_any x.lw l v x.vw w hv hn ⟨fun y hy => ⟨hx.2.2.2.1 y hy, by have := hb.2.2.2.2 y hy; omega⟩, hx.2.2.2.2⟩ (by omega) (by omega)).mono fun _ _ h => h.made (hv.1.append (b8_list (fun y hy => b8_wri (hx.2.2.2.1 y hy).1)))
theorem lens {x : Vals} {w : World} (hx : Val w x) (hf : fewB x = true) : (eList eNum x.li).length ≤ 4000 ∧ (eList eSec x.ls).length ≤ 4000 ∧ (eList eExtI x.le).length ≤ 4000 ∧ (eList eWri x.lw).length ≤ 4000 := by
  have hb := few_true hf
  refine ⟨?_, ?_, ?_, ?_⟩
  · have h1 := many_le (E := eNum) (c := 8) (xs := x.li) (fun y _ => eNum_len y)
    have h2 := list_len (E := eNum) x.li
    have h3 := enc_len (n := x.li.length) (by omega)
    omega
  · have h1 := many_le (E := eSec) (c := 8) (xs := x.ls) (fun y hy => by have := (hx.2.1.1 y hy).1; unfold eSec; omega)
    have h2 := list_len (E := eSec) x.ls
    have h3 := enc_len (n := x.ls.length) (by omega)
    omega
  · have h1 := many_le (E := eExtI) (c := 16) (xs := x.le) (fun y _ => by have h0 := eNum_len y.1; have h00 := eNum_len y.2; unfold eExtI; rw [List.length_append]; omega)
    have h2 := list_len (E := eExtI) x.le
    have h3 := enc_len (n := x.le.length) (by omega)
    omega
  · have h1 := many_le (E := eWri) (c := 184) (xs := x.lw) (fun y hy => wri_len (hx.2.2.2.1 y hy).1 (hb.2.2.2.2 y hy))
    have h2 := list_len (E := eWri) x.lw
    have h3 := enc_len (n := x.lw.length) (by omega)
    omega

end Go.Proofs.Ytchpoddfjbopbaa
