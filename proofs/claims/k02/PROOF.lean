import PyProof.Rows.All
import Wide.All
import OpenK.AllK
import Wide.FinOn
import HandS.ForMost
import HandS.ForExc
import HandS.Evl
import HandS.IsInst
import HandS.Flow
import KE.DataMinMax
import KE.DatumOrd
import HandS.SetFor
import HandS.Small
import HandS.FStr
import HandS.RaiseMore
import HandS.SortKw
import HandS.Style
import HandS.Sort
import HandS.ExcIs
import HandS.TryMany
import HandS.Head0
import HandS.Head1
import HandS.Head2
import HandS.HeadEnd
import HandS.HeadHook1
import HandS.HeadHook2
import HandS.HeadHook3
import HandS.HeadHook4
import HandS.Dict
import HandS.Iter
import HandS.Zip
import HandS.SortRule
import PySem.Challenge.RW_lenthaste_k02_there_and_held
set_option Elab.async false
set_option linter.all false
set_option maxRecDepth 100000
set_option maxHeartbeats 4000000
namespace DL
open PySem PySem.Spec PyProof.Rows L2 Evl

/-! ### data -/
inductive D where
  | non
  | bl (b : Bool)
  | int (i : Int)
  | str (x : Str)
  | lst (xs : List D)
  | tup (xs : List D)
  /-- the script, or another list of ints that is only read -/
  | scr (ns : List Int)
  /-- a dict from ints to ints -/
  | dct (kvs : List (Int × Int))
  /-- .. that is walked, so read only -/
  | dcl (kvs : List (Int × Int))
deriving Inhabited

/-- v stands for the datum d, in the frozen heap F -/
inductive Dt (K : PySem.W.Frag) (F : Hp) : V → D → Prop
  | non : Dt K F .non .non
  | bl (b : Bool) : Dt K F (.bl b) (.bl b)
  | int (i : Int) : Dt K F (.int i) (.int i)
  | str (x : Str) : Dt K F (.str x) (.str x)
  | lst {a : Addr} {xs : List V} {ds : List D} : F a = some (.lst xs) → xs.length = ds.length → (∀ (i : Nat) (x : V) (d : D), xs[i]? = some x → ds[i]? = some d → Dt K F x d) → Dt K F (.ref a) (.lst ds)
  | tup {a : Addr} {xs : List V} {ds : List D} : F a = some (.tup xs) → xs.length = ds.length → (∀ (i : Nat) (x : V) (d : D), xs[i]? = some x → ds[i]? = some d → Dt K F x d) → Dt K F (.ref a) (.tup ds)
  | scr {a : Addr} {ns : List Int} : SqL K F a (ns.map V.int) → Dt K F (.ref a) (.scr ns)
  | dct {a : Addr} {kvs : List (Int × Int)} : Rd F a (.dK (kvs.map fun p => (Sum.inl p.1, V.int p.2))) → Dt K F (.ref a) (.dct kvs)
  | dcl {a : Addr} {o : Obj} {kvs : List (Int × Int)} : F a = some (.frz o (.dK (kvs.map fun p => (Sum.inl p.1, V.int p.2)))) → Dt K F (.ref a) (.dcl kvs)

structure DtA (K : PySem.W.Frag) (F : Hp) (xs : List V) (ds : List D) : Prop where
  len : xs.length = ds.length
  at_ : ∀ (i : Nat) (x : V) (d : D), xs[i]? = some x → ds[i]? = some d → Dt K F x d

section
variable {K : PySem.W.Frag} {F F' : Hp} {x y : V} {d e : D} {xs ys : List V} {ds es : List D}
theorem Dt.mono (h : Dt K F x d) (e : Ex F F') : Dt K F' x d := by
  induction h with
  | non => exact .non
  | bl b => exact .bl b
  | int i => exact .int i
  | str z => exact .str z
  | lst h1 h2 _ ih => exact .lst (e _ _ h1) h2 ih
  | tup h1 h2 _ ih => exact .tup (e _ _ h1) h2 ih
  | scr h => exact .scr (ex_l e h)
  | dct h => exact .dct (h.imp (e _ _) fun ⟨o, q⟩ => ⟨o, e _ _ q⟩)
  | dcl h => exact .dcl (e _ _ h)
theorem DtA.mono (h : DtA K F xs ds) (e : Ex F F') : DtA K F' xs ds := ⟨h.len, fun i x d a b => (h.at_ i x d a b).mono e⟩
theorem DtA.nil : DtA K F [] [] := ⟨rfl, fun i x d a _ => by simp at a⟩
theorem DtA.cons (h : Dt K F x d) (t : DtA K F xs ds) : DtA K F (x :: xs) (d :: ds) := by
  refine ⟨by simp [t.len], fun i y e a b => ?_⟩
  cases i with
  | zero => simp at a b; subst a; subst b; exact h
  | succ i => simp at a b; exact t.at_ i y e a b
theorem DtA.uncons (h : DtA K F (x :: xs) (d :: ds)) : Dt K F x d ∧ DtA K F xs ds :=
  ⟨h.at_ 0 x d rfl rfl, by have := h.len; simpa using this, fun i y e a b => h.at_ (i + 1) y e (by simpa using a) (by simpa using b)⟩
theorem DtA.one (h : Dt K F x d) : DtA K F [x] [d] := .cons h .nil
theorem DtA.two (h : Dt K F x d) (h' : Dt K F y e) : DtA K F [x, y] [d, e] := .cons h (.cons h' .nil)
theorem DtA.inv_nil (h : DtA K F xs []) : xs = [] := List.length_eq_zero_iff.mp h.len
theorem DtA.inv_cons (h : DtA K F xs (d :: ds)) : ∃ x r, xs = x :: r ∧ Dt K F x d ∧ DtA K F r ds := by
  cases xs with
  | nil => have := h.len; simp at this
  | cons x r => exact ⟨x, r, rfl, h.uncons⟩
theorem DtA.inv_one (h : DtA K F xs [d]) : ∃ x, xs = [x] ∧ Dt K F x d := by
  obtain ⟨x, r, rfl, hx, hr⟩ := h.inv_cons
  obtain rfl := hr.inv_nil
  exact ⟨x, rfl, hx⟩
theorem DtA.inv_two (h : DtA K F xs [d, e]) : ∃ x y, xs = [x, y] ∧ Dt K F x d ∧ Dt K F y e := by
  obtain ⟨x, r, rfl, hx, hr⟩ := h.inv_cons
  obtain ⟨y, rfl, hy⟩ := hr.inv_one
  exact ⟨x, y, rfl, hx, hy⟩
theorem DtA.append (h : DtA K F xs ds) (h' : DtA K F ys es) : DtA K F (xs ++ ys) (ds ++ es) := by
  refine ⟨by simp [h.len, h'.len], fun i x d a b => ?_⟩
  have hl := h.len
  by_cases hi : i < xs.length
  · rw [List.getElem?_append_left hi] at a
    rw [List.getElem?_append_left (by omega)] at b
    exact h.at_ i x d a b
  · rw [List.getElem?_append_right (by omega)] at a
    rw [List.getElem?_append_right (by omega), ← hl] at b
    exact h'.at_ _ x d a b
theorem DtA.get (h : DtA K F xs ds) {i : Nat} (b : ds[i]? = some d) : ∃ x, xs[i]? = some x ∧ Dt K F x d := by
  have hl := h.len
  have hi := (List.getElem?_eq_some_iff.mp b).1
  exact ⟨xs[i], List.getElem?_eq_getElem (by omega), h.at_ i _ d (List.getElem?_eq_getElem (by omega)) b⟩
theorem DtA.getV (h : DtA K F xs ds) {i : Nat} (b : xs[i]? = some x) : ∃ d, ds[i]? = some d ∧ Dt K F x d := by
  have hl := h.len
  have hi := (List.getElem?_eq_some_iff.mp b).1
  exact ⟨ds[i], List.getElem?_eq_getElem (by omega), h.at_ i x _ b (List.getElem?_eq_getElem (by omega))⟩
theorem DtA.take (n : Nat) (h : DtA K F xs ds) : DtA K F (xs.take n) (ds.take n) := by
  refine ⟨by simp [h.len], fun i x d a b => ?_⟩
  rw [List.getElem?_take] at a b
  split at a
  · exact h.at_ i x d a (by simpa [*] using b)
  · cases a
theorem DtA.drop (n : Nat) (h : DtA K F xs ds) : DtA K F (xs.drop n) (ds.drop n) := by
  refine ⟨by simp [h.len], fun i x d a b => ?_⟩
  rw [List.getElem?_drop] at a b
  exact h.at_ _ x d a b
theorem DtA.set (i : Nat) (h : DtA K F xs ds) (hx : Dt K F x d) : DtA K F (xs.set i x) (ds.set i d) := by
  have hl := h.len
  refine ⟨by simp [hl], fun j y e a b => ?_⟩
  rw [List.getElem?_set] at a b
  by_cases hij : i = j
  · subst hij
    by_cases hi : i < xs.length
    · have hi' : i < ds.length := by omega
      simp [hi] at a; simp [hi'] at b
      subst a; subst b; exact hx
    · simp [hi] at a
  · simp [hij] at a b
    exact h.at_ j y e a b
theorem DtA.eraseIdx (i : Nat) (h : DtA K F xs ds) : DtA K F (xs.eraseIdx i) (ds.eraseIdx i) := by
  rw [List.eraseIdx_eq_take_drop_succ, List.eraseIdx_eq_take_drop_succ]
  exact (h.take i).append (h.drop (i + 1))
theorem DtA.reverse (h : DtA K F xs ds) : DtA K F xs.reverse ds.reverse := by
  have hl := h.len
  refine ⟨by simp [hl], fun i x d a b => ?_⟩
  have h1 := (List.getElem?_eq_some_iff.mp a).1
  have h2 := (List.getElem?_eq_some_iff.mp b).1
  simp at h1 h2
  rw [List.getElem?_reverse h1] at a
  rw [List.getElem?_reverse h2] at b
  exact h.at_ _ x d a (by rw [hl]; exact b)
theorem DtA.dropLast (h : DtA K F xs ds) : DtA K F xs.dropLast ds.dropLast := by
  rw [List.dropLast_eq_take, List.dropLast_eq_take, h.len]
  exact h.take _
theorem DtA.rep (h : DtA K F xs ds) : ∀ k : Nat, DtA K F (List.replicate k xs).flatten (List.replicate k ds).flatten
  | 0 => .nil
  | k + 1 => by
    rw [List.replicate_succ, List.replicate_succ, List.flatten_cons, List.flatten_cons]
    exact h.append (DtA.rep h k)
theorem Dt.lst' {a : Addr} (h : F a = some (.lst xs)) (r : DtA K F xs ds) : Dt K F (.ref a) (.lst ds) := .lst h r.len r.at_
theorem Dt.tup' {a : Addr} (h : F a = some (.tup xs)) (r : DtA K F xs ds) : Dt K F (.ref a) (.tup ds) := .tup h r.len r.at_
theorem Dt.inv_lst (h : Dt K F x (.lst ds)) : ∃ a xs, x = .ref a ∧ F a = some (.lst xs) ∧ DtA K F xs ds := by
  cases h with
  | lst h1 h2 h3 => exact ⟨_, _, rfl, h1, h2, h3⟩
theorem Dt.inv_tup (h : Dt K F x (.tup ds)) : ∃ a xs, x = .ref a ∧ F a = some (.tup xs) ∧ DtA K F xs ds := by
  cases h with
  | tup h1 h2 h3 => exact ⟨_, _, rfl, h1, h2, h3⟩
theorem Dt.inv_int {i : Int} (h : Dt K F x (.int i)) : x = .int i := by cases h; rfl
theorem Dt.inv_bl {b : Bool} (h : Dt K F x (.bl b)) : x = .bl b := by cases h; rfl
theorem Dt.inv_str {z : Str} (h : Dt K F x (.str z)) : x = .str z := by cases h; rfl
theorem Dt.inv_non (h : Dt K F x .non) : x = .non := by cases h; rfl
end

/-- flat data: no address -/
def flatD : D → Bool
  | .non => true
  | .bl _ => true
  | .int _ => true
  | .str _ => true
  | _ => false
theorem Dt.flat {K : PySem.W.Frag} {F F' : Hp} {x : V} {d : D} (h : Dt K F x d) (f : flatD d = true) : Dt K F' x d := by
  cases h with
  | non => exact .non
  | bl b => exact .bl b
  | int i => exact .int i
  | str z => exact .str z
  | lst _ _ _ => cases f
  | tup _ _ _ => cases f
  | scr _ => cases f
  | dct _ => cases f
  | dcl _ => cases f
def flatV' : D → V
  | .bl b => .bl b
  | .int i => .int i
  | .str z => .str z
  | _ => .non
theorem Dt.flatV {K : PySem.W.Frag} {F : Hp} {x : V} {d : D} (h : Dt K F x d) (f : flatD d = true) : x = flatV' d := by
  cases h with
  | non => rfl
  | bl b => rfl
  | int i => rfl
  | str z => rfl
  | lst _ _ _ => cases f
  | tup _ _ _ => cases f
  | scr _ => cases f
  | dct _ => cases f
  | dcl _ => cases f

/-! ### heaps that grow: H the heap, F its frozen part -/
structure Grow (H F H' F' : Hp) : Prop where
  h : Ex H H'
  f : Ex F F'
  fh : Ex F' H'
  fr : ∀ a, H a ≠ none → F' a = F a
theorem Grow.refl {H F : Hp} (e : Ex F H) : Grow H F H F := ⟨Ex.refl _, Ex.refl _, e, fun _ _ => rfl⟩
theorem Grow.trans {H F H1 F1 H2 F2 : Hp} (a : Grow H F H1 F1) (b : Grow H1 F1 H2 F2) : Grow H F H2 F2 :=
  ⟨a.h.trans b.h, a.f.trans b.f, b.fh, fun x hx => by
    have h1 : H1 x ≠ none := by
      cases q : H x with
      | none => exact absurd q hx
      | some o => rw [a.h x o q]; simp
    rw [b.fr x h1, a.fr x hx]⟩
/-- a new frozen object -/
theorem Grow.new {H F : Hp} {p : Addr} {o : HO} (e : Ex F H) (h : H p = none) : Grow H F (upd H p o) (upd F p o) := by
  have hF : F p = none := by
    cases q : F p with
    | none => rfl
    | some u => rw [e p u q] at h; cases h
  refine ⟨Ex.new h, Ex.new hF, fun a u ha => ?_, fun a ha => ?_⟩
  · by_cases hp : a = p
    · subst hp; rw [upd_same] at ha ⊢; exact ha
    · rw [upd_ne hp] at ha ⊢; exact e a u ha
  · have : a ≠ p := by rintro rfl; exact ha h
    rw [upd_ne this]
/-- a new object, not frozen -/
theorem Grow.newM {H F : Hp} {p : Addr} {o : HO} (e : Ex F H) (h : H p = none) : Grow H F (upd H p o) F :=
  ⟨Ex.new h, Ex.refl _, e.trans (Ex.new h), fun _ _ => rfl⟩
theorem none_of_ex {H F : Hp} {p : Addr} (e : Ex F H) (h : H p = none) : F p = none := by
  cases q : F p with
  | none => rfl
  | some u => rw [e p u q] at h; cases h

/-! ### the slots -/
/-- what one's own object holds -/
inductive OC where
  | l (ds : List D)
  | d (kvs : List (Int × Int))
inductive OcR (K : PySem.W.Frag) (F : Hp) : HO → OC → Prop
  | l {vs : List V} {ds : List D} : DtA K F vs ds → OcR K F (.lst vs) (.l ds)
  | d (kvs : List (Int × Int)) : OcR K F (.dK (kvs.map fun p => (Sum.inl p.1, V.int p.2))) (.d kvs)
theorem OcR.mono {K : PySem.W.Frag} {F F' : Hp} {o : HO} {c : OC} (h : OcR K F o c) (e : Ex F F') : OcR K F' o c := by
  cases h with
  | l r => exact .l (r.mono e)
  | d kvs => exact .d kvs
def ocD : OC → D
  | .l ds => .lst ds
  | .d kvs => .dct kvs
theorem OcR.dt {K : PySem.W.Frag} {F : Hp} {a : Addr} {o : HO} {c : OC} (h : OcR K F o c) (e : F a = some o) : Dt K F (.ref a) (ocD c) := by
  cases h with
  | l r => exact .lst' e r
  | d kvs => exact .dct (.inl e)
inductive Sl where
  | no
  | val (d : D)
  /-- one's own object; some a: it stands at a -/
  | own (a : Option Addr) (c : OC)
  /-- the error that a suite holds -/
  | exc (a : Addr)
abbrev DEnv := List Sl

structure Rel (K : PySem.W.Frag) (H0 F0 F : Hp) (env : DEnv) (σ : L2.St) (H : Hp) : Prop where
  g : Grow H0 F0 H F
  vals : ∀ (i : Nat) (d : D), env[i]? = some (.val d) → ∃ v, σ[i]? = some (some v) ∧ Dt K F v d
  owns : ∃ A : Nat → Addr, (∀ (i : Nat) (a : Option Addr) (c : OC), env[i]? = some (.own a c) → ∃ o, σ[i]? = some (some (.ref (A i))) ∧ H (A i) = some o ∧ OcR K F o c ∧ F (A i) = none ∧ H0 (A i) = none ∧ ∀ b, a = some b → A i = b) ∧
    ∀ (i j : Nat) (a b : Option Addr) (c d : OC), env[i]? = some (.own a c) → env[j]? = some (.own b d) → A i = A j → i = j
  len : env.length = σ.length
  excs : ∀ (i : Nat) (a : Addr), env[i]? = some (.exc a) → σ[i]? = some (some (.ref a))
section
variable {K : PySem.W.Frag} {H0 F0 F F' H H' : Hp} {env : DEnv} {σ : L2.St}
theorem Rel.fh (r : Rel K H0 F0 F env σ H) : Ex F H := r.g.fh
theorem Rel.grow (r : Rel K H0 F0 F env σ H) (g : Grow H F H' F') : Rel K H0 F0 F' env σ H' := by
  obtain ⟨A, h1, h2⟩ := r.owns
  refine ⟨r.g.trans g, fun i d e => ?_, ⟨A, fun i a ds e => ?_, h2⟩, r.len, r.excs⟩
  · obtain ⟨v, a, b⟩ := r.vals i d e
    exact ⟨v, a, b.mono g.f⟩
  · obtain ⟨o, a, b, c, d, f⟩ := h1 i a ds e
    exact ⟨o, a, g.h _ _ b, c.mono g.f, (g.fr _ (by rw [b]; simp)).trans d, f⟩
theorem set_ne {α : Type} {l : List α} {i j : Nat} {x y : α} (h : j ≠ i) : (l.set i x)[j]? = some y ↔ l[j]? = some y := by
  rw [List.getElem?_set_ne (Ne.symm h)]
theorem set_eq {α : Type} {l : List α} {i : Nat} {x y : α} (h : (l.set i x)[i]? = some y) : i < l.length ∧ y = x := by
  rw [List.getElem?_set] at h
  by_cases hi : i < l.length
  · simp [hi] at h; exact ⟨hi, h.symm⟩
  · simp [hi] at h
/-- a slot is set to a datum -/
theorem Rel.setVal (r : Rel K H0 F0 F env σ H) {i : Nat} {v : V} {d : D} (hv : Dt K F v d) : Rel K H0 F0 F (env.set i (.val d)) (σ.set i (some v)) H := by
  obtain ⟨A, h1, h2⟩ := r.owns
  have hl := r.len
  have ow : ∀ {j : Nat} {a : Option Addr} {c : OC}, (env.set i (.val d))[j]? = some (.own a c) → j ≠ i ∧ env[j]? = some (.own a c) := fun {j a c} e => by
    by_cases hj : j = i
    · subst hj; have := (set_eq e).2; cases this
    · exact ⟨hj, (set_ne hj).mp e⟩
  refine ⟨r.g, fun j d' e => ?_, ⟨A, fun j a c e => ?_, fun j k a b c d e1 e2 => h2 j k a b c d (ow e1).2 (ow e2).2⟩, by simp [hl], fun j a e => ?_⟩
  · by_cases hj : j = i
    · subst hj
      obtain ⟨hi, q⟩ := set_eq e
      cases q
      exact ⟨v, by rw [List.getElem?_set_self (by omega)], hv⟩
    · obtain ⟨u, a, b⟩ := r.vals j d' ((set_ne hj).mp e)
      exact ⟨u, (set_ne hj).mpr a, b⟩
  · obtain ⟨hj, e'⟩ := ow e
    obtain ⟨o, p, q⟩ := h1 j a c e'
    exact ⟨o, (set_ne hj).mpr p, q⟩
  · by_cases hj : j = i
    · subst hj; have := (set_eq e).2; cases this
    · exact (set_ne hj).mpr (r.excs j a ((set_ne hj).mp e))
/-- a slot is set to a new object of one's own -/
theorem Rel.setOwn (r : Rel K H0 F0 F env σ H) {i : Nat} {p : Addr} {o : HO} {c : OC} (g : Grow H F H' F') (hp : H p = none) (ho : H' p = some o) (hF : F' p = none) (hv : OcR K F' o c) : Rel K H0 F0 F' (env.set i (.own none c)) (σ.set i (some (.ref p))) H' := by
  have r1 := r.grow g
  obtain ⟨A, h1, h2⟩ := r1.owns
  obtain ⟨B, k1, _⟩ := r.owns
  have hl := r.len
  have h00 := none_of_ex r.g.h hp
  have ne : ∀ {j : Nat} {a : Option Addr} {c : OC}, env[j]? = some (.own a c) → A j ≠ p := fun {j a c} e z => by
    obtain ⟨o, a', b, _⟩ := k1 j a c e
    obtain ⟨o2, a2, b2, _⟩ := h1 j a c e
    rw [a'] at a2
    have e3 : B j = A j := by injection a2 with a2; injection a2 with a2; injection a2
    rw [e3, z, hp] at b; cases b
  refine ⟨r1.g, fun j d' e => ?_, ⟨fun j => if j = i then p else A j, fun j a c' e => ?_, fun j k a b c' d' e1 e2 z => ?_⟩, by simp [hl], fun j a e => ?_⟩
  · by_cases hj : j = i
    · subst hj; have := (set_eq e).2; cases this
    · obtain ⟨v, a, b⟩ := r1.vals j d' ((set_ne hj).mp e)
      exact ⟨v, (set_ne hj).mpr a, b⟩
  · by_cases hj : j = i
    · subst hj
      obtain ⟨hi, q⟩ := set_eq e
      cases q
      have hi' : j < σ.length := by omega
      exact ⟨o, by simp [hi'], by simp [ho], hv, by simp [hF], by simp [h00], fun _ z => by cases z⟩
    · obtain ⟨o', x1, x2, x3, x4, x5, x6⟩ := h1 j a c' ((set_ne hj).mp e)
      refine ⟨o', ?_, ?_, x3, ?_, ?_, fun b z => ?_⟩
      · simp only [if_neg hj]; exact (set_ne hj).mpr x1
      · simp only [if_neg hj]; exact x2
      · simp only [if_neg hj]; exact x4
      · simp only [if_neg hj]; exact x5
      · simp only [if_neg hj]; exact x6 b z
  · by_cases hj : j = i <;> by_cases hk : k = i
    · rw [hj, hk]
    · simp only [if_pos hj, if_neg hk] at z
      exact absurd z.symm (ne ((set_ne hk).mp e2))
    · simp only [if_neg hj, if_pos hk] at z
      exact absurd z (ne ((set_ne hj).mp e1))
    · simp only [if_neg hj, if_neg hk] at z
      exact h2 j k a b c' d' ((set_ne hj).mp e1) ((set_ne hk).mp e2) z
  · by_cases hj : j = i
    · subst hj; have := (set_eq e).2; cases this
    · exact (set_ne hj).mpr (r.excs j a ((set_ne hj).mp e))
theorem Rel.own (r : Rel K H0 F0 F env σ H) {i : Nat} {a : Option Addr} {c : OC} (e : env[i]? = some (.own a c)) : ∃ l o, σ[i]? = some (some (.ref l)) ∧ H l = some o ∧ OcR K F o c ∧ F l = none ∧ H0 l = none ∧ ∀ b, a = some b → l = b := by
  obtain ⟨A, h1, _⟩ := r.owns
  obtain ⟨o, h⟩ := h1 i a c e
  exact ⟨_, o, h⟩
/-- one's own object is changed -/
theorem Rel.mut (r : Rel K H0 F0 F env σ H) {i : Nat} {a : Option Addr} {c c' : OC} {l : Addr} {o : HO} (e : env[i]? = some (.own a c)) (hl : σ[i]? = some (some (.ref l))) (hv : OcR K F o c') : Rel K H0 F0 F (env.set i (.own a c')) σ (upd H l o) := by
  obtain ⟨A, h1, h2⟩ := r.owns
  obtain ⟨o1, x1, x2, x3, x4, x5, x6⟩ := h1 i a c e
  have hA : A i = l := by rw [x1] at hl; injection hl with hl; injection hl with hl; injection hl
  subst hA
  have hi : i < env.length := (List.getElem?_eq_some_iff.mp e).1
  have isown : ∀ {j : Nat} {b : Option Addr} {d : OC}, (env.set i (.own a c'))[j]? = some (.own b d) → ∃ b' d', env[j]? = some (.own b' d') := fun {j b d} q => by
    by_cases hj : j = i
    · subst hj; exact ⟨a, c, e⟩
    · exact ⟨b, d, (set_ne hj).mp q⟩
  refine ⟨⟨Ex.mut r.g.h x5, r.g.f, Ex.mut r.fh x4, r.g.fr⟩, fun j d' q => ?_, ⟨A, fun j b d q => ?_, fun j k b b2 d d2 q1 q2 z => ?_⟩, by simp [r.len], fun j b q => ?_⟩
  · by_cases hj : j = i
    · subst hj; have := (set_eq q).2; cases this
    · exact r.vals j d' ((set_ne hj).mp q)
  · by_cases hj : j = i
    · subst hj
      obtain ⟨_, q⟩ := set_eq q
      cases q
      exact ⟨o, x1, upd_same, hv, x4, x5, x6⟩
    · obtain ⟨o2, y1, y2, y3⟩ := h1 j b d ((set_ne hj).mp q)
      refine ⟨o2, y1, ?_, y3⟩
      rw [upd_ne]; · exact y2
      intro z
      exact hj (h2 j i b a d c ((set_ne hj).mp q) e z)
  · obtain ⟨b', d', hx⟩ := isown q1
    obtain ⟨b2', d2', hy⟩ := isown q2
    exact h2 j k b' b2' d' d2' hx hy z
  · by_cases hj : j = i
    · subst hj; have := (set_eq q).2; cases this
    · exact r.excs j b ((set_ne hj).mp q)
/-- one's own object is frozen -/
theorem Rel.freeze (r : Rel K H0 F0 F env σ H) {i : Nat} {a : Option Addr} {c : OC} (e : env[i]? = some (.own a c)) :
    ∃ l o, σ[i]? = some (some (.ref l)) ∧ H l = some o ∧ F l = none ∧ H0 l = none ∧ OcR K F o c ∧ Rel K H0 F0 (upd F l o) (env.set i (.val (ocD c))) σ H := by
  obtain ⟨A, h1, h2⟩ := r.owns
  obtain ⟨o, x1, x2, x3, x4, x5, x6⟩ := h1 i a c e
  have hi : i < env.length := (List.getElem?_eq_some_iff.mp e).1
  have eF : Ex F (upd F (A i) o) := Ex.new x4
  have ow : ∀ {j : Nat} {b : Option Addr} {d : OC}, (env.set i (.val (ocD c)))[j]? = some (.own b d) → j ≠ i ∧ env[j]? = some (.own b d) := fun {j b d} e => by
    by_cases hj : j = i
    · subst hj; have := (set_eq e).2; cases this
    · exact ⟨hj, (set_ne hj).mp e⟩
  refine ⟨A i, o, x1, x2, x4, x5, x3, ⟨r.g.h, r.g.f.trans eF, fun x o' q => ?_, fun x hx => ?_⟩, fun j d' q => ?_, ⟨A, fun j b d q => ?_, fun j k b b2 d d2 q1 q2 z => h2 j k b b2 d d2 (ow q1).2 (ow q2).2 z⟩, by simp [r.len], fun j b q => ?_⟩
  · by_cases hx : x = A i
    · subst hx; rw [upd_same] at q; cases q; exact x2
    · rw [upd_ne hx] at q; exact r.fh x o' q
  · have : x ≠ A i := by rintro rfl; exact hx x5
    rw [upd_ne this]; exact r.g.fr x hx
  · by_cases hj : j = i
    · subst hj
      obtain ⟨_, q⟩ := set_eq q
      cases q
      exact ⟨_, x1, (x3.mono eF).dt upd_same⟩
    · obtain ⟨v, a', b'⟩ := r.vals j d' ((set_ne hj).mp q)
      exact ⟨v, a', b'.mono eF⟩
  · obtain ⟨hj, q'⟩ := ow q
    obtain ⟨o2, y1, y2, y3, y4, y5⟩ := h1 j b d q'
    refine ⟨o2, y1, y2, y3.mono eF, ?_, y5⟩
    rw [upd_ne]; · exact y4
    intro z
    exact hj (h2 j i b a d c q' e z)
  · by_cases hj : j = i
    · subst hj; have := (set_eq q).2; cases this
    · exact r.excs j b ((set_ne hj).mp q)
/-- some slots are forgotten -/
theorem Rel.weak (r : Rel K H0 F0 F env σ H) {env' : DEnv} {σ' : L2.St} (h : ∀ (j : Nat) (s : Sl), env'[j]? = some s → s ≠ .no → env[j]? = some s ∧ σ'[j]? = σ[j]?) (hl : env'.length = σ'.length) : Rel K H0 F0 F env' σ' H := by
  obtain ⟨A, h1, h2⟩ := r.owns
  refine ⟨r.g, fun j d e => ?_, ⟨A, fun j a c e => ?_, fun j k a b c d e1 e2 => h2 j k a b c d (h _ _ e1 (by intro z; cases z)).1 (h _ _ e2 (by intro z; cases z)).1⟩, hl, fun j a e => ?_⟩
  · obtain ⟨e', s⟩ := h _ _ e (by intro z; cases z)
    obtain ⟨v, a, b⟩ := r.vals j d e'
    exact ⟨v, s.trans a, b⟩
  · obtain ⟨e', s⟩ := h _ _ e (by intro z; cases z)
    obtain ⟨o, p, q⟩ := h1 j a c e'
    exact ⟨o, s.trans p, q⟩
  · obtain ⟨e', s⟩ := h _ _ e (by intro z; cases z)
    exact s.trans (r.excs j a e')
end
end DL

namespace DL
open PySem PySem.Spec PyProof.Rows L2 Evl

/-! ### weakening -/
section
variable {X : Cx} {e : Expr} {t t' : TE} {u u' : TT} {es : List Expr} {a a' : TA} {st : Stmt} {sts : List Stmt} {w w' : TS}
theorem PE.imp (h : PE X e t) (i : ∀ σ H Q, t' σ H Q → t σ H Q) : PE X e t' := ⟨fun p s σ H Q I q => h.run p s σ H Q I (i _ _ _ q)⟩
theorem PT.imp (h : PT X e u) (i : ∀ σ H Q, u' σ H Q → u σ H Q) : PT X e u' := ⟨fun p s σ H Q I q => h.run p s σ H Q I (i _ _ _ q)⟩
theorem PW.imp (h : PW X e u) (i : ∀ σ H Q, u' σ H Q → u σ H Q) : PW X e u' := ⟨fun wh p s σ H Q I q => h.run wh p s σ H Q I (i _ _ _ q)⟩
theorem PA.imp (h : PA X es a) (i : ∀ σ H Q, a' σ H Q → a σ H Q) : PA X es a' := ⟨fun pos p s σ H Q I q => h.run pos p s σ H Q I (i _ _ _ q)⟩
theorem PS.imp (h : PS X st w) (i : ∀ D σ H, w' D σ H → w D σ H) : PS X st w' := ⟨fun p s σ H D I q => h.run p s σ H D I (i _ _ _ q)⟩
theorem PSs.imp (h : PSs X sts w) (i : ∀ D σ H, w' D σ H → w D σ H) : PSs X sts w' := ⟨fun p s σ H D I q => h.run p s σ H D I (i _ _ _ q)⟩
end

/-! ### readings by data -/
def dE (K : PySem.W.Frag) (f : DEnv → Option D) : TE := fun σ H Q => ∃ H0 F0 F env d, Rel K H0 F0 F env σ H ∧ f env = some d ∧ ∀ v H' F', Grow H F H' F' → Dt K F' v d → Q v H'
def dT (K : PySem.W.Frag) (f : DEnv → Option Bool) : TT := fun σ H Q => ∃ H0 F0 F env b, Rel K H0 F0 F env σ H ∧ f env = some b ∧ ∀ H' F', Grow H F H' F' → Q b H'
def dA (K : PySem.W.Frag) (f : DEnv → Option (List D)) : TA := fun σ H Q => ∃ H0 F0 F env ds, Rel K H0 F0 F env σ H ∧ f env = some ds ∧ ∀ vs H' F', Grow H F H' F' → DtA K F' vs ds → Q vs H'
def dO (K : PySem.W.Frag) (f : DEnv → Option (Option Int)) : TO := fun σ H Q => ∃ H0 F0 F env o, Rel K H0 F0 F env σ H ∧ f env = some o ∧ ∀ H' F', Grow H F H' F' → Q o H'

/-! ### names, constants -/
def getV (i : Nat) (env : DEnv) : Option D := match env[i]? with
  | some (.val d) => some d
  | _ => none
section
variable {X : Cx}
theorem de_var (i : Nat) {x : Str} {pos : Pos} (hN : X.N[i]? = some x := by rfl) (hv : Vis X.env.scope x := by first | exact Or.inl rfl | exact Or.inr (Or.inl rfl) | exact Or.inr (Or.inr rfl)) (hd : (x == ("__debug__" : Str)) = false := by decide)
    (hcd : (x == ("__classdict__" : Str)) = false := by decide) : PE X (.Name x pos) (dE X.K (getV i)) := by
  refine PE.imp (pe_var hN hv hd hcd) ?_
  rintro σ H Q ⟨H0, F0, F, env, d, r, hf, q⟩
  unfold getV at hf
  split at hf
  · rename_i d' he
    cases hf
    obtain ⟨v, a, b⟩ := r.vals i d he
    exact ⟨v, a, q v H F (.refl r.fh) b⟩
  · cases hf
theorem de_int {i : Int} {j pos} : PE X (.Constant (.int i) j pos) (dE X.K fun _ => some (.int i)) := PE.imp pe_int (by rintro σ H Q ⟨H0, F0, F, env, d, r, hf, q⟩; cases hf; exact q _ H F (.refl r.fh) (.int i))
theorem de_bl {i : Bool} {j pos} : PE X (.Constant (.bool i) j pos) (dE X.K fun _ => some (.bl i)) := PE.imp pe_bl (by rintro σ H Q ⟨H0, F0, F, env, d, r, hf, q⟩; cases hf; exact q _ H F (.refl r.fh) (.bl i))
theorem de_str {i : Str} {j pos} : PE X (.Constant (.str i) j pos) (dE X.K fun _ => some (.str i)) := PE.imp pe_str (by rintro σ H Q ⟨H0, F0, F, env, d, r, hf, q⟩; cases hf; exact q _ H F (.refl r.fh) (.str i))
theorem de_non {j pos} : PE X (.Constant .none j pos) (dE X.K fun _ => some .non) := PE.imp pe_non (by rintro σ H Q ⟨H0, F0, F, env, d, r, hf, q⟩; cases hf; exact q _ H F (.refl r.fh) .non)
/-- a module's constant -/
theorem de_globI {x : Str} {i : Int} {t : Tok} {pos : Pos} (hg : Gl X x) (hm : X.mg x = some (.int i t)) (hd : (x == ("__debug__" : Str)) = false := by decide) : PE X (.Name x pos) (dE X.K fun _ => some (.int i)) :=
  PE.imp (pe_glob (v := .int i) hg hm ⟨t, rfl⟩ hd) (by rintro σ H Q ⟨H0, F0, F, env, d, r, hf, q⟩; cases hf; exact q _ H F (.refl r.fh) (.int i))
end

/-! ### operators by data -/
def R2Ok (K : PySem.W.Frag) (r : R2) (g : D → D → Option D) : Prop := ∀ (F H : Hp) (x y : V) (a b d : D) (Q : VK), Ex F H → Dt K F x a → Dt K F y b → g a b = some d → (∀ v H' F', Grow H F H' F' → Dt K F' v d → Q v H') → r x y H Q
def R1Ok (K : PySem.W.Frag) (r : V → Hp → VK → Prop) (g : D → Option D) : Prop := ∀ (F H : Hp) (x : V) (a d : D) (Q : VK), Ex F H → Dt K F x a → g a = some d → (∀ v H' F', Grow H F H' F' → Dt K F' v d → Q v H') → r x H Q
/-- a call's -/
def RCOk (K : PySem.W.Frag) (r : List V → Hp → VK → Prop) (g : List D → Option D) : Prop := ∀ (F H : Hp) (xs : List V) (as : List D) (d : D) (Q : VK), Ex F H → DtA K F xs as → g as = some d → (∀ v H' F', Grow H F H' F' → Dt K F' v d → Q v H') → r xs H Q
def op2 (g : D → D → Option D) (fa fb : DEnv → Option D) : DEnv → Option D := fun env => match fa env with
  | none => none
  | some a => match fb env with
    | none => none
    | some b => g a b
def op1 (g : D → Option D) (fa : DEnv → Option D) : DEnv → Option D := fun env => match fa env with
  | none => none
  | some a => g a
def opC (g : List D → Option D) (fa : DEnv → Option (List D)) : DEnv → Option D := fun env => match fa env with
  | none => none
  | some a => g a
section
variable {X : Cx} {a b c e : Expr} {es : List Expr} {fa fb fc : DEnv → Option D} {fs : DEnv → Option (List D)} {pos p : Pos} {r r' : R2} {g g' : D → D → Option D} {x : Str}
theorem run2 (hr : R2Ok X.K r g) {σ : L2.St} {H : Hp} {Q : VK} (h : dE X.K (op2 g fa fb) σ H Q) : tOp r (dE X.K fa) (dE X.K fb) σ H Q := by
  obtain ⟨H0, F0, F, env, d, rl, hf, q⟩ := h
  unfold op2 at hf
  cases ha : fa env with
  | none => rw [ha] at hf; cases hf
  | some da =>
    rw [ha] at hf
    simp only at hf
    cases hb : fb env with
    | none => rw [hb] at hf; cases hf
    | some db =>
      rw [hb] at hf
      simp only at hf
      refine ⟨H0, F0, F, env, da, rl, ha, fun v H1 F1 g1 hv => ⟨H0, F0, F1, env, db, rl.grow g1, hb, fun u H2 F2 g2 hu => ?_⟩⟩
      exact hr F2 H2 v u da db d Q g2.fh (hv.mono g2.f) hu hf fun z H3 F3 g3 hz => q z H3 F3 ((g1.trans g2).trans g3) hz
theorem de_op {op : Operator} (ho : OpR X (binaryOp op) r) (hr : R2Ok X.K r g) (ha : PE X a (dE X.K fa)) (hb : PE X b (dE X.K fb)) : PE X (.BinOp a op b pos) (dE X.K (op2 g fa fb)) :=
  PE.imp (pe_op ho ha hb) fun _ _ _ h => run2 hr h
theorem de_cmp {op : CmpOp} (ho : OpR X (compareOp op) r) (hr : R2Ok X.K r g) (ha : PE X a (dE X.K fa)) (hb : PE X b (dE X.K fb)) (hm : behindInMarks op b = false) : PE X (.Compare a [op] [b] pos) (dE X.K (op2 g fa fb)) :=
  PE.imp (pe_cmpR ho ha hb hm) fun _ _ _ h => run2 hr h
/-- a value as a test's answer -/
def asB : Option D → Option Bool
  | some (.bl b) => some b
  | _ => none
def tstB (f : DEnv → Option D) : DEnv → Option Bool := fun env => asB (f env)
theorem dT_test {t : TE} {f : DEnv → Option D} (h : ∀ σ H Q, dE X.K f σ H Q → t σ H Q) {σ : L2.St} {H : Hp} {Q : Bool → Hp → Prop} (q : dT X.K (tstB f) σ H Q) : tTest t σ H Q := by
  obtain ⟨H0, F0, F, env, k, rl, hf, q⟩ := q
  refine h _ _ _ ?_
  unfold tstB at hf
  cases hd : f env with
  | none => rw [hd] at hf; cases hf
  | some d =>
    rw [hd] at hf
    cases d <;> simp [asB] at hf
    subst hf
    exact ⟨H0, F0, F, env, _, rl, hd, fun v H' F' g hv => ⟨_, hv.inv_bl, q H' F' g⟩⟩
theorem dt_cmp {op : CmpOp} (ho : OpR X (compareOp op) r) (hr : R2Ok X.K r g) (ha : PE X a (dE X.K fa)) (hb : PE X b (dE X.K fb)) (hm : behindInMarks op b = false) : PT X (.Compare a [op] [b] pos) (dT X.K (tstB (op2 g fa fb))) :=
  PT.imp (pt_cmpR ho ha hb hm) fun _ _ _ h => dT_test (fun _ _ _ z => run2 hr z) h
/-- a op b op' c -/
def chn (g g' : D → D → Option D) (fa fb fc : DEnv → Option D) : DEnv → Option D := fun env => match fa env with
  | none => none
  | some a => match fb env with
    | none => none
    | some b => match g a b with
      | some (.bl true) => (match fc env with
        | none => none
        | some c => g' b c)
      | some (.bl false) => some (.bl false)
      | _ => none
theorem runC (hr : R2Ok X.K r g) (hr' : R2Ok X.K r' g') {σ : L2.St} {H : Hp} {Q : VK} (h : dE X.K (chn g g' fa fb fc) σ H Q) : tChain r r' (dE X.K fa) (dE X.K fb) (dE X.K fc) σ H Q := by
  obtain ⟨H0, F0, F, env, d, rl, hf, q⟩ := h
  unfold chn at hf
  cases ha : fa env with
  | none => rw [ha] at hf; cases hf
  | some da =>
    rw [ha] at hf
    simp only at hf
    cases hb : fb env with
    | none => rw [hb] at hf; cases hf
    | some db =>
      rw [hb] at hf
      simp only at hf
      refine ⟨H0, F0, F, env, da, rl, ha, fun v H1 F1 g1 hv => ⟨H0, F0, F1, env, db, rl.grow g1, hb, fun u H2 F2 g2 hu => ?_⟩⟩
      cases hg : g da db with
      | none => rw [hg] at hf; cases hf
      | some k =>
        rw [hg] at hf
        refine hr F2 H2 v u da db k _ g2.fh (hv.mono g2.f) hu hg fun z H3 F3 g3 hz => ?_
        cases k with
        | bl k =>
          refine ⟨k, hz.inv_bl, ?_⟩
          cases k with
          | true =>
            simp only at hf
            refine iteT ?_
            cases hc : fc env with
            | none => rw [hc] at hf; cases hf
            | some dc =>
              rw [hc] at hf
              simp only at hf
              refine ⟨H0, F0, F3, env, dc, ((rl.grow g1).grow g2).grow g3, hc, fun w H4 F4 g4 hw => ?_⟩
              exact hr' F4 H4 u w db dc d Q g4.fh ((hu.mono g3.f).mono g4.f) hw hf fun z H5 F5 g5 hz => q z H5 F5 ((((g1.trans g2).trans g3).trans g4).trans g5) hz
          | false =>
            simp only at hf
            cases hf
            exact iteF (q _ H3 F3 ((g1.trans g2).trans g3) (.bl false))
        | _ => simp at hf
theorem de_chn {op op' : CmpOp} (ho : OpR X (compareOp op) r) (hr : R2Ok X.K r g) (ho' : OpR X (compareOp op') r') (hr' : R2Ok X.K r' g') (ha : PE X a (dE X.K fa)) (hb : PE X b (dE X.K fb)) (hc : PE X c (dE X.K fc))
    (hm : lastMarks [op, op'] [b, c] = false := by with_unfolding_all rfl) : PE X (.Compare a [op, op'] [b, c] pos) (dE X.K (chn g g' fa fb fc)) := PE.imp (pe_chain ho ho' ha hb hc hm) fun _ _ _ h => runC hr hr' h
theorem dt_chn {op op' : CmpOp} (ho : OpR X (compareOp op) r) (hr : R2Ok X.K r g) (ho' : OpR X (compareOp op') r') (hr' : R2Ok X.K r' g') (ha : PE X a (dE X.K fa)) (hb : PE X b (dE X.K fb)) (hc : PE X c (dE X.K fc))
    (hm : lastMarks [op, op'] [b, c] = false := by with_unfolding_all rfl) : PT X (.Compare a [op, op'] [b, c] pos) (dT X.K (tstB (chn g g' fa fb fc))) := PT.imp (pt_chain ho ho' ha hb hc hm) fun _ _ _ h => dT_test (fun _ _ _ z => runC hr hr' z) h

/-! ### arguments, displays -/
theorem da_nil : PA X [] (dA X.K fun _ => some []) := PA.imp pa_nil (by
  rintro σ H Q ⟨H0, F0, F, env, d, r, hf, q⟩
  cases hf
  exact q _ H F (.refl r.fh) .nil)
def consA (fa : DEnv → Option D) (fs : DEnv → Option (List D)) : DEnv → Option (List D) := fun env => match fa env with
  | none => none
  | some a => match fs env with
    | none => none
    | some as => some (a :: as)
theorem da_cons (ha : PE X e (dE X.K fa)) (hr : PA X es (dA X.K fs)) (hs : starEach (e :: es) X.env = (false, eval e X.env) :: starEach es X.env := by rfl) : PA X (e :: es) (dA X.K (consA fa fs)) := by
  refine PA.imp (pa_cons ha hr hs) ?_
  rintro σ H Q ⟨H0, F0, F, env, d, rl, hf, q⟩
  unfold consA at hf
  cases ha : fa env with
  | none => rw [ha] at hf; cases hf
  | some da =>
    rw [ha] at hf
    simp only at hf
    cases hb : fs env with
    | none => rw [hb] at hf; cases hf
    | some db =>
      rw [hb] at hf
      cases hf
      refine ⟨H0, F0, F, env, da, rl, ha, fun v H1 F1 g1 hv => ⟨H0, F0, F1, env, db, rl.grow g1, hb, fun u H2 F2 g2 hu => ?_⟩⟩
      exact q _ H2 F2 (g1.trans g2) (.cons (hv.mono g2.f) hu)
def mkT (xs : List D) : Option D := if xs.length ≤ 100000 then some (.tup xs) else none
def mkL (xs : List D) : Option D := if xs.length ≤ 100000 then some (.lst xs) else none
theorem de_tup {x1} (h : PA X es (dA X.K fs)) : PE X (.Tuple es x1 pos) (dE X.K (opC mkT fs)) := by
  refine PE.imp (pe_tup h) ?_
  rintro σ H Q ⟨H0, F0, F, env, d, rl, hf, q⟩
  unfold opC at hf
  cases hb : fs env with
  | none => rw [hb] at hf; cases hf
  | some ds =>
    rw [hb] at hf
    simp only [mkT] at hf
    split at hf
    · rename_i hl
      cases hf
      refine ⟨H0, F0, F, env, ds, rl, hb, fun vs H1 F1 g1 hv => ⟨sz_of (by rw [hv.len]; exact hl), fun p hp => ?_⟩⟩
      have g2 := Grow.new (o := .tup vs) g1.fh hp
      exact q _ _ _ (g1.trans g2) (.tup' upd_same (hv.mono g2.f))
    · cases hf
theorem de_lst (h : PA X es (dA X.K fs)) : PE X (.List es pos) (dE X.K (opC mkL fs)) := by
  refine PE.imp (pe_lst h) ?_
  rintro σ H Q ⟨H0, F0, F, env, d, rl, hf, q⟩
  unfold opC at hf
  cases hb : fs env with
  | none => rw [hb] at hf; cases hf
  | some ds =>
    rw [hb] at hf
    simp only [mkL] at hf
    split at hf
    · rename_i hl
      cases hf
      refine ⟨H0, F0, F, env, ds, rl, hb, fun vs H1 F1 g1 hv => ⟨sz_of (by rw [hv.len]; exact hl), fun p hp => ?_⟩⟩
      have g2 := Grow.new (o := .lst vs) g1.fh hp
      exact q _ _ _ (g1.trans g2) (.lst' upd_same (hv.mono g2.f))
    · cases hf

/-! ### and, or, not, if -/
def andE (fa fb : DEnv → Option D) : DEnv → Option D := fun env => match fa env with
  | some (.bl true) => fb env
  | some (.bl false) => some (.bl false)
  | _ => none
def orE (fa fb : DEnv → Option D) : DEnv → Option D := fun env => match fa env with
  | some (.bl true) => some (.bl true)
  | some (.bl false) => fb env
  | _ => none
variable {rest : List Expr}
theorem de_and (ha : PE X a (dE X.K fa)) (hb : PE X (.BoolOp .And (b :: rest) pos) (dE X.K fb)) : PE X (.BoolOp .And (a :: b :: rest) pos) (dE X.K (andE fa fb)) := by
  refine PE.imp (pe_and ha hb) ?_
  rintro σ H Q ⟨H0, F0, F, env, d, rl, hf, q⟩
  unfold andE at hf
  split at hf
  · rename_i ha
    exact ⟨H0, F0, F, env, _, rl, ha, fun v H1 F1 g1 hv => ⟨true, hv.inv_bl, iteT ⟨H0, F0, F1, env, d, rl.grow g1, hf, fun u H2 F2 g2 hu => q u H2 F2 (g1.trans g2) hu⟩⟩⟩
  · rename_i ha
    cases hf
    exact ⟨H0, F0, F, env, _, rl, ha, fun v H1 F1 g1 hv => ⟨false, hv.inv_bl, iteF (q _ H1 F1 g1 (.bl false))⟩⟩
  · cases hf
theorem de_or (ha : PE X a (dE X.K fa)) (hb : PE X (.BoolOp .Or (b :: rest) pos) (dE X.K fb)) : PE X (.BoolOp .Or (a :: b :: rest) pos) (dE X.K (orE fa fb)) := by
  refine PE.imp (pe_or ha hb) ?_
  rintro σ H Q ⟨H0, F0, F, env, d, rl, hf, q⟩
  unfold orE at hf
  split at hf
  · rename_i ha
    cases hf
    exact ⟨H0, F0, F, env, _, rl, ha, fun v H1 F1 g1 hv => ⟨true, hv.inv_bl, iteT (q _ H1 F1 g1 (.bl true))⟩⟩
  · rename_i ha
    exact ⟨H0, F0, F, env, _, rl, ha, fun v H1 F1 g1 hv => ⟨false, hv.inv_bl, iteF ⟨H0, F0, F1, env, d, rl.grow g1, hf, fun u H2 F2 g2 hu => q u H2 F2 (g1.trans g2) hu⟩⟩⟩
  · cases hf
theorem de_one {op} (h : PE X a (dE X.K fa)) : PE X (.BoolOp op [a] pos) (dE X.K fa) := pe_one h
variable {ta tb : DEnv → Option Bool}
/-- tests -/
def andT (fa fb : DEnv → Option Bool) : DEnv → Option Bool := fun env => match fa env with
  | some true => fb env
  | some false => some false
  | none => none
def orT (fa fb : DEnv → Option Bool) : DEnv → Option Bool := fun env => match fa env with
  | some true => some true
  | some false => fb env
  | none => none
def notT (fa : DEnv → Option Bool) : DEnv → Option Bool := fun env => match fa env with
  | some b => some (!b)
  | none => none
theorem dw_and (ha : PT X a (dT X.K ta)) (hb : PW X (.BoolOp .And (b :: rest) pos) (dT X.K tb)) : PW X (.BoolOp .And (a :: b :: rest) pos) (dT X.K (andT ta tb)) := by
  refine PW.imp (pw_and ha hb) ?_
  rintro σ H Q ⟨H0, F0, F, env, d, rl, hf, q⟩
  unfold andT at hf
  split at hf
  · rename_i ha
    exact ⟨H0, F0, F, env, _, rl, ha, fun H1 F1 g1 => iteT ⟨H0, F0, F1, env, d, rl.grow g1, hf, fun H2 F2 g2 => q H2 F2 (g1.trans g2)⟩⟩
  · rename_i ha
    cases hf
    exact ⟨H0, F0, F, env, _, rl, ha, fun H1 F1 g1 => iteF (q H1 F1 g1)⟩
  · cases hf
theorem dw_or (ha : PT X a (dT X.K ta)) (hb : PW X (.BoolOp .Or (b :: rest) pos) (dT X.K tb)) : PW X (.BoolOp .Or (a :: b :: rest) pos) (dT X.K (orT ta tb)) := by
  refine PW.imp (pw_or ha hb) ?_
  rintro σ H Q ⟨H0, F0, F, env, d, rl, hf, q⟩
  unfold orT at hf
  split at hf
  · rename_i ha
    cases hf
    exact ⟨H0, F0, F, env, _, rl, ha, fun H1 F1 g1 => iteT (q H1 F1 g1)⟩
  · rename_i ha
    exact ⟨H0, F0, F, env, _, rl, ha, fun H1 F1 g1 => iteF ⟨H0, F0, F1, env, d, rl.grow g1, hf, fun H2 F2 g2 => q H2 F2 (g1.trans g2)⟩⟩
  · cases hf
theorem dw_and1 (ha : PT X a (dT X.K ta)) : PW X (.BoolOp .And [a] pos) (dT X.K ta) := pw_and1 ha
theorem dw_or1 (ha : PT X a (dT X.K ta)) : PW X (.BoolOp .Or [a] pos) (dT X.K ta) := pw_or1 ha
theorem dt_not (ha : PT X a (dT X.K ta)) : PT X (.UnaryOp .Not a pos) (dT X.K (notT ta)) := by
  refine PT.imp (pt_not ha) ?_
  rintro σ H Q ⟨H0, F0, F, env, d, rl, hf, q⟩
  unfold notT at hf
  split at hf
  · rename_i ha
    cases hf
    exact ⟨H0, F0, F, env, _, rl, ha, fun H1 F1 g1 => q H1 F1 g1⟩
  · cases hf
/-- truth -/
def truD : D → Option Bool
  | .non => some false
  | .bl b => some b
  | .int i => some (i != 0)
  | .lst xs => some (!xs.isEmpty)
  | .tup xs => some (!xs.isEmpty)
  | _ => none
def tru (f : DEnv → Option D) : DEnv → Option Bool := fun env => match f env with
  | some d => truD d
  | none => none
theorem isEmpty_len {α β : Type} {xs : List α} {ys : List β} (h : xs.length = ys.length) : xs.isEmpty = ys.isEmpty := by
  cases xs <;> cases ys <;> first | rfl | (simp at h)
theorem dt_tru (ha : PE X a (dE X.K fa)) (he : ∀ whole, isTrue a X.env whole = (do let v ← whole; standAt a.pos; holding [v] (truthy v)) := by intro _; rfl) : PT X a (dT X.K (tru fa)) := by
  refine PT.imp (pt_truth ha he) ?_
  rintro σ H Q ⟨H0, F0, F, env, d, rl, hf, q⟩
  unfold tru at hf
  split at hf
  · rename_i x ha
    refine ⟨H0, F0, F, env, _, rl, ha, fun v H1 F1 g1 hv => ?_⟩
    cases x with
    | non => cases hf; cases hv.inv_non; exact ⟨false, rfl, q H1 F1 g1⟩
    | bl b => cases hf; cases hv.inv_bl; exact ⟨_, rfl, q H1 F1 g1⟩
    | int b => cases hf; cases hv.inv_int; exact ⟨_, rfl, q H1 F1 g1⟩
    | lst xs =>
      cases hf
      obtain ⟨p, vs, rfl, e, r⟩ := hv.inv_lst
      exact ⟨_, .inl ⟨vs, .inl (.inl (g1.fh _ _ e)), by rw [isEmpty_len r.len]⟩, q H1 F1 g1⟩
    | tup xs =>
      cases hf
      obtain ⟨p, vs, rfl, e, r⟩ := hv.inv_tup
      exact ⟨_, .inr (.inl ⟨vs, .inl (.inl (g1.fh _ _ e)), by rw [isEmpty_len r.len]⟩), q H1 F1 g1⟩
    | _ => simp [truD] at hf
  · cases hf
def notG (d : D) : Option D := match truD d with
  | some b => some (.bl !b)
  | none => none
theorem truV_of {K : PySem.W.Frag} {F H : Hp} {v : V} {x : D} {b : Bool} (e : Ex F H) (hv : Dt K F v x) (ht : truD x = some b) : TruV K v H b := by
  cases x with
  | non => cases ht; cases hv.inv_non; exact rfl
  | bl b => cases ht; cases hv.inv_bl; exact rfl
  | int b => cases ht; cases hv.inv_int; exact rfl
  | lst xs =>
    cases ht
    obtain ⟨p, vs, rfl, e', r⟩ := hv.inv_lst
    exact .inl ⟨vs, .inl (.inl (e _ _ e')), by rw [isEmpty_len r.len]⟩
  | tup xs =>
    cases ht
    obtain ⟨p, vs, rfl, e', r⟩ := hv.inv_tup
    exact .inr (.inl ⟨vs, .inl (.inl (e _ _ e')), by rw [isEmpty_len r.len]⟩)
  | _ => simp [truD] at ht
theorem de_not (ha : PE X a (dE X.K fa)) : PE X (.UnaryOp .Not a pos) (dE X.K (op1 notG fa)) := by
  refine PE.imp (pe_notT ha) ?_
  rintro σ H Q ⟨H0, F0, F, env, d, rl, hf, q⟩
  unfold op1 at hf
  cases ha : fa env with
  | none => rw [ha] at hf; cases hf
  | some da =>
    rw [ha] at hf
    simp only [notG] at hf
    cases ht : truD da with
    | none => rw [ht] at hf; cases hf
    | some k =>
      rw [ht] at hf
      cases hf
      exact ⟨H0, F0, F, env, _, rl, ha, fun v H1 F1 g1 hv => ⟨k, truV_of g1.fh hv ht, q _ H1 F1 g1 (.bl _)⟩⟩
def ifE (ta : DEnv → Option Bool) (fa fb : DEnv → Option D) : DEnv → Option D := fun env => match ta env with
  | some true => fa env
  | some false => fb env
  | none => none
theorem de_ifE (hc : PT X c (dT X.K ta)) (ha : PE X a (dE X.K fa)) (hb : PE X b (dE X.K fb)) : PE X (.IfExp c a b pos) (dE X.K (ifE ta fa fb)) := by
  refine PE.imp (pe_ifExp hc ha hb) ?_
  rintro σ H Q ⟨H0, F0, F, env, d, rl, hf, q⟩
  unfold ifE at hf
  split at hf
  · rename_i ha
    exact ⟨H0, F0, F, env, _, rl, ha, fun H1 F1 g1 => iteT ⟨H0, F0, F1, env, d, rl.grow g1, hf, fun u H2 F2 g2 hu => q u H2 F2 (g1.trans g2) hu⟩⟩
  · rename_i ha
    exact ⟨H0, F0, F, env, _, rl, ha, fun H1 F1 g1 => iteF ⟨H0, F0, F1, env, d, rl.grow g1, hf, fun u H2 F2 g2 hu => q u H2 F2 (g1.trans g2) hu⟩⟩
  · cases hf

/-! ### subscripts, slices -/
theorem de_ix {r : R2} {g : D → D → Option D} (hi : IxR X r) (hr : R2Ok X.K r g) (ha : PE X a (dE X.K fa)) (hb : PE X b (dE X.K fb)) (hs : PlainIx b := by exact fun _ _ => rfl) : PE X (.Subscript a b pos) (dE X.K (op2 g fa fb)) :=
  PE.imp (pe_ix hi ha hb hs) fun _ _ _ h => run2 hr h
variable {oa ob : DEnv → Option (Option Int)} {lo hi : Option Expr} {p2 : Pos}
theorem do_none : PO X none (dO X.K fun _ => some none) := ⟨fun pins s σ H Q I h => (po_none (X := X)).run pins s σ H Q I (by
  obtain ⟨H0, F0, F, env, d, r, hf, q⟩ := h
  cases hf
  exact q H F (.refl r.fh))⟩
def prt (fa : DEnv → Option D) : DEnv → Option (Option Int) := fun env => match fa env with
  | some (.int i) => some (some i)
  | _ => none
theorem do_some (h : PE X e (dE X.K fa)) : PO X (some e) (dO X.K (prt fa)) := ⟨fun pins s σ H Q I q => (po_some h).run pins s σ H Q I (by
  obtain ⟨H0, F0, F, env, d, r, hf, q⟩ := q
  unfold prt at hf
  split at hf
  · rename_i i ha
    cases hf
    exact ⟨H0, F0, F, env, _, r, ha, fun v H1 F1 g1 hv => ⟨i, hv.inv_int, q H1 F1 g1⟩⟩
  · cases hf)⟩
/-- the bounds of a slice, on data -/
def cutD (xs : List D) (lo hi : Option Int) : List D := (xs.drop (HT.sIx xs.length 0 lo)).take (HT.sIx xs.length xs.length hi - HT.sIx xs.length 0 lo)
theorem DtA.cut {K : PySem.W.Frag} {F : Hp} {vs : List V} {ds : List D} (r : DtA K F vs ds) (lo hi : Option Int) : DtA K F (cutV vs lo hi) (cutD ds lo hi) := by
  unfold cutV cutD
  rw [r.len]
  exact (r.drop _).take _
def slG : D → Option Int → Option Int → Option D
  | .lst xs, lo, hi => some (.lst (cutD xs lo hi))
  | _, _, _ => none
def slF (fa : DEnv → Option D) (oa ob : DEnv → Option (Option Int)) : DEnv → Option D := fun env => match fa env with
  | none => none
  | some d => match oa env with
    | none => none
    | some lo => match ob env with
      | none => none
      | some hi => slG d lo hi
theorem de_slice (he : PE X e (dE X.K fa)) (hl : PO X lo (dO X.K oa)) (hu : PO X hi (dO X.K ob)) : PE X (.Subscript e (.Slice lo hi none p2) pos) (dE X.K (slF fa oa ob)) := by
  refine PE.imp (pe_slice sl_list he hl hu) ?_
  rintro σ H Q ⟨H0, F0, F, env, d, rl, hf, q⟩
  unfold slF at hf
  cases ha : fa env with
  | none => rw [ha] at hf; cases hf
  | some da =>
    rw [ha] at hf
    simp only at hf
    cases hb : oa env with
    | none => rw [hb] at hf; cases hf
    | some db =>
      rw [hb] at hf
      simp only at hf
      cases hc : ob env with
      | none => rw [hc] at hf; cases hf
      | some dc =>
        rw [hc] at hf
        simp only at hf
        refine ⟨H0, F0, F, env, da, rl, ha, fun v H1 F1 g1 hv => ⟨H0, F0, F1, env, db, rl.grow g1, hb, fun H2 F2 g2 => ⟨H0, F0, F2, env, dc, (rl.grow g1).grow g2, hc, fun H3 F3 g3 => ?_⟩⟩⟩
        cases da with
        | lst xs =>
          simp [slG] at hf
          subst hf
          obtain ⟨p, vs, rfl, e, r⟩ := (hv.mono (g2.f.trans g3.f)).inv_lst
          refine ⟨p, vs, rfl, .inl (.inl (g3.fh _ _ e)), fun z hz => ?_⟩
          have g4 := Grow.new (o := .lst (cutV vs db dc)) g3.fh hz
          exact q _ _ _ (((g1.trans g2).trans g3).trans g4) (.lst' upd_same ((r.mono g4.f).cut db dc))
        | _ => simp [slG] at hf

/-! ### calls -/
theorem de_callB {id : String} {rc : List V → Hp → VK → Prop} {gc : List D → Option D} (hc : CallR X (.builtin id) rc) (hr : RCOk X.K rc gc) (hg : Gl X x) (hm : X.mg x = none) (hv : bootBuiltins x = some (.builtin id)) (ha : PA X (e :: es) (dA X.K fs)) (hn : x ≠ "__name__" := by decide) (hdb : (x == ("__debug__" : Str)) = false := by decide)
    (he : starEach (e :: es) X.env = (false, eval e X.env) :: starEach es X.env := by rfl) (hpl : (backTo pos (starEach es X.env)).any (·.1) = false := by rfl) : PE X (.Call (.Name x p) (e :: es) [] pos) (dE X.K (opC gc fs)) := by
  refine PE.imp (pe_callB hc hg hm hv ha hn hdb he hpl) ?_
  rintro σ H Q ⟨H0, F0, F, env, d, rl, hf, q⟩
  unfold opC at hf
  cases hb : fs env with
  | none => rw [hb] at hf; cases hf
  | some ds =>
    rw [hb] at hf
    exact ⟨H0, F0, F, env, ds, rl, hb, fun vs H1 F1 g1 hv => hr F1 H1 vs ds d Q g1.fh hv hf fun v H2 F2 g2 hv => q v H2 F2 (g1.trans g2) hv⟩
theorem de_callTy {T : String} {rc : List V → Hp → VK → Prop} {gc : List D → Option D} (hc : CallR X (.type T) rc) (hr : RCOk X.K rc gc) (hg : Gl X x) (hm : X.mg x = none) (hv : bootBuiltins x = some (.type T)) (ha : PA X (e :: es) (dA X.K fs)) (hn : x ≠ "__name__" := by decide) (hdb : (x == ("__debug__" : Str)) = false := by decide)
    (he : starEach (e :: es) X.env = (false, eval e X.env) :: starEach es X.env := by rfl) (hpl : (backTo pos (starEach es X.env)).any (·.1) = false := by rfl) : PE X (.Call (.Name x p) (e :: es) [] pos) (dE X.K (opC gc fs)) := by
  refine PE.imp (pe_callTy hc hg hm hv ha hn hdb he hpl) ?_
  rintro σ H Q ⟨H0, F0, F, env, d, rl, hf, q⟩
  unfold opC at hf
  cases hb : fs env with
  | none => rw [hb] at hf; cases hf
  | some ds =>
    rw [hb] at hf
    exact ⟨H0, F0, F, env, ds, rl, hb, fun vs H1 F1 g1 hv => hr F1 H1 vs ds d Q g1.fh hv hf fun v H2 F2 g2 hv => q v H2 F2 (g1.trans g2) hv⟩
end

/-- what a def answers: a datum, or an own error of the class of that name -/
inductive Res where
  | ok (d : D)
  | ex (c : Str)
def spF (K : PySem.W.Frag) (mg : Str → Option Value) (n : Nat) (f : List D → Option Res) : Sp := fun vs H Q E => vs.length = n ∧ ∃ F ds r, Ex F H ∧ DtA K F vs ds ∧ f ds = some r ∧
  match r with
  | .ok d => ∀ v H' F', Grow H F H' F' → Dt K F' v d → Q v H'
  | .ex c => ∃ C, mg c = some (.ref C) ∧ ∀ H' F', Grow H F H' F' → E (.ref C) none H'
def okD (f : List D → Option Res) : List D → Option D := fun ds => match f ds with
  | some (.ok d) => some d
  | _ => none
section
variable {X : Cx} {e : Expr} {es : List Expr} {fs : DEnv → Option (List D)} {pos p : Pos} {x : Str} {CX : CXT} {k n : Nat} {f : Addr} {fd : FuncData} {ps : List Str} {sf : List D → Option Res} {E : XK}
theorem de_call (G : FnOk X.prog X.w X.K X.mg X.base CX k f fd ps (spF X.K X.mg n sf)) (hr : Room k X.A) (hg : Gl X x) (hm : X.mg x = some (.ref f)) (hk : PySem.W.keepIn X.K (.ref f) = true) (hb : Binds X.K fd ps []) (hx : Passes CX X E)
    (ha : PA X (e :: es) (dA X.K fs)) (hl : ∀ env ds, fs env = some ds → ds.length = n) (hdb : (x == ("__debug__" : Str)) = false := by decide) (he : starEach (e :: es) X.env = (false, eval e X.env) :: starEach es X.env := by rfl) (hpl : (backTo pos (starEach es X.env)).any (·.1) = false := by rfl) :
    PE X (.Call (.Name x p) (e :: es) [] pos) (dE X.K (opC (okD sf) fs)) := by
  refine PE.imp (pe_call G hr hg hm hk hb .nil hx ha hdb he hpl) ?_
  rintro σ H Q ⟨H0, F0, F, env, d, rl, hf, q⟩
  unfold opC at hf
  cases hb : fs env with
  | none => rw [hb] at hf; cases hf
  | some ds =>
    rw [hb] at hf
    refine ⟨H0, F0, F, env, ds, rl, hb, fun vs H1 F1 g1 hv => ?_⟩
    unfold okD at hf
    simp only at hf
    split at hf
    · rename_i d' hd
      cases hf
      rw [List.append_nil]
      exact ⟨hv.len.trans (hl env ds hb), F1, ds, _, g1.fh, hv, hd, fun v H2 F2 g2 hv => q v H2 F2 (g1.trans g2) hv⟩
    · cases hf
end
end DL

namespace DL
open PySem PySem.Spec PyProof.Rows L2 Evl

/-! ### statements by data -/
inductive Out where
  | nx (e : DEnv)
  | bk (e : DEnv)
  | ct (e : DEnv)
  | rt (d : D) (e : DEnv)
  | ex (c : Str) (e : DEnv)
/-- what an own error's way out wants -/
abbrev RX := Str → L2.St → Hp → Prop
def Post (K : PySem.W.Frag) (R : RX) (H0 F0 : Hp) (o : Out) (D : Ends) : Prop := match o with
  | .nx e => ∀ F σ H, Rel K H0 F0 F e σ H → D.nx σ H
  | .bk e => ∀ F σ H, Rel K H0 F0 F e σ H → D.bk σ H
  | .ct e => ∀ F σ H, Rel K H0 F0 F e σ H → D.ct σ H
  | .rt d e => ∀ v F σ H, Rel K H0 F0 F e σ H → Dt K F v d → D.rt v H
  | .ex c e => ∀ F σ H, Rel K H0 F0 F e σ H → R c σ H
def dS (K : PySem.W.Frag) (R : RX) (f : DEnv → Option Out) : TS := fun D σ H => ∃ H0 F0 F env o, Rel K H0 F0 F env σ H ∧ f env = some o ∧ Post K R H0 F0 o D
def seqS (f g : DEnv → Option Out) : DEnv → Option Out := fun env => match f env with
  | some (.nx e) => g e
  | o => o
def nxS : DEnv → Option Out := fun env => some (.nx env)
section
variable {X : Cx} {R : RX} {st : Stmt} {rest : List Stmt} {f g : DEnv → Option Out} {fe : DEnv → Option D} {fs : DEnv → Option (List D)} {ft : DEnv → Option Bool} {e c : Expr} {pos : Pos}
theorem ds_nil : PSs X [] (dS X.K R nxS) := PSs.imp pss_nil (by
  rintro D σ H ⟨H0, F0, F, env, o, r, hf, p⟩
  cases hf
  exact p F σ H r)
theorem ds_cons (h1 : PS X st (dS X.K R f)) (h2 : PSs X rest (dS X.K R g)) : PSs X (st :: rest) (dS X.K R (seqS f g)) := by
  refine PSs.imp (pss_cons h1 h2) ?_
  rintro D σ H ⟨H0, F0, F, env, o, r, hf, p⟩
  unfold seqS at hf
  split at hf
  · rename_i e he
    exact ⟨H0, F0, F, env, .nx e, r, he, fun F' σ' H' r' => ⟨H0, F0, F', e, o, r', hf, p⟩⟩
  · rename_i hn
    refine ⟨H0, F0, F, env, o, r, hf, ?_⟩
    cases o with
    | nx e => exact absurd hf (hn e)
    | bk e => exact p
    | ct e => exact p
    | rt d e => exact p
    | ex c e => exact p
theorem ds_one (h1 : PS X st (dS X.K R f)) : PSs X [st] (dS X.K R f) := pss_one h1
theorem ds_pass : PS X (.Pass pos) (dS X.K R nxS) := PS.imp ps_pass (by
  rintro D σ H ⟨H0, F0, F, env, o, r, hf, p⟩
  cases hf
  exact p F σ H r)
theorem ds_break : PS X (.Break pos) (dS X.K R fun env => some (.bk env)) := PS.imp ps_break (by
  rintro D σ H ⟨H0, F0, F, env, o, r, hf, p⟩
  cases hf
  exact p F σ H r)
theorem ds_continue : PS X (.Continue pos) (dS X.K R fun env => some (.ct env)) := PS.imp ps_continue (by
  rintro D σ H ⟨H0, F0, F, env, o, r, hf, p⟩
  cases hf
  exact p F σ H r)
def retS (fe : DEnv → Option D) : DEnv → Option Out := fun env => match fe env with
  | some d => some (.rt d env)
  | none => none
theorem ds_ret (he : PE X e (dE X.K fe)) : PS X (.Return (some e) pos) (dS X.K R (retS fe)) := by
  refine PS.imp (ps_ret he) ?_
  rintro D σ H ⟨H0, F0, F, env, o, r, hf, p⟩
  unfold retS at hf
  split at hf
  · rename_i d hd
    cases hf
    exact ⟨H0, F0, F, env, d, r, hd, fun v H' F' g hv => p v F' σ H' (r.grow g) hv⟩
  · cases hf
theorem ds_retN : PS X (.Return none pos) (dS X.K R fun env => some (.rt .non env)) := PS.imp ps_retN (by
  rintro D σ H ⟨H0, F0, F, env, o, r, hf, p⟩
  cases hf
  exact p _ F σ H r .non)
def drpS (fe : DEnv → Option D) : DEnv → Option Out := fun env => match fe env with
  | some _ => some (.nx env)
  | none => none
theorem ds_expr (he : PE X e (dE X.K fe)) (hs : swapsWith e none pos.line X.env = pure false := by rfl) : PS X (.Expr e pos) (dS X.K R (drpS fe)) := by
  refine PS.imp (ps_expr he hs) ?_
  rintro D σ H ⟨H0, F0, F, env, o, r, hf, p⟩
  unfold drpS at hf
  split at hf
  · rename_i d hd
    cases hf
    exact ⟨H0, F0, F, env, d, r, hd, fun v H' F' g hv => p F' σ H' (r.grow g)⟩
  · cases hf
def ifS (ft : DEnv → Option Bool) (f g : DEnv → Option Out) : DEnv → Option Out := fun env => match ft env with
  | some true => f env
  | some false => g env
  | none => none
theorem ds_if {a b : List Stmt} (hc : PT X c (dT X.K ft)) (ha : PSs X a (dS X.K R f)) (hb : PSs X b (dS X.K R g)) : PS X (.If c a b pos) (dS X.K R (ifS ft f g)) := by
  refine PS.imp (ps_if hc ha hb) ?_
  rintro D σ H ⟨H0, F0, F, env, o, r, hf, p⟩
  unfold ifS at hf
  split at hf
  · rename_i hd
    exact ⟨H0, F0, F, env, _, r, hd, fun H' F' g => iteT ⟨H0, F0, F', env, o, r.grow g, hf, p⟩⟩
  · rename_i hd
    exact ⟨H0, F0, F, env, _, r, hd, fun H' F' g => iteF ⟨H0, F0, F', env, o, r.grow g, hf, p⟩⟩
  · cases hf

/-! ### targets -/
def dG (K : PySem.W.Frag) (ws : List Nat) (gf : D → DEnv → Option DEnv) : TG := fun v σ H Q => ∃ H0 F0 F env d env', Rel K H0 F0 F env σ H ∧ Dt K F v d ∧ gf d env = some env' ∧ ∀ σ', Rel K H0 F0 F env' σ' H → wipe σ' ws = wipe σ ws → Q σ' H
def dGs (K : PySem.W.Frag) (ws : List Nat) (gf : List D → DEnv → Option DEnv) : TGs := fun vs σ H Q => ∃ H0 F0 F env ds env', Rel K H0 F0 F env σ H ∧ DtA K F vs ds ∧ gf ds env = some env' ∧ ∀ σ', Rel K H0 F0 F env' σ' H → wipe σ' ws = wipe σ ws → Q σ' H
def setG (i : Nat) : D → DEnv → Option DEnv := fun d env => some (env.set i (.val d))
theorem wipe_comm (σ : L2.St) : ∀ (ws : List Nat) (i : Nat) (x : Option V), i ∉ ws → wipe (σ.set i x) ws = (wipe σ ws).set i x
  | [], i, x, _ => rfl
  | w :: ws, i, x, h => by
    have h1 : i ≠ w := fun z => h (by simp [z])
    have h2 : i ∉ ws := fun z => h (by simp [z])
    unfold wipe
    rw [wipe_comm σ ws i x h2, List.set_comm _ _ h1]
theorem wipe_set (σ : L2.St) : ∀ (ws : List Nat) (i : Nat) (x : Option V), i ∈ ws → wipe (σ.set i x) ws = wipe σ ws
  | [], i, x, h => absurd h (by simp)
  | w :: ws, i, x, h => by
    unfold wipe
    by_cases hw : i ∈ ws
    · rw [wipe_set σ ws i x hw]
    · have e : i = w := by
        rcases List.mem_cons.mp h with z | z
        · exact z
        · exact absurd z hw
      subst e
      rw [wipe_comm σ ws i x hw, List.set_set]
theorem dg_name {ws : List Nat} {i : Nat} {x : Str} (hN : X.N.Nodup) (hi : X.N[i]? = some x) (hx : Loc X.env.scope x) (hw : i ∈ ws) (hf : X.fn x = true ∨ X.env.scope.names.lookup x = some .local := by first | exact .inl rfl | exact .inr rfl | assumption) : PG X (.Name x pos) (dG X.K ws (setG i)) := by
  have h := pg_name (pos := pos) hN hi hx hf
  refine ⟨fun pins s σ H v u Q I rv q => h.run pins s σ H v u Q I rv ?_⟩
  obtain ⟨H0, F0, F, env, d, env', r, hv, hs, q⟩ := q
  cases hs
  exact q _ (r.setVal hv) (wipe_set σ ws i _ hw)
def nilG : List D → DEnv → Option DEnv := fun ds env => match ds with
  | [] => some env
  | _ :: _ => none
def consG (a : D → DEnv → Option DEnv) (b : List D → DEnv → Option DEnv) : List D → DEnv → Option DEnv := fun ds env => match ds with
  | [] => none
  | d :: r => match a d env with
    | none => none
    | some e => b r e
theorem dgs_nil {ws : List Nat} : PGs X [] (dGs X.K ws nilG) := by
  have h := pgs_nil (X := X)
  refine ⟨fun pins s σ H vs us Q I rv q => h.run pins s σ H vs us Q I rv ?_⟩
  obtain ⟨H0, F0, F, env, ds, env', r, hv, hs, q⟩ := q
  cases ds with
  | nil => cases hs; exact ⟨hv.inv_nil, q σ r rfl⟩
  | cons d ds => cases hs
theorem dgs_cons {ws : List Nat} {es : List Expr} {a : D → DEnv → Option DEnv} {b : List D → DEnv → Option DEnv} (h1 : PG X e (dG X.K ws a)) (h2 : PGs X es (dGs X.K ws b))
    (hs : (assignEach (e :: es) X.env).map (·.2) = assign e X.env :: (assignEach es X.env).map (·.2) := by rfl) : PGs X (e :: es) (dGs X.K ws (consG a b)) := by
  have h := pgs_cons h1 h2 hs
  refine ⟨fun pins s σ H vs us Q I rv q => h.run pins s σ H vs us Q I rv ?_⟩
  obtain ⟨H0, F0, F, env, ds, env', r, hv, hs, q⟩ := q
  cases ds with
  | nil => cases hs
  | cons d ds =>
    unfold consG at hs
    simp only at hs
    obtain ⟨v, vr, rfl, hd, hr⟩ := hv.inv_cons
    cases ha : a d env with
    | none => rw [ha] at hs; cases hs
    | some e1 =>
      rw [ha] at hs
      simp only at hs
      exact ⟨v, vr, rfl, H0, F0, F, env, d, e1, r, hd, ha, fun σ1 r1 w1 => ⟨H0, F0, F, e1, ds, env', r1, hr, hs, fun σ2 r2 w2 => q σ2 r2 (w2.trans w1)⟩⟩
def tupG (n : Nat) (b : List D → DEnv → Option DEnv) : D → DEnv → Option DEnv := fun d env => match d with
  | .tup ds => if ds.length = n then b ds env else none
  | _ => none
theorem dg_tup {ws : List Nat} {es : List Expr} {k n : Nat} {b : List D → DEnv → Option DEnv} (hc : X.calm = true) (h : PGs X es (dGs X.K ws b))
    (hn : (assignEach es X.env).length = n := by rfl) (hst : (assignEach es X.env).findIdx? (·.1) = none := by rfl) : PG X (.Tuple es k pos) (dG X.K ws (tupG n b)) := by
  have h := pg_tup (k := k) (pos := pos) hc h hn hst
  refine ⟨fun pins s σ H v u Q I rv q => h.run pins s σ H v u Q I rv ?_⟩
  obtain ⟨H0, F0, F, env, d, env', r, hv, hs, q⟩ := q
  cases d with
  | tup ds =>
    simp only [tupG] at hs
    split at hs
    · rename_i hl
      obtain ⟨p, vs, rfl, e, rr⟩ := hv.inv_tup
      exact ⟨p, vs, rfl, .inl (.inl (r.fh _ _ e)), rr.len.trans hl, H0, F0, F, env, ds, env', r, rr, hs, q⟩
    · cases hs
  | _ => simp [tupG] at hs

/-! ### assignments -/
def asgS (fe : DEnv → Option D) (gf : D → DEnv → Option DEnv) : DEnv → Option Out := fun env => match fe env with
  | none => none
  | some d => match gf d env with
    | none => none
    | some e => some (.nx e)
theorem ds_asg {ws : List Nat} {tg : Expr} {gf : D → DEnv → Option DEnv} (he : PE X e (dE X.K fe)) (hg : PG X tg (dG X.K ws gf)) (hs : swapsWithSole [tg] e pos.line X.env = pure false := by rfl) (hw : swappedStores [tg] e X.env = pure none := by rfl)
    (h1 : (assignEach [tg] X.env).map (·.2) = [assign tg X.env] := by rfl) : PS X (.Assign [tg] e pos) (dS X.K R (asgS fe gf)) := by
  refine PS.imp (ps_asg he hg hs hw h1) ?_
  rintro D σ H ⟨H0, F0, F, env, o, r, hf, p⟩
  unfold asgS at hf
  cases hd : fe env with
  | none => rw [hd] at hf; cases hf
  | some d =>
    rw [hd] at hf
    simp only at hf
    cases hg : gf d env with
    | none => rw [hg] at hf; cases hf
    | some e1 =>
      rw [hg] at hf
      cases hf
      exact ⟨H0, F0, F, env, d, r, hd, fun v H' F' g hv => ⟨H0, F0, F', env, d, e1, r.grow g, hv, hg, fun σ' r' _ => p F' σ' H' r'⟩⟩
/-- x = e, x the i-th slot -/
abbrev putS (i : Nat) (fe : DEnv → Option D) : DEnv → Option Out := asgS fe (setG i)
theorem ds_set {i : Nat} {x : Str} {pos' : Pos} (hN : X.N.Nodup) (hi : X.N[i]? = some x) (hx : Loc X.env.scope x) (he : PE X e (dE X.K fe)) (hs : swapsWith e (some (.Name x pos')) pos.line X.env = pure false := by rfl) (hf : X.fn x = true ∨ X.env.scope.names.lookup x = some .local := by first | exact .inl rfl | exact .inr rfl | assumption) :
    PS X (.Assign [.Name x pos'] e pos) (dS X.K R (putS i fe)) := by
  refine PS.imp (ps_set hN hi hx he hs hf) ?_
  rintro D σ H ⟨H0, F0, F, env, o, r, hf, p⟩
  unfold putS asgS setG at hf
  cases hd : fe env with
  | none => rw [hd] at hf; cases hf
  | some d =>
    rw [hd] at hf
    cases hf
    exact ⟨H0, F0, F, env, d, r, hd, fun v H' F' g hv => p F' _ H' ((r.grow g).setVal hv)⟩
/-- a new object (a list, a dict) of one's own -/
def dN (K : PySem.W.Frag) (f : DEnv → Option OC) : TE := fun σ H Q => ∃ H0 F0 F env c, Rel K H0 F0 F env σ H ∧ f env = some c ∧ ∀ p o H' F', Grow H F H' F' → H p = none → H' p = some o → F' p = none → OcR K F' o c → Q (.ref p) H'
def ownS (i : Nat) (fc : DEnv → Option OC) : DEnv → Option Out := fun env => match fc env with
  | none => none
  | some c => some (.nx (env.set i (.own none c)))
theorem ds_own {fc : DEnv → Option OC} {i : Nat} {x : Str} {pos' : Pos} (hN : X.N.Nodup) (hi : X.N[i]? = some x) (hx : Loc X.env.scope x) (he : PE X e (dN X.K fc)) (hs : swapsWith e (some (.Name x pos')) pos.line X.env = pure false := by rfl) (hf : X.fn x = true ∨ X.env.scope.names.lookup x = some .local := by first | exact .inl rfl | exact .inr rfl | assumption) :
    PS X (.Assign [.Name x pos'] e pos) (dS X.K R (ownS i fc)) := by
  refine PS.imp (ps_set hN hi hx he hs hf) ?_
  rintro D σ H ⟨H0, F0, F, env, o, r, hf, p⟩
  unfold ownS at hf
  cases hd : fc env with
  | none => rw [hd] at hf; cases hf
  | some c =>
    rw [hd] at hf
    cases hf
    exact ⟨H0, F0, F, env, c, r, hd, fun q o H' F' g hp ho hF hv => p F' _ H' (r.setOwn g hp ho hF hv)⟩
def ocE (f : DEnv → Option OC) : DEnv → Option D := fun env => match f env with
  | some c => some (ocD c)
  | none => none
/-- a new object as a datum -/
theorem de_new {fc : DEnv → Option OC} (h : PE X e (dN X.K fc)) : PE X e (dE X.K (ocE fc)) := by
  refine PE.imp h ?_
  rintro σ H Q ⟨H0, F0, F, env, d, r, hf, q⟩
  unfold ocE at hf
  split at hf
  · rename_i c hc
    cases hf
    refine ⟨H0, F0, F, env, c, r, hc, fun p o H' F' g hp ho hF hv => ?_⟩
    have g2 : Grow H F H' (upd F' p o) := by
      refine ⟨g.h, g.f.trans (Ex.new hF), fun a u ha => ?_, fun a ha => ?_⟩
      · by_cases hap : a = p
        · subst hap; rw [upd_same] at ha; cases ha; exact ho
        · rw [upd_ne hap] at ha; exact g.fh a u ha
      · have : a ≠ p := by rintro rfl; exact ha hp
        rw [upd_ne this]; exact g.fr a ha
    exact q _ H' _ g2 ((hv.mono (Ex.new hF)).dt upd_same)
  · cases hf
def ocL (f : DEnv → Option (List D)) : DEnv → Option OC := fun env => match f env with
  | some ds => if ds.length ≤ 100000 then some (.l ds) else none
  | none => none
/-- [a, b] -/
theorem dn_lst {es : List Expr} (h : PA X es (dA X.K fs)) : PE X (.List es pos) (dN X.K (ocL fs)) := by
  refine PE.imp (pe_lst h) ?_
  rintro σ H Q ⟨H0, F0, F, env, d, rl, hf, q⟩
  unfold ocL at hf
  cases hb : fs env with
  | none => rw [hb] at hf; cases hf
  | some ds =>
    rw [hb] at hf
    simp only at hf
    split at hf
    · rename_i hl
      cases hf
      refine ⟨H0, F0, F, env, ds, rl, hb, fun vs H1 F1 g1 hv => ⟨sz_of (by rw [hv.len]; exact hl), fun p hp => ?_⟩⟩
      exact q p _ _ F1 (g1.trans (Grow.newM g1.fh hp)) (none_of_ex g1.h hp) upd_same (none_of_ex g1.fh hp) (.l hv)
    · cases hf
/-- list(xs) -/
def lstG : D → Option OC
  | .lst xs => some (.l xs)
  | .tup xs => some (.l xs)
  | .scr ns => some (.l (ns.map .int))
  | _ => none
def lstN (fa : DEnv → Option D) : DEnv → Option OC := fun env => match fa env with
  | some d => lstG d
  | none => none
theorem dt_ints {K : PySem.W.Frag} {F : Hp} (ns : List Int) : DtA K F (ns.map V.int) (ns.map D.int) := by
  refine ⟨by simp, fun i x d a b => ?_⟩
  rw [List.getElem?_map] at a b
  cases h : ns[i]? with
  | none => rw [h] at a; cases a
  | some n => rw [h] at a b; cases a; cases b; exact .int n
theorem dn_list {p : Pos} (hg : Gl X "list") (hm : X.mg "list" = none) (ha : PE X e (dE X.K fe)) (hs : starEach [e] X.env = (false, eval e X.env) :: starEach [] X.env := by rfl)
    (hpl : (backTo pos (starEach [] X.env)).any (·.1) = false := by rfl) : PE X (.Call (.Name "list" p) [e] [] pos) (dN X.K (lstN fe)) := by
  refine PE.imp (pe_callTy call_list_of hg hm (by decide +kernel) (pa_cons ha pa_nil hs) (by decide) (by decide) hs hpl) ?_
  rintro σ H Q ⟨H0, F0, F, env, c, rl, hf, q⟩
  unfold lstN at hf
  split at hf
  · rename_i d hd
    refine ⟨H0, F0, F, env, d, rl, hd, fun v H1 F1 g1 hv => ?_⟩
    have fin : ∀ (vs : List V) (ds : List D), c = .l ds → DtA X.K F1 vs ds → ∀ l, H1 l = none → Q (.ref l) (upd H1 l (.lst vs)) := fun vs ds hc hr l hl => by
      subst hc
      exact q l _ _ F1 (g1.trans (Grow.newM g1.fh hl)) (none_of_ex g1.h hl) upd_same (none_of_ex g1.fh hl) (.l hr)
    cases d with
    | lst ds =>
      cases hf
      obtain ⟨p, vs, rfl, e, r⟩ := hv.inv_lst
      exact ⟨p, vs, rfl, .inl (.inl (.inl (g1.fh _ _ e))), fin vs ds rfl r⟩
    | tup ds =>
      cases hf
      obtain ⟨p, vs, rfl, e, r⟩ := hv.inv_tup
      exact ⟨p, vs, rfl, .inr (.inl (.inl (g1.fh _ _ e))), fin vs ds rfl r⟩
    | scr ns =>
      cases hf
      cases hv with
      | scr h => exact ⟨_, _, rfl, .inl (ex_l g1.fh h), fin _ _ rfl (dt_ints ns)⟩
    | _ => simp [lstG] at hf
  · cases hf
/-- xs[a:b], new -/
def slN (fa : DEnv → Option D) (oa ob : DEnv → Option (Option Int)) : DEnv → Option OC := fun env => match slF fa oa ob env with
  | some (.lst xs) => some (.l xs)
  | _ => none
variable {oa ob : DEnv → Option (Option Int)} {lo hi : Option Expr} {p2 : Pos} {fa : DEnv → Option D}
theorem dn_slice (he : PE X e (dE X.K fa)) (hl : PO X lo (dO X.K oa)) (hu : PO X hi (dO X.K ob)) : PE X (.Subscript e (.Slice lo hi none p2) pos) (dN X.K (slN fa oa ob)) := by
  refine PE.imp (pe_slice sl_list he hl hu) ?_
  rintro σ H Q ⟨H0, F0, F, env, d, rl, hf, q⟩
  unfold slN slF at hf
  cases ha : fa env with
  | none => rw [ha] at hf; cases hf
  | some da =>
    rw [ha] at hf
    simp only at hf
    cases hb : oa env with
    | none => rw [hb] at hf; cases hf
    | some db =>
      rw [hb] at hf
      simp only at hf
      cases hc : ob env with
      | none => rw [hc] at hf; cases hf
      | some dc =>
        rw [hc] at hf
        simp only at hf
        refine ⟨H0, F0, F, env, da, rl, ha, fun v H1 F1 g1 hv => ⟨H0, F0, F1, env, db, rl.grow g1, hb, fun H2 F2 g2 => ⟨H0, F0, F2, env, dc, (rl.grow g1).grow g2, hc, fun H3 F3 g3 => ?_⟩⟩⟩
        cases da with
        | lst xs =>
          simp only [slG] at hf
          cases hf
          obtain ⟨p, vs, rfl, e, r⟩ := (hv.mono (g2.f.trans g3.f)).inv_lst
          refine ⟨p, vs, rfl, .inl (.inl (g3.fh _ _ e)), fun z hz => ?_⟩
          have gg := ((g1.trans g2).trans g3)
          exact q z _ _ F3 (gg.trans (Grow.newM g3.fh hz)) (none_of_ex gg.h hz) upd_same (none_of_ex g3.fh hz) (.l (r.cut db dc))
        | _ => simp [slG] at hf

/-! ### freezing, forgetting: what may be said between statements -/
def frzS (i : Nat) (f : DEnv → Option Out) : DEnv → Option Out := fun env => match env[i]? with
  | some (.own _ c) => f (env.set i (.val (ocD c)))
  | _ => f env
theorem dS_frz {D : Ends} {σ : L2.St} {H : Hp} {i : Nat} (h : dS X.K R (frzS i f) D σ H) : dS X.K R f D σ H := by
  obtain ⟨H0, F0, F, env, o, r, hf, p⟩ := h
  unfold frzS at hf
  split at hf
  · rename_i a c he
    obtain ⟨l, u, _, _, _, _, _, r'⟩ := r.freeze he
    exact ⟨H0, F0, _, _, o, r', hf, p⟩
  · exact ⟨H0, F0, F, env, o, r, hf, p⟩
theorem ds_frz {sts : List Stmt} (i : Nat) (h : PSs X sts (dS X.K R f)) : PSs X sts (dS X.K R (frzS i f)) := PSs.imp h fun _ _ _ q => dS_frz q
theorem ds_frz1 {st : Stmt} (i : Nat) (h : PS X st (dS X.K R f)) : PS X st (dS X.K R (frzS i f)) := PS.imp h fun _ _ _ q => dS_frz q

/-! ### one's own objects read within an expression whose value is flat -/
def borE (i : Nat) (f : DEnv → Option D) : DEnv → Option D := fun env => match env[i]? with
  | some (.own _ c) => (match f (env.set i (.val (ocD c))) with
    | some d => if flatD d then some d else none
    | none => none)
  | _ => f env
def borT (i : Nat) (f : DEnv → Option Bool) : DEnv → Option Bool := fun env => match env[i]? with
  | some (.own _ c) => f (env.set i (.val (ocD c)))
  | _ => f env
/-- without p -/
def drop (F : Hp) (p : Addr) : Hp := fun a => if a = p then none else F a
theorem bor_grow {H F H' F' : Hp} {p : Addr} {o : HO} (eF : Ex F H) (hF : F p = none) (g : Grow H (upd F p o) H' F') : Grow H F H' (drop F' p) := by
  refine ⟨g.h, fun a u ha => ?_, fun a u ha => ?_, fun a ha => ?_⟩
  · have hp : a ≠ p := ne_of_none ha hF
    unfold drop; rw [if_neg hp]
    exact g.f a u (by rw [upd_ne hp]; exact ha)
  · unfold drop at ha
    split at ha
    · cases ha
    · exact g.fh a u ha
  · unfold drop
    by_cases hp : a = p
    · subst hp; rw [if_pos rfl, hF]
    · rw [if_neg hp, g.fr a ha, upd_ne hp]
theorem de_bor (i : Nat) (h : PE X e (dE X.K fe)) : PE X e (dE X.K (borE i fe)) := by
  refine PE.imp h ?_
  rintro σ H Q ⟨H0, F0, F, env, d, r, hf, q⟩
  unfold borE at hf
  split at hf
  · rename_i a c he
    obtain ⟨l, u, hs, hl, hF, h00, hc, r'⟩ := r.freeze he
    split at hf
    · rename_i d' hd
      split at hf
      · rename_i hfl
        cases hf
        exact ⟨H0, F0, _, _, d, r', hd, fun v H' F' g hv => q v H' _ (bor_grow r.fh hF g) (hv.flat hfl)⟩
      · cases hf
    · cases hf
  · exact ⟨H0, F0, F, env, d, r, hf, q⟩
theorem dt_bor (i : Nat) (h : PT X c (dT X.K ft)) : PT X c (dT X.K (borT i ft)) := by
  refine PT.imp h ?_
  rintro σ H Q ⟨H0, F0, F, env, d, r, hf, q⟩
  unfold borT at hf
  split at hf
  · rename_i a c he
    obtain ⟨l, u, hs, hl, hF, h00, hc, r'⟩ := r.freeze he
    exact ⟨H0, F0, _, _, d, r', hf, fun H' F' g => q H' _ (bor_grow r.fh hF g)⟩
  · exact ⟨H0, F0, F, env, d, r, hf, q⟩
theorem do_bor {o : Option Expr} {fo : DEnv → Option (Option Int)} (i : Nat) (h : PO X o (dO X.K fo)) : PO X o (dO X.K fun env => match env[i]? with
  | some (.own _ c) => fo (env.set i (.val (ocD c)))
  | _ => fo env) := by
  refine ⟨fun pins s σ H Q I q => h.run pins s σ H Q I ?_⟩
  obtain ⟨H0, F0, F, env, d, r, hf, q⟩ := q
  simp only at hf
  split at hf
  · rename_i a c he
    obtain ⟨l, u, hs, hl, hF, h00, hc, r'⟩ := r.freeze he
    exact ⟨H0, F0, _, _, d, r', hf, fun H' F' g => q H' _ (bor_grow r.fh hF g)⟩
  · exact ⟨H0, F0, F, env, d, r, hf, q⟩
end
end DL

namespace DL
open PySem PySem.Spec PyProof.Rows L2 Evl

/-! ### what a loop walks -/
structure ItOk (K : PySem.W.Frag) (J : It) (F : Hp) (ds : List D) : Prop where
  go : ∀ (i : Nat) (F' H : Hp), Ex F F' → Ex F' H → i < ds.length → J.go i H
  yld : ∀ (i : Nat) (d : D) (F' H : Hp) (x : V) (H' : Hp), Ex F F' → Ex F' H → ds[i]? = some d → J.yld i H x H' → ∃ F'', Grow H F' H' F'' ∧ Dt K F'' x d
  stop : ∀ (F' H : Hp), Ex F F' → Ex F' H → J.stop ds.length H
def dI (K : PySem.W.Frag) (fi : DEnv → Option (List D)) : TI := fun σ H R => ∃ H0 F0 F env ds, Rel K H0 F0 F env σ H ∧ fi env = some ds ∧ ∀ J H' F', Grow H F H' F' → ItOk K J F' ds → R J H'
section
variable {X : Cx} {R : RX} {e : Expr} {fe : DEnv → Option D} {fs : DEnv → Option (List D)} {tg : Expr} {p pos : Pos}
theorem PI.imp {wi wi' : TI} (h : PI X tg e wi) (i : ∀ σ H Q, wi' σ H Q → wi σ H Q) : PI X tg e wi' := ⟨fun p s σ H Q I q => h.run p s σ H Q I (i _ _ _ q)⟩
def itemsL : D → Option (List D)
  | .lst xs => some xs
  | .scr ns => some (ns.map .int)
  | _ => none
def itL (fe : DEnv → Option D) : DEnv → Option (List D) := fun env => match fe env with
  | some d => itemsL d
  | none => none
theorem sql_len {K : PySem.W.Frag} {H : Hp} {a : Addr} {vs : List V} (h : SqL K H a vs) : True := trivial
theorem di_list (h : PE X e (dE X.K fe)) : PI X tg e (dI X.K (itL fe)) := by
  refine PI.imp (pi_list h) ?_
  rintro σ H Q ⟨H0, F0, F, env, ds, r, hf, q⟩
  unfold itL at hf
  split at hf
  · rename_i d hd
    refine ⟨H0, F0, F, env, d, r, hd, fun v H1 F1 g1 hv => ?_⟩
    have key : ∀ (a : Addr) (vs : List V), v = .ref a → SqL X.K F1 a vs → DtA X.K F1 vs ds → ∃ a, v = .ref a ∧ (∃ xs, SqL X.K H1 a xs) ∧ Q (Itl X.K a) H1 := fun a vs e hS hr => by
      refine ⟨a, e, ⟨vs, ex_l g1.fh hS⟩, q _ _ _ g1 ⟨fun i F' H e1 e2 hi => ?_, fun i d F' H x H' e1 e2 hd hy => ?_, fun F' H e1 e2 => ?_⟩⟩
      · obtain ⟨x, hx, _⟩ := hr.get (List.getElem?_eq_getElem hi)
        exact ⟨vs, x, ex_l e2 (ex_l e1 hS), hx⟩
      · obtain ⟨rfl, hy⟩ := hy
        exact ⟨F', .refl e2, (hr.at_ i x d (hy vs (ex_l e2 (ex_l e1 hS))) hd).mono e1⟩
      · exact ⟨vs, ex_l e2 (ex_l e1 hS), by rw [hr.len]; exact Nat.le_refl _⟩
    cases d with
    | lst xs =>
      cases hf
      obtain ⟨a, vs, rfl, e, r⟩ := hv.inv_lst
      exact key a vs rfl (.inl (.inl e)) r
    | scr ns =>
      cases hf
      cases hv with
      | scr h => exact key _ _ rfl h (dt_ints ns)
    | _ => simp [itemsL] at hf
  · cases hf
def itemsT : D → Option (List D)
  | .tup xs => some xs
  | _ => none
def itT (fe : DEnv → Option D) : DEnv → Option (List D) := fun env => match fe env with
  | some d => itemsT d
  | none => none
theorem di_tup (h : PE X e (dE X.K fe)) : PI X tg e (dI X.K (itT fe)) := by
  refine PI.imp (pi_tup h) ?_
  rintro σ H Q ⟨H0, F0, F, env, ds, r, hf, q⟩
  unfold itT at hf
  split at hf
  · rename_i d hd
    refine ⟨H0, F0, F, env, d, r, hd, fun v H1 F1 g1 hv => ?_⟩
    cases d with
    | tup xs =>
      cases hf
      obtain ⟨a, vs, rfl, e, hr⟩ := hv.inv_tup
      have hS : SqT X.K F1 a vs := .inl (.inl e)
      refine ⟨a, rfl, ⟨vs, ex_t g1.fh hS⟩, q _ _ _ g1 ⟨fun i F' H e1 e2 hi => ?_, fun i d F' H x H' e1 e2 hd hy => ?_, fun F' H e1 e2 => ?_⟩⟩
      · obtain ⟨x, hx, _⟩ := hr.get (List.getElem?_eq_getElem hi)
        exact ⟨vs, x, ex_t e2 (ex_t e1 hS), hx⟩
      · obtain ⟨rfl, hy⟩ := hy
        exact ⟨F', .refl e2, (hr.at_ i x d (hy vs (ex_t e2 (ex_t e1 hS))) hd).mono e1⟩
      · exact ⟨vs, ex_t e2 (ex_t e1 hS), by rw [hr.len]; exact Nat.le_refl _⟩
    | _ => simp [itemsT] at hf
  · cases hf
/-- lo, lo + 1, .. -/
def rngD (lo : Int) (n : Nat) : List D := (List.range n).map fun (i : Nat) => D.int (lo + (i : Int))
theorem rngD_get {lo : Int} {n i : Nat} {d : D} (h : (rngD lo n)[i]? = some d) : i < n ∧ d = .int (lo + (i : Int)) := by
  unfold rngD at h
  rw [List.getElem?_map] at h
  by_cases hi : i < n
  · rw [List.getElem?_range hi] at h; cases h; exact ⟨hi, rfl⟩
  · rw [List.getElem?_eq_none (by simpa using hi)] at h; cases h
theorem itok_rng {K : PySem.W.Frag} {F : Hp} {lo : Int} {n : Nat} : ItOk K (Itr lo n) F (rngD lo n) := by
  refine ⟨fun i F' H e1 e2 hi => ?_, fun i d F' H x H' e1 e2 hd hy => ?_, fun F' H e1 e2 => ?_⟩
  · show i < n; simpa [rngD] using hi
  · obtain ⟨hi, rfl⟩ := rngD_get hd
    obtain ⟨rfl, rfl⟩ := hy
    exact ⟨F', .refl e2, .int _⟩
  · show n ≤ _; simp [rngD]
def rng1 (fs : DEnv → Option (List D)) : DEnv → Option (List D) := fun env => match fs env with
  | some [.int j] => if j ≤ 100000 ∧ -100000 ≤ j then some (rngD 0 j.toNat) else none
  | _ => none
theorem di_rng1 (hg : Gl X "range") (hm : X.mg "range" = none) (ha : PA X [e] (dA X.K fs)) (hs : starEach [e] X.env = [(false, eval e X.env)] := by rfl) : PI X tg (.Call (.Name "range" p) [e] [] pos) (dI X.K (rng1 fs)) := by
  refine PI.imp (pi_range1 hg hm ha hs) ?_
  rintro σ H Q ⟨H0, F0, F, env, ds, r, hf, q⟩
  unfold rng1 at hf
  split at hf
  · rename_i j hd
    split at hf
    · rename_i hj
      cases hf
      refine ⟨H0, F0, F, env, _, r, hd, fun v H1 F1 g1 hv => ?_⟩
      obtain ⟨x, rfl, hx⟩ := hv.inv_one
      cases hx.inv_int
      exact ⟨j, rfl, by omega, by omega, q _ _ _ g1 itok_rng⟩
    · cases hf
  · cases hf
def rng2 (fs : DEnv → Option (List D)) : DEnv → Option (List D) := fun env => match fs env with
  | some [.int i, .int j] => if (i ≤ 100000 ∧ -100000 ≤ i) ∧ j ≤ 100000 ∧ -100000 ≤ j then some (rngD i (j - i).toNat) else none
  | _ => none
theorem di_rng2 {e2 : Expr} (hg : Gl X "range") (hm : X.mg "range" = none) (ha : PA X [e, e2] (dA X.K fs)) (hs : starEach [e, e2] X.env = [(false, eval e X.env), (false, eval e2 X.env)] := by rfl) (hs2 : starEach [e2] X.env = [(false, eval e2 X.env)] := by rfl) : PI X tg (.Call (.Name "range" p) [e, e2] [] pos) (dI X.K (rng2 fs)) := by
  refine PI.imp (pi_range2 hg hm ha hs hs2) ?_
  rintro σ H Q ⟨H0, F0, F, env, ds, r, hf, q⟩
  unfold rng2 at hf
  split at hf
  · rename_i i j hd
    split at hf
    · rename_i hj
      cases hf
      refine ⟨H0, F0, F, env, _, r, hd, fun v H1 F1 g1 hv => ?_⟩
      obtain ⟨x, y, rfl, hx, hy⟩ := hv.inv_two
      cases hx.inv_int
      cases hy.inv_int
      exact ⟨i, j, rfl, by omega, q _ _ _ g1 itok_rng⟩
    · cases hf
  · cases hf
def enumD : Nat → List D → List D
  | _, [] => []
  | i, d :: ds => .tup [.int (i : Int), d] :: enumD (i + 1) ds
theorem enumD_len : ∀ (ds : List D) (k : Nat), (enumD k ds).length = ds.length
  | [], _ => rfl
  | _ :: ds, k => by simp [enumD, enumD_len ds]
theorem enumD_get : ∀ (ds : List D) (k i : Nat) (d : D), (enumD k ds)[i]? = some d → ∃ x, ds[i]? = some x ∧ d = .tup [.int ((k + i : Nat) : Int), x]
  | [], _, _, _, h => by simp [enumD] at h
  | x :: ds, k, 0, d, h => by simp [enumD] at h; exact ⟨x, rfl, by rw [← h] <;> simp⟩
  | x :: ds, k, i + 1, d, h => by
    obtain ⟨y, h1, h2⟩ := enumD_get ds (k + 1) i d (by simpa [enumD] using h)
    exact ⟨y, by simpa using h1, by rw [h2]; congr 3; omega⟩

theorem Rel.rebase {K : PySem.W.Frag} {H0 F0 F H : Hp} {env : DEnv} {σ : L2.St} (r : Rel K H0 F0 F env σ H) : Rel K H0 F F env σ H := ⟨⟨r.g.h, Ex.refl _, r.g.fh, fun _ _ => rfl⟩, r.vals, r.owns, r.len, r.excs⟩
theorem Grow.back {H0 F0 F1 H F H1 : Hp} (g : Grow H0 F0 H1 F1) (g' : Grow H0 F1 H F) : Grow H0 F0 H F := ⟨g'.h, g.f.trans g'.f, g'.fh, fun a ha => (g'.fr a ha).trans (g.fr a ha)⟩
theorem Rel.unbase {K : PySem.W.Frag} {H0 F0 F1 F H H1 : Hp} {env : DEnv} {σ : L2.St} (g : Grow H0 F0 H1 F1) (r : Rel K H0 F1 F env σ H) : Rel K H0 F0 F env σ H := ⟨g.back r.g, r.vals, r.owns, r.len, r.excs⟩
theorem Post.base {K : PySem.W.Frag} {R : RX} {H0 F0 F1 H1 : Hp} {o : Out} {D : Ends} (g : Grow H0 F0 H1 F1) (p : Post K R H0 F0 o D) : Post K R H0 F1 o D := by
  cases o with
  | nx e => exact fun F σ H r => p F σ H (r.unbase g)
  | bk e => exact fun F σ H r => p F σ H (r.unbase g)
  | ct e => exact fun F σ H r => p F σ H (r.unbase g)
  | rt d e => exact fun v F σ H r => p v F σ H (r.unbase g)
  | ex c e => exact fun F σ H r => p F σ H (r.unbase g)
/-! ### for -/
def forL (gf : D → DEnv → Option DEnv) (B : DEnv → Option Out) : List D → DEnv → Option Out
  | [], env => some (.nx env)
  | d :: ds, env => match gf d env with
    | none => none
    | some e1 => match B e1 with
      | some (.nx e) => forL gf B ds e
      | some (.ct e) => forL gf B ds e
      | some (.bk e) => some (.nx e)
      | some (.rt d e) => some (.rt d e)
      | some (.ex c e) => some (.ex c e)
      | none => none
def forS (fi : DEnv → Option (List D)) (gf : D → DEnv → Option DEnv) (B : DEnv → Option Out) : DEnv → Option Out := fun env => match fi env with
  | some ds => forL gf B ds env
  | none => none
theorem ds_for {ws : List Nat} {iter : Expr} {body : List Stmt} {fi : DEnv → Option (List D)} {gf : D → DEnv → Option DEnv} {B : DEnv → Option Out} (hp : PassesOwn (model X.prog X.w) X.A X.env X.xe) (hc : X.calm = true) (hi : PI X tg iter (dI X.K fi)) (hg : PG X tg (dG X.K ws gf)) (hb : PSs X body (dS X.K R B))
    (hs : ∀ x, foldedSetIterable iter X.env x = pure x := by intro _; rfl) : PS X (.For tg iter body [] pos) (dS X.K R (forS fi gf B)) := by
  refine PS.imp (ps_for hp hc hi hg hb hs) ?_
  rintro D σ H ⟨H0, F0, F, env, o, r, hf, po⟩
  unfold forS at hf
  split at hf
  · rename_i ds hd
    refine ⟨H0, F0, F, env, ds, r, hd, fun J H1 F1 g1 it => ?_⟩
    have gg := r.g.trans g1
    have po1 := Post.base gg po
    refine ⟨fun i m σ H => m = ds.length - i ∧ i ≤ ds.length ∧ ∃ F2 env2, Rel X.K H0 F1 F2 env2 σ H ∧ forL gf B (ds.drop i) env2 = some o, ⟨ds.length, by simp, Nat.zero_le _, F1, env, (r.grow g1).rebase, by simpa using hf⟩, ?_⟩
    rintro i m σ2 H2 ⟨rfl, hi, F2, env2, r2, hl⟩
    have ex := r2.g.f
    by_cases hlt : i < ds.length
    · refine .inr ⟨it.go i F2 H2 ex r2.fh hlt, fun σ' H' => ∃ F3 env3, Rel X.K H0 F1 F3 env3 σ' H' ∧ forL gf B (ds.drop (i + 1)) env3 = some o, fun σ' H' ⟨F3, env3, b, c⟩ => ⟨ds.length - (i + 1), by omega, rfl, hlt, F3, env3, b, c⟩, fun x H3 hy => ?_⟩
      rw [List.drop_eq_getElem_cons hlt] at hl
      obtain ⟨F3, g3, hx⟩ := it.yld i _ F2 H2 x H3 ex r2.fh (List.getElem?_eq_getElem hlt) hy
      simp only [forL] at hl
      cases hgf : gf ds[i] env2 with
      | none => rw [hgf] at hl; cases hl
      | some e1 =>
        rw [hgf] at hl
        simp only at hl
        refine ⟨H0, F1, F3, env2, _, e1, r2.grow g3, hx, hgf, fun σ4 r4 _ => ?_⟩
        cases hB : B e1 with
        | none => rw [hB] at hl; cases hl
        | some ob =>
          rw [hB] at hl
          refine ⟨H0, F1, F3, e1, ob, r4, hB, ?_⟩
          cases ob with
          | nx e => exact fun F5 σ5 H5 r5 => ⟨F5, e, r5, hl⟩
          | ct e => exact fun F5 σ5 H5 r5 => ⟨F5, e, r5, hl⟩
          | bk e => cases hl; exact fun F5 σ5 H5 r5 => po1 F5 σ5 H5 r5
          | rt d e => cases hl; exact po1
          | ex c e => cases hl; exact po1
    · have : i = ds.length := by omega
      subst this
      rw [List.drop_length] at hl
      cases hl
      exact .inl ⟨it.stop F2 H2 ex r2.fh, po1 F2 σ2 H2 r2⟩
  · cases hf
end
end DL

namespace DL
open PySem PySem.Spec PyProof.Rows L2 Evl
section
variable {X : Cx} {R : RX} {e c : Expr} {fe fa : DEnv → Option D} {fs : DEnv → Option (List D)} {ft : DEnv → Option Bool} {tg : Expr} {p pos : Pos}

/-! ### while -/
def whL (T : DEnv → Option Bool) (B : DEnv → Option Out) : Nat → DEnv → Option Out
  | 0, _ => none
  | n + 1, env => match T env with
    | some false => some (.nx env)
    | some true => (match B env with
      | some (.nx e) => whL T B n e
      | some (.ct e) => whL T B n e
      | some (.bk e) => some (.nx e)
      | some (.rt d e) => some (.rt d e)
      | some (.ex c e) => some (.ex c e)
      | none => none)
    | none => none
/-- the turns that are looked at -/
def whS (n : Nat) (T : DEnv → Option Bool) (B : DEnv → Option Out) : DEnv → Option Out := fun env => whL T B n env
theorem ds_while {body : List Stmt} {B : DEnv → Option Out} (n : Nat) (hp : PassesOwn (model X.prog X.w) X.A X.env X.xe) (hc : PT X c (dT X.K ft)) (hb : PSs X body (dS X.K R B)) : PS X (.While c body [] pos) (dS X.K R (whS n ft B)) := by
  refine PS.imp (ps_while hp hc hb) ?_
  rintro D σ H ⟨H0, F0, F, env, o, r, hf, po⟩
  unfold whS at hf
  refine ⟨fun m σ H => ∃ F2 env2, Rel X.K H0 F0 F2 env2 σ H ∧ whL ft B m env2 = some o, ⟨n, F, env, r, hf⟩, ?_⟩
  rintro m σ2 H2 ⟨F2, env2, r2, hl⟩
  cases m with
  | zero => cases hl
  | succ m =>
    simp only [whL] at hl
    split at hl
    · rename_i ht
      cases hl
      exact ⟨H0, F0, F2, env2, false, r2, ht, fun H' F' g => iteF (po F' σ2 H' (r2.grow g))⟩
    · rename_i ht
      refine ⟨H0, F0, F2, env2, true, r2, ht, fun H' F' g => iteT ⟨fun σ' H' => ∃ F3 env3, Rel X.K H0 F0 F3 env3 σ' H' ∧ whL ft B m env3 = some o, fun σ' H' h => ⟨m, Nat.lt_succ_self _, h⟩, ?_⟩⟩
      cases hB : B env2 with
      | none => rw [hB] at hl; cases hl
      | some ob =>
        rw [hB] at hl
        refine ⟨H0, F0, F', env2, ob, r2.grow g, hB, ?_⟩
        cases ob with
        | nx e => exact fun F5 σ5 H5 r5 => ⟨F5, e, r5, hl⟩
        | ct e => exact fun F5 σ5 H5 r5 => ⟨F5, e, r5, hl⟩
        | bk e => cases hl; exact fun F5 σ5 H5 r5 => po F5 σ5 H5 r5
        | rt d e => cases hl; exact po
        | ex c e => cases hl; exact po
    · cases hl

/-! ### comprehensions -/
def wipeE (env : DEnv) : List Nat → DEnv
  | [] => env
  | v :: vs => (wipeE env vs).set v .no
theorem wipeE_length (env : DEnv) : ∀ vs : List Nat, (wipeE env vs).length = env.length
  | [] => rfl
  | v :: vs => by unfold wipeE; rw [List.length_set, wipeE_length env vs]
theorem wipeE_get {env : DEnv} {j : Nat} {s : Sl} : ∀ {vs : List Nat}, (wipeE env vs)[j]? = some s → s ≠ .no → env[j]? = some s ∧ j ∉ vs
  | [], h, _ => ⟨h, by simp⟩
  | v :: vs, h, hs => by
    unfold wipeE at h
    by_cases hj : j = v
    · subst hj
      exact absurd (set_eq h).2 hs
    · obtain ⟨a, b⟩ := wipeE_get ((set_ne hj).mp h) hs
      exact ⟨a, fun z => (List.mem_cons.mp z).elim hj b⟩
theorem rel_wipe {K : PySem.W.Frag} {H0 F0 F H : Hp} {env : DEnv} {σ : L2.St} (r : Rel K H0 F0 F env σ H) (vs : List Nat) : Rel K H0 F0 F (wipeE env vs) (wipe σ vs) H :=
  r.weak (fun j s h hs => by
    obtain ⟨a, b⟩ := wipeE_get h hs
    exact ⟨a, wipe_out b⟩) (by rw [wipeE_length, wipe_length]; exact r.len)
def lcL (gf : D → DEnv → Option DEnv) (T : DEnv → Option Bool) (E : DEnv → Option D) (w : DEnv) : List D → Option (List D)
  | [] => some []
  | d :: ds => match gf d w with
    | none => none
    | some e1 => match T e1 with
      | none => none
      | some false => lcL gf T E w ds
      | some true => match E e1 with
        | none => none
        | some y => match lcL gf T E w ds with
          | none => none
          | some ys => some (y :: ys)
def lcF (fi : DEnv → Option (List D)) (gf : D → DEnv → Option DEnv) (T : DEnv → Option Bool) (E : DEnv → Option D) (ws : List Nat) : DEnv → Option OC := fun env => match fi env with
  | none => none
  | some ds => if ds.length ≤ 90000 then (match lcL gf T E (wipeE env ws) ds with
    | none => none
    | some ys => some (.l ys)) else none
def dTs (X : Cx) (ifs : List Expr) (T : DEnv → Option Bool) : Prop := PTs X ifs (dT X.K T)
theorem dts_nil : PTs X [] (dT X.K fun _ => some true) := ⟨fun pins s σ H Q I h => (pts_nil (X := X)).run pins s σ H Q I (by
  obtain ⟨H0, F0, F, env, b, r, hf, q⟩ := h
  cases hf
  exact q H F (.refl r.fh))⟩
theorem dts_one (h : PT X c (dT X.K ft)) : PTs X [c] (dT X.K ft) := pts_one h
theorem wipe_idem' (σ : L2.St) (ws : List Nat) : ∀ l : List Nat, (∀ v ∈ l, v ∈ ws) → wipe (wipe σ l) ws = wipe σ ws
  | [], _ => rfl
  | v :: l, h => by
    show wipe ((wipe σ l).set v none) ws = wipe σ ws
    rw [wipe_set _ ws v none (h v (by simp))]
    exact wipe_idem' σ ws l fun u hu => h u (by simp [hu])
theorem wipe_idem (σ : L2.St) (ws : List Nat) : wipe (wipe σ ws) ws = wipe σ ws := wipe_idem' σ ws ws fun _ h => h
/-- the reading of a comprehension, by data -/
theorem run_lc {fi : DEnv → Option (List D)} {gf : D → DEnv → Option DEnv} {T : DEnv → Option Bool} {E : DEnv → Option D} {ws : List Nat} {K : PySem.W.Frag}
    {σ : L2.St} {H : Hp} {Q : VK} (h : dN K (lcF fi gf T E ws) σ H Q) : tLc (dI K fi) (dG K ws gf) (dT K T) (dE K E) ws σ H Q := by
  obtain ⟨H0, F0, F, env, c, r, hf, q⟩ := h
  unfold lcF at hf
  split at hf
  · cases hf
  · rename_i ds hd
    split at hf
    · rename_i hz
      split at hf
      · cases hf
      · rename_i ys hl0
        cases hf
        refine ⟨H0, F0, F, env, ds, r, hd, fun J H1 F1 g1 it Dl hD => ?_⟩
        have r1 := (r.grow g1).rebase
        have hDF : F1 Dl = none := none_of_ex g1.fh hD
        -- at turn i: acc the items so far
        let Pv : Nat → Hp → Prop := fun i H' => ∃ F2 acc accd, Grow H1 F1 H' F2 ∧ F2 Dl = none ∧ H' Dl = some (.lst acc) ∧ DtA K F2 acc accd ∧ accd.length ≤ i ∧ ∃ rest, lcL gf T E (wipeE env ws) (ds.drop i) = some rest ∧ ys = accd ++ rest
        refine ⟨fun i m H' => m = ds.length - i ∧ i ≤ ds.length ∧ Pv i H', ⟨ds.length, by simp, Nat.zero_le _, F1, [], [], Grow.newM g1.fh hD, hDF, upd_same, .nil, Nat.zero_le _, ys, by simpa using hl0, rfl⟩, ?_⟩
        rintro i m H2 ⟨rfl, hi, F2, acc, accd, g2, hF2, hH2, ha, hal, rest, hl, hys⟩
        by_cases hlt : i < ds.length
        · refine .inr ⟨it.go i F2 H2 g2.f g2.fh hlt, Pv (i + 1), fun H' h' => ⟨ds.length - (i + 1), by omega, rfl, hlt, h'⟩, fun x H3 hy => ?_⟩
          rw [List.drop_eq_getElem_cons hlt] at hl
          obtain ⟨F3, g3, hx⟩ := it.yld i _ F2 H2 x H3 g2.f g2.fh (List.getElem?_eq_getElem hlt) hy
          have r3 : Rel K H0 F1 F3 (wipeE env ws) (wipe σ ws) H3 := rel_wipe ((r1.grow g2).grow g3) ws
          have hF3 : F3 Dl = none := (g3.fr Dl (by rw [hH2]; simp)).trans hF2
          simp only [lcL] at hl
          cases hgf : gf ds[i] (wipeE env ws) with
          | none => rw [hgf] at hl; cases hl
          | some e1 =>
            rw [hgf] at hl
            simp only at hl
            refine ⟨H0, F1, F3, wipeE env ws, _, e1, r3, hx, hgf, fun σ4 r4 hw => ⟨?_, ?_⟩⟩
            · rw [hw]
              exact wipe_idem σ ws
            · cases hT : T e1 with
              | none => rw [hT] at hl; cases hl
              | some b =>
                rw [hT] at hl
                refine ⟨H0, F1, F3, e1, b, r4, hT, fun H4 F4 g4 => ?_⟩
                have hF4 : F4 Dl = none := (g4.fr Dl (by rw [g3.h _ _ hH2]; simp)).trans hF3
                cases b with
                | false =>
                  refine iteF ⟨F4, acc, accd, (g2.trans g3).trans g4, hF4, g4.h _ _ (g3.h _ _ hH2), (ha.mono g3.f).mono g4.f, by omega, rest, hl, hys⟩
                | true =>
                  simp only at hl
                  cases hE : E e1 with
                  | none => rw [hE] at hl; cases hl
                  | some y =>
                    rw [hE] at hl
                    simp only at hl
                    cases hR : lcL gf T E (wipeE env ws) (List.drop (i + 1) ds) with
                    | none => rw [hR] at hl; cases hl
                    | some zs =>
                      rw [hR] at hl
                      cases hl
                      refine iteT ⟨H0, F1, F4, e1, y, r4.grow g4, hE, fun v H5 F5 g5 hv => ?_⟩
                      have hH5 := g5.h _ _ (g4.h _ _ (g3.h _ _ hH2))
                      have hF5 : F5 Dl = none := (g5.fr Dl (by rw [g4.h _ _ (g3.h _ _ hH2)]; simp)).trans hF4
                      have gg := ((g2.trans g3).trans g4).trans g5
                      refine ⟨acc, hH5, sz_lt (by rw [ha.len]; omega), F5, acc ++ [v], accd ++ [y], ⟨?_, gg.f, Ex.mut gg.fh hF5, gg.fr⟩, hF5, upd_same, (((ha.mono g3.f).mono g4.f).mono g5.f).append (.one hv), by simp; omega, zs, hR, by rw [hys]; simp⟩
                      exact Ex.mut gg.h hD
        · have : i = ds.length := by omega
          subst this
          rw [List.drop_length] at hl
          cases hl
          rw [List.append_nil] at hys
          subst hys
          refine .inl ⟨it.stop F2 H2 g2.f g2.fh, ?_⟩
          exact q Dl (.lst acc) H2 F2 (g1.trans g2) (none_of_ex g1.h hD) hH2 hF2 (.l ha)
    · cases hf

variable {elt iter : Expr} {ifs : List Expr} {scope : Scope} {own : List (Str × Nat)} {fi : DEnv → Option (List D)} {gf : D → DEnv → Option DEnv} {T : DEnv → Option Bool} {E : DEnv → Option D} {ws : List Nat}
theorem dn_lc (hc : X.calm = true) (hN : X.N.Nodup) (hi : PI X tg iter (dI X.K fi)) (ok : BlkOk X.N X.env.scope scope own) (hws : own.map (·.2) = ws)
    (hg : ∀ (s : Shared) (H : Hp) (C : Addr) (cl : List (Str × Addr)) (fp : List Addr), PG (X.blk s H scope (compEnvC scope cl C X.env) fp) tg (dG X.K ws gf)) (ht : ∀ (s : Shared) (H : Hp) (C : Addr) (cl : List (Str × Addr)) (fp : List Addr), PTs (X.blk s H scope (compEnvC scope cl C X.env) fp) ifs (dT X.K T))
    (he : ∀ (s : Shared) (H : Hp) (C : Addr) (cl : List (Str × Addr)) (fp : List Addr), PE (X.blk s H scope (compEnvC scope cl C X.env) fp) elt (dE X.K E)) (hs : ∀ x, foldedSetIterable iter X.env x = pure x := by intro _; rfl) :
    PE X (.ListComp elt [⟨tg, iter, ifs, 0⟩] scope pos) (dN X.K (lcF fi gf T E ws)) := by
  subst hws
  exact PE.imp (pe_lc hc hN hi ok hg ht he hs) fun _ _ _ h => run_lc h
/-- y = [..]: a new list of one's own (put i: as a datum) -/
theorem ds_lc {i : Nat} {y : Str} {py spos : Pos} (hc : X.calm = true) (hN : X.N.Nodup) (hy : X.N[i]? = some y) (hyl : X.env.scope.names.lookup y = some .local)
    (hsw : swapsWith (.ListComp elt [⟨tg, iter, ifs, 0⟩] scope pos) (some (.Name y py)) spos.line X.env = pure true) (hi : PI X tg iter (dI X.K fi)) (ok : BlkOk X.N X.env.scope scope own) (hws : own.map (·.2) = ws)
    (hg : ∀ (s : Shared) (H : Hp) (C : Addr) (cl : List (Str × Addr)) (fp : List Addr), PG (X.blk s H scope (compEnvC scope cl C X.env) fp) tg (dG X.K ws gf)) (ht : ∀ (s : Shared) (H : Hp) (C : Addr) (cl : List (Str × Addr)) (fp : List Addr), PTs (X.blk s H scope (compEnvC scope cl C X.env) fp) ifs (dT X.K T))
    (he : ∀ (s : Shared) (H : Hp) (C : Addr) (cl : List (Str × Addr)) (fp : List Addr), PE (X.blk s H scope (compEnvC scope cl C X.env) fp) elt (dE X.K E)) (hs : ∀ x, foldedSetIterable iter X.env x = pure x := by intro _; rfl) :
    PS X (.Assign [.Name y py] (.ListComp elt [⟨tg, iter, ifs, 0⟩] scope pos) spos) (dS X.K R (ownS i (lcF fi gf T E ws))) := by
  subst hws
  refine PS.imp (ps_setLc hc hN hy hyl hsw hi ok hg ht he hs) ?_
  rintro D σ H ⟨H0, F0, F, env, o, r, hf, po⟩
  unfold ownS at hf
  cases hd : lcF fi gf T E (own.map (·.2)) env with
  | none => rw [hd] at hf; cases hf
  | some c =>
    rw [hd] at hf
    cases hf
    refine run_lc (Q := fun x H1 => gName i x σ H1 D.nx) ⟨H0, F0, F, env, c, r, hd, fun q o H' F' g hp ho hF hv => ?_⟩
    exact po F' _ H' (r.setOwn g hp ho hF hv)

/-! ### one's own list changed -/
def getO (i : Nat) (env : DEnv) : Option (Option Addr × OC) := match env[i]? with
  | some (.own a c) => some (a, c)
  | _ => none
/-- an expression that changes own slots -/
def dM (K : PySem.W.Frag) (f : DEnv → Option (D × DEnv)) : TE := fun σ H Q => ∃ H0 F0 F env d env', Rel K H0 F0 F env σ H ∧ f env = some (d, env') ∧ ∀ v H' F', Rel K H0 F0 F' env' σ H' → Ex F F' → Dt K F' v d → Q v H'
def mE (f : DEnv → Option D) : DEnv → Option (D × DEnv) := fun env => match f env with
  | some d => some (d, env)
  | none => none
theorem dm_e (h : PE X e (dE X.K fe)) : PE X e (dM X.K (mE fe)) := PE.imp h (by
  rintro σ H Q ⟨H0, F0, F, env, d, env', r, hf, q⟩
  unfold mE at hf
  split at hf
  · rename_i d' hd
    cases hf
    exact ⟨H0, F0, F, env, d, r, hd, fun v H' F' g hv => q v H' F' (r.grow g) g.f hv⟩
  · cases hf)
variable {fm : DEnv → Option (D × DEnv)} {x : Str} {px apos : Pos}
/-- x.pop(k), x the i-th slot -/
def popM (i : Nat) (fk : DEnv → Option D) : DEnv → Option (D × DEnv) := fun env => match env[i]? with
  | some (.own a (.l ds)) => (match fk env with
    | some (.int k) => if -1000000 ≤ k ∧ k ≤ 1000000 then (match seqIndex? k ds.length with
      | some j => (match ds[j]? with
        | some d => some (d, env.set i (.own a (.l (ds.eraseIdx j))))
        | none => none)
      | none => none) else none
    | _ => none)
  | _ => none
theorem dm_pop {i : Nat} (hx : PE X (.Name x px) (tVar i)) (hk : PE X e (dE X.K fe)) (hbase : attributeBase (.Name x px) "pop" X.env (eval (.Name x px) X.env) = eval (.Name x px) X.env := by rfl)
    (hfew : ((backTo pos (starEach (e :: []) X.env)).all (fun x => !x.1) && (backToKw pos (keywordEach [] X.env)).all (fun x => x.1.isSome)
      && decide ((e :: []).length + ([] : List Keyword).length + (if ([] : List Keyword).isEmpty then 0 else 1) < 30)) = true := by rfl)
    (hline : (apos.endLine == pos.line) = true := by rfl) (hs : starEach (e :: []) X.env = (false, eval e X.env) :: starEach [] X.env := by rfl) (hplain : (backTo pos (starEach [] X.env)).any (·.1) = false := by rfl) :
    PE X (.Call (.Attribute (.Name x px) "pop" apos) [e] [] pos) (dM X.K (popM i fe)) := by
  refine PE.imp (pe_bm PySem.F.plainAttrs_list PySem.F.slot_list_pop PySem.F.type_list_pop mt_popAt hx (pa_cons hk pa_nil hs) hbase hfew hline hs hplain) ?_
  rintro σ H Q ⟨H0, F0, F, env, d, env', r, hf, q⟩
  unfold popM at hf
  split at hf
  · rename_i a ds he
    obtain ⟨l, o, h1, h2, h3, h4, h5, h6⟩ := r.own he
    cases h3 with
    | @l vs _ h3 =>
    split at hf
    · rename_i k hkk
      split at hf
      · rename_i hb
        split at hf
        · rename_i j hj
          split at hf
          · rename_i d' hd
            cases hf
            refine ⟨_, h1, .inl ⟨rfl, vs, .inl (.inl h2)⟩, H0, F0, F, env, _, r, hkk, fun v H' F' g hv => ?_⟩
            cases hv.inv_int
            obtain ⟨y, hy, hyd⟩ := h3.get hd
            refine ⟨l, vs, k, j, y, rfl, rfl, g.h _ _ h2, by omega, by omega, by rw [h3.len]; exact hj, hy, ?_⟩
            exact q y _ F' ((r.grow g).mut he h1 (.l ((h3.mono g.f).eraseIdx j))) g.f (hyd.mono g.f)
          · cases hf
        · cases hf
      · cases hf
    · cases hf
  · cases hf
/-- (e, f) with f a change -/
def tup2M (fa : DEnv → Option D) (fm : DEnv → Option (D × DEnv)) : DEnv → Option (D × DEnv) := fun env => match fa env with
  | none => none
  | some a => match fm env with
    | none => none
    | some (b, env') => some (.tup [a, b], env')
theorem dm_tup2 {e2 : Expr} {x1} (ha : PE X e (dE X.K fa)) (hb : PE X e2 (dM X.K fm)) (hs : starEach (e :: [e2]) X.env = (false, eval e X.env) :: starEach [e2] X.env := by rfl) (hs2 : starEach (e2 :: []) X.env = (false, eval e2 X.env) :: starEach [] X.env := by rfl) :
    PE X (.Tuple [e, e2] x1 pos) (dM X.K (tup2M fa fm)) := by
  refine PE.imp (pe_tup (pa_cons ha (pa_cons hb pa_nil hs2) hs)) ?_
  rintro σ H Q ⟨H0, F0, F, env, d, env', r, hf, q⟩
  unfold tup2M at hf
  cases h1 : fa env with
  | none => rw [h1] at hf; cases hf
  | some a =>
    rw [h1] at hf
    simp only at hf
    cases h2 : fm env with
    | none => rw [h2] at hf; cases hf
    | some b =>
      obtain ⟨b, e1⟩ := b
      rw [h2] at hf
      cases hf
      refine ⟨H0, F0, F, env, a, r, h1, fun v H1 F1 g1 hv => ⟨H0, F0, F1, env, b, _, r.grow g1, h2, fun u H2 F2 r2 e2 hu => ⟨sz_of (by simp), fun p hp => ?_⟩⟩⟩
      have g3 := Grow.new (o := .tup [v, u]) r2.fh hp
      exact q _ _ _ (r2.grow g3) ((g1.f.trans e2).trans g3.f) (.tup' upd_same (.two ((hv.mono e2).mono g3.f) (hu.mono g3.f)))
/-- x.append(e), x the i-th slot; e may change others -/
def appS (i : Nat) (fm : DEnv → Option (D × DEnv)) : DEnv → Option Out := fun env => match env[i]? with
  | some (.own _ (.l _)) => (match fm env with
    | none => none
    | some (d, env') => match env'[i]? with
      | some (.own a (.l ds)) => if ds.length ≤ 90000 then some (.nx (env'.set i (.own a (.l (ds ++ [d]))))) else none
      | _ => none)
  | _ => none
theorem ds_append {i : Nat} {pos2 : Pos} (hx : PE X (.Name x px) (tVar i)) (hk : PE X e (dM X.K fm)) (hsw : swapsWith (.Call (.Attribute (.Name x px) "append" apos) [e] [] pos) none pos2.line X.env = pure false := by rfl) (hbase : attributeBase (.Name x px) "append" X.env (eval (.Name x px) X.env) = eval (.Name x px) X.env := by rfl)
    (hfew : ((backTo pos (starEach (e :: []) X.env)).all (fun x => !x.1) && (backToKw pos (keywordEach [] X.env)).all (fun x => x.1.isSome)
      && decide ((e :: []).length + ([] : List Keyword).length + (if ([] : List Keyword).isEmpty then 0 else 1) < 30)) = true := by rfl)
    (hline : (apos.endLine == pos.line) = true := by rfl) (hs : starEach (e :: []) X.env = (false, eval e X.env) :: starEach [] X.env := by rfl) (hplain : (backTo pos (starEach [] X.env)).any (·.1) = false := by rfl) :
    PS X (.Expr (.Call (.Attribute (.Name x px) "append" apos) [e] [] pos) pos2) (dS X.K R (appS i fm)) := by
  refine PS.imp (ps_expr (pe_bm PySem.F.plainAttrs_list PySem.F.slot_list_append PySem.F.type_list_append mt_append hx (pa_cons hk pa_nil hs) hbase hfew hline hs hplain) hsw) ?_
  rintro D σ H ⟨H0, F0, F, env, o, r, hf, po⟩
  unfold appS at hf
  split at hf
  · rename_i a0 ds0 he0
    obtain ⟨l0, o0, k1, k2, k3, k4, k5, k6⟩ := r.own he0
    cases k3 with
    | @l vs0 _ k3 =>
    cases h1 : fm env with
    | none => rw [h1] at hf; cases hf
    | some b =>
      obtain ⟨d, env'⟩ := b
      rw [h1] at hf
      simp only at hf
      split at hf
      · rename_i a ds he
        split at hf
        · rename_i hz
          cases hf
          refine ⟨_, k1, .inl ⟨rfl, vs0, .inl (.inl k2)⟩, H0, F0, F, env, d, env', r, h1, fun v H' F' r' e' hv => ?_⟩
          obtain ⟨l, o, h1, h2, h3, h4, h5, h6⟩ := r'.own he
          rw [k1] at h1
          cases h1
          cases h3 with
          | @l vs _ h3 =>
          exact ⟨l0, vs, v, rfl, rfl, h2, sz_lt (by rw [h3.len]; omega), po F' σ _ (r'.mut he k1 (.l (h3.append (.one hv))))⟩
        · cases hf
      · cases hf
  · cases hf
/-- x.remove(e): ints -/
def intsOf : List D → Option (List Int)
  | [] => some []
  | .int i :: r => (match intsOf r with
    | some l => some (i :: l)
    | none => none)
  | _ :: _ => none
theorem intsOf_map : ∀ {ds : List D} {ns : List Int}, intsOf ds = some ns → ds = ns.map D.int
  | [], _, h => by cases h; rfl
  | .int i :: r, ns, h => by
    simp only [intsOf] at h
    split at h
    · rename_i l hl
      cases h
      rw [intsOf_map hl]; rfl
    · cases h
  | .non :: r, _, h => by simp [intsOf] at h
  | .bl _ :: r, _, h => by simp [intsOf] at h
  | .str _ :: r, _, h => by simp [intsOf] at h
  | .lst _ :: r, _, h => by simp [intsOf] at h
  | .tup _ :: r, _, h => by simp [intsOf] at h
  | .scr _ :: r, _, h => by simp [intsOf] at h
  | .dct _ :: r, _, h => by simp [intsOf] at h
  | .dcl _ :: r, _, h => by simp [intsOf] at h
theorem dt_ints_inv {K : PySem.W.Frag} {F : Hp} : ∀ {ns : List Int} {vs : List V}, DtA K F vs (ns.map D.int) → vs = ns.map V.int
  | [], vs, h => h.inv_nil
  | n :: ns, vs, h => by
    obtain ⟨x, r, rfl, hx, hr⟩ := h.inv_cons
    cases hx.inv_int
    rw [dt_ints_inv hr]; rfl
end
end DL

namespace DL
open PySem PySem.Spec PyProof.Rows L2 Evl

/-! ### the operators, by data -/
section
variable {K : PySem.W.Frag} {r r' : R2} {g g' : D → D → Option D}
theorem R2Ok.inl (h : R2Ok K r g) : R2Ok K (fun x y H Q => r x y H Q ∨ r' x y H Q) g := fun F H x y a b d Q e hx hy hg q => .inl (h F H x y a b d Q e hx hy hg q)
/-- x op y, ints -/
def iiG (f : Int → Int → Option D) : D → D → Option D
  | .int i, .int j => f i j
  | _, _ => none
theorem r2_ii {C : Int → Int → Prop} [∀ i j, Decidable (C i j)] {f : Int → Int → V} {fd : Int → Int → D} (h : ∀ i j, ∀ F, Dt K F (f i j) (fd i j)) : R2Ok K (rI C f) (iiG fun i j => if C i j then some (fd i j) else none) := by
  intro F H x y a b d Q e hx hy hg q
  cases a with
  | int i =>
    cases b with
    | int j =>
      simp only [iiG] at hg
      split at hg
      · rename_i hc
        cases hg
        exact ⟨i, j, hx.inv_int, hy.inv_int, hc, q _ H F (.refl e) (h i j F)⟩
      · cases hg
    | _ => simp [iiG] at hg
  | _ => simp [iiG] at hg
theorem r2_ii0 {f : Int → Int → V} {fd : Int → Int → D} (h : ∀ i j, ∀ F, Dt K F (f i j) (fd i j)) : R2Ok K (rI0 f) (iiG fun i j => some (fd i j)) := by
  intro F H x y a b d Q e hx hy hg q
  cases a with
  | int i =>
    cases b with
    | int j =>
      simp only [iiG] at hg
      cases hg
      exact ⟨i, j, hx.inv_int, hy.inv_int, q _ H F (.refl e) (h i j F)⟩
    | _ => simp [iiG] at hg
  | _ => simp [iiG] at hg
abbrev subG : D → D → Option D := iiG fun i j => some (.int (i - j))
theorem r2_sub : R2Ok K (rI0 fun i j => .int (i - j)) subG := r2_ii0 fun _ _ _ => .int _
abbrev divG : D → D → Option D := iiG fun i j => if 0 < j ∧ j < 1073741824 then some (.int (i / j)) else none
theorem r2_div : R2Ok K (rI CDiv fun i j => .int (i / j)) divG := r2_ii (C := fun i j => 0 < j ∧ j < 1073741824) fun _ _ _ => .int _
abbrev modG : D → D → Option D := iiG fun i j => if 0 < j then some (.int (i % j)) else none
theorem r2_mod : R2Ok K (rI (fun _ j => 0 < j) fun i j => .int (i % j)) modG := r2_ii (C := fun _ j => 0 < j) fun _ _ _ => .int _
abbrev powG : D → D → Option D := iiG fun i j => if 0 ≤ j ∧ j ≤ 1000000 ∧ i.natAbs < 2 ^ 64 then some (.int (i ^ j.toNat)) else none
theorem r2_pow : R2Ok K (rI CPow fun i j => .int (i ^ j.toNat)) powG := r2_ii (C := fun i j => 0 ≤ j ∧ j ≤ 1000000 ∧ i.natAbs < 2 ^ 64) fun _ _ _ => .int _
abbrev ltG : D → D → Option D := iiG fun i j => some (.bl (decide (i < j)))
theorem r2_lt : R2Ok K (rI0 fun i j => .bl (decide (i < j))) ltG := r2_ii0 fun _ _ _ => .bl _
abbrev leG : D → D → Option D := iiG fun i j => some (.bl (decide (i ≤ j)))
theorem r2_le : R2Ok K (rI0 fun i j => .bl (decide (i ≤ j))) leG := r2_ii0 fun _ _ _ => .bl _
abbrev gtG : D → D → Option D := iiG fun i j => some (.bl (decide (j < i)))
theorem r2_gt : R2Ok K (rI0 fun i j => .bl (decide (j < i))) gtG := r2_ii0 fun _ _ _ => .bl _
abbrev geG : D → D → Option D := iiG fun i j => some (.bl (decide (j ≤ i)))
theorem r2_ge : R2Ok K (rI0 fun i j => .bl (decide (j ≤ i))) geG := r2_ii0 fun _ _ _ => .bl _

/-- +: ints, texts, lists, tuples -/
def addG : D → D → Option D
  | .int i, .int j => some (.int (i + j))
  | .str a, .str b => if a.length + b.length ≤ 100000 then some (.str (a ++ b)) else none
  | .lst xs, .lst ys => if xs.length + ys.length ≤ 100000 then some (.lst (xs ++ ys)) else none
  | .tup (x :: xs), .tup (y :: ys) => if xs.length + ys.length ≤ 90000 then some (.tup ((x :: xs) ++ (y :: ys))) else none
  | _, _ => none
def rStr : R2 := fun x y H Q => ∃ i j, x = .str i ∧ y = .str j ∧ i.length + j.length ≤ sizeLine ∧ Q (.str (i ++ j)) H
def rAddA (K : PySem.W.Frag) : R2 := fun x y H Q => (rI0 (fun i j => .int (i + j)) x y H Q ∨ rStr x y H Q) ∨ (rCat x y H Q ∨ rCatT K x y H Q)
theorem op_addA {X : Cx} : OpR X (binaryOp .Add) (rAddA X.K) := (op_add.or op_add_str).or (op_cat.or op_catT)
theorem r2_add : R2Ok K (rAddA K) addG := by
  intro F H x y a b d Q e hx hy hg q
  cases a <;> cases b <;> simp only [addG] at hg <;> try (cases hg; done)
  · cases hg
    exact .inl (.inl ⟨_, _, hx.inv_int, hy.inv_int, q _ H F (.refl e) (.int _)⟩)
  · split at hg
    · rename_i hl
      cases hg
      exact .inl (.inr ⟨_, _, hx.inv_str, hy.inv_str, sz_of hl, q _ H F (.refl e) (.str _)⟩)
    · cases hg
  · split at hg
    · rename_i hl
      cases hg
      obtain ⟨p, vs, rfl, hp, hr⟩ := hx.inv_lst
      obtain ⟨p', vs', rfl, hp', hr'⟩ := hy.inv_lst
      refine .inr (.inl ⟨p, p', vs, vs', rfl, rfl, e _ _ hp, e _ _ hp', sz_of (by rw [hr.len, hr'.len]; exact hl), fun z hz => ?_⟩)
      have g := Grow.new (o := .lst (vs ++ vs')) e hz
      exact q _ _ _ g (.lst' upd_same ((hr.mono g.f).append (hr'.mono g.f)))
    · cases hg
  · rename_i xs ys
    cases xs with
    | nil => simp at hg
    | cons x0 xs =>
      cases ys with
      | nil => simp at hg
      | cons y0 ys =>
        simp only at hg
        split at hg
        · rename_i hl
          cases hg
          obtain ⟨p, vs, rfl, hp, hr⟩ := hx.inv_tup
          obtain ⟨p', vs', rfl, hp', hr'⟩ := hy.inv_tup
          have n1 : vs ≠ [] := by rintro rfl; have := hr.len; simp at this
          have n2 : vs' ≠ [] := by rintro rfl; have := hr'.len; simp at this
          have l1 := hr.len
          have l2 := hr'.len
          simp at l1 l2
          refine .inr (.inr ⟨p, p', vs, vs', rfl, rfl, .inl (.inl (e _ _ hp)), .inl (.inl (e _ _ hp')), n1, sz_of (by omega), ?_⟩)
          first
            | (rw [if_neg n2]
               intro z hz
               have g := Grow.new (o := .tup (vs ++ vs')) e hz
               exact q _ _ _ g (.tup' upd_same ((hr.mono g.f).append (hr'.mono g.f))))
            | (refine ⟨fun z => absurd z n2, fun _ z hz => ?_⟩
               have g := Grow.new (o := .tup (vs ++ vs')) e hz
               exact q _ _ _ g (.tup' upd_same ((hr.mono g.f).append (hr'.mono g.f))))
        · cases hg

/-- *: ints; a list times an int -/
def mulG : D → D → Option D
  | .int i, .int j => if (-(2 ^ 64) < i ∧ i < 2 ^ 64) ∨ (-(2 ^ 64) < j ∧ j < 2 ^ 64) then some (.int (i * j)) else none
  | .lst xs, .int k => if -100000 ≤ k ∧ k ≤ 100000 ∧ xs.length * k.toNat ≤ 100000 then some (.lst (List.replicate k.toNat xs).flatten) else none
  | _, _ => none
def rMulA : R2 := fun x y H Q => rI CMul (fun i j => .int (i * j)) x y H Q ∨ rRep x y H Q
theorem op_mulA {X : Cx} : OpR X (binaryOp .Mult) rMulA := op_mul.or op_rep
theorem r2_mul : R2Ok K rMulA mulG := by
  intro F H x y a b d Q e hx hy hg q
  cases a <;> cases b <;> simp only [mulG] at hg <;> try (cases hg; done)
  · split at hg
    · rename_i hl
      cases hg
      exact .inl ⟨_, _, hx.inv_int, hy.inv_int, hl, q _ H F (.refl e) (.int _)⟩
    · cases hg
  · split at hg
    · rename_i hl
      cases hg
      obtain ⟨p, vs, rfl, hp, hr⟩ := hx.inv_lst
      refine .inr ⟨p, _, vs, rfl, hy.inv_int, e _ _ hp, by omega, by omega, sz_of (by rw [hr.len]; exact hl.2.2), fun z hz => q _ _ _ (Grow.new e hz) (.lst' upd_same ((hr.mono (Grow.new e hz).f).rep _))⟩
    · cases hg

/-! ### == -/
mutual
def toPy : D → PyData
  | .non => .none
  | .bl b => .bool b
  | .int i => .int i
  | .str x => .str x
  | .lst xs => .list (toPyL xs)
  | .tup xs => .tuple (toPyL xs)
  | .scr ns => .list (ns.map .int)
  | .dct _ => .dict []
  | .dcl _ => .dict []
def toPyL : List D → List PyData
  | [] => []
  | x :: xs => toPy x :: toPyL xs
end
/-- no dict in it -/
def eqOk (d : D) : Bool := SeqAt.shaped (toPy d)
mutual
def noDct : D → Bool
  | .dct _ => false
  | .dcl _ => false
  | .lst xs => noDctL xs
  | .tup xs => noDctL xs
  | _ => true
def noDctL : List D → Bool
  | [] => true
  | x :: xs => noDct x && noDctL xs
end
theorem canLay_noDct : ∀ d : D, (toPy d).canLay0 = true → (∀ kvs, d ≠ .dct kvs) := by
  intro d h kvs z
  subst z
  simp [toPy, PyData.canLay0] at h
theorem canLayAll_get : ∀ {xs : List D}, PyData.canLayAll0 (toPyL xs) = true → ∀ d ∈ xs, (toPy d).canLay0 = true
  | [], _, d, h => by cases h
  | x :: xs, hx, d, h => by
    simp only [toPyL, PyData.canLayAll0, Bool.and_eq_true] at hx
    rcases List.mem_cons.mp h with rfl | h
    · exact hx.1
    · exact canLayAll_get hx.2 d h
theorem dpAll_of {F : Hp} : ∀ {vs : List V} {ds : List D}, vs.length = ds.length → (∀ (i : Nat) (x : V) (d : D), vs[i]? = some x → ds[i]? = some d → Dp K F x (toPy d)) → DpAll K F vs (toPyL ds)
  | [], [], _, _ => .nil
  | v :: vs, d :: ds, hl, h => .cons (h 0 v d rfl rfl) (dpAll_of (by simpa using hl) fun i x d a b => h (i + 1) x d (by simpa using a) (by simpa using b))
  | [], _ :: _, hl, _ => by simp at hl
  | _ :: _, [], hl, _ => by simp at hl
theorem dpAll_ints {F : Hp} : ∀ ns : List Int, DpAll K F (ns.map V.int) (ns.map PyData.int)
  | [] => .nil
  | n :: ns => .cons (.int n) (dpAll_ints ns)
theorem Dt.dp {F : Hp} {x : V} {d : D} (h : Dt K F x d) : (toPy d).canLay0 = true → Dp K F x (toPy d) := by
  induction h with
  | non => intro _; simp only [toPy]; exact .non
  | bl b => intro _; simp only [toPy]; exact .bl b
  | int i => intro _; simp only [toPy]; exact .int i
  | str z => intro _; simp only [toPy]; exact .str z
  | lst h1 h2 _ ih =>
    intro hc
    simp only [toPy, PyData.canLay0] at hc ⊢
    exact .lst (.inl (.inl h1)) (dpAll_of h2 fun i x d a b => ih i x d a b (canLayAll_get hc d (List.mem_of_getElem? b)))
  | tup h1 h2 _ ih =>
    intro hc
    simp only [toPy, PyData.canLay0] at hc ⊢
    exact .tup (.inl (.inl h1)) (dpAll_of h2 fun i x d a b => ih i x d a b (canLayAll_get hc d (List.mem_of_getElem? b)))
  | scr h => intro _; simp only [toPy]; exact .lst h (dpAll_ints _)
  | dct h => intro hc; simp [toPy, PyData.canLay0] at hc
  | dcl h => intro hc; simp [toPy, PyData.canLay0] at hc
theorem shaped_lay {d : D} (h : eqOk d = true) : (toPy d).canLay0 = true := by
  unfold eqOk SeqAt.shaped at h
  rw [Bool.and_eq_true] at h
  exact h.1
def eqG : D → D → Option D
  | .int i, .int j => some (.bl (decide (i = j)))
  | .str a, .str b => some (.bl (decide (a = b)))
  | .bl a, .bl b => some (.bl (decide (a = b)))
  | a, b => if eqOk a && eqOk b then some (.bl (PyData.eqv (toPy a) (toPy b))) else none
def neG (a b : D) : Option D := match eqG a b with
  | some (.bl b) => some (.bl !b)
  | _ => none
def rEqA (K : PySem.W.Frag) : R2 := fun x y H Q => rEq x y H Q ∨ rEqD K x y H Q
def rNeA (K : PySem.W.Frag) : R2 := fun x y H Q => rNe x y H Q ∨ rNeD K x y H Q
theorem op_eqA {X : Cx} {k : Nat} (hr : Room k X.A) : OpR X (compareOp .Eq) (rEqA X.K) := op_eq.or (op_eqD hr.units)
theorem op_neA {X : Cx} {k : Nat} (hr : Room k X.A) : OpR X (compareOp .NotEq) (rNeA X.K) := op_ne.or (op_neD hr.units)
theorem eqG_cases (a b : D) : (∃ i j, a = .int i ∧ b = .int j) ∨ (∃ i j, a = .str i ∧ b = .str j) ∨ (∃ i j, a = .bl i ∧ b = .bl j) ∨ eqG a b = if eqOk a && eqOk b then some (.bl (PyData.eqv (toPy a) (toPy b))) else none := by
  cases a <;> cases b <;> first
    | exact .inr (.inr (.inr rfl))
    | exact .inl ⟨_, _, rfl, rfl⟩
    | exact .inr (.inl ⟨_, _, rfl, rfl⟩)
    | exact .inr (.inr (.inl ⟨_, _, rfl, rfl⟩))
theorem r2_eq : R2Ok K (rEqA K) eqG := by
  intro F H x y a b d Q e hx hy hg q
  rcases eqG_cases a b with ⟨i, j, rfl, rfl⟩ | ⟨i, j, rfl, rfl⟩ | ⟨i, j, rfl, rfl⟩ | he
  · simp only [eqG] at hg
    cases hg
    cases hx.inv_int; cases hy.inv_int
    refine .inl ⟨rfl, ?_⟩
    have e1 : decide (V.int i = V.int j) = decide (i = j) := by rw [dec_int, Bool.beq_eq_decide_eq]
    rw [e1]
    exact q _ H F (.refl e) (.bl _)
  · simp only [eqG] at hg
    cases hg
    cases hx.inv_str; cases hy.inv_str
    refine .inl ⟨rfl, ?_⟩
    have e1 : decide (V.str i = V.str j) = decide (i = j) := by rw [dec_str, Bool.beq_eq_decide_eq]
    rw [e1]
    exact q _ H F (.refl e) (.bl _)
  · simp only [eqG] at hg
    cases hg
    cases hx.inv_bl; cases hy.inv_bl
    refine .inl ⟨rfl, ?_⟩
    have e1 : decide (V.bl i = V.bl j) = decide (i = j) := by rw [dec_bl, Bool.beq_eq_decide_eq]
    rw [e1]
    exact q _ H F (.refl e) (.bl _)
  · rw [he] at hg
    split at hg
    · rename_i hs
      rw [Bool.and_eq_true] at hs
      cases hg
      exact .inr ⟨_, _, (hx.mono e).dp (shaped_lay hs.1), (hy.mono e).dp (shaped_lay hs.2), hs.1, hs.2, q _ H F (.refl e) (.bl _)⟩
    · cases hg
theorem r2_ne : R2Ok K (rNeA K) neG := by
  intro F H x y a b d Q e hx hy hg q
  unfold neG at hg
  rcases eqG_cases a b with ⟨i, j, rfl, rfl⟩ | ⟨i, j, rfl, rfl⟩ | ⟨i, j, rfl, rfl⟩ | he
  · simp only [eqG] at hg
    cases hg
    cases hx.inv_int; cases hy.inv_int
    refine .inl ⟨rfl, ?_⟩
    have e1 : decide (V.int i = V.int j) = decide (i = j) := by rw [dec_int, Bool.beq_eq_decide_eq]
    rw [e1]
    exact q _ H F (.refl e) (.bl _)
  · simp only [eqG] at hg
    cases hg
    cases hx.inv_str; cases hy.inv_str
    refine .inl ⟨rfl, ?_⟩
    have e1 : decide (V.str i = V.str j) = decide (i = j) := by rw [dec_str, Bool.beq_eq_decide_eq]
    rw [e1]
    exact q _ H F (.refl e) (.bl _)
  · simp only [eqG] at hg
    cases hg
    cases hx.inv_bl; cases hy.inv_bl
    refine .inl ⟨rfl, ?_⟩
    have e1 : decide (V.bl i = V.bl j) = decide (i = j) := by rw [dec_bl, Bool.beq_eq_decide_eq]
    rw [e1]
    exact q _ H F (.refl e) (.bl _)
  · rw [he] at hg
    split at hg
    · rename_i b hb
      split at hb
      · rename_i hs
        rw [Bool.and_eq_true] at hs
        cases hb
        cases hg
        exact .inr ⟨_, _, (hx.mono e).dp (shaped_lay hs.1), (hy.mono e).dp (shaped_lay hs.2), hs.1, hs.2, q _ H F (.refl e) (.bl _)⟩
      · cases hb
    · cases hg

/-! ### is None -/
def isNG : D → D → Option D
  | .non, .non => some (.bl true)
  | _, .non => some (.bl false)
  | _, _ => none
def notNG : D → D → Option D
  | .non, .non => some (.bl false)
  | _, .non => some (.bl true)
  | _, _ => none
theorem dt_non {F : Hp} {x : V} {d : D} (h : Dt K F x d) : decide (x = .non) = (match d with | .non => true | _ => false) := by
  cases h <;> simp
theorem r2_isN : R2Ok K (fun x y H Q => y = .non ∧ Q (.bl (decide (x = .non))) H) isNG := by
  intro F H x y a b d Q e hx hy hg q
  have h := dt_non hx
  cases b with
  | non =>
    cases hy.inv_non
    refine ⟨rfl, ?_⟩
    rw [h]
    cases a <;> simp only [isNG] at hg <;> cases hg <;> exact q _ H F (.refl e) (.bl _)
  | _ => cases a <;> simp [isNG] at hg
theorem r2_notN : R2Ok K (fun x y H Q => y = .non ∧ Q (.bl (!decide (x = .non))) H) notNG := by
  intro F H x y a b d Q e hx hy hg q
  have h := dt_non hx
  cases b with
  | non =>
    cases hy.inv_non
    refine ⟨rfl, ?_⟩
    rw [h]
    cases a <;> simp only [notNG] at hg <;> cases hg <;> exact q _ H F (.refl e) (.bl _)
  | _ => cases a <;> simp [notNG] at hg

/-! ### in -/
def eqFl : D → D → Bool
  | .non, .non => true
  | .bl a, .bl b => a == b
  | .bl a, .int b => (if a then 1 else 0) == b
  | .int a, .bl b => a == (if b then 1 else 0)
  | .int a, .int b => a == b
  | .str a, .str b => a == b
  | _, _ => false
def inD (x : D) (xs : List D) : Bool := xs.any fun y => eqFl y x
def inG (neg : Bool) : D → D → Option D
  | x, .lst ys => if flatD x && ys.all flatD then some (.bl (if neg then !inD x ys else inD x ys)) else none
  | x, .tup ys => if flatD x && ys.all flatD then some (.bl (if neg then !inD x ys else inD x ys)) else none
  | x, .scr ns => if flatD x then some (.bl (if neg then !inD x (ns.map .int) else inD x (ns.map .int))) else none
  | _, _ => none
theorem flat_of {F : Hp} {x : V} {d : D} (h : Dt K F x d) (f : flatD d = true) : L2.flatV x = true := by
  cases h <;> first | rfl | (simp [flatD] at f)
theorem eqFl_of {F : Hp} {x y : V} {d e : D} (h : Dt K F x d) (h' : Dt K F y e) (f : flatD d = true) (f' : flatD e = true) : eqV x y = eqFl d e := by
  cases h <;> first | (simp [flatD] at f; done) | (cases h' <;> first | (simp [flatD] at f'; done) | rfl)
theorem inV_of {F : Hp} {x : V} {d : D} (h : Dt K F x d) (f : flatD d = true) : ∀ {vs : List V} {ds : List D}, DtA K F vs ds → ds.all flatD = true → vs.all L2.flatV = true ∧ inV x vs = inD d ds
  | [], [], _, _ => ⟨rfl, rfl⟩
  | v :: vs, e :: ds, hr, hf => by
    obtain ⟨h1, h2⟩ := hr.uncons
    rw [List.all_cons, Bool.and_eq_true] at hf
    obtain ⟨i1, i2⟩ := inV_of h f h2 hf.2
    refine ⟨by rw [List.all_cons, flat_of h1 hf.1, i1]; rfl, ?_⟩
    unfold inV inD at i2 ⊢
    rw [List.any_cons, List.any_cons, eqFl_of h1 h hf.1 f, i2]
  | [], _ :: _, hr, _ => by have := hr.len; simp at this
  | _ :: _, [], hr, _ => by have := hr.len; simp at this
theorem r2_in {neg : Bool} : R2Ok K (rIn K neg) (inG neg) := by
  intro F H x y a b d Q e hx hy hg q
  have key : ∀ (ds : List D) (vs : List V), flatD a = true → ds.all flatD = true → DtA K F vs ds → d = .bl (if neg then !inD a ds else inD a ds) → L2.flatV x = true ∧ vs.all L2.flatV = true ∧ Q (.bl (if neg then !inV x vs else inV x vs)) H := fun ds vs h1 h2 h3 h4 => by
    obtain ⟨k1, k2⟩ := inV_of hx h1 h3 h2
    refine ⟨flat_of hx h1, k1, ?_⟩
    rw [k2]
    subst h4
    exact q _ H F (.refl e) (.bl _)
  cases b with
  | lst ys =>
    simp only [inG] at hg
    split at hg
    · rename_i hs
      rw [Bool.and_eq_true] at hs
      obtain ⟨p, vs, rfl, hp, hr⟩ := hy.inv_lst
      exact ⟨p, vs, rfl, .inl (.inl (.inl (e _ _ hp))), key ys vs hs.1 hs.2 hr (by cases hg; rfl)⟩
    · cases hg
  | tup ys =>
    simp only [inG] at hg
    split at hg
    · rename_i hs
      rw [Bool.and_eq_true] at hs
      obtain ⟨p, vs, rfl, hp, hr⟩ := hy.inv_tup
      exact ⟨p, vs, rfl, .inr (.inl (.inl (e _ _ hp))), key ys vs hs.1 hs.2 hr (by cases hg; rfl)⟩
    · cases hg
  | scr ns =>
    simp only [inG] at hg
    split at hg
    · rename_i hs
      cases hy with
      | scr h => exact ⟨_, _, rfl, .inl (ex_l e h), key _ _ hs (by rw [List.all_eq_true]; intro z hz; simp at hz; obtain ⟨w, _, rfl⟩ := hz; rfl) (dt_ints ns) (by cases hg; rfl)⟩
    · cases hg
  | _ => cases a <;> simp [inG] at hg

/-! ### subscripts -/
def ixG : D → D → Option D
  | .lst xs, .int i => atI xs i
  | .tup xs, .int i => atI xs i
  | .scr ns, .int i => (match atI ns i with
    | some n => some (.int n)
    | none => none)
  | _, _ => none
theorem atI_get {α : Type} {xs : List α} {i : Int} {x : α} (h : atI xs i = some x) : ∃ j, ixN xs.length i = some j ∧ xs[j]? = some x := by
  unfold atI at h
  cases e : ixN xs.length i with
  | none => rw [e] at h; cases h
  | some j => rw [e] at h; exact ⟨j, rfl, h⟩
theorem atI_dt {F : Hp} {vs : List V} {ds : List D} {i : Int} {d : D} (h : DtA K F vs ds) (a : atI ds i = some d) : ∃ x, atI vs i = some x ∧ Dt K F x d := by
  obtain ⟨j, h1, h2⟩ := atI_get a
  obtain ⟨x, h3, h4⟩ := h.get h2
  refine ⟨x, ?_, h4⟩
  unfold atI
  rw [h.len, h1]
  exact h3
def rIxA (K : PySem.W.Frag) : R2 := fun x y H Q => rIxL K x y H Q ∨ rIxT K x y H Q
theorem ix_any {X : Cx} : IxR X (rIxA X.K) := ix_list.or ix_tup
theorem r2_ix : R2Ok K (rIxA K) ixG := by
  intro F H x y a b d Q e hx hy hg q
  cases a <;> cases b <;> simp only [ixG] at hg <;> try (cases hg; done)
  · obtain ⟨p, vs, rfl, hp, hr⟩ := hx.inv_lst
    obtain ⟨z, h1, h2⟩ := atI_dt hr hg
    exact .inl ⟨p, vs, _, z, rfl, hy.inv_int, .inl (.inl (e _ _ hp)), h1, q _ H F (.refl e) h2⟩
  · obtain ⟨p, vs, rfl, hp, hr⟩ := hx.inv_tup
    obtain ⟨z, h1, h2⟩ := atI_dt hr hg
    exact .inr ⟨p, vs, _, z, rfl, hy.inv_int, .inl (.inl (e _ _ hp)), h1, q _ H F (.refl e) h2⟩
  · split at hg
    · rename_i n hn
      cases hg
      cases hx with
      | scr h =>
        obtain ⟨j, h1, h2⟩ := atI_get hn
        refine .inl ⟨_, _, _, V.int n, rfl, hy.inv_int, ex_l e h, ?_, q _ H F (.refl e) (.int n)⟩
        unfold atI
        rw [List.length_map, h1]
        show (List.map V.int _)[j]? = _
        rw [List.getElem?_map, h2]; rfl
    · cases hg
end
end DL

namespace DL
open PySem PySem.Spec PyProof.Rows L2 Evl

/-! ### built-in calls -/
section
variable {K : PySem.W.Frag}
def lenG : List D → Option D
  | [.lst xs] => some (.int (xs.length : Int))
  | [.tup xs] => some (.int (xs.length : Int))
  | [.scr ns] => some (.int (ns.length : Int))
  | _ => none
theorem rc_len : RCOk K (fun xs H Q => ∃ p ys, xs = [.ref p] ∧ (SqL K H p ys ∨ SqT K H p ys) ∧ Q (.int ys.length) H) lenG := by
  intro F H xs as d Q e hx hg q
  unfold lenG at hg
  split at hg
  · cases hg
    obtain ⟨x, rfl, hd⟩ := hx.inv_one
    obtain ⟨p, vs, rfl, hp, hr⟩ := hd.inv_lst
    exact ⟨p, vs, rfl, .inl (.inl (.inl (e _ _ hp))), by rw [hr.len]; exact q _ H F (.refl e) (.int _)⟩
  · cases hg
    obtain ⟨x, rfl, hd⟩ := hx.inv_one
    obtain ⟨p, vs, rfl, hp, hr⟩ := hd.inv_tup
    exact ⟨p, vs, rfl, .inr (.inl (.inl (e _ _ hp))), by rw [hr.len]; exact q _ H F (.refl e) (.int _)⟩
  · rename_i ns
    cases hg
    obtain ⟨x, rfl, hd⟩ := hx.inv_one
    cases hd with
    | scr h => exact ⟨_, _, rfl, .inl (ex_l e h), by rw [List.length_map]; exact q _ H F (.refl e) (.int _)⟩
  · cases hg
def intG : List D → Option D
  | [.int i] => some (.int i)
  | [.bl b] => some (.int (if b then 1 else 0))
  | _ => none
theorem rc_int : RCOk K (fun xs H Q => (∃ i, xs = [.int i] ∧ Q (.int i) H) ∨ ∃ k, xs = [.bl k] ∧ Q (.int (if k then 1 else 0)) H) intG := by
  intro F H xs as d Q e hx hg q
  unfold intG at hg
  split at hg
  · cases hg
    obtain ⟨x, rfl, hd⟩ := hx.inv_one
    cases hd.inv_int
    exact .inl ⟨_, rfl, q _ H F (.refl e) (.int _)⟩
  · cases hg
    obtain ⟨x, rfl, hd⟩ := hx.inv_one
    cases hd.inv_bl
    exact .inr ⟨_, rfl, q _ H F (.refl e) (.int _)⟩
  · cases hg
def max2G : List D → Option D
  | [.int i, .int j] => some (.int (if j > i then j else i))
  | _ => none
theorem rc_max2 : RCOk K (fun xs H Q => ∃ i j, xs = [.int i, .int j] ∧ Q (.int (if j > i then j else i)) H) max2G := by
  intro F H xs as d Q e hx hg q
  unfold max2G at hg
  split at hg
  · cases hg
    obtain ⟨x, y, rfl, hd, hd'⟩ := hx.inv_two
    cases hd.inv_int; cases hd'.inv_int
    exact ⟨_, _, rfl, q _ H F (.refl e) (.int _)⟩
  · cases hg
def min2G : List D → Option D
  | [.int i, .int j] => some (.int (if j < i then j else i))
  | _ => none
theorem rc_min2 : RCOk K (fun xs H Q => ∃ i j, xs = [.int i, .int j] ∧ Q (.int (if j < i then j else i)) H) min2G := by
  intro F H xs as d Q e hx hg q
  unfold min2G at hg
  split at hg
  · cases hg
    obtain ⟨x, y, rfl, hd, hd'⟩ := hx.inv_two
    cases hd.inv_int; cases hd'.inv_int
    exact ⟨_, _, rfl, q _ H F (.refl e) (.int _)⟩
  · cases hg
/-- the greatest -/
def maxI : Int → List Int → Int
  | a, [] => a
  | a, b :: r => maxI (if b > a then b else a) r
theorem maxI_ge : ∀ (r : List Int) (a : Int), a ≤ maxI a r ∧ ∀ y ∈ r, y ≤ maxI a r
  | [], a => ⟨Int.le_refl a, fun y h => by cases h⟩
  | b :: r, a => by
    obtain ⟨h1, h2⟩ := maxI_ge r (if b > a then b else a)
    unfold maxI
    refine ⟨?_, fun y hy => ?_⟩
    · split at h1 <;> split <;> omega
    · rcases List.mem_cons.mp hy with rfl | hy
      · split at h1 <;> split <;> omega
      · exact h2 y hy
theorem maxI_mem : ∀ (r : List Int) (a : Int), maxI a r = a ∨ maxI a r ∈ r
  | [], a => .inl rfl
  | b :: r, a => by
    unfold maxI
    rcases maxI_mem r (if b > a then b else a) with h | h
    · by_cases hb : b > a
      · rw [if_pos hb] at h ⊢; exact .inr (by rw [h]; simp)
      · rw [if_neg hb] at h ⊢; exact .inl h
    · exact .inr (by simp [h])
theorem max_uniq {a : Int} {r : List Int} {m : Int} (h1 : m ∈ a :: r) (h2 : ∀ y ∈ a :: r, y ≤ m) : m = maxI a r := by
  obtain ⟨k1, k2⟩ := maxI_ge r a
  have k3 : m ≤ maxI a r := by
    rcases List.mem_cons.mp h1 with rfl | h
    · exact k1
    · exact k2 m h
  have k4 : maxI a r ≤ m := by
    rcases maxI_mem r a with h | h
    · rw [h]; exact h2 a (by simp)
    · exact h2 _ (by simp [h])
  omega
def maxG : List D → Option D
  | [.lst xs] => (match intsOf xs with
    | some (a :: r) => some (.int (maxI a r))
    | _ => none)
  | _ => none
theorem rc_max : RCOk K (rMax K) maxG := by
  intro F H xs as d Q e hx hg q
  unfold maxG at hg
  split at hg
  · split at hg
    · rename_i ds a r hn
      cases hg
      obtain ⟨x, rfl, hd⟩ := hx.inv_one
      obtain ⟨p, vs, rfl, hp, hr⟩ := hd.inv_lst
      rw [intsOf_map hn] at hr
      have hv := dt_ints_inv hr
      subst hv
      refine ⟨p, a :: r, rfl, .inl (.inl (e _ _ hp)), by simp, fun m h1 h2 => ?_⟩
      rw [max_uniq h1 h2]
      exact q _ H F (.refl e) (.int _)
    · cases hg
  · cases hg
/-! isinstance -/
inductive Ty where
  | int | bool | str | list | tuple | dict
def tyN : Ty → String
  | .int => "int" | .bool => "bool" | .str => "str" | .list => "list" | .tuple => "tuple" | .dict => "dict"
def isTy : Ty → D → Bool
  | .int, .int _ => true
  | .int, .bl _ => true
  | .bool, .bl _ => true
  | .str, .str _ => true
  | .list, .lst _ => true
  | .list, .scr _ => true
  | .tuple, .tup _ => true
  | .dict, .dct _ => true
  | .dict, .dcl _ => true
  | _, _ => false
def kindD : D → String
  | .non => "NoneType" | .bl _ => "bool" | .int _ => "int" | .str _ => "str" | .lst _ => "list" | .tup _ => "tuple" | .scr _ => "list" | .dct _ => "dict" | .dcl _ => "dict"
theorem ty_of {F : Hp} {x : V} {d : D} (h : Dt K F x d) : TyX K F x (.type (kindD d)) := by
  cases h with
  | non => exact .base .non
  | bl b => exact .base (.bl b)
  | int i => exact .base (.int i)
  | str z => exact .base (.str z)
  | lst h _ _ => exact .base (.lst h)
  | tup h _ _ => exact .base (.tup h)
  | scr h =>
    rcases h with (h | ⟨o, h⟩) | ⟨o, its, n, h1, h2, _⟩
    · exact .base (.lst h)
    · exact .base (.frz h)
    · exact .kList h1 h2
  | dct h =>
    rcases h with h | ⟨o, h⟩
    · exact .base (.dK h)
    · exact .fDict h
  | dcl h => exact .fDict h
theorem kit_all (t : Ty) (d : D) : kitB (kindD d) (tyN t) = some (isTy t d) := by
  cases t <;> cases d <;> (show kitB _ _ = some _; first | (simp only [kindD, tyN, isTy]; decide +kernel))
end
section
variable {X : Cx} {e : Expr} {fe : DEnv → Option D} {p p2 pos : Pos}
def isiF (t : Ty) (fe : DEnv → Option D) : DEnv → Option D := fun env => match fe env with
  | some d => some (.bl (isTy t d))
  | none => none
theorem de_isi (t : Ty) {T : Str} (hT : bootBuiltins T = some (.type (tyN t))) (hg : Gl X "isinstance") (hm : X.mg "isinstance" = none) (hg2 : Gl X T) (hm2 : X.mg T = none) (he : PE X e (dE X.K fe)) (hn : T ≠ "__name__" := by decide) (hd : (T == ("__debug__" : Str)) = false := by decide)
    (hs : starEach (e :: [.Name T p2]) X.env = (false, eval e X.env) :: starEach [.Name T p2] X.env := by rfl) (hs2 : starEach (.Name T p2 :: []) X.env = (false, eval (.Name T p2) X.env) :: starEach [] X.env := by rfl)
    (hpl : (backTo pos (starEach [.Name T p2] X.env)).any (·.1) = false := by rfl) :
    PE X (.Call (.Name "isinstance" p) [e, .Name T p2] [] pos) (dE X.K (isiF t fe)) := by
  have hb : PE X (.Name T p2) (tC (.ty (tyN t))) := pe_bltn hg2 hm2 hT rfl hn hd
  refine PE.imp (pe_callB call_isi hg hm (by decide +kernel) (pa_cons he (pa_cons hb pa_nil hs2) hs) (by decide) (by decide) hs hpl) ?_
  rintro σ H Q ⟨H0, F0, F, env, d, rl, hf, q⟩
  unfold isiF at hf
  split at hf
  · rename_i d' hd'
    cases hf
    refine ⟨H0, F0, F, env, d', rl, hd', fun v H1 F1 g1 hv => ?_⟩
    exact ⟨v, .ty (tyN t), .type (kindD d'), .type (tyN t), isTy t d', rfl, .ty _, ty_of (hv.mono g1.fh), kit_ty (kit_all t d'), q _ H1 F1 g1 (.bl _)⟩
  · cases hf

/-! max(xs, default=e) -/
def maxDF (fa fd : DEnv → Option D) : DEnv → Option D := fun env => match fa env with
  | some (.lst ds) => (match fd env with
    | some (.int z) => (match intsOf ds with
      | some [] => some (.int z)
      | some (a :: r) => some (.int (maxI a r))
      | none => none)
    | _ => none)
  | _ => none
end

/-! ### errors -/
/-- what a wish W about errors asks of the own class of that name -/
def RW (mg : Str → Option Value) (W : WX) : RX := fun c σ H => ∃ C, mg c = some (.ref C) ∧ W (.ref C) none σ H
theorem passF {X : Cx} : Passes (L2.CX X.prog X.w) X (fun _ _ _ => False) := fun _ _ _ _ _ _ _ h => by
  obtain ⟨_, _, _, _, _, _, _, _, _, _, _, _, z⟩ := h
  exact False.elim z
/-- an expression that may raise -/
def dX (K : PySem.W.Frag) (R : RX) (f : DEnv → Option Res) : TE := fun σ H Q => ∃ H0 F0 F env r, Rel K H0 F0 F env σ H ∧ f env = some r ∧ match r with
  | .ok d => ∀ v H' F', Grow H F H' F' → Dt K F' v d → Q v H'
  | .ex c => ∀ H' F', Grow H F H' F' → R c σ H'
def opX (gc : List D → Option Res) (fa : DEnv → Option (List D)) : DEnv → Option Res := fun env => match fa env with
  | none => none
  | some a => gc a
section
variable {X : Cx} {e : Expr} {es : List Expr} {fs : DEnv → Option (List D)} {pos p : Pos} {x : Str} {k n : Nat} {f : Addr} {fd : FuncData} {ps : List Str} {sf : List D → Option Res} {W : WX} {fx : DEnv → Option Res}
theorem dx_call (G : FnOk X.prog X.w X.K X.mg X.base (L2.CX X.prog X.w) k f fd ps (spF X.K X.mg n sf)) (hr : Room k X.A) (hg : Gl X x) (hm : X.mg x = some (.ref f)) (hk : PySem.W.keepIn X.K (.ref f) = true) (hb : Binds X.K fd ps []) (tk : Takes X W)
    (ha : PA X (e :: es) (dA X.K fs)) (hl : ∀ env ds, fs env = some ds → ds.length = n) (hdb : (x == ("__debug__" : Str)) = false := by decide) (he : starEach (e :: es) X.env = (false, eval e X.env) :: starEach es X.env := by rfl) (hpl : (backTo pos (starEach es X.env)).any (·.1) = false := by rfl) :
    PE X (.Call (.Name x p) (e :: es) [] pos) (dX X.K (RW X.mg W) (opX sf fs)) := by
  refine PE.imp (pe_callS G hr hg hm hk hb (fun σ => passAt tk σ) ha hdb he hpl) ?_
  rintro σ H Q ⟨H0, F0, F, env, d, rl, hf, q⟩
  unfold opX at hf
  cases hb : fs env with
  | none => rw [hb] at hf; cases hf
  | some ds =>
    rw [hb] at hf
    refine ⟨H0, F0, F, env, ds, rl, hb, fun vs H1 F1 g1 hv => ?_⟩
    show spF X.K X.mg n sf vs H1 Q (WE W σ)
    refine ⟨hv.len.trans (hl env ds hb), F1, ds, d, g1.fh, hv, hf, ?_⟩
    cases d with
    | ok d => exact fun v H2 F2 g2 hv => q v H2 F2 (g1.trans g2) hv
    | ex c =>
      obtain ⟨C, hC, _⟩ := q H1 F1 g1
      refine ⟨C, hC, fun H2 F2 g2 => ?_⟩
      obtain ⟨C', hC', hE⟩ := q H2 F2 (g1.trans g2)
      rw [hC] at hC'
      cases hC'
      exact hE
variable {R : RX}
def xE (f : DEnv → Option D) : DEnv → Option Res := fun env => match f env with
  | some d => some (.ok d)
  | none => none
def drpX (fx : DEnv → Option Res) : DEnv → Option Out := fun env => match fx env with
  | some (.ok _) => some (.nx env)
  | some (.ex c) => some (.ex c env)
  | none => none
theorem ds_exprX (he : PE X e (dX X.K R fx)) (hs : swapsWith e none pos.line X.env = pure false := by rfl) : PS X (.Expr e pos) (dS X.K R (drpX fx)) := by
  refine PS.imp (ps_expr he hs) ?_
  rintro D σ H ⟨H0, F0, F, env, o, r, hf, p⟩
  unfold drpX at hf
  split at hf
  · rename_i d hd
    cases hf
    exact ⟨H0, F0, F, env, _, r, hd, fun v H' F' g hv => p F' σ H' (r.grow g)⟩
  · rename_i c hc
    cases hf
    exact ⟨H0, F0, F, env, _, r, hc, fun H' F' g => p F' σ H' (r.grow g)⟩
  · cases hf
def putX (i : Nat) (fx : DEnv → Option Res) : DEnv → Option Out := fun env => match fx env with
  | some (.ok d) => some (.nx (env.set i (.val d)))
  | some (.ex c) => some (.ex c env)
  | none => none
theorem ds_setX {i : Nat} {pos' : Pos} (hN : X.N.Nodup) (hi : X.N[i]? = some x) (hx : Loc X.env.scope x) (he : PE X e (dX X.K R fx)) (hs : swapsWith e (some (.Name x pos')) pos.line X.env = pure false := by rfl) (hf : X.fn x = true ∨ X.env.scope.names.lookup x = some .local := by first | exact .inl rfl | exact .inr rfl | assumption) :
    PS X (.Assign [.Name x pos'] e pos) (dS X.K R (putX i fx)) := by
  refine PS.imp (ps_set hN hi hx he hs hf) ?_
  rintro D σ H ⟨H0, F0, F, env, o, r, hf, p⟩
  unfold putX at hf
  split at hf
  · rename_i d hd
    cases hf
    exact ⟨H0, F0, F, env, _, r, hd, fun v H' F' g hv => p F' _ H' ((r.grow g).setVal hv)⟩
  · rename_i c hc
    cases hf
    exact ⟨H0, F0, F, env, _, r, hc, fun H' F' g => p F' σ H' (r.grow g)⟩
  · cases hf
def retX (fx : DEnv → Option Res) : DEnv → Option Out := fun env => match fx env with
  | some (.ok d) => some (.rt d env)
  | some (.ex c) => some (.ex c env)
  | none => none
theorem ds_retX (he : PE X e (dX X.K R fx)) : PS X (.Return (some e) pos) (dS X.K R (retX fx)) := by
  refine PS.imp (ps_ret he) ?_
  rintro D σ H ⟨H0, F0, F, env, o, r, hf, p⟩
  unfold retX at hf
  split at hf
  · rename_i d hd
    cases hf
    exact ⟨H0, F0, F, env, _, r, hd, fun v H' F' g hv => p v F' σ H' (r.grow g) hv⟩
  · rename_i c hc
    cases hf
    exact ⟨H0, F0, F, env, _, r, hc, fun H' F' g => p F' σ H' (r.grow g)⟩
  · cases hf
/-- raise X(..): what is made -/
def mkF (c : Str) (f : DEnv → Option (List D)) : DEnv → Option Out := fun env => match f env with
  | some _ => some (.ex c env)
  | none => none
theorem ds_raise {c : Str} {C : Addr} {t : L2.St → Hp → XK → Prop} (hc : X.calm = true) (tk : Takes X W) (he : PMk X e t) (gC : X.mg c = some (.ref C))
    (ht : ∀ σ H Q, dA X.K fs σ H (fun _ H' => Q (.ref C) none H') → t σ H Q) : PS X (.Raise (some e) none pos) (dS X.K (RW X.mg W) (mkF c fs)) := by
  refine PS.imp (ps_raise hc tk he) ?_
  rintro D σ H ⟨H0, F0, F, env, o, r, hf, p⟩
  unfold mkF at hf
  split at hf
  · rename_i ds hd
    cases hf
    refine ht σ H _ ⟨H0, F0, F, env, ds, r, hd, fun vs H' F' g hv => ?_⟩
    obtain ⟨C', hC', hE⟩ := p F' σ H' (r.grow g)
    rw [gC] at hC'
    cases hC'
    exact hE
  · cases hf
end

/-! ### a def -/
def startE (ds : List D) (n : Nat) : DEnv := ds.map .val ++ List.replicate (n - ds.length) .no
def resO : Option Out → Option Res
  | some (.nx _) => some (.ok .non)
  | some (.rt d _) => some (.ok d)
  | some (.ex c _) => some (.ex c)
  | _ => none
theorem rel_start {K : PySem.W.Frag} {H F : Hp} {N : List Str} {vs : List V} {ds : List D} (e : Ex F H) (h : DtA K F vs ds) : Rel K H F F (startE ds N.length) (L2.start N vs) H := by
  have hl := h.len
  have get : ∀ (i : Nat) (s : Sl), (startE ds N.length)[i]? = some s → s ≠ .no → ∃ d, ds[i]? = some d ∧ s = .val d := fun i s hs hn => by
    unfold startE at hs
    by_cases hi : i < ds.length
    · rw [List.getElem?_append_left (by simpa using hi), List.getElem?_map, List.getElem?_eq_getElem hi] at hs
      cases hs
      exact ⟨_, List.getElem?_eq_getElem hi, rfl⟩
    · rw [List.getElem?_append_right (by simpa using hi), List.getElem?_replicate] at hs
      split at hs
      · cases hs; exact absurd rfl hn
      · cases hs
  refine ⟨Grow.refl e, fun i d hd => ?_, ⟨fun _ => 0, fun i a c hc => ?_, fun i j a b c d h1 h2 _ => ?_⟩, by simp [startE, L2.start, hl], fun i a ha => ?_⟩
  · obtain ⟨d', h1, h2⟩ := get i _ hd (by intro z; cases z)
    cases h2
    obtain ⟨x, hx, hxd⟩ := h.get h1
    refine ⟨x, ?_, hxd⟩
    unfold L2.start
    have hi := (List.getElem?_eq_some_iff.mp hx).1
    rw [List.getElem?_append_left (by simpa using hi), List.getElem?_map, hx]
    rfl
  · obtain ⟨_, _, z⟩ := get i _ hc (by intro z; cases z)
    cases z
  · obtain ⟨_, _, z⟩ := get i _ h1 (by intro z; cases z)
    cases z
  · obtain ⟨_, _, z⟩ := get i _ ha (by intro z; cases z)
    cases z
section
variable {P : Program} {w : World} {K : PySem.W.Frag} {mg : Str → Option Value} {base : Heap}
/-- THE RULE for a def, by data -/
theorem fn_ok {x qual : Str} {st : Stmt} {f : Addr} {fd : FuncData} {N ps : List Str} {k n : Nat} {sf : List D → Option Res} {B : DEnv → Option Out} (F : Fun K x qual st f fd) (S : FnScope N ps (defScope st)) (hn : ps.length = n)
    (hbody : ∀ (cdv : Value) (A : Around) (outer : List Env) (s : Shared) (H : Hp) (E : XK), Room k (A.deeper (envOfC qual (defScope st) s.heap.objs.size f cdv)) →
      PSs (cxOf (L2.CX P w) P w K mg base N qual (defScope st) f cdv A outer s H E) (defBody st) (dS K (RW mg fun cls d _ H => E cls d H) B))
    (hB : ∀ ds r, ds.length = n → sf ds = some r → resO (B (startE ds N.length)) = some r) : FnOk P w K mg base (L2.CX P w) (k + 1) f fd ps (spF K mg n sf) := by
  refine F.okX S (fun vs H Q E h => by rw [hn]; exact h.1) (fun cdv A outer s H vs Q E hr h => ⟨dS K (RW mg fun cls d _ H => E cls d H) B, hbody cdv A outer s H E hr, ?_⟩)
  obtain ⟨hvl, Fz, ds, r, e, hv, hs, q⟩ := h
  have hb := hB ds r (hv.len.symm.trans hvl) hs
  cases ho : B (startE ds N.length) with
  | none => rw [ho] at hb; cases hb
  | some o =>
    rw [ho] at hb
    refine ⟨H, Fz, Fz, _, o, rel_start e hv, ho, ?_⟩
    cases o with
    | nx env =>
      simp only [resO] at hb
      cases hb
      exact fun F' σ H' r' => q _ H' F' r'.g .non
    | rt d env =>
      simp only [resO] at hb
      cases hb
      exact fun v F' σ H' r' hd => q v H' F' r'.g hd
    | ex c env =>
      simp only [resO] at hb
      cases hb
      obtain ⟨C, hC, q⟩ := q
      exact fun F' σ' H' r' => ⟨C, hC, q H' F' r'.g⟩
    | bk env => simp [resO] at hb
    | ct env => simp [resO] at hb
end
end DL

namespace DL
open PySem PySem.Spec PyProof.Rows L2 Evl

/-- a def of the text that may be called by its name -/
def Cl (P : Program) (w : World) (K : PySem.W.Frag) (mg : Str → Option Value) (base : Heap) (x : Str) (k n : Nat) (sf : List D → Option Res) : Prop :=
  ∃ (f : Addr) (fd : FuncData) (ps : List Str), FnOk P w K mg base (L2.CX P w) k f fd ps (spF K mg n sf) ∧ mg x = some (.ref f) ∧ PySem.W.keepIn K (.ref f) = true ∧ L2.Binds K fd ps []
/-- how many arguments -/
def AL (fs : DEnv → Option (List D)) (n : Nat) : Prop := ∀ env ds, fs env = some ds → ds.length = n
theorem al_nil : AL (fun _ => some []) 0 := fun _ ds h => by cases h; rfl
theorem al_cons {fa : DEnv → Option D} {fs : DEnv → Option (List D)} {n : Nat} (h : AL fs n) : AL (consA fa fs) (n + 1) := fun env ds e => by
  unfold consA at e
  split at e
  · cases e
  · split at e
    · cases e
    · rename_i h2
      cases e
      simp [h env _ h2]
section
variable {X : Cx} {e : Expr} {es : List Expr} {fs : DEnv → Option (List D)} {pos p : Pos} {x : Str} {k j n : Nat} {sf : List D → Option Res} {E : XK} {R : RX}
theorem de_callC (c : Cl X.prog X.w X.K X.mg X.base x k n sf) (hr : Room j X.A) (hk : k ≤ j) (hg : Gl X x) (ha : PA X (e :: es) (dA X.K fs)) (hl : AL fs n) (hdb : (x == ("__debug__" : Str)) = false := by decide)
    (he : starEach (e :: es) X.env = (false, eval e X.env) :: starEach es X.env := by rfl) (hpl : (backTo pos (starEach es X.env)).any (·.1) = false := by rfl) : PE X (.Call (.Name x p) (e :: es) [] pos) (dE X.K (opC (okD sf) fs)) := by
  obtain ⟨f, fd, ps, G, hm, hkp, hb⟩ := c
  exact de_call G (hr.mono hk) hg hm hkp hb passF ha hl hdb he hpl
theorem dx_callC {W : WX} (c : Cl X.prog X.w X.K X.mg X.base x k n sf) (hr : Room j X.A) (hk : k ≤ j) (hg : Gl X x) (tk : Takes X W) (ha : PA X (e :: es) (dA X.K fs)) (hl : AL fs n) (hdb : (x == ("__debug__" : Str)) = false := by decide)
    (he : starEach (e :: es) X.env = (false, eval e X.env) :: starEach es X.env := by rfl) (hpl : (backTo pos (starEach es X.env)).any (·.1) = false := by rfl) : PE X (.Call (.Name x p) (e :: es) [] pos) (dX X.K (RW X.mg W) (opX sf fs)) := by
  obtain ⟨f, fd, ps, G, hm, hkp, hb⟩ := c
  exact dx_call G (hr.mono hk) hg hm hkp hb tk ha hl hdb he hpl

def negG : D → Option D
  | .int i => some (.int (-i))
  | _ => none
theorem de_neg {fa : DEnv → Option D} (ha : PE X e (dE X.K fa)) : PE X (.UnaryOp .USub e pos) (dE X.K (op1 negG fa)) := by
  refine PE.imp (pe_un un_neg ha) ?_
  rintro σ H Q ⟨H0, F0, F, env, d, rl, hf, q⟩
  unfold op1 at hf
  cases ha : fa env with
  | none => rw [ha] at hf; cases hf
  | some da =>
    rw [ha] at hf
    cases da <;> simp [negG] at hf
    subst hf
    exact ⟨H0, F0, F, env, _, rl, ha, fun v H1 F1 g1 hv => ⟨_, hv.inv_int, q _ H1 F1 g1 (.int _)⟩⟩

theorem maxOf_int (y : Int) : ∀ ys : List Int, PySem.W.maxOf y ys = maxI y ys := fun ys => by
  unfold PySem.W.maxOf
  induction ys generalizing y with
  | nil => rfl
  | cons z zs ih =>
    rw [List.foldl_cons, ih]
    show maxI (if decide (y < z) = true then z else y) zs = maxI (if z > y then z else y) zs
    congr 1
    by_cases h : y < z <;> simp [h]
def maxZ (z : Int) : List Int → Int
  | [] => z
  | b :: r => maxI b r
/-! max(xs, default=e) -/
theorem cr_maxD {pins : List (Addr × Obj)} {s : Shared} {σ : L2.St} {H : Hp} {Q : VK} (hc : X.calm = true) (hu : X.A.units + 64 < cLine) (I : Inv X pins σ H s) {a : Addr} {ns : List Int} {z : Int} {t : Tok} (h : SqL X.K H a (ns.map V.int)) (q : Q (.int (maxZ z ns)) H) :
    wpAny (model X.prog X.w) X.A (call (.builtin "max") [.ref a] [(Str.ofString "default", .int z t)]) (EP X pins σ Q) X.xe s := by
  obtain ⟨its, rv, hl, _⟩ := I.list h
  have hi := rv.ints
  have hh : PySem.W.HoldAll s.heap its.toArray.toList ns := by
    simpa using PySem.W.HoldAll.of_ints hi
  refine PySem.W.max_list_datum_default (α := Int) (I.ok.hd hc) hl.isList hh (by show X.A.units + 1 + 0 < cLine; omega) (fun e h' tk hk => ?_) fun y ys i v h' tk e hi hv hk => ?_
  · subst e
    exact ⟨.int z, H, I.kept hk, ⟨t, rfl⟩, q⟩
  · subst e
    refine ⟨.int (maxI y ys), H, I.kept hk, ?_, q⟩
    have e2 := maxOf_int y ys
    rw [e2] at hv
    obtain ⟨as, hr⟩ := hv
    cases hr
    exact ⟨_, rfl⟩
def rMaxD (K : PySem.W.Frag) : List V → List V → Hp → VK → Prop := fun xs zs H Q => ∃ a ns z, xs = [.ref a] ∧ zs = [.int z] ∧ SqL K H a (ns.map V.int) ∧ Q (.int (maxZ z ns)) H
theorem call_maxD (hc : X.calm = true) (hu : X.A.units + 64 < cLine) : CallRK X (.builtin "max") [Str.ofString "default"] (rMaxD X.K) := by
  intro pins s σ H xs zs us ws Q I rx rz h
  obtain ⟨a, ns, z, rfl, rfl, hs, q⟩ := h
  obtain ⟨u, rfl, ru⟩ := rx.one
  cases ru
  obtain ⟨v, rfl, t, rfl⟩ := rz.one
  exact cr_maxD hc hu I hs q
theorem de_maxD {fa fd : DEnv → Option D} {e2 : Expr} {kpos : Pos} (hc : X.calm = true) {j : Nat} (hr : Room j X.A) (hg : Gl X "max") (hm : X.mg "max" = none) (ha : PE X e (dE X.K fa)) (hd : PE X e2 (dE X.K fd))
    (hst : starEach [e] X.env = (false, eval e X.env) :: starEach [] X.env := by rfl)
    (he : backTo pos (starEach (e :: []) X.env) = (false, eval e X.env) :: backTo pos (starEach [] X.env) := by rfl) (hpl : (backTo pos (starEach (e :: []) X.env)).any (·.1) = false := by rfl)
    (hall : (backToKw pos (keywordEach [⟨some (Str.ofString "default"), e2, kpos⟩] X.env)).all (·.1.isSome) = true := by rfl) (hnone : (backToKw pos (keywordEach [⟨some (Str.ofString "default"), e2, kpos⟩] X.env)).any (·.1.isNone) = false := by rfl) (hks : (backToKw pos (keywordEach [⟨some (Str.ofString "default"), e2, kpos⟩] X.env)).filterMap (·.1) = [Str.ofString "default"] := by rfl) :
    PE X (.Call (.Name "max" p) [e] [⟨some (Str.ofString "default"), e2, kpos⟩] pos) (dE X.K (maxDF fa fd)) := by
  refine PE.imp (pe_callBK (call_maxD hc hr.units) hg hm (by decide +kernel) (pa_cons ha pa_nil hst) (pk_cons hd pk_nil) (by decide) (by decide) he hpl hall hnone hks) ?_
  rintro σ H Q ⟨H0, F0, F, env, d, rl, hf, q⟩
  unfold maxDF at hf
  split at hf
  · rename_i ds h1
    split at hf
    · rename_i z h2
      have key : ∀ ns, ds = ns.map D.int → d = .int (maxZ z ns) → tCKw (rMaxD X.K) (tCons (dE X.K fa) tNil) (tCons (dE X.K fd) tNil) σ H Q := fun ns hns hdn => by
        subst hns
        subst hdn
        refine ⟨H0, F0, F, env, _, rl, h1, fun v H1 F1 g1 hv => ⟨H0, F0, F1, env, _, rl.grow g1, h2, fun u H2 F2 g2 hu => ?_⟩⟩
        obtain ⟨a, vs, rfl, e, r⟩ := (hv.mono g2.f).inv_lst
        have := dt_ints_inv r
        subst this
        cases hu.inv_int
        exact ⟨a, ns, z, rfl, rfl, .inl (.inl (g2.fh _ _ e)), q _ H2 F2 (g1.trans g2) (.int _)⟩
      split at hf
      · rename_i hn
        cases hf
        exact key [] (intsOf_map hn) rfl
      · rename_i a r hn
        cases hf
        exact key (a :: r) (intsOf_map hn) rfl
      · cases hf
    · cases hf
  · cases hf

/-! sorted: ints -/
def ins (x : Int) : List Int → List Int
  | [] => [x]
  | y :: r => if x ≤ y then x :: y :: r else y :: ins x r
def srt : List Int → List Int
  | [] => []
  | x :: r => ins x (srt r)
theorem ins_perm (x : Int) : ∀ l, (ins x l).Perm (x :: l)
  | [] => .refl _
  | y :: r => by
    unfold ins
    split
    · exact .refl _
    · exact ((ins_perm x r).cons y).trans (.swap x y r)
theorem srt_perm : ∀ l, (srt l).Perm l
  | [] => .refl _
  | x :: r => (ins_perm x (srt r)).trans ((srt_perm r).cons x)
theorem ins_sorted (x : Int) : ∀ l : List Int, l.Pairwise (· ≤ ·) → (ins x l).Pairwise (· ≤ ·)
  | [], _ => by simp [ins]
  | y :: r, h => by
    have h' := List.pairwise_cons.mp h
    unfold ins
    split
    · rename_i hxy
      refine List.pairwise_cons.mpr ⟨fun z hz => ?_, h⟩
      rcases List.mem_cons.mp hz with rfl | hz
      · exact hxy
      · exact Int.le_trans hxy (h'.1 z hz)
    · rename_i hxy
      refine List.pairwise_cons.mpr ⟨fun z hz => ?_, ins_sorted x r h'.2⟩
      rcases List.mem_cons.mp ((ins_perm x r).mem_iff.mp hz) with rfl | hz
      · omega
      · exact h'.1 z hz
theorem srt_sorted : ∀ l : List Int, (srt l).Pairwise (· ≤ ·)
  | [] => .nil
  | x :: r => ins_sorted x _ (srt_sorted r)
theorem sorted_uniq : ∀ {a b : List Int}, a.Perm b → a.Pairwise (· ≤ ·) → b.Pairwise (· ≤ ·) → a = b
  | [], b, h, _, _ => (List.nil_perm.mp h).symm
  | x :: a, [], h, _, _ => absurd h.length_eq (by simp)
  | x :: a, y :: b, h, ha, hb => by
    have ha' := List.pairwise_cons.mp ha
    have hb' := List.pairwise_cons.mp hb
    have h1 : x = y := by
      have m1 : x ∈ y :: b := h.mem_iff.mp (by simp)
      have m2 : y ∈ x :: a := h.mem_iff.mpr (by simp)
      have l1 : y ≤ x := by
        rcases List.mem_cons.mp m1 with e | m
        · omega
        · exact hb'.1 x m
      have l2 : x ≤ y := by
        rcases List.mem_cons.mp m2 with e | m
        · omega
        · exact ha'.1 y m
      omega
    subst h1
    rw [sorted_uniq (List.Perm.cons_inv h) ha'.2 hb'.2]
def srtN (fa : DEnv → Option D) : DEnv → Option OC := fun env => match fa env with
  | some (.lst ds) => (match intsOf ds with
    | some ns => if ns.length < 64 then some (.l ((srt ns).map .int)) else none
    | none => none)
  | _ => none
theorem dn_sorted {fa : DEnv → Option D} (hg : Gl X "sorted") (hm : X.mg "sorted" = none) (ha : PE X e (dE X.K fa)) (hs : starEach [e] X.env = (false, eval e X.env) :: starEach [] X.env := by rfl)
    (hpl : (backTo pos (starEach [] X.env)).any (·.1) = false := by rfl) : PE X (.Call (.Name "sorted" p) [e] [] pos) (dN X.K (srtN fa)) := by
  refine PE.imp (pe_callB cr_sorted hg hm (by decide +kernel) (pa_cons ha pa_nil hs) (by decide) (by decide) hs hpl) ?_
  rintro σ H Q ⟨H0, F0, F, env, c, rl, hf, q⟩
  unfold srtN at hf
  split at hf
  · rename_i ds h1
    split at hf
    · rename_i ns hn
      split at hf
      · rename_i hz
        cases hf
        refine ⟨H0, F0, F, env, _, rl, h1, fun v H1 F1 g1 hv => ?_⟩
        obtain ⟨a, vs, rfl, e, r⟩ := hv.inv_lst
        rw [intsOf_map hn] at r
        have := dt_ints_inv r
        subst this
        refine ⟨a, ns, rfl, .inl (.inl (g1.fh _ _ e)), hz, fun ns' l hp hso hl => ?_⟩
        have e2 : ns' = srt ns := sorted_uniq (hp.trans (srt_perm ns).symm) hso (srt_sorted ns)
        subst e2
        exact q l _ _ F1 (g1.trans (Grow.newM g1.fh hl)) (none_of_ex g1.h hl) upd_same (none_of_ex g1.fh hl) (.l (dt_ints _))
      · cases hf
    · cases hf
  · cases hf
/-! xs[::-1] -/
def revN (fa : DEnv → Option D) : DEnv → Option OC := fun env => match fa env with
  | some (.lst ds) => some (.l ds.reverse)
  | _ => none
theorem dn_rev {fa : DEnv → Option D} {k : Nat} {p1 p2 p3 : Pos} (ha : PE X e (dE X.K fa)) : PE X (.Subscript e (.Slice none none (some (.UnaryOp .USub (.Constant (.int 1) k p1) p2)) p3) pos) (dN X.K (revN fa)) := by
  refine PE.imp (pe_revL ha) ?_
  rintro σ H Q ⟨H0, F0, F, env, c, rl, hf, q⟩
  unfold revN at hf
  split at hf
  · rename_i ds h1
    cases hf
    refine ⟨H0, F0, F, env, _, rl, h1, fun v H1 F1 g1 hv => ?_⟩
    obtain ⟨a, vs, rfl, e, r⟩ := hv.inv_lst
    refine ⟨a, vs, rfl, .inl (.inl (g1.fh _ _ e)), fun l hl => ?_⟩
    exact q l _ _ F1 (g1.trans (Grow.newM g1.fh hl)) (none_of_ex g1.h hl) upd_same (none_of_ex g1.fh hl) (.l r.reverse)
  · cases hf

/-! ### one's own list changed, further -/
variable {px apos : Pos} {fe : DEnv → Option D}
def idxOf? (k : Int) : List Int → Option Nat
  | [] => none
  | x :: r => if x = k then some 0 else (idxOf? k r).map (· + 1)
theorem idxOf_spec : ∀ {l : List Int} {k : Int} {j : Nat}, idxOf? k l = some j → l[j]? = some k ∧ ∀ m : Nat, m < j → l[m]? ≠ some k
  | [], _, _, h => by cases h
  | x :: r, k, j, h => by
    unfold idxOf? at h
    split at h
    · rename_i hx
      cases h
      exact ⟨by simp [hx], fun m hm => absurd hm (by omega)⟩
    · rename_i hx
      cases hr : idxOf? k r with
      | none => rw [hr] at h; cases h
      | some i =>
        rw [hr] at h
        cases h
        obtain ⟨h1, h2⟩ := idxOf_spec hr
        refine ⟨by simpa using h1, fun m hm => ?_⟩
        cases m with
        | zero => simp; exact hx
        | succ m =>
          have hm' : m + 1 < i + 1 := hm
          simpa using h2 m (by omega)
def rmvS (i : Nat) (fe : DEnv → Option D) : DEnv → Option Out := fun env => match env[i]? with
  | some (.own a (.l ds)) => (match fe env with
    | some (.int k) => (match intsOf ds with
      | some ns => (match idxOf? k ns with
        | some j => some (.nx (env.set i (.own a (.l ((ns.eraseIdx j).map .int)))))
        | none => none)
      | none => none)
    | _ => none)
  | _ => none
theorem ds_remove {i : Nat} {pos2 : Pos} (hx : PE X (.Name x px) (tVar i)) (hk : PE X e (dE X.K fe)) (hsw : swapsWith (.Call (.Attribute (.Name x px) "remove" apos) [e] [] pos) none pos2.line X.env = pure false := by rfl) (hbase : attributeBase (.Name x px) "remove" X.env (eval (.Name x px) X.env) = eval (.Name x px) X.env := by rfl)
    (hfew : ((backTo pos (starEach (e :: []) X.env)).all (fun x => !x.1) && (backToKw pos (keywordEach [] X.env)).all (fun x => x.1.isSome)
      && decide ((e :: []).length + ([] : List Keyword).length + (if ([] : List Keyword).isEmpty then 0 else 1) < 30)) = true := by rfl)
    (hline : (apos.endLine == pos.line) = true := by rfl) (hs : starEach (e :: []) X.env = (false, eval e X.env) :: starEach [] X.env := by rfl) (hplain : (backTo pos (starEach [] X.env)).any (·.1) = false := by rfl) :
    PS X (.Expr (.Call (.Attribute (.Name x px) "remove" apos) [e] [] pos) pos2) (dS X.K R (rmvS i fe)) := by
  refine PS.imp (ps_expr (pe_bm PySem.F.plainAttrs_list PySem.F.slot_list_remove PySem.F.type_list_remove mt_remove hx (pa_cons hk pa_nil hs) hbase hfew hline hs hplain) hsw) ?_
  rintro D σ H ⟨H0, F0, F, env, o, r, hf, po⟩
  unfold rmvS at hf
  split at hf
  · rename_i a ds he
    obtain ⟨l, o1, h1, h2, h3, h4, h5, h6⟩ := r.own he
    cases h3 with
    | @l vs _ h3 =>
    split at hf
    · rename_i k hkk
      split at hf
      · rename_i ns hns
        split at hf
        · rename_i j hj
          cases hf
          refine ⟨_, h1, .inl ⟨rfl, vs, .inl (.inl h2)⟩, H0, F0, F, env, _, r, hkk, fun v H' F' g hv => ?_⟩
          cases hv.inv_int
          rw [intsOf_map hns] at h3
          have := dt_ints_inv h3
          subst this
          obtain ⟨i1, i2⟩ := idxOf_spec hj
          exact ⟨l, ns, k, j, rfl, rfl, g.h _ _ h2, i1, i2, po F' σ _ ((r.grow g).mut he h1 (.l (dt_ints _)))⟩
        · cases hf
      · cases hf
    · cases hf
  · cases hf
/-- x[e] = v -/
def setS (i : Nat) (fk fv : DEnv → Option D) : DEnv → Option Out := fun env => match fv env with
  | none => none
  | some d => match env[i]? with
    | some (.own a (.l ds)) => (match fk env with
      | some (.int k) => (match ixN ds.length k with
        | some j => some (.nx (env.set i (.own a (.l (ds.set j d)))))
        | none => none)
      | _ => none)
    | _ => none
theorem ds_setIx {fk fv : DEnv → Option D} {i : Nat} {ek ev : Expr} {pos2 : Pos} (hv : PE X ev (dE X.K fv)) (hx : PE X (.Name x px) (tVar i)) (hk : PE X ek (dE X.K fk))
    (ha : ∀ v, assign (.Subscript (.Name x px) ek pos) X.env v = (do
      let ov ← holding [v] (eval (.Name x px) X.env)
      let iv ← holding [v, ov] (eval ek X.env)
      standAt pos
      holding [v, ov, iv] (setItem ov iv v)
      release [v, ov, iv] []) := by intro _; rfl)
    (hs : swapsWithSole [.Subscript (.Name x px) ek pos] ev pos2.line X.env = pure false := by rfl) (hw : swappedStores [.Subscript (.Name x px) ek pos] ev X.env = pure none := by rfl)
    (h1 : (assignEach [.Subscript (.Name x px) ek pos] X.env).map (·.2) = [assign (.Subscript (.Name x px) ek pos) X.env] := by rfl) :
    PS X (.Assign [.Subscript (.Name x px) ek pos] ev pos2) (dS X.K R (setS i fk fv)) := by
  refine PS.imp (ps_asg hv (pg_sub hx hk set_list ha) hs hw h1) ?_
  rintro D σ H ⟨H0, F0, F, env, o, r, hf, po⟩
  unfold setS at hf
  split at hf
  · cases hf
  · rename_i d hd
    split at hf
    · rename_i a ds he
      split at hf
      · rename_i k hkk
        split at hf
        · rename_i j hj
          cases hf
          obtain ⟨l, o1, h1, h2, h3, h4, h5, h6⟩ := r.own he
          cases h3 with
          | @l vs _ h3 =>
          refine ⟨H0, F0, F, env, d, r, hd, fun v H1 F1 g1 hv => ⟨_, h1, H0, F0, F1, env, _, r.grow g1, hkk, fun u H2 F2 g2 hu => ?_⟩⟩
          cases hu.inv_int
          have gg := g1.trans g2
          exact ⟨l, vs, k, j, rfl, rfl, gg.h _ _ h2, by rw [h3.len]; exact hj, po F2 σ _ ((r.grow gg).mut he h1 (.l ((h3.mono gg.f).set j (hv.mono g2.f))))⟩
        · cases hf
      · cases hf
    · cases hf
end
end DL

namespace DL
open PySem PySem.Spec PyProof.Rows L2 Evl

def cst (d : D) : DEnv → Option D := fun _ => some d
def cst0 {α : Type} (d : α) : DEnv → Option α := fun _ => some d
def retNS : DEnv → Option Out := fun env => some (.rt .non env)
section
variable {X : Cx} {R : RX} {e : Expr} {es : List Expr} {fe fa : DEnv → Option D} {fs : DEnv → Option (List D)} {tg : Expr} {p pos : Pos} {x : Str}
theorem de_globI2 {i : Int} (hg : Gl X x) (hm : ∃ t, X.mg x = some (.int i t)) (hd : (x == ("__debug__" : Str)) = false := by decide) : PE X (.Name x pos) (dE X.K (cst (.int i))) := by
  obtain ⟨t, hm⟩ := hm
  exact de_globI hg hm hd
/-! enumerate -/
def enumF (fs : DEnv → Option (List D)) : DEnv → Option (List D) := fun env => match fs env with
  | some [.lst xs] => some (enumD 0 xs)
  | _ => none
theorem di_enum {elts : List Expr} {kk : Nat} {tpos : Pos} (hg : Gl X "enumerate") (hm : X.mg "enumerate" = none) (ha : PA X [e] (dA X.K fs)) (hs : starEach [e] X.env = [(false, eval e X.env)] := by rfl) :
    PI X (.Tuple elts kk tpos) (.Call (.Name "enumerate" p) [e] [] pos) (dI X.K (enumF fs)) := by
  refine PI.imp (pi_enum hg hm ha hs) ?_
  rintro σ H Q ⟨H0, F0, F, env, ds, r, hf, q⟩
  unfold enumF at hf
  split at hf
  · rename_i xs hd
    cases hf
    refine ⟨H0, F0, F, env, _, r, hd, fun v H1 F1 g1 hv => ?_⟩
    obtain ⟨y, rfl, hy⟩ := hv.inv_one
    obtain ⟨a, vs, rfl, e, hr⟩ := hy.inv_lst
    have hS : SqL X.K F1 a vs := .inl (.inl e)
    refine ⟨a, vs, rfl, ex_l g1.fh hS, q _ _ _ g1 ⟨fun i F' H e1 e2 hi => ?_, fun i d F' H x H' e1 e2 hd hy => ?_, fun F' H e1 e2 => ?_⟩⟩
    · rw [enumD_len] at hi
      obtain ⟨z, hz, _⟩ := hr.get (List.getElem?_eq_getElem hi)
      exact ⟨vs, z, ex_l e2 (ex_l e1 hS), hz⟩
    · obtain ⟨z, h1, rfl⟩ := enumD_get xs 0 i d hd
      obtain ⟨T, w, rfl, hT, rfl, hw⟩ := hy
      have g2 := Grow.new (o := .tup [.int (i : Int), w]) e2 hT
      refine ⟨_, g2, .tup' upd_same ?_⟩
      have e3 : ((0 + i : Nat) : Int) = (i : Int) := by omega
      rw [e3]
      exact .two (.int _) ((hr.at_ i w z (hw vs (ex_l e2 (ex_l e1 hS))) h1).mono (e1.trans g2.f))
    · exact ⟨vs, ex_l e2 (ex_l e1 hS), by rw [enumD_len, hr.len]; exact Nat.le_refl _⟩
  · cases hf
/-! all, any, sum: of lists -/
def boolsOf : List D → Option (List Bool)
  | [] => some []
  | .bl b :: r => (match boolsOf r with
    | some l => some (b :: l)
    | none => none)
  | _ :: _ => none
theorem boolsOf_map : ∀ {ds : List D} {bs : List Bool}, boolsOf ds = some bs → ds = bs.map D.bl
  | [], _, h => by cases h; rfl
  | .bl i :: r, ns, h => by
    simp only [boolsOf] at h
    split at h
    · rename_i l hl
      cases h
      rw [boolsOf_map hl]; rfl
    · cases h
  | .non :: r, _, h => by simp [boolsOf] at h
  | .int _ :: r, _, h => by simp [boolsOf] at h
  | .str _ :: r, _, h => by simp [boolsOf] at h
  | .lst _ :: r, _, h => by simp [boolsOf] at h
  | .tup _ :: r, _, h => by simp [boolsOf] at h
  | .scr _ :: r, _, h => by simp [boolsOf] at h
  | .dct _ :: r, _, h => by simp [boolsOf] at h
  | .dcl _ :: r, _, h => by simp [boolsOf] at h
theorem dt_bools_inv {K : PySem.W.Frag} {F : Hp} : ∀ {ns : List Bool} {vs : List V}, DtA K F vs (ns.map D.bl) → vs = ns.map V.bl
  | [], vs, h => h.inv_nil
  | n :: ns, vs, h => by
    obtain ⟨x, r, rfl, hx, hr⟩ := h.inv_cons
    cases hx.inv_bl
    rw [dt_bools_inv hr]; rfl
def allG : List D → Option D
  | [.lst xs] => (match boolsOf xs with
    | some bs => some (.bl (bs.all id))
    | none => none)
  | _ => none
theorem rc_all {K : PySem.W.Frag} : RCOk K (rAll K) allG := by
  intro F H xs as d Q e hx hg q
  unfold allG at hg
  split at hg
  · split at hg
    · rename_i ds bs hb
      cases hg
      obtain ⟨x, rfl, hd⟩ := hx.inv_one
      obtain ⟨p, vs, rfl, hp, hr⟩ := hd.inv_lst
      rw [boolsOf_map hb] at hr
      have := dt_bools_inv hr
      subst this
      exact ⟨p, bs, rfl, .inl (.inl (e _ _ hp)), q _ H F (.refl e) (.bl _)⟩
    · cases hg
  · cases hg
def sumG : List D → Option D
  | [.lst xs] => (match intsOf xs with
    | some bs => some (.int bs.sum)
    | none => none)
  | _ => none
theorem rc_sum {K : PySem.W.Frag} : RCOk K (rSum K) sumG := by
  intro F H xs as d Q e hx hg q
  unfold sumG at hg
  split at hg
  · split at hg
    · rename_i ds bs hb
      cases hg
      obtain ⟨x, rfl, hd⟩ := hx.inv_one
      obtain ⟨p, vs, rfl, hp, hr⟩ := hd.inv_lst
      rw [intsOf_map hb] at hr
      have := dt_ints_inv hr
      subst this
      exact ⟨p, bs, rfl, .inl (.inl (e _ _ hp)), q _ H F (.refl e) (.int _)⟩
    · cases hg
  · cases hg
def borX (i : Nat) (f : DEnv → Option Res) : DEnv → Option Res := fun env => match env[i]? with
  | some (.own _ c) => (match f (env.set i (.val (ocD c))) with
    | some (.ok d) => if flatD d then some (.ok d) else none
    | o => o)
  | _ => f env
theorem dx_bor {fx : DEnv → Option Res} (i : Nat) (h : PE X e (dX X.K R fx)) : PE X e (dX X.K R (borX i fx)) := by
  refine PE.imp h ?_
  rintro σ H Q ⟨H0, F0, F, env, d, r, hf, q⟩
  unfold borX at hf
  split at hf
  · rename_i a c he
    obtain ⟨l, u, hs, hl, hF, h00, hc, r'⟩ := r.freeze he
    cases hd : fx (env.set i (.val (ocD c))) with
    | none => rw [hd] at hf; cases hf
    | some d' =>
      rw [hd] at hf
      cases d' with
      | ok d' =>
        simp only at hf
        split at hf
        · rename_i hfl
          cases hf
          exact ⟨H0, F0, _, _, _, r', hd, fun v H' F' g hv => q v H' _ (bor_grow r.fh hF g) (hv.flat hfl)⟩
        · cases hf
      | ex c' =>
        cases hf
        exact ⟨H0, F0, _, _, _, r', hd, fun H' F' g => q H' _ (bor_grow r.fh hF g)⟩
  · exact ⟨H0, F0, F, env, d, r, hf, q⟩
/-! f-strings -/
def fmtG : D → Option D
  | .str y => if y.length ≤ 100000 then some (.str y) else none
  | .int i => if i.natAbs.log2 < 1920 then some (.str (toString i)) else none
  | _ => none
theorem de_fmt (he : PE X e (dE X.K fe)) : PE X (.FormattedValue e (-1) none pos) (dE X.K (op1 fmtG fe)) := by
  refine PE.imp (pe_fmt he) ?_
  rintro σ H Q ⟨H0, F0, F, env, d, r, hf, q⟩
  unfold op1 at hf
  cases ha : fe env with
  | none => rw [ha] at hf; cases hf
  | some da =>
    rw [ha] at hf
    refine ⟨H0, F0, F, env, da, r, ha, fun v H1 F1 g1 hv => ?_⟩
    cases da with
    | str y =>
      simp only [fmtG] at hf
      split at hf
      · rename_i hl
        cases hf
        exact .inl ⟨y, hv.inv_str, sz_of hl, q _ H1 F1 g1 (.str y)⟩
      · cases hf
    | int i =>
      simp only [fmtG] at hf
      split at hf
      · rename_i hl
        cases hf
        exact .inr ⟨i, hv.inv_int, hl, q _ H1 F1 g1 (.str _)⟩
      · cases hf
    | _ => simp [fmtG] at hf
def jsF : List (DEnv → Option D) → Str → DEnv → Option D
  | [], acc, _ => some (.str acc)
  | f :: fs, acc, env => match f env with
    | some (.str y) => if (acc ++ y).length ≤ 100000 then jsF fs (acc ++ y) env else none
    | _ => none
theorem run_js {K : PySem.W.Frag} {σ : L2.St} : ∀ (fs : List (DEnv → Option D)) (acc : Str) (H0 F0 F H : Hp) (env : DEnv) (d : D) (Q : Str → Hp → Prop), Rel K H0 F0 F env σ H → jsF fs acc env = some d →
    (∀ z H' F', d = .str z → Grow H F H' F' → Q z H') → tJs (fs.map (dE K)) acc σ H Q
  | [], acc, H0, F0, F, H, env, d, Q, r, hf, q => by
    cases hf
    exact q acc H F rfl (.refl r.fh)
  | f :: fs, acc, H0, F0, F, H, env, d, Q, r, hf, q => by
    simp only [jsF] at hf
    split at hf
    · rename_i y hy
      split at hf
      · rename_i hl
        refine ⟨H0, F0, F, env, _, r, hy, fun v H1 F1 g1 hv => ⟨y, hv.inv_str, sz_of hl, ?_⟩⟩
        exact run_js fs (acc ++ y) H0 F0 F1 H1 env d Q (r.grow g1) hf fun z H2 F2 e g2 => q z H2 F2 e (g1.trans g2)
      · cases hf
    · cases hf
theorem de_joined {v1 v2 : Expr} {rest : List Expr} {f1 f2 : DEnv → Option D} {fr : List (DEnv → Option D)} (h : PJ X (v1 :: v2 :: rest) ((f1 :: f2 :: fr).map (dE X.K))) : PE X (.JoinedStr (v1 :: v2 :: rest) pos) (dE X.K (jsF (f1 :: f2 :: fr) Str.empty)) := by
  refine PE.imp (pe_joined h) ?_
  rintro σ H Q ⟨H0, F0, F, env, d, r, hf, q⟩
  exact run_js _ _ H0 F0 F H env d _ r hf fun z H' F' e g => q _ H' F' g (by rw [e]; exact .str z)
theorem pj_cons {f : DEnv → Option D} {fr : List (DEnv → Option D)} (h : PE X e (dE X.K f)) (r : PJ X es (fr.map (dE X.K))) : PJ X (e :: es) ((f :: fr).map (dE X.K)) := .cons h r

/-! ### own errors -/
def errNames : List Str := ["TooMany", "BadWorker", "BadRank", "BadStart", "BadPlan", "NoWorker"]
/-- is an error of the class c one of h's -/
def subN (c h : Str) : Bool := decide (h = "HasteError") || decide (c = h)
/-- what the text says of the own classes of errors -/
structure ErrF (K : PySem.W.Frag) (C : Addr) : Prop where
  q : PySem.W.excIn K C [.type "ValueError", .type "Exception", .type "BaseException", .type "object"] "ValueError.__new__" = true
  k : PySem.W.keepIn K (.ref C) = true
  b : PySem.W.subIn K (.ref C) (.type "BaseException") = some true
  t : PySem.W.typeIn K (.ref C) = some (.type "type")
structure ErrS (es : List Str) (K : PySem.W.Frag) (mg : Str → Option Value) : Prop where
  cls : ∀ c ∈ es, ∃ C, mg c = some (.ref C) ∧ ErrF K C ∧ ExcC K C ∧ PySem.W.kitOne K (.ref C) (.type "ValueError") = some true
  top : ∃ C, mg "HasteError" = some (.ref C)
  pair : ∀ c ∈ es, ∀ h ∈ ("HasteError" : Str) :: es, ∀ C D, mg c = some (.ref C) → mg h = some (.ref D) → PySem.W.exmOne K (.ref C) (.ref D) = some (subN c h) ∧ PySem.W.kitOne K (.ref C) (.ref D) = some (subN c h)
theorem ErrS.at_ {K : PySem.W.Frag} {mg : Str → Option Value} {es : List Str} (S : ErrS es K mg) : ∀ h ∈ ("HasteError" : Str) :: es, ∃ C, mg h = some (.ref C) := fun h hh => by
  rcases List.mem_cons.mp hh with rfl | hh
  · exact S.top
  · obtain ⟨C, hC, _⟩ := S.cls h hh
    exact ⟨C, hC⟩
theorem ds_raiseA {c : Str} {W : WX} {pos2 : Pos} {es : List Str} (S : ErrS es X.K X.mg) (hm : c ∈ es) (hc : X.calm = true) (tk : Takes X W) (hg : Gl X c) (ha : PA X [e] (dA X.K fs)) (hl : AL fs 1) (hdb : (c == ("__debug__" : Str)) = false := by decide)
    (he : starEach [e] X.env = (false, eval e X.env) :: starEach [] X.env := by rfl) (hpl : (backTo pos (starEach [] X.env)).any (·.1) = false := by rfl) :
    PS X (.Raise (some (.Call (.Name c p) [e] [] pos)) none pos2) (dS X.K (RW X.mg W) (mkF c fs)) := by
  obtain ⟨C, gC, hF, _⟩ := S.cls c hm
  refine ds_raise hc tk (pmk_ownA PySem.F.excBase_ValueError hF.q gC hF.k (raises_own hF.b hF.t) hg ha hdb he hpl) gC fun σ H Q h => ?_
  obtain ⟨H0, F0, F, env, ds, r, hf, q⟩ := h
  exact ⟨H0, F0, F, env, ds, r, hf, fun vs H' F' g hv => ⟨by rw [hv.len, hl env ds hf]; decide, q vs H' F' g hv⟩⟩

/-! ### try -/
def noE (env : DEnv) : DEnv := env.map fun _ => Sl.no
theorem rel_noE {K : PySem.W.Frag} {H0 F0 F H : Hp} {env : DEnv} {σ σ' : L2.St} (r : Rel K H0 F0 F env σ H) (hl : σ'.length = σ.length) : Rel K H0 F0 F (noE env) σ' H :=
  r.weak (fun j s h hn => by
    unfold noE at h
    rw [List.getElem?_map] at h
    cases q : env[j]? with
    | none => rw [q] at h; cases h
    | some u => rw [q] at h; cases h; exact absurd rfl hn) (by simp [noE, r.len, hl])
/-- isinstance(n, T) in a suite, n the name of its error at a; b the answer -/
def isE (i : Nat) (a : Addr) (b : Bool) : DEnv → Option D := fun env => match env[i]? with
  | some (.exc a') => if a' = a then some (.bl b) else none
  | _ => none
theorem tyv_isE {a : Addr} {oe : Obj} {pn : List (Addr × Obj)} {C : Addr} {i : Nat} {n t : Str} {cv : Value} {tv : V} {b : Bool} {p1 p2 : Pos} (hE : ExcC X.K C) (hz : Zc (.ref C) none oe) (hf : ∃ vs, oe.data = .fields vs)
    (hg : Gl X "isinstance") (hm : X.mg "isinstance" = none) (hx : PE (X.suite a ((a, oe) :: pn)) (.Name n p1) (tVar i)) (ht : PE (X.suite a ((a, oe) :: pn)) (.Name t p2) (tC tv)) (hcv : ∀ u, RelV tv u → u = cv) (hk : PySem.W.kitOne X.K (.ref C) cv = some b)
    (hs : starEach [Expr.Name n p1, .Name t p2] (X.suite a ((a, oe) :: pn)).env = (false, eval (.Name n p1) (X.suite a ((a, oe) :: pn)).env) :: starEach [.Name t p2] (X.suite a ((a, oe) :: pn)).env := by rfl) (hs2 : starEach [Expr.Name t p2] (X.suite a ((a, oe) :: pn)).env = (false, eval (.Name t p2) (X.suite a ((a, oe) :: pn)).env) :: starEach [] (X.suite a ((a, oe) :: pn)).env := by rfl)
    (hpl : (backTo pos (starEach [.Name t p2] (X.suite a ((a, oe) :: pn)).env)).any (·.1) = false := by rfl) :
    PE (X.suite a ((a, oe) :: pn)) (.Call (.Name "isinstance" p) [.Name n p1, .Name t p2] [] pos) (dE X.K (isE i a b)) := by
  refine PE.imp (pe_callB (call_isE hE hz hf) hg hm (by decide +kernel) (pa_cons hx (pa_cons ht pa_nil hs2) hs) (by decide) (by decide) hs hpl) ?_
  rintro σ H Q ⟨H0, F0, F, env, d, r, hf', q⟩
  unfold isE at hf'
  split at hf'
  · rename_i a' he
    split at hf'
    · rename_i ha
      subst ha
      cases hf'
      exact ⟨_, r.excs i _ he, tv, cv, b, rfl, hcv, hk, q _ H F (.refl r.fh) (.bl b)⟩
    · cases hf'
  · cases hf'
theorem de_isEc {a : Addr} {oe : Obj} {pn : List (Addr × Obj)} {C : Addr} {c : Str} {i : Nat} {n t : Str} {p1 p2 : Pos} {es : List Str} (S : ErrS es X.K X.mg) (hc : c ∈ es) (gC : X.mg c = some (.ref C)) (hE : ExcC X.K C) (hz : Zc (.ref C) none oe) (hf : ∃ vs, oe.data = .fields vs) (ht : t ∈ ("HasteError" : Str) :: es)
    (hg : Gl X "isinstance") (hm : X.mg "isinstance" = none) (hx : PE (X.suite a ((a, oe) :: pn)) (.Name n p1) (tVar i)) (hgt : Gl X t) (hd : (t == ("__debug__" : Str)) = false := by decide)
    (hs : starEach [Expr.Name n p1, .Name t p2] (X.suite a ((a, oe) :: pn)).env = (false, eval (.Name n p1) (X.suite a ((a, oe) :: pn)).env) :: starEach [.Name t p2] (X.suite a ((a, oe) :: pn)).env := by rfl) (hs2 : starEach [Expr.Name t p2] (X.suite a ((a, oe) :: pn)).env = (false, eval (.Name t p2) (X.suite a ((a, oe) :: pn)).env) :: starEach [] (X.suite a ((a, oe) :: pn)).env := by rfl)
    (hpl : (backTo pos (starEach [.Name t p2] (X.suite a ((a, oe) :: pn)).env)).any (·.1) = false := by rfl) :
    PE (X.suite a ((a, oe) :: pn)) (.Call (.Name "isinstance" p) [.Name n p1, .Name t p2] [] pos) (dE X.K (isE i a (subN c t))) := by
  obtain ⟨D, gD⟩ := S.at_ t ht
  exact tyv_isE (tv := .ref D) hE hz hf hg hm hx (pe_glob hgt gD rfl hd) (fun u r => r) (S.pair c hc t ht C D gC gD).2 hs hs2 hpl
theorem de_isEv {a : Addr} {oe : Obj} {pn : List (Addr × Obj)} {C : Addr} {c : Str} {i : Nat} {n : Str} {p1 p2 : Pos} {es : List Str} (S : ErrS es X.K X.mg) (hc : c ∈ es) (gC : X.mg c = some (.ref C)) (hE : ExcC X.K C) (hz : Zc (.ref C) none oe) (hf : ∃ vs, oe.data = .fields vs)
    (hg : Gl X "isinstance") (hm : X.mg "isinstance" = none) (hx : PE (X.suite a ((a, oe) :: pn)) (.Name n p1) (tVar i)) (hgt : Gl X "ValueError") (hmv : X.mg "ValueError" = none)
    (hs : starEach [Expr.Name n p1, .Name "ValueError" p2] (X.suite a ((a, oe) :: pn)).env = (false, eval (.Name n p1) (X.suite a ((a, oe) :: pn)).env) :: starEach [.Name "ValueError" p2] (X.suite a ((a, oe) :: pn)).env := by rfl) (hs2 : starEach [Expr.Name "ValueError" p2] (X.suite a ((a, oe) :: pn)).env = (false, eval (.Name "ValueError" p2) (X.suite a ((a, oe) :: pn)).env) :: starEach [] (X.suite a ((a, oe) :: pn)).env := by rfl)
    (hpl : (backTo pos (starEach [.Name "ValueError" p2] (X.suite a ((a, oe) :: pn)).env)).any (·.1) = false := by rfl) :
    PE (X.suite a ((a, oe) :: pn)) (.Call (.Name "isinstance" p) [.Name n p1, .Name "ValueError" p2] [] pos) (dE X.K (isE i a true)) := by
  obtain ⟨C', gC', _, _, hk⟩ := S.cls c hc
  rw [gC] at gC'
  cases gC'
  exact tyv_isE (tv := .ty "ValueError") hE hz hf hg hm hx (pe_bltn hgt hmv (by decide +kernel) rfl) (fun u r => r) hk hs hs2 hpl
/-- try: B except h as n: a suite that hands back Sr(class) -/
def tryAs (es : List Str) (B : DEnv → Option Out) (h : Str) (Sr : Str → DEnv → Option D) : DEnv → Option Out := fun env => match B env with
  | some (.ex c e) => if es.contains c then (if subN c h then (match Sr c e with
    | some d => some (.rt d (noE e))
    | none => none) else some (.ex c e)) else none
  | o => o
theorem ds_try_as {h n : Str} {i : Nat} {body suite : List Stmt} {b₀ : Stmt} {np pos' : Pos} {Wout : WX} {B : DEnv → Option Out} {Sr : Str → DEnv → Option D} {es : List Str} (S : ErrS es X.K X.mg) (hh : h ∈ ("HasteError" : Str) :: es) (hst : X.stack = X.env :: X.outer) (hfr : X.env.frame = some X.env.locals) (hN : X.N.Nodup) (hi : X.N[i]? = some n)
    (hln : X.env.kindOf n = some .local) (hg : Gl X h) (tk : Takes X Wout) (hd : (h == ("__debug__" : Str)) = false)
    (hb : ∀ (W : WX) (pn : List (Addr × Obj)) (xe : Value → Shared → Prop), Takes (X.tr pn xe) W → PassesOwn (model X.prog X.w) X.A X.env xe → PSs (X.tr pn xe) body (dS X.K (RW X.mg W) B))
    (Sf : Addr → Str → DEnv → Option Out)
    (hsu : ∀ (a : Addr) (oe : Obj) (pn : List (Addr × Obj)) (c : Str) (C : Addr), c ∈ es → X.mg c = some (.ref C) → ExcC X.K C → Zc (.ref C) none oe → (∃ vs, oe.data = .fields vs) → PSs (X.suite a ((a, oe) :: pn)) (b₀ :: suite) (dS X.K (fun _ _ _ => False) (Sf a c)))
    (hres : ∀ a c e d, Sr c e = some d → ∃ e', Sf a c (e.set i (.exc a)) = some (.rt d e')) :
    PS X (.Try body [.ExceptHandler (some (.Name h np)) (some n) (b₀ :: suite) pos'] [] [] pos) (dS X.K (RW X.mg Wout) (tryAs es B h Sr)) := by
  obtain ⟨Ch, gh⟩ := S.at_ h hh
  refine PS.imp (ps_try_as (c := .ref Ch) (tb := fun W => dS X.K (RW X.mg W) B) (ts := fun a cls d D σ H => ∃ c C, c ∈ es ∧ X.mg c = some (.ref C) ∧ cls = .ref C ∧ d = none ∧ dS X.K (fun _ _ _ => False) (Sf a c) D σ H) (Wout := Wout) hst hfr hN hi hln ⟨hg, hd, .inl gh⟩ tk hb ?_) ?_
  · intro a oe cls d pn hz hf
    refine ⟨fun pins s σ H D I q => ?_⟩
    obtain ⟨c, C, hc, gC, rfl, rfl, q⟩ := q
    obtain ⟨C', gC', _, hE, _⟩ := S.cls c hc
    rw [gC] at gC'
    cases gC'
    exact (hsu a oe pn c C hc gC hE hz hf).run pins s σ H D I q
  · rintro D σ H ⟨H0, F0, F, env, o, r, hf, po⟩
    unfold tryAs at hf
    cases hB : B env with
    | none => rw [hB] at hf; cases hf
    | some ob =>
      rw [hB] at hf
      refine ⟨H0, F0, F, env, ob, r, hB, ?_⟩
      cases ob with
      | nx e => cases hf; exact po
      | bk e => cases hf; exact po
      | ct e => cases hf; exact po
      | rt d e => cases hf; exact po
      | ex c e =>
        intro F1 σ1 H1 r1
        simp only at hf
        split at hf
        · rename_i hc
          have hc' : c ∈ es := by simpa using hc
          obtain ⟨C, gC, _, _, _⟩ := S.cls c hc'
          have hx := (S.pair c hc' h hh C Ch gC gh).1
          refine ⟨C, gC, _, hx, fun hbt a ha => ?_, fun hbf => ?_⟩
          · rw [if_pos hbt] at hf
            split at hf
            · rename_i d hd
              cases hf
              obtain ⟨e', he'⟩ := hres a c e d hd
              refine ⟨c, C, hc', gC, rfl, rfl, H0, F0, F1, e.set i (.exc a), .rt d e', ?_, he', fun v F2 σ2 H2 r2 hv => ?_⟩
              · obtain ⟨A, h1, h2⟩ := r1.owns
                have ow : ∀ {j : Nat} {b : Option Addr} {d : OC}, (e.set i (.exc a))[j]? = some (.own b d) → j ≠ i ∧ e[j]? = some (.own b d) := fun {j b d} q => by
                  by_cases hj : j = i
                  · subst hj; have := (set_eq q).2; cases this
                  · exact ⟨hj, (set_ne hj).mp q⟩
                refine ⟨r1.g, fun j d q => ?_, ⟨A, fun j b d q => ?_, fun j k b b2 d d2 q1 q2 z => h2 j k b b2 d d2 (ow q1).2 (ow q2).2 z⟩, by simp [r1.len], fun j b q => ?_⟩
                · by_cases hj : j = i
                  · subst hj; have := (set_eq q).2; cases this
                  · obtain ⟨v, k1, k2⟩ := r1.vals j d ((set_ne hj).mp q)
                    exact ⟨v, (set_ne hj).mpr k1, k2⟩
                · obtain ⟨hj, q'⟩ := ow q
                  obtain ⟨o, k1, k2⟩ := h1 j b d q'
                  exact ⟨o, (set_ne hj).mpr k1, k2⟩
                · by_cases hj : j = i
                  · subst hj
                    obtain ⟨hlt, q'⟩ := set_eq q
                    cases q'
                    exact List.getElem?_set_self (by rw [← r1.len]; exact hlt)
                  · exact (set_ne hj).mpr (r1.excs j b ((set_ne hj).mp q))
              · exact po v F2 (List.replicate e.length none) H2 (by
                  have hw := r2.weak (env' := noE e) (σ' := List.replicate e.length none) (fun j s h hn => by
                    unfold noE at h
                    rw [List.getElem?_map] at h
                    cases q : e[j]? with
                    | none => rw [q] at h; cases h
                    | some u => rw [q] at h; cases h; exact absurd rfl hn) (by simp [noE])
                  exact hw) hv
            · cases hf
          · rw [if_neg (by rw [hbf]; exact Bool.false_ne_true)] at hf
            cases hf
            obtain ⟨C', gC', hW⟩ := po F1 σ1 H1 r1
            rw [gC] at gC'
            cases gC'
            exact hW
        · cases hf
end
end DL

namespace DL
open PySem PySem.Spec PyProof.Rows L2 Evl
theorem eqG_ii (i j : Int) : eqG (.int i) (.int j) = some (.bl (decide (i = j))) := rfl
theorem eqG_ss (i j : Str) : eqG (.str i) (.str j) = some (.bl (decide (i = j))) := rfl
theorem eqG_bb (i j : Bool) : eqG (.bl i) (.bl j) = some (.bl (decide (i = j))) := rfl
theorem neG_ii (i j : Int) : neG (.int i) (.int j) = some (.bl !(decide (i = j))) := rfl
theorem neG_ss (i j : Str) : neG (.str i) (.str j) = some (.bl !(decide (i = j))) := rfl
theorem neG_bb (i j : Bool) : neG (.bl i) (.bl j) = some (.bl !(decide (i = j))) := rfl
/-- a list of ints may be compared -/
theorem lay_ints : ∀ ns : List Int, PyData.canLayAll0 (toPyL (ns.map D.int)) = true ∧ PyData.depthAll (toPyL (ns.map D.int)) = 0
  | [] => by constructor <;> simp [toPyL, PyData.canLayAll0, PyData.depthAll]
  | n :: ns => by
    obtain ⟨h1, h2⟩ := lay_ints ns
    constructor <;> simp [toPyL, toPy, PyData.canLayAll0, PyData.canLay0, PyData.depthAll, PyData.depth, h1, h2]
theorem eqOk_ints (ns : List Int) : eqOk (.lst (ns.map .int)) = true := by
  obtain ⟨h1, h2⟩ := lay_ints ns
  simp [eqOk, SeqAt.shaped, toPy, PyData.canLay0, PyData.depth, h1, h2]
theorem eqOk_nil : eqOk (.lst []) = true := eqOk_ints []
theorem eqv_nil (xs : List D) : PyData.eqv (toPy (.lst xs)) (toPy (.lst [])) = xs.isEmpty := by
  cases xs <;> simp [toPy, toPyL, PyData.eqv, PyData.eqvAll]
/-- xs == [], xs != []: ints -/
theorem eqG_nil (ns : List Int) : eqG (.lst (ns.map .int)) (.lst []) = some (.bl ns.isEmpty) := by
  simp only [eqG, eqOk_ints, eqOk_nil, eqv_nil]
  cases ns <;> rfl
theorem neG_nil (ns : List Int) : neG (.lst (ns.map .int)) (.lst []) = some (.bl !ns.isEmpty) := by
  unfold neG; rw [eqG_nil]
theorem intsOf_ints (ns : List Int) : intsOf (ns.map D.int) = some ns := by
  induction ns with
  | nil => rfl
  | cons n ns ih => simp [intsOf, ih]
theorem flat_ints (ns : List Int) : (ns.map D.int).all flatD = true := by
  rw [List.all_eq_true]; intro z hz; simp at hz; obtain ⟨w, _, rfl⟩ := hz; rfl
theorem inD_ints (k : Int) (ns : List Int) : inD (.int k) (ns.map D.int) = ns.contains k := by
  induction ns with
  | nil => rfl
  | cons n ns ih =>
    unfold inD at ih ⊢
    rw [List.map_cons, List.any_cons, ih, List.contains_cons]
    show ((n == k) || _) = ((k == n) || _)
    have e : (n == k) = (k == n) := by
      rw [Bool.eq_iff_iff, beq_iff_eq, beq_iff_eq]
      exact eq_comm
    rw [e]
theorem inG_ints (neg : Bool) (k : Int) (ns : List Int) : inG neg (.int k) (.lst (ns.map .int)) = some (.bl (if neg then !(ns.contains k) else ns.contains k)) := by
  simp [inG, flatD, flat_ints, inD_ints]
theorem st_wh : ¬ (("work" : Str) = "hold") := by decide +kernel
theorem st_wf : ¬ (("work" : Str) = "free") := by decide +kernel
theorem st_hw : ¬ (("hold" : Str) = "work") := by decide +kernel
theorem st_hf : ¬ (("hold" : Str) = "free") := by decide +kernel
theorem st_fw : ¬ (("free" : Str) = "work") := by decide +kernel
theorem st_fh : ¬ (("free" : Str) = "hold") := by decide +kernel
section
variable {gf : D → DEnv → Option DEnv} {B : DEnv → Option Out} {d x : D} {ds : List D} {env e1 e2 : DEnv} {c : Str}
theorem forL_nx (h1 : gf d env = some e1) (h2 : B e1 = some (.nx e2)) : forL gf B (d :: ds) env = forL gf B ds e2 := by simp [forL, h1, h2]
theorem forL_ct (h1 : gf d env = some e1) (h2 : B e1 = some (.ct e2)) : forL gf B (d :: ds) env = forL gf B ds e2 := by simp [forL, h1, h2]
theorem forL_bk (h1 : gf d env = some e1) (h2 : B e1 = some (.bk e2)) : forL gf B (d :: ds) env = some (.nx e2) := by simp [forL, h1, h2]
theorem forL_rt (h1 : gf d env = some e1) (h2 : B e1 = some (.rt x e2)) : forL gf B (d :: ds) env = some (.rt x e2) := by simp [forL, h1, h2]
theorem forL_ex (h1 : gf d env = some e1) (h2 : B e1 = some (.ex c e2)) : forL gf B (d :: ds) env = some (.ex c e2) := by simp [forL, h1, h2]
variable {T : DEnv → Option Bool} {n : Nat}
theorem whL_no (h : T env = some false) : whL T B (n + 1) env = some (.nx env) := by simp [whL, h]
theorem whL_nx (h : T env = some true) (h2 : B env = some (.nx e2)) : whL T B (n + 1) env = whL T B n e2 := by simp [whL, h, h2]
variable {E : DEnv → Option D} {w : DEnv} {y : D} {ys : List D}
theorem lcL_yes (h1 : gf d w = some e1) (h2 : T e1 = some true) (h3 : E e1 = some y) (h4 : lcL gf T E w ds = some ys) : lcL gf T E w (d :: ds) = some (y :: ys) := by simp [lcL, h1, h2, h3, h4]
theorem lcL_no (h1 : gf d w = some e1) (h2 : T e1 = some false) (h4 : lcL gf T E w ds = some ys) : lcL gf T E w (d :: ds) = some ys := by simp [lcL, h1, h2, h4]
end
/-- a comprehension's items, by their places -/
theorem lcL_map {gf : D → DEnv → Option DEnv} {T : DEnv → Option Bool} {E : DEnv → Option D} {w : DEnv} {α : Type} (f : α → D) (g : α → D) (p : α → Bool) : ∀ (l : List α), (∀ a ∈ l, ∃ e, gf (f a) w = some e ∧ T e = some (p a) ∧ (p a = true → E e = some (g a))) →
    lcL gf T E w (l.map f) = some ((l.filter p).map g)
  | [], _ => rfl
  | a :: l, h => by
    obtain ⟨e, h1, h2, h3⟩ := h a (by simp)
    have ih := lcL_map f g p l fun b hb => h b (by simp [hb])
    cases hp : p a with
    | true =>
      rw [List.map_cons, lcL_yes h1 (by rw [h2, hp]) (h3 hp) ih, List.filter_cons_of_pos hp, List.map_cons]
    | false =>
      rw [List.map_cons, lcL_no h1 (by rw [h2, hp]) ih, List.filter_cons_of_neg (by simp [hp])]
theorem lcL_all {gf : D → DEnv → Option DEnv} {E : DEnv → Option D} {w : DEnv} {α : Type} (f : α → D) (g : α → D) (l : List α) (h : ∀ a ∈ l, ∃ e, gf (f a) w = some e ∧ E e = some (g a)) : lcL gf (cst0 true) E w (l.map f) = some (l.map g) := by
  have := lcL_map (T := cst0 true) (E := E) (w := w) (gf := gf) f g (fun _ => true) l fun a ha => by
    obtain ⟨e, h1, h2⟩ := h a ha
    exact ⟨e, h1, rfl, fun _ => h2⟩
  rw [this, List.filter_eq_self.mpr fun _ _ => rfl]
theorem cut_take (xs : List D) (i : Nat) (h : i ≤ xs.length) : DL.cutD xs none (some (i : Int)) = xs.take i := by
  unfold DL.cutD
  rw [show HT.sIx xs.length xs.length (some (i : Int)) = min i xs.length from HT.sIx_nat xs.length xs.length i, HT.sIx_none, Nat.min_eq_left h]
  simp
end DL

namespace DL
open PySem PySem.Spec PyProof.Rows L2 Evl
/-! ### places of a sequence -/
theorem ixN_nat (n i : Nat) : ixN n (i : Int) = if i < n then some i else none := by
  unfold ixN
  rw [if_pos (Int.natCast_nonneg i)]
  by_cases h : i < n
  · rw [if_pos (by omega), if_pos h]; rfl
  · rw [if_neg (by omega), if_neg h]
theorem atI_nat {α : Type} (xs : List α) (i : Nat) : atI xs (i : Int) = xs[i]? := by
  unfold atI
  rw [ixN_nat]
  by_cases h : i < xs.length
  · rw [if_pos h]; rfl
  · rw [if_neg h, List.getElem?_eq_none (by omega)]; rfl
theorem atI_nat0 {α : Type} (xs : List α) {i : Int} (h : 0 ≤ i) : atI xs i = xs[i.toNat]? := by
  have := atI_nat xs i.toNat
  rwa [Int.toNat_of_nonneg h] at this
theorem atI_0 {α : Type} (x : α) (xs : List α) : atI (x :: xs) 0 = some x := atI_nat _ 0
theorem atI_1 {α : Type} (x y : α) (xs : List α) : atI (x :: y :: xs) 1 = some y := atI_nat _ 1
theorem atI_2 {α : Type} (x y z : α) (xs : List α) : atI (x :: y :: z :: xs) 2 = some z := atI_nat _ 2
theorem atI_3 {α : Type} (x y z w : α) (xs : List α) : atI (x :: y :: z :: w :: xs) 3 = some w := atI_nat _ 3
/-! ### numbers -/
theorem add_ii {i j : Int} : addG (.int i) (.int j) = some (.int (i + j)) := rfl
theorem sub_ii {i j : Int} : subG (.int i) (.int j) = some (.int (i - j)) := rfl
theorem mod_ii {i j : Int} (h : 0 < j) : modG (.int i) (.int j) = some (.int (i % j)) := by simp [modG, iiG, h]
theorem div_ii {i j : Int} (h : 0 < j) (h2 : j < 1073741824) : divG (.int i) (.int j) = some (.int (i / j)) := by simp [divG, iiG, h, h2]
theorem mul_l {i j : Int} (h : -(2 ^ 64) < i) (h2 : i < 2 ^ 64) : mulG (.int i) (.int j) = some (.int (i * j)) := by simp only [mulG, if_pos (Or.inl (And.intro h h2))]
theorem mul_r {i j : Int} (h : -(2 ^ 64) < j) (h2 : j < 2 ^ 64) : mulG (.int i) (.int j) = some (.int (i * j)) := by simp only [mulG, if_pos (Or.inr (And.intro h h2))]
theorem add_ll {xs ys : List D} (h : xs.length + ys.length ≤ 100000) : addG (.lst xs) (.lst ys) = some (.lst (xs ++ ys)) := by simp only [addG, if_pos h]
theorem mul_li {xs : List D} {k : Int} (h : -100000 ≤ k ∧ k ≤ 100000 ∧ xs.length * k.toNat ≤ 100000) : mulG (.lst xs) (.int k) = some (.lst (List.replicate k.toNat xs).flatten) := by simp only [mulG, if_pos h]
theorem lt_ii {i j : Int} : ltG (.int i) (.int j) = some (.bl (decide (i < j))) := rfl
theorem le_ii {i j : Int} : leG (.int i) (.int j) = some (.bl (decide (i ≤ j))) := rfl
theorem gt_ii {i j : Int} : gtG (.int i) (.int j) = some (.bl (decide (i > j))) := rfl
theorem ge_ii {i j : Int} : geG (.int i) (.int j) = some (.bl (decide (i ≥ j))) := rfl
/-! ### lists of truths -/
theorem lay_bools : ∀ ns : List Bool, PyData.canLayAll0 (toPyL (ns.map D.bl)) = true ∧ PyData.depthAll (toPyL (ns.map D.bl)) = 0
  | [] => by constructor <;> simp [toPyL, PyData.canLayAll0, PyData.depthAll]
  | n :: ns => by
    obtain ⟨h1, h2⟩ := lay_bools ns
    constructor <;> simp [toPyL, toPy, PyData.canLayAll0, PyData.canLay0, PyData.depthAll, PyData.depth, h1, h2]
theorem eqOk_bools (ns : List Bool) : eqOk (.lst (ns.map .bl)) = true := by
  obtain ⟨h1, h2⟩ := lay_bools ns
  simp [eqOk, SeqAt.shaped, toPy, PyData.canLay0, PyData.depth, h1, h2]
theorem eqv_bools : ∀ as bs : List Bool, PyData.eqvAll (toPyL (as.map .bl)) (toPyL (bs.map .bl)) = decide (as = bs)
  | [], [] => rfl
  | [], _ :: _ => rfl
  | _ :: _, [] => rfl
  | a :: as, b :: bs => by
    have ih := eqv_bools as bs
    simp only [List.map_cons, toPyL, toPy, PyData.eqvAll, PyData.eqv, ih, List.cons.injEq, Bool.decide_and]
    cases a <;> cases b <;> simp
theorem eqG_bools (as bs : List Bool) : eqG (.lst (as.map .bl)) (.lst (bs.map .bl)) = some (.bl (decide (as = bs))) := by
  simp only [eqG, eqOk_bools, Bool.and_self, if_true, toPy, PyData.eqv, eqv_bools]
/-! ### the last place -/
theorem atI_l2 {α : Type} (xs : List α) (y : α) : atI (xs ++ [y]) (-1) = some y := by
  unfold atI ixN
  rw [if_neg (by decide), if_pos (by simp; omega)]
  simp only [Option.bind_some, List.length_append, List.length_cons, List.length_nil]
  rw [show ((-1 : Int) + ((xs.length + (0 + 1) : Nat) : Int)).toNat = xs.length from by omega]
  simp
theorem atI_l1 {α : Type} (y : α) : atI [y] (-1) = some y := atI_l2 [] y
theorem atI_l3 {α : Type} (x : α) (xs : List α) (y : α) : atI (x :: (xs ++ [y])) (-1) = some y := atI_l2 (x :: xs) y
theorem seqIndex_nat {i : Int} {n : Nat} (h : 0 ≤ i) (h2 : i < n) : seqIndex? i n = some i.toNat := by
  unfold seqIndex?
  simp only [if_neg (show ¬ i < 0 by omega)]
  simp [h, h2]
/-! ### what is shown in a text -/
theorem js_two {A : Str} {N : Int} (env : DEnv) (h1 : (Str.empty ++ A).length ≤ 100000) (h2 : N.natAbs.log2 < 1920) (h3 : (Str.empty ++ A ++ toString N).length ≤ 100000) : jsF [cst (.str A), op1 fmtG (cst (.int N))] Str.empty env = some (.str (Str.empty ++ A ++ toString N)) := by
  simp only [jsF, cst, op1, fmtG, if_pos h1, if_pos h2, if_pos h3]
theorem js_three {A B : Str} {N : Int} (env : DEnv) (h1 : (Str.empty ++ A).length ≤ 100000) (h2 : N.natAbs.log2 < 1920) (h3 : (Str.empty ++ A ++ toString N).length ≤ 100000) (h4 : (Str.empty ++ A ++ toString N ++ B).length ≤ 100000) : jsF [cst (.str A), op1 fmtG (cst (.int N)), cst (.str B)] Str.empty env = some (.str (Str.empty ++ A ++ toString N ++ B)) := by
  simp only [jsF, cst, op1, fmtG, if_pos h1, if_pos h2, if_pos h3, if_pos h4]
end DL

namespace DL
open PySem PySem.Spec PyProof.Rows L2 Evl
theorem fun_ofD {K : PySem.W.Frag} {x qual : Str} {st : Stmt} {f : Addr} {fd : FuncData} (h : FunD K x qual (defArgs st) (defBody st) (defScope st) [] [] f fd) : Fun K x qual st f fd := by
  obtain ⟨⟨oc, od, dV, kV, doc, pm, an, cdv, ct, osl, h1, h2, h3, h4, h5⟩, kp⟩ := h
  rcases h4 with ⟨_, rfl⟩ | ⟨h4, _⟩
  · exact ⟨⟨oc, od, kV, doc, pm, an, cdv, ct, osl, h1, h2, h3⟩, kp⟩
  · exact absurd rfl h4
theorem fun_at {fa : List He.Fa} {fn : List He.DefD} {K : PySem.W.Frag} (c : He.SaysD fa fn K) (i : Nat) {x qual : Str} {st : Stmt} (h : fn[i]? = some ⟨(x, none), x, qual, defArgs st, defBody st, defScope st, [], []⟩) : ∃ fd, Fun K x qual st (He.ga K x) fd := by
  obtain ⟨fd, F⟩ := c.def_ i h
  exact ⟨fd, fun_ofD F⟩
/-! ### the own errors -/
def excCB (K : PySem.W.Frag) (D : Addr) : Bool := (He.eqO (PySem.W.findIn K (.ref D) "__getattribute__") (some (some (.builtin "BaseException.__getattribute__"))) && He.eqO (PySem.W.findIn K (.ref D) "__getattr__") (some none)) && ((decide (PySem.W.subIn K (.ref D) (.type "BaseException") = some true) && PySem.W.hasDictIn K D) && ((He.eqO (PySem.W.findIn K (.ref D) "__class__") (some (some (.builtin "object.__class__"))) && He.eqO (PySem.W.specialIn K (.builtin "object.__class__") "__get__") (some (some (.builtin "getset_descriptor.__get__")))) && (decide (PySem.W.takesIn K (.builtin "object.__class__") = some true) && decide (PySem.W.mroIn K D (.type "object") = some true))))
theorem excCB_ok {K : PySem.W.Frag} {D : Addr} (h : excCB K D = true) : ExcC K D := by
  unfold excCB at h
  simp only [Bool.and_eq_true, decide_eq_true_eq] at h
  obtain ⟨⟨h1, h2⟩, ⟨h3, h4⟩, ⟨h5, h6⟩, h7, h8⟩ := h
  exact ⟨He.eqO_ok h1, He.eqO_ok h2, h3, h4, He.eqO_ok h5, He.eqO_ok h6, h7, h8⟩
def errMore (es : List Str) (K : PySem.W.Frag) : Bool := (es.all fun c => excCB K (He.ga K c) && decide (PySem.W.kitOne K (.ref (He.ga K c)) (.type "ValueError") = some true)) && es.all fun c => (("HasteError" : Str) :: es).all fun h => decide (PySem.W.exmOne K (.ref (He.ga K c)) (.ref (He.ga K h)) = some (subN c h)) && decide (PySem.W.kitOne K (.ref (He.ga K c)) (.ref (He.ga K h)) = some (subN c h))
theorem errS_of {es : List Str} {K : PySem.W.Frag} {mg : Str → Option Value} (c : errMore es K = true) (hg : ∀ c ∈ ("HasteError" : Str) :: es, mg c = some (.ref (He.ga K c))) (he : ∀ c ∈ es, (He.Fa.exc c).ok K = true) : ErrS es K mg := by
  unfold errMore at c
  rw [Bool.and_eq_true, List.all_eq_true, List.all_eq_true] at c
  obtain ⟨c1, c2⟩ := c
  refine ⟨fun e he' => ?_, ⟨_, hg _ List.mem_cons_self⟩, fun e he' h hh C D hC hD => ?_⟩
  · have h1 := c1 e he'
    rw [Bool.and_eq_true, decide_eq_true_eq] at h1
    have h2 := he e he'
    simp only [He.Fa.ok, Bool.and_eq_true, decide_eq_true_eq] at h2
    exact ⟨_, hg e (List.mem_cons_of_mem _ he'), ⟨h2.1, h2.2.1, h2.2.2.1, h2.2.2.2⟩, excCB_ok h1.1, h1.2⟩
  · have h1 := List.all_eq_true.mp (c2 e he') h hh
    rw [Bool.and_eq_true, decide_eq_true_eq, decide_eq_true_eq] at h1
    rw [hg e (List.mem_cons_of_mem _ he')] at hC
    rw [hg h hh] at hD
    cases hC
    cases hD
    exact h1
/-! ### the top -/
def CXa (P : Program) : CXT := fun o H s E u s' => ∃ w, L2.CX P w o H s E u s'
theorem fnok_any {P : Program} {w : World} {K : PySem.W.Frag} {mg : Str → Option Value} {base : Heap} {k : Nat} {f : Addr} {fd : FuncData} {ps : List Str} {sp : Sp} (h : FnOk P w K mg base (L2.CX P w) k f fd ps sp) : FnOk P w K mg base (CXa P) k f fd ps sp :=
  ⟨h.len, fun A outer s H args us vs Q E hr e0 hb hv hs => codeAny_mono (h.run A outer s H args us vs Q E hr e0 hb hv hs) fun r s' hc => by
    cases r with
    | ok v => cases v <;> exact hc
    | error e => exact ⟨w, hc⟩⟩
theorem noXa {P : Program} {H : Hp} {s s' : Shared} {e : Value} (h : CXa P [] H s (fun _ _ _ => False) e s') : False := by
  obtain ⟨w, h⟩ := h
  obtain ⟨_, _, _, _, _, _, _, _, _, _, _, _, z⟩ := h
  exact z
theorem top_of {P : Program} {w : World} {K : PySem.W.Frag} {mg : Str → Option Value} {h : Heap} {k n : Nat} {fa : Addr} {sf : List D → Option Res} {st : Stmt} {p : Str} (KX : K.In h) {fd : FuncData} (F : Fun K "law" "law" st fa fd)
    (hp : ∀ (s : Shared) (u : Value), BindsTo s fd ⟨[u], []⟩ [(p, u)])
    (hc : ∀ base : Heap, K.In base → base.Ns mainGlobals mg → FnOk P w K mg base (L2.CX P w) k fa fd [p] (spF K mg 1 sf))
    (hs : ∀ ns : List Int, ns.length ≤ n → sf [.scr ns] = some (.ok (.bl true))) :
    ∃ (K : PySem.W.Frag) (fd : FuncData) (sp : Sp), K.In h ∧ (∀ (s : Shared) (u : Value), BindsTo s fd ⟨[u], []⟩ [(p, u)]) ∧
        (∀ (H : Hp) (a : Addr) (ns : List Int), ns.length ≤ n → Only H → SqL K H a (ns.map V.int) → sp [.ref a] H (fun v _ => v = .bl true) fun _ _ _ => False) ∧
        ∀ base : Heap, K.In base → base.Ns mainGlobals mg → FnOk P w K mg base (CXa P) k fa fd [p] sp := by
  refine ⟨K, fd, spF K mg 1 sf, KX, hp, fun H a ns hl ho hq => ?_, fun base hK hN => fnok_any (hc base hK hN)⟩
  refine ⟨rfl, H, [.scr ns], _, fun _ _ e => e, ⟨rfl, fun i x d h1 h2 => ?_⟩, hs ns hl, fun v H' F' g hv => hv.inv_bl⟩
  cases i with
  | zero => cases h1; cases h2; exact .scr hq
  | succ i => cases h1
end DL

namespace DL
open PySem PySem.Spec PyProof.Rows L2 Evl
/-! ### x in range(..) -/
section
variable {X : Cx}
theorem cr_range1 : CallR X (.type "range") (fun vs H Q => ∃ j, vs = [V.int j] ∧ ∀ p, H p = none → Q (.ref p) (upd H p (.rng 0 j))) := by
  intro pins s σ H vs us Q I r h
  obtain ⟨j, rfl, q⟩ := h
  cases r with
  | cons rj rr =>
    cases rr
    obtain ⟨t, rfl⟩ := rj
    refine call_range_1 ⟨.ref s.heap.objs.size, upd H s.heap.objs.size (.rng 0 j), I.laid (t' := s.toks + 1 + 1) (fun b o e => Heap.get?_push_of_some _ e) (Nat.le_refl _) ?_, rfl, q _ (I.hok.fresh (Nat.le_refl _))⟩
    exact ⟨_, _, _, Heap.get?_push_size _ rfl⟩
/-- i not in a range -/
theorem op_nin_rng : OpR X (compareOp .NotIn) (fun x y H Q => ∃ i a lo hi, x = V.int i ∧ y = V.ref a ∧ H a = some (.rng lo hi) ∧ Q (.bl (!decide (lo ≤ i ∧ i < hi))) H) := by
  intro pins s σ H x y v u Q I rx ry h
  obtain ⟨i, a, lo, hi, rfl, rfl, ha, q⟩ := h
  obtain ⟨k, rfl⟩ := rx
  obtain rfl : u = Value.ref a := ry
  obtain ⟨t1, t2, t3, ho⟩ := I.hok a _ ha
  show wpAny _ _ (do return Value.bool (!(← contains (Value.ref a) (Value.int i k)))) _ _ s
  refine wpAny_bind (wpAny_contains_slot (T := "range") ⟨_, ho, rfl⟩ F.slot_range_contains (call_meets F.slot_range_contains ⟨_, ho, rfl⟩ F.entry_range_contains (F.args_range_contains_2 _ _) (q_contains a lo hi i t1 t2 t3 k) ⟨ho, wpAny_truthy_bool (wpAny_pure ⟨.bl _, H, I, rfl, ?_⟩)⟩))
  rw [place1]
  exact q
/-- the bounds of range(..) -/
def rngB : List D → Option (Int × Int)
  | [.int j] => some (0, j)
  | [.int i, .int j] => some (i, j)
  | _ => none
def inRg (neg : Bool) (fa : DEnv → Option D) (fs : DEnv → Option (List D)) : DEnv → Option D := fun env => match fa env with
  | some (.int k) => (match fs env with
    | some ds => (match rngB ds with
      | some (lo, hi) => some (.bl (if neg then !decide (lo ≤ k ∧ k < hi) else decide (lo ≤ k ∧ k < hi)))
      | none => none)
    | none => none)
  | _ => none
def RgIn (op : CmpOp) (neg : Bool) : Prop := ∀ X : Cx, OpR X (compareOp op) (fun x y H Q => ∃ i a lo hi, x = V.int i ∧ y = V.ref a ∧ H a = some (.rng lo hi) ∧ Q (.bl (if neg then !decide (lo ≤ i ∧ i < hi) else decide (lo ≤ i ∧ i < hi))) H)
theorem rgIn : RgIn .In false := fun X => op_in_rng
theorem rgNot : RgIn .NotIn true := fun X => op_nin_rng
variable {op : CmpOp} {neg : Bool} {a e e1 e2 : Expr} {fa : DEnv → Option D} {fs : DEnv → Option (List D)} {p pos pos2 : Pos}
theorem run_inRg {fa : DEnv → Option D} {fs : DEnv → Option (List D)} {K : PySem.W.Frag} {rc : List V → Hp → VK → Prop} (hrc : ∀ vs H Q lo hi, (vs = [V.int hi] ∧ lo = 0 ∨ vs = [V.int lo, V.int hi]) → (∀ p, H p = none → Q (.ref p) (upd H p (.rng lo hi))) → rc vs H Q)
    {σ : L2.St} {H : Hp} {Q : VK} (h : dE K (inRg neg fa fs) σ H Q) : tOp (fun x y H Q => ∃ i a lo hi, x = V.int i ∧ y = V.ref a ∧ H a = some (.rng lo hi) ∧ Q (.bl (if neg then !decide (lo ≤ i ∧ i < hi) else decide (lo ≤ i ∧ i < hi))) H) (dE K fa) (tCB rc (dA K fs)) σ H Q := by
  obtain ⟨H0, F0, F, env, d, rl, hf, q⟩ := h
  unfold inRg at hf
  split at hf
  · rename_i k ha
    split at hf
    · rename_i ds hds
      split at hf
      · rename_i lo hi hb
        cases hf
        refine ⟨H0, F0, F, env, _, rl, ha, fun v H1 F1 g1 hv => ?_⟩
        cases hv.inv_int
        refine ⟨H0, F0, F1, env, ds, rl.grow g1, hds, fun vs H2 F2 g2 hv2 => ?_⟩
        refine hrc vs H2 _ lo hi ?_ (fun p hp => ?_)
        · unfold rngB at hb
          split at hb
          · cases hb
            obtain ⟨x, rfl, hx⟩ := hv2.inv_one
            cases hx.inv_int
            exact .inl ⟨rfl, rfl⟩
          · cases hb
            obtain ⟨x, y, rfl, hx, hy⟩ := hv2.inv_two
            cases hx.inv_int
            cases hy.inv_int
            exact .inr rfl
          · cases hb
        · exact ⟨k, p, lo, hi, rfl, rfl, by simp [upd], q _ _ _ ((g1.trans g2).trans (Grow.newM g2.fh hp)) (.bl _)⟩
      · cases hf
    · cases hf
  · cases hf
theorem rc_rg1 (vs : List V) (H : Hp) (Q : VK) (lo hi : Int) (h : vs = [V.int hi] ∧ lo = 0) (q : ∀ p, H p = none → Q (.ref p) (upd H p (.rng lo hi))) : ∃ j, vs = [V.int j] ∧ ∀ p, H p = none → Q (.ref p) (upd H p (.rng 0 j)) := by
  obtain ⟨rfl, rfl⟩ := h
  exact ⟨hi, rfl, q⟩
theorem cr_range : CallR X (.type "range") (fun vs H Q => ∃ lo hi, (vs = [V.int hi] ∧ lo = 0 ∨ vs = [V.int lo, V.int hi]) ∧ ∀ p, H p = none → Q (.ref p) (upd H p (.rng lo hi))) := by
  intro pins s σ H vs us Q I r h
  obtain ⟨lo, hi, h1 | rfl, q⟩ := h
  · obtain ⟨rfl, rfl⟩ := h1
    exact cr_range1 pins s σ H _ us Q I r ⟨hi, rfl, q⟩
  · exact cr_range2 pins s σ H _ us Q I r ⟨lo, hi, rfl, q⟩
theorem de_inRg (ho : RgIn op neg) (hg : Gl X "range") (hm : X.mg "range" = none) (ha : PE X a (dE X.K fa)) (hb : PA X (e :: es) (dA X.K fs)) (he : starEach (e :: es) X.env = (false, eval e X.env) :: starEach es X.env := by rfl) (hpl : (backTo pos2 (starEach es X.env)).any (·.1) = false := by rfl) (hk : behindInMarks op (.Call (.Name "range" p) (e :: es) [] pos2) = false := by rfl) :
    PE X (.Compare a [op] [.Call (.Name "range" p) (e :: es) [] pos2] pos) (dE X.K (inRg neg fa fs)) :=
  PE.imp (pe_cmpR (ho X) ha (pe_callTy cr_range hg hm (by decide +kernel) hb (by decide) (by decide) he hpl) hk) fun _ _ _ h => run_inRg (fun vs H Q lo hi h1 h2 => ⟨lo, hi, h1, h2⟩) h
theorem dt_inRg (ho : RgIn op neg) (hg : Gl X "range") (hm : X.mg "range" = none) (ha : PE X a (dE X.K fa)) (hb : PA X (e :: es) (dA X.K fs)) (he : starEach (e :: es) X.env = (false, eval e X.env) :: starEach es X.env := by rfl) (hpl : (backTo pos2 (starEach es X.env)).any (·.1) = false := by rfl) (hk : behindInMarks op (.Call (.Name "range" p) (e :: es) [] pos2) = false := by rfl) :
    PT X (.Compare a [op] [.Call (.Name "range" p) (e :: es) [] pos2] pos) (dT X.K (tstB (inRg neg fa fs))) :=
  PT.imp (pt_cmpR (ho X) ha (pe_callTy cr_range hg hm (by decide +kernel) hb (by decide) (by decide) he hpl) hk) fun _ _ _ h => dT_test (fun _ _ _ z => run_inRg (fun vs H Q lo hi h1 h2 => ⟨lo, hi, h1, h2⟩) z) h
end
end DL

namespace DL
open PySem PySem.Spec PyProof.Rows L2 Evl
/-! ### a def whose last argument is the caller's own list, which it changes -/
def spO (K : PySem.W.Frag) (n : Nat) (sf : List D → List D → Option (D × List D)) : Sp := fun vs H Q _ => ∃ (us : List V) (p : Addr) (xs : List V) (ds dxs : List D) (F : Hp) (r : D × List D), vs = us ++ [.ref p] ∧ us.length + 1 = n ∧ Ex F H ∧ H p = some (.lst xs) ∧ F p = none ∧ DtA K F us ds ∧ DtA K F xs dxs ∧ sf ds dxs = some r ∧
  ∀ v H' F' ys, Grow (drop H p) F H' F' → H' p = some (.lst ys) → F' p = none → DtA K F' ys r.2 → Dt K F' v r.1 → Q v H'
def startO (ds dxs : List D) (p : Addr) (n : Nat) : DEnv := ds.map .val ++ .own (some p) (.l dxs) :: List.replicate (n - ds.length - 1) .no
def resP (i : Nat) (p : Addr) : Option Out → Option (D × List D)
  | some (.rt d e) => (match e[i]? with
    | some (.own (some q) (.l ys)) => if q = p then some (d, ys) else none
    | _ => none)
  | _ => none
theorem drop_same {H : Hp} {p : Addr} : drop H p p = none := by unfold drop; rw [if_pos rfl]
theorem drop_ne {H : Hp} {p a : Addr} (h : a ≠ p) : drop H p a = H a := by unfold drop; rw [if_neg h]
theorem rel_startO {K : PySem.W.Frag} {H F : Hp} {N : List Str} {us xs : List V} {ds dxs : List D} {p : Addr} (e : Ex F H) (hp : H p = some (.lst xs)) (hF : F p = none) (h : DtA K F us ds) (hx : DtA K F xs dxs) (hn : us.length < N.length) :
    Rel K (drop H p) F F (startO ds dxs p N.length) (L2.start N (us ++ [.ref p])) H := by
  have hl := h.len
  have get : ∀ (i : Nat) (s : Sl), (startO ds dxs p N.length)[i]? = some s → (∃ d, ds[i]? = some d ∧ s = .val d) ∨ (i = ds.length ∧ s = .own (some p) (.l dxs)) ∨ s = .no := fun i s hs => by
    unfold startO at hs
    by_cases hi : i < ds.length
    · rw [List.getElem?_append_left (by simpa using hi), List.getElem?_map, List.getElem?_eq_getElem hi] at hs
      cases hs
      exact .inl ⟨_, List.getElem?_eq_getElem hi, rfl⟩
    · rw [List.getElem?_append_right (by simpa using hi), List.length_map] at hs
      cases hd : i - ds.length with
      | zero =>
        rw [hd] at hs
        cases hs
        exact .inr (.inl ⟨by omega, rfl⟩)
      | succ m =>
        rw [hd, List.getElem?_cons_succ, List.getElem?_replicate] at hs
        split at hs
        · cases hs; exact .inr (.inr rfl)
        · cases hs
  have st : ∀ i v, (us ++ [V.ref p])[i]? = some v → (L2.start N (us ++ [.ref p]))[i]? = some (some v) := fun i v hv => by
    unfold L2.start
    have hi := (List.getElem?_eq_some_iff.mp hv).1
    rw [List.getElem?_append_left (by simpa using hi), List.getElem?_map, hv]
    rfl
  refine ⟨⟨fun a u ha => ?_, Ex.refl _, e, fun _ _ => rfl⟩, fun i d hd => ?_, ⟨fun _ => p, fun i a c hc => ?_, fun i j a b c d h1 h2 _ => ?_⟩, ?_, fun i a ha => ?_⟩
  · by_cases hap : a = p
    · subst hap; rw [drop_same] at ha; cases ha
    · rw [drop_ne hap] at ha; exact ha
  · rcases get i _ hd with ⟨d', h1, h2⟩ | ⟨_, z⟩ | z
    · cases h2
      obtain ⟨x, hx, hxd⟩ := h.get h1
      refine ⟨x, st i x ?_, hxd⟩
      rw [List.getElem?_append_left (List.getElem?_eq_some_iff.mp hx).1]
      exact hx
    · cases z
    · cases z
  · rcases get i _ hc with ⟨_, _, z⟩ | ⟨hi, z⟩ | z
    · cases z
    · cases z
      refine ⟨_, st i _ ?_, hp, .l hx, hF, drop_same, fun b hb => by cases hb; rfl⟩
      rw [hi, List.getElem?_append_right (by omega), hl, Nat.sub_self]
      rfl
    · cases z
  · rcases get i _ h1 with ⟨_, _, z⟩ | ⟨hi, _⟩ | z
    · cases z
    · rcases get j _ h2 with ⟨_, _, z⟩ | ⟨hj, _⟩ | z
      · cases z
      · rw [hi, hj]
      · cases z
    · cases z
  · simp [startO, L2.start, hl]; omega
  · rcases get i _ ha with ⟨_, _, z⟩ | ⟨_, z⟩ | z <;> cases z
section
variable {P : Program} {w : World} {K : PySem.W.Frag} {mg : Str → Option Value} {base : Heap}
theorem fn_okO {x qual : Str} {st : Stmt} {f : Addr} {fd : FuncData} {N ps : List Str} {k n : Nat} {sf : List D → List D → Option (D × List D)} {B : DEnv → Option Out} (F : Fun K x qual st f fd) (S : FnScope N ps (defScope st)) (hn : ps.length = n) (hN : n ≤ N.length)
    (hbody : ∀ (cdv : Value) (A : Around) (outer : List Env) (s : Shared) (H : Hp) (E : XK), Room k (A.deeper (envOfC qual (defScope st) s.heap.objs.size f cdv)) →
      PSs (cxOf (L2.CX P w) P w K mg base N qual (defScope st) f cdv A outer s H E) (defBody st) (dS K (RW mg fun cls d _ H => E cls d H) B))
    (hB : ∀ (p : Addr) ds dxs r, ds.length + 1 = n → sf ds dxs = some r → resP ds.length p (B (startO ds dxs p N.length)) = some r) : FnOk P w K mg base (L2.CX P w) (k + 1) f fd ps (spO K n sf) := by
  refine F.okX S (fun vs H Q E h => ?_) (fun cdv A outer s H vs Q E hr h => ⟨dS K (RW mg fun cls d _ H => E cls d H) B, hbody cdv A outer s H E hr, ?_⟩)
  · obtain ⟨us, p, _, _, _, _, _, rfl, h1, _⟩ := h
    rw [hn]; simp [h1]
  obtain ⟨us, p, xs, ds, dxs, Fz, r, rfl, hl, e, hp, hF, hu, hx, hs, q⟩ := h
  have hb := hB p ds dxs r (by rw [← hu.len]; exact hl) hs
  cases ho : B (startO ds dxs p N.length) with
  | none => rw [ho] at hb; cases hb
  | some o =>
    rw [ho] at hb
    refine ⟨drop H p, Fz, Fz, _, o, rel_startO e hp hF hu hx (by omega), ho, ?_⟩
    cases o with
    | rt d env =>
      unfold resP at hb
      simp only at hb
      split at hb
      · rename_i q' ys he
        split at hb
        · rename_i hq
          subst hq
          cases hb
          intro v F' σ H' r' hd
          obtain ⟨l, o, h1, h2, h3, h4, h5, h6⟩ := r'.own he
          have hl' := h6 q' rfl
          subst hl'
          cases h3 with
          | @l vs _ h3 => exact q v H' F' vs r'.g h2 h4 h3 hd
        · cases hb
      · cases hb
    | _ => cases hb
end
section
variable {X : Cx} {R : RX} {e : Expr} {es : List Expr} {fe : DEnv → Option D} {fs : DEnv → Option (List D)} {fm : DEnv → Option (D × DEnv)} {x y : Str} {px p pos apos : Pos}
/-- arguments, the last one the own list of the slot j -/
def dAO (K : PySem.W.Frag) (j : Nat) (fs : DEnv → Option (List D)) : TA := fun σ H Q => ∃ H0 F0 F env ds s, Rel K H0 F0 F env σ H ∧ fs env = some ds ∧ env[j]? = some s ∧ (∃ a c, s = .own a c) ∧ ∀ us p H' F', Grow H F H' F' → DtA K F' us ds → σ[j]? = some (some (.ref p)) → Q (us ++ [.ref p]) H'
theorem dao_last {j : Nat} (hx : PE X (.Name x px) (tVar j)) (hs : starEach [Expr.Name x px] X.env = (false, eval (.Name x px) X.env) :: starEach [] X.env := by rfl) : PA X [.Name x px] (dAO X.K j (cst0 [])) := by
  refine PA.imp (pa_cons hx pa_nil hs) ?_
  rintro σ H Q ⟨H0, F0, F, env, ds, s, r, hf, he, ⟨a, c, rfl⟩, q⟩
  cases hf
  obtain ⟨l, o, h1, h2, h3, h4, h5, h6⟩ := r.own he
  exact ⟨_, h1, q [] l H F (.refl r.fh) .nil h1⟩
theorem dao_cons {j : Nat} (ha : PE X e (dE X.K fe)) (hr : PA X es (dAO X.K j fs)) (hs : starEach (e :: es) X.env = (false, eval e X.env) :: starEach es X.env := by rfl) : PA X (e :: es) (dAO X.K j (consA fe fs)) := by
  refine PA.imp (pa_cons ha hr hs) ?_
  rintro σ H Q ⟨H0, F0, F, env, d, s, rl, hf, he, ho, q⟩
  unfold consA at hf
  cases ha : fe env with
  | none => rw [ha] at hf; cases hf
  | some da =>
    rw [ha] at hf
    simp only at hf
    cases hb : fs env with
    | none => rw [hb] at hf; cases hf
    | some db =>
      rw [hb] at hf
      cases hf
      exact ⟨H0, F0, F, env, da, rl, ha, fun v H1 F1 g1 hv => ⟨H0, F0, F1, env, db, s, rl.grow g1, hb, he, ho, fun us p H2 F2 g2 hu hp => q (v :: us) p H2 F2 (g1.trans g2) (.cons (hv.mono g2.f) hu) hp⟩⟩
def callM (j : Nat) (sf : List D → List D → Option (D × List D)) (fs : DEnv → Option (List D)) : DEnv → Option (D × DEnv) := fun env => match env[j]? with
  | some (.own a (.l xs)) => (match fs env with
    | some ds => (match sf ds xs with
      | some r => some (r.1, env.set j (.own a (.l r.2)))
      | none => none)
    | none => none)
  | _ => none
/-- callable so -/
def ClO (P : Program) (w : World) (K : PySem.W.Frag) (mg : Str → Option Value) (base : Heap) (x : Str) (k n : Nat) (sf : List D → List D → Option (D × List D)) : Prop :=
  ∃ (f : Addr) (fd : FuncData) (ps : List Str), FnOk P w K mg base (L2.CX P w) k f fd ps (spO K n sf) ∧ mg x = some (.ref f) ∧ PySem.W.keepIn K (.ref f) = true ∧ L2.Binds K fd ps []
theorem dm_callO {j k k2 n : Nat} {sf : List D → List D → Option (D × List D)} (c : ClO X.prog X.w X.K X.mg X.base x k n sf) (hr : Room k2 X.A) (hk : k ≤ k2) (hg : Gl X x) (ha : PA X (e :: es) (dAO X.K j fs)) (hl : AL fs (n - 1)) (hn : 1 ≤ n) (hdb : (x == ("__debug__" : Str)) = false := by decide)
    (he : starEach (e :: es) X.env = (false, eval e X.env) :: starEach es X.env := by rfl) (hpl : (backTo pos (starEach es X.env)).any (·.1) = false := by rfl) : PE X (.Call (.Name x p) (e :: es) [] pos) (dM X.K (callM j sf fs)) := by
  obtain ⟨f, fd, ps, G, hm, hkp, hb⟩ := c
  refine PE.imp (pe_call (E := fun _ _ _ => False) G (hr.mono hk) hg hm hkp hb .nil passF ha hdb he hpl) ?_
  rintro σ H Q ⟨H0, F0, F, env, d, env', r, hf, q⟩
  unfold callM at hf
  split at hf
  · rename_i a xs hj
    split at hf
    · rename_i ds hds
      split at hf
      · rename_i rr hsf
        cases hf
        refine ⟨H0, F0, F, env, ds, _, r, hds, hj, ⟨_, _, rfl⟩, fun us p H1 F1 g1 hu hp => ?_⟩
        have r1 := r.grow g1
        obtain ⟨l, o, h1, h2, h3, h4, h5, h6⟩ := r1.own hj
        rw [hp] at h1
        cases h1
        cases h3 with
        | @l vx _ h3 =>
        have hlen := hl env ds hds
        refine ⟨us, p, vx, ds, xs, F1, rr, by simp, by rw [hu.len]; omega, r1.fh, h2, h4, hu, h3, hsf, fun v H' F' ys g hH hF hys hv => ?_⟩
        have g2 : Grow H1 F1 (upd H' p (.lst vx)) F' := by
          refine ⟨fun b u hb => ?_, g.f, fun b u hb => ?_, fun b hb => ?_⟩
          · by_cases hbp : b = p
            · subst hbp; rw [upd_same]; rw [h2] at hb; exact hb
            · rw [upd_ne hbp]; exact g.h b u (by rw [drop_ne hbp]; exact hb)
          · by_cases hbp : b = p
            · subst hbp; rw [hF] at hb; cases hb
            · rw [upd_ne hbp]; exact g.fh b u hb
          · by_cases hbp : b = p
            · subst hbp; rw [hF, h4]
            · exact g.fr b (by rw [drop_ne hbp]; exact hb)
        have r2 := (r1.grow g2).mut hj hp (.l hys)
        have eH : upd (upd H' p (.lst vx)) p (.lst ys) = H' := by
          funext b
          by_cases hbp : b = p
          · subst hbp; rw [upd_same, hH]
          · rw [upd_ne hbp, upd_ne hbp]
        rw [eH] at r2
        exact q v H' F' r2 (g1.f.trans g.f) hv
      · cases hf
    · cases hf
  · cases hf
/-- x = e, e a change -/
def putM (i : Nat) (fm : DEnv → Option (D × DEnv)) : DEnv → Option Out := fun env => match fm env with
  | some (d, env') => some (.nx (env'.set i (.val d)))
  | none => none
theorem ds_setM {i : Nat} {pos' : Pos} (hN : X.N.Nodup) (hi : X.N[i]? = some x) (hx : Loc X.env.scope x) (he : PE X e (dM X.K fm)) (hs : swapsWith e (some (.Name x pos')) pos.line X.env = pure false := by rfl) (hf : X.fn x = true ∨ X.env.scope.names.lookup x = some .local := by first | exact .inl rfl | exact .inr rfl | assumption) :
    PS X (.Assign [.Name x pos'] e pos) (dS X.K R (putM i fm)) := by
  refine PS.imp (ps_set hN hi hx he hs hf) ?_
  rintro D σ H ⟨H0, F0, F, env, o, r, hf, po⟩
  unfold putM at hf
  split at hf
  · rename_i d env' hd
    cases hf
    exact ⟨H0, F0, F, env, d, env', r, hd, fun v H' F' r' e' hv => po F' _ H' (r'.setVal hv)⟩
  · cases hf
/-- x.extend(e) -/
def extS (i : Nat) (fe : DEnv → Option D) : DEnv → Option Out := fun env => match env[i]? with
  | some (.own a (.l ds)) => (match fe env with
    | some (.lst zs) => if ds.length + zs.length ≤ 90000 then some (.nx (env.set i (.own a (.l (ds ++ zs))))) else none
    | _ => none)
  | _ => none
theorem ds_extend {i : Nat} {pos2 : Pos} (hx : PE X (.Name x px) (tVar i)) (hk : PE X e (dE X.K fe)) (hsw : swapsWith (.Call (.Attribute (.Name x px) "extend" apos) [e] [] pos) none pos2.line X.env = pure false := by rfl) (hbase : attributeBase (.Name x px) "extend" X.env (eval (.Name x px) X.env) = eval (.Name x px) X.env := by rfl)
    (hfew : ((backTo pos (starEach (e :: []) X.env)).all (fun x => !x.1) && (backToKw pos (keywordEach [] X.env)).all (fun x => x.1.isSome)
      && decide ((e :: []).length + ([] : List Keyword).length + (if ([] : List Keyword).isEmpty then 0 else 1) < 30)) = true := by rfl)
    (hline : (apos.endLine == pos.line) = true := by rfl) (hs : starEach (e :: []) X.env = (false, eval e X.env) :: starEach [] X.env := by rfl) (hplain : (backTo pos (starEach [] X.env)).any (·.1) = false := by rfl) :
    PS X (.Expr (.Call (.Attribute (.Name x px) "extend" apos) [e] [] pos) pos2) (dS X.K R (extS i fe)) := by
  refine PS.imp (ps_expr (pe_bm PySem.F.plainAttrs_list PySem.F.slot_list_extend PySem.F.type_list_extend mt_extend hx (pa_cons hk pa_nil hs) hbase hfew hline hs hplain) hsw) ?_
  rintro D σ H ⟨H0, F0, F, env, o, r, hf, po⟩
  unfold extS at hf
  split at hf
  · rename_i a ds he
    obtain ⟨l, o, h1, h2, h3, h4, h5, h6⟩ := r.own he
    cases h3 with
    | @l vs _ h3 =>
    split at hf
    · rename_i zs hz
      split at hf
      · rename_i hc
        cases hf
        refine ⟨_, h1, .inl ⟨rfl, vs, .inl (.inl h2)⟩, H0, F0, F, env, _, r, hz, fun v H' F' g hv => ?_⟩
        obtain ⟨b, vz, rfl, hb, hzs⟩ := hv.inv_lst
        refine ⟨l, b, vs, vz, rfl, rfl, g.h _ _ h2, g.fh _ _ hb, ?_, ?_⟩
        · rw [h3.len, hzs.len, sizeLine_eq]; omega
        · exact po F' σ _ ((r.grow g).mut he h1 (.l ((h3.mono g.f).append hzs)))
      · cases hf
    · cases hf
  · cases hf
end
end DL

namespace DL
open PySem PySem.Spec PyProof.Rows L2 Evl
/-! ### several except clauses without names -/
def hdl : List (Str × (DEnv → Option Out)) → Str → DEnv → Option Out
  | [], c, e => some (.ex c e)
  | (h, S) :: r, c, e => if subN c h then (match S e with
    | some (.ex _ _) => none
    | o => o) else hdl r c e
def tryM (es : List Str) (B : DEnv → Option Out) (l : List (Str × (DEnv → Option Out))) : DEnv → Option Out := fun env => match B env with
  | some (.ex c e) => if es.contains c then hdl l c e else none
  | o => o
inductive HdD (es : List Str) (X : Cx) : List ExceptHandler → List (Str × (DEnv → Option Out)) → Prop
  | nil : HdD es X [] []
  | cons {h : Str} {S : DEnv → Option Out} {b : Stmt} {suite : List Stmt} {np pos' : Pos} {hds : List ExceptHandler} {l : List (Str × (DEnv → Option Out))} (hh : h ∈ ("HasteError" : Str) :: es) (hg : Gl X h) (hd : (h == ("__debug__" : Str)) = false)
      (hsu : ∀ (a : Addr) (oe : Obj) (pn : List (Addr × Obj)), PSs (X.suite a ((a, oe) :: pn)) (b :: suite) (dS X.K (fun _ _ _ => False) S)) (r : HdD es X hds l) : HdD es X (.ExceptHandler (some (.Name h np)) none (b :: suite) pos' :: hds) ((h, S) :: l)
theorem Post.noex {K : PySem.W.Frag} {R R' : RX} {H0 F0 : Hp} {o : Out} {D : Ends} (p : Post K R H0 F0 o D) (h : ∀ c e, o ≠ .ex c e) : Post K R' H0 F0 o D := by
  cases o with
  | ex c e => exact absurd rfl (h c e)
  | _ => exact p
theorem hdd_ok {X : Cx} {es : List Str} (S : ErrS es X.K X.mg) {hds : List ExceptHandler} {l : List (Str × (DEnv → Option Out))} (h : HdD es X hds l) : ∃ l', HdsOk X hds l' ∧ ∀ (Wout : WX) (D : Ends) (c : Str) (C : Addr) (H0 F0 F1 H : Hp) (e : DEnv) (σ : L2.St) (o : Out), c ∈ es → X.mg c = some (.ref C) → Rel X.K H0 F0 F1 e σ H → hdl l c e = some o → Post X.K (RW X.mg Wout) H0 F0 o D → wMany X.K Wout D l' (.ref C) none σ H := by
  induction h with
  | nil =>
    refine ⟨[], .nil, fun Wout D c C H0 F0 F1 H e σ o hc gC r hf po => ?_⟩
    cases hf
    obtain ⟨C', gC', w⟩ := po F1 σ H r
    rw [gC] at gC'
    cases gC'
    exact w
  | @cons h Sf b suite np pos' hds l hh hg hd hsu r ih =>
    obtain ⟨l', k1, k2⟩ := ih
    obtain ⟨Ch, gh⟩ := S.at_ h hh
    refine ⟨(.ref Ch, fun a cls d => dS X.K (fun _ _ _ => False) Sf) :: l', .cons ⟨hg, hd, .inl gh⟩ (fun a oe cls d pn _ _ => hsu a oe pn) k1, fun Wout D c C H0 F0 F1 H e σ o hc gC r hf po => ?_⟩
    refine ⟨_, (S.pair c hc h hh C Ch gC gh).1, fun hb a ha => ?_, fun hb => ?_⟩
    · unfold hdl at hf
      rw [if_pos hb] at hf
      cases hS : Sf e with
      | none => rw [hS] at hf; cases hf
      | some o' =>
        rw [hS] at hf
        have ho : o' = o ∧ ∀ c e, o ≠ .ex c e := by
          cases o' with
          | ex c e => cases hf
          | _ => cases hf; exact ⟨rfl, fun c e z => by cases z⟩
        obtain ⟨rfl, hn⟩ := ho
        exact ⟨H0, F0, F1, e, o', r, hS, po.noex hn⟩
    · unfold hdl at hf
      rw [if_neg (by rw [hb]; simp)] at hf
      exact k2 Wout D c C H0 F0 F1 H e σ o hc gC r hf po
theorem ds_try_many {X : Cx} {h0 : ExceptHandler} {hds : List ExceptHandler} {l : List (Str × (DEnv → Option Out))} {body : List Stmt} {pos : Pos} {Wout : WX} {B : DEnv → Option Out} {es : List Str} (S : ErrS es X.K X.mg) (hst : X.stack = X.env :: X.outer) (hfr : X.env.frame = some X.env.locals) (tk : Takes X Wout)
    (hb : ∀ (W : WX) (pn : List (Addr × Obj)) (xe : Value → Shared → Prop), Takes (X.tr pn xe) W → PassesOwn (model X.prog X.w) X.A X.env xe → PSs (X.tr pn xe) body (dS X.K (RW X.mg W) B)) (hh : HdD es X (h0 :: hds) l) :
    PS X (.Try body (h0 :: hds) [] [] pos) (dS X.K (RW X.mg Wout) (tryM es B l)) := by
  obtain ⟨l', k1, k2⟩ := hdd_ok S hh
  refine PS.imp (ps_try_many (tb := fun W => dS X.K (RW X.mg W) B) hst hfr tk hb k1) ?_
  rintro D σ H ⟨H0, F0, F, env, o, r, hf, po⟩
  unfold tryM at hf
  cases hB : B env with
  | none => rw [hB] at hf; cases hf
  | some ob =>
    rw [hB] at hf
    refine ⟨H0, F0, F, env, ob, r, hB, ?_⟩
    cases ob with
    | nx e => cases hf; exact po
    | bk e => cases hf; exact po
    | ct e => cases hf; exact po
    | rt d e => cases hf; exact po
    | ex c e =>
      intro F1 σ1 H1 r1
      simp only at hf
      split at hf
      · rename_i hc
        have hc' : c ∈ es := by simpa using hc
        obtain ⟨C, gC, _⟩ := S.cls c hc'
        exact ⟨C, gC, k2 Wout D c C H0 F0 F1 H1 e σ1 o hc' gC r1 hf po⟩
      · cases hf
end DL
namespace DL
open PySem PySem.Spec PyProof.Rows L2 Evl
/-- a promise that asks for what never is -/
theorem fnok_no {P : Program} {w : World} {K : PySem.W.Frag} {mg : Str → Option Value} {base : Heap} {f : Addr} {fd : FuncData} {ps : List Str} {n : Nat} {sf : List D → Option Res} {k : Nat} (hb : L2.Binds K fd ps []) (h : ∀ ds, sf ds = none := by intro _; rfl) : FnOk P w K mg base (L2.CX P w) k f fd ps (spF K mg n sf) := by
  refine ⟨fun vs H Q E z => ?_, fun A outer s H args us vs Q E _ _ _ _ z => ?_⟩
  · obtain ⟨_, _, ds, _, _, _, hs, _⟩ := z
    rw [h ds] at hs
    cases hs
  · obtain ⟨_, _, ds, _, _, _, hs, _⟩ := z
    rw [h ds] at hs
    cases hs
end DL

namespace DL
open PySem PySem.Spec PyProof.Rows L2 Evl
/-! ### what a call tells is new where nothing handed in looks so -/
inductive NodeOf (F : Hp) : V → D → Addr → D → Prop
  | lst {a : Addr} {ds : List D} : NodeOf F (.ref a) (.lst ds) a (.lst ds)
  | tup {a : Addr} {ds : List D} : NodeOf F (.ref a) (.tup ds) a (.tup ds)
  | scr {a : Addr} {ns : List Int} : NodeOf F (.ref a) (.scr ns) a (.scr ns)
  | dct {a : Addr} {kvs : List (Int × Int)} : NodeOf F (.ref a) (.dct kvs) a (.dct kvs)
  | dcl {a : Addr} {kvs : List (Int × Int)} : NodeOf F (.ref a) (.dcl kvs) a (.dcl kvs)
  | inl {a b : Addr} {xs : List V} {ds : List D} {i : Nat} {x : V} {d e : D} : F a = some (.lst xs) → xs[i]? = some x → ds[i]? = some d → NodeOf F x d b e → NodeOf F (.ref a) (.lst ds) b e
  | int {a b : Addr} {xs : List V} {ds : List D} {i : Nat} {x : V} {d e : D} : F a = some (.tup xs) → xs[i]? = some x → ds[i]? = some d → NodeOf F x d b e → NodeOf F (.ref a) (.tup ds) b e
inductive SubD : D → D → Prop
  | refl {d : D} : SubD d d
  | lst {ds : List D} {d e : D} : d ∈ ds → SubD d e → SubD (.lst ds) e
  | tup {ds : List D} {d e : D} : d ∈ ds → SubD d e → SubD (.tup ds) e
def NodeA (F : Hp) (vs : List V) (ds : List D) (b : Addr) (e : D) : Prop := ∃ (i : Nat) (x : V) (d : D), vs[i]? = some x ∧ ds[i]? = some d ∧ NodeOf F x d b e
open Classical in
noncomputable def cutF (F : Hp) (vs : List V) (ds : List D) : Hp := fun b => if ∃ e, NodeA F vs ds b e then F b else none
theorem cutF_ex (F : Hp) (vs : List V) (ds : List D) : Ex (cutF F vs ds) F := fun a u h => by
  unfold cutF at h
  split at h
  · exact h
  · cases h
theorem dt_cut {K : PySem.W.Frag} {F G : Hp} {x : V} {d : D} (h : Dt K F x d) : (∀ b e, NodeOf F x d b e → G b = F b) → Dt K G x d := by
  induction h with
  | non => exact fun _ => .non
  | bl b => exact fun _ => .bl b
  | int i => exact fun _ => .int i
  | str z => exact fun _ => .str z
  | lst h1 h2 _ ih => exact fun g => .lst ((g _ _ .lst).trans h1) h2 fun i x d hx hd => ih i x d hx hd fun b e hn => g b e (.inl h1 hx hd hn)
  | tup h1 h2 _ ih => exact fun g => .tup ((g _ _ .tup).trans h1) h2 fun i x d hx hd => ih i x d hx hd fun b e hn => g b e (.int h1 hx hd hn)
  | @scr a ns h1 =>
    refine fun g => .scr ?_
    have e := g _ _ .scr
    unfold SqL Rd at h1 ⊢
    rw [e]
    exact h1
  | @dct a kvs h1 =>
    refine fun g => .dct ?_
    have e := g _ _ .dct
    unfold Rd at h1 ⊢
    rw [e]
    exact h1
  | dcl h1 => exact fun g => .dcl ((g _ _ .dcl).trans h1)
theorem dta_cut {K : PySem.W.Frag} {F : Hp} {vs : List V} {ds : List D} (h : DtA K F vs ds) : DtA K (cutF F vs ds) vs ds := ⟨h.len, fun i x d hx hd => dt_cut (h.at_ i x d hx hd) fun b e hn => by
  unfold cutF
  rw [if_pos ⟨e, i, x, d, hx, hd, hn⟩]⟩
theorem node_dt {K : PySem.W.Frag} {F : Hp} {x : V} {d : D} {b : Addr} {e : D} (n : NodeOf F x d b e) : Dt K F x d → Dt K F (.ref b) e ∧ SubD d e := by
  induction n with
  | lst => exact fun h => ⟨h, .refl⟩
  | tup => exact fun h => ⟨h, .refl⟩
  | scr => exact fun h => ⟨h, .refl⟩
  | dct => exact fun h => ⟨h, .refl⟩
  | dcl => exact fun h => ⟨h, .refl⟩
  | inl h1 hx hd _ ih =>
    intro h
    obtain ⟨a', xs', e1, h2, h3⟩ := h.inv_lst
    cases e1
    rw [h1] at h2
    cases h2
    obtain ⟨k1, k2⟩ := ih (h3.at_ _ _ _ hx hd)
    exact ⟨k1, .lst (List.mem_of_getElem? hd) k2⟩
  | int h1 hx hd _ ih =>
    intro h
    obtain ⟨a', xs', e1, h2, h3⟩ := h.inv_tup
    cases e1
    rw [h1] at h2
    cases h2
    obtain ⟨k1, k2⟩ := ih (h3.at_ _ _ _ hx hd)
    exact ⟨k1, .tup (List.mem_of_getElem? hd) k2⟩
/-- no list of ints, no empty list, no dict among what is handed in -/
def isInt : D → Bool
  | .int _ => true
  | _ => false
def Plain1 : D → Prop
  | .lst (d :: _) => isInt d = false
  | .lst [] => False
  | .scr _ => False
  | .dct _ => False
  | .dcl _ => False
  | _ => True
def NoInts (ds : List D) : Prop := ∀ d ∈ ds, ∀ e, SubD d e → Plain1 e
theorem call_new {K : PySem.W.Frag} {H F H' F' : Hp} {vs : List V} {ds : List D} {p : Addr} {o : HO} (hv : DtA K F vs ds) (no : NoInts ds) (g : Grow H (cutF F vs ds) H' F') (hp : F' p = some o) (ho : (∃ xs rs, o = .lst xs ∧ DtA K F' xs rs ∧ ∀ r ∈ rs, isInt r = true) ∨ ∃ kvs, o = .dK kvs) : H p = none := by
  refine Classical.byContradiction fun hn => ?_
  have h1 := g.fr p hn
  rw [hp] at h1
  have h1' := h1.symm
  unfold cutF at h1'
  split at h1'
  · rename_i hx
    obtain ⟨e, i, x, d, hx, hd, n⟩ := hx
    obtain ⟨k1, k2⟩ := node_dt n (hv.at_ i x d hx hd)
    have pl := no d (List.mem_of_getElem? hd) e k2
    cases k1 with
    | @lst _ xs es q1 q2 q3 =>
      rw [q1] at h1'
      rcases ho with ⟨ys, rs, rfl, hr, hi⟩ | ⟨kvs, rfl⟩
      · cases h1'
        cases es with
        | nil => exact pl
        | cons e0 es =>
          have hl : xs.length = rs.length := hr.len
          cases xs with
          | nil => simp at q2
          | cons x0 xs =>
            cases rs with
            | nil => simp at hl
            | cons r0 rs =>
              have w1 := hr.at_ 0 x0 r0 rfl rfl
              have w2 := q3 0 x0 e0 rfl rfl
              have hi0 := hi r0 (by simp)
              cases r0 with
              | int j =>
                cases w1.inv_int
                cases w2
                simp [Plain1, isInt] at pl
              | _ => simp [isInt] at hi0
      · cases h1'
    | @tup _ xs es q1 q2 q3 =>
      rw [q1] at h1'
      rcases ho with ⟨ys, rs, rfl, hr, hi⟩ | ⟨kvs, rfl⟩ <;> cases h1'
    | scr q1 => exact pl
    | dct q1 => exact pl
    | dcl q1 => exact pl
  · cases h1'
end DL
namespace DL
open PySem PySem.Spec PyProof.Rows L2 Evl
open Classical in
noncomputable def opCN (sf : List D → Option Res) (fs : DEnv → Option (List D)) : DEnv → Option OC := fun env => match fs env with
  | some ds => if NoInts ds then (match sf ds with
    | some (.ok (.lst rs)) => if rs.all isInt then some (.l rs) else none
    | _ => none) else none
  | none => none
theorem opCN_lst {sf : List D → Option Res} {fs : DEnv → Option (List D)} {env : DEnv} {ds rs : List D} (h : fs env = some ds) (no : NoInts ds) (hs : sf ds = some (.ok (.lst rs))) (hi : rs.all isInt = true) : opCN sf fs env = some (.l rs) := by
  unfold opCN
  simp only [h, if_pos no, hs, hi, if_true]
theorem inv_dctV {K : PySem.W.Frag} {F : Hp} {x : V} {kvs : List (Int × Int)} (h : Dt K F x (.dct kvs)) : ∃ a, x = .ref a ∧ Rd F a (.dK (kvs.map fun p => (Sum.inl p.1, V.int p.2))) := by
  cases h with
  | dct h => exact ⟨_, rfl, h⟩
theorem dta_ints {K : PySem.W.Frag} {F G : Hp} {xs : List V} {rs : List D} (h : DtA K F xs rs) (hi : rs.all isInt = true) : DtA K G xs rs := ⟨h.len, fun i x d hx hd => by
  have h1 := h.at_ i x d hx hd
  have h2 := List.all_eq_true.mp hi d (List.mem_of_getElem? hd)
  cases d with
  | int j => cases h1.inv_int; exact .int j
  | _ => simp [isInt] at h2⟩
section
variable {X : Cx} {R : RX} {e c : Expr} {es : List Expr} {fe : DEnv → Option D} {fs : DEnv → Option (List D)} {fc : DEnv → Option OC} {x : Str} {px p pos apos : Pos}
/-- f(..): a new list of ints, a new dict, of one's own -/
theorem dn_callC {j k n : Nat} {sf : List D → Option Res} (c : Cl X.prog X.w X.K X.mg X.base x k n sf) (hr : Room j X.A) (hk : k ≤ j) (hg : Gl X x) (ha : PA X (e :: es) (dA X.K fs)) (hl : AL fs n) (hdb : (x == ("__debug__" : Str)) = false := by decide)
    (he : starEach (e :: es) X.env = (false, eval e X.env) :: starEach es X.env := by rfl) (hpl : (backTo pos (starEach es X.env)).any (·.1) = false := by rfl) : PE X (.Call (.Name x p) (e :: es) [] pos) (dN X.K (opCN sf fs)) := by
  obtain ⟨f, fd, ps, G, hm, hkp, hb⟩ := c
  refine PE.imp (pe_call (E := fun _ _ _ => False) G (hr.mono hk) hg hm hkp hb .nil passF ha hdb he hpl) ?_
  rintro σ H Q ⟨H0, F0, F, env, c, r, hf, q⟩
  unfold opCN at hf
  split at hf
  · rename_i ds hds
    split at hf
    · rename_i no
      refine ⟨H0, F0, F, env, ds, r, hds, fun vs H1 F1 g1 hv => ?_⟩
      have fin : ∀ (p : Addr) (o : HO) (H' : Hp) (F' : Hp), Grow H1 (cutF F1 vs ds) H' F' → F' p = some o → H1 p = none → OcR X.K F1 o c → Q (.ref p) H' := fun p o H' F' g hp hn ho => by
        refine q p o H' F1 (g1.trans ⟨g.h, Ex.refl _, fun a u ha => g.h a u (g1.fh a u ha), fun _ _ => rfl⟩) (none_of_ex g1.h hn) (g.fh p o hp) (none_of_ex g1.fh hn) ho
      split at hf
      · rename_i rs hs
        split at hf
        · rename_i hi
          cases hf
          refine ⟨by simp [hv.len, hl env ds hds], cutF F1 vs ds, ds, _, (cutF_ex F1 vs ds).trans g1.fh, by simpa using dta_cut hv, hs, fun v H' F' g hd => ?_⟩
          obtain ⟨p, xs, rfl, hp, hx⟩ := hd.inv_lst
          exact fin p _ H' F' g hp (call_new hv no g hp (.inl ⟨xs, rs, rfl, hx, fun r hr => List.all_eq_true.mp hi r hr⟩)) (.l (dta_ints hx hi))
        · cases hf
      · cases hf
    · cases hf
  · cases hf
/-- f(..).append(e), f(..) new -/
def newApp (fc : DEnv → Option OC) (fe : DEnv → Option D) : DEnv → Option Out := fun env => match fc env with
  | some (.l ds) => (match fe env with
    | some _ => if ds.length ≤ 90000 then some (.nx env) else none
    | none => none)
  | _ => none
theorem ds_newApp {pos2 : Pos} (hx : PE X c (dN X.K fc)) (hk : PE X e (dE X.K fe)) (hsw : swapsWith (.Call (.Attribute c "append" apos) [e] [] pos) none pos2.line X.env = pure false := by rfl) (hbase : attributeBase c "append" X.env (eval c X.env) = eval c X.env := by rfl)
    (hfew : ((backTo pos (starEach (e :: []) X.env)).all (fun x => !x.1) && (backToKw pos (keywordEach [] X.env)).all (fun x => x.1.isSome)
      && decide ((e :: []).length + ([] : List Keyword).length + (if ([] : List Keyword).isEmpty then 0 else 1) < 30)) = true := by rfl)
    (hline : (apos.endLine == pos.line) = true := by rfl) (hs : starEach (e :: []) X.env = (false, eval e X.env) :: starEach [] X.env := by rfl) (hplain : (backTo pos (starEach [] X.env)).any (·.1) = false := by rfl) :
    PS X (.Expr (.Call (.Attribute c "append" apos) [e] [] pos) pos2) (dS X.K R (newApp fc fe)) := by
  refine PS.imp (ps_expr (pe_bm PySem.F.plainAttrs_list PySem.F.slot_list_append PySem.F.type_list_append mt_append hx (pa_cons hk pa_nil hs) hbase hfew hline hs hplain) hsw) ?_
  rintro D σ H ⟨H0, F0, F, env, o, r, hf, po⟩
  unfold newApp at hf
  split at hf
  · rename_i ds hc
    split at hf
    · rename_i d hd
      split at hf
      · rename_i hz
        cases hf
        refine ⟨H0, F0, F, env, _, r, hc, fun p o H1 F1 g1 hp ho hF hv => ?_⟩
        cases hv with
        | @l vs _ hv =>
        refine .inl ⟨rfl, vs, .inl (.inl ho)⟩ |> fun isl => ⟨isl, H0, F0, F1, env, d, r.grow g1, hd, fun v H2 F2 g2 hv2 => ?_⟩
        refine ⟨p, vs, v, rfl, rfl, g2.h _ _ ho, sz_lt (by rw [hv.len]; omega), ?_⟩
        have hF2 : F2 p = none := (g2.fr p (by rw [ho]; simp)).trans hF
        have g3 := g1.trans g2
        exact po F2 σ _ (r.grow ⟨Ex.mut g3.h hp, g3.f, Ex.mut g3.fh hF2, g3.fr⟩)
      · cases hf
    · cases hf
  · cases hf
end
end DL

namespace DL
open PySem PySem.Spec PyProof.Rows L2 Evl
/-! ### dicts of ints -/
abbrev embK (p : Int × Int) : Key × V := (Sum.inl p.1, V.int p.2)
def putD (kvs : List (Int × Int)) (k v : Int) : List (Int × Int) := if (kvs.any fun p => decide (p.1 = k)) = true then kvs.map (fun p => if p.1 = k then (p.1, v) else p) else kvs ++ [(k, v)]
def findD (kvs : List (Int × Int)) (k : Int) : Option Int := (kvs.find? fun p => decide (p.1 = k)).map (·.2)
theorem putD_emb (kvs : List (Int × Int)) (k v : Int) : (putD kvs k v).map embK = putK (kvs.map embK) (Sum.inl k) (V.int v) := by
  have e : ((kvs.map embK).any fun kv => decide (kv.1 = (Sum.inl k : Key))) = kvs.any fun p => decide (p.1 = k) := by
    rw [List.any_map]
    congr 1
    funext p
    simp [embK]
  unfold putD putK
  rw [e]
  split
  · rw [List.map_map, List.map_map]
    congr 1
    funext p
    simp only [Function.comp, embK]
    by_cases h : p.1 = k
    · simp [h]
    · simp [h]
  · simp [embK]
theorem findD_emb (kvs : List (Int × Int)) (k : Int) : valV (kvs.map embK) (Sum.inl k : Key) = (findD kvs k).map V.int := by
  induction kvs with
  | nil => rfl
  | cons p r ih =>
    unfold findD at ih ⊢
    by_cases h : p.1 = k
    · rw [List.map_cons, valV_pos (by simp [embK, h])]
      simp [List.find?_cons, h, embK]
    · rw [List.map_cons, valV_neg (by simp [embK, h]), ih]
      simp [List.find?_cons, h]
theorem inv_dctE {K : PySem.W.Frag} {F : Hp} {x : V} {kvs : List (Int × Int)} (h : Dt K F x (.dct kvs)) : ∃ a, x = .ref a ∧ Rd F a (.dK (kvs.map embK)) := inv_dctV h
theorem inv_dclE {K : PySem.W.Frag} {F : Hp} {x : V} {kvs : List (Int × Int)} (h : Dt K F x (.dcl kvs)) : ∃ a, x = .ref a ∧ Rd F a (.dK (kvs.map embK)) := by
  cases h with
  | dcl h => exact ⟨_, rfl, .inr ⟨_, h⟩⟩
theorem rd_mono {F H : Hp} {a : Addr} {u : HO} (h : Rd F a u) (e : Ex F H) : Rd H a u := h.imp (e _ _) fun ⟨o, q⟩ => ⟨o, e _ _ q⟩
theorem dget_rd {H : Hp} {a : Addr} {kvs : List (Int × Int)} {k : Int} (h : Rd H a (.dK (kvs.map embK))) : DGet H a (.int k) ((findD kvs k).map V.int) := by
  rw [← findD_emb]
  exact .inl ⟨_, Sum.inl k, h, rfl, rfl⟩
section
variable {X : Cx} {R : RX} {e o i : Expr} {fe fo fk fv : DEnv → Option D} {x : Str} {px p pos pos' apos cpos : Pos} {j : Nat}
theorem hu_room (hr : Room j X.A) : X.A.units + 1 < cLine := by have := hr.units; omega
/-- {} -/
def dicN : DEnv → Option OC := fun _ => some (.d [])
theorem dn_dict0 : PE X (.Dict [] [] pos) (dN X.K dicN) := by
  refine PE.imp pe_dnewK ?_
  rintro σ H Q ⟨H0, F0, F, env, c, r, hf, q⟩
  cases hf
  exact fun p hp => q p _ _ F (Grow.newM r.fh hp) hp upd_same (none_of_ex r.fh hp) (.d [])
/-- x[k] = v, x one's own dict -/
def dputS (s : Nat) (fk fv : DEnv → Option D) : DEnv → Option Out := fun env => match fv env with
  | some (.int v) => (match env[s]? with
    | some (.own a (.d kvs)) => (match fk env with
      | some (.int k) => if kvs.length ≤ 90000 then some (.nx (env.set s (.own a (.d (putD kvs k v))))) else none
      | _ => none)
    | _ => none)
  | _ => none
theorem ds_dput {s : Nat} (hr : Room j X.A) (hv : PE X e (dE X.K fv)) (hx : PE X (.Name x px) (tVar s)) (hk : PE X i (dE X.K fk)) (hs : swapsWith e (some (.Subscript (.Name x px) i pos')) pos.line X.env = pure false := by rfl) :
    PS X (.Assign [.Subscript (.Name x px) i pos'] e pos) (dS X.K R (dputS s fk fv)) := by
  refine PS.imp (ps_dput (hu_room hr) hx hk hv hs) ?_
  rintro D σ H ⟨H0, F0, F, env, o, r, hf, po⟩
  unfold dputS at hf
  split at hf
  · rename_i v hvv
    split at hf
    · rename_i a kvs he
      split at hf
      · rename_i k hkk
        split at hf
        · rename_i hz
          cases hf
          refine ⟨H0, F0, F, env, _, r, hvv, fun v1 H1 F1 g1 hv1 => ?_⟩
          cases hv1.inv_int
          have r1 := r.grow g1
          obtain ⟨l, o1, h1, h2, h3, h4, h5, h6⟩ := r1.own he
          refine ⟨_, h1, H0, F0, F1, env, _, r1, hkk, fun v2 H2 F2 g2 hv2 => ?_⟩
          cases hv2.inv_int
          have r2 := r1.grow g2
          cases h3 with
          | @d kvs =>
          refine ⟨l, _, rfl, DPut.k (k := Sum.inl k) (g2.h _ _ h2) (sz_lt (by simp; omega)), ?_⟩
          rw [show putK (kvs.map fun p => ((Sum.inl p.1 : Key), V.int p.2)) (Sum.inl k) (V.int v) = (putD kvs k v).map fun p => ((Sum.inl p.1 : Key), V.int p.2) from (putD_emb kvs k v).symm]
          exact po F2 σ _ (r2.mut he h1 (.d _))
        · cases hf
      · cases hf
    · cases hf
  · cases hf
/-- x[k] of a dict -/
def dgG : D → D → Option D
  | .dct kvs, .int k => (findD kvs k).map D.int
  | .dcl kvs, .int k => (findD kvs k).map D.int
  | _, _ => none
theorem run_dg {K : PySem.W.Frag} {σ : L2.St} {H : Hp} {Q : VK} {rr : Addr → V → Hp → VK → Prop} {g : D → D → Option D} (hg : ∀ (F H : Hp) (a : Addr) (kvs : List (Int × Int)) (k : Int) (d : D) (Q : VK), Ex F H → Rd F a (.dK (kvs.map embK)) → (g (.dct kvs) (.int k) = some d ∨ g (.dcl kvs) (.int k) = some d) → (∀ v H' F', Grow H F H' F' → Dt K F' v d → Q v H') → rr a (.int k) H Q)
    (hn : ∀ x y d, g x y = some d → ∃ kvs k, (x = .dct kvs ∨ x = .dcl kvs) ∧ y = .int k) (h : dE K (op2 g fo fk) σ H Q) : dE K fo σ H fun x H1 => dE K fk σ H1 fun y H2 => ∃ a, x = .ref a ∧ rr a y H2 Q := by
  obtain ⟨H0, F0, F, env, d, rl, hf, q⟩ := h
  unfold op2 at hf
  cases ha : fo env with
  | none => rw [ha] at hf; cases hf
  | some da =>
    rw [ha] at hf
    simp only at hf
    cases hb : fk env with
    | none => rw [hb] at hf; cases hf
    | some db =>
      rw [hb] at hf
      simp only at hf
      obtain ⟨kvs, k, hx, rfl⟩ := hn _ _ _ hf
      refine ⟨H0, F0, F, env, _, rl, ha, fun v H1 F1 g1 hv => ⟨H0, F0, F1, env, _, rl.grow g1, hb, fun u H2 F2 g2 hu => ?_⟩⟩
      cases hu.inv_int
      obtain ⟨a, rfl, he⟩ : ∃ a, v = .ref a ∧ Rd F2 a (.dK (kvs.map embK)) := by
        rcases hx with rfl | rfl
        · exact inv_dctE (hv.mono g2.f)
        · exact inv_dclE (hv.mono g2.f)
      refine ⟨a, rfl, hg F2 H2 a kvs k d Q g2.fh he ?_ fun z H3 F3 g3 hz => q z H3 F3 ((g1.trans g2).trans g3) hz⟩
      rcases hx with rfl | rfl
      · exact .inl hf
      · exact .inr hf
theorem de_dget (hr : Room j X.A) (ho : PE X o (dE X.K fo)) (hk : PE X i (dE X.K fk)) (hs : NoSl i := by intro _ _; rfl) : PE X (.Subscript o i pos) (dE X.K (op2 dgG fo fk)) := by
  refine PE.imp (pe_dget (hu_room hr) ho hk hs) fun σ H Q h => ?_
  have := run_dg (rr := fun a y H2 Q => ∃ v, DGet H2 a y (some v) ∧ Q v H2) (fun F H a kvs k d Q e ha hg q => ?_) (fun x y d hg => ?_) h
  · obtain ⟨H0, F0, F, env, d, rl, ha, q⟩ := this
    refine ⟨H0, F0, F, env, d, rl, ha, fun v H1 F1 g hv => ?_⟩
    obtain ⟨H0, F0, F, env, d, rl, ha, q⟩ := q v H1 F1 g hv
    refine ⟨H0, F0, F, env, d, rl, ha, fun v H1 F1 g hv => ?_⟩
    obtain ⟨a, rfl, w, h1, h2⟩ := q v H1 F1 g hv
    exact ⟨a, w, rfl, h1, h2⟩
  · have hg : (findD kvs k).map D.int = some d := by
      rcases hg with hg | hg <;> exact hg
    obtain ⟨w, hw, rfl⟩ := Option.map_eq_some_iff.mp hg
    refine ⟨.int w, ?_, q _ H F (.refl e) (.int w)⟩
    have := dget_rd (k := k) (rd_mono ha e)
    rw [hw] at this
    exact this
  · unfold dgG at hg
    split at hg
    · exact ⟨_, _, .inl rfl, rfl⟩
    · exact ⟨_, _, .inr rfl, rfl⟩
    · cases hg
/-- k in d, k not in d -/
def dinG (neg : Bool) : D → D → Option D
  | .int k, .dct kvs => some (.bl (if neg then !(findD kvs k).isSome else (findD kvs k).isSome))
  | _, _ => none
theorem run_din {K : PySem.W.Frag} {neg : Bool} {σ : L2.St} {H : Hp} {Q : VK} (h : dE K (op2 (dinG neg) fk fo) σ H Q) : dE K fk σ H fun y H1 => dE K fo σ H1 fun x H2 => ∃ a o, x = .ref a ∧ DGet H2 a y o ∧ Q (.bl (if neg then !o.isSome else o.isSome)) H2 := by
  obtain ⟨H0, F0, F, env, d, rl, hf, q⟩ := h
  unfold op2 at hf
  cases ha : fk env with
  | none => rw [ha] at hf; cases hf
  | some da =>
    rw [ha] at hf
    simp only at hf
    cases hb : fo env with
    | none => rw [hb] at hf; cases hf
    | some db =>
      rw [hb] at hf
      simp only at hf
      unfold dinG at hf
      split at hf
      · rename_i k kvs
        cases hf
        refine ⟨H0, F0, F, env, _, rl, ha, fun v H1 F1 g1 hv => ⟨H0, F0, F1, env, _, rl.grow g1, hb, fun u H2 F2 g2 hu => ?_⟩⟩
        cases hv.inv_int
        obtain ⟨a, rfl, he⟩ := inv_dctE hu
        have hd := dget_rd (k := k) (rd_mono he g2.fh)
        refine ⟨a, _, rfl, hd, ?_⟩
        rw [Option.isSome_map]
        exact q _ H2 F2 (g1.trans g2) (.bl _)
      · cases hf
theorem de_din (hr : Room j X.A) (hk : PE X i (dE X.K fk)) (ho : PE X o (dE X.K fo)) (hm : behindInMarks .In o = false) : PE X (.Compare i [.In] [o] pos) (dE X.K (op2 (dinG false) fk fo)) := PE.imp (pe_cmp (pc_din (hu_room hr) hk ho) hm) fun _ _ _ h => run_din h
theorem dt_din (hr : Room j X.A) (hk : PE X i (dE X.K fk)) (ho : PE X o (dE X.K fo)) (hm : behindInMarks .In o = false) : PT X (.Compare i [.In] [o] pos) (dT X.K (tstB (op2 (dinG false) fk fo))) := PT.imp (pt_cmp (pc_din (hu_room hr) hk ho) hm) fun _ _ _ h => dT_test (fun _ _ _ z => run_din z) h
theorem de_dnin (hr : Room j X.A) (hk : PE X i (dE X.K fk)) (ho : PE X o (dE X.K fo)) (hm : behindInMarks .NotIn o = false) : PE X (.Compare i [.NotIn] [o] pos) (dE X.K (op2 (dinG true) fk fo)) := PE.imp (pe_cmp (pc_dnotin (hu_room hr) hk ho) hm) fun _ _ _ h => run_din h
theorem dt_dnin (hr : Room j X.A) (hk : PE X i (dE X.K fk)) (ho : PE X o (dE X.K fo)) (hm : behindInMarks .NotIn o = false) : PT X (.Compare i [.NotIn] [o] pos) (dT X.K (tstB (op2 (dinG true) fk fo))) := PT.imp (pt_cmp (pc_dnotin (hu_room hr) hk ho) hm) fun _ _ _ h => dT_test (fun _ _ _ z => run_din z) h
/-- d.get(k) -/
def dg1G : D → D → Option D
  | .dct kvs, .int k => some (match findD kvs k with
    | some v => .int v
    | none => .non)
  | _, _ => none
theorem de_dget1 (hr : Room j X.A) (ho : PE X o (dE X.K fo)) (hk : PE X e (dE X.K fk)) (m : M1 X o "get" apos e cpos := by exact ⟨rfl, rfl, rfl, rfl⟩) : PE X (.Call (.Attribute o "get" apos) [e] [] cpos) (dE X.K (op2 dg1G fo fk)) := by
  refine PE.imp (pe_dget1 (hu_room hr) ho hk m) ?_
  rintro σ H Q ⟨H0, F0, F, env, d, rl, hf, q⟩
  unfold op2 at hf
  cases ha : fo env with
  | none => rw [ha] at hf; cases hf
  | some da =>
    rw [ha] at hf
    simp only at hf
    cases hb : fk env with
    | none => rw [hb] at hf; cases hf
    | some db =>
      rw [hb] at hf
      simp only at hf
      unfold dg1G at hf
      split at hf
      · rename_i kvs k
        cases hf
        refine ⟨H0, F0, F, env, _, rl, ha, fun v H1 F1 g1 hv => ?_⟩
        obtain ⟨a, rfl, he⟩ := inv_dctE hv
        refine ⟨a, rfl, ?_, H0, F0, F1, env, _, rl.grow g1, hb, fun u H2 F2 g2 hu => ?_⟩
        · exact .inl ⟨_, rd_mono he g1.fh⟩
        · cases hu.inv_int
          have hd := dget_rd (k := k) (rd_mono (rd_mono he g2.f) g2.fh)
          refine ⟨_, hd, ?_⟩
          cases hw : findD kvs k with
          | some v => exact q _ H2 F2 (g1.trans g2) (by simp only [hw]; exact .int v)
          | none => exact q _ H2 F2 (g1.trans g2) (by simp only [hw]; exact .non)
      · cases hf
end
end DL

namespace DL
open PySem PySem.Spec PyProof.Rows L2 Evl
/-! ### a dict that is walked -/
def flat2 (d : D) : Bool := flatD d || match d with
  | .tup xs => xs.all flatD
  | _ => false
def lockN (i : Nat) (fc : DEnv → Option OC) : DEnv → Option OC := fun env => match env[i]? with
  | some (.val (.dct kvs)) => (match fc (env.set i (.val (.dcl kvs))) with
    | some (.l ds) => if ds.all flat2 then some (.l ds) else none
    | _ => none)
  | _ => none
theorem dt_lockF {K : PySem.W.Frag} {F : Hp} {p : Addr} {o : Obj} {kvs : List (Key × V)} (hp : F p = some (.dK kvs)) {x : V} {d : D} (h : Dt K F x d) : Dt K (upd F p (.frz o (.dK kvs))) x d := by
  have ne : ∀ {a : Addr} {u : HO}, F a = some u → u ≠ .dK kvs → a ≠ p := fun {a u} ha hu z => by
    subst z
    rw [hp] at ha
    cases ha
    exact hu rfl
  induction h with
  | non => exact .non
  | bl b => exact .bl b
  | int i => exact .int i
  | str z => exact .str z
  | lst h1 h2 _ ih => exact .lst (by rw [upd_ne (ne h1 (by intro z; cases z))]; exact h1) h2 ih
  | tup h1 h2 _ ih => exact .tup (by rw [upd_ne (ne h1 (by intro z; cases z))]; exact h1) h2 ih
  | @scr a ns h1 =>
    refine .scr ?_
    rcases h1 with (h1 | ⟨o', h1⟩) | h1
    · exact .inl (.inl (by rw [upd_ne (ne h1 (by intro z; cases z))]; exact h1))
    · exact .inl (.inr ⟨o', by rw [upd_ne (ne h1 (by intro z; cases z))]; exact h1⟩)
    · exact .inr h1
  | @dct a kv h1 =>
    refine .dct ?_
    by_cases ha : a = p
    · subst ha
      rcases h1 with h1 | ⟨o', h1⟩
      · rw [hp] at h1
        cases h1
        exact .inr ⟨o, upd_same⟩
      · rw [hp] at h1; cases h1
    · rcases h1 with h1 | ⟨o', h1⟩
      · exact .inl (by rw [upd_ne ha]; exact h1)
      · exact .inr ⟨o', by rw [upd_ne ha]; exact h1⟩
  | dcl h1 => exact .dcl (by rw [upd_ne (ne h1 (by intro z; cases z))]; exact h1)
theorem ocr_lockF {K : PySem.W.Frag} {F : Hp} {p : Addr} {o : Obj} {kvs : List (Key × V)} (hp : F p = some (.dK kvs)) {u : HO} {c : OC} (h : OcR K F u c) : OcR K (upd F p (.frz o (.dK kvs))) u c := by
  cases h with
  | l r => exact .l ⟨r.len, fun i x d a b => dt_lockF hp (r.at_ i x d a b)⟩
  | d kvs => exact .d kvs
theorem flat2_unlock {K : PySem.W.Frag} {F : Hp} {p : Addr} {o : Obj} {u : HO} (hp : F p = some (.frz o u)) {x : V} {d : D} (h : Dt K F x d) (f : flat2 d = true) : Dt K (upd F p u) x d := by
  unfold flat2 at f
  cases hf : flatD d with
  | true => exact h.flat hf
  | false =>
    rw [hf, Bool.false_or] at f
    cases d with
    | tup xs =>
      obtain ⟨a, vs, rfl, ha, hv⟩ := h.inv_tup
      have hne : a ≠ p := fun z => by subst z; rw [hp] at ha; cases ha
      refine .tup (xs := vs) (by rw [upd_ne hne]; exact ha) hv.len fun i x d hx hd => ?_
      exact (hv.at_ i x d hx hd).flat (List.all_eq_true.mp f d (List.mem_of_getElem? hd))
    | _ => cases f
section
variable {X : Cx} {e : Expr} {fc : DEnv → Option OC}
theorem rel_dcl {K : PySem.W.Frag} {H0 F0 F H : Hp} {env : DEnv} {σ : L2.St} {i : Nat} {p : Addr} {o : Obj} {kvs : List (Int × Int)} (r : Rel K H0 F0 F env σ H) (he : ∃ d, env[i]? = some (.val d)) (hs : σ[i]? = some (some (.ref p))) (hp : F p = some (.frz o (.dK (kvs.map embK)))) : Rel K H0 F0 F (env.set i (.val (.dcl kvs))) σ H := by
  obtain ⟨A, h1, h2⟩ := r.owns
  have ow : ∀ {j : Nat} {a : Option Addr} {c : OC}, (env.set i (.val (.dcl kvs)))[j]? = some (.own a c) → env[j]? = some (.own a c) := fun {j a c} q => by
    by_cases hj : j = i
    · subst hj; have := (set_eq q).2; cases this
    · exact (set_ne hj).mp q
  refine ⟨r.g, fun j d q => ?_, ⟨A, fun j a c q => h1 j a c (ow q), fun j k a b c d q1 q2 z => h2 j k a b c d (ow q1) (ow q2) z⟩, by simp [r.len], fun j a q => ?_⟩
  · by_cases hj : j = i
    · subst hj
      have := (set_eq q).2
      cases this
      exact ⟨_, hs, .dcl hp⟩
    · exact r.vals j d ((set_ne hj).mp q)
  · by_cases hj : j = i
    · subst hj; have := (set_eq q).2; cases this
    · exact r.excs j a ((set_ne hj).mp q)
theorem dn_lock (i : Nat) (h : PE X e (dN X.K fc)) : PE X e (dN X.K (lockN i fc)) := by
  refine ⟨fun pins s σ H Q I hw => ?_⟩
  obtain ⟨H0, F0, F, env, c, r, hf, q⟩ := hw
  unfold lockN at hf
  split at hf
  · rename_i kvs he
    split at hf
    · rename_i ds hds
      split at hf
      · rename_i hfl
        cases hf
        obtain ⟨v, hs, hv⟩ := r.vals i _ he
        obtain ⟨p, rfl, hp⟩ := inv_dctE hv
        rcases hp with hp | ⟨o, hp⟩
        · -- locked here
          have hHp := r.fh p _ hp
          refine (pe_lock h).run pins s σ H Q I ⟨p, _, hHp, trivial, fun od => ?_⟩
          have exF : Ex (upd F p (.frz od (.dK (kvs.map embK)))) (upd H p (.frz od (.dK (kvs.map embK)))) := fun a u ha => by
            by_cases hap : a = p
            · subst hap; rw [upd_same] at ha ⊢; exact ha
            · rw [upd_ne hap] at ha ⊢; exact r.fh a u ha
          obtain ⟨A, h1, h2⟩ := r.owns
          have r1 : Rel X.K (upd F p (.frz od (.dK (kvs.map embK)))) (upd F p (.frz od (.dK (kvs.map embK)))) (upd F p (.frz od (.dK (kvs.map embK)))) env σ (upd H p (.frz od (.dK (kvs.map embK)))) := by
            refine ⟨⟨exF, Ex.refl _, exF, fun _ _ => rfl⟩, fun j d hd => ?_, ⟨A, fun j a c hc => ?_, h2⟩, r.len, r.excs⟩
            · obtain ⟨v, k1, k2⟩ := r.vals j d hd
              exact ⟨v, k1, dt_lockF hp k2⟩
            · obtain ⟨o, k1, k2, k3, k4, k5, k6⟩ := h1 j a c hc
              have hne : A j ≠ p := fun z => by rw [z, hp] at k4; cases k4
              exact ⟨o, k1, by rw [upd_ne hne]; exact k2, ocr_lockF hp k3, by rw [upd_ne hne]; exact k4, by rw [upd_ne hne]; exact k4, k6⟩
          have r2 := rel_dcl (kvs := kvs) r1 ⟨_, he⟩ hs upd_same
          refine ⟨_, _, _, _, _, r2, hds, fun b o H' F' g hb ho hF hc => ?_⟩
          have hH'p : H' p = some (.frz od (.dK (kvs.map embK))) := g.h p _ upd_same
          have hF'p : F' p = some (.frz od (.dK (kvs.map embK))) := g.f p _ upd_same
          have hbp : b ≠ p := fun z => by subst z; rw [upd_same] at hb; cases hb
          refine ⟨hH'p, q b o _ (upd F' p (.dK (kvs.map embK))) ⟨fun a u ha => ?_, fun a u ha => ?_, fun a u ha => ?_, fun a ha => ?_⟩ ?_ ?_ ?_ ?_⟩
          · by_cases hap : a = p
            · subst hap; rw [upd_same]; rw [hHp] at ha; exact ha
            · rw [upd_ne hap]; exact g.h a u (by rw [upd_ne hap]; exact ha)
          · by_cases hap : a = p
            · subst hap; rw [upd_same]; rw [hp] at ha; exact ha
            · rw [upd_ne hap]; exact g.f a u (by rw [upd_ne hap]; exact ha)
          · by_cases hap : a = p
            · subst hap; rw [upd_same] at ha ⊢; exact ha
            · rw [upd_ne hap] at ha ⊢; exact g.fh a u ha
          · by_cases hap : a = p
            · subst hap; rw [upd_same, hp]
            · rw [upd_ne hap]
              have := g.fr a (by rw [upd_ne hap]; exact ha)
              rw [upd_ne hap] at this
              exact this
          · rw [upd_ne hbp] at hb; exact hb
          · rw [upd_ne hbp]; exact ho
          · rw [upd_ne hbp]; exact hF
          · cases hc with
            | l hc => exact .l ⟨hc.len, fun j x d hx hd => flat2_unlock hF'p (hc.at_ j x d hx hd) (List.all_eq_true.mp hfl d (List.mem_of_getElem? hd))⟩
        · -- locked already
          exact h.run pins s σ H Q I ⟨H0, F0, F, _, _, rel_dcl (kvs := kvs) r ⟨_, he⟩ hs hp, hds, q⟩
      · cases hf
    · cases hf
  · cases hf
/-- the keys of a dict that is locked -/
def keysF (i : Nat) : DEnv → Option (List D) := fun env => match env[i]? with
  | some (.val (.dcl kvs)) => some (kvs.map fun p => D.int p.1)
  | _ => none
theorem di_keys {x : Str} {px : Pos} {tg : Expr} {i : Nat} (hx : PE X (.Name x px) (tVar i)) : PI X tg (.Name x px) (dI X.K (keysF i)) := by
  refine PI.imp (pi_keys hx) ?_
  rintro σ H Q ⟨H0, F0, F, env, ds, r, hf, q⟩
  unfold keysF at hf
  split at hf
  · rename_i kvs he
    cases hf
    obtain ⟨v, hs, hv⟩ := r.vals i _ he
    cases hv with
    | @dcl p o _ hp =>
    refine ⟨_, hs, p, o, rfl, .inl ⟨_, r.fh p _ hp, q _ H F (.refl r.fh) ⟨fun j F' H e1 e2 hj => ?_, fun j d F' H x H' e1 e2 hd hy => ?_, fun F' H e1 e2 => ?_⟩⟩⟩
    · exact ⟨e2 _ _ (e1 _ _ hp), by simpa using hj⟩
    · obtain ⟨rfl, k, v, hk, rfl⟩ := hy
      rw [List.getElem?_map] at hk hd
      cases hkv : kvs[j]? with
      | none => rw [hkv] at hk; cases hk
      | some kv =>
        rw [hkv] at hk hd
        cases hk
        cases hd
        exact ⟨F', .refl e2, .int _⟩
    · exact ⟨e2 _ _ (e1 _ _ hp), by simp⟩
  · cases hf
end
end DL

namespace DL
open PySem PySem.Spec PyProof.Rows L2 Evl
/-! ### len(set(xs)), xs ints of which none stands twice -/
def lenSet (fe : DEnv → Option D) : DEnv → Option D := fun env => match fe env with
  | some (.lst ds) => (match intsOf ds with
    | some ns => if ns.length < 64 ∧ ns.Nodup then some (.int ns.length) else none
    | none => none)
  | _ => none
section
variable {X : Cx} {a : Expr} {fe : DEnv → Option D} {p p2 q pos : Pos}
theorem de_lenSet (hc : X.calm = true) (hg : Gl X "len") (hm : X.mg "len" = none) (hg2 : Gl X "set") (hm2 : X.mg "set" = none) (ha : PE X a (dE X.K fe)) (hs : starEach [a] X.env = (false, eval a X.env) :: starEach [] X.env := by rfl) :
    PE X (.Call (.Name "len" p) [.Call (.Name "set" p2) [a] [] q] [] pos) (dE X.K (lenSet fe)) := by
  refine PE.imp (RZ.pe_lenSetI hg hm hg2 hm2 ha hc hs) ?_
  rintro σ H Q ⟨H0, F0, F, env, d, r, hf, k⟩
  unfold lenSet at hf
  split at hf
  · rename_i ds hds
    split at hf
    · rename_i ns hns
      split at hf
      · rename_i hn
        cases hf
        refine ⟨H0, F0, F, env, _, r, hds, fun v H1 F1 g1 hv => ?_⟩
        obtain ⟨l, vs, rfl, hl, hx⟩ := hv.inv_lst
        obtain rfl := intsOf_map hns
        obtain rfl := dt_ints_inv hx
        exact ⟨l, ns, rfl, .inl (.inl (g1.fh l _ hl)), hn.2, (by have := hn.1; omega), k _ H1 F1 g1 (.int _)⟩
      · cases hf
    · cases hf
  · cases hf
end
end DL

namespace DL
open PySem PySem.Spec PyProof.Rows L2 Evl
/-! ### x[k], x perhaps one's own list -/
def ixO (i : Nat) (fk : DEnv → Option D) : DEnv → Option D := fun env => match env[i]? with
  | some (.own _ (.l ds)) => (match fk env with
    | some (.int k) => atI ds k
    | _ => none)
  | some (.val d) => (match fk env with
    | some k => ixG d k
    | none => none)
  | _ => none
section
variable {X : Cx} {b : Expr} {fk : DEnv → Option D} {x : Str} {px pos : Pos}
theorem de_ixO {i : Nat} (hx : PE X (.Name x px) (tVar i)) (hb : PE X b (dE X.K fk)) (hs : PlainIx b := by exact fun _ _ => rfl) : PE X (.Subscript (.Name x px) b pos) (dE X.K (ixO i fk)) := by
  refine PE.imp (pe_ix ix_any hx hb hs) ?_
  rintro σ H Q ⟨H0, F0, F, env, d, r, hf, q⟩
  unfold ixO at hf
  split at hf
  · rename_i a ds he
    obtain ⟨l, o, h1, h2, h3, h4, h5, h6⟩ := r.own he
    cases h3 with
    | @l vs _ h3 =>
    split at hf
    · rename_i k hk
      refine ⟨_, h1, H0, F0, F, env, _, r, hk, fun v H' F' g hv => ?_⟩
      cases hv.inv_int
      obtain ⟨z, k1, k2⟩ := atI_dt (h3.mono g.f) hf
      exact .inl ⟨l, vs, k, z, rfl, rfl, .inl (.inl (g.h _ _ h2)), k1, q z H' F' g k2⟩
    · cases hf
  · rename_i d' he
    obtain ⟨v, h1, hv⟩ := r.vals i d' he
    split at hf
    · rename_i k hk
      refine ⟨_, h1, H0, F0, F, env, _, r, hk, fun u H' F' g hu => ?_⟩
      exact r2_ix F' H' v u d' k d Q g.fh (hv.mono g.f) hu hf fun z H3 F3 g3 hz => q z H3 F3 (g.trans g3) hz
    · cases hf
  · cases hf
end
end DL

namespace DL
open PySem PySem.Spec PyProof.Rows L2 Evl
/-! ### x += e, ints -/
def augS (i : Nat) (fe : DEnv → Option D) : DEnv → Option Out := fun env => match env[i]? with
  | some (.val (.int a)) => (match fe env with
    | some (.int b) => some (.nx (env.set i (.val (.int (a + b)))))
    | _ => none)
  | _ => none
section
variable {X : Cx} {R : RX} {e : Expr} {fe : DEnv → Option D} {x : Str} {px pos : Pos}
theorem ds_aug {i : Nat} {pos' : Pos} (hN : X.N.Nodup) (hi : X.N[i]? = some x) (hx : Loc X.env.scope x) (he : PE X e (dE X.K fe)) (hf : X.fn x = true ∨ X.env.scope.names.lookup x = some .local := by first | exact .inl rfl | exact .inr rfl | assumption) :
    PS X (.AugAssign (.Name x pos') .Add e pos) (dS X.K R (augS i fe)) := by
  refine PS.imp (ps_aug hN hi hx he ip_add hf) ?_
  rintro D σ H ⟨H0, F0, F, env, o, r, hf, p⟩
  unfold augS at hf
  split at hf
  · rename_i a ha
    split at hf
    · rename_i b hb
      cases hf
      obtain ⟨v, h1, hv⟩ := r.vals i _ ha
      cases hv.inv_int
      exact ⟨_, h1, H0, F0, F, env, _, r, hb, fun v H' F' g hv => by cases hv.inv_int; exact ⟨a, b, rfl, rfl, p F' _ H' ((r.grow g).setVal (.int _))⟩⟩
    · cases hf
  · cases hf
end
/-! ### max of a list of pairs of ints -/
def pairI (q : Int × Int) : D := .tup [.int q.1, .int q.2]
def pairsOf : List D → Option (List (Int × Int))
  | [] => some []
  | .tup [.int a, .int b] :: r => (match pairsOf r with
    | some ps => some ((a, b) :: ps)
    | none => none)
  | _ :: _ => none
theorem pairsOf_map : ∀ {ds : List D} {ps : List (Int × Int)}, pairsOf ds = some ps → ds = ps.map pairI
  | [], ps, h => by cases h; rfl
  | d :: ds, ps, h => by
    unfold pairsOf at h
    split at h
    · cases ‹_ :: _ = []›
    · rename_i a b r he
      cases he
      split at h
      · rename_i ps' hp
        cases h
        rw [List.map_cons, ← pairsOf_map hp]
        rfl
      · cases h
    · cases h
theorem pairsOf_pairs : ∀ ps : List (Int × Int), pairsOf (ps.map pairI) = some ps
  | [] => rfl
  | q :: ps => by simp [pairsOf, pairI, pairsOf_pairs ps]
/-- the first of the greatest -/
def ltII (p q : Int × Int) : Bool := if p.1 = q.1 then decide (p.2 < q.2) else decide (p.1 < q.1)
def maxII (p : Int × Int) (ps : List (Int × Int)) : Int × Int := ps.foldl (fun a y => if ltII a y = true then y else a) p
theorem maxP_eq (p : Int × Int) (ps : List (Int × Int)) : PySem.W.maxOf p ps = maxII p ps := rfl
theorem toPyL_pairs : ∀ ps : List (Int × Int), toPyL (ps.map pairI) = ps.map (PySem.W.Datum.toD : Int × Int → PyData)
  | [] => rfl
  | q :: ps => by
    rw [List.map_cons, List.map_cons, toPyL, toPyL_pairs ps]
    rfl
theorem lay_pairs : ∀ q : Int × Int, (toPy (pairI q)).canLay0 = true := fun q => by
  simp [pairI, toPy, toPyL, PyData.canLay0, PyData.canLayAll0]
def rMaxP (K : PySem.W.Frag) : List V → Hp → VK → Prop := fun vs H Q => ∃ (a : Addr) (xs : List V) (p : Int × Int) (ps : List (Int × Int)), vs = [.ref a] ∧ SqL K H a xs ∧ DpAll K H xs ((p :: ps).map (PySem.W.Datum.toD : Int × Int → PyData)) ∧
  ∀ (i : Nat) (x : V), xs[i]? = some x → (p :: ps)[i]? = some (maxII p ps) → Q x H
theorem cr_maxP {X : Cx} {j : Nat} (hc : X.calm = true) (hr : Room j X.A) : CallR X (.builtin "max") (rMaxP X.K) := by
  intro pins s σ H vs us Q I r h
  obtain ⟨a, xs, p, ps, rfl, hs, hd, q⟩ := h
  obtain ⟨its, rv, hl, _⟩ := I.list hs
  rw [Vals.ref1 r]
  obtain ⟨as, hR⟩ := Dp.readsAll I _ xs _ hd rv
  have hh : PySem.W.HoldAll s.heap its.toArray.toList (p :: ps) := ⟨as, by simpa using hR⟩
  have hu := hr.units
  refine PySem.W.max_list_datum (α := Int × Int) (I.ok.hd hc) hl.isList hh (by
    show X.A.units + 1 + _ < cLine
    have : PySem.W.Datum.depth (Int × Int) ≤ 8 := by decide
    omega) fun i v h' tk hv hold hk => ?_
  have hv' : its[i]? = some v := by simpa using hv
  obtain ⟨x, hx, hxv⟩ : ∃ x, xs[i]? = some x ∧ RelV x v := by
    have hln := rv.length
    have hi := (List.getElem?_eq_some_iff.mp hv').1
    have hi2 : i < xs.length := by omega
    obtain ⟨y, hy, hyv⟩ := rv.get (i := i) (x := xs[i]) (List.getElem?_eq_getElem hi2)
    rw [hv'] at hy
    cases hy
    exact ⟨_, List.getElem?_eq_getElem hi2, hyv⟩
  have hh' : PySem.W.HoldAll h' its.toArray.toList (p :: ps) := hh.keeps hk
  obtain ⟨y, hy, hyv⟩ := hh'.at (i := i) (v := v) (by simpa using hv')
  have e : y = maxII p ps := by
    obtain ⟨a1, r1⟩ := hyv
    obtain ⟨a2, r2⟩ := hold
    have := (Reads.unique r1 _ _ r2).1
    rw [maxP_eq] at this
    have e1 := congrArg (fun z => PyData.eqv z (PySem.W.Datum.toD (maxII p ps))) this
    simp only [PySem.W.Datum.eqv] at e1
    simpa using e1
  subst e
  exact ⟨x, H, I.kept hk, hxv, q i x hx hy⟩
def maxPG : List D → Option D
  | [.lst xs] => (match pairsOf xs with
    | some (a :: r) => some (pairI (maxII a r))
    | _ => none)
  | _ => none
theorem rc_maxP {K : PySem.W.Frag} : RCOk K (rMaxP K) maxPG := by
  intro F H xs as d Q e hx hg q
  unfold maxPG at hg
  split at hg
  · split at hg
    · rename_i ds a r hn
      cases hg
      obtain ⟨x, rfl, hd⟩ := hx.inv_one
      obtain ⟨p, vs, rfl, hp, hr⟩ := hd.inv_lst
      have hds := pairsOf_map hn
      refine ⟨p, vs, a, r, rfl, .inl (.inl (e _ _ hp)), ?_, fun i x hx hm => ?_⟩
      · rw [← toPyL_pairs, ← hds]
        refine dpAll_of hr.len fun i x d ha hb => ((hr.at_ i x d ha hb).mono e).dp ?_
        have : d ∈ (a :: r).map pairI := by rw [← hds]; exact List.mem_of_getElem? hb
        obtain ⟨y, _, rfl⟩ := List.mem_map.mp this
        exact lay_pairs y
      · refine q x H F (.refl e) (hr.at_ i x _ hx ?_)
        rw [hds, List.getElem?_map, hm]
        rfl
    · cases hg
  · cases hg

/-! ### a shop of one's own: a tuple (x, y, list), the list changed -/
structure Box (K : PySem.W.Frag) (a p : Addr) (x y : D) (ds : List D) (H F : Hp) : Prop where
  ex : Ex F H
  tup : ∃ vx vy, F a = some (.tup [vx, vy, .ref p]) ∧ Dt K F vx x ∧ Dt K F vy y
  lst : ∃ xs, H p = some (.lst xs) ∧ DtA K F xs ds
  out : F p = none
section
variable {K : PySem.W.Frag} {a p : Addr} {x y d : D} {ds : List D} {H F H' F' H0 F0 : Hp} {xs : List V} {v : V}
theorem Box.rd (b : Box K a p x y ds H F) : ∃ xs, H p = some (.lst xs) ∧ DtA K F xs ds ∧ Ex F (upd F p (.lst xs)) ∧ Ex (upd F p (.lst xs)) H ∧ Dt K (upd F p (.lst xs)) (.ref a) (.tup [x, y, .lst ds]) := by
  obtain ⟨xs, h1, h2⟩ := b.lst
  obtain ⟨vx, vy, t1, t2, t3⟩ := b.tup
  have e1 : Ex F (upd F p (.lst xs)) := Ex.new b.out
  refine ⟨xs, h1, h2, e1, fun c u hc => ?_, ?_⟩
  · by_cases hcp : c = p
    · subst hcp; rw [upd_same] at hc; cases hc; exact h1
    · rw [upd_ne hcp] at hc; exact b.ex c u hc
  · exact .tup' (e1 _ _ t1) (.cons (t2.mono e1) (.cons (t3.mono e1) (.cons (.lst' upd_same (h2.mono e1)) .nil)))
theorem Box.grow (b : Box K a p x y ds H F) (hx : H p = some (.lst xs)) (g : Grow H (upd F p (.lst xs)) H' F') : Box K a p x y ds H' (drop F' p) ∧ Grow (drop H p) F H' (drop F' p) ∧ H' p = some (.lst xs) := by
  have h1 : Ex F (drop F' p) := fun c u hc => by
    by_cases hcp : c = p
    · subst hcp; rw [b.out] at hc; cases hc
    · rw [drop_ne hcp]; exact g.f c u (by rw [upd_ne hcp]; exact hc)
  have h2 : Ex (drop F' p) H' := fun c u hc => by
    by_cases hcp : c = p
    · subst hcp; rw [drop_same] at hc; cases hc
    · rw [drop_ne hcp] at hc; exact g.fh c u hc
  have h3 : H' p = some (.lst xs) := g.h _ _ hx
  obtain ⟨zs, z1, z2⟩ := b.lst
  obtain ⟨vx, vy, t1, t2, t3⟩ := b.tup
  rw [hx] at z1
  cases z1
  refine ⟨⟨h2, ⟨vx, vy, h1 _ _ t1, t2.mono h1, t3.mono h1⟩, ⟨xs, h3, z2.mono h1⟩, drop_same⟩, ⟨fun c u hc => ?_, h1, h2, fun c hc => ?_⟩, h3⟩
  · by_cases hcp : c = p
    · subst hcp; rw [drop_same] at hc; cases hc
    · rw [drop_ne hcp] at hc; exact g.h c u hc
  · by_cases hcp : c = p
    · subst hcp; rw [drop_same] at hc; exact absurd rfl hc
    · rw [drop_ne hcp] at hc ⊢
      rw [g.fr c hc, upd_ne hcp]
theorem Box.put (b : Box K a p x y ds H F) (hx : H p = some (.lst xs)) (hv : Dt K F v d) (j : Nat) : Box K a p x y (ds.set j d) (upd H p (.lst (xs.set j v))) F ∧ Grow (drop H p) F (upd H p (.lst (xs.set j v))) F := by
  obtain ⟨zs, z1, z2⟩ := b.lst
  rw [hx] at z1
  cases z1
  have h2 : Ex F (upd H p (.lst (xs.set j v))) := fun c u hc => by
    by_cases hcp : c = p
    · subst hcp; rw [b.out] at hc; cases hc
    · rw [upd_ne hcp]; exact b.ex c u hc
  refine ⟨⟨h2, b.tup, ⟨_, upd_same, z2.set j hv⟩, b.out⟩, ⟨fun c u hc => ?_, Ex.refl _, h2, fun _ _ => rfl⟩⟩
  by_cases hcp : c = p
  · subst hcp; rw [drop_same] at hc; cases hc
  · rw [drop_ne hcp] at hc; rw [upd_ne hcp]; exact hc
theorem box_trans {H1 F1 H2 F2 : Hp} (g : Grow (drop H p) F H1 F1) (g2 : Grow (drop H1 p) F1 H2 F2) : Grow (drop H p) F H2 F2 := by
  refine ⟨fun c u hc => ?_, g.f.trans g2.f, g2.fh, fun c hc => ?_⟩
  · by_cases hcp : c = p
    · subst hcp; rw [drop_same] at hc; cases hc
    · exact g2.h c u (by rw [drop_ne hcp]; exact g.h c u hc)
  · by_cases hcp : c = p
    · subst hcp; exact absurd drop_same hc
    · rw [← g.fr c hc]
      refine g2.fr c ?_
      rw [drop_ne hcp]
      cases q : drop H p c with
      | none => exact absurd q hc
      | some o => rw [g.h c o q]; simp
/-- a pair of ints stays a datum without p -/
theorem dt_pair_drop {i j : D} (hv : Dt K F v (.tup [i, j])) (hi : flatD i = true) (hj : flatD j = true) (hp : F p = some (.lst xs)) : Dt K (drop F p) v (.tup [i, j]) := by
  obtain ⟨b, vs, rfl, hb, r⟩ := hv.inv_tup
  have hbp : b ≠ p := by rintro rfl; rw [hp] at hb; cases hb
  obtain ⟨u, w, rfl, hu, hw⟩ := r.inv_two
  exact .tup' (by rw [drop_ne hbp]; exact hb) (.two (hu.flat hi) (hw.flat hj))
/-- the promise of a def that changes the list of a shop of one's own -/
def spB (K : PySem.W.Frag) (n : Nat) (T : D → D → List D → List D → D → List D → Prop) : Sp := fun vs H Q _ => ∃ (a p : Addr) (us : List V) (x y : D) (ds es : List D) (F : Hp) (d : D) (ds' : List D),
  vs = .ref a :: us ∧ us.length + 1 = n ∧ Box K a p x y ds H F ∧ DtA K F us es ∧ T x y ds es d ds' ∧
  ∀ v H' F', Grow (drop H p) F H' F' → Box K a p x y ds' H' F' → Dt K F' v d → Q v H'
end
/-- callable so -/
def ClB (P : Program) (w : World) (K : PySem.W.Frag) (mg : Str → Option Value) (base : Heap) (x : Str) (k n : Nat) (T : D → D → List D → List D → D → List D → Prop) : Prop :=
  ∃ (f : Addr) (fd : FuncData) (ps : List Str), FnOk P w K mg base (L2.CX P w) k f fd ps (spB K n T) ∧ mg x = some (.ref f) ∧ PySem.W.keepIn K (.ref f) = true ∧ L2.Binds K fd ps []
end DL

namespace LH
open PySem PySem.Spec PyProof.Rows L2 Evl DL

def b_is_number : DEnv → Option Out := (seqS (ifS (orT (notT (tru (isiF .int (getV 0)))) (tru (isiF .bool (getV 0)))) (retS (cst (.bl false))) nxS) (retS (chn leG leG (getV 1) (getV 0) (getV 2))))
def b_is_step (sf_is_number : List D → Option Res) : DEnv → Option Out := (seqS (ifS (orT (notT (tru (isiF .tuple (getV 0)))) (tstB (op2 neG (opC lenG (consA (getV 0) (cst0 []))) (cst (.int 2))))) (retS (cst (.bl false))) nxS) (seqS (asgS (getV 0) (tupG 2 (consG (setG 1) (consG (setG 2) nilG)))) (seqS (ifS (tstB (op2 eqG (getV 1) (cst (.str "work")))) (retS (opC (okD sf_is_number) (consA (getV 2) (consA (cst (.int 1)) (consA (cst (.int 100)) (cst0 [])))))) nxS) (seqS (ifS (orT (tstB (op2 eqG (getV 1) (cst (.str "hold")))) (tstB (op2 eqG (getV 1) (cst (.str "free"))))) (retS (opC (okD sf_is_number) (consA (getV 2) (consA (cst (.int 0)) (consA (cst (.int 9)) (cst0 [])))))) nxS) (retS (cst (.bl false)))))))
def b_held_after_f0 : DEnv → Option Out := (ifS (tstB (op2 eqG (getV 2) (cst (.str "hold")))) (appS 1 (mE (getV 3))) (ifS (tstB (op2 eqG (getV 2) (cst (.str "free")))) (rmvS 1 (getV 3)) nxS))
def b_held_after : DEnv → Option Out := (seqS (ownS 1 (ocL (cst0 []))) (seqS (forS (itL (getV 0)) (tupG 2 (consG (setG 2) (consG (setG 3) nilG))) (b_held_after_f0)) (frzS 1 (retS (getV 1)))))
def b_holds_rightly_f0 (sf_held_after : List D → Option Res) : DEnv → Option Out := (seqS (putS 2 (opC (okD sf_held_after) (consA (slF (getV 0) (fun _ => some none) (prt (getV 1))) (cst0 [])))) (seqS (ifS (andT (tstB (op2 eqG (getV 3) (cst (.str "hold")))) (andT (tru (getV 2)) (tstB (op2 leG (getV 4) (opC maxG (consA (getV 2) (cst0 []))))))) (retS (cst (.bl false))) nxS) (ifS (andT (tstB (op2 eqG (getV 3) (cst (.str "free")))) (tstB (op2 (inG true) (getV 4) (getV 2)))) (retS (cst (.bl false))) nxS)))
def b_holds_rightly (sf_held_after : List D → Option Res) : DEnv → Option Out := (seqS (forS (enumF (consA (getV 0) (cst0 []))) (tupG 2 (consG (setG 1) (consG (tupG 2 (consG (setG 3) (consG (setG 4) nilG))) nilG))) (b_holds_rightly_f0 sf_held_after)) (retS (op1 notG (opC (okD sf_held_after) (consA (getV 0) (cst0 []))))))
def b_is_plan (sf_is_step sf_holds_rightly : List D → Option Res) : DEnv → Option Out := (seqS (ifS (orT (notT (tru (isiF .list (getV 0)))) (notT (tstB (chn leG leG (cst (.int 1)) (opC lenG (consA (getV 0) (cst0 []))) (cst (.int 40)))))) (retS (cst (.bl false))) nxS) (retS (andE (opC allG (consA (ocE (lcF (itL (getV 0)) (setG 1) (cst0 true) (opC (okD sf_is_step) (consA (getV 1) (cst0 []))) [1])) (cst0 []))) (opC (okD sf_holds_rightly) (consA (getV 0) (cst0 []))))))
def b_check_worker (sf_is_number sf_is_plan : List D → Option Res) : DEnv → Option Out := (seqS (ifS (orT (notT (tru (isiF .tuple (getV 0)))) (tstB (op2 neG (opC lenG (consA (getV 0) (cst0 []))) (cst (.int 3))))) (mkF "BadWorker" (consA (cst (.str "a worker is a tuple (rank, start, plan)")) (cst0 []))) nxS) (seqS (asgS (getV 0) (tupG 3 (consG (setG 2) (consG (setG 3) (consG (setG 4) nilG))))) (seqS (ifS (notT (tru (opC (okD sf_is_number) (consA (getV 2) (consA (cst (.int 1)) (consA (cst (.int 1000000)) (cst0 []))))))) (mkF "BadRank" (consA (jsF ((cst (.str "a rank is a number from 1 to ")) :: ((op1 fmtG (cst (.int 1000000))) :: [])) Str.empty) (cst0 []))) nxS) (seqS (ifS (tstB (op2 (inG false) (getV 2) (getV 1))) (mkF "BadRank" (consA (cst (.str "a worker ahead has this rank")) (cst0 []))) nxS) (seqS (ifS (notT (tru (opC (okD sf_is_number) (consA (getV 3) (consA (cst (.int 0)) (consA (cst (.int 1000)) (cst0 []))))))) (mkF "BadStart" (consA (jsF ((cst (.str "a start is a number from 0 to ")) :: ((op1 fmtG (cst (.int 1000))) :: [])) Str.empty) (cst0 []))) nxS) (ifS (notT (tru (opC (okD sf_is_plan) (consA (getV 4) (cst0 []))))) (mkF "BadPlan" (consA (cst (.str "a plan is a list of steps that frees each tool it holds")) (cst0 []))) nxS))))))
def b_check_number (sf_is_number : List D → Option Res) : DEnv → Option Out := (ifS (notT (tru (opC (okD sf_is_number) (consA (getV 1) (consA (cst (.int 0)) (consA (op2 subG (opC lenG (consA (op2 ixG (getV 0) (cst (.int 0))) (cst0 []))) (cst (.int 1))) (cst0 []))))))) (mkF "NoWorker" (consA (cst (.str "there is no worker of this number")) (cst0 []))) nxS)
def b_plan_of : DEnv → Option Out := (retS (op2 ixG (op2 ixG (op2 ixG (getV 0) (cst (.int 0))) (getV 1)) (cst (.int 2))))
def b_place_of : DEnv → Option Out := (retS (op2 ixG (op2 ixG (op2 ixG (getV 0) (cst (.int 2))) (getV 1)) (cst (.int 0))))
def b_copied : DEnv → Option Out := (retS (ocE (lcF (itL (getV 0)) (tupG 3 (consG (setG 1) (consG (setG 2) (consG (setG 3) nilG)))) (cst0 true) (opC mkT (consA (getV 1) (consA (getV 2) (consA (ocE (lstN (getV 3))) (cst0 []))))) [1, 2, 3])))
def b_begun_f0 (sf_check_worker sf_copied : List D → Option Res) : DEnv → Option Out := (seqS (drpX (borX 1 (opX sf_check_worker (consA (getV 2) (consA (getV 1) (cst0 [])))))) (appS 1 (mE (op2 ixG (getV 2) (cst (.int 0))))))
def b_begun (sf_check_worker sf_copied : List D → Option Res) : DEnv → Option Out := (seqS (ifS (notT (tstB (chn leG leG (cst (.int 1)) (opC lenG (consA (getV 0) (cst0 []))) (cst (.int 8))))) (mkF "TooMany" (consA (jsF ((cst (.str "there are 1 to ")) :: ((op1 fmtG (cst (.int 8))) :: ((cst (.str " workers")) :: []))) Str.empty) (cst0 []))) nxS) (seqS (ownS 1 (ocL (cst0 []))) (seqS (forS (itL (getV 0)) (setG 2) (b_begun_f0 sf_check_worker sf_copied)) (retS (opC mkT (consA (opC (okD sf_copied) (consA (getV 0) (cst0 []))) (consA (cst (.int 0)) (consA (ocE (lcF (itL (getV 0)) (setG 3) (cst0 true) (opC mkT (consA (cst (.int 0)) (consA (cst (.int 0)) (cst0 [])))) [3])) (cst0 [])))))))))
def b_has_steps (sf_place_of sf_plan_of : List D → Option Res) : DEnv → Option Out := (retS (op2 ltG (opC (okD sf_place_of) (consA (getV 0) (consA (getV 1) (cst0 [])))) (opC lenG (consA (opC (okD sf_plan_of) (consA (getV 0) (consA (getV 1) (cst0 [])))) (cst0 [])))))
def b_step_of (sf_check_number sf_has_steps sf_plan_of sf_place_of : List D → Option Res) : DEnv → Option Out := (seqS (drpX (opX sf_check_number (consA (getV 0) (consA (getV 1) (cst0 []))))) (seqS (ifS (notT (tru (opC (okD sf_has_steps) (consA (getV 0) (consA (getV 1) (cst0 [])))))) (retS (cst .non)) nxS) (retS (op2 ixG (opC (okD sf_plan_of) (consA (getV 0) (consA (getV 1) (cst0 [])))) (opC (okD sf_place_of) (consA (getV 0) (consA (getV 1) (cst0 []))))))))
def b_law_cell_at : DEnv → Option Out := (seqS (ifS (tstB (op2 ltG (getV 1) (opC lenG (consA (getV 0) (cst0 []))))) (retS (op2 ixG (getV 0) (getV 1))) nxS) (retS (cst (.int 0))))
def b_law_called (sf_begun sf_step_of : List D → Option Res) : DEnv → Option Out := (seqS (putS 2 (opC mkL (consA (opC mkT (consA (cst (.str "work")) (consA (cst (.int 1)) (cst0 [])))) (cst0 [])))) (seqS (putS 3 (opC mkT (consA (op2 addG (cst (.int 1)) (op2 modG (getV 1) (cst (.int 1000)))) (consA (op2 modG (getV 1) (cst (.int 1001))) (consA (getV 2) (cst0 [])))))) (seqS (ifS (tstB (op2 eqG (getV 0) (cst (.int 0)))) (drpX (opX sf_begun (consA (op2 mulG (op2 mulG (opC mkL (consA (getV 3) (cst0 []))) (op2 addG (cst (.int 9)) (op2 modG (getV 1) (cst (.int 3))))) (op2 modG (getV 1) (cst (.int 2)))) (cst0 [])))) nxS) (seqS (ifS (tstB (op2 eqG (getV 0) (cst (.int 1)))) (drpX (opX sf_begun (consA (opC mkL (consA (opC mkT (consA (op2 ixG (getV 3) (cst (.int 0))) (consA (op2 ixG (getV 3) (cst (.int 1))) (cst0 [])))) (cst0 []))) (cst0 [])))) nxS) (seqS (ifS (tstB (op2 eqG (getV 0) (cst (.int 2)))) (drpX (opX sf_begun (consA (opC mkL (consA (opC mkT (consA (op2 subG (cst (.int 0)) (getV 1)) (consA (op2 ixG (getV 3) (cst (.int 1))) (consA (getV 2) (cst0 []))))) (cst0 []))) (cst0 [])))) nxS) (seqS (ifS (tstB (op2 eqG (getV 0) (cst (.int 3)))) (drpX (opX sf_begun (consA (opC mkL (consA (opC mkT (consA (op2 ixG (getV 3) (cst (.int 0))) (consA (op2 addG (cst (.int 1001)) (getV 1)) (consA (getV 2) (cst0 []))))) (cst0 []))) (cst0 [])))) nxS) (seqS (ifS (tstB (op2 eqG (getV 0) (cst (.int 4)))) (drpX (opX sf_begun (consA (opC mkL (consA (opC mkT (consA (op2 ixG (getV 3) (cst (.int 0))) (consA (op2 ixG (getV 3) (cst (.int 1))) (consA (op2 addG (getV 2) (opC mkL (consA (opC mkT (consA (cst (.str "hold")) (consA (op2 modG (getV 1) (cst (.int 10))) (cst0 [])))) (cst0 [])))) (cst0 []))))) (cst0 []))) (cst0 [])))) nxS) (ifS (tstB (op2 eqG (getV 0) (cst (.int 5)))) (drpX (opX sf_step_of (consA (opC (okD sf_begun) (consA (opC mkL (consA (getV 3) (cst0 []))) (cst0 []))) (consA (op2 addG (cst (.int 1)) (getV 1)) (cst0 []))))) nxS))))))))
end LH

namespace LH
open PySem PySem.Spec PyProof.Rows L2 Evl DL

/-! ### is_number -/
def isNum (d : D) (lo hi : Int) : Bool := match d with
  | .int i => decide (lo ≤ i) && decide (i ≤ hi)
  | _ => false
abbrev n_is_number : Nat := 3
def sf_is_number : List D → Option Res
  | [d, .int lo, .int hi] => some (.ok (.bl (isNum d lo hi)))
  | _ => none
theorem m_is_number (ds : List D) (r : Res) (hl : ds.length = n_is_number) (hs : sf_is_number ds = some r) : resO (b_is_number (startE ds 3)) = some r := by
  unfold sf_is_number at hs
  split at hs
  · rename_i d lo hi
    cases hs
    cases d with
    | int i =>
      by_cases h1 : lo ≤ i <;> simp [b_is_number, startE, seqS, ifS, nxS, retS, retNS, drpS, putS, asgS, setG, getV, op2, op1, opC, consA, cst, cst0, tstB, asB, tru, truD, orT, andT, notT, andE, orE, ifE, chn, isiF, isTy, addG, mulG, iiG, eqG_ii, eqG_ss, eqG_bb, neG_ii, neG_ss, neG_bb, isNG, notNG, notG, negG, ixG, ixO, lenG, intG, max2G, min2G, mkT, mkL, okD, opX, drpX, putX, retX, mkF, resO, ownS, ocL, ocE, ocD, frzS, borE, borT, borX, flatD, appS, mE, popM, tup2M, rmvS, setS, tupG, consG, nilG, lstN, lstG, itL, itemsL, atI_0, atI_l1, atI_l2, atI_l3, atI_1, atI_2, atI_3, st_wh, st_wf, st_hw, st_hf, st_fw, st_fh, rng1, rng2, whS, forS, prt, isNum, h1]
    | _ => simp [b_is_number, startE, seqS, ifS, nxS, retS, retNS, drpS, putS, asgS, setG, getV, op2, op1, opC, consA, cst, cst0, tstB, asB, tru, truD, orT, andT, notT, andE, orE, ifE, chn, isiF, isTy, addG, mulG, iiG, eqG_ii, eqG_ss, eqG_bb, neG_ii, neG_ss, neG_bb, isNG, notNG, notG, negG, ixG, ixO, lenG, intG, max2G, min2G, mkT, mkL, okD, opX, drpX, putX, retX, mkF, resO, ownS, ocL, ocE, ocD, frzS, borE, borT, borX, flatD, appS, mE, popM, tup2M, rmvS, setS, tupG, consG, nilG, lstN, lstG, itL, itemsL, atI_0, atI_l1, atI_l2, atI_l3, atI_1, atI_2, atI_3, st_wh, st_wf, st_hw, st_hf, st_fw, st_fh, rng1, rng2, whS, forS, prt, isNum]
  · cases hs

/-! ### is_step -/
def isStep : D → Bool
  | .tup [.str w, n] => if w = "work" then isNum n 1 100 else if w = "hold" ∨ w = "free" then isNum n 0 9 else false
  | _ => false
/-- the words that are compared may be compared -/
def stepOk : D → Bool
  | .tup [w, _] => eqOk w
  | _ => true
abbrev n_is_step : Nat := 1
def sf_is_step : List D → Option Res
  | [d] => if stepOk d then some (.ok (.bl (isStep d))) else none
  | _ => none
theorem eqOk_lit : eqOk (.str "work") = true ∧ eqOk (.str "hold") = true ∧ eqOk (.str "free") = true := by
  refine ⟨?_, ?_, ?_⟩ <;> decide +kernel
theorem eqG_str {w : D} {z : Str} (h : eqOk w = true) (hz : eqOk (.str z) = true) : eqG w (.str z) = some (.bl (match w with | .str x => decide (x = z) | _ => false)) := by
  cases w <;> simp [eqG, h, hz, toPy, PyData.eqv]
theorem m_is_step (ds : List D) (r : Res) (hl : ds.length = n_is_step) (hs : sf_is_step ds = some r) : resO (b_is_step sf_is_number (startE ds 3)) = some r := by
  unfold sf_is_step at hs
  split at hs
  · rename_i d
    split at hs
    · rename_i hok
      cases hs
      obtain ⟨e1, e2, e3⟩ := eqOk_lit
      cases d with
      | tup xs =>
        match xs, hok with
        | [w, n], hok =>
          have hw : eqOk w = true := hok
          have q1 := eqG_str hw e1
          have q2 := eqG_str hw e2
          have q3 := eqG_str hw e3
          cases w with
          | str x =>
            by_cases h1 : x = "work"
            · subst h1; simp [b_is_step, startE, seqS, ifS, nxS, retS, retNS, drpS, putS, asgS, setG, getV, op2, op1, opC, consA, cst, cst0, tstB, asB, tru, truD, orT, andT, notT, andE, orE, ifE, chn, isiF, isTy, addG, mulG, iiG, eqG_ii, eqG_ss, eqG_bb, neG_ii, neG_ss, neG_bb, isNG, notNG, notG, negG, ixG, ixO, lenG, intG, max2G, min2G, mkT, mkL, okD, opX, drpX, putX, retX, mkF, resO, ownS, ocL, ocE, ocD, frzS, borE, borT, borX, flatD, appS, mE, popM, tup2M, rmvS, setS, tupG, consG, nilG, lstN, lstG, itL, itemsL, atI_0, atI_l1, atI_l2, atI_l3, atI_1, atI_2, atI_3, st_wh, st_wf, st_hw, st_hf, st_fw, st_fh, rng1, rng2, whS, forS, prt, isStep, sf_is_number]
            · by_cases h2 : x = "hold"
              · subst h2; simp [b_is_step, startE, seqS, ifS, nxS, retS, retNS, drpS, putS, asgS, setG, getV, op2, op1, opC, consA, cst, cst0, tstB, asB, tru, truD, orT, andT, notT, andE, orE, ifE, chn, isiF, isTy, addG, mulG, iiG, eqG_ii, eqG_ss, eqG_bb, neG_ii, neG_ss, neG_bb, isNG, notNG, notG, negG, ixG, ixO, lenG, intG, max2G, min2G, mkT, mkL, okD, opX, drpX, putX, retX, mkF, resO, ownS, ocL, ocE, ocD, frzS, borE, borT, borX, flatD, appS, mE, popM, tup2M, rmvS, setS, tupG, consG, nilG, lstN, lstG, itL, itemsL, atI_0, atI_l1, atI_l2, atI_l3, atI_1, atI_2, atI_3, st_wh, st_wf, st_hw, st_hf, st_fw, st_fh, rng1, rng2, whS, forS, prt, isStep, sf_is_number]
              · by_cases h3 : x = "free"
                · subst h3; simp [b_is_step, startE, seqS, ifS, nxS, retS, retNS, drpS, putS, asgS, setG, getV, op2, op1, opC, consA, cst, cst0, tstB, asB, tru, truD, orT, andT, notT, andE, orE, ifE, chn, isiF, isTy, addG, mulG, iiG, eqG_ii, eqG_ss, eqG_bb, neG_ii, neG_ss, neG_bb, isNG, notNG, notG, negG, ixG, ixO, lenG, intG, max2G, min2G, mkT, mkL, okD, opX, drpX, putX, retX, mkF, resO, ownS, ocL, ocE, ocD, frzS, borE, borT, borX, flatD, appS, mE, popM, tup2M, rmvS, setS, tupG, consG, nilG, lstN, lstG, itL, itemsL, atI_0, atI_l1, atI_l2, atI_l3, atI_1, atI_2, atI_3, st_wh, st_wf, st_hw, st_hf, st_fw, st_fh, rng1, rng2, whS, forS, prt, isStep, sf_is_number]
                · simp [b_is_step, startE, seqS, ifS, nxS, retS, retNS, drpS, putS, asgS, setG, getV, op2, op1, opC, consA, cst, cst0, tstB, asB, tru, truD, orT, andT, notT, andE, orE, ifE, chn, isiF, isTy, addG, mulG, iiG, eqG_ii, eqG_ss, eqG_bb, neG_ii, neG_ss, neG_bb, isNG, notNG, notG, negG, ixG, ixO, lenG, intG, max2G, min2G, mkT, mkL, okD, opX, drpX, putX, retX, mkF, resO, ownS, ocL, ocE, ocD, frzS, borE, borT, borX, flatD, appS, mE, popM, tup2M, rmvS, setS, tupG, consG, nilG, lstN, lstG, itL, itemsL, atI_0, atI_l1, atI_l2, atI_l3, atI_1, atI_2, atI_3, st_wh, st_wf, st_hw, st_hf, st_fw, st_fh, rng1, rng2, whS, forS, prt, isStep, sf_is_number, h1, h2, h3]
          | _ => simp [b_is_step, startE, seqS, ifS, nxS, retS, retNS, drpS, putS, asgS, setG, getV, op2, op1, opC, consA, cst, cst0, tstB, asB, tru, truD, orT, andT, notT, andE, orE, ifE, chn, isiF, isTy, addG, mulG, iiG, eqG_ii, eqG_ss, eqG_bb, neG_ii, neG_ss, neG_bb, isNG, notNG, notG, negG, ixG, ixO, lenG, intG, max2G, min2G, mkT, mkL, okD, opX, drpX, putX, retX, mkF, resO, ownS, ocL, ocE, ocD, frzS, borE, borT, borX, flatD, appS, mE, popM, tup2M, rmvS, setS, tupG, consG, nilG, lstN, lstG, itL, itemsL, atI_0, atI_l1, atI_l2, atI_l3, atI_1, atI_2, atI_3, st_wh, st_wf, st_hw, st_hf, st_fw, st_fh, rng1, rng2, whS, forS, prt, isStep, q1, q2, q3]
        | [], _ => simp [b_is_step, startE, seqS, ifS, nxS, retS, retNS, drpS, putS, asgS, setG, getV, op2, op1, opC, consA, cst, cst0, tstB, asB, tru, truD, orT, andT, notT, andE, orE, ifE, chn, isiF, isTy, addG, mulG, iiG, eqG_ii, eqG_ss, eqG_bb, neG_ii, neG_ss, neG_bb, isNG, notNG, notG, negG, ixG, ixO, lenG, intG, max2G, min2G, mkT, mkL, okD, opX, drpX, putX, retX, mkF, resO, ownS, ocL, ocE, ocD, frzS, borE, borT, borX, flatD, appS, mE, popM, tup2M, rmvS, setS, tupG, consG, nilG, lstN, lstG, itL, itemsL, atI_0, atI_l1, atI_l2, atI_l3, atI_1, atI_2, atI_3, st_wh, st_wf, st_hw, st_hf, st_fw, st_fh, rng1, rng2, whS, forS, prt, isStep]
        | [_], _ => simp [b_is_step, startE, seqS, ifS, nxS, retS, retNS, drpS, putS, asgS, setG, getV, op2, op1, opC, consA, cst, cst0, tstB, asB, tru, truD, orT, andT, notT, andE, orE, ifE, chn, isiF, isTy, addG, mulG, iiG, eqG_ii, eqG_ss, eqG_bb, neG_ii, neG_ss, neG_bb, isNG, notNG, notG, negG, ixG, ixO, lenG, intG, max2G, min2G, mkT, mkL, okD, opX, drpX, putX, retX, mkF, resO, ownS, ocL, ocE, ocD, frzS, borE, borT, borX, flatD, appS, mE, popM, tup2M, rmvS, setS, tupG, consG, nilG, lstN, lstG, itL, itemsL, atI_0, atI_l1, atI_l2, atI_l3, atI_1, atI_2, atI_3, st_wh, st_wf, st_hw, st_hf, st_fw, st_fh, rng1, rng2, whS, forS, prt, isStep]
        | _ :: _ :: _ :: r, _ =>
          have h : ¬ ((r.length : Int) + 1 + 1 + 1 = 2) := by omega
          simp [b_is_step, startE, seqS, ifS, nxS, retS, retNS, drpS, putS, asgS, setG, getV, op2, op1, opC, consA, cst, cst0, tstB, asB, tru, truD, orT, andT, notT, andE, orE, ifE, chn, isiF, isTy, addG, mulG, iiG, eqG_ii, eqG_ss, eqG_bb, neG_ii, neG_ss, neG_bb, isNG, notNG, notG, negG, ixG, ixO, lenG, intG, max2G, min2G, mkT, mkL, okD, opX, drpX, putX, retX, mkF, resO, ownS, ocL, ocE, ocD, frzS, borE, borT, borX, flatD, appS, mE, popM, tup2M, rmvS, setS, tupG, consG, nilG, lstN, lstG, itL, itemsL, atI_0, atI_l1, atI_l2, atI_l3, atI_1, atI_2, atI_3, st_wh, st_wf, st_hw, st_hf, st_fw, st_fh, rng1, rng2, whS, forS, prt, isStep, h]
      | _ => simp [b_is_step, startE, seqS, ifS, nxS, retS, retNS, drpS, putS, asgS, setG, getV, op2, op1, opC, consA, cst, cst0, tstB, asB, tru, truD, orT, andT, notT, andE, orE, ifE, chn, isiF, isTy, addG, mulG, iiG, eqG_ii, eqG_ss, eqG_bb, neG_ii, neG_ss, neG_bb, isNG, notNG, notG, negG, ixG, ixO, lenG, intG, max2G, min2G, mkT, mkL, okD, opX, drpX, putX, retX, mkF, resO, ownS, ocL, ocE, ocD, frzS, borE, borT, borX, flatD, appS, mE, popM, tup2M, rmvS, setS, tupG, consG, nilG, lstN, lstG, itL, itemsL, atI_0, atI_l1, atI_l2, atI_l3, atI_1, atI_2, atI_3, st_wh, st_wf, st_hw, st_hf, st_fw, st_fh, rng1, rng2, whS, forS, prt, isStep]
    · cases hs
  · cases hs

/-! ### held_after -/
def heldA (acc : List Int) : List D → Option (List Int)
  | [] => some acc
  | .tup [.str w, n] :: r => if w = "hold" then (match n with
      | .int k => if acc.length ≤ 90000 then heldA (acc ++ [k]) r else none
      | _ => none)
    else if w = "free" then (match n with
      | .int k => (match idxOf? k acc with
        | some j => heldA (acc.eraseIdx j) r
        | none => none)
      | _ => none)
    else heldA acc r
  | _ :: _ => none
abbrev n_held_after : Nat := 1
def sf_held_after : List D → Option Res
  | [.lst ds] => (match heldA [] ds with
    | some ns => some (.ok (.lst (ns.map .int)))
    | none => none)
  | _ => none
theorem l_held_after (A : Sl) : ∀ (ds : List D) (acc out : List Int) (s2 s3 : Sl), heldA acc ds = some out → ∃ t2 t3, forL (tupG 2 (consG (setG 2) (consG (setG 3) nilG))) b_held_after_f0 ds [A, .own none (.l (acc.map .int)), s2, s3] = some (.nx [A, .own none (.l (out.map .int)), t2, t3])
  | [], acc, out, s2, s3, h => by
    cases h
    exact ⟨s2, s3, rfl⟩
  | d :: ds, acc, out, s2, s3, h => by
    unfold heldA at h
    split at h
    · cases ‹_ :: _ = []›
    · rename_i acc' w n r he
      cases he
      by_cases h1 : w = "hold"
      · subst h1
        rw [if_pos rfl] at h
        cases n with
        | int k =>
          simp only at h
          split at h
          · rename_i hl
            obtain ⟨t2, t3, e⟩ := l_held_after A ds (acc ++ [k]) out (.val (.str "hold")) (.val (.int k)) h
            refine ⟨t2, t3, (forL_nx rfl ?_).trans e⟩
            simp [b_held_after_f0, startE, seqS, ifS, nxS, retS, retNS, drpS, putS, asgS, setG, getV, op2, op1, opC, consA, cst, cst0, tstB, asB, tru, truD, orT, andT, notT, andE, orE, ifE, chn, isiF, isTy, addG, mulG, iiG, eqG_ii, eqG_ss, eqG_bb, neG_ii, neG_ss, neG_bb, isNG, notNG, notG, negG, ixG, ixO, lenG, intG, max2G, min2G, mkT, mkL, okD, opX, drpX, putX, retX, mkF, resO, ownS, ocL, ocE, ocD, frzS, borE, borT, borX, flatD, appS, mE, popM, tup2M, rmvS, setS, tupG, consG, nilG, lstN, lstG, itL, itemsL, atI_0, atI_l1, atI_l2, atI_l3, atI_1, atI_2, atI_3, st_wh, st_wf, st_hw, st_hf, st_fw, st_fh, rng1, rng2, whS, forS, prt, hl]
          · cases h
        | _ => cases h
      · rw [if_neg h1] at h
        by_cases h2 : w = "free"
        · subst h2
          rw [if_pos rfl] at h
          cases n with
          | int k =>
            simp only at h
            split at h
            · rename_i j hj
              obtain ⟨t2, t3, e⟩ := l_held_after A ds (acc.eraseIdx j) out (.val (.str "free")) (.val (.int k)) h
              refine ⟨t2, t3, (forL_nx rfl ?_).trans e⟩
              simp [b_held_after_f0, startE, seqS, ifS, nxS, retS, retNS, drpS, putS, asgS, setG, getV, op2, op1, opC, consA, cst, cst0, tstB, asB, tru, truD, orT, andT, notT, andE, orE, ifE, chn, isiF, isTy, addG, mulG, iiG, eqG_ii, eqG_ss, eqG_bb, neG_ii, neG_ss, neG_bb, isNG, notNG, notG, negG, ixG, ixO, lenG, intG, max2G, min2G, mkT, mkL, okD, opX, drpX, putX, retX, mkF, resO, ownS, ocL, ocE, ocD, frzS, borE, borT, borX, flatD, appS, mE, popM, tup2M, rmvS, setS, tupG, consG, nilG, lstN, lstG, itL, itemsL, atI_0, atI_l1, atI_l2, atI_l3, atI_1, atI_2, atI_3, st_wh, st_wf, st_hw, st_hf, st_fw, st_fh, rng1, rng2, whS, forS, prt, intsOf_ints, hj]
            · cases h
          | _ => cases h
        · rw [if_neg h2] at h
          obtain ⟨t2, t3, e⟩ := l_held_after A ds acc out (.val (.str w)) (.val n) h
          refine ⟨t2, t3, (forL_nx rfl ?_).trans e⟩
          simp [b_held_after_f0, startE, seqS, ifS, nxS, retS, retNS, drpS, putS, asgS, setG, getV, op2, op1, opC, consA, cst, cst0, tstB, asB, tru, truD, orT, andT, notT, andE, orE, ifE, chn, isiF, isTy, addG, mulG, iiG, eqG_ii, eqG_ss, eqG_bb, neG_ii, neG_ss, neG_bb, isNG, notNG, notG, negG, ixG, ixO, lenG, intG, max2G, min2G, mkT, mkL, okD, opX, drpX, putX, retX, mkF, resO, ownS, ocL, ocE, ocD, frzS, borE, borT, borX, flatD, appS, mE, popM, tup2M, rmvS, setS, tupG, consG, nilG, lstN, lstG, itL, itemsL, atI_0, atI_l1, atI_l2, atI_l3, atI_1, atI_2, atI_3, st_wh, st_wf, st_hw, st_hf, st_fw, st_fh, rng1, rng2, whS, forS, prt, h1, h2]
    · cases h
theorem m_held_after (ds : List D) (r : Res) (hl : ds.length = n_held_after) (hs : sf_held_after ds = some r) : resO (b_held_after (startE ds 4)) = some r := by
  unfold sf_held_after at hs
  split at hs
  · rename_i xs
    split at hs
    · rename_i ns hns
      cases hs
      obtain ⟨t2, t3, e⟩ := l_held_after (.val (.lst xs)) xs [] ns .no .no hns
      simp only [List.map_nil] at e
      simp [b_held_after, startE, seqS, ifS, nxS, retS, retNS, drpS, putS, asgS, setG, getV, op2, op1, opC, consA, cst, cst0, tstB, asB, tru, truD, orT, andT, notT, andE, orE, ifE, chn, isiF, isTy, addG, mulG, iiG, eqG_ii, eqG_ss, eqG_bb, neG_ii, neG_ss, neG_bb, isNG, notNG, notG, negG, ixG, ixO, lenG, intG, max2G, min2G, mkT, mkL, okD, opX, drpX, putX, retX, mkF, resO, ownS, ocL, ocE, ocD, frzS, borE, borT, borX, flatD, appS, mE, popM, tup2M, rmvS, setS, tupG, consG, nilG, lstN, lstG, itL, itemsL, atI_0, atI_l1, atI_l2, atI_l3, atI_1, atI_2, atI_3, st_wh, st_wf, st_hw, st_hf, st_fw, st_fh, rng1, rng2, whS, forS, prt, e]
    · cases hs
  · cases hs

theorem heldA_len : ∀ (xs : List D) (acc out : List Int), heldA acc xs = some out → out.length ≤ acc.length + xs.length
  | [], acc, out, h => by cases h; simp
  | d :: xs, acc, out, h => by
    unfold heldA at h
    split at h
    · cases ‹_ :: _ = []›
    · rename_i acc' w n r he
      cases he
      by_cases h1 : w = "hold"
      · rw [if_pos h1] at h
        cases n with
        | int k =>
          simp only at h
          split at h
          · have := heldA_len xs _ out h
            simp at this ⊢; omega
          · cases h
        | _ => cases h
      · rw [if_neg h1] at h
        by_cases h2 : w = "free"
        · rw [if_pos h2] at h
          cases n with
          | int k =>
            simp only at h
            split at h
            · rename_i j hj
              have := heldA_len xs _ out h
              have h3 := len_erase acc j
              simp at this ⊢; omega
            · cases h
          | _ => cases h
        · rw [if_neg h2] at h
          have := heldA_len xs _ out h
          simp at this ⊢; omega
    · cases h
theorem heldA_append : ∀ (xs ys : List D) (acc : List Int), heldA acc (xs ++ ys) = (heldA acc xs).bind fun a => heldA a ys
  | [], ys, acc => rfl
  | d :: xs, ys, acc => by
    have ih := heldA_append xs ys
    rw [List.cons_append]
    match d with
    | .tup [.str w, .int k] =>
      simp only [heldA]
      split
      · split
        · exact ih _
        · rfl
      · split
        · split
          · exact ih _
          · rfl
        · exact ih _
    | .tup [.str w, .non] | .tup [.str w, .bl _] | .tup [.str w, .str _] | .tup [.str w, .lst _] | .tup [.str w, .tup _] | .tup [.str w, .scr _] | .tup [.str w, .dct _] | .tup [.str w, .dcl _] =>
      simp only [heldA]
      split
      · rfl
      · split
        · rfl
        · exact ih _
    | .non | .bl _ | .int _ | .str _ | .lst _ | .scr _ | .dct _ | .dcl _ => rfl
    | .tup [] | .tup [_] | .tup (_ :: _ :: _ :: _) => simp [heldA]
    | .tup [.non, _] | .tup [.bl _, _] | .tup [.int _, _] | .tup [.lst _, _] | .tup [.tup _, _] | .tup [.scr _, _] | .tup [.dct _, _] | .tup [.dcl _, _] => rfl

/-! ### holds_rightly -/
/-- a hold that is not greater than each one that is held -/
def lowH (k : Int) : List Int → Bool
  | [] => false
  | a :: r => decide (k ≤ maxI a r)
def hrL (tools : List Int) : List D → Option Bool
  | [] => some tools.isEmpty
  | .tup [.str w, n] :: r => if w = "hold" then (match n with
      | .int k => if lowH k tools then some false else hrL (tools ++ [k]) r
      | _ => none)
    else if w = "free" then (match n with
      | .int k => (match idxOf? k tools with
        | some j => hrL (tools.eraseIdx j) r
        | none => some false)
      | _ => none)
    else hrL tools r
  | _ :: _ => none
abbrev n_holds_rightly : Nat := 1
def sf_holds_rightly : List D → Option Res
  | [.lst ds] => if ds.length ≤ 1000 then (match hrL [] ds with
    | some b => some (.ok (.bl b))
    | none => none) else none
  | _ => none
theorem idxOf_none : ∀ {l : List Int} {k : Int}, idxOf? k l = none ↔ l.contains k = false
  | [], k => by simp [idxOf?]
  | x :: r, k => by
    unfold idxOf?
    by_cases h : x = k
    · subst h; simp
    · rw [if_neg h, Option.map_eq_none_iff, idxOf_none, List.contains_cons]
      have : (k == x) = false := by simpa using fun e => h e.symm
      rw [this, Bool.false_or]
theorem l_holds (steps : List D) (hz : steps.length ≤ 1000) : ∀ (rest pre : List D) (tools : List Int) (b : Bool) (s1 s2 s3 s4 : Sl), steps = pre ++ rest → heldA [] pre = some tools → hrL tools rest = some b →
    ∃ o, forL (tupG 2 (consG (setG 1) (consG (tupG 2 (consG (setG 3) (consG (setG 4) nilG))) nilG))) (b_holds_rightly_f0 sf_held_after) (enumD pre.length rest) [.val (.lst steps), s1, s2, s3, s4] = some o ∧
      ((b = false ∧ ∃ e, o = .rt (.bl false) e) ∨ ∃ t1 t2 t3 t4 ts, o = .nx [.val (.lst steps), t1, t2, t3, t4] ∧ heldA [] steps = some ts ∧ ts.isEmpty = b)
  | [], pre, tools, b, s1, s2, s3, s4, e1, e2, e3 => by
    rw [List.append_nil] at e1
    subst e1
    cases e3
    exact ⟨_, rfl, .inr ⟨s1, s2, s3, s4, tools, rfl, e2, rfl⟩⟩
  | d :: rest, pre, tools, b, s1, s2, s3, s4, e1, e2, e3 => by
    have hlen : pre.length ≤ steps.length := by rw [e1]; simp
    have htk : steps.take pre.length = pre := by rw [e1]; simp
    have htl := heldA_len pre [] tools e2
    have e1' : steps = (pre ++ [d]) ++ rest := by rw [e1]; simp
    have hpl : (pre ++ [d]).length = pre.length + 1 := by simp
    have hcut : DL.cutD steps none (some (pre.length : Int)) = pre := by rw [cut_take _ _ hlen, htk]
    have hsf : sf_held_after [.lst pre] = some (.ok (.lst (tools.map .int))) := by simp [sf_held_after, e2]
    unfold hrL at e3
    split at e3
    · cases ‹_ :: _ = []›
    · rename_i w n r he
      cases he
      by_cases h1 : w = "hold"
      · subst h1
        rw [if_pos rfl] at e3
        cases n with
        | int k =>
          simp only at e3
          by_cases hlow : lowH k tools = true
          · rw [if_pos hlow] at e3
            cases e3
            refine ⟨.rt (.bl false) [.val (.lst steps), .val (.int (pre.length : Int)), .val (.lst (tools.map .int)), .val (.str "hold"), .val (.int k)], ?_, .inl ⟨rfl, _, rfl⟩⟩
            cases tools with
            | nil => cases hlow
            | cons a ts =>
              have hlow' : k ≤ maxI a ts := of_decide_eq_true hlow
              have hi : intsOf (D.int a :: ts.map D.int) = some (a :: ts) := intsOf_ints (a :: ts)
              refine forL_rt rfl ?_
              simp [b_holds_rightly_f0, startE, seqS, ifS, nxS, retS, retNS, drpS, putS, asgS, setG, getV, op2, op1, opC, consA, cst, cst0, tstB, asB, tru, truD, orT, andT, notT, andE, orE, ifE, chn, isiF, isTy, addG, mulG, iiG, eqG_ii, eqG_ss, eqG_bb, neG_ii, neG_ss, neG_bb, isNG, notNG, notG, negG, ixG, ixO, lenG, intG, max2G, min2G, mkT, mkL, okD, opX, drpX, putX, retX, mkF, resO, ownS, ocL, ocE, ocD, frzS, borE, borT, borX, flatD, appS, mE, popM, tup2M, rmvS, setS, tupG, consG, nilG, lstN, lstG, itL, itemsL, atI_0, atI_l1, atI_l2, atI_l3, atI_1, atI_2, atI_3, st_wh, st_wf, st_hw, st_hf, st_fw, st_fh, rng1, rng2, whS, forS, prt, slF, slG, hcut, hsf, maxG, hi, hlow']
          · rw [if_neg hlow] at e3
            have h2 : heldA [] (pre ++ [.tup [.str "hold", .int k]]) = some (tools ++ [k]) := by
              have hl9 : tools.length ≤ 90000 := by simp at htl; omega
              rw [heldA_append, e2]
              simp [heldA, hl9]
            obtain ⟨o, h3, h4⟩ := l_holds steps hz rest (pre ++ [.tup [.str "hold", .int k]]) (tools ++ [k]) b (.val (.int (pre.length : Int))) (.val (.lst (tools.map .int))) (.val (.str "hold")) (.val (.int k)) e1' h2 e3
            rw [hpl] at h3
            refine ⟨o, ?_, h4⟩
            cases tools with
            | nil =>
              refine (forL_nx rfl ?_).trans h3
              simp [b_holds_rightly_f0, startE, seqS, ifS, nxS, retS, retNS, drpS, putS, asgS, setG, getV, op2, op1, opC, consA, cst, cst0, tstB, asB, tru, truD, orT, andT, notT, andE, orE, ifE, chn, isiF, isTy, addG, mulG, iiG, eqG_ii, eqG_ss, eqG_bb, neG_ii, neG_ss, neG_bb, isNG, notNG, notG, negG, ixG, ixO, lenG, intG, max2G, min2G, mkT, mkL, okD, opX, drpX, putX, retX, mkF, resO, ownS, ocL, ocE, ocD, frzS, borE, borT, borX, flatD, appS, mE, popM, tup2M, rmvS, setS, tupG, consG, nilG, lstN, lstG, itL, itemsL, atI_0, atI_l1, atI_l2, atI_l3, atI_1, atI_2, atI_3, st_wh, st_wf, st_hw, st_hf, st_fw, st_fh, rng1, rng2, whS, forS, prt, slF, slG, hcut, hsf, maxG]
            | cons a ts =>
              have hlow' : ¬ k ≤ maxI a ts := fun z => hlow (decide_eq_true z)
              have hi : intsOf (D.int a :: ts.map D.int) = some (a :: ts) := intsOf_ints (a :: ts)
              refine (forL_nx rfl ?_).trans h3
              simp [b_holds_rightly_f0, startE, seqS, ifS, nxS, retS, retNS, drpS, putS, asgS, setG, getV, op2, op1, opC, consA, cst, cst0, tstB, asB, tru, truD, orT, andT, notT, andE, orE, ifE, chn, isiF, isTy, addG, mulG, iiG, eqG_ii, eqG_ss, eqG_bb, neG_ii, neG_ss, neG_bb, isNG, notNG, notG, negG, ixG, ixO, lenG, intG, max2G, min2G, mkT, mkL, okD, opX, drpX, putX, retX, mkF, resO, ownS, ocL, ocE, ocD, frzS, borE, borT, borX, flatD, appS, mE, popM, tup2M, rmvS, setS, tupG, consG, nilG, lstN, lstG, itL, itemsL, atI_0, atI_l1, atI_l2, atI_l3, atI_1, atI_2, atI_3, st_wh, st_wf, st_hw, st_hf, st_fw, st_fh, rng1, rng2, whS, forS, prt, slF, slG, hcut, hsf, maxG, hi, hlow']
        | _ => cases e3
      · rw [if_neg h1] at e3
        by_cases h2 : w = "free"
        · subst h2
          rw [if_pos rfl] at e3
          cases n with
          | int k =>
            simp only at e3
            split at e3
            · rename_i j hj
              have hc : tools.contains k = true := by
                cases q : tools.contains k with
                | true => rfl
                | false => rw [idxOf_none.mpr q] at hj; cases hj
              have hc' : k ∈ tools := by simpa using hc
              have h2 : heldA [] (pre ++ [.tup [.str "free", .int k]]) = some (tools.eraseIdx j) := by
                rw [heldA_append, e2]
                simp [heldA, startE, seqS, ifS, nxS, retS, retNS, drpS, putS, asgS, setG, getV, op2, op1, opC, consA, cst, cst0, tstB, asB, tru, truD, orT, andT, notT, andE, orE, ifE, chn, isiF, isTy, addG, mulG, iiG, eqG_ii, eqG_ss, eqG_bb, neG_ii, neG_ss, neG_bb, isNG, notNG, notG, negG, ixG, ixO, lenG, intG, max2G, min2G, mkT, mkL, okD, opX, drpX, putX, retX, mkF, resO, ownS, ocL, ocE, ocD, frzS, borE, borT, borX, flatD, appS, mE, popM, tup2M, rmvS, setS, tupG, consG, nilG, lstN, lstG, itL, itemsL, atI_0, atI_l1, atI_l2, atI_l3, atI_1, atI_2, atI_3, st_wh, st_wf, st_hw, st_hf, st_fw, st_fh, rng1, rng2, whS, forS, prt, hj]
              obtain ⟨o, h3, h4⟩ := l_holds steps hz rest (pre ++ [.tup [.str "free", .int k]]) (tools.eraseIdx j) b (.val (.int (pre.length : Int))) (.val (.lst (tools.map .int))) (.val (.str "free")) (.val (.int k)) e1' h2 e3
              rw [hpl] at h3
              refine ⟨o, ?_, h4⟩
              refine (forL_nx rfl ?_).trans h3
              simp [b_holds_rightly_f0, startE, seqS, ifS, nxS, retS, retNS, drpS, putS, asgS, setG, getV, op2, op1, opC, consA, cst, cst0, tstB, asB, tru, truD, orT, andT, notT, andE, orE, ifE, chn, isiF, isTy, addG, mulG, iiG, eqG_ii, eqG_ss, eqG_bb, neG_ii, neG_ss, neG_bb, isNG, notNG, notG, negG, ixG, ixO, lenG, intG, max2G, min2G, mkT, mkL, okD, opX, drpX, putX, retX, mkF, resO, ownS, ocL, ocE, ocD, frzS, borE, borT, borX, flatD, appS, mE, popM, tup2M, rmvS, setS, tupG, consG, nilG, lstN, lstG, itL, itemsL, atI_0, atI_l1, atI_l2, atI_l3, atI_1, atI_2, atI_3, st_wh, st_wf, st_hw, st_hf, st_fw, st_fh, rng1, rng2, whS, forS, prt, slF, slG, hcut, hsf, inG_ints, hc']
            · rename_i hj
              cases e3
              have hc := idxOf_none.mp hj
              have hc' : ¬ k ∈ tools := by simpa using hc
              refine ⟨.rt (.bl false) [.val (.lst steps), .val (.int (pre.length : Int)), .val (.lst (tools.map .int)), .val (.str "free"), .val (.int k)], ?_, .inl ⟨rfl, _, rfl⟩⟩
              refine forL_rt rfl ?_
              simp [b_holds_rightly_f0, startE, seqS, ifS, nxS, retS, retNS, drpS, putS, asgS, setG, getV, op2, op1, opC, consA, cst, cst0, tstB, asB, tru, truD, orT, andT, notT, andE, orE, ifE, chn, isiF, isTy, addG, mulG, iiG, eqG_ii, eqG_ss, eqG_bb, neG_ii, neG_ss, neG_bb, isNG, notNG, notG, negG, ixG, ixO, lenG, intG, max2G, min2G, mkT, mkL, okD, opX, drpX, putX, retX, mkF, resO, ownS, ocL, ocE, ocD, frzS, borE, borT, borX, flatD, appS, mE, popM, tup2M, rmvS, setS, tupG, consG, nilG, lstN, lstG, itL, itemsL, atI_0, atI_l1, atI_l2, atI_l3, atI_1, atI_2, atI_3, st_wh, st_wf, st_hw, st_hf, st_fw, st_fh, rng1, rng2, whS, forS, prt, slF, slG, hcut, hsf, inG_ints, hc']
          | _ => cases e3
        · rw [if_neg h2] at e3
          have h5 : heldA [] (pre ++ [.tup [.str w, n]]) = some tools := by
            rw [heldA_append, e2]
            simp [heldA, h1, h2]
          obtain ⟨o, h3, h4⟩ := l_holds steps hz rest (pre ++ [.tup [.str w, n]]) tools b (.val (.int (pre.length : Int))) (.val (.lst (tools.map .int))) (.val (.str w)) (.val n) e1' h5 e3
          rw [hpl] at h3
          refine ⟨o, ?_, h4⟩
          refine (forL_nx rfl ?_).trans h3
          simp [b_holds_rightly_f0, startE, seqS, ifS, nxS, retS, retNS, drpS, putS, asgS, setG, getV, op2, op1, opC, consA, cst, cst0, tstB, asB, tru, truD, orT, andT, notT, andE, orE, ifE, chn, isiF, isTy, addG, mulG, iiG, eqG_ii, eqG_ss, eqG_bb, neG_ii, neG_ss, neG_bb, isNG, notNG, notG, negG, ixG, ixO, lenG, intG, max2G, min2G, mkT, mkL, okD, opX, drpX, putX, retX, mkF, resO, ownS, ocL, ocE, ocD, frzS, borE, borT, borX, flatD, appS, mE, popM, tup2M, rmvS, setS, tupG, consG, nilG, lstN, lstG, itL, itemsL, atI_0, atI_l1, atI_l2, atI_l3, atI_1, atI_2, atI_3, st_wh, st_wf, st_hw, st_hf, st_fw, st_fh, rng1, rng2, whS, forS, prt, slF, slG, hcut, hsf, h1, h2]
    · cases e3
theorem m_holds_rightly (ds : List D) (r : Res) (hl : ds.length = n_holds_rightly) (hs : sf_holds_rightly ds = some r) : resO (b_holds_rightly sf_held_after (startE ds 5)) = some r := by
  unfold sf_holds_rightly at hs
  split at hs
  · rename_i xs
    split at hs
    · rename_i hz
      split at hs
      · rename_i b hb
        cases hs
        obtain ⟨o, h1, h2⟩ := l_holds xs hz xs [] [] b .no .no .no .no rfl rfl hb
        rcases h2 with ⟨rfl, e, rfl⟩ | ⟨t1, t2, t3, t4, ts, rfl, h3, rfl⟩
        · simp at h1
          simp [b_holds_rightly, startE, seqS, ifS, nxS, retS, retNS, drpS, putS, asgS, setG, getV, op2, op1, opC, consA, cst, cst0, tstB, asB, tru, truD, orT, andT, notT, andE, orE, ifE, chn, isiF, isTy, addG, mulG, iiG, eqG_ii, eqG_ss, eqG_bb, neG_ii, neG_ss, neG_bb, isNG, notNG, notG, negG, ixG, ixO, lenG, intG, max2G, min2G, mkT, mkL, okD, opX, drpX, putX, retX, mkF, resO, ownS, ocL, ocE, ocD, frzS, borE, borT, borX, flatD, appS, mE, popM, tup2M, rmvS, setS, tupG, consG, nilG, lstN, lstG, itL, itemsL, atI_0, atI_l1, atI_l2, atI_l3, atI_1, atI_2, atI_3, st_wh, st_wf, st_hw, st_hf, st_fw, st_fh, rng1, rng2, whS, forS, prt, enumF, h1]
        · simp at h1
          simp [b_holds_rightly, startE, seqS, ifS, nxS, retS, retNS, drpS, putS, asgS, setG, getV, op2, op1, opC, consA, cst, cst0, tstB, asB, tru, truD, orT, andT, notT, andE, orE, ifE, chn, isiF, isTy, addG, mulG, iiG, eqG_ii, eqG_ss, eqG_bb, neG_ii, neG_ss, neG_bb, isNG, notNG, notG, negG, ixG, ixO, lenG, intG, max2G, min2G, mkT, mkL, okD, opX, drpX, putX, retX, mkF, resO, ownS, ocL, ocE, ocD, frzS, borE, borT, borX, flatD, appS, mE, popM, tup2M, rmvS, setS, tupG, consG, nilG, lstN, lstG, itL, itemsL, atI_0, atI_l1, atI_l2, atI_l3, atI_1, atI_2, atI_3, st_wh, st_wf, st_hw, st_hf, st_fw, st_fh, rng1, rng2, whS, forS, prt, enumF, h1, sf_held_after, h3]
      · cases hs
    · cases hs
  · cases hs

/-! ### is_plan -/
def isPlan : D → Bool
  | .lst ds => decide (1 ≤ ds.length) && decide (ds.length ≤ 40) && ds.all isStep && decide (hrL [] ds = some true)
  | _ => false
def planOk : D → Bool
  | .lst ds => if 1 ≤ ds.length ∧ ds.length ≤ 40 then ds.all stepOk else true
  | .scr _ => false
  | _ => true
abbrev n_is_plan : Nat := 1
def sf_is_plan : List D → Option Res
  | [d] => if planOk d then some (.ok (.bl (isPlan d))) else none
  | _ => none
theorem hrL_some : ∀ (ds : List D) (tools : List Int), ds.all isStep = true → ∃ b, hrL tools ds = some b
  | [], tools, _ => ⟨_, rfl⟩
  | d :: ds, tools, h => by
    rw [List.all_cons, Bool.and_eq_true] at h
    obtain ⟨h1, h2⟩ := h
    have ih := fun t => hrL_some ds t h2
    unfold isStep at h1
    split at h1
    · rename_i w n
      have num : ∀ lo hi, isNum n lo hi = true → ∃ k, n = .int k := fun lo hi e => by
        cases n with
        | int k => exact ⟨k, rfl⟩
        | _ => cases e
      simp only [hrL]
      by_cases e1 : w = "hold"
      · subst e1
        rw [if_neg st_hw, if_pos (.inl rfl)] at h1
        obtain ⟨k, rfl⟩ := num _ _ h1
        rw [if_pos rfl]
        simp only
        split
        · exact ⟨_, rfl⟩
        · exact ih _
      · rw [if_neg e1]
        by_cases e2 : w = "free"
        · subst e2
          rw [if_neg st_fw, if_pos (.inr rfl)] at h1
          obtain ⟨k, rfl⟩ := num _ _ h1
          rw [if_pos rfl]
          simp only
          split
          · exact ih _
          · exact ⟨_, rfl⟩
        · rw [if_neg e2]
          exact ih _
    · cases h1
theorem l_is_plan (ds : List D) (h : ds.all stepOk = true) (w : DEnv) (hw : 1 < w.length) : lcL (setG 1) (cst0 true) (opC (okD sf_is_step) (consA (getV 1) (cst0 []))) w ds = some (ds.map fun d => .bl (isStep d)) := by
  have := lcL_all (gf := setG 1) (E := opC (okD sf_is_step) (consA (getV 1) (cst0 []))) (w := w) (fun d : D => d) (fun d => .bl (isStep d)) ds fun d hd => by
    have h1 := List.all_eq_true.mp h d hd
    refine ⟨_, rfl, ?_⟩
    have h2 : getV 1 (w.set 1 (.val d)) = some d := by
      unfold getV
      rw [List.getElem?_set_self hw]
    simp [opC, consA, h2, cst0, okD, sf_is_step, h1]
  simpa using this
theorem boolsOf_bools {α : Type} (f : α → Bool) (l : List α) : boolsOf (l.map fun a => D.bl (f a)) = some (l.map f) := by
  induction l with
  | nil => rfl
  | cons a l ih => simp [boolsOf, ih]
theorem m_is_plan (ds : List D) (r : Res) (hl : ds.length = n_is_plan) (hs : sf_is_plan ds = some r) : resO (b_is_plan sf_is_step sf_holds_rightly (startE ds 2)) = some r := by
  unfold sf_is_plan at hs
  split at hs
  · rename_i d
    split at hs
    · rename_i hok
      cases hs
      cases d with
      | lst xs =>
        by_cases h1 : 1 ≤ xs.length
        · have h1' : (1 : Int) ≤ (xs.length : Int) := by omega
          by_cases h2 : xs.length ≤ 40
          · have h2' : (xs.length : Int) ≤ 40 := by omega
            have h3 : xs.all stepOk = true := by simpa [planOk, h1, h2] using hok
            have hlc := l_is_plan xs h3 [.val (.lst xs), .no] (by simp)
            have h90 : xs.length ≤ 90000 := by omega
            have h1000 : xs.length ≤ 1000 := by omega
            cases ha : xs.all isStep with
            | true =>
              obtain ⟨b, hb⟩ := hrL_some xs [] ha
              have ha' : (xs.map isStep).all id = true := by simpa [List.all_map] using ha
              simp [b_is_plan, startE, seqS, ifS, nxS, retS, retNS, drpS, putS, asgS, setG, getV, op2, op1, opC, consA, cst, cst0, tstB, asB, tru, truD, orT, andT, notT, andE, orE, ifE, chn, isiF, isTy, addG, mulG, iiG, eqG_ii, eqG_ss, eqG_bb, neG_ii, neG_ss, neG_bb, isNG, notNG, notG, negG, ixG, ixO, lenG, intG, max2G, min2G, mkT, mkL, okD, opX, drpX, putX, retX, mkF, resO, ownS, ocL, ocE, ocD, frzS, borE, borT, borX, flatD, appS, mE, popM, tup2M, rmvS, setS, tupG, consG, nilG, lstN, lstG, itL, itemsL, atI_0, atI_l1, atI_l2, atI_l3, atI_1, atI_2, atI_3, st_wh, st_wf, st_hw, st_hf, st_fw, st_fh, rng1, rng2, whS, forS, prt, isPlan, h1, h2, h1', h2', lcF, wipeE, hlc, h90, allG, boolsOf_bools, ha', ha, sf_holds_rightly, h1000, hb]
            | false =>
              have ha' : (xs.map isStep).all id = false := by
                rw [List.all_map]; exact ha
              simp [b_is_plan, startE, seqS, ifS, nxS, retS, retNS, drpS, putS, asgS, setG, getV, op2, op1, opC, consA, cst, cst0, tstB, asB, tru, truD, orT, andT, notT, andE, orE, ifE, chn, isiF, isTy, addG, mulG, iiG, eqG_ii, eqG_ss, eqG_bb, neG_ii, neG_ss, neG_bb, isNG, notNG, notG, negG, ixG, ixO, lenG, intG, max2G, min2G, mkT, mkL, okD, opX, drpX, putX, retX, mkF, resO, ownS, ocL, ocE, ocD, frzS, borE, borT, borX, flatD, appS, mE, popM, tup2M, rmvS, setS, tupG, consG, nilG, lstN, lstG, itL, itemsL, atI_0, atI_l1, atI_l2, atI_l3, atI_1, atI_2, atI_3, st_wh, st_wf, st_hw, st_hf, st_fw, st_fh, rng1, rng2, whS, forS, prt, isPlan, h1, h2, h1', h2', lcF, wipeE, hlc, h90, allG, boolsOf_bools, ha', ha]
          · have h2' : ¬ (xs.length : Int) ≤ 40 := by omega
            simp [b_is_plan, startE, seqS, ifS, nxS, retS, retNS, drpS, putS, asgS, setG, getV, op2, op1, opC, consA, cst, cst0, tstB, asB, tru, truD, orT, andT, notT, andE, orE, ifE, chn, isiF, isTy, addG, mulG, iiG, eqG_ii, eqG_ss, eqG_bb, neG_ii, neG_ss, neG_bb, isNG, notNG, notG, negG, ixG, ixO, lenG, intG, max2G, min2G, mkT, mkL, okD, opX, drpX, putX, retX, mkF, resO, ownS, ocL, ocE, ocD, frzS, borE, borT, borX, flatD, appS, mE, popM, tup2M, rmvS, setS, tupG, consG, nilG, lstN, lstG, itL, itemsL, atI_0, atI_l1, atI_l2, atI_l3, atI_1, atI_2, atI_3, st_wh, st_wf, st_hw, st_hf, st_fw, st_fh, rng1, rng2, whS, forS, prt, isPlan, h1, h2, h1', h2']
        · have h1' : ¬ (1 : Int) ≤ (xs.length : Int) := by omega
          simp [b_is_plan, startE, seqS, ifS, nxS, retS, retNS, drpS, putS, asgS, setG, getV, op2, op1, opC, consA, cst, cst0, tstB, asB, tru, truD, orT, andT, notT, andE, orE, ifE, chn, isiF, isTy, addG, mulG, iiG, eqG_ii, eqG_ss, eqG_bb, neG_ii, neG_ss, neG_bb, isNG, notNG, notG, negG, ixG, ixO, lenG, intG, max2G, min2G, mkT, mkL, okD, opX, drpX, putX, retX, mkF, resO, ownS, ocL, ocE, ocD, frzS, borE, borT, borX, flatD, appS, mE, popM, tup2M, rmvS, setS, tupG, consG, nilG, lstN, lstG, itL, itemsL, atI_0, atI_l1, atI_l2, atI_l3, atI_1, atI_2, atI_3, st_wh, st_wf, st_hw, st_hf, st_fw, st_fh, rng1, rng2, whS, forS, prt, isPlan, h1, h1']
      | scr _ => cases hok
      | _ => simp [b_is_plan, startE, seqS, ifS, nxS, retS, retNS, drpS, putS, asgS, setG, getV, op2, op1, opC, consA, cst, cst0, tstB, asB, tru, truD, orT, andT, notT, andE, orE, ifE, chn, isiF, isTy, addG, mulG, iiG, eqG_ii, eqG_ss, eqG_bb, neG_ii, neG_ss, neG_bb, isNG, notNG, notG, negG, ixG, ixO, lenG, intG, max2G, min2G, mkT, mkL, okD, opX, drpX, putX, retX, mkF, resO, ownS, ocL, ocE, ocD, frzS, borE, borT, borX, flatD, appS, mE, popM, tup2M, rmvS, setS, tupG, consG, nilG, lstN, lstG, itL, itemsL, atI_0, atI_l1, atI_l2, atI_l3, atI_1, atI_2, atI_3, st_wh, st_wf, st_hw, st_hf, st_fw, st_fh, rng1, rng2, whS, forS, prt, isPlan]
    · cases hs
  · cases hs

end LH

namespace LH
open PySem PySem.Spec PyProof.Rows L2 Evl DL

def b_law_mixed : DEnv → Option Out := (seqS (putS 2 (op2 modG (op2 addG (op2 addG (op2 mulG (getV 0) (cst (.int 48271))) (op2 mulG (getV 1) (cst (.int 7919)))) (cst (.int 1))) (cst (.int 1000003)))) (retS (op2 modG (op2 mulG (getV 2) (op2 addG (op2 addG (getV 2) (op2 mulG (cst (.int 2)) (getV 1))) (cst (.int 5)))) (cst (.int 999983)))))
def b_law_whole : DEnv → Option Out := (retS (andE (isiF .int (getV 0)) (op1 notG (isiF .bool (getV 0)))))
def b_law_alike (sf_law_alike : List D → Option Res) : DEnv → Option Out := (seqS (ifS (orT (tru (isiF .list (getV 1))) (tru (isiF .tuple (getV 1)))) (seqS (ifS (andT (notT (tru (isiF .list (getV 0)))) (notT (tru (isiF .tuple (getV 0))))) (retS (cst (.bl false))) nxS) (seqS (ifS (orT (tstB (op2 neG (isiF .list (getV 0)) (isiF .list (getV 1)))) (tstB (op2 neG (opC lenG (consA (getV 0) (cst0 []))) (opC lenG (consA (getV 1) (cst0 [])))))) (retS (cst (.bl false))) nxS) (retS (opC allG (consA (ocE (lcF (rng1 (consA (opC lenG (consA (getV 1) (cst0 []))) (cst0 []))) (setG 2) (cst0 true) (opC (okD sf_law_alike) (consA (op2 ixG (getV 0) (getV 2)) (consA (op2 ixG (getV 1) (getV 2)) (cst0 [])))) [2])) (cst0 [])))))) nxS) (seqS (ifS (tru (isiF .int (getV 1))) (retS (andE (isiF .int (getV 0)) (andE (op2 eqG (isiF .bool (getV 0)) (isiF .bool (getV 1))) (op2 eqG (getV 0) (getV 1))))) nxS) (seqS (ifS (tstB (op2 isNG (getV 1) (cst .non))) (retS (op2 isNG (getV 0) (cst .non))) nxS) (retS (andE (isiF .str (getV 0)) (op2 eqG (getV 0) (getV 1)))))))
def b_law_spoilt_f0 (sf_law_spoilt : List D → Option Res) : DEnv → Option Out := (drpS (opC (okD sf_law_spoilt) (consA (getV 1) (cst0 []))))
def b_law_spoilt (sf_law_spoilt : List D → Option Res) : DEnv → Option Out := (seqS (ifS (orT (borT 0 (tru (isiF .tuple (getV 0)))) (borT 0 (tru (isiF .list (getV 0))))) (frzS 0 (forS (itL (ocE (lstN (getV 0)))) (setG 1) (b_law_spoilt_f0 sf_law_spoilt))) nxS) (ifS (borT 0 (tru (isiF .list (getV 0)))) (appS 0 (mE (cst (.str "more")))) nxS))
def b_law_plan_f0 (sf_law_mixed : List D → Option Res) : DEnv → Option Out := (seqS (putS 5 (opC (okD sf_law_mixed) (consA (getV 0) (consA (op2 addG (cst (.int 10)) (getV 4)) (cst0 []))))) (seqS (putS 6 (op2 addG (borE 3 (maxDF (getV 3) (op1 negG (cst (.int 1))))) (cst (.int 1)))) (ifS (andT (tstB (op2 ltG (op2 modG (getV 5) (cst (.int 5))) (cst (.int 2)))) (tstB (op2 ltG (getV 6) (cst (.int 10))))) (seqS (putS 7 (op2 addG (op2 addG (getV 6) (op2 modG (op2 divG (getV 5) (cst (.int 5))) (cst (.int 2)))) (op2 mulG (cst (.int 5)) (opC intG (consA (op2 eqG (op2 modG (op2 divG (getV 5) (cst (.int 10))) (cst (.int 9))) (cst (.int 1))) (cst0 [])))))) (seqS (appS 3 (mE (opC min2G (consA (cst (.int 9)) (consA (getV 7) (cst0 [])))))) (appS 2 (mE (opC mkT (consA (cst (.str "hold")) (consA (ixO 3 (op1 negG (cst (.int 1)))) (cst0 [])))))))) (ifS (andT (tstB (op2 eqG (op2 modG (getV 5) (cst (.int 5))) (cst (.int 2)))) (borT 3 (tstB (op2 neG (getV 3) (opC mkL (cst0 [])))))) (appS 2 (tup2M (cst (.str "free")) (popM 3 (op2 modG (op2 divG (getV 5) (cst (.int 5))) (borE 3 (opC lenG (consA (getV 3) (cst0 [])))))))) (appS 2 (mE (opC mkT (consA (cst (.str "work")) (consA (op2 addG (op2 addG (cst (.int 1)) (op2 modG (op2 divG (getV 5) (cst (.int 5))) (cst (.int 3)))) (op2 mulG (cst (.int 97)) (opC intG (consA (op2 eqG (op2 modG (op2 divG (getV 5) (cst (.int 15))) (cst (.int 40))) (cst (.int 7))) (cst0 []))))) (cst0 []))))))))))
def b_law_plan_w1 (sf_law_mixed : List D → Option Res) : DEnv → Option Out := (appS 2 (tup2M (cst (.str "free")) (popM 3 (op2 modG (op2 divG (getV 0) (cst (.int 7))) (borE 3 (opC lenG (consA (getV 3) (cst0 []))))))))
def b_law_plan (sf_law_mixed : List D → Option Res) : DEnv → Option Out := (seqS (ownS 2 (ocL (cst0 []))) (seqS (ownS 3 (ocL (cst0 []))) (seqS (forS (rng1 (consA (op2 addG (cst (.int 1)) (op2 modG (getV 0) (getV 1))) (cst0 []))) (setG 4) (b_law_plan_f0 sf_law_mixed)) (seqS (whS 100000 (borT 3 (tstB (op2 neG (getV 3) (opC mkL (cst0 []))))) (b_law_plan_w1 sf_law_mixed)) (frzS 2 (retS (getV 2)))))))
def b_law_ranks_w0 (sf_law_mixed : List D → Option Res) : DEnv → Option Out := (putS 5 (op2 addG (op2 modG (getV 5) (op2 powG (cst (.int 10)) (cst (.int 6)))) (cst (.int 1))))
def b_law_ranks_f1 (sf_law_mixed : List D → Option Res) : DEnv → Option Out := (seqS (putS 4 (opC (okD sf_law_mixed) (consA (getV 0) (consA (op2 addG (cst (.int 40)) (getV 3)) (cst0 []))))) (seqS (putS 5 (op2 addG (cst (.int 1)) (op2 ixG (opC mkL (consA (op2 modG (getV 4) (cst (.int 9))) (consA (op2 modG (getV 4) (op2 powG (cst (.int 10)) (cst (.int 6)))) (cst0 [])))) (op2 modG (getV 0) (cst (.int 2)))))) (seqS (whS 100000 (borT 2 (tstB (op2 (inG false) (getV 5) (getV 2)))) (b_law_ranks_w0 sf_law_mixed)) (appS 2 (mE (getV 5))))))
def b_law_ranks (sf_law_mixed : List D → Option Res) : DEnv → Option Out := (seqS (ownS 2 (ocL (cst0 []))) (seqS (forS (rng1 (consA (getV 1) (cst0 []))) (setG 3) (b_law_ranks_f1 sf_law_mixed)) (frzS 2 (retS (getV 2)))))
def b_law_ladder : DEnv → Option Out := (seqS (putS 3 (op2 addG (op2 mulG (opC mkL (consA (opC mkT (consA (cst (.str "work")) (consA (op2 addG (cst (.int 1)) (op2 modG (getV 2) (cst (.int 2)))) (cst0 [])))) (cst0 []))) (op2 modG (op2 divG (getV 2) (cst (.int 2))) (cst (.int 2)))) (opC mkL (consA (opC mkT (consA (cst (.str "hold")) (consA (getV 0) (cst0 [])))) (consA (opC mkT (consA (cst (.str "work")) (consA (op2 addG (cst (.int 1)) (op2 modG (op2 divG (getV 2) (cst (.int 4))) (cst (.int 3)))) (cst0 [])))) (cst0 [])))))) (seqS (ifS (tstB (op2 ltG (op2 addG (getV 0) (cst (.int 1))) (getV 1))) (seqS (putS 3 (op2 addG (getV 3) (opC mkL (consA (opC mkT (consA (cst (.str "hold")) (consA (op2 addG (getV 0) (cst (.int 1))) (cst0 [])))) (consA (opC mkT (consA (cst (.str "work")) (consA (op2 addG (cst (.int 1)) (op2 modG (op2 divG (getV 2) (cst (.int 12))) (cst (.int 3)))) (cst0 [])))) (cst0 [])))))) (ifS (tstB (op2 eqG (op2 modG (op2 divG (getV 2) (cst (.int 36))) (cst (.int 2))) (cst (.int 1)))) (putS 3 (op2 addG (op2 addG (op2 addG (getV 3) (opC mkL (consA (opC mkT (consA (cst (.str "free")) (consA (op2 addG (getV 0) (cst (.int 1))) (cst0 [])))) (cst0 [])))) (op2 mulG (opC mkL (consA (opC mkT (consA (cst (.str "work")) (consA (cst (.int 2)) (cst0 [])))) (cst0 []))) (op2 modG (op2 divG (getV 2) (cst (.int 72))) (cst (.int 2))))) (opC mkL (consA (opC mkT (consA (cst (.str "free")) (consA (getV 0) (cst0 [])))) (cst0 []))))) (putS 3 (op2 addG (op2 addG (op2 addG (getV 3) (opC mkL (consA (opC mkT (consA (cst (.str "free")) (consA (getV 0) (cst0 [])))) (cst0 [])))) (op2 mulG (opC mkL (consA (opC mkT (consA (cst (.str "work")) (consA (cst (.int 1)) (cst0 [])))) (cst0 []))) (op2 modG (op2 divG (getV 2) (cst (.int 72))) (cst (.int 2))))) (opC mkL (consA (opC mkT (consA (cst (.str "free")) (consA (op2 addG (getV 0) (cst (.int 1))) (cst0 [])))) (cst0 []))))))) (putS 3 (op2 addG (getV 3) (opC mkL (consA (opC mkT (consA (cst (.str "work")) (consA (op2 addG (cst (.int 1)) (op2 modG (op2 divG (getV 2) (cst (.int 12))) (cst (.int 5)))) (cst0 [])))) (consA (opC mkT (consA (cst (.str "free")) (consA (getV 0) (cst0 [])))) (cst0 []))))))) (retS (op2 addG (getV 3) (op2 mulG (opC mkL (consA (opC mkT (consA (cst (.str "work")) (consA (op2 addG (cst (.int 1)) (op2 modG (op2 divG (getV 2) (cst (.int 144))) (cst (.int 2)))) (cst0 [])))) (cst0 []))) (op2 modG (op2 divG (getV 2) (cst (.int 288))) (cst (.int 2))))))))
def b_law_workers_f0 (sf_law_cell_at sf_law_mixed sf_law_ranks sf_law_plan sf_law_ladder : List D → Option Res) : DEnv → Option Out := (seqS (putS 8 (op2 modG (opC (okD sf_law_mixed) (consA (opC (okD sf_law_cell_at) (consA (getV 0) (consA (op2 addG (cst (.int 2)) (op2 mulG (cst (.int 2)) (getV 7))) (cst0 [])))) (consA (op2 addG (cst (.int 60)) (getV 7)) (cst0 [])))) (getV 2))) (seqS (putS 9 (opC (okD sf_law_mixed) (consA (opC (okD sf_law_cell_at) (consA (getV 0) (consA (op2 addG (cst (.int 3)) (op2 mulG (cst (.int 2)) (getV 7))) (cst0 [])))) (consA (op2 addG (cst (.int 80)) (getV 7)) (cst0 []))))) (seqS (putS 10 (opC (okD sf_law_plan) (consA (getV 9) (consA (getV 1) (cst0 []))))) (seqS (ifS (tstB (op2 eqG (op2 modG (getV 4) (cst (.int 3))) (cst (.int 1)))) (seqS (putS 8 (op2 addG (op2 mulG (op2 subG (op2 subG (getV 3) (cst (.int 1))) (getV 7)) (op2 addG (cst (.int 1)) (op2 modG (op2 divG (getV 4) (cst (.int 3))) (cst (.int 3))))) (op2 modG (getV 8) (cst (.int 2))))) (putS 10 (opC (okD sf_law_ladder) (consA (getV 7) (consA (getV 3) (consA (getV 9) (cst0 []))))))) nxS) (appS 6 (mE (opC mkT (consA (op2 ixG (getV 5) (getV 7)) (consA (getV 8) (consA (getV 10) (cst0 [])))))))))))
def b_law_workers (sf_law_cell_at sf_law_mixed sf_law_ranks sf_law_plan sf_law_ladder : List D → Option Res) : DEnv → Option Out := (seqS (putS 3 (op2 addG (cst (.int 1)) (op2 modG (opC (okD sf_law_cell_at) (consA (getV 0) (consA (cst (.int 0)) (cst0 [])))) (cst (.int 5))))) (seqS (ifS (tstB (op2 eqG (op2 modG (op2 divG (opC (okD sf_law_cell_at) (consA (getV 0) (consA (cst (.int 0)) (cst0 [])))) (cst (.int 5))) (cst (.int 8))) (cst (.int 1)))) (putS 3 (op2 addG (cst (.int 1)) (op2 modG (op2 divG (opC (okD sf_law_cell_at) (consA (getV 0) (consA (cst (.int 0)) (cst0 [])))) (cst (.int 40))) (cst (.int 8))))) nxS) (seqS (putS 4 (opC (okD sf_law_cell_at) (consA (getV 0) (consA (cst (.int 1)) (cst0 []))))) (seqS (putS 5 (opC (okD sf_law_ranks) (consA (opC (okD sf_law_mixed) (consA (getV 4) (consA (cst (.int 1)) (cst0 [])))) (consA (getV 3) (cst0 []))))) (seqS (ifS (tstB (op2 eqG (op2 modG (getV 4) (cst (.int 3))) (cst (.int 1)))) (putS 5 (ocE (revN (ocE (srtN (getV 5)))))) nxS) (seqS (ownS 6 (ocL (cst0 []))) (seqS (forS (rng1 (consA (getV 3) (cst0 []))) (setG 7) (b_law_workers_f0 sf_law_cell_at sf_law_mixed sf_law_ranks sf_law_plan sf_law_ladder)) (frzS 6 (retS (getV 6))))))))))
def b_law_bad_step : DEnv → Option Out := (seqS (putS 1 (op2 divG (getV 0) (cst (.int 12)))) (seqS (putS 2 (opC mkL (consA (opC mkT (consA (cst (.str "work")) (consA (cst (.int 0)) (cst0 [])))) (consA (opC mkT (consA (cst (.str "work")) (consA (op2 addG (cst (.int 101)) (op2 mulG (op2 modG (getV 1) (cst (.int 2))) (getV 1))) (cst0 [])))) (consA (opC mkT (consA (cst (.str "hold")) (consA (op2 addG (cst (.int 10)) (op2 mulG (op2 modG (getV 1) (cst (.int 2))) (getV 1))) (cst0 [])))) (consA (opC mkT (consA (cst (.str "hold")) (consA (op1 negG (cst (.int 1))) (cst0 [])))) (cst0 []))))))) (seqS (putS 2 (op2 addG (getV 2) (opC mkL (consA (opC mkT (consA (cst (.str "Work")) (consA (cst (.int 1)) (cst0 [])))) (consA (opC mkT (consA (cst (.str "works")) (consA (cst (.int 1)) (cst0 [])))) (cst0 [])))))) (seqS (putS 2 (op2 addG (getV 2) (opC mkL (consA (opC mkT (consA (cst (.str "hol")) (consA (cst (.int 1)) (cst0 [])))) (consA (opC mkT (consA (cst (.str "work")) (consA (cst (.bl true)) (cst0 [])))) (consA (opC mkT (consA (cst (.str "work")) (consA (cst (.int 1)) (consA (cst (.int 1)) (cst0 []))))) (consA (opC mkL (consA (cst (.str "work")) (consA (cst (.int 1)) (cst0 [])))) (consA (cst (.str "work")) (consA (opC mkT (consA (cst (.str "work")) (consA (cst .non) (cst0 [])))) (consA (opC mkT (consA (cst (.int 5)) (consA (cst (.int 5)) (cst0 [])))) (cst0 []))))))))))) (retS (op2 ixG (getV 2) (op2 modG (getV 0) (cst (.int 13)))))))))
def b_law_spoilt_worker (sf_law_bad_plan : List D → Option Res) : DEnv → Option Out := (seqS (putS 2 (op2 modG (getV 1) (opC lenG (consA (getV 0) (cst0 []))))) (seqS (putS 3 (op2 ixG (getV 0) (getV 2))) (seqS (putS 4 (op2 modG (op2 divG (getV 1) (cst (.int 9))) (cst (.int 6)))) (seqS (putS 5 (op2 divG (getV 1) (cst (.int 54)))) (seqS (ifS (tstB (op2 eqG (getV 4) (cst (.int 0)))) (putS 3 (op2 ixG (opC mkL (consA (ocE (lstN (getV 3))) (consA (slF (getV 3) (fun _ => some none) (prt (cst (.int 2)))) (consA (op2 addG (getV 3) (opC mkT (consA (cst (.int 0)) (cst0 [])))) (consA (cst .non) (consA (cst (.int 5)) (cst0 []))))))) (op2 modG (getV 5) (cst (.int 5))))) nxS) (seqS (ifS (tstB (op2 eqG (getV 4) (cst (.int 1)))) (seqS (putS 6 (opC mkL (consA (cst (.int 0)) (consA (op1 negG (cst (.int 5))) (consA (op2 addG (op2 addG (op2 powG (cst (.int 10)) (cst (.int 6))) (cst (.int 1))) (op2 mulG (op2 modG (op2 divG (getV 5) (cst (.int 54))) (cst (.int 2))) (getV 5))) (consA (cst (.bl true)) (consA (cst .non) (consA (op2 ixG (op2 ixG (getV 0) (op2 modG (getV 5) (opC lenG (consA (getV 0) (cst0 []))))) (cst (.int 0))) (cst0 []))))))))) (putS 3 (opC mkT (consA (op2 ixG (getV 6) (op2 modG (op2 divG (getV 5) (cst (.int 9))) (cst (.int 6)))) (consA (op2 ixG (getV 3) (cst (.int 1))) (consA (op2 ixG (getV 3) (cst (.int 2))) (cst0 []))))))) nxS) (seqS (ifS (tstB (op2 eqG (getV 4) (cst (.int 2)))) (putS 3 (opC mkT (consA (op2 ixG (getV 3) (cst (.int 0))) (consA (op2 ixG (opC mkL (consA (op1 negG (cst (.int 1))) (consA (op2 addG (cst (.int 1001)) (op2 mulG (op2 modG (op2 divG (getV 5) (cst (.int 5))) (cst (.int 2))) (getV 5))) (consA (cst (.bl false)) (consA (cst .non) (consA (cst (.int 1000)) (cst0 []))))))) (op2 modG (getV 5) (cst (.int 5)))) (consA (op2 ixG (getV 3) (cst (.int 2))) (cst0 [])))))) nxS) (seqS (ifS (tstB (op2 gtG (getV 4) (cst (.int 2)))) (putS 3 (opC mkT (consA (op2 ixG (getV 3) (cst (.int 0))) (consA (op2 ixG (getV 3) (cst (.int 1))) (consA (opC (okD sf_law_bad_plan) (consA (op2 ixG (getV 3) (cst (.int 2))) (consA (getV 5) (cst0 [])))) (cst0 [])))))) nxS) (retS (op2 addG (op2 addG (slF (getV 0) (fun _ => some none) (prt (getV 2))) (opC mkL (consA (getV 3) (cst0 [])))) (slF (getV 0) (prt (op2 addG (getV 2) (cst (.int 1)))) (fun _ => some none))))))))))))
def b_law_plan_good_f0 (sf_law_whole : List D → Option Res) : DEnv → Option Out := (seqS (ifS (orT (notT (tru (isiF .tuple (getV 2)))) (orT (tstB (op2 neG (opC lenG (consA (getV 2) (cst0 []))) (cst (.int 2)))) (orT (notT (tru (isiF .str (op2 ixG (getV 2) (cst (.int 0)))))) (notT (tru (opC (okD sf_law_whole) (consA (op2 ixG (getV 2) (cst (.int 1))) (cst0 [])))))))) (retS (cst (.bl false))) nxS) (seqS (ifS (andT (tstB (op2 eqG (op2 ixG (getV 2) (cst (.int 0))) (cst (.str "work")))) (tstB (inRg false (op2 ixG (getV 2) (cst (.int 1))) (consA (cst (.int 1)) (consA (cst (.int 101)) (cst0 [])))))) (fun env => some (.ct env)) nxS) (ifS (andT (tstB (op2 eqG (op2 ixG (getV 2) (cst (.int 0))) (cst (.str "hold")))) (andT (tstB (inRg false (op2 ixG (getV 2) (cst (.int 1))) (consA (cst (.int 10)) (cst0 [])))) (borT 1 (tstB (op2 eqG (ocE (lcF (itL (getV 1)) (setG 3) (tstB (op2 geG (getV 3) (op2 ixG (getV 2) (cst (.int 1))))) (getV 3) [3])) (opC mkL (cst0 []))))))) (appS 1 (mE (op2 ixG (getV 2) (cst (.int 1))))) (ifS (andT (tstB (op2 eqG (op2 ixG (getV 2) (cst (.int 0))) (cst (.str "free")))) (borT 1 (tstB (op2 (inG false) (op2 ixG (getV 2) (cst (.int 1))) (getV 1))))) (rmvS 1 (op2 ixG (getV 2) (cst (.int 1)))) (retS (cst (.bl false)))))))
def b_law_plan_good (sf_law_whole : List D → Option Res) : DEnv → Option Out := (seqS (ifS (orT (notT (tru (isiF .list (getV 0)))) (tstB (inRg true (opC lenG (consA (getV 0) (cst0 []))) (consA (cst (.int 1)) (consA (cst (.int 41)) (cst0 [])))))) (retS (cst (.bl false))) nxS) (seqS (ownS 1 (ocL (cst0 []))) (seqS (forS (itL (getV 0)) (setG 2) (b_law_plan_good_f0 sf_law_whole)) (retS (borE 1 (op2 eqG (getV 1) (opC mkL (cst0 []))))))))
def b_law_due_f0 (sf_law_whole sf_law_plan_good : List D → Option Res) : DEnv → Option Out := (seqS (ifS (orT (notT (tru (isiF .tuple (getV 2)))) (tstB (op2 neG (opC lenG (consA (getV 2) (cst0 []))) (cst (.int 3))))) (retS (cst (.str "BadWorker"))) nxS) (seqS (ifS (orT (notT (tru (opC (okD sf_law_whole) (consA (op2 ixG (getV 2) (cst (.int 0))) (cst0 []))))) (orT (tstB (op2 ltG (op2 ixG (getV 2) (cst (.int 0))) (cst (.int 1)))) (orT (tstB (op2 gtG (op2 ixG (getV 2) (cst (.int 0))) (op2 powG (cst (.int 10)) (cst (.int 6))))) (borT 1 (tstB (op2 (inG false) (op2 ixG (getV 2) (cst (.int 0))) (getV 1))))))) (retS (cst (.str "BadRank"))) nxS) (seqS (ifS (orT (notT (tru (opC (okD sf_law_whole) (consA (op2 ixG (getV 2) (cst (.int 1))) (cst0 []))))) (orT (tstB (op2 ltG (op2 ixG (getV 2) (cst (.int 1))) (cst (.int 0)))) (tstB (op2 gtG (op2 ixG (getV 2) (cst (.int 1))) (cst (.int 1000)))))) (retS (cst (.str "BadStart"))) nxS) (seqS (ifS (notT (tru (opC (okD sf_law_plan_good) (consA (op2 ixG (getV 2) (cst (.int 2))) (cst0 []))))) (retS (cst (.str "BadPlan"))) nxS) (appS 1 (mE (op2 ixG (getV 2) (cst (.int 0)))))))))
def b_law_due (sf_law_whole sf_law_plan_good : List D → Option Res) : DEnv → Option Out := (seqS (ifS (tstB (inRg true (opC lenG (consA (getV 0) (cst0 []))) (consA (cst (.int 1)) (consA (cst (.int 9)) (cst0 []))))) (retS (cst (.str "TooMany"))) nxS) (seqS (ownS 1 (ocL (cst0 []))) (seqS (forS (itL (getV 0)) (setG 2) (b_law_due_f0 sf_law_whole sf_law_plan_good)) (retS (opC mkT (consA (ocE (lcF (itL (getV 0)) (setG 2) (cst0 true) (opC mkT (consA (op2 ixG (getV 2) (cst (.int 0))) (consA (op2 ixG (getV 2) (cst (.int 1))) (consA (ocE (lstN (op2 ixG (getV 2) (cst (.int 2))))) (cst0 []))))) [2])) (consA (cst (.int 0)) (consA (ocE (lcF (itL (getV 0)) (setG 2) (cst0 true) (opC mkT (consA (cst (.int 0)) (consA (cst (.int 0)) (cst0 [])))) [2])) (cst0 [])))))))))
def b_law_built (sf_law_workers sf_law_cell_at sf_law_mixed sf_law_spoilt_worker : List D → Option Res) : DEnv → Option Out := (seqS (putS 1 (opC (okD sf_law_workers) (consA (getV 0) (consA (cst (.int 20)) (consA (cst (.int 1001)) (cst0 [])))))) (seqS (putS 2 (opC (okD sf_law_cell_at) (consA (getV 0) (consA (cst (.int 18)) (cst0 []))))) (seqS (ifS (tstB (op2 gtG (op2 modG (getV 2) (cst (.int 4))) (cst (.int 0)))) (putS 1 (opC (okD sf_law_spoilt_worker) (consA (getV 1) (consA (opC (okD sf_law_mixed) (consA (opC (okD sf_law_cell_at) (consA (getV 0) (consA (cst (.int 19)) (cst0 [])))) (consA (cst (.int 5)) (cst0 [])))) (cst0 []))))) nxS) (seqS (ifS (andT (tstB (op2 eqG (op2 modG (getV 2) (cst (.int 4))) (cst (.int 3)))) (tru (opC allG (consA (ocE (lcF (itL (getV 1)) (setG 3) (cst0 true) (andE (isiF .tuple (getV 3)) (op2 eqG (opC lenG (consA (getV 3) (cst0 []))) (cst (.int 3)))) [3])) (cst0 []))))) (ifS (tru (opC allG (consA (ocE (lcF (itL (getV 1)) (setG 3) (cst0 true) (isiF .list (op2 ixG (getV 3) (cst (.int 2)))) [3])) (cst0 [])))) (putS 1 (opC (okD sf_law_spoilt_worker) (consA (getV 1) (consA (opC (okD sf_law_mixed) (consA (opC (okD sf_law_cell_at) (consA (getV 0) (consA (cst (.int 20)) (cst0 [])))) (consA (cst (.int 6)) (cst0 [])))) (cst0 []))))) nxS) nxS) (seqS (ifS (tstB (op2 eqG (op2 modG (op2 divG (getV 2) (cst (.int 4))) (cst (.int 12))) (cst (.int 1)))) (putS 1 (slF (op2 mulG (getV 1) (cst (.int 9))) (fun _ => some none) (prt (cst (.int 9))))) nxS) (seqS (ifS (tstB (op2 eqG (op2 modG (op2 divG (getV 2) (cst (.int 4))) (cst (.int 12))) (cst (.int 2)))) (putS 1 (opC mkL (cst0 []))) nxS) (retS (getV 1))))))))
end LH

namespace LH
open PySem PySem.Spec PyProof.Rows L2 Evl DL

/-! ### numbers drawn -/
def mix (c k : Int) : Int := (c * 48271 + k * 7919 + 1) % 1000003 * ((c * 48271 + k * 7919 + 1) % 1000003 + 2 * k + 5) % 999983
abbrev n_law_mixed : Nat := 2
def sf_law_mixed : List D → Option Res
  | [.int c, .int k] => some (.ok (.int (mix c k)))
  | _ => none
theorem m_law_mixed (ds : List D) (r : Res) (hl : ds.length = n_law_mixed) (hs : sf_law_mixed ds = some r) : resO (b_law_mixed (startE ds 3)) = some r := by
  unfold sf_law_mixed at hs
  split at hs
  · rename_i c k
    cases hs
    have a1 : 0 ≤ (c * 48271 + k * 7919 + 1) % 1000003 := Int.emod_nonneg _ (by decide)
    have a2 : (c * 48271 + k * 7919 + 1) % 1000003 < 1000003 := Int.emod_lt_of_pos _ (by decide)
    unfold mix
    have h5 : ∀ m, mulG (.int ((c * 48271 + k * 7919 + 1) % 1000003)) (.int m) = some (.int ((c * 48271 + k * 7919 + 1) % 1000003 * m)) := fun m => mul_l (by omega) (by omega)
    simp [b_law_mixed, startE, seqS, ifS, nxS, retS, retNS, drpS, putS, asgS, setG, getV, op2, op1, opC, consA, cst, cst0, tstB, asB, tru, truD, orT, andT, notT, andE, orE, ifE, chn, isiF, isTy, eqG_ii, eqG_ss, eqG_bb, neG_ii, neG_ss, neG_bb, isNG, notNG, notG, negG, ixG, ixO, lenG, intG, max2G, min2G, mkT, mkL, okD, opX, drpX, putX, retX, mkF, resO, ownS, ocL, ocE, ocD, frzS, borE, borT, borX, flatD, appS, mE, popM, tup2M, rmvS, setS, tupG, consG, nilG, lstN, lstG, itL, itemsL, atI_0, atI_l1, atI_l2, atI_l3, atI_1, atI_2, atI_3, st_wh, st_wf, st_hw, st_hf, st_fw, st_fh, rng1, rng2, whS, forS, prt, add_ii, sub_ii, mod_ii, div_ii, lt_ii, le_ii, gt_ii, ge_ii, mul_r, mul_l, h5]
  · cases hs
theorem mix_range (c k : Int) : 0 ≤ mix c k ∧ mix c k < 999983 := ⟨Int.emod_nonneg _ (by decide), Int.emod_lt_of_pos _ (by decide)⟩

/-! ### plans drawn -/
structure PlanInv (s : List D) (t : List Int) : Prop where
  step : s.all isStep = true
  runs : ∀ rest, hrL [] (s ++ rest) = hrL t rest
  up : t.Pairwise (· < ·)
  num : ∀ x ∈ t, 0 ≤ x ∧ x ≤ 9
theorem planInv0 : PlanInv [] [] := ⟨rfl, fun _ => rfl, .nil, fun _ h => by cases h⟩
theorem PlanInv.work {s : List D} {t : List Int} {n : Int} (I : PlanInv s t) (h1 : 1 ≤ n) (h2 : n ≤ 100) : PlanInv (s ++ [.tup [.str "work", .int n]]) t := by
  refine ⟨?_, fun rest => ?_, I.up, I.num⟩
  · rw [List.all_append, I.step]
    simp [isStep, isNum, h1, h2]
  · rw [List.append_assoc, I.runs]
    simp [hrL, st_wh, st_wf]
theorem lowH_no {k : Int} {t : List Int} (h : ∀ x ∈ t, x < k) : lowH k t = false := by
  cases t with
  | nil => rfl
  | cons a r =>
    unfold lowH
    have := maxI_mem r a
    have h2 : maxI a r < k := by
      rcases this with e | e
      · rw [e]; exact h a (by simp)
      · exact h _ (by simp [e])
    simp; omega
theorem PlanInv.hold {s : List D} {t : List Int} {k : Int} (I : PlanInv s t) (h : ∀ x ∈ t, x < k) (h1 : 0 ≤ k) (h2 : k ≤ 9) : PlanInv (s ++ [.tup [.str "hold", .int k]]) (t ++ [k]) := by
  refine ⟨?_, fun rest => ?_, ?_, fun x hx => ?_⟩
  · rw [List.all_append, I.step]
    simp [isStep, isNum, h1, h2, st_hw]
  · rw [List.append_assoc, I.runs]
    simp [hrL, lowH_no h]
  · rw [List.pairwise_append]
    exact ⟨I.up, by simp, fun a ha b hb => by simp at hb; subst hb; exact h a ha⟩
  · rcases List.mem_append.mp hx with hx | hx
    · exact I.num x hx
    · simp at hx; subst hx; exact ⟨h1, h2⟩
theorem idxOf_at : ∀ {t : List Int} {j : Nat} {k : Int}, t.Pairwise (· < ·) → t[j]? = some k → idxOf? k t = some j
  | [], _, _, _, h => by simp at h
  | a :: t, 0, k, _, h => by
    simp at h; subst h
    simp [idxOf?]
  | a :: t, j + 1, k, hp, h => by
    rw [List.pairwise_cons] at hp
    simp at h
    have hk : k ∈ t := List.mem_of_getElem? h
    have : ¬ a = k := by have := hp.1 k hk; omega
    unfold idxOf?
    rw [if_neg this, idxOf_at hp.2 h]
    rfl
theorem PlanInv.free {s : List D} {t : List Int} {k : Int} {j : Nat} (I : PlanInv s t) (h : t[j]? = some k) : PlanInv (s ++ [.tup [.str "free", .int k]]) (t.eraseIdx j) := by
  have hk := I.num k (List.mem_of_getElem? h)
  refine ⟨?_, fun rest => ?_, I.up.sublist (List.eraseIdx_sublist t j), fun x hx => I.num x ((List.eraseIdx_sublist t j).subset hx)⟩
  · rw [List.all_append, I.step]
    simp [isStep, isNum, hk.1, hk.2, st_fw]
  · rw [List.append_assoc, I.runs]
    simp [hrL, st_fh, idxOf_at I.up h]
/-- the greatest tool -/
def mx : List Int → Int
  | [] => -1
  | a :: r => maxI a r
theorem PlanInv.mx {s : List D} {t : List Int} (I : PlanInv s t) : (∀ x ∈ t, x ≤ mx t) ∧ -1 ≤ mx t ∧ mx t ≤ 9 := by
  cases t with
  | nil => exact ⟨fun _ h => (by cases h), by decide, by decide⟩
  | cons a r =>
    have h1 := maxI_ge r a
    have h2 : LH.mx (a :: r) ∈ a :: r := by
      show maxI a r ∈ a :: r
      rcases maxI_mem r a with e | e
      · rw [e]; simp
      · simp [e]
    have h3 := I.num _ h2
    refine ⟨fun x hx => ?_, by omega, h3.2⟩
    rcases List.mem_cons.mp hx with rfl | hx
    · exact h1.1
    · exact h1.2 x hx
abbrev planEnv (number most : Int) (steps : List D) (tools : List Int) (s4 s5 s6 s7 : Sl) : DEnv := [.val (.int number), .val (.int most), .own none (.l steps), .own none (.l (tools.map .int)), s4, s5, s6, s7]
theorem erase_ints : ∀ (t : List Int) (j : Nat), (t.map D.int).eraseIdx j = (t.eraseIdx j).map D.int
  | [], _ => rfl
  | _ :: _, 0 => rfl
  | a :: t, j + 1 => by simp [erase_ints t j]
theorem plan_max (number most : Int) (steps : List D) (tools : List Int) (s4 s5 s6 s7 : Sl) : maxDF (getV 3) (op1 negG (cst (.int 1))) [.val (.int number), .val (.int most), .own none (.l steps), .val (.lst (tools.map .int)), s4, s5, s6, s7] = some (.int (mx tools)) := by
  cases tools with
  | nil => simp [maxDF, startE, seqS, ifS, nxS, retS, retNS, drpS, putS, asgS, setG, getV, op2, op1, opC, consA, cst, cst0, tstB, asB, tru, truD, orT, andT, notT, andE, orE, ifE, chn, isiF, isTy, eqG_ii, eqG_ss, eqG_bb, neG_ii, neG_ss, neG_bb, isNG, notNG, notG, negG, ixG, ixO, lenG, intG, max2G, min2G, mkT, mkL, okD, opX, drpX, putX, retX, mkF, resO, ownS, ocL, ocE, ocD, frzS, borE, borT, borX, flatD, appS, mE, popM, tup2M, rmvS, setS, tupG, consG, nilG, lstN, lstG, itL, itemsL, atI_0, atI_l1, atI_l2, atI_l3, atI_1, atI_2, atI_3, st_wh, st_wf, st_hw, st_hf, st_fw, st_fh, rng1, rng2, whS, forS, prt, add_ii, sub_ii, mod_ii, div_ii, lt_ii, le_ii, gt_ii, ge_ii, intsOf, mx]
  | cons a r =>
    have hi : intsOf (D.int a :: r.map D.int) = some (a :: r) := intsOf_ints (a :: r)
    simp [maxDF, startE, seqS, ifS, nxS, retS, retNS, drpS, putS, asgS, setG, getV, op2, op1, opC, consA, cst, cst0, tstB, asB, tru, truD, orT, andT, notT, andE, orE, ifE, chn, isiF, isTy, eqG_ii, eqG_ss, eqG_bb, neG_ii, neG_ss, neG_bb, isNG, notNG, notG, negG, ixG, ixO, lenG, intG, max2G, min2G, mkT, mkL, okD, opX, drpX, putX, retX, mkF, resO, ownS, ocL, ocE, ocD, frzS, borE, borT, borX, flatD, appS, mE, popM, tup2M, rmvS, setS, tupG, consG, nilG, lstN, lstG, itL, itemsL, atI_0, atI_l1, atI_l2, atI_l3, atI_1, atI_2, atI_3, st_wh, st_wf, st_hw, st_hf, st_fw, st_fh, rng1, rng2, whS, forS, prt, add_ii, sub_ii, mod_ii, div_ii, lt_ii, le_ii, gt_ii, ge_ii, hi, mx]
theorem plan_turn (number most k : Int) (steps : List D) (tools : List Int) (I : PlanInv steps tools) (hl : steps.length ≤ 1000) (ht : tools.length ≤ 1000) (s5 s6 s7 : Sl) :
    ∃ (steps' : List D) (tools' : List Int) (t5 t6 t7 : Sl), b_law_plan_f0 sf_law_mixed (planEnv number most steps tools (.val (.int k)) s5 s6 s7) = some (.nx (planEnv number most steps' tools' (.val (.int k)) t5 t6 t7)) ∧ PlanInv steps' tools' ∧ steps'.length = steps.length + 1 ∧ tools'.length ≤ tools.length + 1 := by
  have hx := mix_range number (10 + k)
  generalize hxe : mix number (10 + k) = x at hx
  obtain ⟨m1, m2, m3⟩ := I.mx
  have hl9 : steps.length ≤ 90000 := by omega
  have ht9 : tools.length ≤ 90000 := by omega
  have hmx := plan_max number most steps tools (.val (.int k)) (.val (.int x)) s6 s7
  have hwork : ∀ b : Int, (b = 0 ∨ b = 1) → PlanInv (steps ++ [.tup [.str "work", .int (1 + x / 5 % 3 + 97 * b)]]) tools := fun b hb => by
    have y0 : 0 ≤ x / 5 % 3 := Int.emod_nonneg _ (by decide)
    have y1 : x / 5 % 3 < 3 := Int.emod_lt_of_pos _ (by decide)
    exact I.work (by omega) (by omega)
  have hb3 : (if x / 15 % 40 = 7 then (1 : Int) else 0) = 0 ∨ (if x / 15 % 40 = 7 then (1 : Int) else 0) = 1 := by split <;> omega
  by_cases c1 : x % 5 < 2
  · by_cases c2 : mx tools + 1 < 10
    · -- a hold
      generalize hb : (if x / 10 % 9 = 1 then (1 : Int) else 0) = b
      have b0 : 0 ≤ b := by rw [← hb]; split <;> omega
      have y0 : 0 ≤ x / 5 % 2 := Int.emod_nonneg _ (by decide)
      generalize hv : mx tools + 1 + x / 5 % 2 + 5 * b = v
      have hi : ∀ y ∈ tools, y < (if v < 9 then v else 9) := fun y hy => by
        have := m1 y hy
        split <;> omega
      refine ⟨steps ++ [.tup [.str "hold", .int (if v < 9 then v else 9)]], tools ++ [if v < 9 then v else 9], .val (.int x), .val (.int (mx tools + 1)), .val (.int v), ?_, I.hold hi ?_ ?_, by simp, by simp⟩
      · simp [b_law_plan_f0, startE, seqS, ifS, nxS, retS, retNS, drpS, putS, asgS, setG, getV, op2, op1, opC, consA, cst, cst0, tstB, asB, tru, truD, orT, andT, notT, andE, orE, ifE, chn, isiF, isTy, eqG_ii, eqG_ss, eqG_bb, neG_ii, neG_ss, neG_bb, isNG, notNG, notG, negG, ixG, ixO, lenG, intG, max2G, min2G, mkT, mkL, okD, opX, drpX, putX, retX, mkF, resO, ownS, ocL, ocE, ocD, frzS, borE, borT, borX, flatD, appS, mE, popM, tup2M, rmvS, setS, tupG, consG, nilG, lstN, lstG, itL, itemsL, atI_0, atI_l1, atI_l2, atI_l3, atI_1, atI_2, atI_3, st_wh, st_wf, st_hw, st_hf, st_fw, st_fh, rng1, rng2, whS, forS, prt, add_ii, sub_ii, mod_ii, div_ii, lt_ii, le_ii, gt_ii, ge_ii, sf_law_mixed, hxe, c1, c2, hmx, hb, hv, mul_l, hl9, ht9]
      · split <;> omega
      · split <;> omega
    · -- no tool is left: a work
      have c4 : ¬ x % 5 = 2 := by omega
      refine ⟨steps ++ [.tup [.str "work", .int (1 + x / 5 % 3 + 97 * (if x / 15 % 40 = 7 then (1 : Int) else 0))]], tools, .val (.int x), .val (.int (mx tools + 1)), s7, ?_, hwork _ hb3, by simp, by omega⟩
      simp [b_law_plan_f0, startE, seqS, ifS, nxS, retS, retNS, drpS, putS, asgS, setG, getV, op2, op1, opC, consA, cst, cst0, tstB, asB, tru, truD, orT, andT, notT, andE, orE, ifE, chn, isiF, isTy, eqG_ii, eqG_ss, eqG_bb, neG_ii, neG_ss, neG_bb, isNG, notNG, notG, negG, ixG, ixO, lenG, intG, max2G, min2G, mkT, mkL, okD, opX, drpX, putX, retX, mkF, resO, ownS, ocL, ocE, ocD, frzS, borE, borT, borX, flatD, appS, mE, popM, tup2M, rmvS, setS, tupG, consG, nilG, lstN, lstG, itL, itemsL, atI_0, atI_l1, atI_l2, atI_l3, atI_1, atI_2, atI_3, st_wh, st_wf, st_hw, st_hf, st_fw, st_fh, rng1, rng2, whS, forS, prt, add_ii, sub_ii, mod_ii, div_ii, lt_ii, le_ii, gt_ii, ge_ii, sf_law_mixed, hxe, c1, c2, c4, hmx, mul_l, hl9, ht9]
  · by_cases c3 : x % 5 = 2 ∧ tools ≠ []
    · obtain ⟨c3, c4⟩ := c3
      have hlen : 0 < tools.length := by
        cases tools with
        | nil => exact absurd rfl c4
        | cons a r => simp
      have hj0 : 0 ≤ x / 5 % (tools.length : Int) := Int.emod_nonneg _ (by omega)
      have hj1 : x / 5 % (tools.length : Int) < (tools.length : Int) := Int.emod_lt_of_pos _ (by omega)
      have hlt : (x / 5 % (tools.length : Int)).toNat < tools.length := by omega
      have hs := seqIndex_nat hj0 hj1
      have hmod : modG (.int (x / 5)) (.int (tools.length : Int)) = some (.int (x / 5 % (tools.length : Int))) := mod_ii (by omega)
      have he : tools.isEmpty = false := by simpa using c4
      refine ⟨steps ++ [.tup [.str "free", .int tools[(x / 5 % (tools.length : Int)).toNat]]], tools.eraseIdx (x / 5 % (tools.length : Int)).toNat, .val (.int x), .val (.int (mx tools + 1)), s7, ?_, I.free (List.getElem?_eq_getElem hlt), by simp, by rw [List.length_eraseIdx]; split <;> omega⟩
      have hbig : -1000000 ≤ x / 5 % (tools.length : Int) ∧ x / 5 % (tools.length : Int) ≤ 1000000 := by omega
      simp [b_law_plan_f0, startE, seqS, ifS, nxS, retS, retNS, drpS, putS, asgS, setG, getV, op2, op1, opC, consA, cst, cst0, tstB, asB, tru, truD, orT, andT, notT, andE, orE, ifE, chn, isiF, isTy, eqG_ii, eqG_ss, eqG_bb, neG_ii, neG_ss, neG_bb, isNG, notNG, notG, negG, ixG, ixO, lenG, intG, max2G, min2G, mkT, mkL, okD, opX, drpX, putX, retX, mkF, resO, ownS, ocL, ocE, ocD, frzS, borE, borT, borX, flatD, appS, mE, popM, tup2M, rmvS, setS, tupG, consG, nilG, lstN, lstG, itL, itemsL, atI_0, atI_l1, atI_l2, atI_l3, atI_1, atI_2, atI_3, st_wh, st_wf, st_hw, st_hf, st_fw, st_fh, rng1, rng2, whS, forS, prt, add_ii, sub_ii, mod_ii, div_ii, lt_ii, le_ii, gt_ii, ge_ii, sf_law_mixed, hxe, c1, c3, hmx, neG_nil, he, hmod, hbig, hs, hlt, hl9, erase_ints]
    · refine ⟨steps ++ [.tup [.str "work", .int (1 + x / 5 % 3 + 97 * (if x / 15 % 40 = 7 then (1 : Int) else 0))]], tools, .val (.int x), .val (.int (mx tools + 1)), s7, ?_, hwork _ hb3, by simp, by omega⟩
      by_cases c4 : x % 5 = 2
      · have c5 : tools = [] := by
          cases tools with
          | nil => rfl
          | cons a r => exact absurd ⟨c4, by simp⟩ c3
        subst c5
        have hne : neG (.lst []) (.lst []) = some (.bl false) := neG_nil []
        have hmx' := hmx
        simp only [List.map_nil] at hmx'
        simp [b_law_plan_f0, startE, seqS, ifS, nxS, retS, retNS, drpS, putS, asgS, setG, getV, op2, op1, opC, consA, cst, cst0, tstB, asB, tru, truD, orT, andT, notT, andE, orE, ifE, chn, isiF, isTy, eqG_ii, eqG_ss, eqG_bb, neG_ii, neG_ss, neG_bb, isNG, notNG, notG, negG, ixG, ixO, lenG, intG, max2G, min2G, mkT, mkL, okD, opX, drpX, putX, retX, mkF, resO, ownS, ocL, ocE, ocD, frzS, borE, borT, borX, flatD, appS, mE, popM, tup2M, rmvS, setS, tupG, consG, nilG, lstN, lstG, itL, itemsL, atI_0, atI_l1, atI_l2, atI_l3, atI_1, atI_2, atI_3, st_wh, st_wf, st_hw, st_hf, st_fw, st_fh, rng1, rng2, whS, forS, prt, add_ii, sub_ii, mod_ii, div_ii, lt_ii, le_ii, gt_ii, ge_ii, sf_law_mixed, hxe, c1, c4, hmx', hne, mul_l, hl9, ht9]
      · simp [b_law_plan_f0, startE, seqS, ifS, nxS, retS, retNS, drpS, putS, asgS, setG, getV, op2, op1, opC, consA, cst, cst0, tstB, asB, tru, truD, orT, andT, notT, andE, orE, ifE, chn, isiF, isTy, eqG_ii, eqG_ss, eqG_bb, neG_ii, neG_ss, neG_bb, isNG, notNG, notG, negG, ixG, ixO, lenG, intG, max2G, min2G, mkT, mkL, okD, opX, drpX, putX, retX, mkF, resO, ownS, ocL, ocE, ocD, frzS, borE, borT, borX, flatD, appS, mE, popM, tup2M, rmvS, setS, tupG, consG, nilG, lstN, lstG, itL, itemsL, atI_0, atI_l1, atI_l2, atI_l3, atI_1, atI_2, atI_3, st_wh, st_wf, st_hw, st_hf, st_fw, st_fh, rng1, rng2, whS, forS, prt, add_ii, sub_ii, mod_ii, div_ii, lt_ii, le_ii, gt_ii, ge_ii, sf_law_mixed, hxe, c1, c4, hmx, mul_l, hl9, ht9]
theorem plan_loop (number most : Int) : ∀ (ks : List Int) (steps : List D) (tools : List Int) (s4 s5 s6 s7 : Sl), PlanInv steps tools → steps.length + ks.length ≤ 1000 → tools.length ≤ steps.length →
    ∃ (steps' : List D) (tools' : List Int) (t4 t5 t6 t7 : Sl), forL (setG 4) (b_law_plan_f0 sf_law_mixed) (ks.map .int) (planEnv number most steps tools s4 s5 s6 s7) = some (.nx (planEnv number most steps' tools' t4 t5 t6 t7)) ∧ PlanInv steps' tools' ∧ steps'.length = steps.length + ks.length ∧ tools'.length ≤ steps'.length
  | [], steps, tools, s4, s5, s6, s7, I, hl, ht => ⟨steps, tools, s4, s5, s6, s7, rfl, I, rfl, ht⟩
  | k :: ks, steps, tools, s4, s5, s6, s7, I, hl, ht => by
    simp only [List.length_cons] at hl
    obtain ⟨st, to, t5, t6, t7, e, I', l1, l2⟩ := plan_turn number most k steps tools I (by omega) (by omega) s5 s6 s7
    obtain ⟨st2, to2, u4, u5, u6, u7, e2, I2, l3, l4⟩ := plan_loop number most ks st to (.val (.int k)) t5 t6 t7 I' (by omega) (by omega)
    refine ⟨st2, to2, u4, u5, u6, u7, ?_, I2, by simp; omega, l4⟩
    rw [List.map_cons]
    exact (forL_nx rfl e).trans e2
theorem plan_frees (number most : Int) : ∀ (n : Nat) (steps : List D) (tools : List Int) (s4 s5 s6 s7 : Sl), PlanInv steps tools → steps.length + tools.length ≤ 1000 → tools.length < n →
    ∃ (steps' : List D), whL (borT 3 (tstB (op2 neG (getV 3) (opC mkL (cst0 []))))) (b_law_plan_w1 sf_law_mixed) n (planEnv number most steps tools s4 s5 s6 s7) = some (.nx (planEnv number most steps' [] s4 s5 s6 s7)) ∧ PlanInv steps' [] ∧ steps'.length = steps.length + tools.length
  | 0, _, _, _, _, _, _, _, _, h => by omega
  | n + 1, steps, tools, s4, s5, s6, s7, I, hl, hn => by
    have hne : neG (.lst (tools.map .int)) (.lst []) = some (.bl !tools.isEmpty) := neG_nil tools
    cases tools with
    | nil =>
      refine ⟨steps, whL_no ?_, I, rfl⟩
      simp only [List.map_nil] at hne
      simp [startE, seqS, ifS, nxS, retS, retNS, drpS, putS, asgS, setG, getV, op2, op1, opC, consA, cst, cst0, tstB, asB, tru, truD, orT, andT, notT, andE, orE, ifE, chn, isiF, isTy, eqG_ii, eqG_ss, eqG_bb, neG_ii, neG_ss, neG_bb, isNG, notNG, notG, negG, ixG, ixO, lenG, intG, max2G, min2G, mkT, mkL, okD, opX, drpX, putX, retX, mkF, resO, ownS, ocL, ocE, ocD, frzS, borE, borT, borX, flatD, appS, mE, popM, tup2M, rmvS, setS, tupG, consG, nilG, lstN, lstG, itL, itemsL, atI_0, atI_l1, atI_l2, atI_l3, atI_1, atI_2, atI_3, st_wh, st_wf, st_hw, st_hf, st_fw, st_fh, rng1, rng2, whS, forS, prt, add_ii, sub_ii, mod_ii, div_ii, lt_ii, le_ii, gt_ii, ge_ii, hne]
    | cons a r =>
      generalize ht : a :: r = tools at *
      have hlen : 0 < tools.length := by rw [← ht]; simp
      have he : tools.isEmpty = false := by rw [← ht]; rfl
      have hj0 : 0 ≤ number / 7 % (tools.length : Int) := Int.emod_nonneg _ (by omega)
      have hj1 : number / 7 % (tools.length : Int) < (tools.length : Int) := Int.emod_lt_of_pos _ (by omega)
      have hlt : (number / 7 % (tools.length : Int)).toNat < tools.length := by omega
      have hs := seqIndex_nat hj0 hj1
      have hmod : modG (.int (number / 7)) (.int (tools.length : Int)) = some (.int (number / 7 % (tools.length : Int))) := mod_ii (by omega)
      have hbig : -1000000 ≤ number / 7 % (tools.length : Int) ∧ number / 7 % (tools.length : Int) ≤ 1000000 := by omega
      have hl9 : steps.length ≤ 90000 := by omega
      have hel : (tools.eraseIdx (number / 7 % (tools.length : Int)).toNat).length = tools.length - 1 := by rw [List.length_eraseIdx, if_pos hlt]
      obtain ⟨st2, e2, I2, l2⟩ := plan_frees number most n (steps ++ [.tup [.str "free", .int tools[(number / 7 % (tools.length : Int)).toNat]]]) (tools.eraseIdx (number / 7 % (tools.length : Int)).toNat) s4 s5 s6 s7 (I.free (List.getElem?_eq_getElem hlt)) (by simp [hel]; omega) (by omega)
      refine ⟨st2, (whL_nx ?_ ?_).trans e2, I2, by rw [l2, hel]; simp; omega⟩
      · simp [startE, seqS, ifS, nxS, retS, retNS, drpS, putS, asgS, setG, getV, op2, op1, opC, consA, cst, cst0, tstB, asB, tru, truD, orT, andT, notT, andE, orE, ifE, chn, isiF, isTy, eqG_ii, eqG_ss, eqG_bb, neG_ii, neG_ss, neG_bb, isNG, notNG, notG, negG, ixG, ixO, lenG, intG, max2G, min2G, mkT, mkL, okD, opX, drpX, putX, retX, mkF, resO, ownS, ocL, ocE, ocD, frzS, borE, borT, borX, flatD, appS, mE, popM, tup2M, rmvS, setS, tupG, consG, nilG, lstN, lstG, itL, itemsL, atI_0, atI_l1, atI_l2, atI_l3, atI_1, atI_2, atI_3, st_wh, st_wf, st_hw, st_hf, st_fw, st_fh, rng1, rng2, whS, forS, prt, add_ii, sub_ii, mod_ii, div_ii, lt_ii, le_ii, gt_ii, ge_ii, hne, he]
      · simp [b_law_plan_w1, startE, seqS, ifS, nxS, retS, retNS, drpS, putS, asgS, setG, getV, op2, op1, opC, consA, cst, cst0, tstB, asB, tru, truD, orT, andT, notT, andE, orE, ifE, chn, isiF, isTy, eqG_ii, eqG_ss, eqG_bb, neG_ii, neG_ss, neG_bb, isNG, notNG, notG, negG, ixG, ixO, lenG, intG, max2G, min2G, mkT, mkL, okD, opX, drpX, putX, retX, mkF, resO, ownS, ocL, ocE, ocD, frzS, borE, borT, borX, flatD, appS, mE, popM, tup2M, rmvS, setS, tupG, consG, nilG, lstN, lstG, itL, itemsL, atI_0, atI_l1, atI_l2, atI_l3, atI_1, atI_2, atI_3, st_wh, st_wf, st_hw, st_hf, st_fw, st_fh, rng1, rng2, whS, forS, prt, add_ii, sub_ii, mod_ii, div_ii, lt_ii, le_ii, gt_ii, ge_ii, hmod, hbig, hs, hlt, hl9, erase_ints]
/-- a plan as it shall be -/
def GoodPlan (s : List D) : Prop := s.all isStep = true ∧ hrL [] s = some true ∧ 1 ≤ s.length
theorem PlanInv.good {s : List D} (I : PlanInv s []) (h : 1 ≤ s.length) : GoodPlan s := ⟨I.step, by have := I.runs []; rw [List.append_nil] at this; rw [this]; rfl, h⟩
abbrev n_law_plan : Nat := 2
def sf_law_plan (ds : List D) : Option Res := if ds.length = 2 then resO (b_law_plan sf_law_mixed (startE ds 8)) else none
theorem m_law_plan (ds : List D) (r : Res) (hl : ds.length = n_law_plan) (hs : sf_law_plan ds = some r) : resO (b_law_plan sf_law_mixed (startE ds 8)) = some r := by
  unfold sf_law_plan at hs
  rwa [if_pos hl] at hs
theorem rngD_ints (n : Nat) : ∃ ks : List Int, rngD 0 n = ks.map .int ∧ ks.length = n := ⟨(List.range n).map fun (i : Nat) => (0 + (i : Int)), by unfold rngD; rw [List.map_map]; rfl, by simp⟩
theorem plan_ok (number most : Int) (h1 : 1 ≤ most) (h2 : most ≤ 100) : ∃ steps, sf_law_plan [.int number, .int most] = some (.ok (.lst steps)) ∧ GoodPlan steps ∧ steps.length ≤ 2 * most.toNat := by
  have hn0 : 0 ≤ number % most := Int.emod_nonneg _ (by omega)
  have hn1 : number % most < most := Int.emod_lt_of_pos _ (by omega)
  obtain ⟨ks, hk, hkl⟩ := rngD_ints (1 + number % most).toNat
  obtain ⟨st, to, t4, t5, t6, t7, e1, I1, l1, l2⟩ := plan_loop number most ks [] [] .no .no .no .no planInv0 (by simp; omega) (by simp)
  obtain ⟨st2, e2, I2, l3⟩ := plan_frees number most 100000 st to t4 t5 t6 t7 I1 (by simp at l1; omega) (by simp at l1; omega)
  refine ⟨st2, ?_, I2.good (by simp at l1; omega), by simp at l1; omega⟩
  have hmod : modG (.int number) (.int most) = some (.int (number % most)) := mod_ii (by omega)
  have hc : 1 + number % most ≤ 100000 ∧ -100000 ≤ 1 + number % most := by omega
  simp only [planEnv, List.map_nil] at e1 e2
  simp [sf_law_plan, b_law_plan, startE, seqS, ifS, nxS, retS, retNS, drpS, putS, asgS, setG, getV, op2, op1, opC, consA, cst, cst0, tstB, asB, tru, truD, orT, andT, notT, andE, orE, ifE, chn, isiF, isTy, eqG_ii, eqG_ss, eqG_bb, neG_ii, neG_ss, neG_bb, isNG, notNG, notG, negG, ixG, ixO, lenG, intG, max2G, min2G, mkT, mkL, okD, opX, drpX, putX, retX, mkF, resO, ownS, ocL, ocE, ocD, frzS, borE, borT, borX, flatD, appS, mE, popM, tup2M, rmvS, setS, tupG, consG, nilG, lstN, lstG, itL, itemsL, atI_0, atI_l1, atI_l2, atI_l3, atI_1, atI_2, atI_3, st_wh, st_wf, st_hw, st_hf, st_fw, st_fh, rng1, rng2, whS, forS, prt, add_ii, sub_ii, mod_ii, div_ii, lt_ii, le_ii, gt_ii, ge_ii, hmod, hc, hk, e1, e2]
end LH

namespace LH
open PySem PySem.Spec PyProof.Rows L2 Evl DL

/-! ### ranks drawn -/
theorem pigeon : ∀ (n : Nat) (L : List Int) (g : Nat → Int), (∀ i, i < n → g i ∈ L) → (∀ i j, i < j → j < n → g i ≠ g j) → n ≤ L.length
  | 0, _, _, _, _ => Nat.zero_le _
  | n + 1, L, g, h, hd => by
    have hm := h n (by omega)
    have := pigeon n (L.erase (g n)) g (fun i hi => (List.mem_erase_of_ne (hd i n hi (by omega))).mpr (h i (by omega))) fun i j h1 h2 => hd i j h1 (by omega)
    have hl := List.length_erase_of_mem hm
    have : 0 < L.length := List.length_pos_of_mem hm
    omega
def rk (r : Int) (i : Nat) : Int := (r - 1 + i) % 1000000 + 1
theorem rk_ne (r : Int) (i j : Nat) (h : i < j) (h2 : j < 1000000) : rk r i ≠ rk r j := by unfold rk; omega
theorem rk_range (r : Int) (i : Nat) : 1 ≤ rk r i ∧ rk r i ≤ 1000000 := by unfold rk; omega
theorem rk_next (r : Int) (i : Nat) : rk r i % 1000000 + 1 = rk r (i + 1) := by unfold rk; omega
theorem rk_0 {r : Int} (h : 1 ≤ r) (h2 : r ≤ 1000000) : rk r 0 = r := by unfold rk; omega
abbrev rankEnv (number many : Int) (found : List Int) (s3 s4 s5 : Sl) : DEnv := [.val (.int number), .val (.int many), .own none (.l (found.map .int)), s3, s4, s5]
theorem rank_while (number many : Int) (found : List Int) (s3 s4 : Sl) (r : Int) : ∀ (n i : Nat), (∃ j, i ≤ j ∧ j < i + n ∧ rk r j ∉ found) →
    ∃ j, whL (borT 2 (tstB (op2 (inG false) (getV 5) (getV 2)))) (b_law_ranks_w0 sf_law_mixed) n (rankEnv number many found s3 s4 (.val (.int (rk r i)))) = some (.nx (rankEnv number many found s3 s4 (.val (.int (rk r j))))) ∧ rk r j ∉ found
  | 0, i, ⟨j, h1, h2, _⟩ => by omega
  | n + 1, i, ⟨j, h1, h2, h3⟩ => by
    have hin : inG false (.int (rk r i)) (.lst (found.map .int)) = some (.bl (found.contains (rk r i))) := by rw [inG_ints]; simp
    by_cases hm : rk r i ∈ found
    · have hj : i ≠ j := fun e => h3 (e ▸ hm)
      obtain ⟨j2, e, h4⟩ := rank_while number many found s3 s4 r n (i + 1) ⟨j, by omega, by omega, h3⟩
      refine ⟨j2, (whL_nx ?_ ?_).trans e, h4⟩
      · simp [startE, seqS, ifS, nxS, retS, retNS, drpS, putS, asgS, setG, getV, op2, op1, opC, consA, cst, cst0, tstB, asB, tru, truD, orT, andT, notT, andE, orE, ifE, chn, isiF, isTy, eqG_ii, eqG_ss, eqG_bb, neG_ii, neG_ss, neG_bb, isNG, notNG, notG, negG, ixG, ixO, lenG, intG, max2G, min2G, mkT, mkL, okD, opX, drpX, putX, retX, mkF, resO, ownS, ocL, ocE, ocD, frzS, borE, borT, borX, flatD, appS, mE, popM, tup2M, rmvS, setS, tupG, consG, nilG, lstN, lstG, itL, itemsL, atI_0, atI_l1, atI_l2, atI_l3, atI_1, atI_2, atI_3, st_wh, st_wf, st_hw, st_hf, st_fw, st_fh, rng1, rng2, whS, forS, prt, add_ii, sub_ii, mod_ii, div_ii, lt_ii, le_ii, gt_ii, ge_ii, hin, hm]
      · have hp : powG (.int 10) (.int 6) = some (.int 1000000) := by simp [powG, iiG]
        simp [b_law_ranks_w0, startE, seqS, ifS, nxS, retS, retNS, drpS, putS, asgS, setG, getV, op2, op1, opC, consA, cst, cst0, tstB, asB, tru, truD, orT, andT, notT, andE, orE, ifE, chn, isiF, isTy, eqG_ii, eqG_ss, eqG_bb, neG_ii, neG_ss, neG_bb, isNG, notNG, notG, negG, ixG, ixO, lenG, intG, max2G, min2G, mkT, mkL, okD, opX, drpX, putX, retX, mkF, resO, ownS, ocL, ocE, ocD, frzS, borE, borT, borX, flatD, appS, mE, popM, tup2M, rmvS, setS, tupG, consG, nilG, lstN, lstG, itL, itemsL, atI_0, atI_l1, atI_l2, atI_l3, atI_1, atI_2, atI_3, st_wh, st_wf, st_hw, st_hf, st_fw, st_fh, rng1, rng2, whS, forS, prt, add_ii, sub_ii, mod_ii, div_ii, lt_ii, le_ii, gt_ii, ge_ii, hp, rk_next]
    · refine ⟨i, whL_no ?_, hm⟩
      simp [startE, seqS, ifS, nxS, retS, retNS, drpS, putS, asgS, setG, getV, op2, op1, opC, consA, cst, cst0, tstB, asB, tru, truD, orT, andT, notT, andE, orE, ifE, chn, isiF, isTy, eqG_ii, eqG_ss, eqG_bb, neG_ii, neG_ss, neG_bb, isNG, notNG, notG, negG, ixG, ixO, lenG, intG, max2G, min2G, mkT, mkL, okD, opX, drpX, putX, retX, mkF, resO, ownS, ocL, ocE, ocD, frzS, borE, borT, borX, flatD, appS, mE, popM, tup2M, rmvS, setS, tupG, consG, nilG, lstN, lstG, itL, itemsL, atI_0, atI_l1, atI_l2, atI_l3, atI_1, atI_2, atI_3, st_wh, st_wf, st_hw, st_hf, st_fw, st_fh, rng1, rng2, whS, forS, prt, add_ii, sub_ii, mod_ii, div_ii, lt_ii, le_ii, gt_ii, ge_ii, hin, hm]
theorem rank_turn (number many k : Int) (found : List Int) (hl : found.length ≤ 1000) (s4 s5 : Sl) :
    ∃ (r : Int) (t4 : Sl), b_law_ranks_f1 sf_law_mixed (rankEnv number many found (.val (.int k)) s4 s5) = some (.nx (rankEnv number many (found ++ [r]) (.val (.int k)) t4 (.val (.int r)))) ∧ r ∉ found ∧ 1 ≤ r ∧ r ≤ 1000000 := by
  have hx := mix_range number (40 + k)
  generalize hxe : mix number (40 + k) = x at hx
  have y0 : 0 ≤ x % 9 ∧ x % 9 < 9 := ⟨Int.emod_nonneg _ (by decide), Int.emod_lt_of_pos _ (by decide)⟩
  have y1 : 0 ≤ x % 1000000 ∧ x % 1000000 < 1000000 := ⟨Int.emod_nonneg _ (by decide), Int.emod_lt_of_pos _ (by decide)⟩
  have hp : powG (.int 10) (.int 6) = some (.int 1000000) := by simp [powG, iiG]
  have hl9 : found.length ≤ 90000 := by omega
  have key : ∀ r0 : Int, 1 ≤ r0 → r0 ≤ 1000000 → ∃ j, whL (borT 2 (tstB (op2 (inG false) (getV 5) (getV 2)))) (b_law_ranks_w0 sf_law_mixed) 100000 (rankEnv number many found (.val (.int k)) (.val (.int x)) (.val (.int r0))) = some (.nx (rankEnv number many found (.val (.int k)) (.val (.int x)) (.val (.int (rk r0 j))))) ∧ rk r0 j ∉ found := fun r0 h1 h2 => by
    have ex : ∃ j, 0 ≤ j ∧ j < 0 + 100000 ∧ rk r0 j ∉ found := by
      refine Classical.byContradiction fun hn => ?_
      have := pigeon 100000 found (rk r0) (fun i hi => Classical.byContradiction fun h => hn ⟨i, by omega, by omega, h⟩) fun i j h1 h2 => rk_ne r0 i j h1 (by omega)
      omega
    have := rank_while number many found (.val (.int k)) (.val (.int x)) r0 100000 0 ex
    rwa [rk_0 h1 h2] at this
  have hn : number % 2 = 0 ∨ number % 2 = 1 := by omega
  rcases hn with hn | hn
  · obtain ⟨j, e, hj⟩ := key (1 + x % 9) (by omega) (by omega)
    have := rk_range (1 + x % 9) j
    refine ⟨_, .val (.int x), ?_, hj, this.1, this.2⟩
    · simp only [rankEnv] at e
      simp [b_law_ranks_f1, startE, seqS, ifS, nxS, retS, retNS, drpS, putS, asgS, setG, getV, op2, op1, opC, consA, cst, cst0, tstB, asB, tru, truD, orT, andT, notT, andE, orE, ifE, chn, isiF, isTy, eqG_ii, eqG_ss, eqG_bb, neG_ii, neG_ss, neG_bb, isNG, notNG, notG, negG, ixG, ixO, lenG, intG, max2G, min2G, mkT, mkL, okD, opX, drpX, putX, retX, mkF, resO, ownS, ocL, ocE, ocD, frzS, borE, borT, borX, flatD, appS, mE, popM, tup2M, rmvS, setS, tupG, consG, nilG, lstN, lstG, itL, itemsL, atI_0, atI_l1, atI_l2, atI_l3, atI_1, atI_2, atI_3, st_wh, st_wf, st_hw, st_hf, st_fw, st_fh, rng1, rng2, whS, forS, prt, add_ii, sub_ii, mod_ii, div_ii, lt_ii, le_ii, gt_ii, ge_ii, sf_law_mixed, hxe, hp, hn, e, hl9]
  · obtain ⟨j, e, hj⟩ := key (1 + x % 1000000) (by omega) (by omega)
    have := rk_range (1 + x % 1000000) j
    refine ⟨_, .val (.int x), ?_, hj, this.1, this.2⟩
    · simp only [rankEnv] at e
      simp [b_law_ranks_f1, startE, seqS, ifS, nxS, retS, retNS, drpS, putS, asgS, setG, getV, op2, op1, opC, consA, cst, cst0, tstB, asB, tru, truD, orT, andT, notT, andE, orE, ifE, chn, isiF, isTy, eqG_ii, eqG_ss, eqG_bb, neG_ii, neG_ss, neG_bb, isNG, notNG, notG, negG, ixG, ixO, lenG, intG, max2G, min2G, mkT, mkL, okD, opX, drpX, putX, retX, mkF, resO, ownS, ocL, ocE, ocD, frzS, borE, borT, borX, flatD, appS, mE, popM, tup2M, rmvS, setS, tupG, consG, nilG, lstN, lstG, itL, itemsL, atI_0, atI_l1, atI_l2, atI_l3, atI_1, atI_2, atI_3, st_wh, st_wf, st_hw, st_hf, st_fw, st_fh, rng1, rng2, whS, forS, prt, add_ii, sub_ii, mod_ii, div_ii, lt_ii, le_ii, gt_ii, ge_ii, sf_law_mixed, hxe, hp, hn, e, hl9]
structure RanksOk (rs : List Int) : Prop where
  nd : rs.Nodup
  num : ∀ r ∈ rs, 1 ≤ r ∧ r ≤ 1000000
theorem rank_loop (number many : Int) : ∀ (ks : List Int) (found : List Int) (s3 s4 s5 : Sl), RanksOk found → found.length + ks.length ≤ 1000 →
    ∃ (found' : List Int) (t3 t4 t5 : Sl), forL (setG 3) (b_law_ranks_f1 sf_law_mixed) (ks.map .int) (rankEnv number many found s3 s4 s5) = some (.nx (rankEnv number many found' t3 t4 t5)) ∧ RanksOk found' ∧ found'.length = found.length + ks.length
  | [], found, s3, s4, s5, I, hl => ⟨found, s3, s4, s5, rfl, I, rfl⟩
  | k :: ks, found, s3, s4, s5, I, hl => by
    simp only [List.length_cons] at hl
    obtain ⟨r, t4, e, h1, h2, h3⟩ := rank_turn number many k found (by omega) s4 s5
    have I' : RanksOk (found ++ [r]) := ⟨by
      rw [List.nodup_append]
      exact ⟨I.nd, by simp, fun a ha b hb => by simp at hb; subst hb; exact fun z => h1 (z ▸ ha)⟩, fun x hx => by
      rcases List.mem_append.mp hx with hx | hx
      · exact I.num x hx
      · simp at hx; subst hx; exact ⟨h2, h3⟩⟩
    obtain ⟨f2, u3, u4, u5, e2, I2, l2⟩ := rank_loop number many ks (found ++ [r]) (.val (.int k)) t4 (.val (.int r)) I' (by simp; omega)
    refine ⟨f2, u3, u4, u5, ?_, I2, by simp at l2 ⊢; omega⟩
    rw [List.map_cons]
    exact (forL_nx rfl e).trans e2
abbrev n_law_ranks : Nat := 2
def sf_law_ranks (ds : List D) : Option Res := if ds.length = 2 then resO (b_law_ranks sf_law_mixed (startE ds 6)) else none
theorem m_law_ranks (ds : List D) (r : Res) (hl : ds.length = n_law_ranks) (hs : sf_law_ranks ds = some r) : resO (b_law_ranks sf_law_mixed (startE ds 6)) = some r := by
  unfold sf_law_ranks at hs
  rwa [if_pos hl] at hs
theorem ranks_ok (number many : Int) (h1 : 0 ≤ many) (h2 : many ≤ 100) : ∃ rs, sf_law_ranks [.int number, .int many] = some (.ok (.lst (rs.map .int))) ∧ RanksOk rs ∧ rs.length = many.toNat := by
  obtain ⟨ks, hk, hkl⟩ := rngD_ints many.toNat
  obtain ⟨rs, t3, t4, t5, e1, I1, l1⟩ := rank_loop number many ks [] .no .no .no ⟨by simp, by simp⟩ (by simp; omega)
  refine ⟨rs, ?_, I1, by simpa [hkl] using l1⟩
  have hc : many ≤ 100000 ∧ -100000 ≤ many := by omega
  simp only [rankEnv, List.map_nil] at e1
  simp [sf_law_ranks, b_law_ranks, startE, seqS, ifS, nxS, retS, retNS, drpS, putS, asgS, setG, getV, op2, op1, opC, consA, cst, cst0, tstB, asB, tru, truD, orT, andT, notT, andE, orE, ifE, chn, isiF, isTy, eqG_ii, eqG_ss, eqG_bb, neG_ii, neG_ss, neG_bb, isNG, notNG, notG, negG, ixG, ixO, lenG, intG, max2G, min2G, mkT, mkL, okD, opX, drpX, putX, retX, mkF, resO, ownS, ocL, ocE, ocD, frzS, borE, borT, borX, flatD, appS, mE, popM, tup2M, rmvS, setS, tupG, consG, nilG, lstN, lstG, itL, itemsL, atI_0, atI_l1, atI_l2, atI_l3, atI_1, atI_2, atI_3, st_wh, st_wf, st_hw, st_hf, st_fw, st_fh, rng1, rng2, whS, forS, prt, add_ii, sub_ii, mod_ii, div_ii, lt_ii, le_ii, gt_ii, ge_ii, hc, hk, e1]
end LH

namespace LH
open PySem PySem.Spec PyProof.Rows L2 Evl DL

/-! ### ladders -/
abbrev wk (n : Int) : D := .tup [.str "work", .int n]
abbrev hd (n : Int) : D := .tup [.str "hold", .int n]
abbrev fr (n : Int) : D := .tup [.str "free", .int n]
def rp (a : Int) (s : D) : List D := (List.replicate a.toNat [s]).flatten
theorem rp_01 {a : Int} (s : D) (h : a = 0 ∨ a = 1) : rp a s = [] ∨ rp a s = [s] := by
  rcases h with rfl | rfl
  · exact .inl rfl
  · exact .inr rfl
theorem PlanInv.rp01 {s : List D} {t : List Int} {a n : Int} (I : PlanInv s t) (h : a = 0 ∨ a = 1) (h1 : 1 ≤ n) (h2 : n ≤ 100) : PlanInv (s ++ rp a (wk n)) t := by
  rcases rp_01 (wk n) h with e | e
  · rw [e, List.append_nil]; exact I
  · rw [e]; exact I.work h1 h2
def ladd (k many number : Int) : List D :=
  (rp (number / 2 % 2) (wk (1 + number % 2)) ++ [hd k, wk (1 + number / 4 % 3)] ++
    (if k + 1 < many then [hd (k + 1), wk (1 + number / 12 % 3)] ++
      (if number / 36 % 2 = 1 then [fr (k + 1)] ++ rp (number / 72 % 2) (wk 2) ++ [fr k] else [fr k] ++ rp (number / 72 % 2) (wk 1) ++ [fr (k + 1)])
    else [wk (1 + number / 12 % 5), fr k])) ++ rp (number / 288 % 2) (wk (1 + number / 144 % 2))
theorem ladd_good (k many number : Int) (h0 : 0 ≤ k) (h1 : k < many) (h2 : many ≤ 10) : GoodPlan (ladd k many number) := by
  have z : ∀ m d : Int, 0 < d → 0 ≤ m % d ∧ m % d < d := fun m d hd => ⟨Int.emod_nonneg _ (by omega), Int.emod_lt_of_pos _ hd⟩
  have a1 := z number 2 (by decide)
  have a2 := z (number / 4) 3 (by decide)
  have a3 := z (number / 12) 3 (by decide)
  have a4 := z (number / 12) 5 (by decide)
  have a5 := z (number / 144) 2 (by decide)
  have b1 : number / 2 % 2 = 0 ∨ number / 2 % 2 = 1 := by omega
  have b2 : number / 72 % 2 = 0 ∨ number / 72 % 2 = 1 := by omega
  have b3 : number / 288 % 2 = 0 ∨ number / 288 % 2 = 1 := by omega
  have I1 := planInv0.rp01 (n := 1 + number % 2) b1 (by omega) (by omega)
  have I2 := I1.hold (k := k) (by simp) h0 (by omega)
  have I3 := I2.work (n := 1 + number / 4 % 3) (by omega) (by omega)
  have fin : ∀ s, PlanInv s [] → GoodPlan (s ++ rp (number / 288 % 2) (wk (1 + number / 144 % 2))) ∨ s = [] := fun s I => by
    by_cases hs : s = []
    · exact .inr hs
    · have := I.rp01 (n := 1 + number / 144 % 2) b3 (by omega) (by omega)
      refine .inl (this.good ?_)
      have : 0 < s.length := by
        cases s with
        | nil => exact absurd rfl hs
        | cons a r => simp
      simp; omega
  unfold ladd
  by_cases c1 : k + 1 < many
  · rw [if_pos c1]
    have I4 := I3.hold (k := k + 1) (by simp; omega) (by omega) (by omega)
    have I5 := I4.work (n := 1 + number / 12 % 3) (by omega) (by omega)
    by_cases c2 : number / 36 % 2 = 1
    · rw [if_pos c2]
      have I6 := I5.free (k := k + 1) (j := 1) rfl
      have I7 := I6.rp01 (n := 2) b2 (by omega) (by omega)
      have I8 := I7.free (k := k) (j := 0) rfl
      rcases fin _ I8 with g | g
      · simpa [List.append_assoc] using g
      · simp at g
    · rw [if_neg c2]
      have I6 := I5.free (k := k) (j := 0) rfl
      have I7 := I6.rp01 (n := 1) b2 (by omega) (by omega)
      have I8 := I7.free (k := k + 1) (j := 0) rfl
      rcases fin _ I8 with g | g
      · simpa [List.append_assoc] using g
      · simp at g
  · rw [if_neg c1]
    have I4 := I3.work (n := 1 + number / 12 % 5) (by omega) (by omega)
    have I5 := I4.free (k := k) (j := 0) rfl
    rcases fin _ I5 with g | g
    · simpa [List.append_assoc] using g
    · simp at g
theorem ladd_len (k many number : Int) : (ladd k many number).length ≤ 20 := by
  have b1 : number / 2 % 2 = 0 ∨ number / 2 % 2 = 1 := by omega
  have b2 : number / 72 % 2 = 0 ∨ number / 72 % 2 = 1 := by omega
  have b3 : number / 288 % 2 = 0 ∨ number / 288 % 2 = 1 := by omega
  have l : ∀ (a : Int) (s : D), (a = 0 ∨ a = 1) → (rp a s).length ≤ 1 := fun a s h => by
    rcases rp_01 s h with e | e <;> simp [e]
  have l1 := l _ (wk (1 + number % 2)) b1
  have l2 := l _ (wk 2) b2
  have l3 := l _ (wk 1) b2
  have l4 := l _ (wk (1 + number / 144 % 2)) b3
  unfold ladd
  simp only [List.length_append]
  split
  · split <;> simp <;> omega
  · simp; omega
abbrev n_law_ladder : Nat := 3
def sf_law_ladder (ds : List D) : Option Res := if ds.length = 3 then resO (b_law_ladder (startE ds 4)) else none
theorem m_law_ladder (ds : List D) (r : Res) (hl : ds.length = n_law_ladder) (hs : sf_law_ladder ds = some r) : resO (b_law_ladder (startE ds 4)) = some r := by
  unfold sf_law_ladder at hs
  rwa [if_pos hl] at hs
theorem mul_rp {s : D} {a : Int} (h : a = 0 ∨ a = 1) : mulG (.lst [s]) (.int a) = some (.lst (rp a s)) := by
  rcases h with rfl | rfl <;> simp [mulG, rp]
theorem ladder_eq (k many number : Int) : sf_law_ladder [.int k, .int many, .int number] = some (.ok (.lst (ladd k many number))) := by
  have b1 : number / 2 % 2 = 0 ∨ number / 2 % 2 = 1 := by omega
  have b2 : number / 72 % 2 = 0 ∨ number / 72 % 2 = 1 := by omega
  have b3 : number / 288 % 2 = 0 ∨ number / 288 % 2 = 1 := by omega
  have l : ∀ (a : Int) (s : D), (a = 0 ∨ a = 1) → (rp a s).length ≤ 1 := fun a s h => by
    rcases rp_01 s h with e | e <;> simp [e]
  have l1 := l _ (wk (1 + number % 2)) b1
  have l2 := l _ (wk 2) b2
  have l3 := l _ (wk 1) b2
  have l4 := l _ (wk (1 + number / 144 % 2)) b3
  unfold ladd
  have m1 := mul_rp (s := wk (1 + number % 2)) b1
  have m2 := mul_rp (s := wk 2) b2
  have m4 := mul_rp (s := wk 1) b2
  have m3 := mul_rp (s := wk (1 + number / 144 % 2)) b3
  generalize rp (number / 2 % 2) (wk (1 + number % 2)) = r1 at *
  generalize rp (number / 288 % 2) (wk (1 + number / 144 % 2)) = r3 at *
  generalize rp (number / 72 % 2) (wk 2) = r2 at *
  generalize rp (number / 72 % 2) (wk 1) = r4 at *
  by_cases c1 : k + 1 < many
  · by_cases c2 : number / 36 % 2 = 1
    · simp (disch := first | omega | (simp only [List.length_append, List.length_cons, List.length_nil]; omega)) [sf_law_ladder, b_law_ladder, startE, seqS, ifS, nxS, retS, retNS, drpS, putS, asgS, setG, getV, op2, op1, opC, consA, cst, cst0, tstB, asB, tru, truD, orT, andT, notT, andE, orE, ifE, chn, isiF, isTy, eqG_ii, eqG_ss, eqG_bb, neG_ii, neG_ss, neG_bb, isNG, notNG, notG, negG, ixG, ixO, lenG, intG, max2G, min2G, mkT, mkL, okD, opX, drpX, putX, retX, mkF, resO, ownS, ocL, ocE, ocD, frzS, borE, borT, borX, flatD, appS, mE, popM, tup2M, rmvS, setS, tupG, consG, nilG, lstN, lstG, itL, itemsL, atI_0, atI_l1, atI_l2, atI_l3, atI_1, atI_2, atI_3, st_wh, st_wf, st_hw, st_hf, st_fw, st_fh, rng1, rng2, whS, forS, prt, add_ii, sub_ii, mod_ii, div_ii, lt_ii, le_ii, gt_ii, ge_ii, c1, c2, m1, m2, m3, m4, add_ll]
    · simp (disch := first | omega | (simp only [List.length_append, List.length_cons, List.length_nil]; omega)) [sf_law_ladder, b_law_ladder, startE, seqS, ifS, nxS, retS, retNS, drpS, putS, asgS, setG, getV, op2, op1, opC, consA, cst, cst0, tstB, asB, tru, truD, orT, andT, notT, andE, orE, ifE, chn, isiF, isTy, eqG_ii, eqG_ss, eqG_bb, neG_ii, neG_ss, neG_bb, isNG, notNG, notG, negG, ixG, ixO, lenG, intG, max2G, min2G, mkT, mkL, okD, opX, drpX, putX, retX, mkF, resO, ownS, ocL, ocE, ocD, frzS, borE, borT, borX, flatD, appS, mE, popM, tup2M, rmvS, setS, tupG, consG, nilG, lstN, lstG, itL, itemsL, atI_0, atI_l1, atI_l2, atI_l3, atI_1, atI_2, atI_3, st_wh, st_wf, st_hw, st_hf, st_fw, st_fh, rng1, rng2, whS, forS, prt, add_ii, sub_ii, mod_ii, div_ii, lt_ii, le_ii, gt_ii, ge_ii, c1, c2, m1, m2, m3, m4, add_ll]
  · simp (disch := first | omega | (simp only [List.length_append, List.length_cons, List.length_nil]; omega)) [sf_law_ladder, b_law_ladder, startE, seqS, ifS, nxS, retS, retNS, drpS, putS, asgS, setG, getV, op2, op1, opC, consA, cst, cst0, tstB, asB, tru, truD, orT, andT, notT, andE, orE, ifE, chn, isiF, isTy, eqG_ii, eqG_ss, eqG_bb, neG_ii, neG_ss, neG_bb, isNG, notNG, notG, negG, ixG, ixO, lenG, intG, max2G, min2G, mkT, mkL, okD, opX, drpX, putX, retX, mkF, resO, ownS, ocL, ocE, ocD, frzS, borE, borT, borX, flatD, appS, mE, popM, tup2M, rmvS, setS, tupG, consG, nilG, lstN, lstG, itL, itemsL, atI_0, atI_l1, atI_l2, atI_l3, atI_1, atI_2, atI_3, st_wh, st_wf, st_hw, st_hf, st_fw, st_fh, rng1, rng2, whS, forS, prt, add_ii, sub_ii, mod_ii, div_ii, lt_ii, le_ii, gt_ii, ge_ii, c1, m1, m3, add_ll]
end LH

namespace LH
open PySem PySem.Spec PyProof.Rows L2 Evl DL

abbrev n_law_cell_at : Nat := 2
def sf_law_cell_at : List D → Option Res
  | [.scr ns, .int k] => if 0 ≤ k then some (.ok (.int (ns.getD k.toNat 0))) else none
  | _ => none
theorem m_law_cell_at (ds : List D) (r : Res) (hl : ds.length = n_law_cell_at) (hs : sf_law_cell_at ds = some r) : resO (b_law_cell_at (startE ds 2)) = some r := by
  unfold sf_law_cell_at at hs
  split at hs
  · rename_i ns k
    split at hs
    · rename_i h
      cases hs
      by_cases h2 : k < ns.length
      · have h3 : k.toNat < ns.length := by omega
        simp [b_law_cell_at, startE, seqS, ifS, nxS, retS, retNS, drpS, putS, asgS, setG, getV, op2, op1, opC, consA, cst, cst0, tstB, asB, tru, truD, orT, andT, notT, andE, orE, ifE, chn, isiF, isTy, addG, mulG, iiG, eqG_ii, eqG_ss, eqG_bb, neG_ii, neG_ss, neG_bb, isNG, notNG, notG, negG, ixG, ixO, lenG, intG, max2G, min2G, mkT, mkL, okD, opX, drpX, putX, retX, mkF, resO, ownS, ocL, ocE, ocD, frzS, borE, borT, borX, flatD, appS, mE, popM, tup2M, rmvS, setS, tupG, consG, nilG, lstN, lstG, itL, itemsL, atI_0, atI_l1, atI_l2, atI_l3, atI_1, atI_2, atI_3, st_wh, st_wf, st_hw, st_hf, st_fw, st_fh, rng1, rng2, whS, forS, prt, ltG, h2, atI_nat0 ns h, h3]
      · have h3 : ns.length ≤ k.toNat := by omega
        simp [b_law_cell_at, startE, seqS, ifS, nxS, retS, retNS, drpS, putS, asgS, setG, getV, op2, op1, opC, consA, cst, cst0, tstB, asB, tru, truD, orT, andT, notT, andE, orE, ifE, chn, isiF, isTy, addG, mulG, iiG, eqG_ii, eqG_ss, eqG_bb, neG_ii, neG_ss, neG_bb, isNG, notNG, notG, negG, ixG, ixO, lenG, intG, max2G, min2G, mkT, mkL, okD, opX, drpX, putX, retX, mkF, resO, ownS, ocL, ocE, ocD, frzS, borE, borT, borX, flatD, appS, mE, popM, tup2M, rmvS, setS, tupG, consG, nilG, lstN, lstG, itL, itemsL, atI_0, atI_l1, atI_l2, atI_l3, atI_1, atI_2, atI_3, st_wh, st_wf, st_hw, st_hf, st_fw, st_fh, rng1, rng2, whS, forS, prt, ltG, h2, h3]
    · cases hs
  · cases hs
def cell (ns : List Int) (k : Int) : Int := ns.getD k.toNat 0
theorem cell_at (ns : List Int) {k : Int} (h : 0 ≤ k) : sf_law_cell_at [.scr ns, .int k] = some (.ok (.int (cell ns k))) := by
  simp only [sf_law_cell_at, if_pos h, cell]
/-! ### workers drawn -/
/-- a worker of the rank r, as it shall be -/
def WorkerOf (r : Int) (w : D) : Prop := ∃ s p, w = .tup [.int r, .int s, .lst p] ∧ 0 ≤ s ∧ s ≤ 1000 ∧ GoodPlan p ∧ p.length ≤ 40
structure WsOk (rs : List Int) (ws : List D) : Prop where
  len : ws.length ≤ rs.length
  at_ : ∀ (j : Nat) (w : D), ws[j]? = some w → ∃ r, rs[j]? = some r ∧ WorkerOf r w
abbrev wsEnv (ns : List Int) (most late many first : Int) (rs : List Int) (ws : List D) (s7 s8 s9 s10 : Sl) : DEnv := [.val (.scr ns), .val (.int most), .val (.int late), .val (.int many), .val (.int first), .val (.lst (rs.map .int)), .own none (.l ws), s7, s8, s9, s10]
theorem ws_turn (ns : List Int) (most late many first : Int) (rs : List Int) (ws : List D) (k : Nat) (s8 s9 s10 : Sl) (hm : 1 ≤ most) (hm2 : most ≤ 20) (hl : 1 ≤ late) (hl2 : late ≤ 1001) (hk : (k : Int) < many) (hmany : many ≤ 8) (hrs : (rs.length : Int) = many) (hws : ws.length ≤ 1000) :
    ∃ (r : Int) (w : D) (t8 t9 t10 : Sl), b_law_workers_f0 sf_law_cell_at sf_law_mixed sf_law_ranks sf_law_plan sf_law_ladder (wsEnv ns most late many first rs ws (.val (.int k)) s8 s9 s10) = some (.nx (wsEnv ns most late many first rs (ws ++ [w]) (.val (.int k)) t8 t9 t10)) ∧ rs[k]? = some r ∧ WorkerOf r w := by
  have c1 := cell_at ns (k := 2 + 2 * (k : Int)) (by omega)
  have c2 := cell_at ns (k := 3 + 2 * (k : Int)) (by omega)
  generalize cell ns (2 + 2 * (k : Int)) = x1 at c1
  generalize cell ns (3 + 2 * (k : Int)) = x2 at c2
  have e1 : sf_law_mixed [.int x1, .int (60 + (k : Int))] = some (.ok (.int (mix x1 (60 + (k : Int))))) := rfl
  have e2 : sf_law_mixed [.int x2, .int (80 + (k : Int))] = some (.ok (.int (mix x2 (80 + (k : Int))))) := rfl
  generalize mix x1 (60 + (k : Int)) = y1 at e1
  generalize mix x2 (80 + (k : Int)) = y2 at e2
  obtain ⟨p, e3, g3, l3⟩ := plan_ok y2 most hm (by omega)
  have e4 := ladder_eq k many y2
  have hkl : k < rs.length := by omega
  have hr : rs[k]? = some rs[k] := List.getElem?_eq_getElem hkl
  have hat : atI (rs.map D.int) (k : Int) = some (.int rs[k]) := by rw [DL.atI_nat, List.getElem?_map, hr]; rfl
  have hws9 : ws.length ≤ 90000 := by omega
  have z0 : 0 ≤ y1 % late := Int.emod_nonneg _ (by omega)
  have z1 : y1 % late < late := Int.emod_lt_of_pos _ (by omega)
  by_cases cf : first % 3 = 1
  · have w0 : 0 ≤ first / 3 % 3 := Int.emod_nonneg _ (by decide)
    have w1 : first / 3 % 3 < 3 := Int.emod_lt_of_pos _ (by decide)
    have v0 : 0 ≤ y1 % late % 2 := Int.emod_nonneg _ (by decide)
    have v1 : y1 % late % 2 < 2 := Int.emod_lt_of_pos _ (by decide)
    have m0 : 0 ≤ (many - 1 - (k : Int)) * (1 + first / 3 % 3) := Int.mul_nonneg (by omega) (by omega)
    have m1 : (many - 1 - (k : Int)) * (1 + first / 3 % 3) ≤ 7 * 3 := Int.mul_le_mul (by omega) (by omega) (by omega) (by omega)
    refine ⟨rs[k], .tup [.int rs[k], .int ((many - 1 - (k : Int)) * (1 + first / 3 % 3) + y1 % late % 2), .lst (ladd k many y2)], .val (.int ((many - 1 - (k : Int)) * (1 + first / 3 % 3) + y1 % late % 2)), .val (.int y2), .val (.lst (ladd k many y2)), ?_, hr, _, _, rfl, by omega, by omega, ladd_good k many y2 (by omega) hk (by omega), by have := ladd_len k many y2; omega⟩
    simp (disch := first | omega | (simp only [List.length_append, List.length_cons, List.length_nil]; omega)) [b_law_workers_f0, startE, seqS, ifS, nxS, retS, retNS, drpS, putS, asgS, setG, getV, op2, op1, opC, consA, cst, cst0, tstB, asB, tru, truD, orT, andT, notT, andE, orE, ifE, chn, isiF, isTy, eqG_ii, eqG_ss, eqG_bb, neG_ii, neG_ss, neG_bb, isNG, notNG, notG, negG, ixG, ixO, lenG, intG, max2G, min2G, mkT, mkL, okD, opX, drpX, putX, retX, mkF, resO, ownS, ocL, ocE, ocD, frzS, borE, borT, borX, flatD, appS, mE, popM, tup2M, rmvS, setS, tupG, consG, nilG, lstN, lstG, itL, itemsL, atI_0, atI_l1, atI_l2, atI_l3, atI_1, atI_2, atI_3, st_wh, st_wf, st_hw, st_hf, st_fw, st_fh, rng1, rng2, whS, forS, prt, add_ii, sub_ii, mod_ii, div_ii, lt_ii, le_ii, gt_ii, ge_ii, c1, c2, e1, e2, e3, e4, cf, hat, hws9, mul_l]
  · refine ⟨rs[k], .tup [.int rs[k], .int (y1 % late), .lst p], .val (.int (y1 % late)), .val (.int y2), .val (.lst p), ?_, hr, _, _, rfl, z0, by omega, g3, by omega⟩
    simp (disch := first | omega | (simp only [List.length_append, List.length_cons, List.length_nil]; omega)) [b_law_workers_f0, startE, seqS, ifS, nxS, retS, retNS, drpS, putS, asgS, setG, getV, op2, op1, opC, consA, cst, cst0, tstB, asB, tru, truD, orT, andT, notT, andE, orE, ifE, chn, isiF, isTy, eqG_ii, eqG_ss, eqG_bb, neG_ii, neG_ss, neG_bb, isNG, notNG, notG, negG, ixG, ixO, lenG, intG, max2G, min2G, mkT, mkL, okD, opX, drpX, putX, retX, mkF, resO, ownS, ocL, ocE, ocD, frzS, borE, borT, borX, flatD, appS, mE, popM, tup2M, rmvS, setS, tupG, consG, nilG, lstN, lstG, itL, itemsL, atI_0, atI_l1, atI_l2, atI_l3, atI_1, atI_2, atI_3, st_wh, st_wf, st_hw, st_hf, st_fw, st_fh, rng1, rng2, whS, forS, prt, add_ii, sub_ii, mod_ii, div_ii, lt_ii, le_ii, gt_ii, ge_ii, c1, c2, e1, e2, e3, e4, cf, hat, hws9, mul_l]
theorem ws_loop (ns : List Int) (most late many first : Int) (rs : List Int) (hm : 1 ≤ most) (hm2 : most ≤ 20) (hl : 1 ≤ late) (hl2 : late ≤ 1001) (hmany : many ≤ 8) (hrs : (rs.length : Int) = many) : ∀ (n : Nat) (ws : List D) (s7 s8 s9 s10 : Sl), WsOk rs ws → ws.length + n = rs.length →
    ∃ (ws' : List D) (t7 t8 t9 t10 : Sl), forL (setG 7) (b_law_workers_f0 sf_law_cell_at sf_law_mixed sf_law_ranks sf_law_plan sf_law_ladder) ((List.range' ws.length n).map fun (j : Nat) => D.int (j : Int)) (wsEnv ns most late many first rs ws s7 s8 s9 s10) = some (.nx (wsEnv ns most late many first rs ws' t7 t8 t9 t10)) ∧ WsOk rs ws' ∧ ws'.length = rs.length
  | 0, ws, s7, s8, s9, s10, I, h => ⟨ws, s7, s8, s9, s10, rfl, I, h⟩
  | n + 1, ws, s7, s8, s9, s10, I, h => by
    obtain ⟨r, w, t8, t9, t10, e, hr, hw⟩ := ws_turn ns most late many first rs ws ws.length s8 s9 s10 hm hm2 hl hl2 (by omega) hmany hrs (by omega)
    have I' : WsOk rs (ws ++ [w]) := ⟨by simp; omega, fun j v hv => by
      by_cases hj : j < ws.length
      · rw [List.getElem?_append_left hj] at hv; exact I.at_ j v hv
      · rw [List.getElem?_append_right (by omega)] at hv
        have hj2 : j - ws.length = 0 := by
          cases hd : j - ws.length with
          | zero => rfl
          | succ m => rw [hd] at hv; simp at hv
        rw [hj2] at hv
        simp at hv
        subst hv
        have : j = ws.length := by omega
        subst this
        exact ⟨r, hr, hw⟩⟩
    obtain ⟨ws2, u7, u8, u9, u10, e2, I2, l2⟩ := ws_loop ns most late many first rs hm hm2 hl hl2 hmany hrs n (ws ++ [w]) (.val (.int (ws.length : Int))) t8 t9 t10 I' (by simp; omega)
    refine ⟨ws2, u7, u8, u9, u10, ?_, I2, l2⟩
    rw [List.range'_succ, List.map_cons]
    have hl' : (ws ++ [w]).length = ws.length + 1 := by simp
    rw [hl'] at e2
    exact (forL_nx rfl e).trans e2
abbrev n_law_workers : Nat := 3
def sf_law_workers (ds : List D) : Option Res := if ds.length = 3 then resO (b_law_workers sf_law_cell_at sf_law_mixed sf_law_ranks sf_law_plan sf_law_ladder (startE ds 11)) else none
theorem m_law_workers (ds : List D) (r : Res) (hl : ds.length = n_law_workers) (hs : sf_law_workers ds = some r) : resO (b_law_workers sf_law_cell_at sf_law_mixed sf_law_ranks sf_law_plan sf_law_ladder (startE ds 11)) = some r := by
  unfold sf_law_workers at hs
  rwa [if_pos hl] at hs
theorem rngD_nat (n : Nat) : rngD 0 n = (List.range' 0 n).map fun (j : Nat) => D.int (j : Int) := by
  unfold rngD
  rw [List.range_eq_range']
  simp
/-- workers as they shall be -/
structure GoodWs (ws : List D) (rs : List Int) : Prop where
  ranks : RanksOk rs
  wok : WsOk rs ws
  len : ws.length = rs.length
  one : 1 ≤ ws.length
  most : ws.length ≤ 8
theorem workers_ok (ns : List Int) (most late : Int) (hm : 1 ≤ most) (hm2 : most ≤ 20) (hl : 1 ≤ late) (hl2 : late ≤ 1001) : ∃ ws rs, sf_law_workers [.scr ns, .int most, .int late] = some (.ok (.lst ws)) ∧ GoodWs ws rs := by
  have c0 := cell_at ns (k := 0) (by omega)
  have c1 := cell_at ns (k := 1) (by omega)
  generalize cell ns 0 = x0 at c0
  generalize cell ns 1 = x1 at c1
  have e1 : sf_law_mixed [.int x1, .int 1] = some (.ok (.int (mix x1 1))) := rfl
  generalize mix x1 1 = y1 at e1
  -- how many
  obtain ⟨many, hmany, h1, h8⟩ : ∃ many : Int, (if x0 / 5 % 8 = 1 then 1 + x0 / 40 % 8 else 1 + x0 % 5) = many ∧ 1 ≤ many ∧ many ≤ 8 := ⟨_, rfl, by split <;> omega, by split <;> omega⟩
  obtain ⟨rs, e2, R, rl⟩ := ranks_ok y1 many (by omega) (by omega)
  -- the ranks as they stand
  obtain ⟨qs, hq, Rq, ql⟩ : ∃ qs : List Int, (if x1 % 3 = 1 then (srt rs).reverse else rs) = qs ∧ RanksOk qs ∧ qs.length = rs.length := by
    refine ⟨_, rfl, ?_, ?_⟩
    · split
      · have hp : (srt rs).reverse.Perm rs := (List.reverse_perm _).trans (srt_perm rs)
        exact ⟨hp.nodup_iff.mpr R.nd, fun r hr => R.num r (hp.mem_iff.mp hr)⟩
      · exact R
    · split
      · rw [List.length_reverse, (srt_perm rs).length_eq]
      · rfl
  have hql : (qs.length : Int) = many := by omega
  obtain ⟨ws, t7, t8, t9, t10, e3, W, wl⟩ := ws_loop ns most late many x1 qs hm hm2 hl hl2 h8 hql qs.length [] .no .no .no .no ⟨by simp, fun j w h => by simp at h⟩ (by simp)
  refine ⟨ws, qs, ?_, Rq, W, wl, by omega, by omega⟩
  have hr : rngD 0 many.toNat = (List.range' 0 qs.length).map fun (j : Nat) => D.int (j : Int) := by rw [rngD_nat, show many.toNat = qs.length by omega]
  have hc : many ≤ 100000 ∧ -100000 ≤ many := by omega
  have h64 : rs.length < 64 := by omega
  simp only [wsEnv, List.length_nil] at e3
  by_cases d1 : x0 / 5 % 8 = 1 <;> by_cases d2 : x1 % 3 = 1 <;> simp only [d1, d2, if_true, if_false] at hmany hq <;> subst hq <;> (try simp only [List.map_reverse, List.length_reverse] at e3 hr) <;>
    simp (disch := first | omega | (simp only [List.length_append, List.length_cons, List.length_nil]; omega)) [sf_law_workers, b_law_workers, startE, seqS, ifS, nxS, retS, retNS, drpS, putS, asgS, setG, getV, op2, op1, opC, consA, cst, cst0, tstB, asB, tru, truD, orT, andT, notT, andE, orE, ifE, chn, isiF, isTy, eqG_ii, eqG_ss, eqG_bb, neG_ii, neG_ss, neG_bb, isNG, notNG, notG, negG, ixG, ixO, lenG, intG, max2G, min2G, mkT, mkL, okD, opX, drpX, putX, retX, mkF, resO, ownS, ocL, ocE, ocD, frzS, borE, borT, borX, flatD, appS, mE, popM, tup2M, rmvS, setS, tupG, consG, nilG, lstN, lstG, itL, itemsL, atI_0, atI_l1, atI_l2, atI_l3, atI_1, atI_2, atI_3, st_wh, st_wf, st_hw, st_hf, st_fw, st_fh, rng1, rng2, whS, forS, prt, add_ii, sub_ii, mod_ii, div_ii, lt_ii, le_ii, gt_ii, ge_ii, c0, c1, e1, hmany, e2, d1, d2, revN, srtN, intsOf_ints, h64, hr, hc, e3]
end LH

namespace LH
open PySem PySem.Spec PyProof.Rows L2 Evl DL

def b_law_tools_f0 : DEnv → Option Out := (seqS (ifS (tstB (op2 eqG (op2 ixG (getV 3) (cst (.int 0))) (cst (.str "hold")))) (appS 2 (mE (op2 ixG (getV 3) (cst (.int 1))))) nxS) (ifS (tstB (op2 eqG (op2 ixG (getV 3) (cst (.int 0))) (cst (.str "free")))) (rmvS 2 (op2 ixG (getV 3) (cst (.int 1)))) nxS))
def b_law_tools : DEnv → Option Out := (seqS (ownS 2 (ocL (cst0 []))) (seqS (forS (itL (slF (getV 0) (fun _ => some none) (prt (getV 1)))) (setG 3) (b_law_tools_f0)) (frzS 2 (retS (getV 2)))))
def b_law_there : DEnv → Option Out := (retS (andE (op2 leG (op2 ixG (op2 ixG (op2 ixG (getV 0) (cst (.int 0))) (getV 1)) (cst (.int 1))) (op2 ixG (getV 0) (cst (.int 1)))) (op2 ltG (op2 ixG (op2 ixG (op2 ixG (getV 0) (cst (.int 2))) (getV 1)) (cst (.int 0))) (opC lenG (consA (op2 ixG (op2 ixG (op2 ixG (getV 0) (cst (.int 0))) (getV 1)) (cst (.int 2))) (cst0 []))))))
def b_law_after_f0 (sf_law_there sf_law_tools : List D → Option Res) : DEnv → Option Out := (ifS (tstB (op2 (inG false) (op2 ixG (getV 2) (cst (.int 1))) (opC (okD sf_law_tools) (consA (op2 ixG (op2 ixG (op2 ixG (getV 0) (cst (.int 0))) (getV 3)) (cst (.int 2))) (consA (op2 ixG (op2 ixG (op2 ixG (getV 0) (cst (.int 2))) (getV 3)) (cst (.int 0))) (cst0 [])))))) (retS (getV 3)) nxS)
def b_law_after (sf_law_there sf_law_tools : List D → Option Res) : DEnv → Option Out := (seqS (ifS (notT (tru (opC (okD sf_law_there) (consA (getV 0) (consA (getV 1) (cst0 [])))))) (retS (cst .non)) nxS) (seqS (putS 2 (op2 ixG (op2 ixG (op2 ixG (op2 ixG (getV 0) (cst (.int 0))) (getV 1)) (cst (.int 2))) (op2 ixG (op2 ixG (op2 ixG (getV 0) (cst (.int 2))) (getV 1)) (cst (.int 0))))) (seqS (ifS (tstB (op2 neG (op2 ixG (getV 2) (cst (.int 0))) (cst (.str "hold")))) (retS (cst .non)) nxS) (seqS (forS (rng1 (consA (opC lenG (consA (op2 ixG (getV 0) (cst (.int 0))) (cst0 []))) (cst0 []))) (setG 3) (b_law_after_f0 sf_law_there sf_law_tools)) (retS (cst .non))))))
def b_law_chain_w0 (sf_law_after : List D → Option Res) : DEnv → Option Out := (seqS (appS 2 (mE (getV 3))) (putS 3 (opC (okD sf_law_after) (consA (getV 0) (consA (getV 3) (cst0 []))))))
def b_law_chain (sf_law_after : List D → Option Res) : DEnv → Option Out := (seqS (ownS 2 (ocL (consA (getV 1) (cst0 [])))) (seqS (putS 3 (opC (okD sf_law_after) (consA (getV 0) (consA (getV 1) (cst0 []))))) (seqS (whS 100000 (andT (tstB (op2 notNG (getV 3) (cst .non))) (tstB (op2 ltG (borE 2 (opC lenG (consA (getV 2) (cst0 [])))) (cst (.int 10))))) (b_law_chain_w0 sf_law_after)) (frzS 2 (retS (getV 2))))))
def b_law_spot_w0 (sf_law_tools : List D → Option Res) : DEnv → Option Out := (putS 4 (op2 addG (getV 4) (cst (.int 1))))
def b_law_spot (sf_law_tools : List D → Option Res) : DEnv → Option Out := (seqS (putS 3 (op2 ixG (getV 0) (cst (.int 2)))) (seqS (putS 4 (op2 modG (getV 1) (op2 addG (opC lenG (consA (getV 3) (cst0 []))) (cst (.int 1))))) (seqS (ownS 5 (lcF (rng1 (consA (opC lenG (consA (getV 3) (cst0 []))) (cst0 []))) (setG 8) (tstB (op2 eqG (op2 ixG (op2 ixG (getV 3) (getV 8)) (cst (.int 0))) (cst (.str "hold")))) (getV 8) [8])) (frzS 5 (seqS (ifS (andT (tstB (op2 eqG (op2 modG (op2 divG (getV 1) (cst (.int 997))) (cst (.int 2))) (cst (.int 1)))) (tstB (op2 neG (getV 5) (opC mkL (cst0 []))))) (putS 4 (op2 ixG (getV 5) (op1 negG (cst (.int 1))))) nxS) (seqS (whS 100000 (andT (tstB (op2 ltG (getV 4) (opC lenG (consA (getV 3) (cst0 []))))) (tstB (op2 eqG (op2 ixG (op2 ixG (getV 3) (getV 4)) (cst (.int 0))) (cst (.str "free"))))) (b_law_spot_w0 sf_law_tools)) (seqS (putS 6 (opC (okD sf_law_tools) (consA (getV 3) (consA (getV 4) (cst0 []))))) (seqS (ifS (tstB (op2 neG (ocE (lcF (itL (getV 6)) (setG 9) (borT 2 (tstB (op2 (inG false) (getV 9) (getV 2)))) (getV 9) [9])) (opC mkL (cst0 [])))) (retS (opC mkT (consA (cst (.int 0)) (consA (cst (.int 0)) (cst0 []))))) nxS) (seqS (putS 7 (cst (.int 0))) (seqS (ifS (andT (tstB (op2 ltG (getV 4) (opC lenG (consA (getV 3) (cst0 []))))) (tstB (op2 eqG (op2 ixG (op2 ixG (getV 3) (getV 4)) (cst (.int 0))) (cst (.str "work"))))) (putS 7 (op2 modG (op2 divG (getV 1) (cst (.int 41))) (op2 ixG (op2 ixG (getV 3) (getV 4)) (cst (.int 1))))) nxS) (seqS (extS 2 (getV 6)) (retS (opC mkT (consA (getV 4) (consA (getV 7) (cst0 []))))))))))))))))
def b_law_shop_f0 (sf_law_workers : List D → Option Res) (sf_law_cell_at : List D → Option Res) (sf_law_mixed : List D → Option Res) (sf_law_spot : List D → List D → Option (D × List D)) : DEnv → Option Out := (seqS (putS 7 (opC mkT (consA (cst (.int 0)) (consA (cst (.int 0)) (cst0 []))))) (seqS (ifS (tstB (op2 leG (op2 ixG (op2 ixG (getV 2) (getV 6)) (cst (.int 1))) (getV 3))) (putM 7 (callM 5 sf_law_spot (consA (op2 ixG (getV 2) (getV 6)) (consA (opC (okD sf_law_mixed) (consA (opC (okD sf_law_cell_at) (consA (getV 0) (consA (op2 addG (cst (.int 19)) (getV 6)) (cst0 [])))) (consA (op2 addG (cst (.int 20)) (getV 6)) (cst0 [])))) (cst0 []))))) nxS) (appS 4 (mE (getV 7)))))
def b_law_shop (sf_law_workers : List D → Option Res) (sf_law_cell_at : List D → Option Res) (sf_law_mixed : List D → Option Res) (sf_law_spot : List D → List D → Option (D × List D)) : DEnv → Option Out := (seqS (putS 2 (opC (okD sf_law_workers) (consA (getV 0) (consA (getV 1) (consA (cst (.int 9)) (cst0 [])))))) (seqS (putS 3 (op2 modG (opC (okD sf_law_cell_at) (consA (getV 0) (consA (cst (.int 18)) (cst0 [])))) (cst (.int 12)))) (seqS (ownS 4 (ocL (cst0 []))) (seqS (ownS 5 (ocL (cst0 []))) (seqS (forS (rng1 (consA (opC lenG (consA (getV 2) (cst0 []))) (cst0 []))) (setG 6) (b_law_shop_f0 sf_law_workers sf_law_cell_at sf_law_mixed sf_law_spot)) (frzS 4 (retS (opC mkT (consA (getV 2) (consA (getV 3) (consA (getV 4) (cst0 []))))))))))))
end LH

namespace LH
open PySem PySem.Spec PyProof.Rows L2 Evl DL

/-! ### the shop, as plain data -/
inductive Stp where
  | work (n : Int)
  | hold (t : Int)
  | free (t : Int)
def Stp.d : Stp → D
  | .work n => .tup [.str "work", .int n]
  | .hold t => .tup [.str "hold", .int t]
  | .free t => .tup [.str "free", .int t]
abbrev planD (p : List Stp) : D := .lst (p.map Stp.d)
/-- what is held behind these steps; none: not a plan's beginning -/
def runS (acc : List Int) : List Stp → Option (List Int)
  | [] => some acc
  | .work n :: r => if 1 ≤ n ∧ n ≤ 100 then runS acc r else none
  | .hold t :: r => if 0 ≤ t ∧ t ≤ 9 ∧ ∀ x ∈ acc, x < t then runS (acc ++ [t]) r else none
  | .free t :: r => if t ∈ acc then runS (acc.erase t) r else none
theorem runS_append : ∀ (xs ys : List Stp) (acc : List Int), runS acc (xs ++ ys) = (runS acc xs).bind fun a => runS a ys
  | [], _, _ => rfl
  | .work n :: xs, ys, acc => by
    simp only [List.cons_append, runS]; split
    · exact runS_append xs ys _
    · rfl
  | .hold t :: xs, ys, acc => by
    simp only [List.cons_append, runS]; split
    · exact runS_append xs ys _
    · rfl
  | .free t :: xs, ys, acc => by
    simp only [List.cons_append, runS]; split
    · exact runS_append xs ys _
    · rfl
theorem idxOf_erase : ∀ {l : List Int} {t : Int}, t ∈ l → ∃ j, idxOf? t l = some j ∧ l.eraseIdx j = l.erase t
  | a :: l, t, h => by
    unfold idxOf?
    by_cases e : a = t
    · subst e
      exact ⟨0, by simp, by simp⟩
    · rcases List.mem_cons.mp h with z | h
      · exact absurd z.symm e
      · obtain ⟨j, h1, h2⟩ := idxOf_erase h
        refine ⟨j + 1, by rw [if_neg e, h1]; rfl, ?_⟩
        rw [List.erase_cons_tail (by simpa using e), ← h2]
        rfl
/-- what is held stands upwards, from 0 to 9 -/
structure ToolsOk (t : List Int) : Prop where
  up : t.Pairwise (· < ·)
  num : ∀ x ∈ t, 0 ≤ x ∧ x ≤ 9
theorem toolsOk0 : ToolsOk [] := ⟨.nil, fun _ h => by cases h⟩
theorem ToolsOk.nodup {t : List Int} (h : ToolsOk t) : t.Nodup := h.up.imp fun h => by omega
theorem runS_ok : ∀ (xs : List Stp) {acc t : List Int}, ToolsOk acc → runS acc xs = some t → ToolsOk t
  | [], _, _, h, e => by cases e; exact h
  | .work n :: xs, _, _, h, e => by
    simp only [runS] at e; split at e
    · exact runS_ok xs h e
    · cases e
  | .hold k :: xs, acc, _, h, e => by
    simp only [runS] at e; split at e
    · rename_i hk
      refine runS_ok xs ⟨?_, fun x hx => ?_⟩ e
      · rw [List.pairwise_append]
        exact ⟨h.up, by simp, fun a ha b hb => by simp at hb; subst hb; exact hk.2.2 a ha⟩
      · rcases List.mem_append.mp hx with hx | hx
        · exact h.num x hx
        · simp at hx; subst hx; exact ⟨hk.1, hk.2.1⟩
    · cases e
  | .free k :: xs, acc, _, h, e => by
    simp only [runS] at e; split at e
    · exact runS_ok xs ⟨h.up.sublist List.erase_sublist, fun x hx => h.num x (List.erase_sublist.subset hx)⟩ e
    · cases e
/-- the program's own way to see what is held -/
theorem heldA_run : ∀ (xs : List Stp) (acc t : List Int), acc.length + xs.length ≤ 90000 → runS acc xs = some t → heldA acc (xs.map Stp.d) = some t
  | [], _, _, _, e => e
  | .work n :: xs, acc, t, hl, e => by
    simp only [runS] at e; split at e
    · simp only [List.map_cons, Stp.d, heldA, if_neg st_wh, if_neg st_wf]
      exact heldA_run xs acc t (by simp at hl; omega) e
    · cases e
  | .hold k :: xs, acc, t, hl, e => by
    simp only [runS] at e; split at e
    · simp only [List.map_cons, Stp.d, heldA, if_pos, if_pos (show acc.length ≤ 90000 by omega)]
      exact heldA_run xs _ t (by simp at hl ⊢; omega) e
    · cases e
  | .free k :: xs, acc, t, hl, e => by
    simp only [runS] at e; split at e
    · rename_i hk
      obtain ⟨j, h1, h2⟩ := idxOf_erase hk
      simp only [List.map_cons, Stp.d, heldA, if_neg st_fh, if_pos, h1, h2]
      have := List.length_erase_of_mem hk
      exact heldA_run xs _ t (by simp at hl ⊢; omega) e
    · cases e
/-- a plan as it shall be -/
def GoodP (p : List Stp) : Prop := p ≠ [] ∧ runS [] p = some []
theorem isStep_stp {d : D} (h : isStep d = true) : ∃ s : Stp, d = s.d := by
  unfold isStep at h
  split at h
  · rename_i w n
    have num : ∀ lo hi, isNum n lo hi = true → ∃ k, n = .int k := fun lo hi e => by
      cases n with
      | int k => exact ⟨k, rfl⟩
      | _ => cases e
    split at h
    · rename_i hw
      subst hw
      obtain ⟨k, rfl⟩ := num _ _ h
      exact ⟨.work k, rfl⟩
    · split at h
      · rename_i hw
        obtain ⟨k, rfl⟩ := num _ _ h
        rcases hw with rfl | rfl
        · exact ⟨.hold k, rfl⟩
        · exact ⟨.free k, rfl⟩
      · cases h
  · cases h
theorem steps_stp : ∀ {ds : List D}, ds.all isStep = true → ∃ p : List Stp, ds = p.map Stp.d
  | [], _ => ⟨[], rfl⟩
  | d :: ds, h => by
    rw [List.all_cons, Bool.and_eq_true] at h
    obtain ⟨s, rfl⟩ := isStep_stp h.1
    obtain ⟨p, rfl⟩ := steps_stp h.2
    exact ⟨s :: p, rfl⟩
theorem lowH_all {k : Int} {t : List Int} : lowH k t = false ↔ ∀ x ∈ t, x < k := by
  refine ⟨fun h x hx => ?_, lowH_no⟩
  cases t with
  | nil => cases hx
  | cons a r =>
    unfold lowH at h
    have h' : maxI a r < k := by simpa using h
    have := maxI_ge r a
    rcases List.mem_cons.mp hx with rfl | hx
    · omega
    · have := this.2 x hx; omega
theorem hrL_run : ∀ (p : List Stp) (acc : List Int), (p.map Stp.d).all isStep = true → hrL acc (p.map Stp.d) = some true → runS acc p = some []
  | [], acc, _, h => by
    simp only [List.map_nil, hrL, Option.some.injEq, List.isEmpty_iff] at h
    subst h; rfl
  | .work n :: p, acc, hs, h => by
    rw [List.map_cons, List.all_cons, Bool.and_eq_true] at hs
    simp only [List.map_cons, Stp.d, hrL, if_neg st_wh, if_neg st_wf] at h
    have h1 := hs.1
    simp [Stp.d, isStep, isNum] at h1
    simp only [runS, if_pos h1]
    exact hrL_run p acc hs.2 h
  | .hold k :: p, acc, hs, h => by
    rw [List.map_cons, List.all_cons, Bool.and_eq_true] at hs
    simp only [List.map_cons, Stp.d, hrL, if_true] at h
    have h1 := hs.1
    simp [Stp.d, isStep, isNum, st_hw] at h1
    cases hl : lowH k acc with
    | true => rw [hl] at h; simp at h
    | false =>
      rw [hl] at h
      simp only [Bool.false_eq_true, if_false] at h
      simp only [runS, if_pos (show 0 ≤ k ∧ k ≤ 9 ∧ ∀ x ∈ acc, x < k from ⟨h1.1, h1.2, lowH_all.mp hl⟩)]
      exact hrL_run p _ hs.2 h
  | .free k :: p, acc, hs, h => by
    rw [List.map_cons, List.all_cons, Bool.and_eq_true] at hs
    simp only [List.map_cons, Stp.d, hrL, if_neg st_fh, if_true] at h
    by_cases hk : k ∈ acc
    · obtain ⟨j, h1, h2⟩ := idxOf_erase hk
      rw [h1] at h
      simp only [h2] at h
      simp only [runS, if_pos hk]
      exact hrL_run p _ hs.2 h
    · have := idxOf_none.mpr (show acc.contains k = false by simpa using hk)
      rw [this] at h
      simp at h
theorem goodP_of {ds : List D} (h : GoodPlan ds) : ∃ p, ds = p.map Stp.d ∧ GoodP p := by
  obtain ⟨p, rfl⟩ := steps_stp h.1
  refine ⟨p, rfl, ?_, hrL_run p [] h.1 h.2.1⟩
  intro e
  have := h.2.2
  rw [e] at this
  simp at this
structure Wkr where
  rank : Int
  start : Int
  plan : List Stp
abbrev Wkr.d (w : Wkr) : D := .tup [.int w.rank, .int w.start, planD w.plan]
structure GoodW1 (w : Wkr) : Prop where
  rank : 1 ≤ w.rank ∧ w.rank ≤ 1000000
  start : 0 ≤ w.start ∧ w.start ≤ 1000
  plan : GoodP w.plan
  short : w.plan.length ≤ 40
structure GoodL (ws : List Wkr) : Prop where
  all : ∀ w ∈ ws, GoodW1 w
  ranks : (ws.map Wkr.rank).Nodup
  one : 1 ≤ ws.length
  most : ws.length ≤ 8
theorem goodL_of {ds : List D} {rs : List Int} (h : GoodWs ds rs) : ∃ ws : List Wkr, ds = ws.map Wkr.d ∧ GoodL ws ∧ ws.map Wkr.rank = rs := by
  have key : ∀ (n : Nat), n ≤ ds.length → ∃ ws : List Wkr, ds.take n = ws.map Wkr.d ∧ (∀ w ∈ ws, GoodW1 w) ∧ ws.map Wkr.rank = rs.take n := by
    intro n
    induction n with
    | zero => intro _; exact ⟨[], rfl, (fun _ h => nomatch h), rfl⟩
    | succ n ih =>
      intro hn
      obtain ⟨ws, h1, h2, h3⟩ := ih (by omega)
      have hd : ds[n]? = some ds[n] := List.getElem?_eq_getElem (by omega)
      obtain ⟨r, hr, s, p, hw, s0, s1, hp, hpl⟩ := h.wok.at_ n _ hd
      obtain ⟨pl, rfl, gp⟩ := goodP_of hp
      have hrm := h.ranks.num r (List.mem_of_getElem? hr)
      refine ⟨ws ++ [⟨r, s, pl⟩], ?_, fun w hw2 => ?_, ?_⟩
      · rw [List.take_succ, hd, h1, hw]; simp
      · rcases List.mem_append.mp hw2 with hw2 | hw2
        · exact h2 w hw2
        · simp at hw2; subst hw2
          exact ⟨hrm, ⟨s0, s1⟩, gp, by simpa using hpl⟩
      · rw [List.take_succ, hr, List.map_append, h3]; simp
  obtain ⟨ws, h1, h2, h3⟩ := key ds.length (Nat.le_refl _)
  rw [List.take_length] at h1
  have hl := h.len
  rw [show rs.take ds.length = rs by rw [hl, List.take_length]] at h3
  have hlen : ws.length = ds.length := by rw [h1]; simp
  exact ⟨ws, h1, ⟨h2, by rw [h3]; exact h.ranks.nd, by rw [hlen]; exact h.one, by rw [hlen]; exact h.most⟩, h3⟩
end LH

namespace LH
open PySem PySem.Spec PyProof.Rows L2 Evl DL

/-! ### a shop, as plain data -/
abbrev Spot := Nat × Int
abbrev spotD (s : Spot) : D := .tup [.int (s.1 : Int), .int s.2]
structure Shp where
  ws : List Wkr
  now : Int
  spots : List Spot
abbrev Shp.d (s : Shp) : D := .tup [.lst (s.ws.map Wkr.d), .int s.now, .lst (s.spots.map spotD)]
/-- what a worker at the place p of its plan holds -/
def toolsAt (plan : List Stp) (p : Nat) : List Int := (runS [] (plan.take p)).getD []
structure SpotOk (w : Wkr) (now : Int) (sp : Spot) : Prop where
  place : sp.1 ≤ w.plan.length
  nofree : ∀ t, w.plan[sp.1]? ≠ some (.free t)
  gone : 0 ≤ sp.2
  work : ∀ n, w.plan[sp.1]? = some (.work n) → sp.2 < n
  other : (∀ n, w.plan[sp.1]? ≠ some (.work n)) → sp.2 = 0
  early : now < w.start → sp.1 = 0 ∧ sp.2 = 0
structure GoodShp (s : Shp) : Prop where
  ws : GoodL s.ws
  now : 0 ≤ s.now
  len : s.spots.length = s.ws.length
  spot : ∀ (k : Nat) w sp, s.ws[k]? = some w → s.spots[k]? = some sp → SpotOk w s.now sp
  apart : ∀ (i j : Nat) w v sp sq t, i ≠ j → s.ws[i]? = some w → s.ws[j]? = some v → s.spots[i]? = some sp → s.spots[j]? = some sq → t ∈ toolsAt w.plan sp.1 → t ∉ toolsAt v.plan sq.1
theorem toolsAt_run {plan : List Stp} (h : GoodP plan) (p : Nat) : runS [] (plan.take p) = some (toolsAt plan p) := by
  have := h.2
  rw [← List.take_append_drop p plan, runS_append] at this
  obtain ⟨a, ha, _⟩ := Option.bind_eq_some_iff.mp this
  unfold toolsAt
  rw [ha]; rfl
theorem toolsAt_ok {plan : List Stp} (h : GoodP plan) (p : Nat) : ToolsOk (toolsAt plan p) := runS_ok _ toolsOk0 (toolsAt_run h p)
theorem toolsAt_rest {plan : List Stp} (h : GoodP plan) (p : Nat) : runS (toolsAt plan p) (plan.drop p) = some [] := by
  have := h.2
  rw [← List.take_append_drop p plan, runS_append, toolsAt_run h p] at this
  exact this
/-! ### readings of the parts -/
def spotAt (s : Shp) (k : Nat) : Spot := s.spots.getD k (0, 0)
def wAt (s : Shp) (k : Nat) : Wkr := s.ws.getD k ⟨0, 0, []⟩
theorem GoodShp.at_ {s : Shp} (g : GoodShp s) {k : Nat} (hk : k < s.ws.length) : s.ws[k]? = some (wAt s k) ∧ s.spots[k]? = some (spotAt s k) ∧ GoodW1 (wAt s k) ∧ SpotOk (wAt s k) s.now (spotAt s k) := by
  have h1 : s.ws[k]? = some (wAt s k) := by
    unfold wAt
    rw [List.getD_eq_getElem?_getD, List.getElem?_eq_getElem hk]; rfl
  have h2 : s.spots[k]? = some (spotAt s k) := by
    unfold spotAt
    rw [List.getD_eq_getElem?_getD, List.getElem?_eq_getElem (by rw [g.len]; exact hk)]; rfl
  exact ⟨h1, h2, g.ws.all _ (List.mem_of_getElem? h1), g.spot k _ _ h1 h2⟩
theorem atI_map {α : Type} (f : α → D) {l : List α} {k : Nat} {x : α} (h : l[k]? = some x) : atI (l.map f) (k : Int) = some (f x) := by
  rw [DL.atI_nat, List.getElem?_map, h]; rfl

/-! ### _law_tools -/
abbrev n_law_tools : Nat := 2
def sf_law_tools (ds : List D) : Option Res := if ds.length = 2 then resO (b_law_tools (startE ds 4)) else none
theorem m_law_tools (ds : List D) (r : Res) (hl : ds.length = n_law_tools) (hs : sf_law_tools ds = some r) : resO (b_law_tools (startE ds 4)) = some r := by
  unfold sf_law_tools at hs
  rwa [if_pos hl] at hs
theorem tools_loop (a0 a1 : Sl) : ∀ (xs : List Stp) (acc t : List Int) (s3 : Sl), acc.length + xs.length ≤ 1000 → runS acc xs = some t → ∃ t3, forL (setG 3) b_law_tools_f0 (xs.map Stp.d) [a0, a1, .own none (.l (acc.map .int)), s3] = some (.nx [a0, a1, .own none (.l (t.map .int)), t3])
  | [], acc, t, s3, hl, e => by cases e; exact ⟨s3, rfl⟩
  | .work n :: xs, acc, t, s3, hl, e => by
    simp only [runS] at e; split at e
    · obtain ⟨t3, h⟩ := tools_loop a0 a1 xs acc t (.val (Stp.work n).d) (by simp at hl; omega) e
      refine ⟨t3, (forL_nx rfl ?_).trans h⟩
      simp [b_law_tools_f0, startE, seqS, ifS, nxS, retS, retNS, drpS, putS, asgS, setG, getV, op2, op1, opC, consA, cst, cst0, tstB, asB, tru, truD, orT, andT, notT, andE, orE, ifE, chn, isiF, isTy, eqG_ii, eqG_ss, eqG_bb, neG_ii, neG_ss, neG_bb, isNG, notNG, notG, negG, ixG, ixO, lenG, intG, max2G, min2G, mkT, mkL, okD, opX, drpX, putX, retX, mkF, resO, ownS, ocL, ocE, ocD, frzS, borE, borT, borX, flatD, appS, mE, popM, tup2M, rmvS, setS, tupG, consG, nilG, lstN, lstG, itL, itemsL, atI_0, atI_l1, atI_l2, atI_l3, atI_1, atI_2, atI_3, st_wh, st_wf, st_hw, st_hf, st_fw, st_fh, rng1, rng2, whS, forS, prt, add_ii, sub_ii, mod_ii, div_ii, lt_ii, le_ii, gt_ii, ge_ii, Stp.d]
    · cases e
  | .hold k :: xs, acc, t, s3, hl, e => by
    simp only [runS] at e; split at e
    · obtain ⟨t3, h⟩ := tools_loop a0 a1 xs (acc ++ [k]) t (.val (Stp.hold k).d) (by simp at hl ⊢; omega) e
      refine ⟨t3, (forL_nx rfl ?_).trans h⟩
      have : acc.length ≤ 90000 := by omega
      simp [b_law_tools_f0, startE, seqS, ifS, nxS, retS, retNS, drpS, putS, asgS, setG, getV, op2, op1, opC, consA, cst, cst0, tstB, asB, tru, truD, orT, andT, notT, andE, orE, ifE, chn, isiF, isTy, eqG_ii, eqG_ss, eqG_bb, neG_ii, neG_ss, neG_bb, isNG, notNG, notG, negG, ixG, ixO, lenG, intG, max2G, min2G, mkT, mkL, okD, opX, drpX, putX, retX, mkF, resO, ownS, ocL, ocE, ocD, frzS, borE, borT, borX, flatD, appS, mE, popM, tup2M, rmvS, setS, tupG, consG, nilG, lstN, lstG, itL, itemsL, atI_0, atI_l1, atI_l2, atI_l3, atI_1, atI_2, atI_3, st_wh, st_wf, st_hw, st_hf, st_fw, st_fh, rng1, rng2, whS, forS, prt, add_ii, sub_ii, mod_ii, div_ii, lt_ii, le_ii, gt_ii, ge_ii, Stp.d, this]
    · cases e
  | .free k :: xs, acc, t, s3, hl, e => by
    simp only [runS] at e; split at e
    · rename_i hk
      obtain ⟨j, h1, h2⟩ := idxOf_erase hk
      obtain ⟨t3, h⟩ := tools_loop a0 a1 xs (acc.erase k) t (.val (Stp.free k).d) (by have := List.length_erase_of_mem hk; simp at hl; omega) e
      refine ⟨t3, (forL_nx rfl ?_).trans h⟩
      simp [b_law_tools_f0, startE, seqS, ifS, nxS, retS, retNS, drpS, putS, asgS, setG, getV, op2, op1, opC, consA, cst, cst0, tstB, asB, tru, truD, orT, andT, notT, andE, orE, ifE, chn, isiF, isTy, eqG_ii, eqG_ss, eqG_bb, neG_ii, neG_ss, neG_bb, isNG, notNG, notG, negG, ixG, ixO, lenG, intG, max2G, min2G, mkT, mkL, okD, opX, drpX, putX, retX, mkF, resO, ownS, ocL, ocE, ocD, frzS, borE, borT, borX, flatD, appS, mE, popM, tup2M, rmvS, setS, tupG, consG, nilG, lstN, lstG, itL, itemsL, atI_0, atI_l1, atI_l2, atI_l3, atI_1, atI_2, atI_3, st_wh, st_wf, st_hw, st_hf, st_fw, st_fh, rng1, rng2, whS, forS, prt, add_ii, sub_ii, mod_ii, div_ii, lt_ii, le_ii, gt_ii, ge_ii, Stp.d, intsOf_ints, h1, h2]
    · cases e
theorem tools_eq {plan : List Stp} (g : GoodP plan) (hl : plan.length ≤ 40) (p : Nat) (hp : p ≤ plan.length) : sf_law_tools [planD plan, .int (p : Int)] = some (.ok (.lst ((toolsAt plan p).map .int))) := by
  obtain ⟨t3, e⟩ := tools_loop (.val (planD plan)) (.val (.int (p : Int))) (plan.take p) [] (toolsAt plan p) .no (by simp; omega) (toolsAt_run g p)
  have hcut : DL.cutD (plan.map Stp.d) none (some (p : Int)) = (plan.map Stp.d).take p := cut_take _ _ (by simpa using hp)
  simp only [List.map_nil, List.map_take] at e
  simp [sf_law_tools, b_law_tools, startE, seqS, ifS, nxS, retS, retNS, drpS, putS, asgS, setG, getV, op2, op1, opC, consA, cst, cst0, tstB, asB, tru, truD, orT, andT, notT, andE, orE, ifE, chn, isiF, isTy, eqG_ii, eqG_ss, eqG_bb, neG_ii, neG_ss, neG_bb, isNG, notNG, notG, negG, ixG, ixO, lenG, intG, max2G, min2G, mkT, mkL, okD, opX, drpX, putX, retX, mkF, resO, ownS, ocL, ocE, ocD, frzS, borE, borT, borX, flatD, appS, mE, popM, tup2M, rmvS, setS, tupG, consG, nilG, lstN, lstG, itL, itemsL, atI_0, atI_l1, atI_l2, atI_l3, atI_1, atI_2, atI_3, st_wh, st_wf, st_hw, st_hf, st_fw, st_fh, rng1, rng2, whS, forS, prt, add_ii, sub_ii, mod_ii, div_ii, lt_ii, le_ii, gt_ii, ge_ii, slF, slG, hcut, e]

/-! ### _law_there -/
def thereB (s : Shp) (k : Nat) : Bool := decide ((wAt s k).start ≤ s.now) && decide ((spotAt s k).1 < (wAt s k).plan.length)
abbrev n_law_there : Nat := 2
def sf_law_there (ds : List D) : Option Res := if ds.length = 2 then resO (b_law_there (startE ds 2)) else none
theorem m_law_there (ds : List D) (r : Res) (hl : ds.length = n_law_there) (hs : sf_law_there ds = some r) : resO (b_law_there (startE ds 2)) = some r := by
  unfold sf_law_there at hs
  rwa [if_pos hl] at hs
theorem there_eq {s : Shp} (g : GoodShp s) {k : Nat} (hk : k < s.ws.length) : sf_law_there [s.d, .int (k : Int)] = some (.ok (.bl (thereB s k))) := by
  obtain ⟨h1, h2, _, _⟩ := g.at_ hk
  have e1 := atI_map Wkr.d h1
  have e2 := atI_map spotD h2
  unfold thereB
  by_cases c1 : (wAt s k).start ≤ s.now
  · simp [sf_law_there, b_law_there, startE, seqS, ifS, nxS, retS, retNS, drpS, putS, asgS, setG, getV, op2, op1, opC, consA, cst, cst0, tstB, asB, tru, truD, orT, andT, notT, andE, orE, ifE, chn, isiF, isTy, eqG_ii, eqG_ss, eqG_bb, neG_ii, neG_ss, neG_bb, isNG, notNG, notG, negG, ixG, ixO, lenG, intG, max2G, min2G, mkT, mkL, okD, opX, drpX, putX, retX, mkF, resO, ownS, ocL, ocE, ocD, frzS, borE, borT, borX, flatD, appS, mE, popM, tup2M, rmvS, setS, tupG, consG, nilG, lstN, lstG, itL, itemsL, atI_0, atI_l1, atI_l2, atI_l3, atI_1, atI_2, atI_3, st_wh, st_wf, st_hw, st_hf, st_fw, st_fh, rng1, rng2, whS, forS, prt, add_ii, sub_ii, mod_ii, div_ii, lt_ii, le_ii, gt_ii, ge_ii, e1, e2, c1]
  · simp [sf_law_there, b_law_there, startE, seqS, ifS, nxS, retS, retNS, drpS, putS, asgS, setG, getV, op2, op1, opC, consA, cst, cst0, tstB, asB, tru, truD, orT, andT, notT, andE, orE, ifE, chn, isiF, isTy, eqG_ii, eqG_ss, eqG_bb, neG_ii, neG_ss, neG_bb, isNG, notNG, notG, negG, ixG, ixO, lenG, intG, max2G, min2G, mkT, mkL, okD, opX, drpX, putX, retX, mkF, resO, ownS, ocL, ocE, ocD, frzS, borE, borT, borX, flatD, appS, mE, popM, tup2M, rmvS, setS, tupG, consG, nilG, lstN, lstG, itL, itemsL, atI_0, atI_l1, atI_l2, atI_l3, atI_1, atI_2, atI_3, st_wh, st_wf, st_hw, st_hf, st_fw, st_fh, rng1, rng2, whS, forS, prt, add_ii, sub_ii, mod_ii, div_ii, lt_ii, le_ii, gt_ii, ge_ii, e1, e2, c1]
end LH

namespace LH
open PySem PySem.Spec PyProof.Rows L2 Evl DL

/-! ### _law_after -/
def hasB (s : Shp) (t : Int) (j : Nat) : Bool := (toolsAt (wAt s j).plan (spotAt s j).1).contains t
def holderM (s : Shp) (t : Int) : Option Nat := (List.range s.ws.length).find? (hasB s t)
def afterM (s : Shp) (k : Nat) : Option Nat := if thereB s k then (match (wAt s k).plan[(spotAt s k).1]? with
    | some (.hold t) => holderM s t
    | _ => none) else none
def optD : Option Nat → D
  | none => .non
  | some j => .int (j : Int)
abbrev n_law_after : Nat := 2
def sf_law_after (ds : List D) : Option Res := if ds.length = 2 then resO (b_law_after sf_law_there sf_law_tools (startE ds 4)) else none
theorem m_law_after (ds : List D) (r : Res) (hl : ds.length = n_law_after) (hs : sf_law_after ds = some r) : resO (b_law_after sf_law_there sf_law_tools (startE ds 4)) = some r := by
  unfold sf_law_after at hs
  rwa [if_pos hl] at hs
theorem after_loop {s : Shp} (g : GoodShp s) (k : Int) (t : Int) : ∀ (js : List Nat) (s3 : Sl), (∀ j ∈ js, j < s.ws.length) →
    match js.find? (hasB s t) with
    | some j => ∃ e, forL (setG 3) (b_law_after_f0 sf_law_there sf_law_tools) (js.map fun (j : Nat) => D.int (j : Int)) [.val s.d, .val (.int k), .val (Stp.hold t).d, s3] = some (.rt (.int (j : Int)) e)
    | none => ∃ t3, forL (setG 3) (b_law_after_f0 sf_law_there sf_law_tools) (js.map fun (j : Nat) => D.int (j : Int)) [.val s.d, .val (.int k), .val (Stp.hold t).d, s3] = some (.nx [.val s.d, .val (.int k), .val (Stp.hold t).d, t3])
  | [], s3, _ => ⟨s3, rfl⟩
  | j :: js, s3, h => by
    have hj := h j (by simp)
    obtain ⟨h1, h2, gw, sp⟩ := g.at_ hj
    have e1 := atI_map Wkr.d h1
    have e2 := atI_map spotD h2
    have e3 := tools_eq gw.plan gw.short (spotAt s j).1 sp.place
    have e4 : inG false (.int t) (.lst ((toolsAt (wAt s j).plan (spotAt s j).1).map .int)) = some (.bl (hasB s t j)) := by rw [inG_ints]; rfl
    rw [List.find?_cons]
    cases hb : hasB s t j with
    | true =>
      rw [hb] at e4
      refine ⟨[.val s.d, .val (.int k), .val (Stp.hold t).d, .val (.int (j : Int))], forL_rt rfl ?_⟩
      simp [b_law_after_f0, startE, seqS, ifS, nxS, retS, retNS, drpS, putS, asgS, setG, getV, op2, op1, opC, consA, cst, cst0, tstB, asB, tru, truD, orT, andT, notT, andE, orE, ifE, chn, isiF, isTy, eqG_ii, eqG_ss, eqG_bb, neG_ii, neG_ss, neG_bb, isNG, notNG, notG, negG, ixG, ixO, lenG, intG, max2G, min2G, mkT, mkL, okD, opX, drpX, putX, retX, mkF, resO, ownS, ocL, ocE, ocD, frzS, borE, borT, borX, flatD, appS, mE, popM, tup2M, rmvS, setS, tupG, consG, nilG, lstN, lstG, itL, itemsL, atI_0, atI_l1, atI_l2, atI_l3, atI_1, atI_2, atI_3, st_wh, st_wf, st_hw, st_hf, st_fw, st_fh, rng1, rng2, whS, forS, prt, add_ii, sub_ii, mod_ii, div_ii, lt_ii, le_ii, gt_ii, ge_ii, Stp.d, e1, e2, e3, e4]
    | false =>
      rw [hb] at e4
      have ih := after_loop g k t js (.val (.int (j : Int))) fun i hi => h i (by simp [hi])
      have step : forL (setG 3) (b_law_after_f0 sf_law_there sf_law_tools) ((j :: js).map fun (j : Nat) => D.int (j : Int)) [.val s.d, .val (.int k), .val (Stp.hold t).d, s3] = forL (setG 3) (b_law_after_f0 sf_law_there sf_law_tools) (js.map fun (j : Nat) => D.int (j : Int)) [.val s.d, .val (.int k), .val (Stp.hold t).d, .val (.int (j : Int))] := by
        rw [List.map_cons]
        refine forL_nx rfl ?_
        simp [b_law_after_f0, startE, seqS, ifS, nxS, retS, retNS, drpS, putS, asgS, setG, getV, op2, op1, opC, consA, cst, cst0, tstB, asB, tru, truD, orT, andT, notT, andE, orE, ifE, chn, isiF, isTy, eqG_ii, eqG_ss, eqG_bb, neG_ii, neG_ss, neG_bb, isNG, notNG, notG, negG, ixG, ixO, lenG, intG, max2G, min2G, mkT, mkL, okD, opX, drpX, putX, retX, mkF, resO, ownS, ocL, ocE, ocD, frzS, borE, borT, borX, flatD, appS, mE, popM, tup2M, rmvS, setS, tupG, consG, nilG, lstN, lstG, itL, itemsL, atI_0, atI_l1, atI_l2, atI_l3, atI_1, atI_2, atI_3, st_wh, st_wf, st_hw, st_hf, st_fw, st_fh, rng1, rng2, whS, forS, prt, add_ii, sub_ii, mod_ii, div_ii, lt_ii, le_ii, gt_ii, ge_ii, Stp.d, e1, e2, e3, e4]
      simp only
      cases hf : js.find? (hasB s t) with
      | some i =>
        rw [hf] at ih
        obtain ⟨e, he⟩ := ih
        exact ⟨e, step.trans he⟩
      | none =>
        rw [hf] at ih
        obtain ⟨t3, he⟩ := ih
        exact ⟨t3, step.trans he⟩
theorem after_eq {s : Shp} (g : GoodShp s) {k : Nat} (hk : k < s.ws.length) : sf_law_after [s.d, .int (k : Int)] = some (.ok (optD (afterM s k))) := by
  obtain ⟨h1, h2, gw, sp⟩ := g.at_ hk
  have e1 := atI_map Wkr.d h1
  have e2 := atI_map spotD h2
  have e0 := there_eq g hk
  unfold afterM
  cases ht : thereB s k with
  | false =>
    rw [ht] at e0
    simp [sf_law_after, b_law_after, startE, seqS, ifS, nxS, retS, retNS, drpS, putS, asgS, setG, getV, op2, op1, opC, consA, cst, cst0, tstB, asB, tru, truD, orT, andT, notT, andE, orE, ifE, chn, isiF, isTy, eqG_ii, eqG_ss, eqG_bb, neG_ii, neG_ss, neG_bb, isNG, notNG, notG, negG, ixG, ixO, lenG, intG, max2G, min2G, mkT, mkL, okD, opX, drpX, putX, retX, mkF, resO, ownS, ocL, ocE, ocD, frzS, borE, borT, borX, flatD, appS, mE, popM, tup2M, rmvS, setS, tupG, consG, nilG, lstN, lstG, itL, itemsL, atI_0, atI_l1, atI_l2, atI_l3, atI_1, atI_2, atI_3, st_wh, st_wf, st_hw, st_hf, st_fw, st_fh, rng1, rng2, whS, forS, prt, add_ii, sub_ii, mod_ii, div_ii, lt_ii, le_ii, gt_ii, ge_ii, e0, optD]
  | true =>
    rw [ht] at e0
    have hp : (spotAt s k).1 < (wAt s k).plan.length := by
      unfold thereB at ht
      simp only [Bool.and_eq_true, decide_eq_true_eq] at ht
      exact ht.2
    obtain ⟨st, hst⟩ : ∃ st, (wAt s k).plan[(spotAt s k).1]? = some st := ⟨_, List.getElem?_eq_getElem hp⟩
    have e3 := atI_map Stp.d hst
    rw [hst]
    have hn := g.ws.most
    have hr : rngD 0 s.ws.length = (List.range s.ws.length).map fun (j : Nat) => D.int (j : Int) := by rw [rngD_nat, List.range_eq_range']
    have hc : ((s.ws.length : Nat) : Int) ≤ 100000 ∧ -100000 ≤ ((s.ws.length : Nat) : Int) := by omega
    cases st with
    | work n => simp [sf_law_after, b_law_after, startE, seqS, ifS, nxS, retS, retNS, drpS, putS, asgS, setG, getV, op2, op1, opC, consA, cst, cst0, tstB, asB, tru, truD, orT, andT, notT, andE, orE, ifE, chn, isiF, isTy, eqG_ii, eqG_ss, eqG_bb, neG_ii, neG_ss, neG_bb, isNG, notNG, notG, negG, ixG, ixO, lenG, intG, max2G, min2G, mkT, mkL, okD, opX, drpX, putX, retX, mkF, resO, ownS, ocL, ocE, ocD, frzS, borE, borT, borX, flatD, appS, mE, popM, tup2M, rmvS, setS, tupG, consG, nilG, lstN, lstG, itL, itemsL, atI_0, atI_l1, atI_l2, atI_l3, atI_1, atI_2, atI_3, st_wh, st_wf, st_hw, st_hf, st_fw, st_fh, rng1, rng2, whS, forS, prt, add_ii, sub_ii, mod_ii, div_ii, lt_ii, le_ii, gt_ii, ge_ii, e0, e1, e2, e3, Stp.d, optD]
    | free n => simp [sf_law_after, b_law_after, startE, seqS, ifS, nxS, retS, retNS, drpS, putS, asgS, setG, getV, op2, op1, opC, consA, cst, cst0, tstB, asB, tru, truD, orT, andT, notT, andE, orE, ifE, chn, isiF, isTy, eqG_ii, eqG_ss, eqG_bb, neG_ii, neG_ss, neG_bb, isNG, notNG, notG, negG, ixG, ixO, lenG, intG, max2G, min2G, mkT, mkL, okD, opX, drpX, putX, retX, mkF, resO, ownS, ocL, ocE, ocD, frzS, borE, borT, borX, flatD, appS, mE, popM, tup2M, rmvS, setS, tupG, consG, nilG, lstN, lstG, itL, itemsL, atI_0, atI_l1, atI_l2, atI_l3, atI_1, atI_2, atI_3, st_wh, st_wf, st_hw, st_hf, st_fw, st_fh, rng1, rng2, whS, forS, prt, add_ii, sub_ii, mod_ii, div_ii, lt_ii, le_ii, gt_ii, ge_ii, e0, e1, e2, e3, Stp.d, optD]
    | hold t =>
      have hlp := after_loop g (k : Int) t (List.range s.ws.length) .no (fun j hj => by simpa using hj)
      simp only [if_true]
      unfold holderM
      cases hf : (List.range s.ws.length).find? (hasB s t) with
      | some j =>
        rw [hf] at hlp
        obtain ⟨e, he⟩ := hlp
        simp only [Stp.d] at he
        simp [sf_law_after, b_law_after, startE, seqS, ifS, nxS, retS, retNS, drpS, putS, asgS, setG, getV, op2, op1, opC, consA, cst, cst0, tstB, asB, tru, truD, orT, andT, notT, andE, orE, ifE, chn, isiF, isTy, eqG_ii, eqG_ss, eqG_bb, neG_ii, neG_ss, neG_bb, isNG, notNG, notG, negG, ixG, ixO, lenG, intG, max2G, min2G, mkT, mkL, okD, opX, drpX, putX, retX, mkF, resO, ownS, ocL, ocE, ocD, frzS, borE, borT, borX, flatD, appS, mE, popM, tup2M, rmvS, setS, tupG, consG, nilG, lstN, lstG, itL, itemsL, atI_0, atI_l1, atI_l2, atI_l3, atI_1, atI_2, atI_3, st_wh, st_wf, st_hw, st_hf, st_fw, st_fh, rng1, rng2, whS, forS, prt, add_ii, sub_ii, mod_ii, div_ii, lt_ii, le_ii, gt_ii, ge_ii, e0, e1, e2, e3, Stp.d, optD, hr, hc, he]
      | none =>
        rw [hf] at hlp
        obtain ⟨t3, he⟩ := hlp
        simp only [Stp.d] at he
        simp [sf_law_after, b_law_after, startE, seqS, ifS, nxS, retS, retNS, drpS, putS, asgS, setG, getV, op2, op1, opC, consA, cst, cst0, tstB, asB, tru, truD, orT, andT, notT, andE, orE, ifE, chn, isiF, isTy, eqG_ii, eqG_ss, eqG_bb, neG_ii, neG_ss, neG_bb, isNG, notNG, notG, negG, ixG, ixO, lenG, intG, max2G, min2G, mkT, mkL, okD, opX, drpX, putX, retX, mkF, resO, ownS, ocL, ocE, ocD, frzS, borE, borT, borX, flatD, appS, mE, popM, tup2M, rmvS, setS, tupG, consG, nilG, lstN, lstG, itL, itemsL, atI_0, atI_l1, atI_l2, atI_l3, atI_1, atI_2, atI_3, st_wh, st_wf, st_hw, st_hf, st_fw, st_fh, rng1, rng2, whS, forS, prt, add_ii, sub_ii, mod_ii, div_ii, lt_ii, le_ii, gt_ii, ge_ii, e0, e1, e2, e3, Stp.d, optD, hr, hc, he]
theorem afterM_lt {s : Shp} {k j : Nat} (h : afterM s k = some j) : j < s.ws.length := by
  unfold afterM at h
  split at h
  · split at h
    · unfold holderM at h
      have := List.mem_of_find?_eq_some h
      simpa using this
    · cases h
  · cases h
/-! ### _law_chain -/
/-- the chain, of at most n more -/
def chainM (s : Shp) : Nat → Nat → List Nat
  | 0, k => [k]
  | n + 1, k => match afterM s k with
    | some j => k :: chainM s n j
    | none => [k]
theorem chainM_head (s : Shp) (n k : Nat) : ∃ r, chainM s n k = k :: r := by
  cases n with
  | zero => exact ⟨[], rfl⟩
  | succ n =>
    unfold chainM
    split
    · exact ⟨_, rfl⟩
    · exact ⟨[], rfl⟩
abbrev natsD (l : List Nat) : List D := l.map fun (j : Nat) => D.int (j : Int)
abbrev n_law_chain : Nat := 2
def sf_law_chain (ds : List D) : Option Res := if ds.length = 2 then resO (b_law_chain sf_law_after (startE ds 4)) else none
theorem m_law_chain (ds : List D) (r : Res) (hl : ds.length = n_law_chain) (hs : sf_law_chain ds = some r) : resO (b_law_chain sf_law_after (startE ds 4)) = some r := by
  unfold sf_law_chain at hs
  rwa [if_pos hl] at hs
theorem chain_loop {s : Shp} (g : GoodShp s) (k : Int) : ∀ (n fuel : Nat) (found : List Nat) (a : Option Nat), found.length + n = 10 → n < fuel → (∀ j, a = some j → j < s.ws.length) →
    ∃ t3, whL (andT (tstB (op2 notNG (getV 3) (cst .non))) (tstB (op2 ltG (borE 2 (opC lenG (consA (getV 2) (cst0 [])))) (cst (.int 10))))) (b_law_chain_w0 sf_law_after) fuel [.val s.d, .val (.int k), .own none (.l (natsD found)), .val (optD a)] =
      some (.nx [.val s.d, .val (.int k), .own none (.l (natsD (found ++ (match a with
        | none => []
        | some j => (match n with
          | 0 => []
          | m + 1 => chainM s m j))))), t3])
  | n, 0, found, a, hl, hf, _ => by omega
  | n, fuel + 1, found, none, hl, hf, _ => by
    refine ⟨.val .non, ?_⟩
    rw [whL_no]
    · simp [optD]
    · simp [startE, seqS, ifS, nxS, retS, retNS, drpS, putS, asgS, setG, getV, op2, op1, opC, consA, cst, cst0, tstB, asB, tru, truD, orT, andT, notT, andE, orE, ifE, chn, isiF, isTy, eqG_ii, eqG_ss, eqG_bb, neG_ii, neG_ss, neG_bb, isNG, notNG, notG, negG, ixG, ixO, lenG, intG, max2G, min2G, mkT, mkL, okD, opX, drpX, putX, retX, mkF, resO, ownS, ocL, ocE, ocD, frzS, borE, borT, borX, flatD, appS, mE, popM, tup2M, rmvS, setS, tupG, consG, nilG, lstN, lstG, itL, itemsL, atI_0, atI_l1, atI_l2, atI_l3, atI_1, atI_2, atI_3, st_wh, st_wf, st_hw, st_hf, st_fw, st_fh, rng1, rng2, whS, forS, prt, add_ii, sub_ii, mod_ii, div_ii, lt_ii, le_ii, gt_ii, ge_ii, optD]
  | 0, fuel + 1, found, some j, hl, hf, _ => by
    refine ⟨.val (.int (j : Int)), ?_⟩
    have h : ¬ ((found.length : Int) < 10) := by omega
    rw [whL_no]
    · simp [optD]
    · simp [startE, seqS, ifS, nxS, retS, retNS, drpS, putS, asgS, setG, getV, op2, op1, opC, consA, cst, cst0, tstB, asB, tru, truD, orT, andT, notT, andE, orE, ifE, chn, isiF, isTy, eqG_ii, eqG_ss, eqG_bb, neG_ii, neG_ss, neG_bb, isNG, notNG, notG, negG, ixG, ixO, lenG, intG, max2G, min2G, mkT, mkL, okD, opX, drpX, putX, retX, mkF, resO, ownS, ocL, ocE, ocD, frzS, borE, borT, borX, flatD, appS, mE, popM, tup2M, rmvS, setS, tupG, consG, nilG, lstN, lstG, itL, itemsL, atI_0, atI_l1, atI_l2, atI_l3, atI_1, atI_2, atI_3, st_wh, st_wf, st_hw, st_hf, st_fw, st_fh, rng1, rng2, whS, forS, prt, add_ii, sub_ii, mod_ii, div_ii, lt_ii, le_ii, gt_ii, ge_ii, optD, h]
  | n + 1, fuel + 1, found, some j, hl, hf, ha => by
    have hj := ha j rfl
    obtain ⟨t3, e⟩ := chain_loop g k n fuel (found ++ [j]) (afterM s j) (by simp; omega) (by omega) fun i hi => afterM_lt hi
    have e1 := after_eq g hj
    have hlt : (found.length : Int) < 10 := by omega
    have h9 : found.length ≤ 90000 := by omega
    refine ⟨t3, (whL_nx (e2 := [.val s.d, .val (.int k), .own none (.l (natsD (found ++ [j]))), .val (optD (afterM s j))]) ?_ ?_).trans (e.trans ?_)⟩
    · simp [startE, seqS, ifS, nxS, retS, retNS, drpS, putS, asgS, setG, getV, op2, op1, opC, consA, cst, cst0, tstB, asB, tru, truD, orT, andT, notT, andE, orE, ifE, chn, isiF, isTy, eqG_ii, eqG_ss, eqG_bb, neG_ii, neG_ss, neG_bb, isNG, notNG, notG, negG, ixG, ixO, lenG, intG, max2G, min2G, mkT, mkL, okD, opX, drpX, putX, retX, mkF, resO, ownS, ocL, ocE, ocD, frzS, borE, borT, borX, flatD, appS, mE, popM, tup2M, rmvS, setS, tupG, consG, nilG, lstN, lstG, itL, itemsL, atI_0, atI_l1, atI_l2, atI_l3, atI_1, atI_2, atI_3, st_wh, st_wf, st_hw, st_hf, st_fw, st_fh, rng1, rng2, whS, forS, prt, add_ii, sub_ii, mod_ii, div_ii, lt_ii, le_ii, gt_ii, ge_ii, optD, hlt]
    · simp [b_law_chain_w0, startE, seqS, ifS, nxS, retS, retNS, drpS, putS, asgS, setG, getV, op2, op1, opC, consA, cst, cst0, tstB, asB, tru, truD, orT, andT, notT, andE, orE, ifE, chn, isiF, isTy, eqG_ii, eqG_ss, eqG_bb, neG_ii, neG_ss, neG_bb, isNG, notNG, notG, negG, ixG, ixO, lenG, intG, max2G, min2G, mkT, mkL, okD, opX, drpX, putX, retX, mkF, resO, ownS, ocL, ocE, ocD, frzS, borE, borT, borX, flatD, appS, mE, popM, tup2M, rmvS, setS, tupG, consG, nilG, lstN, lstG, itL, itemsL, atI_0, atI_l1, atI_l2, atI_l3, atI_1, atI_2, atI_3, st_wh, st_wf, st_hw, st_hf, st_fw, st_fh, rng1, rng2, whS, forS, prt, add_ii, sub_ii, mod_ii, div_ii, lt_ii, le_ii, gt_ii, ge_ii, optD, e1, h9]
    · cases n with
      | zero => cases hx : afterM s j <;> simp [chainM]
      | succ m => cases hx : afterM s j <;> simp [chainM, hx]
theorem chain_eq {s : Shp} (g : GoodShp s) {k : Nat} (hk : k < s.ws.length) : sf_law_chain [s.d, .int (k : Int)] = some (.ok (.lst (natsD (chainM s 9 k)))) := by
  have e1 := after_eq g hk
  obtain ⟨t3, e⟩ := chain_loop g (k : Int) 9 100000 [k] (afterM s k) rfl (by omega) fun i hi => afterM_lt hi
  have hch : [k] ++ (match afterM s k with
        | none => []
        | some j => chainM s 8 j) = chainM s 9 k := by
    show _ = (match afterM s k with
      | some j => k :: chainM s 8 j
      | none => [k])
    cases afterM s k <;> rfl
  simp only [hch] at e
  simp only [natsD, List.map_cons, List.map_nil] at e
  simp [sf_law_chain, b_law_chain, startE, seqS, ifS, nxS, retS, retNS, drpS, putS, asgS, setG, getV, op2, op1, opC, consA, cst, cst0, tstB, asB, tru, truD, orT, andT, notT, andE, orE, ifE, chn, isiF, isTy, eqG_ii, eqG_ss, eqG_bb, neG_ii, neG_ss, neG_bb, isNG, notNG, notG, negG, ixG, ixO, lenG, intG, max2G, min2G, mkT, mkL, okD, opX, drpX, putX, retX, mkF, resO, ownS, ocL, ocE, ocD, frzS, borE, borT, borX, flatD, appS, mE, popM, tup2M, rmvS, setS, tupG, consG, nilG, lstN, lstG, itL, itemsL, atI_0, atI_l1, atI_l2, atI_l3, atI_1, atI_2, atI_3, st_wh, st_wf, st_hw, st_hf, st_fw, st_fh, rng1, rng2, whS, forS, prt, add_ii, sub_ii, mod_ii, div_ii, lt_ii, le_ii, gt_ii, ge_ii, e1, e]
end LH

namespace LH
open PySem PySem.Spec PyProof.Rows L2 Evl DL

/-! ### chains rise -/
theorem hold_above {p : List Stp} (g : GoodP p) {j : Nat} {t : Int} (h : p[j]? = some (.hold t)) : (∀ x ∈ toolsAt p j, x < t) ∧ 0 ≤ t ∧ t ≤ 9 ∧ toolsAt p (j + 1) = toolsAt p j ++ [t] := by
  have hr := toolsAt_rest g j
  have hj := (List.getElem?_eq_some_iff.mp h).1
  have hd : p.drop j = .hold t :: p.drop (j + 1) := by
    rw [List.drop_eq_getElem_cons hj]
    have := (List.getElem?_eq_some_iff.mp h).2
    rw [this]
  rw [hd] at hr
  simp only [runS] at hr
  split at hr
  · rename_i hc
    refine ⟨hc.2.2, hc.1, hc.2.1, ?_⟩
    have h1 := toolsAt_run g (j + 1)
    rw [List.take_succ, h, runS_append, toolsAt_run g j] at h1
    simp only [Option.bind_some, Option.toList_some, runS, if_pos hc] at h1
    exact (Option.some.inj h1).symm
  · cases hr
theorem end_tools {p : List Stp} (g : GoodP p) : toolsAt p p.length = [] := by
  have := toolsAt_run g p.length
  rw [List.take_length, g.2] at this
  exact (Option.some.inj this).symm
theorem zero_tools (p : List Stp) : toolsAt p 0 = [] := by simp [toolsAt, runS]
/-- the tool at whose hold it stands; 10 where it stands at none -/
def tlM (s : Shp) (k : Nat) : Int := match (wAt s k).plan[(spotAt s k).1]? with
  | some (.hold t) => t
  | _ => 10
theorem after_tool {s : Shp} {k j : Nat} (h : afterM s k = some j) : thereB s k = true ∧ j < s.ws.length ∧ ∃ t, (wAt s k).plan[(spotAt s k).1]? = some (.hold t) ∧ t ∈ toolsAt (wAt s j).plan (spotAt s j).1 := by
  have hl := afterM_lt h
  unfold afterM at h
  split at h
  · rename_i ht
    split at h
    · rename_i t hp
      unfold holderM at h
      have := List.find?_some h
      exact ⟨ht, hl, t, hp, by simpa [hasB] using this⟩
    · cases h
  · cases h
theorem holder_there {s : Shp} (g : GoodShp s) {j : Nat} (hj : j < s.ws.length) {t : Int} (h : t ∈ toolsAt (wAt s j).plan (spotAt s j).1) : thereB s j = true := by
  obtain ⟨_, _, gw, sp⟩ := g.at_ hj
  unfold thereB
  rw [Bool.and_eq_true, decide_eq_true_eq, decide_eq_true_eq]
  refine ⟨?_, ?_⟩
  · refine Classical.byContradiction fun hc => ?_
    have := sp.early (by omega)
    rw [this.1, zero_tools] at h
    cases h
  · refine Classical.byContradiction fun hc => ?_
    have : (spotAt s j).1 = (wAt s j).plan.length := by have := sp.place; omega
    rw [this, end_tools gw.plan] at h
    cases h
theorem after_there {s : Shp} (g : GoodShp s) {k j : Nat} (h : afterM s k = some j) : thereB s j = true := by
  obtain ⟨_, hj, t, _, ht⟩ := after_tool h
  exact holder_there g hj ht
theorem after_rise {s : Shp} (g : GoodShp s) {k j : Nat} (hk : k < s.ws.length) (h : afterM s k = some j) : tlM s k < tlM s j := by
  obtain ⟨_, hj, t, hp, ht⟩ := after_tool h
  obtain ⟨_, _, gw, _⟩ := g.at_ hk
  obtain ⟨_, _, gv, _⟩ := g.at_ hj
  have h9 := hold_above gw.plan hp
  have e1 : tlM s k = t := by unfold tlM; rw [hp]
  rw [e1]
  unfold tlM
  split
  · rename_i u hu
    exact (hold_above gv.plan hu).1 t ht
  · omega
theorem chain_mem_lt {s : Shp} : ∀ (n k : Nat), k < s.ws.length → ∀ j ∈ chainM s n k, j < s.ws.length
  | 0, k, hk, j, hj => by
    simp only [chainM, List.mem_singleton] at hj
    omega
  | n + 1, k, hk, j, hj => by
    unfold chainM at hj
    split at hj
    · rename_i i hi
      rcases List.mem_cons.mp hj with rfl | hj
      · exact hk
      · exact chain_mem_lt n i (afterM_lt hi) j hj
    · simp only [List.mem_singleton] at hj; omega
theorem chain_above {s : Shp} (g : GoodShp s) : ∀ (n k : Nat), k < s.ws.length → ∀ j ∈ chainM s n k, tlM s k ≤ tlM s j
  | 0, k, hk, j, hj => by
    simp only [chainM, List.mem_singleton] at hj
    subst hj; exact Int.le_refl _
  | n + 1, k, hk, j, hj => by
    unfold chainM at hj
    split at hj
    · rename_i i hi
      rcases List.mem_cons.mp hj with rfl | hj
      · exact Int.le_refl _
      · have h1 := chain_above g n i (afterM_lt hi) j hj
        have h2 := after_rise g hk hi
        omega
    · simp only [List.mem_singleton] at hj
      subst hj; exact Int.le_refl _
theorem chain_nodup {s : Shp} (g : GoodShp s) : ∀ (n k : Nat), k < s.ws.length → (chainM s n k).Nodup
  | 0, k, hk => by simp [chainM]
  | n + 1, k, hk => by
    unfold chainM
    split
    · rename_i i hi
      rw [List.nodup_cons]
      refine ⟨fun hm => ?_, chain_nodup g n i (afterM_lt hi)⟩
      have h1 := chain_above g n i (afterM_lt hi) k hm
      have h2 := after_rise g hk hi
      omega
    · simp
theorem nat_pigeon : ∀ (m : Nat) (l : List Nat), l.Nodup → (∀ x ∈ l, x < m) → l.length ≤ m
  | 0, l, _, h => by
    cases l with
    | nil => simp
    | cons a r => have := h a (by simp); omega
  | m + 1, l, nd, h => by
    have ih := nat_pigeon m (l.erase m) (nd.erase m) fun x hx => by
      have h1 := h x (List.mem_of_mem_erase hx)
      have h2 : x ≠ m := fun e => by
        subst e
        exact (List.Nodup.not_mem_erase nd) hx
      omega
    by_cases hm : m ∈ l
    · have := List.length_erase_of_mem hm
      omega
    · rw [List.erase_of_not_mem hm] at ih
      omega
theorem chain_short {s : Shp} (g : GoodShp s) (n k : Nat) (hk : k < s.ws.length) : (chainM s n k).length ≤ s.ws.length := nat_pigeon _ _ (chain_nodup g n k hk) (chain_mem_lt n k hk)
/-- the last one of the chain -/
def endM (s : Shp) : Nat → Nat → Nat
  | 0, k => k
  | n + 1, k => match afterM s k with
    | some j => endM s n j
    | none => k
theorem chain_last (s : Shp) : ∀ n k, (chainM s n k).getLast? = some (endM s n k)
  | 0, k => rfl
  | n + 1, k => by
    unfold chainM endM
    cases hj : afterM s k with
    | some j =>
      obtain ⟨r, hr⟩ := chainM_head s n j
      have ih := chain_last s n j
      simp only
      rw [hr] at ih ⊢
      rw [List.getLast?_cons_cons]
      exact ih
    | none => rfl
theorem end_stops {s : Shp} : ∀ (n k : Nat), (chainM s n k).length ≤ n → afterM s (endM s n k) = none
  | 0, k, h => by simp [chainM] at h
  | n + 1, k, h => by
    unfold chainM at h
    unfold endM
    split
    · rename_i j hj
      rw [hj] at h
      simp only [List.length_cons] at h
      exact end_stops n j (by omega)
    · rename_i hn
      exact hn
theorem end_none {s : Shp} (g : GoodShp s) {k : Nat} (hk : k < s.ws.length) : afterM s (endM s 9 k) = none := by
  refine end_stops 9 k ?_
  have := chain_short g 9 k hk
  have := g.ws.most
  omega
theorem end_lt {s : Shp} : ∀ (n k : Nat), k < s.ws.length → endM s n k < s.ws.length
  | 0, k, h => h
  | n + 1, k, h => by
    unfold endM
    split
    · rename_i j hj
      exact end_lt n j (afterM_lt hj)
    · exact h
theorem end_there {s : Shp} (g : GoodShp s) : ∀ (n k : Nat), thereB s k = true → thereB s (endM s n k) = true
  | 0, k, h => h
  | n + 1, k, h => by
    unfold endM
    split
    · rename_i j hj
      exact end_there g n j (after_there g hj)
    · exact h
/-- who stands in a chain and doesn't wait is its last -/
theorem mem_stop {s : Shp} : ∀ (n k j : Nat), j ∈ chainM s n k → afterM s j = none → j = endM s n k
  | 0, k, j, h, _ => by simpa [chainM, endM] using h
  | n + 1, k, j, h, hn => by
    unfold chainM at h
    unfold endM
    split
    · rename_i i hi
      rw [hi] at h
      rcases List.mem_cons.mp h with rfl | h
      · rw [hi] at hn; cases hn
      · exact mem_stop n i j h hn
    · rename_i hk
      rw [hk] at h
      simpa using h
theorem end_mem (s : Shp) (n k : Nat) : endM s n k ∈ chainM s n k := List.mem_of_getLast? (chain_last s n k)
/-- one that isn't there waits for nobody, and nobody waits for it -/
theorem chain_there {s : Shp} (g : GoodShp s) : ∀ (n k j : Nat), j ∈ chainM s n k → j = k ∨ (thereB s j = true ∧ thereB s k = true)
  | 0, k, j, h => .inl (by simpa [chainM] using h)
  | n + 1, k, j, h => by
    unfold chainM at h
    split at h
    · rename_i i hi
      rcases List.mem_cons.mp h with rfl | h
      · exact .inl rfl
      · have hk := (after_tool hi).1
        rcases chain_there g n i j h with rfl | ⟨h1, _⟩
        · exact .inr ⟨after_there g hi, hk⟩
        · exact .inr ⟨h1, hk⟩
    · simp only [List.mem_singleton] at h
      exact .inl h
end LH

namespace LH
open PySem PySem.Spec PyProof.Rows L2 Evl DL

/-! ### who is chosen -/
def rankM (s : Shp) (k : Nat) : Int := (wAt s k).rank
/-- i itself, or one of whose chain k is: they lend k their ranks -/
def Lends (s : Shp) (i k : Nat) : Prop := i < s.ws.length ∧ k ∈ chainM s 9 i
structure IsBest (s : Shp) (b : Nat) : Prop where
  lt : b < s.ws.length
  there : thereB s b = true
  best : ∀ i, i < s.ws.length → thereB s i = true → rankM s i ≤ rankM s b
def Ready (s : Shp) (k : Nat) : Prop := k < s.ws.length ∧ thereB s k = true ∧ afterM s k = none
theorem rank_ne {s : Shp} (g : GoodShp s) {i j : Nat} (hi : i < s.ws.length) (hj : j < s.ws.length) (h : i ≠ j) : rankM s i ≠ rankM s j := by
  have key : ∀ {i j : Nat}, i < s.ws.length → j < s.ws.length → i < j → rankM s i ≠ rankM s j := fun {i j} hi hj hij => by
    have h1 := (g.at_ hi).1
    have h2 := (g.at_ hj).1
    have nd := List.pairwise_iff_getElem.mp g.ws.ranks i j (by simpa using hi) (by simpa using hj) hij
    rw [List.getElem_map, List.getElem_map] at nd
    rw [List.getElem?_eq_getElem hi] at h1
    rw [List.getElem?_eq_getElem hj] at h2
    rw [Option.some.inj h1, Option.some.inj h2] at nd
    exact nd
  rcases Nat.lt_or_gt_of_ne h with h | h
  · exact key hi hj h
  · exact fun e => key hj hi h e.symm
theorem end_ready {s : Shp} (g : GoodShp s) {k : Nat} (hk : k < s.ws.length) (ht : thereB s k = true) : Ready s (endM s 9 k) := ⟨end_lt 9 k hk, end_there g 9 k ht, end_none g hk⟩
theorem lends_self (s : Shp) {k : Nat} (hk : k < s.ws.length) : Lends s k k := by
  obtain ⟨r, hr⟩ := chainM_head s 9 k
  exact ⟨hk, by rw [hr]; simp⟩
theorem lends_there {s : Shp} (g : GoodShp s) {i k : Nat} (h : Lends s i k) (hk : thereB s k = true) : thereB s i = true := by
  rcases chain_there g 9 i k h.2 with rfl | ⟨_, h2⟩
  · exact hk
  · exact h2
/-- whoever is ready is lent by those of whose chain it is the end -/
theorem lends_end {s : Shp} {i k : Nat} (h : Lends s i k) (hk : afterM s k = none) : k = endM s 9 i := mem_stop 9 i k h.2 hk
theorem best_lends {s : Shp} {b : Nat} (B : IsBest s b) : Lends s b (endM s 9 b) := ⟨B.lt, end_mem s 9 b⟩
theorem best_most {s : Shp} (g : GoodShp s) {b i k : Nat} (B : IsBest s b) (h : Lends s i k) (hk : thereB s k = true) : rankM s i ≤ rankM s b := B.best i h.1 (lends_there g h hk)
theorem best_other {s : Shp} (g : GoodShp s) {b i k : Nat} (B : IsBest s b) (hk : Ready s k) (hne : k ≠ endM s 9 b) (h : Lends s i k) : rankM s i < rankM s b := by
  have h1 := best_most g B h hk.2.1
  have h2 : i ≠ b := fun e => by
    subst e
    exact hne (lends_end h hk.2.2)
  have h3 := rank_ne g h.1 B.lt h2
  omega
/-- two that are ready are lent by none alike -/
theorem lends_apart {s : Shp} {i j k : Nat} (hj : Ready s j) (hk : Ready s k) (h1 : Lends s i j) (h2 : Lends s i k) : j = k := (lends_end h1 hj.2.2).trans (lends_end h2 hk.2.2).symm
/-- the greatest rank that lends -/
theorem eff_ex {s : Shp} {k : Nat} (hk : k < s.ws.length) : ∃ i, Lends s i k ∧ ∀ j, Lends s j k → rankM s j ≤ rankM s i := by
  have key : ∀ m, m ≤ s.ws.length → k < m → ∃ i, Lends s i k ∧ ∀ j, j < m → Lends s j k → rankM s j ≤ rankM s i := by
    intro m
    induction m with
    | zero => intro _ h; omega
    | succ m ih =>
      intro hm hkm
      by_cases hkm' : k < m
      · obtain ⟨i, h1, h2⟩ := ih (by omega) hkm'
        by_cases hl : Lends s m k ∧ rankM s i < rankM s m
        · refine ⟨m, hl.1, fun j hj hlj => ?_⟩
          by_cases e : j = m
          · subst e; exact Int.le_refl _
          · have := h2 j (by omega) hlj; omega
        · refine ⟨i, h1, fun j hj hlj => ?_⟩
          by_cases e : j = m
          · subst e
            exact Int.not_lt.mp fun z => hl ⟨hlj, z⟩
          · exact h2 j (by omega) hlj
      · have e : k = m := by omega
        subst e
        -- the first ones before k may lend too
        have pre : ∀ n, n ≤ k → ∃ i, Lends s i k ∧ (∀ j, j < n → Lends s j k → rankM s j ≤ rankM s i) ∧ rankM s k ≤ rankM s i := by
          intro n
          induction n with
          | zero => intro _; exact ⟨k, lends_self s hk, fun j h => by omega, Int.le_refl _⟩
          | succ n ih2 =>
            intro hn
            obtain ⟨i, h1, h2, h3⟩ := ih2 (by omega)
            by_cases hl : Lends s n k ∧ rankM s i < rankM s n
            · refine ⟨n, hl.1, fun j hj hlj => ?_, by omega⟩
              by_cases e : j = n
              · subst e; exact Int.le_refl _
              · have := h2 j (by omega) hlj; omega
            · refine ⟨i, h1, fun j hj hlj => ?_, h3⟩
              by_cases e : j = n
              · subst e
                exact Int.not_lt.mp fun z => hl ⟨hlj, z⟩
              · exact h2 j (by omega) hlj
        obtain ⟨i, h1, h2, h3⟩ := pre k (Nat.le_refl _)
        refine ⟨i, h1, fun j hj hlj => ?_⟩
        by_cases e : j = k
        · subst e; exact h3
        · exact h2 j (by omega) hlj
  obtain ⟨i, h1, h2⟩ := key s.ws.length (Nat.le_refl _) hk
  exact ⟨i, h1, fun j hj => h2 j hj.1 hj⟩
end LH

namespace LH
open PySem PySem.Spec PyProof.Rows L2 Evl DL

/-! ### _law_spot -/
abbrev n_law_spot : Nat := 3
open Classical in
noncomputable def sf_law_spot (ds dxs : List D) : Option (D × List D) := if ds.length = 2 ∧ ∀ p, resP 2 p (b_law_spot sf_law_tools (startO ds dxs p 10)) = resP 2 0 (b_law_spot sf_law_tools (startO ds dxs 0 10)) then resP 2 0 (b_law_spot sf_law_tools (startO ds dxs 0 10)) else none
theorem m_law_spot (p : Addr) (ds dxs : List D) (r : D × List D) (hl : ds.length + 1 = n_law_spot) (hs : sf_law_spot ds dxs = some r) : resP ds.length p (b_law_spot sf_law_tools (startO ds dxs p 10)) = some r := by
  unfold sf_law_spot at hs
  split at hs
  · rename_i h
    rw [h.1, h.2 p]
    exact hs
  · cases hs
theorem sf_law_spot_of {ds dxs : List D} {r : D × List D} (h : ds.length = 2) (hs : ∀ p, resP 2 p (b_law_spot sf_law_tools (startO ds dxs p 10)) = some r) : sf_law_spot ds dxs = some r := by
  unfold sf_law_spot
  rw [if_pos ⟨h, fun p => by rw [hs p, hs 0]⟩, hs 0]
/-- the places of a plan that are holds -/
def holdsOf (p : List Stp) : List Nat := (List.range p.length).filter fun j => match p[j]? with
  | some (.hold _) => true
  | _ => false
theorem holds_lc (p : List Stp) (env : DEnv) (h3 : env[3]? = some (.val (planD p))) (h8 : 8 < env.length) : lcL (setG 8) (tstB (op2 eqG (op2 ixG (op2 ixG (getV 3) (getV 8)) (cst (.int 0))) (cst (.str "hold")))) (getV 8) env ((List.range p.length).map fun (j : Nat) => D.int (j : Int)) = some (natsD (holdsOf p)) := by
  refine lcL_map (fun (j : Nat) => D.int (j : Int)) (fun (j : Nat) => D.int (j : Int)) (fun j => match p[j]? with
    | some (.hold _) => true
    | _ => false) (List.range p.length) fun j hj => ?_
  have hj' : j < p.length := by simpa using hj
  obtain ⟨st, hst⟩ : ∃ st, p[j]? = some st := ⟨_, List.getElem?_eq_getElem hj'⟩
  have e := atI_map Stp.d hst
  have h8' : (env.set 8 (.val (.int (j : Int))))[8]? = some (.val (.int (j : Int))) := List.getElem?_set_self h8
  have h3' : (env.set 8 (.val (.int (j : Int))))[3]? = some (.val (planD p)) := by rw [List.getElem?_set_ne (by omega)]; exact h3
  refine ⟨env.set 8 (.val (.int (j : Int))), rfl, ?_, fun _ => ?_⟩
  · rw [hst]
    cases st <;> simp [tstB, asB, op2, getV, h3', h8', ixG, e, Stp.d, cst, eqG_ss, atI_0, st_wh, st_fh]
  · simp [getV, h8']
/-- the place behind the frees that stand there -/
def pastF (p : List Stp) : Nat → Nat → Nat
  | 0, j => j
  | n + 1, j => match p[j]? with
    | some (.free _) => pastF p n (j + 1)
    | _ => j
theorem pastF_le (p : List Stp) : ∀ n j, j ≤ p.length → pastF p n j ≤ p.length
  | 0, j, h => h
  | n + 1, j, h => by
    unfold pastF
    split
    · rename_i h2
      exact pastF_le p n (j + 1) (by have := (List.getElem?_eq_some_iff.mp h2).1; omega)
    · exact h
theorem pastF_no (p : List Stp) : ∀ n j, p.length < j + n → ∀ t, p[pastF p n j]? ≠ some (.free t)
  | 0, j, h, t => by
    show p[j]? ≠ _
    rw [List.getElem?_eq_none (by omega)]; simp
  | n + 1, j, h, t => by
    unfold pastF
    split
    · exact pastF_no p n (j + 1) (by omega) t
    · rename_i h2
      exact h2 t
theorem past_loop (p : List Stp) (w num tk s5 s6 s7 s8 s9 : Sl) : ∀ (n fuel j : Nat), p.length < j + n → j ≤ p.length → n < fuel →
    whL (andT (tstB (op2 ltG (getV 4) (opC lenG (consA (getV 3) (cst0 []))))) (tstB (op2 eqG (op2 ixG (op2 ixG (getV 3) (getV 4)) (cst (.int 0))) (cst (.str "free"))))) (b_law_spot_w0 sf_law_tools) fuel [w, num, tk, .val (planD p), .val (.int (j : Int)), s5, s6, s7, s8, s9] =
      some (.nx [w, num, tk, .val (planD p), .val (.int (pastF p n j : Nat)), s5, s6, s7, s8, s9])
  | n, 0, j, h1, h2, h3 => by omega
  | 0, fuel + 1, j, h1, h2, h3 => by omega
  | n + 1, fuel + 1, j, h1, h2, h3 => by
    by_cases hj : j < p.length
    · obtain ⟨st, hst⟩ : ∃ st, p[j]? = some st := ⟨_, List.getElem?_eq_getElem hj⟩
      have e := atI_map Stp.d hst
      unfold pastF
      rw [hst]
      cases st with
      | free t =>
        have ih := past_loop p w num tk s5 s6 s7 s8 s9 n fuel (j + 1) (by omega) (by omega) (by omega)
        refine (whL_nx ?_ ?_).trans ih
        · simp [startE, seqS, ifS, nxS, retS, retNS, drpS, putS, asgS, setG, getV, op2, op1, opC, consA, cst, cst0, tstB, asB, tru, truD, orT, andT, notT, andE, orE, ifE, chn, isiF, isTy, eqG_ii, eqG_ss, eqG_bb, neG_ii, neG_ss, neG_bb, isNG, notNG, notG, negG, ixG, ixO, lenG, intG, max2G, min2G, mkT, mkL, okD, opX, drpX, putX, retX, mkF, resO, ownS, ocL, ocE, ocD, frzS, borE, borT, borX, flatD, appS, mE, popM, tup2M, rmvS, setS, tupG, consG, nilG, lstN, lstG, itL, itemsL, atI_0, atI_l1, atI_l2, atI_l3, atI_1, atI_2, atI_3, st_wh, st_wf, st_hw, st_hf, st_fw, st_fh, rng1, rng2, whS, forS, prt, add_ii, sub_ii, mod_ii, div_ii, lt_ii, le_ii, gt_ii, ge_ii, hj, e, Stp.d]
        · simp [b_law_spot_w0, startE, seqS, ifS, nxS, retS, retNS, drpS, putS, asgS, setG, getV, op2, op1, opC, consA, cst, cst0, tstB, asB, tru, truD, orT, andT, notT, andE, orE, ifE, chn, isiF, isTy, eqG_ii, eqG_ss, eqG_bb, neG_ii, neG_ss, neG_bb, isNG, notNG, notG, negG, ixG, ixO, lenG, intG, max2G, min2G, mkT, mkL, okD, opX, drpX, putX, retX, mkF, resO, ownS, ocL, ocE, ocD, frzS, borE, borT, borX, flatD, appS, mE, popM, tup2M, rmvS, setS, tupG, consG, nilG, lstN, lstG, itL, itemsL, atI_0, atI_l1, atI_l2, atI_l3, atI_1, atI_2, atI_3, st_wh, st_wf, st_hw, st_hf, st_fw, st_fh, rng1, rng2, whS, forS, prt, add_ii, sub_ii, mod_ii, div_ii, lt_ii, le_ii, gt_ii, ge_ii]
      | work t =>
        rw [whL_no]
        simp [startE, seqS, ifS, nxS, retS, retNS, drpS, putS, asgS, setG, getV, op2, op1, opC, consA, cst, cst0, tstB, asB, tru, truD, orT, andT, notT, andE, orE, ifE, chn, isiF, isTy, eqG_ii, eqG_ss, eqG_bb, neG_ii, neG_ss, neG_bb, isNG, notNG, notG, negG, ixG, ixO, lenG, intG, max2G, min2G, mkT, mkL, okD, opX, drpX, putX, retX, mkF, resO, ownS, ocL, ocE, ocD, frzS, borE, borT, borX, flatD, appS, mE, popM, tup2M, rmvS, setS, tupG, consG, nilG, lstN, lstG, itL, itemsL, atI_0, atI_l1, atI_l2, atI_l3, atI_1, atI_2, atI_3, st_wh, st_wf, st_hw, st_hf, st_fw, st_fh, rng1, rng2, whS, forS, prt, add_ii, sub_ii, mod_ii, div_ii, lt_ii, le_ii, gt_ii, ge_ii, hj, e, Stp.d]
      | hold t =>
        rw [whL_no]
        simp [startE, seqS, ifS, nxS, retS, retNS, drpS, putS, asgS, setG, getV, op2, op1, opC, consA, cst, cst0, tstB, asB, tru, truD, orT, andT, notT, andE, orE, ifE, chn, isiF, isTy, eqG_ii, eqG_ss, eqG_bb, neG_ii, neG_ss, neG_bb, isNG, notNG, notG, negG, ixG, ixO, lenG, intG, max2G, min2G, mkT, mkL, okD, opX, drpX, putX, retX, mkF, resO, ownS, ocL, ocE, ocD, frzS, borE, borT, borX, flatD, appS, mE, popM, tup2M, rmvS, setS, tupG, consG, nilG, lstN, lstG, itL, itemsL, atI_0, atI_l1, atI_l2, atI_l3, atI_1, atI_2, atI_3, st_wh, st_wf, st_hw, st_hf, st_fw, st_fh, rng1, rng2, whS, forS, prt, add_ii, sub_ii, mod_ii, div_ii, lt_ii, le_ii, gt_ii, ge_ii, hj, e, Stp.d]
    · have hn : p[j]? = none := List.getElem?_eq_none (by omega)
      unfold pastF
      rw [hn]
      rw [whL_no]
      simp [startE, seqS, ifS, nxS, retS, retNS, drpS, putS, asgS, setG, getV, op2, op1, opC, consA, cst, cst0, tstB, asB, tru, truD, orT, andT, notT, andE, orE, ifE, chn, isiF, isTy, eqG_ii, eqG_ss, eqG_bb, neG_ii, neG_ss, neG_bb, isNG, notNG, notG, negG, ixG, ixO, lenG, intG, max2G, min2G, mkT, mkL, okD, opX, drpX, putX, retX, mkF, resO, ownS, ocL, ocE, ocD, frzS, borE, borT, borX, flatD, appS, mE, popM, tup2M, rmvS, setS, tupG, consG, nilG, lstN, lstG, itL, itemsL, atI_0, atI_l1, atI_l2, atI_l3, atI_1, atI_2, atI_3, st_wh, st_wf, st_hw, st_hf, st_fw, st_fh, rng1, rng2, whS, forS, prt, add_ii, sub_ii, mod_ii, div_ii, lt_ii, le_ii, gt_ii, ge_ii, hj]
theorem neG_nats (l : List Nat) : neG (.lst (natsD l)) (.lst []) = some (.bl !l.isEmpty) := by
  have e : natsD l = (l.map fun (j : Nat) => (j : Int)).map D.int := by simp [natsD]
  rw [e, neG_nil]
  cases l <;> rfl
theorem taken_lc (taken : List Int) (a : Option Addr) (env : DEnv) (h2 : env[2]? = some (.own a (.l (taken.map .int)))) (h9 : 9 < env.length) (l : List Int) : lcL (setG 9) (borT 2 (tstB (op2 (inG false) (getV 9) (getV 2)))) (getV 9) env (l.map .int) = some ((l.filter fun t => taken.contains t).map .int) := by
  refine lcL_map D.int D.int (fun t => taken.contains t) l fun t ht => ?_
  have h9' : (env.set 9 (.val (.int t)))[9]? = some (.val (.int t)) := List.getElem?_set_self h9
  have h2' : (env.set 9 (.val (.int t)))[2]? = some (.own a (.l (taken.map .int))) := by rw [List.getElem?_set_ne (by omega)]; exact h2
  have hl : 2 < (env.set 9 (.val (.int t))).length := by simp; omega
  have h2'' : ((env.set 9 (.val (.int t))).set 2 (.val (.lst (taken.map .int))))[2]? = some (.val (.lst (taken.map .int))) := List.getElem?_set_self hl
  have h9'' : ((env.set 9 (.val (.int t))).set 2 (.val (.lst (taken.map .int))))[9]? = some (.val (.int t)) := by rw [List.getElem?_set_ne (by omega)]; exact h9'
  have hin : inG false (.int t) (.lst (taken.map .int)) = some (.bl (taken.contains t)) := by rw [inG_ints]; rfl
  refine ⟨_, rfl, ?_, fun _ => ?_⟩
  · simp only [borT, h2', ocD, tstB, op2, getV, h9'', h2'', hin, asB]
  · simp only [getV, h9']
theorem holdsOf_lt {p : List Stp} {j : Nat} (h : j ∈ holdsOf p) : j < p.length := by
  unfold holdsOf at h
  rw [List.mem_filter] at h
  simpa using h.1
theorem pigeonT (l : List Int) (nd : l.Nodup) (h : ∀ x ∈ l, 0 ≤ x ∧ x ≤ 9) : l.length ≤ 10 := by
  have := pigeon l.length [0, 1, 2, 3, 4, 5, 6, 7, 8, 9] (fun i => l.getD i 0) (fun i hi => ?_) (fun i j h1 h2 => ?_)
  · simpa using this
  · have : l.getD i 0 = l[i] := by rw [List.getD_eq_getElem?_getD, List.getElem?_eq_getElem hi]; rfl
    rw [this]
    have := h l[i] (List.getElem_mem hi)
    simp; omega
  · have e1 : l.getD i 0 = l[i] := by rw [List.getD_eq_getElem?_getD, List.getElem?_eq_getElem (by omega)]; rfl
    have e2 : l.getD j 0 = l[j] := by rw [List.getD_eq_getElem?_getD, List.getElem?_eq_getElem h2]; rfl
    show l.getD i 0 ≠ l.getD j 0
    rw [e1, e2]
    exact List.pairwise_iff_getElem.mp nd i j (by omega) h2 h1
/-- what a drawn spot is -/
structure SpotDrawn (w : Wkr) (taken : List Int) (sp : Spot) : Prop where
  place : sp.1 ≤ w.plan.length
  nofree : ∀ t, w.plan[sp.1]? ≠ some (.free t)
  gone : 0 ≤ sp.2
  work : ∀ n, w.plan[sp.1]? = some (.work n) → sp.2 < n
  other : (∀ n, w.plan[sp.1]? ≠ some (.work n)) → sp.2 = 0
  apart : ∀ t ∈ toolsAt w.plan sp.1, t ∉ taken
theorem work_num {p : List Stp} (g : GoodP p) {j : Nat} {n : Int} (h : p[j]? = some (.work n)) : 1 ≤ n ∧ n ≤ 100 := by
  have hr := toolsAt_rest g j
  have hj := (List.getElem?_eq_some_iff.mp h).1
  have : p.drop j = .work n :: p.drop (j + 1) := by
    rw [List.drop_eq_getElem_cons hj]
    have := (List.getElem?_eq_some_iff.mp h).2
    rw [this]
  rw [this] at hr
  simp only [runS] at hr
  split at hr
  · assumption
  · cases hr
theorem start_drawn {w : Wkr} (g : GoodW1 w) (taken : List Int) : SpotDrawn w taken (0, 0) where
  place := Nat.zero_le _
  nofree := fun t h => by
    have hr := g.plan.2
    cases hp : w.plan with
    | nil => exact g.plan.1 hp
    | cons a r =>
      rw [hp] at h hr
      simp at h
      subst h
      simp [runS] at hr
  gone := Int.le_refl _
  work := fun n h => by have := (work_num g.plan h).1; show (0 : Int) < n; omega
  other := fun _ => rfl
  apart := fun t h => by
    unfold toolsAt at h
    simp [runS] at h
def spotRest : DEnv → Option Out := (seqS (putS 6 (opC (okD sf_law_tools) (consA (getV 3) (consA (getV 4) (cst0 []))))) (seqS (ifS (tstB (op2 neG (ocE (lcF (itL (getV 6)) (setG 9) (borT 2 (tstB (op2 (inG false) (getV 9) (getV 2)))) (getV 9) [9])) (opC mkL (cst0 [])))) (retS (opC mkT (consA (cst (.int 0)) (consA (cst (.int 0)) (cst0 []))))) nxS) (seqS (putS 7 (cst (.int 0))) (seqS (ifS (andT (tstB (op2 ltG (getV 4) (opC lenG (consA (getV 3) (cst0 []))))) (tstB (op2 eqG (op2 ixG (op2 ixG (getV 3) (getV 4)) (cst (.int 0))) (cst (.str "work"))))) (putS 7 (op2 modG (op2 divG (getV 1) (cst (.int 41))) (op2 ixG (op2 ixG (getV 3) (getV 4)) (cst (.int 1))))) nxS) (seqS (extS 2 (getV 6)) (retS (opC mkT (consA (getV 4) (consA (getV 7) (cst0 []))))))))))
theorem spot_eq {w : Wkr} (g : GoodW1 w) (number : Int) (taken : List Int) (ht : taken.length ≤ 1000) : ∃ sp, sf_law_spot [w.d, .int number] (taken.map .int) = some (spotD sp, (taken ++ toolsAt w.plan sp.1).map .int) ∧ SpotDrawn w taken sp := by
  have hlen := g.short
  have q0 : 0 ≤ number % ((w.plan.length : Int) + 1) := Int.emod_nonneg _ (by omega)
  have q1 : number % ((w.plan.length : Int) + 1) < (w.plan.length : Int) + 1 := Int.emod_lt_of_pos _ (by omega)
  have hmod : modG (.int number) (.int ((w.plan.length : Int) + 1)) = some (.int (number % ((w.plan.length : Int) + 1))) := mod_ii (by omega)
  have hr : rngD 0 w.plan.length = (List.range w.plan.length).map fun (j : Nat) => D.int (j : Int) := by rw [rngD_nat, List.range_eq_range']
  have hc : ((w.plan.length : Nat) : Int) ≤ 100000 ∧ -100000 ≤ ((w.plan.length : Nat) : Int) := by omega
  have h90 : w.plan.length ≤ 90000 := by omega
  -- the place that is drawn
  obtain ⟨j0, hj0, hjl⟩ : ∃ j0 : Nat, (number / 997 % 2 = 1 ∧ holdsOf w.plan ≠ [] ∧ (∃ i, holdsOf w.plan = i ++ [j0]) ∨ ¬ (number / 997 % 2 = 1 ∧ holdsOf w.plan ≠ []) ∧ number % ((w.plan.length : Int) + 1) = (j0 : Int)) ∧ j0 ≤ w.plan.length := by
    by_cases c : number / 997 % 2 = 1 ∧ holdsOf w.plan ≠ []
    · rcases List.eq_nil_or_concat (holdsOf w.plan) with e | ⟨i, j, e⟩
      · exact absurd e c.2
      · have : j ∈ holdsOf w.plan := by rw [e]; simp
        exact ⟨j, .inl ⟨c.1, c.2, i, by simpa using e⟩, by have := holdsOf_lt this; omega⟩
    · exact ⟨(number % ((w.plan.length : Int) + 1)).toNat, .inr ⟨c, by omega⟩, by omega⟩
  have hpl := pastF_le w.plan 1000 j0 hjl
  have hnf := pastF_no w.plan 1000 j0 (by omega)
  generalize hpe : pastF w.plan 1000 j0 = pl at hpl hnf
  have etools := tools_eq g.plan g.short pl hpl
  have htl : (toolsAt w.plan pl).length ≤ 10 := by
    have ok := toolsAt_ok g.plan pl
    have := pigeonT (toolsAt w.plan pl) ok.nodup ok.num
    exact this
  have pre : ∀ p : Addr, b_law_spot sf_law_tools (startO [w.d, .int number] (taken.map .int) p 10) = spotRest [.val w.d, .val (.int number), .own (some p) (.l (taken.map .int)), .val (planD w.plan), .val (.int (pl : Int)), .val (.lst (natsD (holdsOf w.plan))), .no, .no, .no, .no] := fun p => by
    have hb : b_law_spot sf_law_tools = (seqS (putS 3 (op2 ixG (getV 0) (cst (.int 2)))) (seqS (putS 4 (op2 modG (getV 1) (op2 addG (opC lenG (consA (getV 3) (cst0 []))) (cst (.int 1))))) (seqS (ownS 5 (lcF (rng1 (consA (opC lenG (consA (getV 3) (cst0 []))) (cst0 []))) (setG 8) (tstB (op2 eqG (op2 ixG (op2 ixG (getV 3) (getV 8)) (cst (.int 0))) (cst (.str "hold")))) (getV 8) [8])) (frzS 5 (seqS (ifS (andT (tstB (op2 eqG (op2 modG (op2 divG (getV 1) (cst (.int 997))) (cst (.int 2))) (cst (.int 1)))) (tstB (op2 neG (getV 5) (opC mkL (cst0 []))))) (putS 4 (op2 ixG (getV 5) (op1 negG (cst (.int 1))))) nxS) (seqS (whS 100000 (andT (tstB (op2 ltG (getV 4) (opC lenG (consA (getV 3) (cst0 []))))) (tstB (op2 eqG (op2 ixG (op2 ixG (getV 3) (getV 4)) (cst (.int 0))) (cst (.str "free"))))) (b_law_spot_w0 sf_law_tools)) spotRest)))))) := rfl
    have hst : startO [w.d, .int number] (taken.map .int) p 10 = [.val w.d, .val (.int number), .own (some p) (.l (taken.map .int)), .no, .no, .no, .no, .no, .no, .no] := rfl
    have e1 := holds_lc w.plan [.val w.d, .val (.int number), .own (some p) (.l (taken.map .int)), .val (planD w.plan), .val (.int (number % ((w.plan.length : Int) + 1))), .no, .no, .no, .no, .no] rfl (by simp)
    have e2 := past_loop w.plan (.val w.d) (.val (.int number)) (.own (some p) (.l (taken.map .int))) (.val (.lst (natsD (holdsOf w.plan)))) .no .no .no .no 1000 100000 j0 (by omega) hjl (by omega)
    rw [hpe] at e2
    have e3 := neG_nats (holdsOf w.plan)
    rw [hb, hst]
    rcases hj0 with ⟨c1, c2, i, e4⟩ | ⟨c, e4⟩
    · have e5 : (holdsOf w.plan).isEmpty = false := by simpa using c2
      have e6 : atI (natsD (holdsOf w.plan)) (-1) = some (.int (j0 : Int)) := by
        rw [e4, natsD, List.map_append]
        exact atI_l2 _ _
      generalize hg : natsD (holdsOf w.plan) = hs at *
      simp [startE, seqS, ifS, nxS, retS, retNS, drpS, putS, asgS, setG, getV, op2, op1, opC, consA, cst, cst0, tstB, asB, tru, truD, orT, andT, notT, andE, orE, ifE, chn, isiF, isTy, eqG_ii, eqG_ss, eqG_bb, neG_ii, neG_ss, neG_bb, isNG, notNG, notG, negG, ixG, ixO, lenG, intG, max2G, min2G, mkT, mkL, okD, opX, drpX, putX, retX, mkF, resO, ownS, ocL, ocE, ocD, frzS, borE, borT, borX, flatD, appS, mE, popM, tup2M, rmvS, setS, tupG, consG, nilG, lstN, lstG, itL, itemsL, atI_0, atI_l1, atI_l2, atI_l3, atI_1, atI_2, atI_3, st_wh, st_wf, st_hw, st_hf, st_fw, st_fh, rng1, rng2, whS, forS, prt, add_ii, sub_ii, mod_ii, div_ii, lt_ii, le_ii, gt_ii, ge_ii, hmod, hr, hc, h90, lcF, wipeE, e1, c1, e3, e5, e6, e2]
    · rw [← e4] at e2
      by_cases c1 : number / 997 % 2 = 1
      · have e5 : (holdsOf w.plan).isEmpty = true := by
          cases hh : holdsOf w.plan with
          | nil => rfl
          | cons a r => exact absurd ⟨c1, by rw [hh]; simp⟩ c
        generalize hg : natsD (holdsOf w.plan) = hs at *
        simp [startE, seqS, ifS, nxS, retS, retNS, drpS, putS, asgS, setG, getV, op2, op1, opC, consA, cst, cst0, tstB, asB, tru, truD, orT, andT, notT, andE, orE, ifE, chn, isiF, isTy, eqG_ii, eqG_ss, eqG_bb, neG_ii, neG_ss, neG_bb, isNG, notNG, notG, negG, ixG, ixO, lenG, intG, max2G, min2G, mkT, mkL, okD, opX, drpX, putX, retX, mkF, resO, ownS, ocL, ocE, ocD, frzS, borE, borT, borX, flatD, appS, mE, popM, tup2M, rmvS, setS, tupG, consG, nilG, lstN, lstG, itL, itemsL, atI_0, atI_l1, atI_l2, atI_l3, atI_1, atI_2, atI_3, st_wh, st_wf, st_hw, st_hf, st_fw, st_fh, rng1, rng2, whS, forS, prt, add_ii, sub_ii, mod_ii, div_ii, lt_ii, le_ii, gt_ii, ge_ii, hmod, hr, hc, h90, lcF, wipeE, e1, c1, e3, e5, e2]
      · generalize hg : natsD (holdsOf w.plan) = hs at *
        simp [startE, seqS, ifS, nxS, retS, retNS, drpS, putS, asgS, setG, getV, op2, op1, opC, consA, cst, cst0, tstB, asB, tru, truD, orT, andT, notT, andE, orE, ifE, chn, isiF, isTy, eqG_ii, eqG_ss, eqG_bb, neG_ii, neG_ss, neG_bb, isNG, notNG, notG, negG, ixG, ixO, lenG, intG, max2G, min2G, mkT, mkL, okD, opX, drpX, putX, retX, mkF, resO, ownS, ocL, ocE, ocD, frzS, borE, borT, borX, flatD, appS, mE, popM, tup2M, rmvS, setS, tupG, consG, nilG, lstN, lstG, itL, itemsL, atI_0, atI_l1, atI_l2, atI_l3, atI_1, atI_2, atI_3, st_wh, st_wf, st_hw, st_hf, st_fw, st_fh, rng1, rng2, whS, forS, prt, add_ii, sub_ii, mod_ii, div_ii, lt_ii, le_ii, gt_ii, ge_ii, hmod, hr, hc, h90, lcF, wipeE, e1, c1, e3, e2]
  have e7 : ∀ p : Addr, lcL (setG 9) (borT 2 (tstB (op2 (inG false) (getV 9) (getV 2)))) (getV 9) [.val w.d, .val (.int number), .own (some p) (.l (taken.map .int)), .val (planD w.plan), .val (.int (pl : Int)), .val (.lst (natsD (holdsOf w.plan))), .val (.lst ((toolsAt w.plan pl).map .int)), .no, .no, .no] ((toolsAt w.plan pl).map .int) = some (((toolsAt w.plan pl).filter fun t => taken.contains t).map .int) := fun p => taken_lc taken (some p) _ rfl (by simp) _
  have e8 := neG_nil ((toolsAt w.plan pl).filter fun t => taken.contains t)
  have hl90 : (toolsAt w.plan pl).length ≤ 90000 := by omega
  have hx90 : taken.length + (toolsAt w.plan pl).length ≤ 90000 := by omega
  generalize hg : natsD (holdsOf w.plan) = hs at *
  by_cases cap : ((toolsAt w.plan pl).filter fun t => taken.contains t) = []
  · -- it stands there
    have hap : ∀ t ∈ toolsAt w.plan pl, t ∉ taken := fun t h1 h2 => by
      have : t ∈ (toolsAt w.plan pl).filter fun t => taken.contains t := by simp [h1, h2]
      rw [cap] at this
      cases this
    rw [cap] at e7
    generalize htl2 : toolsAt w.plan pl = tl at *
    clear e8
    have e8 : neG (.lst []) (.lst []) = some (.bl false) := neG_nil []
    cases hst : w.plan[pl]? with
    | none =>
      have hnl : ¬ pl < w.plan.length := fun h => by rw [List.getElem?_eq_getElem h] at hst; cases hst
      refine ⟨(pl, 0), sf_law_spot_of rfl fun p => ?_, ⟨hpl, hnf, Int.le_refl _, (fun n h => by rw [hst] at h; cases h), fun _ => rfl, (by rw [htl2]; exact hap)⟩⟩
      rw [pre p]
      simp only [htl2]
      simp [spotRest, startE, seqS, ifS, nxS, retS, retNS, drpS, putS, asgS, setG, getV, op2, op1, opC, consA, cst, cst0, tstB, asB, tru, truD, orT, andT, notT, andE, orE, ifE, chn, isiF, isTy, eqG_ii, eqG_ss, eqG_bb, neG_ii, neG_ss, neG_bb, isNG, notNG, notG, negG, ixG, ixO, lenG, intG, max2G, min2G, mkT, mkL, okD, opX, drpX, putX, retX, mkF, resO, ownS, ocL, ocE, ocD, frzS, borE, borT, borX, flatD, appS, mE, popM, tup2M, rmvS, setS, tupG, consG, nilG, lstN, lstG, itL, itemsL, atI_0, atI_l1, atI_l2, atI_l3, atI_1, atI_2, atI_3, st_wh, st_wf, st_hw, st_hf, st_fw, st_fh, rng1, rng2, whS, forS, prt, add_ii, sub_ii, mod_ii, div_ii, lt_ii, le_ii, gt_ii, ge_ii, etools, lcF, wipeE, e7 p, e8, hl90, hx90, hnl, extS, resP]
    | some st =>
      have hpn : pl < w.plan.length := (List.getElem?_eq_some_iff.mp hst).1
      have e9 := atI_map Stp.d hst
      cases st with
      | free t => exact absurd hst (hnf t)
      | hold t =>
        refine ⟨(pl, 0), sf_law_spot_of rfl fun p => ?_, ⟨hpl, hnf, Int.le_refl _, (fun n h => by rw [hst] at h; cases h), fun _ => rfl, (by rw [htl2]; exact hap)⟩⟩
        rw [pre p]
        simp only [htl2]
        simp [spotRest, startE, seqS, ifS, nxS, retS, retNS, drpS, putS, asgS, setG, getV, op2, op1, opC, consA, cst, cst0, tstB, asB, tru, truD, orT, andT, notT, andE, orE, ifE, chn, isiF, isTy, eqG_ii, eqG_ss, eqG_bb, neG_ii, neG_ss, neG_bb, isNG, notNG, notG, negG, ixG, ixO, lenG, intG, max2G, min2G, mkT, mkL, okD, opX, drpX, putX, retX, mkF, resO, ownS, ocL, ocE, ocD, frzS, borE, borT, borX, flatD, appS, mE, popM, tup2M, rmvS, setS, tupG, consG, nilG, lstN, lstG, itL, itemsL, atI_0, atI_l1, atI_l2, atI_l3, atI_1, atI_2, atI_3, st_wh, st_wf, st_hw, st_hf, st_fw, st_fh, rng1, rng2, whS, forS, prt, add_ii, sub_ii, mod_ii, div_ii, lt_ii, le_ii, gt_ii, ge_ii, etools, lcF, wipeE, e7 p, e8, hl90, hx90, hpn, e9, Stp.d, extS, resP]
      | work n =>
        have hn := work_num g.plan hst
        have g0 : 0 ≤ number / 41 % n := Int.emod_nonneg _ (by omega)
        have g1 : number / 41 % n < n := Int.emod_lt_of_pos _ (by omega)
        have hmod2 : modG (.int (number / 41)) (.int n) = some (.int (number / 41 % n)) := mod_ii (by omega)
        refine ⟨(pl, number / 41 % n), sf_law_spot_of rfl fun p => ?_, ⟨hpl, hnf, g0, (fun m h => by rw [hst] at h; cases h; exact g1), fun h => absurd hst (h n), (by rw [htl2]; exact hap)⟩⟩
        rw [pre p]
        simp only [htl2]
        simp [spotRest, startE, seqS, ifS, nxS, retS, retNS, drpS, putS, asgS, setG, getV, op2, op1, opC, consA, cst, cst0, tstB, asB, tru, truD, orT, andT, notT, andE, orE, ifE, chn, isiF, isTy, eqG_ii, eqG_ss, eqG_bb, neG_ii, neG_ss, neG_bb, isNG, notNG, notG, negG, ixG, ixO, lenG, intG, max2G, min2G, mkT, mkL, okD, opX, drpX, putX, retX, mkF, resO, ownS, ocL, ocE, ocD, frzS, borE, borT, borX, flatD, appS, mE, popM, tup2M, rmvS, setS, tupG, consG, nilG, lstN, lstG, itL, itemsL, atI_0, atI_l1, atI_l2, atI_l3, atI_1, atI_2, atI_3, st_wh, st_wf, st_hw, st_hf, st_fw, st_fh, rng1, rng2, whS, forS, prt, add_ii, sub_ii, mod_ii, div_ii, lt_ii, le_ii, gt_ii, ge_ii, etools, lcF, wipeE, e7 p, e8, hl90, hx90, hpn, e9, Stp.d, hmod2, extS, resP]
  · -- its tools are held
    refine ⟨(0, 0), sf_law_spot_of rfl fun p => ?_, start_drawn g taken⟩
    have h00 : toolsAt w.plan 0 = [] := by simp [toolsAt, runS]
    have e10 : ((toolsAt w.plan pl).filter fun t => taken.contains t).isEmpty = false := by simpa using cap
    rw [pre p]
    simp only [h00]
    generalize ((toolsAt w.plan pl).filter fun t => taken.contains t) = fl at *
    simp [spotRest, startE, seqS, ifS, nxS, retS, retNS, drpS, putS, asgS, setG, getV, op2, op1, opC, consA, cst, cst0, tstB, asB, tru, truD, orT, andT, notT, andE, orE, ifE, chn, isiF, isTy, eqG_ii, eqG_ss, eqG_bb, neG_ii, neG_ss, neG_bb, isNG, notNG, notG, negG, ixG, ixO, lenG, intG, max2G, min2G, mkT, mkL, okD, opX, drpX, putX, retX, mkF, resO, ownS, ocL, ocE, ocD, frzS, borE, borT, borX, flatD, appS, mE, popM, tup2M, rmvS, setS, tupG, consG, nilG, lstN, lstG, itL, itemsL, atI_0, atI_l1, atI_l2, atI_l3, atI_1, atI_2, atI_3, st_wh, st_wf, st_hw, st_hf, st_fw, st_fh, rng1, rng2, whS, forS, prt, add_ii, sub_ii, mod_ii, div_ii, lt_ii, le_ii, gt_ii, ge_ii, etools, lcF, wipeE, e7 p, e8, e10, hl90, extS, resP]
end LH

namespace LH
open PySem PySem.Spec PyProof.Rows L2 Evl DL

/-! ### steps that are done -/
theorem drop_at {p : List Stp} {j : Nat} {st : Stp} (h : p[j]? = some st) : p.drop j = st :: p.drop (j + 1) := by
  have hj := (List.getElem?_eq_some_iff.mp h).1
  rw [List.drop_eq_getElem_cons hj]
  have := (List.getElem?_eq_some_iff.mp h).2
  rw [this]
theorem next_tools {p : List Stp} (g : GoodP p) {j : Nat} {st : Stp} (h : p[j]? = some st) : runS (toolsAt p j) [st] = some (toolsAt p (j + 1)) := by
  have h1 := toolsAt_run g (j + 1)
  rw [List.take_succ, h, runS_append, toolsAt_run g j] at h1
  exact h1
theorem work_tools {p : List Stp} (g : GoodP p) {j : Nat} {n : Int} (h : p[j]? = some (.work n)) : toolsAt p (j + 1) = toolsAt p j := by
  have := next_tools g h
  simp only [runS] at this
  split at this
  · exact (Option.some.inj this).symm
  · cases this
theorem free_tools {p : List Stp} (g : GoodP p) {j : Nat} {t : Int} (h : p[j]? = some (.free t)) : t ∈ toolsAt p j ∧ toolsAt p (j + 1) = (toolsAt p j).erase t := by
  have := next_tools g h
  simp only [runS] at this
  split at this
  · rename_i hm
    exact ⟨hm, (Option.some.inj this).symm⟩
  · cases this
theorem pastF_tools {p : List Stp} (g : GoodP p) : ∀ (n j : Nat), ∀ t ∈ toolsAt p (pastF p n j), t ∈ toolsAt p j
  | 0, j, t, h => h
  | n + 1, j, t, h => by
    unfold pastF at h
    split at h
    · rename_i u hu
      have := pastF_tools g n (j + 1) t h
      rw [(free_tools g hu).2] at this
      exact List.mem_of_mem_erase this
    · exact h
theorem pastF_ge (p : List Stp) : ∀ n j, j ≤ pastF p n j
  | 0, j => Nat.le_refl _
  | n + 1, j => by
    unfold pastF
    split
    · have := pastF_ge p n (j + 1); omega
    · exact Nat.le_refl _
/-- the place behind a step that is done -/
def behindM (p : List Stp) (j : Nat) : Nat := pastF p 100 (j + 1)
theorem behind_ok {w : Wkr} (g : GoodW1 w) {j : Nat} (hj : j < w.plan.length) : behindM w.plan j ≤ w.plan.length ∧ (∀ t, w.plan[behindM w.plan j]? ≠ some (.free t)) ∧ j < behindM w.plan j := by
  have := g.short
  exact ⟨pastF_le w.plan 100 (j + 1) (by omega), pastF_no w.plan 100 (j + 1) (by omega), by have := pastF_ge w.plan 100 (j + 1); unfold behindM; omega⟩
theorem spot_fresh {w : Wkr} (g : GoodW1 w) {now : Int} {j : Nat} (h1 : j ≤ w.plan.length) (h2 : ∀ t, w.plan[j]? ≠ some (.free t)) (hs : w.start ≤ now) : SpotOk w now (j, 0) where
  place := h1
  nofree := h2
  gone := Int.le_refl _
  work := fun n h => by have := (work_num g.plan h).1; show (0 : Int) < n; omega
  other := fun _ => rfl
  early := fun h => by omega
/-! ### a spot is set anew -/
def setSp (s : Shp) (k : Nat) (sp : Spot) : Shp := { s with spots := s.spots.set k sp }
theorem spot_set_same {s : Shp} (g : GoodShp s) {k : Nat} (hk : k < s.ws.length) (sp : Spot) : spotAt (setSp s k sp) k = sp := by
  unfold spotAt setSp
  have : k < s.spots.length := by rw [g.len]; exact hk
  simp [this]
theorem spot_set_ne {s : Shp} {k j : Nat} (h : j ≠ k) (sp : Spot) : spotAt (setSp s k sp) j = spotAt s j := by
  unfold spotAt setSp
  simp only [List.getD_eq_getElem?_getD]
  rw [List.getElem?_set_ne (fun e => h e.symm)]
theorem w_set (s : Shp) (k j : Nat) (sp : Spot) : wAt (setSp s k sp) j = wAt s j := rfl
theorem good_at {s : Shp} (hw : GoodL s.ws) (hn : 0 ≤ s.now) (hl : s.spots.length = s.ws.length) (h1 : ∀ k, k < s.ws.length → SpotOk (wAt s k) s.now (spotAt s k)) (h2 : ∀ i j, i < s.ws.length → j < s.ws.length → i ≠ j → ∀ t ∈ toolsAt (wAt s i).plan (spotAt s i).1, t ∉ toolsAt (wAt s j).plan (spotAt s j).1) : GoodShp s := by
  have aw : ∀ {k w}, s.ws[k]? = some w → k < s.ws.length ∧ wAt s k = w := fun {k w} h => ⟨(List.getElem?_eq_some_iff.mp h).1, by unfold wAt; rw [List.getD_eq_getElem?_getD, h]; rfl⟩
  have as : ∀ {k sp}, s.spots[k]? = some sp → spotAt s k = sp := fun {k sp} h => by unfold spotAt; rw [List.getD_eq_getElem?_getD, h]; rfl
  refine ⟨hw, hn, hl, fun k w sp a b => ?_, fun i j w v sp sq t hij a b c d e => ?_⟩
  · obtain ⟨hk, rfl⟩ := aw a
    have := as b
    subst this
    exact h1 k hk
  · obtain ⟨hi, rfl⟩ := aw a
    obtain ⟨hj, rfl⟩ := aw b
    have := as c
    subst this
    have := as d
    subst this
    exact h2 i j hi hj hij t e
theorem GoodShp.two {s : Shp} (g : GoodShp s) {i j : Nat} (hi : i < s.ws.length) (hj : j < s.ws.length) (h : i ≠ j) {t : Int} (ht : t ∈ toolsAt (wAt s i).plan (spotAt s i).1) : t ∉ toolsAt (wAt s j).plan (spotAt s j).1 :=
  g.apart i j _ _ _ _ t h (g.at_ hi).1 (g.at_ hj).1 (g.at_ hi).2.1 (g.at_ hj).2.1 ht
theorem good_set {s : Shp} (g : GoodShp s) {k : Nat} (hk : k < s.ws.length) {sp : Spot} (h : SpotOk (wAt s k) s.now sp) (ht : ∀ t ∈ toolsAt (wAt s k).plan sp.1, t ∈ toolsAt (wAt s k).plan (spotAt s k).1 ∨ ∀ j, j < s.ws.length → j ≠ k → t ∉ toolsAt (wAt s j).plan (spotAt s j).1) : GoodShp (setSp s k sp) := by
  have out : ∀ t ∈ toolsAt (wAt s k).plan sp.1, ∀ j, j < s.ws.length → j ≠ k → t ∉ toolsAt (wAt s j).plan (spotAt s j).1 := fun t hm j hj hne => by
    rcases ht t hm with h1 | h1
    · exact g.two hk hj (fun e => hne e.symm) h1
    · exact h1 j hj hne
  refine good_at (s := setSp s k sp) g.ws g.now (by simp [setSp, g.len]) (fun j hj => ?_) fun i j hi hj hij t ht2 => ?_
  · by_cases e : j = k
    · subst e
      rw [spot_set_same g hk]
      exact h
    · rw [spot_set_ne e]
      exact (g.at_ hj).2.2.2
  · by_cases ei : i = k
    · subst ei
      rw [spot_set_same g hk] at ht2
      rw [spot_set_ne (fun e => hij e.symm)]
      exact out t ht2 j hj fun e => hij e.symm
    · rw [spot_set_ne ei] at ht2
      by_cases ej : j = k
      · subst ej
        rw [spot_set_same g hk]
        exact fun h3 => out t h3 i hi ei ht2
      · rw [spot_set_ne ej]
        exact g.two hi hj hij ht2
/-- a hold whose tool nobody holds is done -/
def heldOn (s : Shp) (k : Nat) : Shp := setSp s k (behindM (wAt s k).plan (spotAt s k).1, 0)
theorem no_holder {s : Shp} {k : Nat} {t : Int} (ht : thereB s k = true) (hp : (wAt s k).plan[(spotAt s k).1]? = some (.hold t)) (hn : afterM s k = none) : ∀ j, j < s.ws.length → t ∉ toolsAt (wAt s j).plan (spotAt s j).1 := fun j hj hm => by
  unfold afterM at hn
  rw [if_pos ht, hp] at hn
  unfold holderM at hn
  have := List.find?_eq_none.mp hn j (by simpa using hj)
  exact this (by simpa [hasB] using hm)
theorem there_start {s : Shp} {k : Nat} (h : thereB s k = true) : (wAt s k).start ≤ s.now ∧ (spotAt s k).1 < (wAt s k).plan.length := by
  unfold thereB at h
  simpa using h
theorem good_hold {s : Shp} (g : GoodShp s) {k : Nat} (h : Ready s k) {t : Int} (hp : (wAt s k).plan[(spotAt s k).1]? = some (.hold t)) : GoodShp (heldOn s k) := by
  obtain ⟨hk, hth, hn⟩ := h
  obtain ⟨_, _, gw, _⟩ := g.at_ hk
  obtain ⟨h1, h2⟩ := there_start hth
  obtain ⟨b1, b2, _⟩ := behind_ok gw h2
  refine good_set g hk (spot_fresh gw b1 b2 h1) fun u hu => ?_
  have h3 := pastF_tools gw.plan _ _ u hu
  rw [(hold_above gw.plan hp).2.2.2] at h3
  rcases List.mem_append.mp h3 with h3 | h3
  · exact .inl h3
  · simp at h3
    subst h3
    exact .inr fun j hj _ => no_holder hth hp hn j hj
/-- one tick of work -/
def workedOn (s : Shp) (k : Nat) (n : Int) : Shp := setSp s k (if (spotAt s k).2 + 1 = n then (behindM (wAt s k).plan (spotAt s k).1, 0) else ((spotAt s k).1, (spotAt s k).2 + 1))
theorem good_work {s : Shp} (g : GoodShp s) {k : Nat} (hk : k < s.ws.length) (hth : thereB s k = true) {n : Int} (hp : (wAt s k).plan[(spotAt s k).1]? = some (.work n)) : GoodShp (workedOn s k n) := by
  obtain ⟨_, _, gw, sp⟩ := g.at_ hk
  obtain ⟨h1, h2⟩ := there_start hth
  obtain ⟨b1, b2, _⟩ := behind_ok gw h2
  unfold workedOn
  split
  · refine good_set g hk (spot_fresh gw b1 b2 h1) fun u hu => .inl ?_
    have h3 := pastF_tools gw.plan _ _ u hu
    rwa [work_tools gw.plan hp] at h3
  · rename_i hne
    have hlt := sp.work n hp
    have hg := sp.gone
    refine good_set g hk ⟨sp.place, sp.nofree, ?_, fun m hm => ?_, fun hm => absurd hp (hm n), fun hm => by omega⟩ fun u hu => .inl hu
    · show 0 ≤ (spotAt s k).2 + 1; omega
    · rw [hp] at hm; cases hm; show (spotAt s k).2 + 1 < n; omega
/-- the clock goes on -/
def later (s : Shp) : Shp := { s with now := s.now + 1 }
theorem good_later {s : Shp} (g : GoodShp s) : GoodShp (later s) := by
  have hn := g.now
  refine ⟨g.ws, by show 0 ≤ s.now + 1; omega, g.len, fun k w sp h1 h2 => ?_, g.apart⟩
  have h := g.spot k w sp h1 h2
  exact ⟨h.place, h.nofree, h.gone, h.work, h.other, fun hm => h.early (by have : s.now + 1 < w.start := hm; omega)⟩
end LH

namespace LH
open PySem PySem.Spec PyProof.Rows L2 Evl DL

/-! ### the greatest own rank that is there -/
def bestStep (s : Shp) (b : Option Nat) (k : Nat) : Option Nat := if thereB s k then (match b with
    | none => some k
    | some j => if rankM s j < rankM s k then some k else some j) else b
def bestM (s : Shp) : Option Nat := (List.range s.ws.length).foldl (bestStep s) none
theorem best_fold (s : Shp) : ∀ n, n ≤ s.ws.length → match (List.range n).foldl (bestStep s) none with
    | none => ∀ k, k < n → thereB s k = false
    | some b => b < n ∧ thereB s b = true ∧ ∀ k, k < n → thereB s k = true → rankM s k ≤ rankM s b
  | 0, _ => fun k h => by omega
  | n + 1, hn => by
    have ih := best_fold s n (by omega)
    rw [List.range_succ, List.foldl_append]
    simp only [List.foldl_cons, List.foldl_nil]
    cases hb : (List.range n).foldl (bestStep s) none with
    | none =>
      rw [hb] at ih
      unfold bestStep
      by_cases ht : thereB s n = true
      · rw [if_pos ht]
        refine ⟨by omega, ht, fun k hk hkt => ?_⟩
        by_cases e : k = n
        · subst e; exact Int.le_refl _
        · rw [ih k (by omega)] at hkt; cases hkt
      · rw [if_neg ht]
        intro k hk
        by_cases e : k = n
        · subst e; simpa using ht
        · exact ih k (by omega)
    | some b =>
      rw [hb] at ih
      obtain ⟨h1, h2, h3⟩ := ih
      unfold bestStep
      by_cases ht : thereB s n = true
      · rw [if_pos ht]
        simp only
        by_cases hr : rankM s b < rankM s n
        · rw [if_pos hr]
          refine ⟨by omega, ht, fun k hk hkt => ?_⟩
          by_cases e : k = n
          · subst e; exact Int.le_refl _
          · have := h3 k (by omega) hkt; omega
        · rw [if_neg hr]
          refine ⟨by omega, h2, fun k hk hkt => ?_⟩
          by_cases e : k = n
          · subst e; omega
          · exact h3 k (by omega) hkt
      · rw [if_neg ht]
        refine ⟨by omega, h2, fun k hk hkt => ?_⟩
        by_cases e : k = n
        · subst e; exact absurd hkt ht
        · exact h3 k (by omega) hkt
theorem bestM_some {s : Shp} {b : Nat} (h : bestM s = some b) : IsBest s b := by
  have := best_fold s s.ws.length (Nat.le_refl _)
  unfold bestM at h
  rw [h] at this
  exact ⟨this.1, this.2.1, this.2.2⟩
theorem bestM_none {s : Shp} (h : bestM s = none) : ∀ k, k < s.ws.length → thereB s k = false := by
  have := best_fold s s.ws.length (Nat.le_refl _)
  unfold bestM at h
  rw [h] at this
  exact this
def chosenM (s : Shp) : Option Nat := (bestM s).map (endM s 9)
theorem chosen_ready {s : Shp} (g : GoodShp s) {k : Nat} (h : chosenM s = some k) : Ready s k := by
  unfold chosenM at h
  obtain ⟨b, hb, rfl⟩ := Option.map_eq_some_iff.mp h
  have B := bestM_some hb
  exact end_ready g B.lt B.there
/-- at a ready one's place stands a hold or a work -/
theorem ready_step {s : Shp} (g : GoodShp s) {k : Nat} (h : Ready s k) : (∃ t, (wAt s k).plan[(spotAt s k).1]? = some (.hold t)) ∨ ∃ n, (wAt s k).plan[(spotAt s k).1]? = some (.work n) := by
  obtain ⟨hk, ht, _⟩ := h
  obtain ⟨_, _, _, sp⟩ := g.at_ hk
  obtain ⟨_, h2⟩ := there_start ht
  have hp := List.getElem?_eq_getElem h2
  cases hst : (wAt s k).plan[(spotAt s k).1] with
  | hold t => exact .inl ⟨t, by rw [hp, hst]⟩
  | work n => exact .inr ⟨n, by rw [hp, hst]⟩
  | free t => exact absurd (by rw [hp, hst]) (sp.nofree t)
/-! ### what is left -/
def leftK (s : Shp) (k : Nat) : Nat := (wAt s k).plan.length - (spotAt s k).1
def leftM (s : Shp) : Nat := ((List.range s.ws.length).map (leftK s)).sum
theorem sum_lt {f h : Nat → Nat} : ∀ (l : List Nat) (k : Nat), k ∈ l → l.Nodup → (∀ j ∈ l, j ≠ k → f j = h j) → f k < h k → (l.map f).sum < (l.map h).sum
  | [], k, hk, _, _, _ => by cases hk
  | a :: l, k, hk, nd, he, hl => by
    rw [List.nodup_cons] at nd
    simp only [List.map_cons, List.sum_cons]
    by_cases e : a = k
    · subst e
      have : l.map f = l.map h := List.map_congr_left fun j hj => he j (by simp [hj]) fun z => nd.1 (z ▸ hj)
      rw [this]; omega
    · have hm : k ∈ l := by
        rcases List.mem_cons.mp hk with z | z
        · exact absurd z.symm e
        · exact z
      have := sum_lt l k hm nd.2 (fun j hj => he j (by simp [hj])) hl
      rw [he a (by simp) e]; omega
theorem left_hold {s : Shp} (g : GoodShp s) {k : Nat} (hk : k < s.ws.length) (hth : thereB s k = true) : leftM (heldOn s k) < leftM s := by
  obtain ⟨_, _, gw, _⟩ := g.at_ hk
  obtain ⟨_, h2⟩ := there_start hth
  obtain ⟨b1, _, b3⟩ := behind_ok gw h2
  refine sum_lt (List.range s.ws.length) k (by simpa using hk) List.nodup_range (fun j hj hne => ?_) ?_
  · unfold leftK heldOn
    rw [spot_set_ne hne]
    rfl
  · unfold leftK heldOn
    rw [spot_set_same g hk]
    show (wAt s k).plan.length - behindM (wAt s k).plan (spotAt s k).1 < _
    omega
theorem sum_le_mul {f : Nat → Nat} {m : Nat} : ∀ (l : List Nat), (∀ j ∈ l, f j ≤ m) → (l.map f).sum ≤ l.length * m
  | [], _ => by simp
  | a :: l, h => by
    have := sum_le_mul l fun j hj => h j (by simp [hj])
    have := h a (by simp)
    simp only [List.map_cons, List.sum_cons, List.length_cons, Nat.succ_mul]
    omega
theorem left_most {s : Shp} (g : GoodShp s) : leftM s ≤ 320 := by
  have h8 := g.ws.most
  have := sum_le_mul (f := leftK s) (m := 40) (List.range s.ws.length) fun j hj => by
    have hj' : j < s.ws.length := by simpa using hj
    have := (g.at_ hj').2.2.1.short
    unfold leftK
    omega
  rw [List.length_range] at this
  unfold leftM
  omega
/-! ### one tick -/
def stepM (s : Shp) (k : Nat) : Option Stp := (wAt s k).plan[(spotAt s k).1]?
/-- the holds, of at most n -/
def holdsM : Nat → Shp → Shp × Option Nat
  | 0, s => (s, none)
  | n + 1, s => match chosenM s with
    | none => (s, none)
    | some k => match stepM s k with
      | some (.hold _) => holdsM n (heldOn s k)
      | _ => (s, some k)
def tickM (s : Shp) : Shp × Option Nat := match holdsM 1000 s with
  | (s', none) => (later s', none)
  | (s', some k) => match stepM s' k with
    | some (.work n) => (later (workedOn s' k n), some k)
    | _ => (later s', some k)
theorem holds_ok : ∀ (n : Nat) (s : Shp), GoodShp s → leftM s < n → GoodShp (holdsM n s).1 ∧ (holdsM n s).1.ws = s.ws ∧ (holdsM n s).1.now = s.now ∧ chosenM (holdsM n s).1 = (holdsM n s).2 ∧ ∀ k, (holdsM n s).2 = some k → Ready (holdsM n s).1 k ∧ ∃ m, stepM (holdsM n s).1 k = some (.work m)
  | 0, s, g, h => by omega
  | n + 1, s, g, h => by
    unfold holdsM
    cases hc : chosenM s with
    | none => exact ⟨g, rfl, rfl, hc, fun k hk => by cases hk⟩
    | some k =>
      have R := chosen_ready g hc
      rcases ready_step g R with ⟨t, ht⟩ | ⟨m, hm⟩
      · have e : stepM s k = some (.hold t) := ht
        simp only [e]
        have ih := holds_ok n (heldOn s k) (good_hold g R ht) (by have := left_hold g R.1 R.2.1; omega)
        exact ih
      · have e : stepM s k = some (.work m) := hm
        simp only [e]
        exact ⟨g, trivial, trivial, hc, fun j hj => by cases hj; exact ⟨R, m, e⟩⟩
theorem tick_ok {s : Shp} (g : GoodShp s) : GoodShp (tickM s).1 ∧ (tickM s).1.ws = s.ws ∧ (tickM s).1.now = s.now + 1 := by
  obtain ⟨h1, h2, h3, h4, h5⟩ := holds_ok 1000 s g (by have := left_most g; omega)
  unfold tickM
  generalize holdsM 1000 s = r at *
  obtain ⟨s', o⟩ := r
  cases o with
  | none => exact ⟨good_later h1, h2, by show s'.now + 1 = _; rw [show s'.now = s.now from h3]⟩
  | some k =>
    obtain ⟨R, m, hm⟩ := h5 k rfl
    simp only at hm ⊢
    rw [hm]
    exact ⟨good_later (good_work h1 R.1 R.2.1 hm), h2, by show s'.now + 1 = _; rw [show s'.now = s.now from h3]⟩
end LH

namespace LH
open PySem PySem.Spec PyProof.Rows L2 Evl DL

def b_law_chosen_f0 (sf_law_there sf_law_chain : List D → Option Res) : DEnv → Option Out := (ifS (andT (tru (opC (okD sf_law_there) (consA (getV 0) (consA (getV 2) (cst0 []))))) (orT (tstB (op2 isNG (getV 1) (cst .non))) (tstB (op2 gtG (op2 ixG (op2 ixG (op2 ixG (getV 0) (cst (.int 0))) (getV 2)) (cst (.int 0))) (op2 ixG (op2 ixG (op2 ixG (getV 0) (cst (.int 0))) (getV 1)) (cst (.int 0))))))) (putS 1 (getV 2)) nxS)
def b_law_chosen (sf_law_there sf_law_chain : List D → Option Res) : DEnv → Option Out := (seqS (putS 1 (cst .non)) (seqS (forS (rng1 (consA (opC lenG (consA (op2 ixG (getV 0) (cst (.int 0))) (cst0 []))) (cst0 []))) (setG 2) (b_law_chosen_f0 sf_law_there sf_law_chain)) (seqS (ifS (tstB (op2 isNG (getV 1) (cst .non))) (retS (cst .non)) nxS) (retS (op2 ixG (opC (okD sf_law_chain) (consA (getV 0) (consA (getV 1) (cst0 [])))) (op1 negG (cst (.int 1))))))))
def b_law_behind_w0 : DEnv → Option Out := (putS 1 (op2 addG (getV 1) (cst (.int 1))))
def b_law_behind : DEnv → Option Out := (seqS (putS 1 (op2 addG (getV 1) (cst (.int 1)))) (seqS (whS 100000 (andT (tstB (op2 ltG (getV 1) (opC lenG (consA (getV 0) (cst0 []))))) (tstB (op2 eqG (op2 ixG (op2 ixG (getV 0) (getV 1)) (cst (.int 0))) (cst (.str "free"))))) (b_law_behind_w0)) (retS (getV 1))))
def b_law_tick_w0 (sf_law_chosen sf_law_behind : List D → Option Res) : DEnv → Option Out := (seqS (setS 1 (getV 2) (opC mkT (consA (opC (okD sf_law_behind) (consA (op2 ixG (op2 ixG (op2 ixG (getV 0) (cst (.int 0))) (getV 2)) (cst (.int 2))) (consA (op2 ixG (ixO 1 (getV 2)) (cst (.int 0))) (cst0 [])))) (consA (cst (.int 0)) (cst0 []))))) (putS 2 (borE 1 (opC (okD sf_law_chosen) (consA (opC mkT (consA (op2 ixG (getV 0) (cst (.int 0))) (consA (op2 ixG (getV 0) (cst (.int 1))) (consA (getV 1) (cst0 []))))) (cst0 []))))))
def b_law_tick (sf_law_chosen sf_law_behind : List D → Option Res) : DEnv → Option Out := (seqS (ownS 1 (lstN (op2 ixG (getV 0) (cst (.int 2))))) (seqS (putS 2 (opC (okD sf_law_chosen) (consA (getV 0) (cst0 [])))) (seqS (whS 100000 (andT (tstB (op2 notNG (getV 2) (cst .non))) (tstB (op2 eqG (op2 ixG (op2 ixG (op2 ixG (op2 ixG (op2 ixG (getV 0) (cst (.int 0))) (getV 2)) (cst (.int 2))) (op2 ixG (ixO 1 (getV 2)) (cst (.int 0)))) (cst (.int 0))) (cst (.str "hold"))))) (b_law_tick_w0 sf_law_chosen sf_law_behind)) (seqS (ifS (tstB (op2 notNG (getV 2) (cst .non))) (seqS (putS 3 (op2 ixG (ixO 1 (getV 2)) (cst (.int 0)))) (seqS (putS 4 (op2 addG (op2 ixG (ixO 1 (getV 2)) (cst (.int 1))) (cst (.int 1)))) (seqS (ifS (tstB (op2 eqG (getV 4) (op2 ixG (op2 ixG (op2 ixG (op2 ixG (op2 ixG (getV 0) (cst (.int 0))) (getV 2)) (cst (.int 2))) (getV 3)) (cst (.int 1))))) (seqS (putS 3 (opC (okD sf_law_behind) (consA (op2 ixG (op2 ixG (op2 ixG (getV 0) (cst (.int 0))) (getV 2)) (cst (.int 2))) (consA (getV 3) (cst0 []))))) (putS 4 (cst (.int 0)))) nxS) (setS 1 (getV 2) (opC mkT (consA (getV 3) (consA (getV 4) (cst0 [])))))))) nxS) (frzS 1 (retS (opC mkT (consA (opC mkT (consA (op2 ixG (getV 0) (cst (.int 0))) (consA (op2 addG (op2 ixG (getV 0) (cst (.int 1))) (cst (.int 1))) (consA (getV 1) (cst0 []))))) (consA (getV 2) (cst0 []))))))))))
def b_law_rest_w0 (sf_law_tools : List D → Option Res) : DEnv → Option Out := (seqS (ifS (tstB (op2 eqG (op2 ixG (op2 ixG (getV 2) (getV 3)) (cst (.int 0))) (cst (.str "work")))) (putS 5 (op2 subG (op2 addG (getV 5) (op2 ixG (op2 ixG (getV 2) (getV 3)) (cst (.int 1)))) (getV 6))) nxS) (seqS (ifS (tstB (op2 eqG (op2 ixG (op2 ixG (getV 2) (getV 3)) (cst (.int 0))) (cst (.str "hold")))) (putS 4 (op2 addG (getV 4) (cst (.int 1)))) nxS) (seqS (ifS (tstB (op2 eqG (op2 ixG (op2 ixG (getV 2) (getV 3)) (cst (.int 0))) (cst (.str "free")))) (putS 4 (op2 subG (getV 4) (cst (.int 1)))) nxS) (seqS (putS 6 (cst (.int 0))) (putS 3 (op2 addG (getV 3) (cst (.int 1))))))))
def b_law_rest (sf_law_tools : List D → Option Res) : DEnv → Option Out := (seqS (putS 2 (op2 ixG (op2 ixG (op2 ixG (getV 0) (cst (.int 0))) (getV 1)) (cst (.int 2)))) (seqS (putS 3 (op2 ixG (op2 ixG (op2 ixG (getV 0) (cst (.int 2))) (getV 1)) (cst (.int 0)))) (seqS (putS 4 (opC lenG (consA (opC (okD sf_law_tools) (consA (getV 2) (consA (getV 3) (cst0 [])))) (cst0 [])))) (seqS (putS 5 (cst (.int 0))) (seqS (putS 6 (op2 ixG (op2 ixG (op2 ixG (getV 0) (cst (.int 2))) (getV 1)) (cst (.int 1)))) (seqS (whS 100000 (tstB (op2 gtG (getV 4) (cst (.int 0)))) (b_law_rest_w0 sf_law_tools)) (retS (getV 5))))))))
end LH

namespace LH
open PySem PySem.Spec PyProof.Rows L2 Evl DL

/-! ### _law_chosen -/
abbrev n_law_chosen : Nat := 1
def sf_law_chosen (ds : List D) : Option Res := if ds.length = 1 then resO (b_law_chosen sf_law_there sf_law_chain (startE ds 3)) else none
theorem m_law_chosen (ds : List D) (r : Res) (hl : ds.length = n_law_chosen) (hs : sf_law_chosen ds = some r) : resO (b_law_chosen sf_law_there sf_law_chain (startE ds 3)) = some r := by
  unfold sf_law_chosen at hs
  rwa [if_pos hl] at hs
theorem chosen_loop {s : Shp} (g : GoodShp s) : ∀ (js : List Nat) (b : Option Nat) (s2 : Sl), (∀ j ∈ js, j < s.ws.length) → (∀ j, b = some j → j < s.ws.length) →
    ∃ t2, forL (setG 2) (b_law_chosen_f0 sf_law_there sf_law_chain) (natsD js) [.val s.d, .val (optD b), s2] = some (.nx [.val s.d, .val (optD (js.foldl (bestStep s) b)), t2])
  | [], b, s2, _, _ => ⟨s2, rfl⟩
  | j :: js, b, s2, h, hb => by
    have hj := h j (by simp)
    have e0 := there_eq g hj
    have e1 := atI_map Wkr.d (g.at_ hj).1
    have hb' : ∀ i, bestStep s b j = some i → i < s.ws.length := fun i hi => by
      unfold bestStep at hi
      split at hi
      · split at hi
        · cases hi; exact hj
        · rename_i k
          split at hi
          · cases hi; exact hj
          · cases hi; exact hb _ rfl
      · exact hb i hi
    obtain ⟨t2, ih⟩ := chosen_loop g js (bestStep s b j) (.val (.int (j : Int))) (fun i hi => h i (by simp [hi])) hb'
    refine ⟨t2, (forL_nx rfl ?_).trans ih⟩
    cases ht : thereB s j with
    | false =>
      rw [ht] at e0
      simp [b_law_chosen_f0, startE, seqS, ifS, nxS, retS, retNS, drpS, putS, asgS, setG, getV, op2, op1, opC, consA, cst, cst0, tstB, asB, tru, truD, orT, andT, notT, andE, orE, ifE, chn, isiF, isTy, eqG_ii, eqG_ss, eqG_bb, neG_ii, neG_ss, neG_bb, isNG, notNG, notG, negG, ixG, ixO, lenG, intG, max2G, min2G, mkT, mkL, okD, opX, drpX, putX, retX, mkF, resO, ownS, ocL, ocE, ocD, frzS, borE, borT, borX, flatD, appS, mE, popM, tup2M, rmvS, setS, tupG, consG, nilG, lstN, lstG, itL, itemsL, atI_0, atI_l1, atI_l2, atI_l3, atI_1, atI_2, atI_3, st_wh, st_wf, st_hw, st_hf, st_fw, st_fh, rng1, rng2, whS, forS, prt, add_ii, sub_ii, mod_ii, div_ii, lt_ii, le_ii, gt_ii, ge_ii, e0, bestStep, ht]
    | true =>
      rw [ht] at e0
      cases b with
      | none => simp [b_law_chosen_f0, startE, seqS, ifS, nxS, retS, retNS, drpS, putS, asgS, setG, getV, op2, op1, opC, consA, cst, cst0, tstB, asB, tru, truD, orT, andT, notT, andE, orE, ifE, chn, isiF, isTy, eqG_ii, eqG_ss, eqG_bb, neG_ii, neG_ss, neG_bb, isNG, notNG, notG, negG, ixG, ixO, lenG, intG, max2G, min2G, mkT, mkL, okD, opX, drpX, putX, retX, mkF, resO, ownS, ocL, ocE, ocD, frzS, borE, borT, borX, flatD, appS, mE, popM, tup2M, rmvS, setS, tupG, consG, nilG, lstN, lstG, itL, itemsL, atI_0, atI_l1, atI_l2, atI_l3, atI_1, atI_2, atI_3, st_wh, st_wf, st_hw, st_hf, st_fw, st_fh, rng1, rng2, whS, forS, prt, add_ii, sub_ii, mod_ii, div_ii, lt_ii, le_ii, gt_ii, ge_ii, e0, bestStep, ht, optD]
      | some k =>
        have e2 := atI_map Wkr.d (g.at_ (hb k rfl)).1
        by_cases hr : rankM s k < rankM s j
        · have hr' : (wAt s k).rank < (wAt s j).rank := hr
          simp [b_law_chosen_f0, startE, seqS, ifS, nxS, retS, retNS, drpS, putS, asgS, setG, getV, op2, op1, opC, consA, cst, cst0, tstB, asB, tru, truD, orT, andT, notT, andE, orE, ifE, chn, isiF, isTy, eqG_ii, eqG_ss, eqG_bb, neG_ii, neG_ss, neG_bb, isNG, notNG, notG, negG, ixG, ixO, lenG, intG, max2G, min2G, mkT, mkL, okD, opX, drpX, putX, retX, mkF, resO, ownS, ocL, ocE, ocD, frzS, borE, borT, borX, flatD, appS, mE, popM, tup2M, rmvS, setS, tupG, consG, nilG, lstN, lstG, itL, itemsL, atI_0, atI_l1, atI_l2, atI_l3, atI_1, atI_2, atI_3, st_wh, st_wf, st_hw, st_hf, st_fw, st_fh, rng1, rng2, whS, forS, prt, add_ii, sub_ii, mod_ii, div_ii, lt_ii, le_ii, gt_ii, ge_ii, gt_ii, e0, e1, e2, bestStep, ht, optD, hr, hr']
        · have hr' : ¬ (wAt s k).rank < (wAt s j).rank := hr
          simp [b_law_chosen_f0, startE, seqS, ifS, nxS, retS, retNS, drpS, putS, asgS, setG, getV, op2, op1, opC, consA, cst, cst0, tstB, asB, tru, truD, orT, andT, notT, andE, orE, ifE, chn, isiF, isTy, eqG_ii, eqG_ss, eqG_bb, neG_ii, neG_ss, neG_bb, isNG, notNG, notG, negG, ixG, ixO, lenG, intG, max2G, min2G, mkT, mkL, okD, opX, drpX, putX, retX, mkF, resO, ownS, ocL, ocE, ocD, frzS, borE, borT, borX, flatD, appS, mE, popM, tup2M, rmvS, setS, tupG, consG, nilG, lstN, lstG, itL, itemsL, atI_0, atI_l1, atI_l2, atI_l3, atI_1, atI_2, atI_3, st_wh, st_wf, st_hw, st_hf, st_fw, st_fh, rng1, rng2, whS, forS, prt, add_ii, sub_ii, mod_ii, div_ii, lt_ii, le_ii, gt_ii, ge_ii, gt_ii, e0, e1, e2, bestStep, ht, optD, hr, hr']
theorem chosen_eq {s : Shp} (g : GoodShp s) : sf_law_chosen [s.d] = some (.ok (optD (chosenM s))) := by
  obtain ⟨t2, e⟩ := chosen_loop g (List.range s.ws.length) none .no (fun j hj => by simpa using hj) (fun j hj => by cases hj)
  have h8 := g.ws.most
  have hc : ((s.ws.length : Nat) : Int) ≤ 100000 ∧ -100000 ≤ ((s.ws.length : Nat) : Int) := by omega
  have hr : rngD 0 s.ws.length = natsD (List.range s.ws.length) := by rw [rngD_nat, List.range_eq_range']
  change forL _ _ _ [.val s.d, .val .non, .no] = some (.nx [.val s.d, .val (optD (bestM s)), t2]) at e
  unfold chosenM
  cases hb : bestM s with
  | none =>
    rw [hb] at e
    simp only [optD] at e
    simp [sf_law_chosen, b_law_chosen, startE, seqS, ifS, nxS, retS, retNS, drpS, putS, asgS, setG, getV, op2, op1, opC, consA, cst, cst0, tstB, asB, tru, truD, orT, andT, notT, andE, orE, ifE, chn, isiF, isTy, eqG_ii, eqG_ss, eqG_bb, neG_ii, neG_ss, neG_bb, isNG, notNG, notG, negG, ixG, ixO, lenG, intG, max2G, min2G, mkT, mkL, okD, opX, drpX, putX, retX, mkF, resO, ownS, ocL, ocE, ocD, frzS, borE, borT, borX, flatD, appS, mE, popM, tup2M, rmvS, setS, tupG, consG, nilG, lstN, lstG, itL, itemsL, atI_0, atI_l1, atI_l2, atI_l3, atI_1, atI_2, atI_3, st_wh, st_wf, st_hw, st_hf, st_fw, st_fh, rng1, rng2, whS, forS, prt, add_ii, sub_ii, mod_ii, div_ii, lt_ii, le_ii, gt_ii, ge_ii, hc, hr, e, optD]
  | some b =>
    rw [hb] at e
    have B := bestM_some hb
    have e2 := chain_eq g B.lt
    have e3 : atI (natsD (chainM s 9 b)) (-1) = some (.int (endM s 9 b : Nat)) := by
      have h1 := chain_last s 9 b
      obtain ⟨ys, hy⟩ := List.getLast?_eq_some_iff.mp h1
      rw [hy, natsD, List.map_append]
      exact atI_l2 _ _
    simp only [optD] at e
    generalize natsD (chainM s 9 b) = cs at *
    simp [sf_law_chosen, b_law_chosen, startE, seqS, ifS, nxS, retS, retNS, drpS, putS, asgS, setG, getV, op2, op1, opC, consA, cst, cst0, tstB, asB, tru, truD, orT, andT, notT, andE, orE, ifE, chn, isiF, isTy, eqG_ii, eqG_ss, eqG_bb, neG_ii, neG_ss, neG_bb, isNG, notNG, notG, negG, ixG, ixO, lenG, intG, max2G, min2G, mkT, mkL, okD, opX, drpX, putX, retX, mkF, resO, ownS, ocL, ocE, ocD, frzS, borE, borT, borX, flatD, appS, mE, popM, tup2M, rmvS, setS, tupG, consG, nilG, lstN, lstG, itL, itemsL, atI_0, atI_l1, atI_l2, atI_l3, atI_1, atI_2, atI_3, st_wh, st_wf, st_hw, st_hf, st_fw, st_fh, rng1, rng2, whS, forS, prt, add_ii, sub_ii, mod_ii, div_ii, lt_ii, le_ii, gt_ii, ge_ii, hc, hr, e, optD, e2, e3]
/-! ### _law_behind -/
abbrev n_law_behind : Nat := 2
def sf_law_behind (ds : List D) : Option Res := if ds.length = 2 then resO (b_law_behind (startE ds 2)) else none
theorem m_law_behind (ds : List D) (r : Res) (hl : ds.length = n_law_behind) (hs : sf_law_behind ds = some r) : resO (b_law_behind (startE ds 2)) = some r := by
  unfold sf_law_behind at hs
  rwa [if_pos hl] at hs
theorem behind_loop (p : List Stp) : ∀ (n fuel j : Nat), p.length < j + n → n < fuel →
    whL (andT (tstB (op2 ltG (getV 1) (opC lenG (consA (getV 0) (cst0 []))))) (tstB (op2 eqG (op2 ixG (op2 ixG (getV 0) (getV 1)) (cst (.int 0))) (cst (.str "free"))))) b_law_behind_w0 fuel [.val (planD p), .val (.int (j : Int))] =
      some (.nx [.val (planD p), .val (.int (pastF p n j : Nat))])
  | n, 0, j, h1, h3 => by omega
  | 0, fuel + 1, j, h1, h3 => by
    have hj : ¬ (j : Int) < p.length := by omega
    rw [whL_no]
    · rfl
    · simp [startE, seqS, ifS, nxS, retS, retNS, drpS, putS, asgS, setG, getV, op2, op1, opC, consA, cst, cst0, tstB, asB, tru, truD, orT, andT, notT, andE, orE, ifE, chn, isiF, isTy, eqG_ii, eqG_ss, eqG_bb, neG_ii, neG_ss, neG_bb, isNG, notNG, notG, negG, ixG, ixO, lenG, intG, max2G, min2G, mkT, mkL, okD, opX, drpX, putX, retX, mkF, resO, ownS, ocL, ocE, ocD, frzS, borE, borT, borX, flatD, appS, mE, popM, tup2M, rmvS, setS, tupG, consG, nilG, lstN, lstG, itL, itemsL, atI_0, atI_l1, atI_l2, atI_l3, atI_1, atI_2, atI_3, st_wh, st_wf, st_hw, st_hf, st_fw, st_fh, rng1, rng2, whS, forS, prt, add_ii, sub_ii, mod_ii, div_ii, lt_ii, le_ii, gt_ii, ge_ii, hj]
  | n + 1, fuel + 1, j, h1, h3 => by
    by_cases hj : j < p.length
    · obtain ⟨st, hst⟩ : ∃ st, p[j]? = some st := ⟨_, List.getElem?_eq_getElem hj⟩
      have e := atI_map Stp.d hst
      unfold pastF
      rw [hst]
      cases st with
      | free t =>
        have ih := behind_loop p n fuel (j + 1) (by omega) (by omega)
        refine (whL_nx ?_ ?_).trans ih
        · simp [startE, seqS, ifS, nxS, retS, retNS, drpS, putS, asgS, setG, getV, op2, op1, opC, consA, cst, cst0, tstB, asB, tru, truD, orT, andT, notT, andE, orE, ifE, chn, isiF, isTy, eqG_ii, eqG_ss, eqG_bb, neG_ii, neG_ss, neG_bb, isNG, notNG, notG, negG, ixG, ixO, lenG, intG, max2G, min2G, mkT, mkL, okD, opX, drpX, putX, retX, mkF, resO, ownS, ocL, ocE, ocD, frzS, borE, borT, borX, flatD, appS, mE, popM, tup2M, rmvS, setS, tupG, consG, nilG, lstN, lstG, itL, itemsL, atI_0, atI_l1, atI_l2, atI_l3, atI_1, atI_2, atI_3, st_wh, st_wf, st_hw, st_hf, st_fw, st_fh, rng1, rng2, whS, forS, prt, add_ii, sub_ii, mod_ii, div_ii, lt_ii, le_ii, gt_ii, ge_ii, hj, e, Stp.d]
        · simp [b_law_behind_w0, startE, seqS, ifS, nxS, retS, retNS, drpS, putS, asgS, setG, getV, op2, op1, opC, consA, cst, cst0, tstB, asB, tru, truD, orT, andT, notT, andE, orE, ifE, chn, isiF, isTy, eqG_ii, eqG_ss, eqG_bb, neG_ii, neG_ss, neG_bb, isNG, notNG, notG, negG, ixG, ixO, lenG, intG, max2G, min2G, mkT, mkL, okD, opX, drpX, putX, retX, mkF, resO, ownS, ocL, ocE, ocD, frzS, borE, borT, borX, flatD, appS, mE, popM, tup2M, rmvS, setS, tupG, consG, nilG, lstN, lstG, itL, itemsL, atI_0, atI_l1, atI_l2, atI_l3, atI_1, atI_2, atI_3, st_wh, st_wf, st_hw, st_hf, st_fw, st_fh, rng1, rng2, whS, forS, prt, add_ii, sub_ii, mod_ii, div_ii, lt_ii, le_ii, gt_ii, ge_ii]
      | work t =>
        rw [whL_no]
        simp [startE, seqS, ifS, nxS, retS, retNS, drpS, putS, asgS, setG, getV, op2, op1, opC, consA, cst, cst0, tstB, asB, tru, truD, orT, andT, notT, andE, orE, ifE, chn, isiF, isTy, eqG_ii, eqG_ss, eqG_bb, neG_ii, neG_ss, neG_bb, isNG, notNG, notG, negG, ixG, ixO, lenG, intG, max2G, min2G, mkT, mkL, okD, opX, drpX, putX, retX, mkF, resO, ownS, ocL, ocE, ocD, frzS, borE, borT, borX, flatD, appS, mE, popM, tup2M, rmvS, setS, tupG, consG, nilG, lstN, lstG, itL, itemsL, atI_0, atI_l1, atI_l2, atI_l3, atI_1, atI_2, atI_3, st_wh, st_wf, st_hw, st_hf, st_fw, st_fh, rng1, rng2, whS, forS, prt, add_ii, sub_ii, mod_ii, div_ii, lt_ii, le_ii, gt_ii, ge_ii, hj, e, Stp.d]
      | hold t =>
        rw [whL_no]
        simp [startE, seqS, ifS, nxS, retS, retNS, drpS, putS, asgS, setG, getV, op2, op1, opC, consA, cst, cst0, tstB, asB, tru, truD, orT, andT, notT, andE, orE, ifE, chn, isiF, isTy, eqG_ii, eqG_ss, eqG_bb, neG_ii, neG_ss, neG_bb, isNG, notNG, notG, negG, ixG, ixO, lenG, intG, max2G, min2G, mkT, mkL, okD, opX, drpX, putX, retX, mkF, resO, ownS, ocL, ocE, ocD, frzS, borE, borT, borX, flatD, appS, mE, popM, tup2M, rmvS, setS, tupG, consG, nilG, lstN, lstG, itL, itemsL, atI_0, atI_l1, atI_l2, atI_l3, atI_1, atI_2, atI_3, st_wh, st_wf, st_hw, st_hf, st_fw, st_fh, rng1, rng2, whS, forS, prt, add_ii, sub_ii, mod_ii, div_ii, lt_ii, le_ii, gt_ii, ge_ii, hj, e, Stp.d]
    · have hn : p[j]? = none := List.getElem?_eq_none (by omega)
      unfold pastF
      rw [hn]
      rw [whL_no]
      simp [startE, seqS, ifS, nxS, retS, retNS, drpS, putS, asgS, setG, getV, op2, op1, opC, consA, cst, cst0, tstB, asB, tru, truD, orT, andT, notT, andE, orE, ifE, chn, isiF, isTy, eqG_ii, eqG_ss, eqG_bb, neG_ii, neG_ss, neG_bb, isNG, notNG, notG, negG, ixG, ixO, lenG, intG, max2G, min2G, mkT, mkL, okD, opX, drpX, putX, retX, mkF, resO, ownS, ocL, ocE, ocD, frzS, borE, borT, borX, flatD, appS, mE, popM, tup2M, rmvS, setS, tupG, consG, nilG, lstN, lstG, itL, itemsL, atI_0, atI_l1, atI_l2, atI_l3, atI_1, atI_2, atI_3, st_wh, st_wf, st_hw, st_hf, st_fw, st_fh, rng1, rng2, whS, forS, prt, add_ii, sub_ii, mod_ii, div_ii, lt_ii, le_ii, gt_ii, ge_ii, hj]
theorem behind_eq (p : List Stp) (hp : p.length ≤ 40) (j : Nat) : sf_law_behind [planD p, .int (j : Int)] = some (.ok (.int (behindM p j : Nat))) := by
  have e := behind_loop p 100 100000 (j + 1) (by omega) (by omega)
  rw [show ((j + 1 : Nat) : Int) = (j : Int) + 1 by omega] at e
  unfold behindM
  simp [sf_law_behind, b_law_behind, startE, seqS, ifS, nxS, retS, retNS, drpS, putS, asgS, setG, getV, op2, op1, opC, consA, cst, cst0, tstB, asB, tru, truD, orT, andT, notT, andE, orE, ifE, chn, isiF, isTy, eqG_ii, eqG_ss, eqG_bb, neG_ii, neG_ss, neG_bb, isNG, notNG, notG, negG, ixG, ixO, lenG, intG, max2G, min2G, mkT, mkL, okD, opX, drpX, putX, retX, mkF, resO, ownS, ocL, ocE, ocD, frzS, borE, borT, borX, flatD, appS, mE, popM, tup2M, rmvS, setS, tupG, consG, nilG, lstN, lstG, itL, itemsL, atI_0, atI_l1, atI_l2, atI_l3, atI_1, atI_2, atI_3, st_wh, st_wf, st_hw, st_hf, st_fw, st_fh, rng1, rng2, whS, forS, prt, add_ii, sub_ii, mod_ii, div_ii, lt_ii, le_ii, gt_ii, ge_ii, e]
end LH

namespace LH
open PySem PySem.Spec PyProof.Rows L2 Evl DL

/-! ### _law_tick -/
abbrev n_law_tick : Nat := 1
def sf_law_tick (ds : List D) : Option Res := if ds.length = 1 then resO (b_law_tick sf_law_chosen sf_law_behind (startE ds 5)) else none
theorem m_law_tick (ds : List D) (r : Res) (hl : ds.length = n_law_tick) (hs : sf_law_tick ds = some r) : resO (b_law_tick sf_law_chosen sf_law_behind (startE ds 5)) = some r := by
  unfold sf_law_tick at hs
  rwa [if_pos hl] at hs
abbrev tickEnv (s cur : Shp) (k : Option Nat) : DEnv := [.val s.d, .own none (.l (cur.spots.map spotD)), .val (optD k), .no, .no]
theorem tick_test {s cur : Shp} (hw : cur.ws = s.ws) (g : GoodShp cur) {k : Nat} (hk : Ready cur k) : andT (tstB (op2 notNG (getV 2) (cst .non))) (tstB (op2 eqG (op2 ixG (op2 ixG (op2 ixG (op2 ixG (op2 ixG (getV 0) (cst (.int 0))) (getV 2)) (cst (.int 2))) (op2 ixG (ixO 1 (getV 2)) (cst (.int 0)))) (cst (.int 0))) (cst (.str "hold")))) (tickEnv s cur (some k)) = some (match stepM cur k with
    | some (.hold _) => true
    | _ => false) := by
  obtain ⟨h1, h2, gw, sp⟩ := g.at_ hk.1
  rw [hw] at h1
  have e1 := atI_map Wkr.d h1
  have e2 := atI_map spotD h2
  rcases ready_step g hk with ⟨t, ht⟩ | ⟨m, ht⟩
  · have e3 := atI_map Stp.d ht
    have e4 : stepM cur k = some (.hold t) := ht
    rw [e4]
    simp [startE, seqS, ifS, nxS, retS, retNS, drpS, putS, asgS, setG, getV, op2, op1, opC, consA, cst, cst0, tstB, asB, tru, truD, orT, andT, notT, andE, orE, ifE, chn, isiF, isTy, eqG_ii, eqG_ss, eqG_bb, neG_ii, neG_ss, neG_bb, isNG, notNG, notG, negG, ixG, ixO, lenG, intG, max2G, min2G, mkT, mkL, okD, opX, drpX, putX, retX, mkF, resO, ownS, ocL, ocE, ocD, frzS, borE, borT, borX, flatD, appS, mE, popM, tup2M, rmvS, setS, tupG, consG, nilG, lstN, lstG, itL, itemsL, atI_0, atI_l1, atI_l2, atI_l3, atI_1, atI_2, atI_3, st_wh, st_wf, st_hw, st_hf, st_fw, st_fh, rng1, rng2, whS, forS, prt, add_ii, sub_ii, mod_ii, div_ii, lt_ii, le_ii, gt_ii, ge_ii, optD, e1, e2, e3, Stp.d]
  · have e3 := atI_map Stp.d ht
    have e4 : stepM cur k = some (.work m) := ht
    rw [e4]
    simp [startE, seqS, ifS, nxS, retS, retNS, drpS, putS, asgS, setG, getV, op2, op1, opC, consA, cst, cst0, tstB, asB, tru, truD, orT, andT, notT, andE, orE, ifE, chn, isiF, isTy, eqG_ii, eqG_ss, eqG_bb, neG_ii, neG_ss, neG_bb, isNG, notNG, notG, negG, ixG, ixO, lenG, intG, max2G, min2G, mkT, mkL, okD, opX, drpX, putX, retX, mkF, resO, ownS, ocL, ocE, ocD, frzS, borE, borT, borX, flatD, appS, mE, popM, tup2M, rmvS, setS, tupG, consG, nilG, lstN, lstG, itL, itemsL, atI_0, atI_l1, atI_l2, atI_l3, atI_1, atI_2, atI_3, st_wh, st_wf, st_hw, st_hf, st_fw, st_fh, rng1, rng2, whS, forS, prt, add_ii, sub_ii, mod_ii, div_ii, lt_ii, le_ii, gt_ii, ge_ii, optD, e1, e2, e3, Stp.d]
theorem tick_body {s cur : Shp} (hw : cur.ws = s.ws) (hn : cur.now = s.now) (g : GoodShp cur) {k : Nat} (hk : Ready cur k) {t : Int} (ht : stepM cur k = some (.hold t)) : b_law_tick_w0 sf_law_chosen sf_law_behind (tickEnv s cur (some k)) = some (.nx (tickEnv s (heldOn cur k) (chosenM (heldOn cur k)))) := by
  obtain ⟨h1, h2, gw, sp⟩ := g.at_ hk.1
  have hlen : k < cur.spots.length := by rw [g.len]; exact hk.1
  have h1' := h1
  rw [hw] at h1
  have e1 := atI_map Wkr.d h1
  have e2 := atI_map spotD h2
  have e3 := behind_eq (wAt cur k).plan gw.short (spotAt cur k).1
  have e4 := chosen_eq (good_hold g hk ht)
  have e5 : (heldOn cur k).d = .tup [.lst (s.ws.map Wkr.d), .int s.now, .lst ((cur.spots.map spotD).set k (spotD (behindM (wAt cur k).plan (spotAt cur k).1, 0)))] := by
    show D.tup [.lst (cur.ws.map Wkr.d), .int cur.now, .lst ((cur.spots.set k (behindM (wAt cur k).plan (spotAt cur k).1, 0)).map spotD)] = _
    rw [hw, hn, List.map_set]
  rw [e5] at e4
  have e6 : (heldOn cur k).spots.map spotD = (cur.spots.map spotD).set k (spotD (behindM (wAt cur k).plan (spotAt cur k).1, 0)) := List.map_set
  have e7 : ixN cur.spots.length (k : Int) = some k := by rw [DL.ixN_nat, if_pos hlen]
  show _ = some (Out.nx [.val s.d, .own none (.l ((heldOn cur k).spots.map spotD)), .val (optD (chosenM (heldOn cur k))), .no, .no])
  rw [e6]
  cases hc : chosenM (heldOn cur k) with
  | none =>
    rw [hc] at e4
    simp only [optD] at e4
    simp [b_law_tick_w0, startE, seqS, ifS, nxS, retS, retNS, drpS, putS, asgS, setG, getV, op2, op1, opC, consA, cst, cst0, tstB, asB, tru, truD, orT, andT, notT, andE, orE, ifE, chn, isiF, isTy, eqG_ii, eqG_ss, eqG_bb, neG_ii, neG_ss, neG_bb, isNG, notNG, notG, negG, ixG, ixO, lenG, intG, max2G, min2G, mkT, mkL, okD, opX, drpX, putX, retX, mkF, resO, ownS, ocL, ocE, ocD, frzS, borE, borT, borX, flatD, appS, mE, popM, tup2M, rmvS, setS, tupG, consG, nilG, lstN, lstG, itL, itemsL, atI_0, atI_l1, atI_l2, atI_l3, atI_1, atI_2, atI_3, st_wh, st_wf, st_hw, st_hf, st_fw, st_fh, rng1, rng2, whS, forS, prt, add_ii, sub_ii, mod_ii, div_ii, lt_ii, le_ii, gt_ii, ge_ii, optD, e1, e2, e3, e7, e4]
  | some j =>
    rw [hc] at e4
    simp only [optD] at e4
    simp [b_law_tick_w0, startE, seqS, ifS, nxS, retS, retNS, drpS, putS, asgS, setG, getV, op2, op1, opC, consA, cst, cst0, tstB, asB, tru, truD, orT, andT, notT, andE, orE, ifE, chn, isiF, isTy, eqG_ii, eqG_ss, eqG_bb, neG_ii, neG_ss, neG_bb, isNG, notNG, notG, negG, ixG, ixO, lenG, intG, max2G, min2G, mkT, mkL, okD, opX, drpX, putX, retX, mkF, resO, ownS, ocL, ocE, ocD, frzS, borE, borT, borX, flatD, appS, mE, popM, tup2M, rmvS, setS, tupG, consG, nilG, lstN, lstG, itL, itemsL, atI_0, atI_l1, atI_l2, atI_l3, atI_1, atI_2, atI_3, st_wh, st_wf, st_hw, st_hf, st_fw, st_fh, rng1, rng2, whS, forS, prt, add_ii, sub_ii, mod_ii, div_ii, lt_ii, le_ii, gt_ii, ge_ii, optD, e1, e2, e3, e7, e4]
theorem tick_loop {s : Shp} : ∀ (n fuel : Nat) (cur : Shp), GoodShp cur → cur.ws = s.ws → cur.now = s.now → leftM cur < n → n ≤ fuel →
    whL (andT (tstB (op2 notNG (getV 2) (cst .non))) (tstB (op2 eqG (op2 ixG (op2 ixG (op2 ixG (op2 ixG (op2 ixG (getV 0) (cst (.int 0))) (getV 2)) (cst (.int 2))) (op2 ixG (ixO 1 (getV 2)) (cst (.int 0)))) (cst (.int 0))) (cst (.str "hold"))))) (b_law_tick_w0 sf_law_chosen sf_law_behind) fuel (tickEnv s cur (chosenM cur)) =
      some (.nx (tickEnv s (holdsM n cur).1 (holdsM n cur).2))
  | 0, fuel, cur, g, hw, hn, hl, hf => by omega
  | n + 1, 0, cur, g, hw, hn, hl, hf => by omega
  | n + 1, fuel + 1, cur, g, hw, hn, hl, hf => by
    unfold holdsM
    cases hc : chosenM cur with
    | none =>
      rw [whL_no]
      simp [startE, seqS, ifS, nxS, retS, retNS, drpS, putS, asgS, setG, getV, op2, op1, opC, consA, cst, cst0, tstB, asB, tru, truD, orT, andT, notT, andE, orE, ifE, chn, isiF, isTy, eqG_ii, eqG_ss, eqG_bb, neG_ii, neG_ss, neG_bb, isNG, notNG, notG, negG, ixG, ixO, lenG, intG, max2G, min2G, mkT, mkL, okD, opX, drpX, putX, retX, mkF, resO, ownS, ocL, ocE, ocD, frzS, borE, borT, borX, flatD, appS, mE, popM, tup2M, rmvS, setS, tupG, consG, nilG, lstN, lstG, itL, itemsL, atI_0, atI_l1, atI_l2, atI_l3, atI_1, atI_2, atI_3, st_wh, st_wf, st_hw, st_hf, st_fw, st_fh, rng1, rng2, whS, forS, prt, add_ii, sub_ii, mod_ii, div_ii, lt_ii, le_ii, gt_ii, ge_ii, optD]
    | some k =>
      have R := chosen_ready g hc
      have ht := tick_test hw g R
      rcases ready_step g R with ⟨t, e⟩ | ⟨m, e⟩
      · have e' : stepM cur k = some (.hold t) := e
        rw [e'] at ht
        simp only [e']
        have ih := tick_loop n fuel (heldOn cur k) (good_hold g R e) hw hn (by have := left_hold g R.1 R.2.1; omega) (by omega)
        exact (whL_nx ht (tick_body hw hn g R e')).trans ih
      · have e' : stepM cur k = some (.work m) := e
        rw [e'] at ht
        simp only [e']
        exact whL_no ht
theorem tick_eq {s : Shp} (g : GoodShp s) : sf_law_tick [s.d] = some (.ok (.tup [(tickM s).1.d, optD (tickM s).2])) := by
  obtain ⟨h1, h2, h3, h4, h5⟩ := holds_ok 1000 s g (by have := left_most g; omega)
  have e0 := tick_loop (s := s) 1000 100000 s g rfl rfl (by have := left_most g; omega) (by omega)
  have ec := chosen_eq g
  unfold tickM
  generalize holdsM 1000 s = r at *
  obtain ⟨cur, o⟩ := r
  simp only at h1 h2 h3 h4 h5 e0 ⊢
  have h90 : s.spots.length ≤ 90000 := by rw [g.len]; have := g.ws.most; omega
  have hs : cur.spots.length = s.spots.length := by rw [h1.len, g.len, h2]
  simp only [tickEnv] at e0
  cases o with
  | none =>
    generalize optD (chosenM s) = c0 at *
    simp only [optD] at e0
    simp [sf_law_tick, b_law_tick, startE, seqS, ifS, nxS, retS, retNS, drpS, putS, asgS, setG, getV, op2, op1, opC, consA, cst, cst0, tstB, asB, tru, truD, orT, andT, notT, andE, orE, ifE, chn, isiF, isTy, eqG_ii, eqG_ss, eqG_bb, neG_ii, neG_ss, neG_bb, isNG, notNG, notG, negG, ixG, ixO, lenG, intG, max2G, min2G, mkT, mkL, okD, opX, drpX, putX, retX, mkF, resO, ownS, ocL, ocE, ocD, frzS, borE, borT, borX, flatD, appS, mE, popM, tup2M, rmvS, setS, tupG, consG, nilG, lstN, lstG, itL, itemsL, atI_0, atI_l1, atI_l2, atI_l3, atI_1, atI_2, atI_3, st_wh, st_wf, st_hw, st_hf, st_fw, st_fh, rng1, rng2, whS, forS, prt, add_ii, sub_ii, mod_ii, div_ii, lt_ii, le_ii, gt_ii, ge_ii, lstN, lstG, h90, ec, e0, optD, later, h2, h3]
  | some k =>
    obtain ⟨R, m, hm⟩ := h5 k rfl
    simp only [hm]
    generalize optD (chosenM s) = c0 at *
    simp only [optD] at e0
    obtain ⟨a1, a2, gw, sp⟩ := h1.at_ R.1
    have hlen : k < cur.spots.length := by rw [h1.len]; exact R.1
    rw [h2] at a1
    have e1 := atI_map Wkr.d a1
    have e2 := atI_map spotD a2
    have e3 := atI_map Stp.d hm
    have e4 := behind_eq (wAt cur k).plan gw.short (spotAt cur k).1
    have e7 : ixN cur.spots.length (k : Int) = some k := by rw [DL.ixN_nat, if_pos hlen]
    have res : (later (workedOn cur k m)).d = .tup [.lst (s.ws.map Wkr.d), .int (s.now + 1), .lst ((cur.spots.map spotD).set k (spotD (if (spotAt cur k).2 + 1 = m then (behindM (wAt cur k).plan (spotAt cur k).1, 0) else ((spotAt cur k).1, (spotAt cur k).2 + 1))))] := by
      show D.tup [.lst (cur.ws.map Wkr.d), .int (cur.now + 1), .lst ((cur.spots.set k _).map spotD)] = _
      rw [h2, h3, List.map_set]
    rw [res]
    by_cases c : (spotAt cur k).2 + 1 = m
    · rw [if_pos c]
      simp [sf_law_tick, b_law_tick, startE, seqS, ifS, nxS, retS, retNS, drpS, putS, asgS, setG, getV, op2, op1, opC, consA, cst, cst0, tstB, asB, tru, truD, orT, andT, notT, andE, orE, ifE, chn, isiF, isTy, eqG_ii, eqG_ss, eqG_bb, neG_ii, neG_ss, neG_bb, isNG, notNG, notG, negG, ixG, ixO, lenG, intG, max2G, min2G, mkT, mkL, okD, opX, drpX, putX, retX, mkF, resO, ownS, ocL, ocE, ocD, frzS, borE, borT, borX, flatD, appS, mE, popM, tup2M, rmvS, setS, tupG, consG, nilG, lstN, lstG, itL, itemsL, atI_0, atI_l1, atI_l2, atI_l3, atI_1, atI_2, atI_3, st_wh, st_wf, st_hw, st_hf, st_fw, st_fh, rng1, rng2, whS, forS, prt, add_ii, sub_ii, mod_ii, div_ii, lt_ii, le_ii, gt_ii, ge_ii, lstN, lstG, h90, ec, e0, optD, e1, e2, e3, Stp.d, c, e4, e7]
    · rw [if_neg c]
      simp [sf_law_tick, b_law_tick, startE, seqS, ifS, nxS, retS, retNS, drpS, putS, asgS, setG, getV, op2, op1, opC, consA, cst, cst0, tstB, asB, tru, truD, orT, andT, notT, andE, orE, ifE, chn, isiF, isTy, eqG_ii, eqG_ss, eqG_bb, neG_ii, neG_ss, neG_bb, isNG, notNG, notG, negG, ixG, ixO, lenG, intG, max2G, min2G, mkT, mkL, okD, opX, drpX, putX, retX, mkF, resO, ownS, ocL, ocE, ocD, frzS, borE, borT, borX, flatD, appS, mE, popM, tup2M, rmvS, setS, tupG, consG, nilG, lstN, lstG, itL, itemsL, atI_0, atI_l1, atI_l2, atI_l3, atI_1, atI_2, atI_3, st_wh, st_wf, st_hw, st_hf, st_fw, st_fh, rng1, rng2, whS, forS, prt, add_ii, sub_ii, mod_ii, div_ii, lt_ii, le_ii, gt_ii, ge_ii, lstN, lstG, h90, ec, e0, optD, e1, e2, e3, Stp.d, c, e7]
end LH

namespace LH
open PySem PySem.Spec PyProof.Rows L2 Evl DL

/-! ### _law_rest -/
/-- the work that is left till nothing is held: c tools are held -/
def restL : List Stp → Nat → Int → Int → Int
  | _, 0, _, acc => acc
  | [], _, _, acc => acc
  | .work n :: r, c + 1, gone, acc => restL r (c + 1) 0 (acc + n - gone)
  | .hold _ :: r, c + 1, _, acc => restL r (c + 2) 0 acc
  | .free _ :: r, c + 1, _, acc => restL r c 0 acc
def restM (s : Shp) (k : Nat) : Int := restL ((wAt s k).plan.drop (spotAt s k).1) (toolsAt (wAt s k).plan (spotAt s k).1).length (spotAt s k).2 0
abbrev n_law_rest : Nat := 2
def sf_law_rest (ds : List D) : Option Res := if ds.length = 2 then resO (b_law_rest sf_law_tools (startE ds 7)) else none
theorem m_law_rest (ds : List D) (r : Res) (hl : ds.length = n_law_rest) (hs : sf_law_rest ds = some r) : resO (b_law_rest sf_law_tools (startE ds 7)) = some r := by
  unfold sf_law_rest at hs
  rwa [if_pos hl] at hs
theorem rest_loop (a0 a1 : Sl) (p : List Stp) : ∀ (steps : List Stp) (j fuel : Nat) (tools : List Int) (gone acc : Int), p.drop j = steps → runS tools steps = some [] → steps.length < fuel →
    ∃ e3 e4 e6, whL (tstB (op2 gtG (getV 4) (cst (.int 0)))) (b_law_rest_w0 sf_law_tools) fuel [a0, a1, .val (planD p), .val (.int (j : Int)), .val (.int (tools.length : Int)), .val (.int acc), .val (.int gone)] =
      some (.nx [a0, a1, .val (planD p), e3, e4, .val (.int (restL steps tools.length gone acc)), e6])
  | steps, j, 0, tools, gone, acc, hd, hr, hf => by omega
  | steps, j, fuel + 1, [], gone, acc, hd, hr, hf => by
    refine ⟨.val (.int (j : Int)), .val (.int 0), .val (.int gone), ?_⟩
    have e : restL steps ([] : List Int).length gone acc = acc := by cases steps <;> rfl
    rw [e, whL_no]
    · rfl
    · simp [startE, seqS, ifS, nxS, retS, retNS, drpS, putS, asgS, setG, getV, op2, op1, opC, consA, cst, cst0, tstB, asB, tru, truD, orT, andT, notT, andE, orE, ifE, chn, isiF, isTy, eqG_ii, eqG_ss, eqG_bb, neG_ii, neG_ss, neG_bb, isNG, notNG, notG, negG, ixG, ixO, lenG, intG, max2G, min2G, mkT, mkL, okD, opX, drpX, putX, retX, mkF, resO, ownS, ocL, ocE, ocD, frzS, borE, borT, borX, flatD, appS, mE, popM, tup2M, rmvS, setS, tupG, consG, nilG, lstN, lstG, itL, itemsL, atI_0, atI_l1, atI_l2, atI_l3, atI_1, atI_2, atI_3, st_wh, st_wf, st_hw, st_hf, st_fw, st_fh, rng1, rng2, whS, forS, prt, add_ii, sub_ii, mod_ii, div_ii, lt_ii, le_ii, gt_ii, ge_ii, gt_ii]
  | [], j, fuel + 1, t :: ts, gone, acc, hd, hr, hf => by simp [runS] at hr
  | st :: steps, j, fuel + 1, t :: ts, gone, acc, hd, hr, hf => by
    have hj : p[j]? = some st := by
      have : (p.drop j)[0]? = some st := by rw [hd]; rfl
      rwa [List.getElem?_drop, Nat.add_zero] at this
    have hd2 : p.drop (j + 1) = steps := by
      have := drop_at hj
      rw [this] at hd
      exact (List.cons.inj hd).2
    have e3 := atI_map Stp.d hj
    have hgt : ((ts.length : Int) + 1 > 0) := by omega
    have test : tstB (op2 gtG (getV 4) (cst (.int 0))) [a0, a1, .val (planD p), .val (.int (j : Int)), .val (.int ((t :: ts).length : Int)), .val (.int acc), .val (.int gone)] = some true := by
      simp [startE, seqS, ifS, nxS, retS, retNS, drpS, putS, asgS, setG, getV, op2, op1, opC, consA, cst, cst0, tstB, asB, tru, truD, orT, andT, notT, andE, orE, ifE, chn, isiF, isTy, eqG_ii, eqG_ss, eqG_bb, neG_ii, neG_ss, neG_bb, isNG, notNG, notG, negG, ixG, ixO, lenG, intG, max2G, min2G, mkT, mkL, okD, opX, drpX, putX, retX, mkF, resO, ownS, ocL, ocE, ocD, frzS, borE, borT, borX, flatD, appS, mE, popM, tup2M, rmvS, setS, tupG, consG, nilG, lstN, lstG, itL, itemsL, atI_0, atI_l1, atI_l2, atI_l3, atI_1, atI_2, atI_3, st_wh, st_wf, st_hw, st_hf, st_fw, st_fh, rng1, rng2, whS, forS, prt, add_ii, sub_ii, mod_ii, div_ii, lt_ii, le_ii, gt_ii, ge_ii, gt_ii]
    have hc : (((t :: ts).length : Nat) : Int) = (ts.length : Int) + 1 := by simp
    cases st with
    | work n =>
      simp only [runS] at hr
      split at hr
      · obtain ⟨u3, u4, u6, ih⟩ := rest_loop a0 a1 p steps (j + 1) fuel (t :: ts) 0 (acc + n - gone) hd2 hr (by simp at hf; omega)
        refine ⟨u3, u4, u6, (whL_nx test ?_).trans ih⟩
        simp [b_law_rest_w0, startE, seqS, ifS, nxS, retS, retNS, drpS, putS, asgS, setG, getV, op2, op1, opC, consA, cst, cst0, tstB, asB, tru, truD, orT, andT, notT, andE, orE, ifE, chn, isiF, isTy, eqG_ii, eqG_ss, eqG_bb, neG_ii, neG_ss, neG_bb, isNG, notNG, notG, negG, ixG, ixO, lenG, intG, max2G, min2G, mkT, mkL, okD, opX, drpX, putX, retX, mkF, resO, ownS, ocL, ocE, ocD, frzS, borE, borT, borX, flatD, appS, mE, popM, tup2M, rmvS, setS, tupG, consG, nilG, lstN, lstG, itL, itemsL, atI_0, atI_l1, atI_l2, atI_l3, atI_1, atI_2, atI_3, st_wh, st_wf, st_hw, st_hf, st_fw, st_fh, rng1, rng2, whS, forS, prt, add_ii, sub_ii, mod_ii, div_ii, lt_ii, le_ii, gt_ii, ge_ii, e3, Stp.d]
      · cases hr
    | hold u =>
      simp only [runS] at hr
      split at hr
      · obtain ⟨u3, u4, u6, ih⟩ := rest_loop a0 a1 p steps (j + 1) fuel (t :: ts ++ [u]) 0 acc hd2 hr (by simp at hf; omega)
        have el : (t :: ts ++ [u]).length = ts.length + 2 := by simp
        rw [el] at ih
        refine ⟨u3, u4, u6, (whL_nx test ?_).trans ih⟩
        simp [b_law_rest_w0, startE, seqS, ifS, nxS, retS, retNS, drpS, putS, asgS, setG, getV, op2, op1, opC, consA, cst, cst0, tstB, asB, tru, truD, orT, andT, notT, andE, orE, ifE, chn, isiF, isTy, eqG_ii, eqG_ss, eqG_bb, neG_ii, neG_ss, neG_bb, isNG, notNG, notG, negG, ixG, ixO, lenG, intG, max2G, min2G, mkT, mkL, okD, opX, drpX, putX, retX, mkF, resO, ownS, ocL, ocE, ocD, frzS, borE, borT, borX, flatD, appS, mE, popM, tup2M, rmvS, setS, tupG, consG, nilG, lstN, lstG, itL, itemsL, atI_0, atI_l1, atI_l2, atI_l3, atI_1, atI_2, atI_3, st_wh, st_wf, st_hw, st_hf, st_fw, st_fh, rng1, rng2, whS, forS, prt, add_ii, sub_ii, mod_ii, div_ii, lt_ii, le_ii, gt_ii, ge_ii, e3, Stp.d]
        omega
      · cases hr
    | free u =>
      simp only [runS] at hr
      split at hr
      · rename_i hm
        have el : ((t :: ts).erase u).length = ts.length := by rw [List.length_erase_of_mem hm]; simp
        obtain ⟨u3, u4, u6, ih⟩ := rest_loop a0 a1 p steps (j + 1) fuel ((t :: ts).erase u) 0 acc hd2 hr (by simp at hf; omega)
        rw [el] at ih
        refine ⟨u3, u4, u6, (whL_nx test ?_).trans ih⟩
        simp [b_law_rest_w0, startE, seqS, ifS, nxS, retS, retNS, drpS, putS, asgS, setG, getV, op2, op1, opC, consA, cst, cst0, tstB, asB, tru, truD, orT, andT, notT, andE, orE, ifE, chn, isiF, isTy, eqG_ii, eqG_ss, eqG_bb, neG_ii, neG_ss, neG_bb, isNG, notNG, notG, negG, ixG, ixO, lenG, intG, max2G, min2G, mkT, mkL, okD, opX, drpX, putX, retX, mkF, resO, ownS, ocL, ocE, ocD, frzS, borE, borT, borX, flatD, appS, mE, popM, tup2M, rmvS, setS, tupG, consG, nilG, lstN, lstG, itL, itemsL, atI_0, atI_l1, atI_l2, atI_l3, atI_1, atI_2, atI_3, st_wh, st_wf, st_hw, st_hf, st_fw, st_fh, rng1, rng2, whS, forS, prt, add_ii, sub_ii, mod_ii, div_ii, lt_ii, le_ii, gt_ii, ge_ii, e3, Stp.d]
      · cases hr
theorem rest_eq {s : Shp} (g : GoodShp s) {k : Nat} (hk : k < s.ws.length) : sf_law_rest [s.d, .int (k : Int)] = some (.ok (.int (restM s k))) := by
  obtain ⟨h1, h2, gw, sp⟩ := g.at_ hk
  have e1 := atI_map Wkr.d h1
  have e2 := atI_map spotD h2
  have e3 := tools_eq gw.plan gw.short (spotAt s k).1 sp.place
  obtain ⟨u3, u4, u6, e4⟩ := rest_loop (.val s.d) (.val (.int (k : Int))) (wAt s k).plan _ (spotAt s k).1 100000 (toolsAt (wAt s k).plan (spotAt s k).1) (spotAt s k).2 0 rfl (toolsAt_rest gw.plan _) (by have := gw.short; simp; omega)
  unfold restM
  simp [sf_law_rest, b_law_rest, startE, seqS, ifS, nxS, retS, retNS, drpS, putS, asgS, setG, getV, op2, op1, opC, consA, cst, cst0, tstB, asB, tru, truD, orT, andT, notT, andE, orE, ifE, chn, isiF, isTy, eqG_ii, eqG_ss, eqG_bb, neG_ii, neG_ss, neG_bb, isNG, notNG, notG, negG, ixG, ixO, lenG, intG, max2G, min2G, mkT, mkL, okD, opX, drpX, putX, retX, mkF, resO, ownS, ocL, ocE, ocD, frzS, borE, borT, borX, flatD, appS, mE, popM, tup2M, rmvS, setS, tupG, consG, nilG, lstN, lstG, itL, itemsL, atI_0, atI_l1, atI_l2, atI_l3, atI_1, atI_2, atI_3, st_wh, st_wf, st_hw, st_hf, st_fw, st_fh, rng1, rng2, whS, forS, prt, add_ii, sub_ii, mod_ii, div_ii, lt_ii, le_ii, gt_ii, ge_ii, e1, e2, e3, e4]
end LH

namespace LH
open PySem PySem.Spec PyProof.Rows L2 Evl DL

/-! ### check_worker -/
/-- none: refused by none -/
def chkW (w : D) (ranks : List Int) : Option Str := match w with
  | .tup [r, s, p] => if isNum r 1 1000000 then (match r with
      | .int k => if ranks.contains k then some "BadRank" else if isNum s 0 1000 then (if isPlan p then none else some "BadPlan") else some "BadStart"
      | _ => some "BadRank")
    else some "BadRank"
  | _ => some "BadWorker"
def workerOk : D → Bool
  | .tup [_, _, p] => planOk p
  | _ => true
abbrev n_check_worker : Nat := 2
def sf_check_worker : List D → Option Res
  | [w, .lst rs] => (match intsOf rs with
    | some ns => if workerOk w then (match chkW w ns with
      | none => some (.ok .non)
      | some c => some (.ex c)) else none
    | none => none)
  | _ => none
theorem js_rank (env : DEnv) : ∃ z, jsF [cst (.str "a rank is a number from 1 to "), op1 fmtG (cst (.int 1000000))] Str.empty env = some z := ⟨_, js_two env (by decide +kernel) (by decide +kernel) (by decide +kernel)⟩
theorem js_start (env : DEnv) : ∃ z, jsF [cst (.str "a start is a number from 0 to "), op1 fmtG (cst (.int 1000))] Str.empty env = some z := ⟨_, js_two env (by decide +kernel) (by decide +kernel) (by decide +kernel)⟩
theorem m_check_worker (ds : List D) (r : Res) (hl : ds.length = n_check_worker) (hs : sf_check_worker ds = some r) : resO (b_check_worker sf_is_number sf_is_plan (startE ds 5)) = some r := by
  unfold sf_check_worker at hs
  split at hs
  · rename_i w rs
    split at hs
    · rename_i ns hns
      split at hs
      · rename_i hok
        cases w with
        | tup xs =>
          match xs, hok with
          | [a, b, c], hok =>
            have hp : sf_is_plan [c] = some (.ok (.bl (isPlan c))) := by
              have : planOk c = true := hok
              simp [sf_is_plan, this]
            cases h1 : isNum a 1 1000000 with
            | false =>
              simp only [chkW, h1] at hs
              cases hs
              obtain ⟨z, hz⟩ := js_rank [.val (.tup [a, b, c]), .val (.lst rs), .val a, .val b, .val c]
              simp [b_check_worker, startE, seqS, ifS, nxS, retS, retNS, drpS, putS, asgS, setG, getV, op2, op1, opC, consA, cst, cst0, tstB, asB, tru, truD, orT, andT, notT, andE, orE, ifE, chn, isiF, isTy, addG, mulG, iiG, eqG_ii, eqG_ss, eqG_bb, neG_ii, neG_ss, neG_bb, isNG, notNG, notG, negG, ixG, ixO, lenG, intG, max2G, min2G, mkT, mkL, okD, opX, drpX, putX, retX, mkF, resO, ownS, ocL, ocE, ocD, frzS, borE, borT, borX, flatD, appS, mE, popM, tup2M, rmvS, setS, tupG, consG, nilG, lstN, lstG, itL, itemsL, atI_0, atI_l1, atI_l2, atI_l3, atI_1, atI_2, atI_3, st_wh, st_wf, st_hw, st_hf, st_fw, st_fh, rng1, rng2, whS, forS, prt, sf_is_number, h1, hz]
            | true =>
              cases a with
              | int k =>
                have hin : inG false (.int k) (.lst rs) = some (.bl (ns.contains k)) := by
                  obtain rfl : rs = ns.map D.int := intsOf_map hns
                  rw [inG_ints]; simp
                cases h2 : ns.contains k with
                | true =>
                  rw [h2] at hin
                  simp only [chkW, h1, h2, if_true] at hs
                  cases hs
                  simp [b_check_worker, startE, seqS, ifS, nxS, retS, retNS, drpS, putS, asgS, setG, getV, op2, op1, opC, consA, cst, cst0, tstB, asB, tru, truD, orT, andT, notT, andE, orE, ifE, chn, isiF, isTy, addG, mulG, iiG, eqG_ii, eqG_ss, eqG_bb, neG_ii, neG_ss, neG_bb, isNG, notNG, notG, negG, ixG, ixO, lenG, intG, max2G, min2G, mkT, mkL, okD, opX, drpX, putX, retX, mkF, resO, ownS, ocL, ocE, ocD, frzS, borE, borT, borX, flatD, appS, mE, popM, tup2M, rmvS, setS, tupG, consG, nilG, lstN, lstG, itL, itemsL, atI_0, atI_l1, atI_l2, atI_l3, atI_1, atI_2, atI_3, st_wh, st_wf, st_hw, st_hf, st_fw, st_fh, rng1, rng2, whS, forS, prt, sf_is_number, h1, hin]
                | false =>
                  rw [h2] at hin
                  cases h3 : isNum b 0 1000 with
                  | false =>
                    simp only [chkW, h1, h2, h3, if_true, Bool.false_eq_true, if_false] at hs
                    cases hs
                    obtain ⟨z, hz⟩ := js_start [.val (.tup [.int k, b, c]), .val (.lst rs), .val (.int k), .val b, .val c]
                    simp [b_check_worker, startE, seqS, ifS, nxS, retS, retNS, drpS, putS, asgS, setG, getV, op2, op1, opC, consA, cst, cst0, tstB, asB, tru, truD, orT, andT, notT, andE, orE, ifE, chn, isiF, isTy, addG, mulG, iiG, eqG_ii, eqG_ss, eqG_bb, neG_ii, neG_ss, neG_bb, isNG, notNG, notG, negG, ixG, ixO, lenG, intG, max2G, min2G, mkT, mkL, okD, opX, drpX, putX, retX, mkF, resO, ownS, ocL, ocE, ocD, frzS, borE, borT, borX, flatD, appS, mE, popM, tup2M, rmvS, setS, tupG, consG, nilG, lstN, lstG, itL, itemsL, atI_0, atI_l1, atI_l2, atI_l3, atI_1, atI_2, atI_3, st_wh, st_wf, st_hw, st_hf, st_fw, st_fh, rng1, rng2, whS, forS, prt, sf_is_number, h1, hin, h3, hz]
                  | true =>
                    cases h4 : isPlan c with
                    | false =>
                      simp only [chkW, h1, h2, h3, h4, if_true, Bool.false_eq_true, if_false] at hs
                      cases hs
                      simp [b_check_worker, startE, seqS, ifS, nxS, retS, retNS, drpS, putS, asgS, setG, getV, op2, op1, opC, consA, cst, cst0, tstB, asB, tru, truD, orT, andT, notT, andE, orE, ifE, chn, isiF, isTy, addG, mulG, iiG, eqG_ii, eqG_ss, eqG_bb, neG_ii, neG_ss, neG_bb, isNG, notNG, notG, negG, ixG, ixO, lenG, intG, max2G, min2G, mkT, mkL, okD, opX, drpX, putX, retX, mkF, resO, ownS, ocL, ocE, ocD, frzS, borE, borT, borX, flatD, appS, mE, popM, tup2M, rmvS, setS, tupG, consG, nilG, lstN, lstG, itL, itemsL, atI_0, atI_l1, atI_l2, atI_l3, atI_1, atI_2, atI_3, st_wh, st_wf, st_hw, st_hf, st_fw, st_fh, rng1, rng2, whS, forS, prt, sf_is_number, h1, hin, h3, hp, h4]
                    | true =>
                      simp only [chkW, h1, h2, h3, h4, if_true, Bool.false_eq_true, if_false] at hs
                      cases hs
                      simp [b_check_worker, startE, seqS, ifS, nxS, retS, retNS, drpS, putS, asgS, setG, getV, op2, op1, opC, consA, cst, cst0, tstB, asB, tru, truD, orT, andT, notT, andE, orE, ifE, chn, isiF, isTy, addG, mulG, iiG, eqG_ii, eqG_ss, eqG_bb, neG_ii, neG_ss, neG_bb, isNG, notNG, notG, negG, ixG, ixO, lenG, intG, max2G, min2G, mkT, mkL, okD, opX, drpX, putX, retX, mkF, resO, ownS, ocL, ocE, ocD, frzS, borE, borT, borX, flatD, appS, mE, popM, tup2M, rmvS, setS, tupG, consG, nilG, lstN, lstG, itL, itemsL, atI_0, atI_l1, atI_l2, atI_l3, atI_1, atI_2, atI_3, st_wh, st_wf, st_hw, st_hf, st_fw, st_fh, rng1, rng2, whS, forS, prt, sf_is_number, h1, hin, h3, hp, h4]
              | _ => cases h1
          | [], _ => cases hs; simp [b_check_worker, startE, seqS, ifS, nxS, retS, retNS, drpS, putS, asgS, setG, getV, op2, op1, opC, consA, cst, cst0, tstB, asB, tru, truD, orT, andT, notT, andE, orE, ifE, chn, isiF, isTy, addG, mulG, iiG, eqG_ii, eqG_ss, eqG_bb, neG_ii, neG_ss, neG_bb, isNG, notNG, notG, negG, ixG, ixO, lenG, intG, max2G, min2G, mkT, mkL, okD, opX, drpX, putX, retX, mkF, resO, ownS, ocL, ocE, ocD, frzS, borE, borT, borX, flatD, appS, mE, popM, tup2M, rmvS, setS, tupG, consG, nilG, lstN, lstG, itL, itemsL, atI_0, atI_l1, atI_l2, atI_l3, atI_1, atI_2, atI_3, st_wh, st_wf, st_hw, st_hf, st_fw, st_fh, rng1, rng2, whS, forS, prt]
          | [_], _ => cases hs; simp [b_check_worker, startE, seqS, ifS, nxS, retS, retNS, drpS, putS, asgS, setG, getV, op2, op1, opC, consA, cst, cst0, tstB, asB, tru, truD, orT, andT, notT, andE, orE, ifE, chn, isiF, isTy, addG, mulG, iiG, eqG_ii, eqG_ss, eqG_bb, neG_ii, neG_ss, neG_bb, isNG, notNG, notG, negG, ixG, ixO, lenG, intG, max2G, min2G, mkT, mkL, okD, opX, drpX, putX, retX, mkF, resO, ownS, ocL, ocE, ocD, frzS, borE, borT, borX, flatD, appS, mE, popM, tup2M, rmvS, setS, tupG, consG, nilG, lstN, lstG, itL, itemsL, atI_0, atI_l1, atI_l2, atI_l3, atI_1, atI_2, atI_3, st_wh, st_wf, st_hw, st_hf, st_fw, st_fh, rng1, rng2, whS, forS, prt]
          | [_, _], _ => cases hs; simp [b_check_worker, startE, seqS, ifS, nxS, retS, retNS, drpS, putS, asgS, setG, getV, op2, op1, opC, consA, cst, cst0, tstB, asB, tru, truD, orT, andT, notT, andE, orE, ifE, chn, isiF, isTy, addG, mulG, iiG, eqG_ii, eqG_ss, eqG_bb, neG_ii, neG_ss, neG_bb, isNG, notNG, notG, negG, ixG, ixO, lenG, intG, max2G, min2G, mkT, mkL, okD, opX, drpX, putX, retX, mkF, resO, ownS, ocL, ocE, ocD, frzS, borE, borT, borX, flatD, appS, mE, popM, tup2M, rmvS, setS, tupG, consG, nilG, lstN, lstG, itL, itemsL, atI_0, atI_l1, atI_l2, atI_l3, atI_1, atI_2, atI_3, st_wh, st_wf, st_hw, st_hf, st_fw, st_fh, rng1, rng2, whS, forS, prt]
          | _ :: _ :: _ :: _ :: l, _ =>
            have h : ¬ ((l.length : Int) + 1 + 1 + 1 + 1 = 3) := by omega
            cases hs; simp [b_check_worker, startE, seqS, ifS, nxS, retS, retNS, drpS, putS, asgS, setG, getV, op2, op1, opC, consA, cst, cst0, tstB, asB, tru, truD, orT, andT, notT, andE, orE, ifE, chn, isiF, isTy, addG, mulG, iiG, eqG_ii, eqG_ss, eqG_bb, neG_ii, neG_ss, neG_bb, isNG, notNG, notG, negG, ixG, ixO, lenG, intG, max2G, min2G, mkT, mkL, okD, opX, drpX, putX, retX, mkF, resO, ownS, ocL, ocE, ocD, frzS, borE, borT, borX, flatD, appS, mE, popM, tup2M, rmvS, setS, tupG, consG, nilG, lstN, lstG, itL, itemsL, atI_0, atI_l1, atI_l2, atI_l3, atI_1, atI_2, atI_3, st_wh, st_wf, st_hw, st_hf, st_fw, st_fh, rng1, rng2, whS, forS, prt, h]
        | _ => cases hs; simp [b_check_worker, startE, seqS, ifS, nxS, retS, retNS, drpS, putS, asgS, setG, getV, op2, op1, opC, consA, cst, cst0, tstB, asB, tru, truD, orT, andT, notT, andE, orE, ifE, chn, isiF, isTy, addG, mulG, iiG, eqG_ii, eqG_ss, eqG_bb, neG_ii, neG_ss, neG_bb, isNG, notNG, notG, negG, ixG, ixO, lenG, intG, max2G, min2G, mkT, mkL, okD, opX, drpX, putX, retX, mkF, resO, ownS, ocL, ocE, ocD, frzS, borE, borT, borX, flatD, appS, mE, popM, tup2M, rmvS, setS, tupG, consG, nilG, lstN, lstG, itL, itemsL, atI_0, atI_l1, atI_l2, atI_l3, atI_1, atI_2, atI_3, st_wh, st_wf, st_hw, st_hf, st_fw, st_fh, rng1, rng2, whS, forS, prt]
      · cases hs
    · cases hs
  · cases hs

/-! ### check_number, plan_of, place_of -/
abbrev n_check_number : Nat := 2
/-- the number of workers of a shop -/
def manyS : D → Option Nat
  | .tup (.lst ws :: _) => some ws.length
  | _ => none
def sf_check_number : List D → Option Res
  | [s, k] => (match manyS s with
    | some m => if isNum k 0 ((m : Int) - 1) then some (.ok .non) else some (.ex "NoWorker")
    | none => none)
  | _ => none
theorem m_check_number (ds : List D) (r : Res) (hl : ds.length = n_check_number) (hs : sf_check_number ds = some r) : resO (b_check_number sf_is_number (startE ds 2)) = some r := by
  unfold sf_check_number at hs
  split at hs
  · rename_i s k
    split at hs
    · rename_i m hm
      unfold manyS at hm
      split at hm
      · rename_i ws t
        cases hm
        cases h : isNum k 0 ((ws.length : Int) - 1) with
        | true =>
          rw [h] at hs
          cases hs
          simp [b_check_number, startE, seqS, ifS, nxS, retS, retNS, drpS, putS, asgS, setG, getV, op2, op1, opC, consA, cst, cst0, tstB, asB, tru, truD, orT, andT, notT, andE, orE, ifE, chn, isiF, isTy, addG, mulG, iiG, eqG_ii, eqG_ss, eqG_bb, neG_ii, neG_ss, neG_bb, isNG, notNG, notG, negG, ixG, ixO, lenG, intG, max2G, min2G, mkT, mkL, okD, opX, drpX, putX, retX, mkF, resO, ownS, ocL, ocE, ocD, frzS, borE, borT, borX, flatD, appS, mE, popM, tup2M, rmvS, setS, tupG, consG, nilG, lstN, lstG, itL, itemsL, atI_0, atI_l1, atI_l2, atI_l3, atI_1, atI_2, atI_3, st_wh, st_wf, st_hw, st_hf, st_fw, st_fh, rng1, rng2, whS, forS, prt, sf_is_number, subG, h]
        | false =>
          rw [h] at hs
          cases hs
          simp [b_check_number, startE, seqS, ifS, nxS, retS, retNS, drpS, putS, asgS, setG, getV, op2, op1, opC, consA, cst, cst0, tstB, asB, tru, truD, orT, andT, notT, andE, orE, ifE, chn, isiF, isTy, addG, mulG, iiG, eqG_ii, eqG_ss, eqG_bb, neG_ii, neG_ss, neG_bb, isNG, notNG, notG, negG, ixG, ixO, lenG, intG, max2G, min2G, mkT, mkL, okD, opX, drpX, putX, retX, mkF, resO, ownS, ocL, ocE, ocD, frzS, borE, borT, borX, flatD, appS, mE, popM, tup2M, rmvS, setS, tupG, consG, nilG, lstN, lstG, itL, itemsL, atI_0, atI_l1, atI_l2, atI_l3, atI_1, atI_2, atI_3, st_wh, st_wf, st_hw, st_hf, st_fw, st_fh, rng1, rng2, whS, forS, prt, sf_is_number, subG, h]
      · cases hm
    · cases hs
  · cases hs
abbrev n_plan_of : Nat := 2
def sf_plan_of : List D → Option Res
  | [s, k] => (match (ixG s (.int 0)).bind fun a => (ixG a k).bind fun b => ixG b (.int 2) with
    | some d => some (.ok d)
    | none => none)
  | _ => none
theorem m_plan_of (ds : List D) (r : Res) (hl : ds.length = n_plan_of) (hs : sf_plan_of ds = some r) : resO (b_plan_of (startE ds 2)) = some r := by
  unfold sf_plan_of at hs
  split at hs
  · rename_i s k
    split at hs
    · rename_i d hd
      cases hs
      obtain ⟨a, ha, h2⟩ := Option.bind_eq_some_iff.mp hd
      obtain ⟨b, hb, h3⟩ := Option.bind_eq_some_iff.mp h2
      simp [b_plan_of, startE, retS, op2, getV, cst, ha, hb, h3, resO]
    · cases hs
  · cases hs
abbrev n_place_of : Nat := 2
def sf_place_of : List D → Option Res
  | [s, k] => (match (ixG s (.int 2)).bind fun a => (ixG a k).bind fun b => ixG b (.int 0) with
    | some d => some (.ok d)
    | none => none)
  | _ => none
theorem m_place_of (ds : List D) (r : Res) (hl : ds.length = n_place_of) (hs : sf_place_of ds = some r) : resO (b_place_of (startE ds 2)) = some r := by
  unfold sf_place_of at hs
  split at hs
  · rename_i s k
    split at hs
    · rename_i d hd
      cases hs
      obtain ⟨a, ha, h2⟩ := Option.bind_eq_some_iff.mp hd
      obtain ⟨b, hb, h3⟩ := Option.bind_eq_some_iff.mp h2
      simp [b_place_of, startE, retS, op2, getV, cst, ha, hb, h3, resO]
    · cases hs
  · cases hs
end LH

namespace LH
open PySem PySem.Spec PyProof.Rows L2 Evl DL

/-! ### begun -/
def begL : List D → List Int → Option (Option Str)
  | [], _ => some none
  | w :: ws, ranks => if workerOk w then (match chkW w ranks with
      | some c => some (some c)
      | none => (match w with
        | .tup [.int k, _, _] => begL ws (ranks ++ [k])
        | _ => none))
    else none
def shop0 (ws : List D) : D := .tup [.lst ws, .int 0, .lst (ws.map fun _ => .tup [.int 0, .int 0])]
abbrev n_begun : Nat := 1
def sf_begun : List D → Option Res
  | [.lst ws] => if 1 ≤ ws.length ∧ ws.length ≤ 8 then (match begL ws [] with
      | some none => some (.ok (shop0 ws))
      | some (some c) => some (.ex c)
      | none => none) else some (.ex "TooMany")
  | _ => none
/-- a worker that was refused by none -/
def goodW (w : D) : Prop := ∃ k s p, w = .tup [.int k, .int s, .lst p] ∧ 1 ≤ p.length ∧ p.length ≤ 40 ∧ p.all isStep = true ∧ hrL [] p = some true ∧ 1 ≤ k ∧ k ≤ 1000000 ∧ 0 ≤ s ∧ s ≤ 1000
theorem chkW_none {w : D} {rs : List Int} (h : chkW w rs = none) (ok : workerOk w = true) : ∃ k s p, w = .tup [.int k, .int s, .lst p] ∧ 1 ≤ p.length ∧ p.length ≤ 40 ∧ p.all isStep = true ∧ hrL [] p = some true ∧ 1 ≤ k ∧ k ≤ 1000000 ∧ 0 ≤ s ∧ s ≤ 1000 ∧ rs.contains k = false := by
  unfold chkW at h
  split at h
  · rename_i r s p
    split at h
    · rename_i h1
      split at h
      · rename_i k
        split at h
        · cases h
        · rename_i h2
          split at h
          · rename_i h3
            split at h
            · rename_i h4
              unfold isPlan at h4
              split at h4
              · rename_i ds
                simp only [Bool.and_eq_true, decide_eq_true_eq] at h4
                obtain ⟨⟨⟨p1, p2⟩, p3⟩, p4⟩ := h4
                unfold isNum at h1 h3
                simp only [Bool.and_eq_true, decide_eq_true_eq] at h1
                split at h3
                · rename_i i
                  simp only [Bool.and_eq_true, decide_eq_true_eq] at h3
                  refine ⟨k, i, ds, rfl, p1, p2, p3, p4, h1.1, h1.2, h3.1, h3.2, ?_⟩
                  cases q : rs.contains k with
                  | true => exact absurd q h2
                  | false => rfl
                · cases h3
              · cases h4
            · cases h
          · cases h
      · cases h
    · cases h
  · cases h
theorem lc_workers (ws : List D) (hg : ∀ w ∈ ws, goodW w) (env : DEnv) (hw : env.length = 4) : lcL (tupG 3 (consG (setG 1) (consG (setG 2) (consG (setG 3) nilG)))) (cst0 true) (opC mkT (consA (getV 1) (consA (getV 2) (consA (ocE (lstN (getV 3))) (cst0 []))))) env ws = some ws := by
  have := lcL_all (gf := tupG 3 (consG (setG 1) (consG (setG 2) (consG (setG 3) nilG)))) (E := opC mkT (consA (getV 1) (consA (getV 2) (consA (ocE (lstN (getV 3))) (cst0 []))))) (w := env) (fun d : D => d) (fun d => d) ws fun w hm => by
    obtain ⟨k, s, p, rfl, p1, p2, _⟩ := hg w hm
    match env, hw with
    | [_, _, _, _], _ =>
      have : p.length ≤ 90000 := by omega
      refine ⟨_, rfl, ?_⟩
      simp [startE, seqS, ifS, nxS, retS, retNS, drpS, putS, asgS, setG, getV, op2, op1, opC, consA, cst, cst0, tstB, asB, tru, truD, orT, andT, notT, andE, orE, ifE, chn, isiF, isTy, addG, mulG, iiG, eqG_ii, eqG_ss, eqG_bb, neG_ii, neG_ss, neG_bb, isNG, notNG, notG, negG, ixG, ixO, lenG, intG, max2G, min2G, mkT, mkL, okD, opX, drpX, putX, retX, mkF, resO, ownS, ocL, ocE, ocD, frzS, borE, borT, borX, flatD, appS, mE, popM, tup2M, rmvS, setS, tupG, consG, nilG, lstN, lstG, itL, itemsL, atI_0, atI_l1, atI_l2, atI_l3, atI_1, atI_2, atI_3, st_wh, st_wf, st_hw, st_hf, st_fw, st_fh, rng1, rng2, whS, forS, prt, this]
  simpa using this
abbrev n_copied : Nat := 1
def sf_copied (ds : List D) : Option Res := if ds.length = 1 then resO (b_copied (startE ds 4)) else none
theorem m_copied (ds : List D) (r : Res) (hl : ds.length = n_copied) (hs : sf_copied ds = some r) : resO (b_copied (startE ds 4)) = some r := by
  rw [sf_copied, if_pos hl] at hs
  exact hs
theorem copied_eq (ws : List D) (hg : ∀ w ∈ ws, goodW w) (hl : ws.length ≤ 1000) : sf_copied [.lst ws] = some (.ok (.lst ws)) := by
  have e1 := lc_workers ws hg [.val (.lst ws), .no, .no, .no] rfl
  have h90 : ws.length ≤ 90000 := by omega
  simp [sf_copied, b_copied, startE, seqS, ifS, nxS, retS, retNS, drpS, putS, asgS, setG, getV, op2, op1, opC, consA, cst, cst0, tstB, asB, tru, truD, orT, andT, notT, andE, orE, ifE, chn, isiF, isTy, addG, mulG, iiG, eqG_ii, eqG_ss, eqG_bb, neG_ii, neG_ss, neG_bb, isNG, notNG, notG, negG, ixG, ixO, lenG, intG, max2G, min2G, mkT, mkL, okD, opX, drpX, putX, retX, mkF, resO, ownS, ocL, ocE, ocD, frzS, borE, borT, borX, flatD, appS, mE, popM, tup2M, rmvS, setS, tupG, consG, nilG, lstN, lstG, itL, itemsL, atI_0, atI_l1, atI_l2, atI_l3, atI_1, atI_2, atI_3, st_wh, st_wf, st_hw, st_hf, st_fw, st_fh, rng1, rng2, whS, forS, prt, lcF, wipeE, e1, h90]
theorem lc_spots (ws : List D) (env : DEnv) (hw : env.length = 4) : lcL (setG 3) (cst0 true) (opC mkT (consA (cst (.int 0)) (consA (cst (.int 0)) (cst0 [])))) env ws = some (ws.map fun _ => .tup [.int 0, .int 0]) := by
  have := lcL_all (gf := setG 3) (E := opC mkT (consA (cst (.int 0)) (consA (cst (.int 0)) (cst0 [])))) (w := env) (fun d : D => d) (fun d => .tup [.int 0, .int 0]) ws fun w hm => ⟨_, rfl, by simp [startE, seqS, ifS, nxS, retS, retNS, drpS, putS, asgS, setG, getV, op2, op1, opC, consA, cst, cst0, tstB, asB, tru, truD, orT, andT, notT, andE, orE, ifE, chn, isiF, isTy, addG, mulG, iiG, eqG_ii, eqG_ss, eqG_bb, neG_ii, neG_ss, neG_bb, isNG, notNG, notG, negG, ixG, ixO, lenG, intG, max2G, min2G, mkT, mkL, okD, opX, drpX, putX, retX, mkF, resO, ownS, ocL, ocE, ocD, frzS, borE, borT, borX, flatD, appS, mE, popM, tup2M, rmvS, setS, tupG, consG, nilG, lstN, lstG, itL, itemsL, atI_0, atI_l1, atI_l2, atI_l3, atI_1, atI_2, atI_3, st_wh, st_wf, st_hw, st_hf, st_fw, st_fh, rng1, rng2, whS, forS, prt]⟩
  simpa using this
theorem l_begun (W : Sl) : ∀ (ws : List D) (ranks : List Int) (o : Option Str) (s2 : Sl), ranks.length + ws.length ≤ 1000 → begL ws ranks = some o →
    match o with
    | some c => ∃ e, forL (setG 2) (b_begun_f0 sf_check_worker sf_copied) ws [W, .own none (.l (ranks.map .int)), s2, .no] = some (.ex c e)
    | none => (∃ (rs : List Int) (t2 : Sl), forL (setG 2) (b_begun_f0 sf_check_worker sf_copied) ws [W, .own none (.l (ranks.map .int)), s2, .no] = some (.nx [W, .own none (.l (rs.map .int)), t2, .no])) ∧ ∀ w ∈ ws, goodW w
  | [], ranks, o, s2, hl, h => by
    cases h
    exact ⟨⟨ranks, s2, rfl⟩, fun _ h => by cases h⟩
  | w :: ws, ranks, o, s2, hl, h => by
    unfold begL at h
    split at h
    · rename_i hok
      split at h
      · rename_i c hc
        cases h
        have e1 : sf_check_worker [w, .lst (ranks.map .int)] = some (.ex c) := by
          simp [sf_check_worker, intsOf_ints, hok, hc]
        refine ⟨[W, .own none (.l (ranks.map .int)), .val w, .no], forL_ex rfl ?_⟩
        simp [b_begun_f0, startE, seqS, ifS, nxS, retS, retNS, drpS, putS, asgS, setG, getV, op2, op1, opC, consA, cst, cst0, tstB, asB, tru, truD, orT, andT, notT, andE, orE, ifE, chn, isiF, isTy, addG, mulG, iiG, eqG_ii, eqG_ss, eqG_bb, neG_ii, neG_ss, neG_bb, isNG, notNG, notG, negG, ixG, ixO, lenG, intG, max2G, min2G, mkT, mkL, okD, opX, drpX, putX, retX, mkF, resO, ownS, ocL, ocE, ocD, frzS, borE, borT, borX, flatD, appS, mE, popM, tup2M, rmvS, setS, tupG, consG, nilG, lstN, lstG, itL, itemsL, atI_0, atI_l1, atI_l2, atI_l3, atI_1, atI_2, atI_3, st_wh, st_wf, st_hw, st_hf, st_fw, st_fh, rng1, rng2, whS, forS, prt, e1]
      · rename_i hc
        have e1 : sf_check_worker [w, .lst (ranks.map .int)] = some (.ok .non) := by
          simp [sf_check_worker, intsOf_ints, hok, hc]
        obtain ⟨k, s, p, rfl, p1, p2, p3, p4, p5, p6, p7, p8, p9⟩ := chkW_none hc hok
        simp only at h
        have hl2 : (ranks ++ [k]).length + ws.length ≤ 1000 := by simp at hl ⊢; omega
        have hl3 : ranks.length ≤ 90000 := by omega
        have ih := l_begun W ws (ranks ++ [k]) o (.val (.tup [.int k, .int s, .lst p])) hl2 h
        have step : forL (setG 2) (b_begun_f0 sf_check_worker sf_copied) (.tup [.int k, .int s, .lst p] :: ws) [W, .own none (.l (ranks.map .int)), s2, .no] = forL (setG 2) (b_begun_f0 sf_check_worker sf_copied) ws [W, .own none (.l ((ranks ++ [k]).map .int)), .val (.tup [.int k, .int s, .lst p]), .no] := by
          refine forL_nx rfl ?_
          simp [b_begun_f0, startE, seqS, ifS, nxS, retS, retNS, drpS, putS, asgS, setG, getV, op2, op1, opC, consA, cst, cst0, tstB, asB, tru, truD, orT, andT, notT, andE, orE, ifE, chn, isiF, isTy, addG, mulG, iiG, eqG_ii, eqG_ss, eqG_bb, neG_ii, neG_ss, neG_bb, isNG, notNG, notG, negG, ixG, ixO, lenG, intG, max2G, min2G, mkT, mkL, okD, opX, drpX, putX, retX, mkF, resO, ownS, ocL, ocE, ocD, frzS, borE, borT, borX, flatD, appS, mE, popM, tup2M, rmvS, setS, tupG, consG, nilG, lstN, lstG, itL, itemsL, atI_0, atI_l1, atI_l2, atI_l3, atI_1, atI_2, atI_3, st_wh, st_wf, st_hw, st_hf, st_fw, st_fh, rng1, rng2, whS, forS, prt, e1, hl3]
        cases o with
        | some c =>
          obtain ⟨e, he⟩ := ih
          exact ⟨e, step.trans he⟩
        | none =>
          obtain ⟨⟨rs, t2, he⟩, hg⟩ := ih
          refine ⟨⟨rs, t2, step.trans he⟩, fun w hw => ?_⟩
          rcases List.mem_cons.mp hw with rfl | hw
          · exact ⟨k, s, p, rfl, p1, p2, p3, p4, p5, p6, p7, p8⟩
          · exact hg w hw
    · cases h
theorem js_many (env : DEnv) : ∃ z, jsF [cst (.str "there are 1 to "), op1 fmtG (cst (.int 8)), cst (.str " workers")] Str.empty env = some z := ⟨_, js_three env (by decide +kernel) (by decide +kernel) (by decide +kernel) (by decide +kernel)⟩
theorem m_begun (ds : List D) (r : Res) (hl : ds.length = n_begun) (hs : sf_begun ds = some r) : resO (b_begun sf_check_worker sf_copied (startE ds 4)) = some r := by
  unfold sf_begun at hs
  split at hs
  · rename_i ws
    split at hs
    · rename_i hz
      have h1 : (1 : Int) ≤ ws.length := by omega
      have h2 : (ws.length : Int) ≤ 8 := by omega
      split at hs
      · rename_i hb
        cases hs
        obtain ⟨⟨rs, t2, e⟩, hg⟩ := l_begun (.val (.lst ws)) ws [] none .no (by simp; omega) hb
        have e1 := copied_eq ws hg (by omega)
        have e2 := lc_spots ws [.val (.lst ws), .own none (.l (rs.map .int)), t2, .no] rfl
        have h90 : ws.length ≤ 90000 := by omega
        simp only [List.map_nil] at e
        simp [b_begun, startE, seqS, ifS, nxS, retS, retNS, drpS, putS, asgS, setG, getV, op2, op1, opC, consA, cst, cst0, tstB, asB, tru, truD, orT, andT, notT, andE, orE, ifE, chn, isiF, isTy, addG, mulG, iiG, eqG_ii, eqG_ss, eqG_bb, neG_ii, neG_ss, neG_bb, isNG, notNG, notG, negG, ixG, ixO, lenG, intG, max2G, min2G, mkT, mkL, okD, opX, drpX, putX, retX, mkF, resO, ownS, ocL, ocE, ocD, frzS, borE, borT, borX, flatD, appS, mE, popM, tup2M, rmvS, setS, tupG, consG, nilG, lstN, lstG, itL, itemsL, atI_0, atI_l1, atI_l2, atI_l3, atI_1, atI_2, atI_3, st_wh, st_wf, st_hw, st_hf, st_fw, st_fh, rng1, rng2, whS, forS, prt, h1, h2, e, lcF, wipeE, e1, e2, h90, shop0]
      · rename_i c hb
        cases hs
        obtain ⟨e, he⟩ := l_begun (.val (.lst ws)) ws [] (some c) .no (by simp; omega) hb
        simp only [List.map_nil] at he
        simp [b_begun, startE, seqS, ifS, nxS, retS, retNS, drpS, putS, asgS, setG, getV, op2, op1, opC, consA, cst, cst0, tstB, asB, tru, truD, orT, andT, notT, andE, orE, ifE, chn, isiF, isTy, addG, mulG, iiG, eqG_ii, eqG_ss, eqG_bb, neG_ii, neG_ss, neG_bb, isNG, notNG, notG, negG, ixG, ixO, lenG, intG, max2G, min2G, mkT, mkL, okD, opX, drpX, putX, retX, mkF, resO, ownS, ocL, ocE, ocD, frzS, borE, borT, borX, flatD, appS, mE, popM, tup2M, rmvS, setS, tupG, consG, nilG, lstN, lstG, itL, itemsL, atI_0, atI_l1, atI_l2, atI_l3, atI_1, atI_2, atI_3, st_wh, st_wf, st_hw, st_hf, st_fw, st_fh, rng1, rng2, whS, forS, prt, h1, h2, he]
      · cases hs
    · rename_i hz
      cases hs
      obtain ⟨z, hz2⟩ := js_many [.val (.lst ws), .no, .no, .no]
      by_cases h1 : (1 : Int) ≤ ws.length
      · have h2 : ¬ (ws.length : Int) ≤ 8 := by omega
        simp [b_begun, startE, seqS, ifS, nxS, retS, retNS, drpS, putS, asgS, setG, getV, op2, op1, opC, consA, cst, cst0, tstB, asB, tru, truD, orT, andT, notT, andE, orE, ifE, chn, isiF, isTy, addG, mulG, iiG, eqG_ii, eqG_ss, eqG_bb, neG_ii, neG_ss, neG_bb, isNG, notNG, notG, negG, ixG, ixO, lenG, intG, max2G, min2G, mkT, mkL, okD, opX, drpX, putX, retX, mkF, resO, ownS, ocL, ocE, ocD, frzS, borE, borT, borX, flatD, appS, mE, popM, tup2M, rmvS, setS, tupG, consG, nilG, lstN, lstG, itL, itemsL, atI_0, atI_l1, atI_l2, atI_l3, atI_1, atI_2, atI_3, st_wh, st_wf, st_hw, st_hf, st_fw, st_fh, rng1, rng2, whS, forS, prt, h1, h2, hz2]
      · simp [b_begun, startE, seqS, ifS, nxS, retS, retNS, drpS, putS, asgS, setG, getV, op2, op1, opC, consA, cst, cst0, tstB, asB, tru, truD, orT, andT, notT, andE, orE, ifE, chn, isiF, isTy, addG, mulG, iiG, eqG_ii, eqG_ss, eqG_bb, neG_ii, neG_ss, neG_bb, isNG, notNG, notG, negG, ixG, ixO, lenG, intG, max2G, min2G, mkT, mkL, okD, opX, drpX, putX, retX, mkF, resO, ownS, ocL, ocE, ocD, frzS, borE, borT, borX, flatD, appS, mE, popM, tup2M, rmvS, setS, tupG, consG, nilG, lstN, lstG, itL, itemsL, atI_0, atI_l1, atI_l2, atI_l3, atI_1, atI_2, atI_3, st_wh, st_wf, st_hw, st_hf, st_fw, st_fh, rng1, rng2, whS, forS, prt, h1, hz2]
  · cases hs
end LH

namespace LH
open PySem PySem.Spec PyProof.Rows L2 Evl DL

/-! ### step_of -/
abbrev n_step_of : Nat := 2
def sf_step_of : List D → Option Res
  | [s, k] => (match sf_check_number [s, k] with
    | some (.ex c) => some (.ex c)
    | some (.ok _) => (match sf_plan_of [s, k], sf_place_of [s, k] with
      | some (.ok (.lst p)), some (.ok (.int i)) => if i < p.length then (match atI p i with
          | some d => some (.ok d)
          | none => none) else some (.ok .non)
      | _, _ => none)
    | none => none)
  | _ => none
abbrev n_has_steps : Nat := 2
def sf_has_steps (ds : List D) : Option Res := if ds.length = 2 then resO (b_has_steps sf_place_of sf_plan_of (startE ds 2)) else none
theorem m_has_steps (ds : List D) (r : Res) (hl : ds.length = n_has_steps) (hs : sf_has_steps ds = some r) : resO (b_has_steps sf_place_of sf_plan_of (startE ds 2)) = some r := by
  rw [sf_has_steps, if_pos hl] at hs
  exact hs
theorem m_step_of (ds : List D) (r : Res) (hl : ds.length = n_step_of) (hs : sf_step_of ds = some r) : resO (b_step_of sf_check_number sf_has_steps sf_plan_of sf_place_of (startE ds 2)) = some r := by
  unfold sf_step_of at hs
  split at hs
  · rename_i s k
    split at hs
    · rename_i c hc
      cases hs
      simp [b_step_of, startE, seqS, ifS, nxS, retS, retNS, drpS, putS, asgS, setG, getV, op2, op1, opC, consA, cst, cst0, tstB, asB, tru, truD, orT, andT, notT, andE, orE, ifE, chn, isiF, isTy, addG, mulG, iiG, eqG_ii, eqG_ss, eqG_bb, neG_ii, neG_ss, neG_bb, isNG, notNG, notG, negG, ixG, ixO, lenG, intG, max2G, min2G, mkT, mkL, okD, opX, drpX, putX, retX, mkF, resO, ownS, ocL, ocE, ocD, frzS, borE, borT, borX, flatD, appS, mE, popM, tup2M, rmvS, setS, tupG, consG, nilG, lstN, lstG, itL, itemsL, atI_0, atI_l1, atI_l2, atI_l3, atI_1, atI_2, atI_3, st_wh, st_wf, st_hw, st_hf, st_fw, st_fh, rng1, rng2, whS, forS, prt, hc]
    · rename_i d hc
      split at hs
      · rename_i p i hp hi
        have hh : sf_has_steps [s, k] = some (.ok (.bl (decide (i < p.length)))) := by
          simp [sf_has_steps, b_has_steps, startE, seqS, ifS, nxS, retS, retNS, drpS, putS, asgS, setG, getV, op2, op1, opC, consA, cst, cst0, tstB, asB, tru, truD, orT, andT, notT, andE, orE, ifE, chn, isiF, isTy, addG, mulG, iiG, eqG_ii, eqG_ss, eqG_bb, neG_ii, neG_ss, neG_bb, isNG, notNG, notG, negG, ixG, ixO, lenG, intG, max2G, min2G, mkT, mkL, okD, opX, drpX, putX, retX, mkF, resO, ownS, ocL, ocE, ocD, frzS, borE, borT, borX, flatD, appS, mE, popM, tup2M, rmvS, setS, tupG, consG, nilG, lstN, lstG, itL, itemsL, atI_0, atI_l1, atI_l2, atI_l3, atI_1, atI_2, atI_3, st_wh, st_wf, st_hw, st_hf, st_fw, st_fh, rng1, rng2, whS, forS, prt, hp, hi, ltG]
        split at hs
        · rename_i h
          split at hs
          · rename_i d hd
            cases hs
            simp [b_step_of, startE, seqS, ifS, nxS, retS, retNS, drpS, putS, asgS, setG, getV, op2, op1, opC, consA, cst, cst0, tstB, asB, tru, truD, orT, andT, notT, andE, orE, ifE, chn, isiF, isTy, addG, mulG, iiG, eqG_ii, eqG_ss, eqG_bb, neG_ii, neG_ss, neG_bb, isNG, notNG, notG, negG, ixG, ixO, lenG, intG, max2G, min2G, mkT, mkL, okD, opX, drpX, putX, retX, mkF, resO, ownS, ocL, ocE, ocD, frzS, borE, borT, borX, flatD, appS, mE, popM, tup2M, rmvS, setS, tupG, consG, nilG, lstN, lstG, itL, itemsL, atI_0, atI_l1, atI_l2, atI_l3, atI_1, atI_2, atI_3, st_wh, st_wf, st_hw, st_hf, st_fw, st_fh, rng1, rng2, whS, forS, prt, hc, hh, hp, hi, h, hd]
          · cases hs
        · rename_i h
          cases hs
          simp [b_step_of, startE, seqS, ifS, nxS, retS, retNS, drpS, putS, asgS, setG, getV, op2, op1, opC, consA, cst, cst0, tstB, asB, tru, truD, orT, andT, notT, andE, orE, ifE, chn, isiF, isTy, addG, mulG, iiG, eqG_ii, eqG_ss, eqG_bb, neG_ii, neG_ss, neG_bb, isNG, notNG, notG, negG, ixG, ixO, lenG, intG, max2G, min2G, mkT, mkL, okD, opX, drpX, putX, retX, mkF, resO, ownS, ocL, ocE, ocD, frzS, borE, borT, borX, flatD, appS, mE, popM, tup2M, rmvS, setS, tupG, consG, nilG, lstN, lstG, itL, itemsL, atI_0, atI_l1, atI_l2, atI_l3, atI_1, atI_2, atI_3, st_wh, st_wf, st_hw, st_hf, st_fw, st_fh, rng1, rng2, whS, forS, prt, hc, hh, h]
      · cases hs
    · cases hs
  · cases hs

end LH

namespace LH
open PySem PySem.Spec PyProof.Rows L2 Evl DL

def b_own_rank : DEnv → Option Out := (retS (op2 ixG (op2 ixG (op2 ixG (getV 0) (cst (.int 0))) (getV 1)) (cst (.int 0))))
def b_is_there (sf_has_steps : List D → Option Res) : DEnv → Option Out := (retS (andE (op2 leG (op2 ixG (op2 ixG (op2 ixG (getV 0) (cst (.int 0))) (getV 1)) (cst (.int 1))) (op2 ixG (getV 0) (cst (.int 1)))) (opC (okD sf_has_steps) (consA (getV 0) (consA (getV 1) (cst0 []))))))
def b_there (sf_is_there : List D → Option Res) : DEnv → Option Out := (retS (ocE (lcF (rng1 (consA (opC lenG (consA (op2 ixG (getV 0) (cst (.int 0))) (cst0 []))) (cst0 []))) (setG 1) (tru (opC (okD sf_is_there) (consA (getV 0) (consA (getV 1) (cst0 []))))) (getV 1) [1])))
def b_held_f0 (sf_plan_of sf_place_of sf_held_after : List D → Option Res) : DEnv → Option Out := (dputS 1 (getV 3) (getV 2))
def b_held_f1 (sf_plan_of sf_place_of sf_held_after : List D → Option Res) : DEnv → Option Out := (forS (itL (opC (okD sf_held_after) (consA (slF (opC (okD sf_plan_of) (consA (getV 0) (consA (getV 2) (cst0 [])))) (fun _ => some none) (prt (opC (okD sf_place_of) (consA (getV 0) (consA (getV 2) (cst0 [])))))) (cst0 [])))) (setG 3) (b_held_f0 sf_plan_of sf_place_of sf_held_after))
def b_held (sf_plan_of sf_place_of sf_held_after : List D → Option Res) : DEnv → Option Out := (seqS (ownS 1 dicN) (seqS (forS (rng1 (consA (opC lenG (consA (op2 ixG (getV 0) (cst (.int 0))) (cst0 []))) (cst0 []))) (setG 2) (b_held_f1 sf_plan_of sf_place_of sf_held_after)) (frzS 1 (retS (getV 1)))))
def b_waits (sf_check_number sf_is_there sf_step_of sf_held : List D → Option Res) : DEnv → Option Out := (seqS (drpX (opX sf_check_number (consA (getV 0) (consA (getV 1) (cst0 []))))) (seqS (ifS (notT (tru (opC (okD sf_is_there) (consA (getV 0) (consA (getV 1) (cst0 [])))))) (retS (cst .non)) nxS) (seqS (asgS (opC (okD sf_step_of) (consA (getV 0) (consA (getV 1) (cst0 [])))) (tupG 2 (consG (setG 2) (consG (setG 3) nilG)))) (seqS (ifS (tstB (op2 neG (getV 2) (cst (.str "hold")))) (retS (cst .non)) nxS) (retS (op2 dg1G (opC (okD sf_held) (consA (getV 0) (cst0 []))) (getV 3)))))))
def b_chain_w0 (sf_waits : List D → Option Res) : DEnv → Option Out := (seqS (appS 2 (mE (getV 3))) (putX 3 (opX sf_waits (consA (getV 0) (consA (getV 3) (cst0 []))))))
def b_chain (sf_waits : List D → Option Res) : DEnv → Option Out := (seqS (ownS 2 (ocL (consA (getV 1) (cst0 [])))) (seqS (putX 3 (opX sf_waits (consA (getV 0) (consA (getV 1) (cst0 []))))) (seqS (whS 100000 (tstB (op2 notNG (getV 3) (cst .non))) (b_chain_w0 sf_waits)) (frzS 2 (retS (getV 2))))))
def b_lenders (sf_check_number sf_chain : List D → Option Res) : DEnv → Option Out := (seqS (drpX (opX sf_check_number (consA (getV 0) (consA (getV 1) (cst0 []))))) (seqS (ownS 2 (lcF (rng1 (consA (opC lenG (consA (op2 ixG (getV 0) (cst (.int 0))) (cst0 []))) (cst0 []))) (setG 3) (tstB (op2 neG (getV 3) (getV 1))) (getV 3) [3])) (frzS 2 (retS (ocE (lcF (itL (getV 2)) (setG 3) (tstB (op2 (inG false) (getV 1) (opC (okD sf_chain) (consA (getV 0) (consA (getV 3) (cst0 [])))))) (getV 3) [3]))))))
def b_rank_of (sf_lenders sf_own_rank : List D → Option Res) : DEnv → Option Out := (retS (opC maxG (consA (ocE (lcF (itL (op2 addG (opC mkL (consA (getV 1) (cst0 []))) (opC (okD sf_lenders) (consA (getV 0) (consA (getV 1) (cst0 [])))))) (setG 2) (cst0 true) (opC (okD sf_own_rank) (consA (getV 0) (consA (getV 2) (cst0 [])))) [2])) (cst0 []))))
def b_chosen (sf_there sf_own_rank sf_chain : List D → Option Res) : DEnv → Option Out := (seqS (ownS 1 (lcF (itL (opC (okD sf_there) (consA (getV 0) (cst0 [])))) (setG 4) (cst0 true) (opC mkT (consA (opC (okD sf_own_rank) (consA (getV 0) (consA (getV 4) (cst0 [])))) (consA (getV 4) (cst0 [])))) [4])) (frzS 1 (seqS (ifS (notT (tru (getV 1))) (retS (cst .non)) nxS) (seqS (asgS (opC maxPG (consA (getV 1) (cst0 []))) (tupG 2 (consG (setG 2) (consG (setG 3) nilG)))) (retS (op2 ixG (opC (okD sf_chain) (consA (getV 0) (consA (getV 3) (cst0 [])))) (op1 negG (cst (.int 1)))))))))
def b_place_behind_w0 : DEnv → Option Out := (augS 1 (cst (.int 1)))
def b_place_behind : DEnv → Option Out := (seqS (augS 1 (cst (.int 1))) (seqS (whS 100000 (andT (tstB (op2 ltG (getV 1) (opC lenG (consA (getV 0) (cst0 []))))) (tstB (op2 eqG (op2 ixG (op2 ixG (getV 0) (getV 1)) (cst (.int 0))) (cst (.str "free"))))) (b_place_behind_w0)) (retS (getV 1))))
def b_rest_of_w0 (sf_check_number sf_plan_of sf_held_after : List D → Option Res) : DEnv → Option Out := (seqS (asgS (op2 ixG (getV 2) (getV 4)) (tupG 2 (consG (setG 6) (consG (setG 7) nilG)))) (seqS (ifS (tstB (op2 eqG (getV 6) (cst (.str "work")))) (augS 3 (getV 7)) nxS) (augS 4 (cst (.int 1)))))
def b_rest_of (sf_check_number sf_plan_of sf_held_after : List D → Option Res) : DEnv → Option Out := (seqS (drpX (opX sf_check_number (consA (getV 0) (consA (getV 1) (cst0 []))))) (seqS (putS 2 (opC (okD sf_plan_of) (consA (getV 0) (consA (getV 1) (cst0 []))))) (seqS (asgS (op2 ixG (op2 ixG (getV 0) (cst (.int 2))) (getV 1)) (tupG 2 (consG (setG 4) (consG (setG 5) nilG)))) (seqS (ifS (notT (tru (opC (okD sf_held_after) (consA (slF (getV 2) (fun _ => some none) (prt (getV 4))) (cst0 []))))) (retS (cst (.int 0))) nxS) (seqS (putS 3 (op1 negG (getV 5))) (seqS (whS 100000 (tru (opC (okD sf_held_after) (consA (slF (getV 2) (fun _ => some none) (prt (getV 4))) (cst0 [])))) (b_rest_of_w0 sf_check_number sf_plan_of sf_held_after)) (retS (getV 3))))))))
def b_unfinished (sf_has_steps : List D → Option Res) : DEnv → Option Out := (retS (ocE (lcF (rng1 (consA (opC lenG (consA (op2 ixG (getV 0) (cst (.int 0))) (cst0 []))) (cst0 []))) (setG 1) (tru (opC (okD sf_has_steps) (consA (getV 0) (consA (getV 1) (cst0 []))))) (getV 1) [1])))
def b_run_w0 (sf_begun sf_unfinished sf_tick : List D → Option Res) : DEnv → Option Out := (seqS (asgS (opC (okD sf_tick) (consA (getV 2) (cst0 []))) (tupG 2 (consG (setG 2) (consG (setG 5) nilG)))) (appS 3 (mE (getV 5))))
def b_run (sf_begun sf_unfinished sf_tick : List D → Option Res) : DEnv → Option Out := (seqS (putX 2 (opX sf_begun (consA (getV 0) (cst0 [])))) (seqS (ownS 3 (ocL (cst0 []))) (seqS (whS 100000 (andT (tstB (op2 ltG (borE 3 (opC lenG (consA (getV 3) (cst0 [])))) (getV 1))) (tru (opC (okD sf_unfinished) (consA (getV 2) (cst0 []))))) (b_run_w0 sf_begun sf_unfinished sf_tick)) (seqS (putS 4 (opC max2G (consA (cst (.int 0)) (consA (op2 subG (getV 1) (borE 3 (opC lenG (consA (getV 3) (cst0 []))))) (cst0 []))))) (frzS 3 (retS (opC mkT (consA (opC mkT (consA (op2 ixG (getV 2) (cst (.int 0))) (consA (op2 addG (op2 ixG (getV 2) (cst (.int 1))) (getV 4)) (consA (op2 ixG (getV 2) (cst (.int 2))) (cst0 []))))) (consA (op2 addG (getV 3) (op2 mulG (opC mkL (consA (cst .non) (cst0 []))) (getV 4))) (cst0 []))))))))))
def b_ended_f0 (sf_begun sf_unfinished sf_tick sf_has_steps : List D → Option Res) : DEnv → Option Out := (ifS (notT (tru (opC (okD sf_has_steps) (consA (getV 1) (consA (getV 5) (cst0 [])))))) (setS 2 (getV 5) (getV 4)) nxS)
def b_ended_w1 (sf_begun sf_unfinished sf_tick sf_has_steps : List D → Option Res) : DEnv → Option Out := (seqS (putS 4 (op2 ixG (getV 1) (cst (.int 1)))) (seqS (asgS (opC (okD sf_tick) (consA (getV 1) (cst0 []))) (tupG 2 (consG (setG 1) (consG (setG 6) nilG)))) (seqS (forS (itL (getV 3)) (setG 5) (b_ended_f0 sf_begun sf_unfinished sf_tick sf_has_steps)) (putS 3 (opC (okD sf_unfinished) (consA (getV 1) (cst0 [])))))))
def b_ended (sf_begun sf_unfinished sf_tick sf_has_steps : List D → Option Res) : DEnv → Option Out := (seqS (putX 1 (opX sf_begun (consA (getV 0) (cst0 [])))) (seqS (ownS 2 (lcF (itL (getV 0)) (setG 6) (cst0 true) (cst (.int 0)) [6])) (seqS (putS 3 (opC (okD sf_unfinished) (consA (getV 1) (cst0 [])))) (seqS (whS 100000 (tru (getV 3)) (b_ended_w1 sf_begun sf_unfinished sf_tick sf_has_steps)) (frzS 2 (retS (getV 2)))))))
def b_waited_w0 (sf_begun sf_check_number sf_has_steps sf_tick sf_own_rank : List D → Option Res) : DEnv → Option Out := (seqS (putS 5 (op2 ixG (getV 2) (cst (.int 1)))) (seqS (asgS (opC (okD sf_tick) (consA (getV 2) (cst0 []))) (tupG 2 (consG (setG 2) (consG (setG 6) nilG)))) (seqS (ifS (orT (tstB (op2 isNG (getV 6) (cst .non))) (tstB (op2 ltG (getV 5) (getV 3)))) (fun env => some (.ct env)) nxS) (ifS (andT (tstB (op2 ltG (opC (okD sf_own_rank) (consA (getV 2) (consA (getV 6) (cst0 [])))) (opC (okD sf_own_rank) (consA (getV 2) (consA (getV 1) (cst0 [])))))) (tru (opC (okD sf_has_steps) (consA (getV 2) (consA (getV 1) (cst0 [])))))) (appS 4 (mE (getV 5))) nxS))))
def b_waited (sf_begun sf_check_number sf_has_steps sf_tick sf_own_rank : List D → Option Res) : DEnv → Option Out := (seqS (putX 2 (opX sf_begun (consA (getV 0) (cst0 [])))) (seqS (drpX (opX sf_check_number (consA (getV 2) (consA (getV 1) (cst0 []))))) (seqS (putS 3 (op2 ixG (op2 ixG (op2 ixG (getV 2) (cst (.int 0))) (getV 1)) (cst (.int 1)))) (seqS (ownS 4 (ocL (cst0 []))) (seqS (whS 100000 (tru (opC (okD sf_has_steps) (consA (getV 2) (consA (getV 1) (cst0 []))))) (b_waited_w0 sf_begun sf_check_number sf_has_steps sf_tick sf_own_rank)) (frzS 4 (retS (getV 4))))))))
end LH

namespace LH
open PySem PySem.Spec PyProof.Rows L2 Evl DL

/-! ### is_there, there, held of the program -/
theorem plan_at {s : Shp} (g : GoodShp s) {k : Nat} (hk : k < s.ws.length) : sf_plan_of [s.d, .int (k : Int)] = some (.ok (planD (wAt s k).plan)) := by
  have e1 := atI_map Wkr.d (g.at_ hk).1
  simp [sf_plan_of, ixG, atI_0, atI_2, e1]
theorem place_at {s : Shp} (g : GoodShp s) {k : Nat} (hk : k < s.ws.length) : sf_place_of [s.d, .int (k : Int)] = some (.ok (.int ((spotAt s k).1 : Int))) := by
  have e2 := atI_map spotD (g.at_ hk).2.1
  simp [sf_place_of, ixG, atI_0, atI_2, e2]
theorem hasSteps_eq {s : Shp} (g : GoodShp s) {k : Nat} (hk : k < s.ws.length) : sf_has_steps [s.d, .int (k : Int)] = some (.ok (.bl (decide ((spotAt s k).1 < (wAt s k).plan.length)))) := by
  have e1 := plan_at g hk
  have e2 := place_at g hk
  generalize s.d = S at *
  simp [sf_has_steps, b_has_steps, startE, seqS, ifS, nxS, retS, retNS, drpS, putS, asgS, setG, getV, op2, op1, opC, consA, cst, cst0, tstB, asB, tru, truD, orT, andT, notT, andE, orE, ifE, chn, isiF, isTy, eqG_ii, eqG_ss, eqG_bb, neG_ii, neG_ss, neG_bb, isNG, notNG, notG, negG, ixG, ixO, lenG, intG, max2G, min2G, mkT, mkL, okD, opX, drpX, putX, retX, mkF, resO, ownS, ocL, ocE, ocD, frzS, borE, borT, borX, flatD, appS, mE, popM, tup2M, rmvS, setS, tupG, consG, nilG, lstN, lstG, itL, itemsL, atI_0, atI_l1, atI_l2, atI_l3, atI_1, atI_2, atI_3, st_wh, st_wf, st_hw, st_hf, st_fw, st_fh, rng1, rng2, whS, forS, prt, add_ii, sub_ii, mod_ii, div_ii, lt_ii, le_ii, gt_ii, ge_ii, e1, e2]
abbrev n_own_rank : Nat := 2
def sf_own_rank (ds : List D) : Option Res := if ds.length = 2 then resO (b_own_rank (startE ds 2)) else none
theorem m_own_rank (ds : List D) (r : Res) (hl : ds.length = n_own_rank) (hs : sf_own_rank ds = some r) : resO (b_own_rank (startE ds 2)) = some r := by
  unfold sf_own_rank at hs
  rwa [if_pos hl] at hs
theorem ownRank_eq {s : Shp} (g : GoodShp s) {k : Nat} (hk : k < s.ws.length) : sf_own_rank [s.d, .int (k : Int)] = some (.ok (.int (wAt s k).rank)) := by
  have e1 := atI_map Wkr.d (g.at_ hk).1
  simp [sf_own_rank, b_own_rank, startE, seqS, ifS, nxS, retS, retNS, drpS, putS, asgS, setG, getV, op2, op1, opC, consA, cst, cst0, tstB, asB, tru, truD, orT, andT, notT, andE, orE, ifE, chn, isiF, isTy, eqG_ii, eqG_ss, eqG_bb, neG_ii, neG_ss, neG_bb, isNG, notNG, notG, negG, ixG, ixO, lenG, intG, max2G, min2G, mkT, mkL, okD, opX, drpX, putX, retX, mkF, resO, ownS, ocL, ocE, ocD, frzS, borE, borT, borX, flatD, appS, mE, popM, tup2M, rmvS, setS, tupG, consG, nilG, lstN, lstG, itL, itemsL, atI_0, atI_l1, atI_l2, atI_l3, atI_1, atI_2, atI_3, st_wh, st_wf, st_hw, st_hf, st_fw, st_fh, rng1, rng2, whS, forS, prt, add_ii, sub_ii, mod_ii, div_ii, lt_ii, le_ii, gt_ii, ge_ii, e1]
abbrev n_is_there : Nat := 2
def sf_is_there (ds : List D) : Option Res := if ds.length = 2 then resO (b_is_there sf_has_steps (startE ds 2)) else none
theorem m_is_there (ds : List D) (r : Res) (hl : ds.length = n_is_there) (hs : sf_is_there ds = some r) : resO (b_is_there sf_has_steps (startE ds 2)) = some r := by
  unfold sf_is_there at hs
  rwa [if_pos hl] at hs
theorem isThere_eq {s : Shp} (g : GoodShp s) {k : Nat} (hk : k < s.ws.length) : sf_is_there [s.d, .int (k : Int)] = some (.ok (.bl (thereB s k))) := by
  have e1 := atI_map Wkr.d (g.at_ hk).1
  have e2 := hasSteps_eq g hk
  unfold thereB
  by_cases c1 : (wAt s k).start ≤ s.now
  · simp [sf_is_there, b_is_there, startE, seqS, ifS, nxS, retS, retNS, drpS, putS, asgS, setG, getV, op2, op1, opC, consA, cst, cst0, tstB, asB, tru, truD, orT, andT, notT, andE, orE, ifE, chn, isiF, isTy, eqG_ii, eqG_ss, eqG_bb, neG_ii, neG_ss, neG_bb, isNG, notNG, notG, negG, ixG, ixO, lenG, intG, max2G, min2G, mkT, mkL, okD, opX, drpX, putX, retX, mkF, resO, ownS, ocL, ocE, ocD, frzS, borE, borT, borX, flatD, appS, mE, popM, tup2M, rmvS, setS, tupG, consG, nilG, lstN, lstG, itL, itemsL, atI_0, atI_l1, atI_l2, atI_l3, atI_1, atI_2, atI_3, st_wh, st_wf, st_hw, st_hf, st_fw, st_fh, rng1, rng2, whS, forS, prt, add_ii, sub_ii, mod_ii, div_ii, lt_ii, le_ii, gt_ii, ge_ii, e1, e2, c1]
  · simp [sf_is_there, b_is_there, startE, seqS, ifS, nxS, retS, retNS, drpS, putS, asgS, setG, getV, op2, op1, opC, consA, cst, cst0, tstB, asB, tru, truD, orT, andT, notT, andE, orE, ifE, chn, isiF, isTy, eqG_ii, eqG_ss, eqG_bb, neG_ii, neG_ss, neG_bb, isNG, notNG, notG, negG, ixG, ixO, lenG, intG, max2G, min2G, mkT, mkL, okD, opX, drpX, putX, retX, mkF, resO, ownS, ocL, ocE, ocD, frzS, borE, borT, borX, flatD, appS, mE, popM, tup2M, rmvS, setS, tupG, consG, nilG, lstN, lstG, itL, itemsL, atI_0, atI_l1, atI_l2, atI_l3, atI_1, atI_2, atI_3, st_wh, st_wf, st_hw, st_hf, st_fw, st_fh, rng1, rng2, whS, forS, prt, add_ii, sub_ii, mod_ii, div_ii, lt_ii, le_ii, gt_ii, ge_ii, e1, e2, c1]
abbrev n_there : Nat := 1
def sf_there (ds : List D) : Option Res := if ds.length = 1 then resO (b_there sf_is_there (startE ds 2)) else none
theorem m_there (ds : List D) (r : Res) (hl : ds.length = n_there) (hs : sf_there ds = some r) : resO (b_there sf_is_there (startE ds 2)) = some r := by
  unfold sf_there at hs
  rwa [if_pos hl] at hs
def thereM (s : Shp) : List Nat := (List.range s.ws.length).filter (thereB s)
theorem thereL_eq {s : Shp} (g : GoodShp s) : sf_there [s.d] = some (.ok (.lst (natsD (thereM s)))) := by
  have h8 := g.ws.most
  have hc : ((s.ws.length : Nat) : Int) ≤ 100000 ∧ -100000 ≤ ((s.ws.length : Nat) : Int) := by omega
  have hr : rngD 0 s.ws.length = natsD (List.range s.ws.length) := by rw [rngD_nat, List.range_eq_range']
  have hl : (natsD (List.range s.ws.length)).length ≤ 90000 := by simp; omega
  have e := lcL_map (gf := setG 1) (T := tru (opC (okD sf_is_there) (consA (getV 0) (consA (getV 1) (cst0 []))))) (E := getV 1) (w := [.val s.d, .no]) (fun (j : Nat) => D.int (j : Int)) (fun (j : Nat) => D.int (j : Int)) (thereB s) (List.range s.ws.length) fun j hj => by
    have hj' : j < s.ws.length := by simpa using hj
    have e1 := isThere_eq g hj'
    refine ⟨_, rfl, ?_, fun _ => ?_⟩
    · simp [startE, seqS, ifS, nxS, retS, retNS, drpS, putS, asgS, setG, getV, op2, op1, opC, consA, cst, cst0, tstB, asB, tru, truD, orT, andT, notT, andE, orE, ifE, chn, isiF, isTy, eqG_ii, eqG_ss, eqG_bb, neG_ii, neG_ss, neG_bb, isNG, notNG, notG, negG, ixG, ixO, lenG, intG, max2G, min2G, mkT, mkL, okD, opX, drpX, putX, retX, mkF, resO, ownS, ocL, ocE, ocD, frzS, borE, borT, borX, flatD, appS, mE, popM, tup2M, rmvS, setS, tupG, consG, nilG, lstN, lstG, itL, itemsL, atI_0, atI_l1, atI_l2, atI_l3, atI_1, atI_2, atI_3, st_wh, st_wf, st_hw, st_hf, st_fw, st_fh, rng1, rng2, whS, forS, prt, add_ii, sub_ii, mod_ii, div_ii, lt_ii, le_ii, gt_ii, ge_ii, e1]
    · simp [getV]
  change lcL _ _ _ _ (natsD (List.range s.ws.length)) = some (natsD (thereM s)) at e
  generalize natsD (List.range s.ws.length) = rs at *
  generalize natsD (thereM s) = out at *
  simp [sf_there, b_there, startE, seqS, ifS, nxS, retS, retNS, drpS, putS, asgS, setG, getV, op2, op1, opC, consA, cst, cst0, tstB, asB, tru, truD, orT, andT, notT, andE, orE, ifE, chn, isiF, isTy, eqG_ii, eqG_ss, eqG_bb, neG_ii, neG_ss, neG_bb, isNG, notNG, notG, negG, ixG, ixO, lenG, intG, max2G, min2G, mkT, mkL, okD, opX, drpX, putX, retX, mkF, resO, ownS, ocL, ocE, ocD, frzS, borE, borT, borX, flatD, appS, mE, popM, tup2M, rmvS, setS, tupG, consG, nilG, lstN, lstG, itL, itemsL, atI_0, atI_l1, atI_l2, atI_l3, atI_1, atI_2, atI_3, st_wh, st_wf, st_hw, st_hf, st_fw, st_fh, rng1, rng2, whS, forS, prt, add_ii, sub_ii, mod_ii, div_ii, lt_ii, le_ii, gt_ii, ge_ii, hc, hr, lcF, wipeE, hl, e]
/-- what each worker holds, put by their numbers -/
def putAll (k : Int) : List Int → List (Int × Int) → List (Int × Int)
  | [], kvs => kvs
  | t :: ts, kvs => putAll k ts (putD kvs t k)
def heldK (s : Shp) : List Nat → List (Int × Int) → List (Int × Int)
  | [], kvs => kvs
  | j :: js, kvs => heldK s js (putAll (j : Int) (toolsAt (wAt s j).plan (spotAt s j).1) kvs)
theorem putD_len (kvs : List (Int × Int)) (k v : Int) : (putD kvs k v).length ≤ kvs.length + 1 := by
  unfold putD
  split <;> simp
theorem putAll_len (k : Int) : ∀ (ts : List Int) (kvs : List (Int × Int)), (putAll k ts kvs).length ≤ kvs.length + ts.length
  | [], kvs => by simp [putAll]
  | t :: ts, kvs => by
    have h1 := putAll_len k ts (putD kvs t k)
    have h2 := putD_len kvs t k
    simp only [putAll, List.length_cons]
    omega
theorem findD_put (kvs : List (Int × Int)) (k j v : Int) : findD (putD kvs k v) j = if j = k then some v else findD kvs j := by
  have h := findD_emb (putD kvs k v) j
  rw [putD_emb, valV_put] at h
  by_cases e : j = k
  · subst e
    rw [if_pos rfl] at h ⊢
    cases hf : findD (putD kvs j v) j with
    | none => rw [hf] at h; cases h
    | some w => rw [hf] at h; cases h; rfl
  · rw [if_neg (by intro z; cases z; exact e rfl), findD_emb] at h
    rw [if_neg e]
    cases hf : findD (putD kvs k v) j with
    | none =>
      rw [hf] at h
      cases hg : findD kvs j with
      | none => rfl
      | some w => rw [hg] at h; cases h
    | some w =>
      rw [hf] at h
      cases hg : findD kvs j with
      | none => rw [hg] at h; cases h
      | some w' => rw [hg] at h; cases h; rfl
theorem findD_putAll (k : Int) : ∀ (ts : List Int) (kvs : List (Int × Int)) (t : Int), findD (putAll k ts kvs) t = if t ∈ ts then some k else findD kvs t
  | [], kvs, t => by simp [putAll]
  | u :: ts, kvs, t => by
    simp only [putAll]
    rw [findD_putAll k ts, findD_put]
    by_cases h1 : t ∈ ts
    · simp [h1]
    · by_cases h2 : t = u
      · simp [h2]
      · simp [h1, h2]
theorem held_inner (a0 : Sl) (k : Int) : ∀ (ts : List Int) (kvs : List (Int × Int)) (s3 : Sl), kvs.length + ts.length ≤ 1000 → ∃ t3, forL (setG 3) (b_held_f0 sf_plan_of sf_place_of sf_held_after) (ts.map .int) [a0, .own none (.d kvs), .val (.int k), s3] = some (.nx [a0, .own none (.d (putAll k ts kvs)), .val (.int k), t3])
  | [], kvs, s3, _ => ⟨s3, rfl⟩
  | t :: ts, kvs, s3, h => by
    have h2 := putD_len kvs t k
    simp only [List.length_cons] at h
    obtain ⟨t3, e⟩ := held_inner a0 k ts (putD kvs t k) (.val (.int t)) (by omega)
    have hl : kvs.length ≤ 90000 := by omega
    refine ⟨t3, (forL_nx rfl ?_).trans e⟩
    simp [b_held_f0, startE, seqS, ifS, nxS, retS, retNS, drpS, putS, asgS, setG, getV, op2, op1, opC, consA, cst, cst0, tstB, asB, tru, truD, orT, andT, notT, andE, orE, ifE, chn, isiF, isTy, eqG_ii, eqG_ss, eqG_bb, neG_ii, neG_ss, neG_bb, isNG, notNG, notG, negG, ixG, ixO, lenG, intG, max2G, min2G, mkT, mkL, okD, opX, drpX, putX, retX, mkF, resO, ownS, ocL, ocE, ocD, frzS, borE, borT, borX, flatD, appS, mE, popM, tup2M, rmvS, setS, tupG, consG, nilG, lstN, lstG, itL, itemsL, atI_0, atI_l1, atI_l2, atI_l3, atI_1, atI_2, atI_3, st_wh, st_wf, st_hw, st_hf, st_fw, st_fh, rng1, rng2, whS, forS, prt, add_ii, sub_ii, mod_ii, div_ii, lt_ii, le_ii, gt_ii, ge_ii, dputS, hl]
theorem held_outer {s : Shp} (g : GoodShp s) : ∀ (js : List Nat) (kvs : List (Int × Int)) (s2 s3 : Sl), (∀ j ∈ js, j < s.ws.length) → kvs.length + 10 * js.length ≤ 1000 → ∃ t2 t3, forL (setG 2) (b_held_f1 sf_plan_of sf_place_of sf_held_after) (natsD js) [.val s.d, .own none (.d kvs), s2, s3] = some (.nx [.val s.d, .own none (.d (heldK s js kvs)), t2, t3])
  | [], kvs, s2, s3, _, _ => ⟨s2, s3, rfl⟩
  | j :: js, kvs, s2, s3, h, hl => by
    have hj := h j (by simp)
    obtain ⟨_, _, gw, sp⟩ := g.at_ hj
    have e1 := plan_at g hj
    have e2 := place_at g hj
    have ht := toolsAt_ok gw.plan (spotAt s j).1
    have h10 := pigeonT _ ht.nodup ht.num
    have hp := putAll_len (j : Int) (toolsAt (wAt s j).plan (spotAt s j).1) kvs
    simp only [List.length_cons] at hl
    have e3 : sf_held_after [.lst (((wAt s j).plan.map Stp.d).take (spotAt s j).1)] = some (.ok (.lst ((toolsAt (wAt s j).plan (spotAt s j).1).map .int))) := by
      have := heldA_run ((wAt s j).plan.take (spotAt s j).1) [] _ (by have := gw.short; simp; omega) (toolsAt_run gw.plan (spotAt s j).1)
      rw [List.map_take] at this
      simp only [sf_held_after, this]
    have hcut : DL.cutD ((wAt s j).plan.map Stp.d) none (some ((spotAt s j).1 : Int)) = ((wAt s j).plan.map Stp.d).take (spotAt s j).1 := cut_take _ _ (by simpa using sp.place)
    obtain ⟨u3, e4⟩ := held_inner (.val s.d) (j : Int) (toolsAt (wAt s j).plan (spotAt s j).1) kvs s3 (by omega)
    obtain ⟨t2, t3, e5⟩ := held_outer g js (putAll (j : Int) (toolsAt (wAt s j).plan (spotAt s j).1) kvs) (.val (.int (j : Int))) u3 (fun i hi => h i (by simp [hi])) (by omega)
    refine ⟨t2, t3, (forL_nx rfl ?_).trans e5⟩
    simp [b_held_f1, startE, seqS, ifS, nxS, retS, retNS, drpS, putS, asgS, setG, getV, op2, op1, opC, consA, cst, cst0, tstB, asB, tru, truD, orT, andT, notT, andE, orE, ifE, chn, isiF, isTy, eqG_ii, eqG_ss, eqG_bb, neG_ii, neG_ss, neG_bb, isNG, notNG, notG, negG, ixG, ixO, lenG, intG, max2G, min2G, mkT, mkL, okD, opX, drpX, putX, retX, mkF, resO, ownS, ocL, ocE, ocD, frzS, borE, borT, borX, flatD, appS, mE, popM, tup2M, rmvS, setS, tupG, consG, nilG, lstN, lstG, itL, itemsL, atI_0, atI_l1, atI_l2, atI_l3, atI_1, atI_2, atI_3, st_wh, st_wf, st_hw, st_hf, st_fw, st_fh, rng1, rng2, whS, forS, prt, add_ii, sub_ii, mod_ii, div_ii, lt_ii, le_ii, gt_ii, ge_ii, e1, e2, slF, slG, hcut, e3, e4]
abbrev n_held : Nat := 1
def sf_held (ds : List D) : Option Res := if ds.length = 1 then resO (b_held sf_plan_of sf_place_of sf_held_after (startE ds 4)) else none
theorem m_held (ds : List D) (r : Res) (hl : ds.length = n_held) (hs : sf_held ds = some r) : resO (b_held sf_plan_of sf_place_of sf_held_after (startE ds 4)) = some r := by
  unfold sf_held at hs
  rwa [if_pos hl] at hs
def heldM (s : Shp) : List (Int × Int) := heldK s (List.range s.ws.length) []
theorem held_eq {s : Shp} (g : GoodShp s) : sf_held [s.d] = some (.ok (.dct (heldM s))) := by
  have h8 := g.ws.most
  obtain ⟨t2, t3, e⟩ := held_outer g (List.range s.ws.length) [] .no .no (fun j hj => by simpa using hj) (by simp; omega)
  have hc : ((s.ws.length : Nat) : Int) ≤ 100000 ∧ -100000 ≤ ((s.ws.length : Nat) : Int) := by omega
  have hr : rngD 0 s.ws.length = natsD (List.range s.ws.length) := by rw [rngD_nat, List.range_eq_range']
  unfold heldM
  generalize natsD (List.range s.ws.length) = rs at *
  simp [sf_held, b_held, startE, seqS, ifS, nxS, retS, retNS, drpS, putS, asgS, setG, getV, op2, op1, opC, consA, cst, cst0, tstB, asB, tru, truD, orT, andT, notT, andE, orE, ifE, chn, isiF, isTy, eqG_ii, eqG_ss, eqG_bb, neG_ii, neG_ss, neG_bb, isNG, notNG, notG, negG, ixG, ixO, lenG, intG, max2G, min2G, mkT, mkL, okD, opX, drpX, putX, retX, mkF, resO, ownS, ocL, ocE, ocD, frzS, borE, borT, borX, flatD, appS, mE, popM, tup2M, rmvS, setS, tupG, consG, nilG, lstN, lstG, itL, itemsL, atI_0, atI_l1, atI_l2, atI_l3, atI_1, atI_2, atI_3, st_wh, st_wf, st_hw, st_hf, st_fw, st_fh, rng1, rng2, whS, forS, prt, add_ii, sub_ii, mod_ii, div_ii, lt_ii, le_ii, gt_ii, ge_ii, dicN, hc, hr, e]
/-- who holds a tool, as the dict has it -/
theorem heldK_find {s : Shp} (g : GoodShp s) (t : Int) : ∀ (js : List Nat) (kvs : List (Int × Int)), (∀ j ∈ js, j < s.ws.length) → js.Nodup →
    findD (heldK s js kvs) t = match js.find? (hasB s t) with
      | some j => some (j : Int)
      | none => findD kvs t
  | [], kvs, _, _ => rfl
  | j :: js, kvs, h, nd => by
    rw [List.nodup_cons] at nd
    simp only [heldK]
    rw [heldK_find g t js _ (fun i hi => h i (by simp [hi])) nd.2, List.find?_cons]
    cases hb : hasB s t j with
    | true =>
      have hm : t ∈ toolsAt (wAt s j).plan (spotAt s j).1 := by simpa [hasB] using hb
      have hn : js.find? (hasB s t) = none := by
        rw [List.find?_eq_none]
        intro i hi hc
        have hmi : t ∈ toolsAt (wAt s i).plan (spotAt s i).1 := by simpa [hasB] using hc
        exact g.two (h j (by simp)) (h i (by simp [hi])) (fun e => nd.1 (e ▸ hi)) hm hmi
      rw [hn]
      simp only
      rw [findD_putAll, if_pos hm]
    | false =>
      have hm : t ∉ toolsAt (wAt s j).plan (spotAt s j).1 := by simpa [hasB] using hb
      simp only
      rw [findD_putAll, if_neg hm]
theorem held_find {s : Shp} (g : GoodShp s) (t : Int) : findD (heldM s) t = (holderM s t).map fun (j : Nat) => (j : Int) := by
  unfold heldM holderM
  rw [heldK_find g t _ _ (fun j hj => by simpa using hj) List.nodup_range]
  cases (List.range s.ws.length).find? (hasB s t) <;> rfl
end LH

namespace LH
open PySem PySem.Spec PyProof.Rows L2 Evl DL

/-! ### what is left of holds, as ticks go by -/
def restP (p : List Stp) (j : Nat) (gone : Int) : Int := restL (p.drop j) (toolsAt p j).length gone 0
theorem restL_acc : ∀ (st : List Stp) (c : Nat) (gone acc : Int), restL st c gone acc = acc + restL st c gone 0
  | [], 0, gone, acc => by simp [restL]
  | [], c + 1, gone, acc => by simp [restL]
  | x :: st, 0, gone, acc => by simp [restL]
  | .work n :: st, c + 1, gone, acc => by
    simp only [restL]
    rw [restL_acc st (c + 1) 0 (acc + n - gone), restL_acc st (c + 1) 0 (0 + n - gone)]
    omega
  | .hold t :: st, c + 1, gone, acc => by
    simp only [restL]
    exact restL_acc st (c + 2) 0 acc
  | .free t :: st, c + 1, gone, acc => by
    simp only [restL]
    exact restL_acc st c 0 acc
theorem rest_none {p : List Stp} {j : Nat} (h : toolsAt p j = []) (gone : Int) : restP p j gone = 0 := by
  unfold restP
  rw [h]
  cases p.drop j <;> rfl
theorem rest_work {p : List Stp} (g : GoodP p) {j : Nat} {n : Int} (h : p[j]? = some (.work n)) (ht : toolsAt p j ≠ []) (gone : Int) : restP p j gone = n - gone + restP p (j + 1) 0 := by
  unfold restP
  rw [drop_at h, work_tools g h]
  obtain ⟨c, hc⟩ : ∃ c, (toolsAt p j).length = c + 1 := ⟨(toolsAt p j).length - 1, by have := List.length_pos_iff.mpr ht; omega⟩
  rw [hc]
  simp only [restL]
  rw [restL_acc]
  omega
theorem rest_hold {p : List Stp} (g : GoodP p) {j : Nat} {t : Int} (h : p[j]? = some (.hold t)) (ht : toolsAt p j ≠ []) (gone : Int) : restP p j gone = restP p (j + 1) 0 := by
  unfold restP
  rw [drop_at h, (hold_above g h).2.2.2]
  obtain ⟨c, hc⟩ : ∃ c, (toolsAt p j).length = c + 1 := ⟨(toolsAt p j).length - 1, by have := List.length_pos_iff.mpr ht; omega⟩
  rw [List.length_append, hc]
  simp only [restL, List.length_cons, List.length_nil]
theorem rest_free {p : List Stp} (g : GoodP p) {j : Nat} {t : Int} (h : p[j]? = some (.free t)) (gone : Int) : restP p j gone = restP p (j + 1) 0 := by
  obtain ⟨hm, he⟩ := free_tools g h
  unfold restP
  rw [drop_at h, he, List.length_erase_of_mem hm]
  obtain ⟨c, hc⟩ : ∃ c, (toolsAt p j).length = c + 1 := ⟨(toolsAt p j).length - 1, by have := List.length_pos_of_mem hm; omega⟩
  rw [hc]
  simp only [restL, Nat.add_sub_cancel]
theorem rest_past {p : List Stp} (g : GoodP p) : ∀ (n j : Nat), restP p (pastF p n j) 0 = restP p j 0
  | 0, j => rfl
  | n + 1, j => by
    unfold pastF
    split
    · rename_i t h
      rw [rest_past g n (j + 1), rest_free g h]
    · rfl
theorem rest_behind {p : List Stp} (g : GoodP p) (j : Nat) : restP p (behindM p j) 0 = restP p (j + 1) 0 := rest_past g 100 (j + 1)
theorem restL_nn : ∀ (st : List Stp) (acc0 : List Int) (c : Nat) (gone : Int) (fin : List Int), runS acc0 st = some fin → (∀ n, st.head? = some (.work n) → gone ≤ n) → 0 ≤ restL st c gone 0
  | [], _, 0, gone, _, _, _ => by simp [restL]
  | [], _, c + 1, gone, _, _, _ => by simp [restL]
  | x :: st, _, 0, gone, _, _, _ => by simp [restL]
  | .work n :: st, a, c + 1, gone, fin, h, hg => by
    simp only [runS] at h
    split at h
    · have ih := restL_nn st a (c + 1) 0 fin h (fun m hm => by
        cases st with
        | nil => cases hm
        | cons y r =>
          simp at hm
          subst hm
          simp only [runS] at h
          split at h
          · omega
          · cases h)
      have := hg n rfl
      simp only [restL]
      rw [restL_acc]
      omega
    · cases h
  | .hold t :: st, a, c + 1, gone, fin, h, hg => by
    simp only [runS] at h
    split at h
    · simp only [restL]
      exact restL_nn st _ (c + 2) 0 fin h (fun m hm => by
        cases st with
        | nil => cases hm
        | cons y r =>
          simp at hm
          subst hm
          simp only [runS] at h
          split at h
          · omega
          · cases h)
    · cases h
  | .free t :: st, a, c + 1, gone, fin, h, hg => by
    simp only [runS] at h
    split at h
    · simp only [restL]
      exact restL_nn st _ c 0 fin h (fun m hm => by
        cases st with
        | nil => cases hm
        | cons y r =>
          simp at hm
          subst hm
          simp only [runS] at h
          split at h
          · omega
          · cases h)
    · cases h
theorem restM_nn {s : Shp} (g : GoodShp s) {k : Nat} (hk : k < s.ws.length) : 0 ≤ restM s k := by
  obtain ⟨_, _, gw, sp⟩ := g.at_ hk
  refine restL_nn _ _ _ _ _ (toolsAt_rest gw.plan _) fun n hn => ?_
  have h1 : (wAt s k).plan[(spotAt s k).1]? = some (.work n) := by
    rw [List.head?_drop] at hn
    exact hn
  have := sp.work n h1
  omega
theorem restM_eq (s : Shp) (k : Nat) : restM s k = restP (wAt s k).plan (spotAt s k).1 (spotAt s k).2 := rfl
/-- another's step changes nothing of it -/
theorem restM_ne {s : Shp} {k j : Nat} (h : j ≠ k) (sp : Spot) : restM (setSp s k sp) j = restM s j := by
  rw [restM_eq, restM_eq, spot_set_ne h, w_set]
/-- a hold leaves as much -/
theorem restM_hold {s : Shp} (g : GoodShp s) {k : Nat} (hk : k < s.ws.length) {t : Int} (hp : stepM s k = some (.hold t)) (ht : toolsAt (wAt s k).plan (spotAt s k).1 ≠ []) : restM (heldOn s k) k = restM s k := by
  obtain ⟨_, _, gw, _⟩ := g.at_ hk
  unfold heldOn
  rw [restM_eq, restM_eq, spot_set_same g hk, w_set, rest_behind gw.plan, rest_hold gw.plan hp ht]
/-- a tick of work leaves one less -/
theorem restM_work {s : Shp} (g : GoodShp s) {k : Nat} (hk : k < s.ws.length) {n : Int} (hp : stepM s k = some (.work n)) (ht : toolsAt (wAt s k).plan (spotAt s k).1 ≠ []) : restM (workedOn s k n) k = restM s k - 1 := by
  obtain ⟨_, _, gw, _⟩ := g.at_ hk
  unfold workedOn
  rw [restM_eq, restM_eq, spot_set_same g hk, w_set]
  split
  · rename_i he
    rw [rest_behind gw.plan, rest_work gw.plan hp ht]
    omega
  · show restP _ _ ((spotAt s k).2 + 1) = _
    rw [rest_work gw.plan hp ht, rest_work gw.plan hp ht]
    omega
/-- a lesser one that is chosen holds a tool -/
theorem lesser_holds {s : Shp} (g : GoodShp s) {w k : Nat} (hc : chosenM s = some w) (hk : k < s.ws.length) (ht : thereB s k = true) (hr : rankM s w < rankM s k) : toolsAt (wAt s w).plan (spotAt s w).1 ≠ [] := by
  unfold chosenM at hc
  obtain ⟨b, hb, rfl⟩ := Option.map_eq_some_iff.mp hc
  have B := bestM_some hb
  have h1 := B.best k hk ht
  have key : ∀ n i, endM s n i = i ∨ toolsAt (wAt s (endM s n i)).plan (spotAt s (endM s n i)).1 ≠ [] := by
    intro n
    induction n with
    | zero => exact fun i => .inl rfl
    | succ n ih =>
      intro i
      unfold endM
      cases hj : afterM s i with
      | none => exact .inl rfl
      | some j =>
        simp only
        obtain ⟨_, _, t, _, hm⟩ := after_tool hj
        rcases ih j with e | e
        · rw [e]
          exact .inr fun z => by rw [z] at hm; cases hm
        · exact .inr e
  rcases key 9 b with e | e
  · rw [e] at hr
    omega
  · exact e
end LH

namespace LH
open PySem PySem.Spec PyProof.Rows L2 Evl DL

/-! ### one tick: who is lesser works only out of what it holds -/
theorem rank_set (s : Shp) (c j : Nat) (sp : Spot) : rankM (setSp s c sp) j = rankM s j := rfl
theorem there_hold {s : Shp} (g : GoodShp s) {c k : Nat} (hc : Ready s c) (h : thereB (heldOn s c) k = true) (hk : k < s.ws.length) : thereB s k = true := by
  by_cases e : k = c
  · subst e; exact hc.2.1
  · unfold thereB heldOn at h
    rw [spot_set_ne e, w_set] at h
    exact h
/-- while k is there behind the holds, they leave a lesser one's rest -/
theorem holds_rest {k w : Nat} : ∀ (n : Nat) (s : Shp), GoodShp s → k < s.ws.length → w < s.ws.length → rankM s w < rankM s k → thereB (holdsM n s).1 k = true → leftM s < n →
    restM (holdsM n s).1 w = restM s w ∧ thereB s k = true ∧ (toolsAt (wAt s w).plan (spotAt s w).1 = [] → spotAt (holdsM n s).1 w = spotAt s w)
  | 0, s, g, hk, hw, hr, ht, hl => by omega
  | n + 1, s, g, hk, hw, hr, ht, hl => by
    unfold holdsM at ht ⊢
    cases hc : chosenM s with
    | none =>
      simp only [hc] at ht
      exact ⟨rfl, ht, fun _ => rfl⟩
    | some c =>
      have R := chosen_ready g hc
      simp only [hc] at ht ⊢
      rcases ready_step g R with ⟨t, e⟩ | ⟨m, e⟩
      · have e' : stepM s c = some (.hold t) := e
        simp only [e'] at ht ⊢
        have gh := good_hold g R e
        obtain ⟨i1, i2, i3⟩ := holds_rest n (heldOn s c) gh hk hw hr ht (by have := left_hold g R.1 R.2.1; omega)
        have hth := there_hold g R i2 hk
        by_cases ec : c = w
        · subst ec
          have htl := lesser_holds g hc hk hth hr
          exact ⟨i1.trans (restM_hold g hw e' htl), hth, fun z => absurd z htl⟩
        · have hne : w ≠ c := fun z => ec z.symm
          refine ⟨i1.trans (restM_ne hne _), hth, fun z => ?_⟩
          have hsp : spotAt (heldOn s c) w = spotAt s w := spot_set_ne hne _
          rw [i3 (by rw [hsp]; exact z), hsp]
      · have e' : stepM s c = some (.work m) := e
        simp only [e'] at ht
        simp only [e']
        exact ⟨trivial, ht, fun _ => trivial⟩
/-- who is there behind the holds of a tick -/
def midM (s : Shp) : Shp := (holdsM 1000 s).1
theorem tick_who (s : Shp) : (tickM s).2 = (holdsM 1000 s).2 := by
  unfold tickM
  generalize holdsM 1000 s = r
  obtain ⟨s', o⟩ := r
  cases o with
  | none => rfl
  | some k =>
    simp only
    split <;> rfl
theorem tick_rest {s : Shp} (g : GoodShp s) {k w : Nat} (hk : k < s.ws.length) (hw : w < s.ws.length) (hr : rankM s w < rankM s k) (ht : thereB (midM s) k = true) :
    restM (tickM s).1 w = restM s w - (if (tickM s).2 = some w then 1 else 0) ∧ thereB s k = true := by
  have hl : leftM s < 1000 := by have := left_most g; omega
  obtain ⟨h1, h2, h3, h4, h5⟩ := holds_ok 1000 s g hl
  obtain ⟨r1, r2, _⟩ := holds_rest 1000 s g hk hw hr ht hl
  refine ⟨?_, r2⟩
  rw [tick_who]
  have ht' : thereB (holdsM 1000 s).1 k = true := ht
  unfold tickM
  have hws : (holdsM 1000 s).1.ws = s.ws := h2
  have hrk : ∀ j, rankM (holdsM 1000 s).1 j = rankM s j := fun j => by unfold rankM wAt; rw [hws]
  generalize holdsM 1000 s = r at *
  obtain ⟨s', o⟩ := r
  simp only at h1 h4 h5 r1 ht' hws hrk ⊢
  have lat : ∀ (q : Shp) j, restM (later q) j = restM q j := fun q j => rfl
  cases o with
  | none =>
    simp only [lat, r1]
    simp
  | some c =>
    obtain ⟨R, m, hm⟩ := h5 c rfl
    simp only [hm, lat]
    by_cases ec : c = w
    · subst ec
      have htl := lesser_holds h1 h4 (by rw [hws]; exact hk) ht' (by rw [hrk, hrk]; exact hr)
      rw [restM_work h1 R.1 hm htl, r1, if_pos rfl]
    · have hne : w ≠ c := fun z => ec z.symm
      have : restM (workedOn s' c m) w = restM s' w := restM_ne hne _
      rw [this, r1, if_neg (fun z => ec (Option.some.inj z))]
      omega
/-- nobody's place goes back -/
theorem place_set {s : Shp} (g : GoodShp s) {c : Nat} (hc : c < s.ws.length) {sp : Spot} (h : (spotAt s c).1 ≤ sp.1) (j : Nat) : (spotAt s j).1 ≤ (spotAt (setSp s c sp) j).1 := by
  by_cases e : j = c
  · subst e; rw [spot_set_same g hc]; exact h
  · rw [spot_set_ne e]; exact Nat.le_refl _
theorem place_holds : ∀ (n : Nat) (s : Shp), GoodShp s → leftM s < n → ∀ j, (spotAt s j).1 ≤ (spotAt (holdsM n s).1 j).1
  | 0, s, g, hl, j => by omega
  | n + 1, s, g, hl, j => by
    unfold holdsM
    cases hc : chosenM s with
    | none => exact Nat.le_refl _
    | some c =>
      have R := chosen_ready g hc
      simp only
      rcases ready_step g R with ⟨t, e⟩ | ⟨m, e⟩
      · have e' : stepM s c = some (.hold t) := e
        simp only [e']
        obtain ⟨_, _, gw, _⟩ := g.at_ R.1
        have hb := (behind_ok gw (there_start R.2.1).2).2.2
        have i := place_holds n (heldOn s c) (good_hold g R e) (by have := left_hold g R.1 R.2.1; omega) j
        exact Nat.le_trans (place_set g R.1 (Nat.le_of_lt hb) j) i
      · have e' : stepM s c = some (.work m) := e
        simp only [e']
        exact Nat.le_refl _
theorem place_tick {s : Shp} (g : GoodShp s) (j : Nat) : (spotAt (midM s) j).1 ≤ (spotAt (tickM s).1 j).1 ∧ (spotAt s j).1 ≤ (spotAt (midM s) j).1 := by
  have hl : leftM s < 1000 := by have := left_most g; omega
  obtain ⟨h1, h2, h3, h4, h5⟩ := holds_ok 1000 s g hl
  refine ⟨?_, place_holds 1000 s g hl j⟩
  unfold midM tickM
  generalize holdsM 1000 s = r at *
  obtain ⟨s', o⟩ := r
  cases o with
  | none => exact Nat.le_refl _
  | some c =>
    obtain ⟨R, m, hm⟩ := h5 c rfl
    simp only at h1 hm ⊢
    simp only [hm]
    show (spotAt s' j).1 ≤ (spotAt (workedOn s' c m) j).1
    unfold workedOn
    refine place_set h1 R.1 ?_ j
    obtain ⟨_, _, gw, _⟩ := h1.at_ R.1
    have hb := (behind_ok gw (there_start R.2.1).2).2.2
    split
    · exact Nat.le_of_lt hb
    · exact Nat.le_refl _
end LH

namespace LH
open PySem PySem.Spec PyProof.Rows L2 Evl DL

/-! ### how often a lesser one works while k is there -/
def lessB (s : Shp) (k w : Nat) : Bool := thereB (midM s) k && decide ((tickM s).2 = some w)
def cntM : Nat → Shp → Nat → Nat → Nat
  | 0, _, _, _ => 0
  | n + 1, s, k, w => (if lessB s k w then 1 else 0) + cntM n (tickM s).1 k w
def GoneM (s : Shp) (k : Nat) : Prop := (wAt s k).plan.length ≤ (spotAt s k).1
theorem tick_w {s : Shp} (g : GoodShp s) (j : Nat) : wAt (tickM s).1 j = wAt s j := by unfold wAt; rw [(tick_ok g).2.1]
theorem mid_w {s : Shp} (g : GoodShp s) (j : Nat) : wAt (midM s) j = wAt s j ∧ (midM s).now = s.now := by
  have hl : leftM s < 1000 := by have := left_most g; omega
  obtain ⟨_, h2, h3, _⟩ := holds_ok 1000 s g hl
  exact ⟨by unfold wAt midM; rw [h2], h3⟩
theorem gone_tick {s : Shp} (g : GoodShp s) {k : Nat} (h : GoneM s k) : GoneM (tickM s).1 k ∧ thereB (midM s) k = false := by
  obtain ⟨p1, p2⟩ := place_tick g k
  unfold GoneM at h ⊢
  rw [tick_w g]
  refine ⟨by omega, ?_⟩
  cases ht : thereB (midM s) k with
  | false => rfl
  | true =>
    have := (there_start ht).2
    rw [(mid_w g k).1] at this
    omega
theorem cnt_gone {k w : Nat} : ∀ (n : Nat) (s : Shp), GoodShp s → GoneM s k → cntM n s k w = 0
  | 0, _, _, _ => rfl
  | n + 1, s, g, h => by
    obtain ⟨h1, h2⟩ := gone_tick g h
    simp only [cntM]
    rw [cnt_gone n _ (tick_ok g).1 h1]
    simp [lessB, h2]
theorem cnt_le {k w : Nat} : ∀ (n : Nat) (s : Shp), GoodShp s → k < s.ws.length → w < s.ws.length → rankM s w < rankM s k → (wAt s k).start ≤ s.now → (cntM n s k w : Int) ≤ restM s w
  | 0, s, g, hk, hw, hr, hs => by simpa [cntM] using restM_nn g hw
  | n + 1, s, g, hk, hw, hr, hs => by
    obtain ⟨g1, g2, g3⟩ := tick_ok g
    simp only [cntM]
    cases ht : thereB (midM s) k with
    | false =>
      have hgone : GoneM (tickM s).1 k := by
        unfold GoneM
        rw [tick_w g]
        have h1 : ¬ (spotAt (midM s) k).1 < (wAt s k).plan.length := fun hlt => by
          have : thereB (midM s) k = true := by
            unfold thereB
            rw [(mid_w g k).1, (mid_w g k).2, Bool.and_eq_true, decide_eq_true_eq, decide_eq_true_eq]
            exact ⟨hs, hlt⟩
          rw [ht] at this
          cases this
        have := (place_tick g k).1
        omega
      rw [cnt_gone n _ g1 hgone]
      simpa [lessB, ht] using restM_nn g hw
    | true =>
      obtain ⟨r1, _⟩ := tick_rest g hk hw hr ht
      have hr' : rankM (tickM s).1 w < rankM (tickM s).1 k := by
        unfold rankM at hr ⊢
        rw [tick_w g, tick_w g]
        exact hr
      have ih := cnt_le n (tickM s).1 g1 (by rw [g2]; exact hk) (by rw [g2]; exact hw) hr' (by rw [tick_w g, g3]; omega)
      rw [r1] at ih
      by_cases ho : (tickM s).2 = some w
      · simp only [lessB, ht, ho, decide_true, Bool.and_self, if_true] at ih ⊢
        omega
      · simp only [lessB, ht, ho, decide_false, Bool.and_false, Bool.false_eq_true, if_false] at ih ⊢
        omega
/-- what is there behind the tick was there behind its holds -/
theorem mid_of_tick {s : Shp} (g : GoodShp s) {k : Nat} (hs : (wAt s k).start ≤ s.now) (h : (spotAt (tickM s).1 k).1 < (wAt s k).plan.length) : thereB (midM s) k = true := by
  have := (place_tick g k).1
  unfold thereB
  rw [(mid_w g k).1, (mid_w g k).2, Bool.and_eq_true, decide_eq_true_eq, decide_eq_true_eq]
  exact ⟨hs, by omega⟩
end LH

namespace LH
open PySem PySem.Spec PyProof.Rows L2 Evl DL

/-! ### one more worker of the least rank that holds nothing -/
def iota (a i : Nat) : Nat := if i < a then i else i + 1
theorem iota_ne (a i : Nat) : iota a i ≠ a := by unfold iota; split <;> omega
theorem iota_inj {a i j : Nat} (h : iota a i = iota a j) : i = j := by unfold iota at h; split at h <;> split at h <;> omega
theorem iota_lt {a i n : Nat} (ha : a ≤ n) (h : i < n) : iota a i < n + 1 := by unfold iota; split <;> omega
theorem iota_sur {a j n : Nat} (ha : a ≤ n) (h : j < n + 1) : j = a ∨ ∃ i, i < n ∧ j = iota a i := by
  by_cases e : j = a
  · exact .inl e
  · refine .inr ?_
    by_cases hl : j < a
    · exact ⟨j, by omega, by unfold iota; rw [if_pos hl]⟩
    · exact ⟨j - 1, by omega, by unfold iota; rw [if_neg (by omega)]; omega⟩
structure Sim (a : Nat) (s u : Shp) : Prop where
  g : GoodShp s
  gu : GoodShp u
  n : u.ws.length = s.ws.length + 1
  le : a ≤ s.ws.length
  now : u.now = s.now
  w : ∀ i, i < s.ws.length → wAt u (iota a i) = wAt s i
  sp : ∀ i, i < s.ws.length → spotAt u (iota a i) = spotAt s i
  low : ∀ i, i < s.ws.length → rankM u a < rankM s i
  works : ∀ st ∈ (wAt u a).plan, ∃ n, st = .work n
section
variable {a : Nat} {s u : Shp}
theorem Sim.lt (S : Sim a s u) : a < u.ws.length := by have := S.n; have := S.le; omega
theorem Sim.at_ (S : Sim a s u) {i : Nat} (h : i < s.ws.length) : iota a i < u.ws.length := by rw [S.n]; exact iota_lt S.le h
theorem works_tools : ∀ (p : List Stp) (acc : List Int), (∀ st ∈ p, ∃ n, st = Stp.work n) → ∀ t, runS acc p = some t → t = acc
  | [], acc, _, t, h => by cases h; rfl
  | x :: p, acc, hw, t, h => by
    obtain ⟨n, rfl⟩ := hw x (by simp)
    simp only [runS] at h
    split at h
    · exact works_tools p acc (fun st hst => hw st (by simp [hst])) t h
    · cases h
theorem Sim.none_ (S : Sim a s u) : toolsAt (wAt u a).plan (spotAt u a).1 = [] := by
  obtain ⟨_, _, gw, _⟩ := S.gu.at_ S.lt
  exact works_tools _ [] (fun st h => S.works st (List.mem_of_mem_take h)) _ (toolsAt_run gw.plan _)
theorem holder_iff {s : Shp} (g : GoodShp s) (t : Int) (j : Nat) : holderM s t = some j ↔ j < s.ws.length ∧ t ∈ toolsAt (wAt s j).plan (spotAt s j).1 := by
  refine ⟨fun h => ?_, fun ⟨h1, h2⟩ => ?_⟩
  · unfold holderM at h
    have h1 := List.mem_of_find?_eq_some h
    have h2 := List.find?_some h
    exact ⟨by simpa using h1, by simpa [hasB] using h2⟩
  · cases hh : holderM s t with
    | none =>
      unfold holderM at hh
      have := List.find?_eq_none.mp hh j (by simpa using h1)
      exact absurd (by simpa [hasB] using h2) this
    | some i =>
      unfold holderM at hh
      have k1 := List.mem_of_find?_eq_some hh
      have k2 := List.find?_some hh
      have k1' : i < s.ws.length := by simpa using k1
      have k2' : t ∈ toolsAt (wAt s i).plan (spotAt s i).1 := by simpa [hasB] using k2
      by_cases e : i = j
      · rw [e]
      · exact absurd h2 (g.two k1' h1 e k2')
theorem Sim.holder (S : Sim a s u) (t : Int) : holderM u t = (holderM s t).map (iota a) := by
  cases h : holderM s t with
  | some i =>
    obtain ⟨h1, h2⟩ := (holder_iff S.g t i).mp h
    refine (holder_iff S.gu t _).mpr ⟨S.at_ h1, ?_⟩
    rw [S.w i h1, S.sp i h1]
    exact h2
  | none =>
    cases h' : holderM u t with
    | none => rfl
    | some j =>
      obtain ⟨h1, h2⟩ := (holder_iff S.gu t j).mp h'
      rcases iota_sur S.le (by rw [← S.n]; exact h1) with rfl | ⟨i, hi, rfl⟩
      · rw [S.none_] at h2; cases h2
      · rw [S.w i hi, S.sp i hi] at h2
        have := (holder_iff S.g t i).mpr ⟨hi, h2⟩
        rw [h] at this
        cases this
theorem Sim.there (S : Sim a s u) {i : Nat} (h : i < s.ws.length) : thereB u (iota a i) = thereB s i := by
  unfold thereB
  rw [S.w i h, S.sp i h, S.now]
theorem Sim.after (S : Sim a s u) {i : Nat} (h : i < s.ws.length) : afterM u (iota a i) = (afterM s i).map (iota a) := by
  unfold afterM
  rw [S.there h, S.w i h, S.sp i h]
  split
  · split
    · exact S.holder _
    · rfl
  · rfl
theorem Sim.after_new (S : Sim a s u) : afterM u a = none := by
  cases h : afterM u a with
  | none => rfl
  | some j =>
    obtain ⟨_, _, t, hp, _⟩ := after_tool h
    obtain ⟨n, hn⟩ := S.works _ (List.mem_of_getElem? hp)
    cases hn
theorem Sim.end_ (S : Sim a s u) : ∀ (n : Nat) {i : Nat}, i < s.ws.length → endM u n (iota a i) = iota a (endM s n i)
  | 0, i, h => rfl
  | n + 1, i, h => by
    unfold endM
    rw [S.after h]
    cases hj : afterM s i with
    | none => rfl
    | some j => exact S.end_ n (afterM_lt hj)
theorem best_uniq {s : Shp} (g : GoodShp s) {b c : Nat} (B : IsBest s b) (C : IsBest s c) : b = c := by
  by_cases e : b = c
  · exact e
  · have h1 := B.best c C.lt C.there
    have h2 := C.best b B.lt B.there
    exact absurd (by omega) (rank_ne g B.lt C.lt e)
theorem Sim.rank (S : Sim a s u) {i : Nat} (h : i < s.ws.length) : rankM u (iota a i) = rankM s i := by unfold rankM; rw [S.w i h]
theorem Sim.best (S : Sim a s u) : bestM u = match bestM s with
    | some b => some (iota a b)
    | none => if thereB u a then some a else none := by
  cases hb : bestM s with
  | some b =>
    have B := bestM_some hb
    have B' : IsBest u (iota a b) := by
      refine ⟨S.at_ B.lt, by rw [S.there B.lt]; exact B.there, fun j hj ht => ?_⟩
      rw [S.rank B.lt]
      rcases iota_sur S.le (by rw [← S.n]; exact hj) with rfl | ⟨i, hi, rfl⟩
      · exact Int.le_of_lt (S.low b B.lt)
      · rw [S.rank hi]
        exact B.best i hi (by rw [← S.there hi]; exact ht)
    cases hu : bestM u with
    | none =>
      have := bestM_none hu _ B'.lt
      rw [B'.there] at this
      cases this
    | some c =>
      simp only
      rw [best_uniq S.gu (bestM_some hu) B']
  | none =>
    have hn := bestM_none hb
    have no : ∀ j, j < u.ws.length → j ≠ a → thereB u j = false := fun j hj hne => by
      rcases iota_sur S.le (by rw [← S.n]; exact hj) with e | ⟨i, hi, rfl⟩
      · exact absurd e hne
      · rw [S.there hi]; exact hn i hi
    simp only
    cases hu : bestM u with
    | none => rw [bestM_none hu a S.lt]; rfl
    | some c =>
      have C := bestM_some hu
      have e : c = a := Classical.byContradiction fun hne => by
        have := no c C.lt hne
        rw [C.there] at this
        cases this
      subst e
      rw [C.there]; rfl
theorem Sim.chosen (S : Sim a s u) : chosenM u = match chosenM s with
    | some c => some (iota a c)
    | none => if thereB u a then some a else none := by
  unfold chosenM
  rw [S.best]
  cases hb : bestM s with
  | some b => exact congrArg some (S.end_ 9 (bestM_some hb).lt)
  | none =>
    simp only [Option.map_none]
    split
    · have : endM u 9 a = a := by unfold endM; rw [S.after_new]
      show some (endM u 9 a) = _
      rw [this]
    · rfl
theorem Sim.step (S : Sim a s u) {i : Nat} (h : i < s.ws.length) : stepM u (iota a i) = stepM s i := by unfold stepM; rw [S.w i h, S.sp i h]
theorem Sim.set (S : Sim a s u) {c : Nat} (hc : c < s.ws.length) {sp : Spot} (g : GoodShp (setSp s c sp)) (gu : GoodShp (setSp u (iota a c) sp)) : Sim a (setSp s c sp) (setSp u (iota a c) sp) where
  g := g
  gu := gu
  n := S.n
  le := S.le
  now := S.now
  w := S.w
  sp := fun i hi => by
    by_cases e : i = c
    · subst e
      rw [spot_set_same S.g hc, spot_set_same S.gu (S.at_ hc)]
    · rw [spot_set_ne e, spot_set_ne (fun z => e (iota_inj z))]
      exact S.sp i hi
  low := S.low
  works := S.works
theorem Sim.own (S : Sim a s u) {sp : Spot} (gu : GoodShp (setSp u a sp)) : Sim a s (setSp u a sp) where
  g := S.g
  gu := gu
  n := S.n
  le := S.le
  now := S.now
  w := S.w
  sp := fun i hi => by rw [spot_set_ne (iota_ne a i)]; exact S.sp i hi
  low := S.low
  works := S.works
theorem Sim.later (S : Sim a s u) : Sim a (later s) (later u) where
  g := good_later S.g
  gu := good_later S.gu
  n := S.n
  le := S.le
  now := by show u.now + 1 = s.now + 1; rw [S.now]
  w := S.w
  sp := S.sp
  low := S.low
  works := S.works
theorem Sim.held (S : Sim a s u) {c : Nat} (h : Ready s c) {t : Int} (hp : stepM s c = some (.hold t)) (h' : Ready u (iota a c)) : Sim a (heldOn s c) (heldOn u (iota a c)) := by
  have g1 := good_hold S.g h hp
  have hp' : stepM u (iota a c) = some (.hold t) := by rw [S.step h.1]; exact hp
  have g2 := good_hold S.gu h' hp'
  unfold heldOn at g1 g2 ⊢
  rw [S.w c h.1, S.sp c h.1] at g2 ⊢
  exact S.set h.1 g1 g2
/-- who works with the new one there, by who works without it -/
def WhoOk (a : Nat) (o p : Option Nat) : Prop := match o with
  | some c => p = some (iota a c)
  | none => p = none ∨ p = some a
theorem Sim.holds : ∀ (n : Nat) {s u : Shp}, Sim a s u → leftM s < n → leftM u < n → Sim a (holdsM n s).1 (holdsM n u).1 ∧ WhoOk a (holdsM n s).2 (holdsM n u).2
  | 0, s, u, S, h, _ => by omega
  | n + 1, s, u, S, h, h2 => by
    have hcu := S.chosen
    unfold holdsM
    cases hc : chosenM s with
    | some c =>
      have R := chosen_ready S.g hc
      rw [hc] at hcu
      simp only at hcu
      have R' := chosen_ready S.gu hcu
      rw [hcu]
      simp only
      rw [S.step R.1]
      rcases ready_step S.g R with ⟨t, e⟩ | ⟨m, e⟩
      · have e' : stepM s c = some (.hold t) := e
        have e2 : stepM u (iota a c) = some (.hold t) := by rw [S.step R.1]; exact e'
        simp only [e']
        exact Sim.holds n (S.held R e' R') (by have := left_hold S.g R.1 R.2.1; omega) (by have := left_hold S.gu R'.1 R'.2.1; omega)
      · have e' : stepM s c = some (.work m) := e
        simp only [e']
        exact ⟨S, rfl⟩
    | none =>
      rw [hc] at hcu
      simp only at hcu
      by_cases ht : thereB u a = true
      · rw [if_pos ht] at hcu
        have R' := chosen_ready S.gu hcu
        rw [hcu]
        simp only
        rcases ready_step S.gu R' with ⟨t, e⟩ | ⟨m, e⟩
        · obtain ⟨n, hn⟩ := S.works _ (List.mem_of_getElem? e)
          cases hn
        · have e' : stepM u a = some (.work m) := e
          simp only [e']
          exact ⟨S, .inr rfl⟩
      · rw [if_neg ht] at hcu
        rw [hcu]
        exact ⟨S, .inl rfl⟩
theorem Sim.tick (S : Sim a s u) : Sim a (tickM s).1 (tickM u).1 ∧ WhoOk a (tickM s).2 (tickM u).2 := by
  have hl : leftM s < 1000 := by have := left_most S.g; omega
  have hl2 : leftM u < 1000 := by have := left_most S.gu; omega
  obtain ⟨S1, W1⟩ := S.holds 1000 hl hl2
  obtain ⟨h1, _, _, _, h5⟩ := holds_ok 1000 s S.g hl
  obtain ⟨k1, _, _, _, k5⟩ := holds_ok 1000 u S.gu hl2
  unfold tickM
  generalize holdsM 1000 s = r at *
  generalize holdsM 1000 u = q at *
  obtain ⟨s', o⟩ := r
  obtain ⟨u', p⟩ := q
  simp only at S1 W1 h1 h5 k1 k5 ⊢
  cases o with
  | some c =>
    have hp : p = some (iota a c) := W1
    subst hp
    obtain ⟨R, m, hm⟩ := h5 c rfl
    obtain ⟨R', m', hm'⟩ := k5 _ rfl
    have e : m' = m := by
      rw [S1.step R.1, hm] at hm'
      cases hm'; rfl
    subst e
    simp only [hm, hm']
    have g1 := good_work h1 R.1 R.2.1 hm
    have g2 := good_work k1 R'.1 R'.2.1 hm'
    refine ⟨?_, rfl⟩
    have : Sim a (workedOn s' c m') (workedOn u' (iota a c) m') := by
      unfold workedOn at g1 g2 ⊢
      rw [S1.w c R.1, S1.sp c R.1] at g2 ⊢
      exact S1.set R.1 g1 g2
    exact this.later
  | none =>
    rcases W1 with rfl | rfl
    · exact ⟨S1.later, .inl rfl⟩
    · obtain ⟨R', m', hm'⟩ := k5 _ rfl
      simp only [hm']
      have g2 := good_work k1 R'.1 R'.2.1 hm'
      refine ⟨?_, .inr rfl⟩
      have : Sim a s' (workedOn u' a m') := by
        unfold workedOn at g2 ⊢
        exact S1.own g2
      exact this.later
end
end LH

namespace LH
open PySem PySem.Spec PyProof.Rows L2 Evl DL

/-! ### all ends -/
def wl : List Stp → Int
  | [] => 0
  | .work n :: r => n + wl r
  | _ :: r => wl r
def phiP (p : List Stp) (j : Nat) (gone : Int) : Int := wl (p.drop j) - gone + ((p.length : Int) - j)
def phiK (s : Shp) (k : Nat) : Int := phiP (wAt s k).plan (spotAt s k).1 (spotAt s k).2
def phiM (s : Shp) : Int := ((List.range s.ws.length).map (phiK s)).sum
theorem wl_next {p : List Stp} {j : Nat} {st : Stp} (h : p[j]? = some st) : wl (p.drop j) = (match st with
    | .work n => n
    | _ => 0) + wl (p.drop (j + 1)) := by
  rw [drop_at h]
  cases st <;> simp [wl]
theorem wl_past (p : List Stp) : ∀ n j, wl (p.drop (pastF p n j)) = wl (p.drop j)
  | 0, j => rfl
  | n + 1, j => by
    unfold pastF
    split
    · rename_i t h
      rw [wl_past p n (j + 1), wl_next h]
      simp
    · rfl
theorem wl_nn : ∀ (st : List Stp) (acc fin : List Int), runS acc st = some fin → 0 ≤ wl st
  | [], _, _, _ => Int.le_refl _
  | .work n :: st, acc, fin, h => by
    simp only [runS] at h
    split at h
    · have := wl_nn st acc fin h
      simp only [wl]; omega
    · cases h
  | .hold t :: st, acc, fin, h => by
    simp only [runS] at h
    split at h
    · exact wl_nn st _ fin h
    · cases h
  | .free t :: st, acc, fin, h => by
    simp only [runS] at h
    split at h
    · exact wl_nn st _ fin h
    · cases h
theorem wl_most : ∀ (st : List Stp) (acc fin : List Int), runS acc st = some fin → wl st ≤ 100 * st.length
  | [], _, _, _ => by simp [wl]
  | .work n :: st, acc, fin, h => by
    simp only [runS] at h
    split at h
    · have := wl_most st acc fin h
      simp only [wl, List.length_cons]; omega
    · cases h
  | .hold t :: st, acc, fin, h => by
    simp only [runS] at h
    split at h
    · have := wl_most st _ fin h
      simp only [wl, List.length_cons]; omega
    · cases h
  | .free t :: st, acc, fin, h => by
    simp only [runS] at h
    split at h
    · have := wl_most st _ fin h
      simp only [wl, List.length_cons]; omega
    · cases h
theorem phiK_nn {s : Shp} (g : GoodShp s) {k : Nat} (hk : k < s.ws.length) : 0 ≤ phiK s k := by
  obtain ⟨_, _, gw, sp⟩ := g.at_ hk
  have hpl := sp.place
  have h0 := wl_nn _ _ _ (toolsAt_rest gw.plan (spotAt s k).1)
  unfold phiK phiP
  cases hst : (wAt s k).plan[(spotAt s k).1]? with
  | none =>
    have := sp.other (fun n h => by rw [hst] at h; cases h)
    omega
  | some st =>
    cases st with
    | work n =>
      have h1 := sp.work n hst
      have h2 := wl_next hst
      have h3 := wl_nn _ _ _ (toolsAt_rest gw.plan ((spotAt s k).1 + 1))
      simp only at h2
      omega
    | hold t =>
      have := sp.other (fun n h => by rw [hst] at h; cases h)
      omega
    | free t =>
      have := sp.other (fun n h => by rw [hst] at h; cases h)
      omega
theorem phiK_most {s : Shp} (g : GoodShp s) {k : Nat} (hk : k < s.ws.length) : phiK s k ≤ 4040 := by
  obtain ⟨_, _, gw, sp⟩ := g.at_ hk
  have hs := gw.short
  have hg := sp.gone
  have h0 := wl_most _ _ _ (toolsAt_rest gw.plan (spotAt s k).1)
  unfold phiK phiP
  simp only [List.length_drop] at h0
  omega
theorem sum_one {f h : Nat → Int} : ∀ (l : List Nat) (k : Nat), k ∈ l → l.Nodup → (∀ j ∈ l, j ≠ k → f j = h j) → (l.map f).sum = (l.map h).sum - h k + f k
  | [], k, hk, _, _ => by cases hk
  | a :: l, k, hk, nd, he => by
    rw [List.nodup_cons] at nd
    simp only [List.map_cons, List.sum_cons]
    by_cases e : a = k
    · subst e
      have : l.map f = l.map h := List.map_congr_left fun j hj => he j (by simp [hj]) fun z => nd.1 (z ▸ hj)
      rw [this]; omega
    · have hm : k ∈ l := by
        rcases List.mem_cons.mp hk with z | z
        · exact absurd z.symm e
        · exact z
      have := sum_one l k hm nd.2 (fun j hj => he j (by simp [hj]))
      rw [he a (by simp) e]; omega
theorem phi_set {s : Shp} (g : GoodShp s) {c : Nat} (hc : c < s.ws.length) (sp : Spot) : phiM (setSp s c sp) = phiM s - phiK s c + phiP (wAt s c).plan sp.1 sp.2 := by
  have h := sum_one (f := phiK (setSp s c sp)) (h := phiK s) (List.range s.ws.length) c (by simpa using hc) List.nodup_range fun j hj hne => by
    unfold phiK
    rw [spot_set_ne hne, w_set]
  have e : phiK (setSp s c sp) c = phiP (wAt s c).plan sp.1 sp.2 := by
    unfold phiK
    rw [spot_set_same g hc, w_set]
  rw [e] at h
  exact h
theorem sum_nn {f : Nat → Int} : ∀ (l : List Nat), (∀ j ∈ l, 0 ≤ f j) → 0 ≤ (l.map f).sum
  | [], _ => Int.le_refl _
  | a :: l, h => by
    have := sum_nn l fun j hj => h j (by simp [hj])
    have := h a (by simp)
    simp only [List.map_cons, List.sum_cons]; omega
theorem sum_most {f : Nat → Int} {m : Int} : ∀ (l : List Nat), (∀ j ∈ l, f j ≤ m) → (l.map f).sum ≤ l.length * m
  | [], _ => by simp
  | a :: l, h => by
    have h1 := sum_most l fun j hj => h j (by simp [hj])
    have h2 := h a (by simp)
    simp only [List.map_cons, List.sum_cons, List.length_cons]
    have : ((l.length + 1 : Nat) : Int) * m = (l.length : Int) * m + m := by rw [Int.natCast_add, Int.add_mul]; simp
    omega
theorem phi_nn {s : Shp} (g : GoodShp s) : 0 ≤ phiM s := sum_nn _ fun j hj => phiK_nn g (by simpa using hj)
theorem phi_most {s : Shp} (g : GoodShp s) : phiM s ≤ 32320 := by
  have h8 := g.ws.most
  have := sum_most (f := phiK s) (m := 4040) (List.range s.ws.length) fun j hj => phiK_most g (by simpa using hj)
  rw [List.length_range] at this
  unfold phiM
  omega
theorem behind_len (p : List Stp) (j : Nat) : (j + 1 : Int) ≤ behindM p j := by
  have := pastF_ge p 100 (j + 1)
  unfold behindM
  omega
theorem phi_hold {s : Shp} (g : GoodShp s) {c : Nat} (hc : c < s.ws.length) {t : Int} (hp : stepM s c = some (.hold t)) : phiM (heldOn s c) < phiM s := by
  obtain ⟨_, _, gw, sp⟩ := g.at_ hc
  unfold heldOn
  rw [phi_set g hc]
  have h1 := wl_next hp
  have h2 := wl_past (wAt s c).plan 100 ((spotAt s c).1 + 1)
  have h3 := behind_len (wAt s c).plan (spotAt s c).1
  have h4 := sp.other (fun n h => by rw [show (wAt s c).plan[(spotAt s c).1]? = some (.hold t) from hp] at h; cases h)
  simp only at h1
  change wl ((wAt s c).plan.drop (behindM (wAt s c).plan (spotAt s c).1)) = _ at h2
  unfold phiK phiP
  simp only
  omega
theorem phi_work {s : Shp} (g : GoodShp s) {c : Nat} (hc : c < s.ws.length) {n : Int} (hp : stepM s c = some (.work n)) : phiM (workedOn s c n) < phiM s := by
  obtain ⟨_, _, gw, sp⟩ := g.at_ hc
  unfold workedOn
  rw [phi_set g hc]
  have h1 := wl_next hp
  have h2 := wl_past (wAt s c).plan 100 ((spotAt s c).1 + 1)
  have h3 := behind_len (wAt s c).plan (spotAt s c).1
  simp only at h1
  change wl ((wAt s c).plan.drop (behindM (wAt s c).plan (spotAt s c).1)) = _ at h2
  unfold phiK phiP
  split
  · simp only
    omega
  · simp only
    omega
theorem phi_holds : ∀ (n : Nat) (s : Shp), GoodShp s → leftM s < n → phiM (holdsM n s).1 ≤ phiM s ∧ (∀ k, chosenM s = some k → phiM (holdsM n s).1 < phiM s ∨ (holdsM n s).2 ≠ none)
  | 0, s, g, hl => by omega
  | n + 1, s, g, hl => by
    unfold holdsM
    cases hc : chosenM s with
    | none => exact ⟨Int.le_refl _, fun k h => by cases h⟩
    | some c =>
      have R := chosen_ready g hc
      simp only
      rcases ready_step g R with ⟨t, e⟩ | ⟨m, e⟩
      · have e' : stepM s c = some (.hold t) := e
        simp only [e']
        have h1 := phi_hold g R.1 e'
        have h2 := (phi_holds n (heldOn s c) (good_hold g R e) (by have := left_hold g R.1 R.2.1; omega)).1
        exact ⟨by omega, fun _ _ => .inl (by omega)⟩
      · have e' : stepM s c = some (.work m) := e
        simp only [e']
        exact ⟨Int.le_refl _, fun _ _ => .inr (by simp)⟩
/-- a tick at which somebody is there leaves less -/
theorem phi_tick {s : Shp} (g : GoodShp s) : phiM (tickM s).1 ≤ phiM s ∧ (∀ k, k < s.ws.length → thereB s k = true → phiM (tickM s).1 < phiM s) := by
  have hl : leftM s < 1000 := by have := left_most g; omega
  obtain ⟨h1, h2, h3, h4, h5⟩ := holds_ok 1000 s g hl
  obtain ⟨p1, p2⟩ := phi_holds 1000 s g hl
  have lat : ∀ q : Shp, phiM (later q) = phiM q := fun q => rfl
  have some_ : ∀ k, k < s.ws.length → thereB s k = true → ∃ c, chosenM s = some c := fun k hk ht => by
    unfold chosenM
    cases hb : bestM s with
    | none =>
      have := bestM_none hb k hk
      rw [ht] at this; cases this
    | some b => exact ⟨_, rfl⟩
  unfold tickM
  generalize holdsM 1000 s = r at *
  obtain ⟨s', o⟩ := r
  simp only at h1 h5 p1 p2
  cases o with
  | none =>
    simp only [lat]
    refine ⟨p1, fun k hk ht => ?_⟩
    obtain ⟨c, hc⟩ := some_ k hk ht
    rcases p2 c hc with h | h
    · exact h
    · exact absurd rfl h
  | some c =>
    obtain ⟨R, m, hm⟩ := h5 c rfl
    simp only [hm, lat]
    have := phi_work h1 R.1 hm
    exact ⟨by omega, fun _ _ _ => by omega⟩
/-- what a tick makes less while not all is done -/
def leftT (s : Shp) : Nat := (phiM s).toNat + (1001 - s.now).toNat
theorem leftT_most {s : Shp} (g : GoodShp s) : leftT s ≤ 33321 := by
  have := phi_most g
  have := g.now
  unfold leftT
  omega
theorem leftT_tick {s : Shp} (g : GoodShp s) {k : Nat} (hk : k < s.ws.length) (h : (spotAt s k).1 < (wAt s k).plan.length) : leftT (tickM s).1 < leftT s := by
  obtain ⟨g1, _, hn⟩ := tick_ok g
  obtain ⟨p1, p2⟩ := phi_tick g
  have n0 := phi_nn g
  have n1 := phi_nn g1
  have hs := (g.at_ hk).2.2.1.start
  unfold leftT
  rw [hn]
  by_cases ht : thereB s k = true
  · have := p2 k hk ht
    omega
  · have : s.now < (wAt s k).start := Int.not_le.mp fun hle => ht (by unfold thereB; rw [Bool.and_eq_true, decide_eq_true_eq, decide_eq_true_eq]; exact ⟨hle, h⟩)
    omega
end LH

namespace LH
open PySem PySem.Spec PyProof.Rows L2 Evl DL

/-! ### runs -/
def begunM (ws : List Wkr) : Shp := ⟨ws, 0, ws.map fun _ => (0, 0)⟩
theorem spot_begun (ws : List Wkr) (k : Nat) : spotAt (begunM ws) k = (0, 0) := by
  unfold spotAt begunM
  simp only [List.getD_eq_getElem?_getD, List.getElem?_map]
  cases ws[k]? <;> rfl
theorem good_begun {ws : List Wkr} (g : GoodL ws) : GoodShp (begunM ws) := by
  refine good_at (s := begunM ws) g (Int.le_refl _) (by simp [begunM]) (fun k hk => ?_) fun i j hi hj hij t ht => ?_
  · have hk' : k < ws.length := hk
    have hw : ws[k]? = some (wAt (begunM ws) k) := by
      unfold wAt begunM
      rw [List.getD_eq_getElem?_getD, List.getElem?_eq_getElem hk']; rfl
    have gw := g.all _ (List.mem_of_getElem? hw)
    rw [spot_begun]
    have h := start_drawn gw []
    exact ⟨h.place, h.nofree, h.gone, h.work, h.other, fun _ => ⟨rfl, rfl⟩⟩
  · rw [spot_begun, zero_tools] at ht
    cases ht
/-- so many ticks; who worked at each -/
def runM : Nat → Shp → Shp × List (Option Nat)
  | 0, s => (s, [])
  | n + 1, s => ((runM n (tickM s).1).1, (tickM s).2 :: (runM n (tickM s).1).2)
theorem run_ok : ∀ (n : Nat) {s : Shp}, GoodShp s → GoodShp (runM n s).1 ∧ (runM n s).1.ws = s.ws ∧ (runM n s).1.now = s.now + n ∧ (runM n s).2.length = n
  | 0, s, g => ⟨g, rfl, by simp [runM], rfl⟩
  | n + 1, s, g => by
    obtain ⟨g1, w1, n1⟩ := tick_ok g
    obtain ⟨g2, w2, n2, l2⟩ := run_ok n g1
    refine ⟨g2, w2.trans w1, ?_, by simp [runM, l2]⟩
    show (runM n (tickM s).1).1.now = _
    rw [n2, n1]
    omega
theorem run_add : ∀ (m n : Nat) (s : Shp), runM (m + n) s = ((runM n (runM m s).1).1, (runM m s).2 ++ (runM n (runM m s).1).2)
  | 0, n, s => by simp [runM]
  | m + 1, n, s => by
    rw [show m + 1 + n = (m + n) + 1 by omega]
    simp only [runM]
    rw [run_add m n]
    simp
/-- the last tick of so many -/
theorem run_succ (n : Nat) (s : Shp) : runM (n + 1) s = ((tickM (runM n s).1).1, (runM n s).2 ++ [(tickM (runM n s).1).2]) := by
  rw [run_add n 1]
  rfl
theorem run_row {s : Shp} (g : GoodShp s) {n i : Nat} (h : i < n) : (runM n s).2[i]? = some (tickM (runM i s).1).2 := by
  obtain ⟨d, rfl⟩ : ∃ d, n = i + (d + 1) := ⟨n - i - 1, by omega⟩
  rw [run_add i (d + 1)]
  have hl := (run_ok i g).2.2.2
  simp only
  rw [List.getElem?_append_right (by omega), hl, Nat.sub_self]
  rfl
theorem run_w {s : Shp} (g : GoodShp s) (n k : Nat) : wAt (runM n s).1 k = wAt s k := by unfold wAt; rw [(run_ok n g).2.1]
theorem place_run {s : Shp} (g : GoodShp s) (k : Nat) : ∀ n, (spotAt s k).1 ≤ (spotAt (runM n s).1 k).1
  | 0 => Nat.le_refl _
  | n + 1 => by
    rw [run_succ]
    have h1 := place_run g k n
    have h2 := place_tick (run_ok n g).1 k
    simp only
    omega
/-- all is done -/
def OverM (s : Shp) : Prop := ∀ k, k < s.ws.length → (wAt s k).plan.length ≤ (spotAt s k).1
theorem over_some {s : Shp} (h : ¬ OverM s) : ∃ k, k < s.ws.length ∧ (spotAt s k).1 < (wAt s k).plan.length := by
  refine Classical.byContradiction fun hn => h fun k hk => ?_
  exact Nat.not_lt.mp fun hl => hn ⟨k, hk, hl⟩
theorem over_ends : ∀ (m : Nat) {s : Shp}, GoodShp s → leftT s ≤ m → ∃ n, n ≤ m ∧ OverM (runM n s).1 ∧ ∀ i, i < n → ¬ OverM (runM i s).1
  | m, s, g, hm => by
    by_cases ho : OverM s
    · exact ⟨0, Nat.zero_le _, ho, fun i h => by omega⟩
    · obtain ⟨k, hk, hlt⟩ := over_some ho
      have hl := leftT_tick g hk hlt
      cases m with
      | zero => omega
      | succ m =>
        obtain ⟨n, h1, h2, h3⟩ := over_ends m (tick_ok g).1 (by omega)
        refine ⟨n + 1, by omega, h2, fun i hi => ?_⟩
        cases i with
        | zero => exact ho
        | succ i => exact h3 i (by omega)
/-! ### with one more of the least rank -/
theorem Sim.run {a : Nat} : ∀ (n : Nat) {s u : Shp}, Sim a s u → Sim a (runM n s).1 (runM n u).1 ∧ ∀ i, i < n → WhoOk a (tickM (runM i s).1).2 (tickM (runM i u).1).2
  | 0, s, u, S => ⟨S, fun i h => by omega⟩
  | n + 1, s, u, S => by
    obtain ⟨S1, W1⟩ := S.tick
    obtain ⟨S2, W2⟩ := Sim.run n S1
    refine ⟨S2, fun i hi => ?_⟩
    cases i with
    | zero => exact W1
    | succ i => exact W2 i (by omega)
theorem insert_at (ws vs : List Wkr) (v : Wkr) (i : Nat) : (ws ++ v :: vs)[iota ws.length i]? = (ws ++ vs)[i]? := by
  unfold iota
  by_cases h : i < ws.length
  · rw [if_pos h, List.getElem?_append_left h, List.getElem?_append_left h]
  · rw [if_neg h, List.getElem?_append_right (by omega), List.getElem?_append_right (by omega)]
    rw [show i + 1 - ws.length = (i - ws.length) + 1 by omega, List.getElem?_cons_succ]
theorem sim_begun {ws vs : List Wkr} {v : Wkr} (g : GoodL (ws ++ vs)) (gu : GoodL (ws ++ v :: vs)) (low : ∀ w ∈ ws ++ vs, v.rank < w.rank) (wk : ∀ st ∈ v.plan, ∃ n, st = Stp.work n) : Sim ws.length (begunM (ws ++ vs)) (begunM (ws ++ v :: vs)) := by
  have e : ∀ i, wAt (begunM (ws ++ v :: vs)) (iota ws.length i) = wAt (begunM (ws ++ vs)) i := fun i => by
    unfold wAt begunM
    simp only [List.getD_eq_getElem?_getD]
    rw [insert_at]
  have en : wAt (begunM (ws ++ v :: vs)) ws.length = v := by
    unfold wAt begunM
    simp [List.getD_eq_getElem?_getD]
  refine ⟨good_begun g, good_begun gu, ?_, ?_, rfl, fun i _ => e i, fun i _ => by rw [spot_begun, spot_begun], fun i hi => ?_, ?_⟩
  · simp [begunM]; omega
  · simp [begunM]
  · unfold rankM
    rw [en]
    have hw : (ws ++ vs)[i]? = some (wAt (begunM (ws ++ vs)) i) := by
      have hi' : i < (ws ++ vs).length := hi
      unfold wAt begunM
      rw [List.getD_eq_getElem?_getD, List.getElem?_eq_getElem hi']; rfl
    exact low _ (List.mem_of_getElem? hw)
  · rw [en]; exact wk
end LH

namespace LH
open PySem PySem.Spec PyProof.Rows L2 Evl DL

/-! ### nobody works just where nobody that is there has work left -/
def HasWork (p : List Stp) (j : Nat) : Prop := ∃ i n, j ≤ i ∧ p[i]? = some (Stp.work n)
theorem hasWork_next {p : List Stp} {j : Nat} {st : Stp} (h : p[j]? = some st) (hn : ∀ n, st ≠ .work n) : HasWork p j ↔ HasWork p (j + 1) := by
  refine ⟨fun ⟨i, n, h1, h2⟩ => ?_, fun ⟨i, n, h1, h2⟩ => ⟨i, n, by omega, h2⟩⟩
  by_cases e : i = j
  · subst e
    rw [h] at h2
    exact absurd (Option.some.inj h2) (hn n)
  · exact ⟨i, n, by omega, h2⟩
theorem hasWork_past (p : List Stp) : ∀ n j, HasWork p (pastF p n j) ↔ HasWork p j
  | 0, j => Iff.rfl
  | n + 1, j => by
    unfold pastF
    split
    · rename_i t h
      rw [hasWork_past p n (j + 1)]
      exact (hasWork_next h (fun n z => by cases z)).symm
    · exact Iff.rfl
def WorkLeft (s : Shp) (k : Nat) : Prop := HasWork (wAt s k).plan (spotAt s k).1
theorem work_hold {s : Shp} (g : GoodShp s) {c : Nat} (hc : c < s.ws.length) {t : Int} (hp : stepM s c = some (.hold t)) (k : Nat) : WorkLeft (heldOn s c) k ↔ WorkLeft s k := by
  unfold WorkLeft heldOn
  rw [w_set]
  by_cases e : k = c
  · subst e
    rw [spot_set_same g hc]
    show HasWork _ (behindM _ _) ↔ _
    unfold behindM
    rw [hasWork_past]
    exact (hasWork_next (show (wAt s k).plan[(spotAt s k).1]? = some (.hold t) from hp) (fun n z => by cases z)).symm
  · rw [spot_set_ne e]
theorem there_goes {s : Shp} (g : GoodShp s) {c : Nat} (hc : Ready s c) {t : Int} (hp : stepM s c = some (.hold t)) {k : Nat} (hk : k < s.ws.length) (h : thereB s k = true) (hw : WorkLeft s k) : thereB (heldOn s c) k = true := by
  by_cases e : k = c
  · subst e
    have hw' := (work_hold g hk hp k).mpr hw
    obtain ⟨i, n, h1, h2⟩ := hw'
    have hi := (List.getElem?_eq_some_iff.mp h2).1
    unfold thereB
    rw [Bool.and_eq_true, decide_eq_true_eq, decide_eq_true_eq]
    exact ⟨(there_start h).1, by omega⟩
  · unfold thereB heldOn at *
    rw [spot_set_ne e, w_set]
    exact h
theorem holds_work : ∀ (n : Nat) (s : Shp), GoodShp s → leftM s < n → ((holdsM n s).2 = none ↔ ∀ k, k < s.ws.length → thereB s k = true → ¬ WorkLeft s k)
  | 0, s, g, hl => by omega
  | n + 1, s, g, hl => by
    unfold holdsM
    cases hc : chosenM s with
    | none =>
      simp only
      refine ⟨fun _ k hk ht => ?_, fun _ => trivial⟩
      unfold chosenM at hc
      rw [Option.map_eq_none_iff] at hc
      rw [bestM_none hc k hk] at ht
      cases ht
    | some c =>
      have R := chosen_ready g hc
      simp only
      rcases ready_step g R with ⟨t, e⟩ | ⟨m, e⟩
      · have e' : stepM s c = some (.hold t) := e
        simp only [e']
        have ih := holds_work n (heldOn s c) (good_hold g R e) (by have := left_hold g R.1 R.2.1; omega)
        rw [ih]
        refine ⟨fun h k hk ht hw => ?_, fun h k hk ht hw => ?_⟩
        · exact h k hk (there_goes g R e' hk ht hw) ((work_hold g R.1 e' k).mpr hw)
        · exact h k hk (there_hold g R ht hk) ((work_hold g R.1 e' k).mp hw)
      · have e' : stepM s c = some (.work m) := e
        simp only [e']
        refine ⟨(fun h => nomatch h), fun h => ?_⟩
        exact absurd ⟨_, m, Nat.le_refl _, e⟩ (h c R.1 R.2.1)
theorem tick_none {s : Shp} (g : GoodShp s) : (tickM s).2 = none ↔ ∀ k, k < s.ws.length → thereB s k = true → ¬ WorkLeft s k := by
  rw [tick_who]
  exact holds_work 1000 s g (by have := left_most g; omega)
/-- where the chosen one works at once -/
theorem tick_first {s : Shp} (g : GoodShp s) {c : Nat} (hc : chosenM s = some c) {m : Int} (hp : stepM s c = some (.work m)) : holdsM 1000 s = (s, some c) := by
  unfold holdsM
  rw [hc]
  simp only [hp]
/-- one that did a hold stands elsewhere behind the tick -/
theorem tick_moved {s : Shp} (g : GoodShp s) {c : Nat} (hc : chosenM s = some c) {t : Int} (hp : stepM s c = some (.hold t)) : (spotAt s c).1 < (spotAt (tickM s).1 c).1 := by
  have R := chosen_ready g hc
  obtain ⟨_, _, gw, _⟩ := g.at_ R.1
  have hb := (behind_ok gw (there_start R.2.1).2).2.2
  have h1 : (spotAt (heldOn s c) c).1 = behindM (wAt s c).plan (spotAt s c).1 := by
    unfold heldOn
    rw [spot_set_same g R.1]
  have gh := good_hold g R hp
  have hl : leftM (heldOn s c) < 999 := by have := left_most g; have := left_hold g R.1 R.2.1; omega
  have h2 := place_holds 999 (heldOn s c) gh hl c
  have h3 : holdsM 1000 s = holdsM 999 (heldOn s c) := by
    show holdsM (999 + 1) s = _
    unfold holdsM
    rw [hc]
    simp only [hp]
    rfl
  have h4 := (place_tick g c).1
  unfold midM at h4
  rw [h3] at h4
  omega
end LH

namespace LH
open PySem PySem.Spec PyProof.Rows L2 Evl DL

def b_law_over : DEnv → Option Out := (retS (op2 eqG (ocE (lcF (rng1 (consA (opC lenG (consA (op2 ixG (getV 0) (cst (.int 0))) (cst0 []))) (cst0 []))) (setG 1) (tstB (op2 ltG (op2 ixG (op2 ixG (op2 ixG (getV 0) (cst (.int 2))) (getV 1)) (cst (.int 0))) (opC lenG (consA (op2 ixG (op2 ixG (op2 ixG (getV 0) (cst (.int 0))) (getV 1)) (cst (.int 2))) (cst0 []))))) (getV 1) [1])) (opC mkL (cst0 []))))
end LH

namespace LH
open PySem PySem.Spec PyProof.Rows L2 Evl DL

/-! ### _law_over -/
abbrev n_law_over : Nat := 1
def sf_law_over (ds : List D) : Option Res := if ds.length = 1 then resO (b_law_over (startE ds 2)) else none
theorem m_law_over (ds : List D) (r : Res) (hl : ds.length = n_law_over) (hs : sf_law_over ds = some r) : resO (b_law_over (startE ds 2)) = some r := by
  unfold sf_law_over at hs
  rwa [if_pos hl] at hs
theorem eqG_nats (l : List Nat) : eqG (.lst (natsD l)) (.lst []) = some (.bl l.isEmpty) := by
  have e : natsD l = (l.map fun (j : Nat) => (j : Int)).map D.int := by simp [natsD]
  rw [e, eqG_nil]
  cases l <;> rfl
def openL (s : Shp) : List Nat := (List.range s.ws.length).filter fun k => decide ((spotAt s k).1 < (wAt s k).plan.length)
theorem over_iff (s : Shp) : (openL s).isEmpty = true ↔ OverM s := by
  unfold openL OverM
  rw [List.isEmpty_iff, List.filter_eq_nil_iff]
  refine ⟨fun h k hk => ?_, fun h k hk => ?_⟩
  · have := h k (by simpa using hk)
    simpa using this
  · have := h k (by simpa using hk)
    simpa using this
theorem over_eq {s : Shp} (g : GoodShp s) : sf_law_over [s.d] = some (.ok (.bl (openL s).isEmpty)) := by
  have h8 := g.ws.most
  have hc : ((s.ws.length : Nat) : Int) ≤ 100000 ∧ -100000 ≤ ((s.ws.length : Nat) : Int) := by omega
  have hr : rngD 0 s.ws.length = natsD (List.range s.ws.length) := by rw [rngD_nat, List.range_eq_range']
  have hl : (natsD (List.range s.ws.length)).length ≤ 90000 := by simp; omega
  have e := lcL_map (gf := setG 1) (T := tstB (op2 ltG (op2 ixG (op2 ixG (op2 ixG (getV 0) (cst (.int 2))) (getV 1)) (cst (.int 0))) (opC lenG (consA (op2 ixG (op2 ixG (op2 ixG (getV 0) (cst (.int 0))) (getV 1)) (cst (.int 2))) (cst0 []))))) (E := getV 1) (w := [.val s.d, .no]) (fun (j : Nat) => D.int (j : Int)) (fun (j : Nat) => D.int (j : Int)) (fun k => decide ((spotAt s k).1 < (wAt s k).plan.length)) (List.range s.ws.length) fun j hj => by
    have hj' : j < s.ws.length := by simpa using hj
    have e1 := atI_map Wkr.d (g.at_ hj').1
    have e2 := atI_map spotD (g.at_ hj').2.1
    refine ⟨_, rfl, ?_, fun _ => ?_⟩
    · simp [startE, seqS, ifS, nxS, retS, retNS, drpS, putS, asgS, setG, getV, op2, op1, opC, consA, cst, cst0, tstB, asB, tru, truD, orT, andT, notT, andE, orE, ifE, chn, isiF, isTy, eqG_ii, eqG_ss, eqG_bb, neG_ii, neG_ss, neG_bb, isNG, notNG, notG, negG, ixG, ixO, lenG, intG, max2G, min2G, mkT, mkL, okD, opX, drpX, putX, retX, mkF, resO, ownS, ocL, ocE, ocD, frzS, borE, borT, borX, flatD, appS, mE, popM, tup2M, rmvS, setS, tupG, consG, nilG, lstN, lstG, itL, itemsL, atI_0, atI_l1, atI_l2, atI_l3, atI_1, atI_2, atI_3, st_wh, st_wf, st_hw, st_hf, st_fw, st_fh, rng1, rng2, whS, forS, prt, add_ii, sub_ii, mod_ii, div_ii, lt_ii, le_ii, gt_ii, ge_ii, e1, e2]
    · simp [getV]
  change lcL _ _ _ _ (natsD (List.range s.ws.length)) = some (natsD (openL s)) at e
  have e3 := eqG_nats (openL s)
  generalize natsD (List.range s.ws.length) = rs at *
  generalize natsD (openL s) = out at *
  simp [sf_law_over, b_law_over, startE, seqS, ifS, nxS, retS, retNS, drpS, putS, asgS, setG, getV, op2, op1, opC, consA, cst, cst0, tstB, asB, tru, truD, orT, andT, notT, andE, orE, ifE, chn, isiF, isTy, eqG_ii, eqG_ss, eqG_bb, neG_ii, neG_ss, neG_bb, isNG, notNG, notG, negG, ixG, ixO, lenG, intG, max2G, min2G, mkT, mkL, okD, opX, drpX, putX, retX, mkF, resO, ownS, ocL, ocE, ocD, frzS, borE, borT, borX, flatD, appS, mE, popM, tup2M, rmvS, setS, tupG, consG, nilG, lstN, lstG, itL, itemsL, atI_0, atI_l1, atI_l2, atI_l3, atI_1, atI_2, atI_3, st_wh, st_wf, st_hw, st_hf, st_fw, st_fh, rng1, rng2, whS, forS, prt, add_ii, sub_ii, mod_ii, div_ii, lt_ii, le_ii, gt_ii, ge_ii, hc, hr, lcF, wipeE, hl, e, e3]
end LH

namespace LH
open PySem PySem.Spec PyProof.Rows L2 Evl DL

/-! ### the rank, own or lent -/
def lendL (s : Shp) (k : Nat) : List Nat := (List.range s.ws.length).filter fun i => (chainM s 9 i).contains k
def maxL : List Int → Int
  | [] => 0
  | a :: r => maxI a r
def effM (s : Shp) (k : Nat) : Int := maxL ((lendL s k).map (rankM s))
theorem mem_lendL {s : Shp} {i k : Nat} : i ∈ lendL s k ↔ Lends s i k := by
  unfold lendL Lends
  rw [List.mem_filter]
  simp
theorem maxL_spec {l : List Int} (h : l ≠ []) : maxL l ∈ l ∧ ∀ x ∈ l, x ≤ maxL l := by
  cases l with
  | nil => exact absurd rfl h
  | cons a r =>
    have h1 := maxI_ge r a
    refine ⟨?_, fun x hx => ?_⟩
    · show maxI a r ∈ a :: r
      rcases maxI_mem r a with e | e
      · rw [e]; simp
      · simp [e]
    · rcases List.mem_cons.mp hx with rfl | hx
      · exact h1.1
      · exact h1.2 x hx
theorem eff_spec {s : Shp} {k : Nat} (hk : k < s.ws.length) : (∃ i, Lends s i k ∧ effM s k = rankM s i) ∧ ∀ j, Lends s j k → rankM s j ≤ effM s k := by
  have hne : (lendL s k).map (rankM s) ≠ [] := by
    have : k ∈ lendL s k := mem_lendL.mpr (lends_self s hk)
    intro z
    rw [List.map_eq_nil_iff] at z
    rw [z] at this
    cases this
  obtain ⟨h1, h2⟩ := maxL_spec hne
  refine ⟨?_, fun j hj => h2 _ (List.mem_map.mpr ⟨j, mem_lendL.mpr hj, rfl⟩)⟩
  obtain ⟨i, hi, he⟩ := List.mem_map.mp h1
  exact ⟨i, mem_lendL.mp hi, he.symm⟩
/-- no two that are there and don't wait have one rank -/
theorem eff_apart {s : Shp} (g : GoodShp s) {j k : Nat} (hj : Ready s j) (hk : Ready s k) (h : effM s j = effM s k) : j = k := by
  obtain ⟨i, h1, h2⟩ := (eff_spec hj.1).1
  obtain ⟨i', h3, h4⟩ := (eff_spec hk.1).1
  have e : i = i' := Classical.byContradiction fun hne => rank_ne g h1.1 h3.1 hne (by rw [← h2, ← h4, h])
  subst e
  exact lends_apart hj hk h1 h3
/-- the chosen one's is the greatest own rank that is there -/
theorem eff_chosen {s : Shp} (g : GoodShp s) {b : Nat} (B : IsBest s b) : effM s (endM s 9 b) = rankM s b := by
  have R := end_ready g B.lt B.there
  obtain ⟨⟨i, h1, h2⟩, h3⟩ := eff_spec R.1
  have := h3 b (best_lends B)
  have := best_most g B h1 R.2.1
  omega
/-- and greater than every other one's that is ready -/
theorem eff_most {s : Shp} (g : GoodShp s) {b k : Nat} (B : IsBest s b) (hk : Ready s k) (hne : k ≠ endM s 9 b) : effM s k < effM s (endM s 9 b) := by
  rw [eff_chosen g B]
  obtain ⟨⟨i, h1, h2⟩, _⟩ := eff_spec hk.1
  rw [h2]
  exact best_other g B hk hne h1
/-- who lends, waits -/
theorem lends_waits {s : Shp} {i k : Nat} (h : Lends s i k) (hne : i ≠ k) : ∃ j, afterM s i = some j := by
  obtain ⟨_, h2⟩ := h
  cases ha : afterM s i with
  | some j => exact ⟨j, rfl⟩
  | none =>
    have : chainM s 9 i = [i] := by
      show chainM s (8 + 1) i = [i]
      unfold chainM
      rw [ha]
    rw [this] at h2
    simp at h2
    exact absurd h2.symm hne
theorem endM_some {s : Shp} {k i : Nat} (n : Nat) (h : afterM s k = some i) : endM s (n + 1) k = endM s n i := by
  show (match afterM s k with
    | some j => endM s n j
    | none => k) = _
  rw [h]
theorem endM_no {s : Shp} {k : Nat} (n : Nat) (h : afterM s k = none) : endM s n k = k := by
  cases n with
  | zero => rfl
  | succ n =>
    show (match afterM s k with
      | some j => endM s n j
      | none => k) = _
    rw [h]
/-- the end of a lender's chain is the end of the chain of whom it lends to -/
theorem end_of_mem {s : Shp} : ∀ (n k j : Nat), j ∈ chainM s n k → afterM s (endM s n k) = none → ∃ m, m ≤ n ∧ endM s n k = endM s m j
  | 0, k, j, h, _ => ⟨0, Nat.le_refl _, by simp [chainM] at h; subst h; rfl⟩
  | n + 1, k, j, h, he => by
    unfold chainM at h
    cases hi : afterM s k with
    | none =>
      rw [hi] at h
      simp at h
      subst h
      exact ⟨0, Nat.zero_le _, endM_no _ hi⟩
    | some i =>
      rw [hi] at h
      rw [endM_some n hi] at he ⊢
      rcases List.mem_cons.mp h with rfl | h
      · exact ⟨n + 1, Nat.le_refl _, (endM_some n hi).symm⟩
      · obtain ⟨m, h1, h2⟩ := end_of_mem n i j h he
        exact ⟨m, by omega, h2⟩
theorem end_more {s : Shp} : ∀ (m n k : Nat), afterM s (endM s m k) = none → m ≤ n → endM s n k = endM s m k
  | 0, n, k, h, _ => by
    have h' : afterM s k = none := h
    cases n with
    | zero => rfl
    | succ n => unfold endM; rw [h']
  | m + 1, n, k, h, hl => by
    cases n with
    | zero => omega
    | succ n =>
      unfold endM at h ⊢
      cases hi : afterM s k with
      | none => rfl
      | some i =>
        rw [hi] at h
        exact end_more m n i h (by omega)
theorem lends_one_end {s : Shp} (g : GoodShp s) {i k : Nat} (h : Lends s i k) : endM s 9 i = endM s 9 k := by
  have he := end_none g h.1
  obtain ⟨m, h1, h2⟩ := end_of_mem 9 i k h.2 he
  rw [h2] at he ⊢
  exact (end_more m 9 k he h1).symm
end LH

namespace LH
open PySem PySem.Spec PyProof.Rows L2 Evl DL

/-! ### the program's own functions on a good shop -/
theorem many_d (s : Shp) : manyS s.d = some s.ws.length := by simp [manyS]
theorem check_eq (s : Shp) {k : Nat} (hk : k < s.ws.length) : sf_check_number [s.d, .int (k : Int)] = some (.ok .non) := by
  have h : isNum (.int (k : Int)) 0 ((s.ws.length : Int) - 1) = true := by
    simp only [isNum, Bool.and_eq_true, decide_eq_true_eq]; omega
  simp only [sf_check_number, many_d, h, if_true]
def stepD : Option Stp → D
  | some st => st.d
  | none => .non
theorem step_eq {s : Shp} (g : GoodShp s) {k : Nat} (hk : k < s.ws.length) : sf_step_of [s.d, .int (k : Int)] = some (.ok (stepD (stepM s k))) := by
  have e0 := check_eq s hk
  have e1 := plan_at g hk
  have e2 := place_at g hk
  simp only [sf_step_of, e0, e1, e2]
  unfold stepM
  by_cases h : (spotAt s k).1 < (wAt s k).plan.length
  · have h2 : (wAt s k).plan[(spotAt s k).1]? = some ((wAt s k).plan[(spotAt s k).1]) := List.getElem?_eq_getElem h
    have e3 := atI_map Stp.d h2
    have h3 : (((spotAt s k).1 : Nat) : Int) < (((wAt s k).plan.map Stp.d).length : Int) := by rw [List.length_map]; omega
    rw [if_pos h3, e3, h2]
    rfl
  · have h3 : ¬ (((spotAt s k).1 : Nat) : Int) < (((wAt s k).plan.map Stp.d).length : Int) := by rw [List.length_map]; omega
    rw [if_neg h3, List.getElem?_eq_none (by omega)]
    rfl
abbrev n_waits : Nat := 2
def sf_waits (ds : List D) : Option Res := if ds.length = 2 then resO (b_waits sf_check_number sf_is_there sf_step_of sf_held (startE ds 4)) else none
theorem m_waits (ds : List D) (r : Res) (hl : ds.length = n_waits) (hs : sf_waits ds = some r) : resO (b_waits sf_check_number sf_is_there sf_step_of sf_held (startE ds 4)) = some r := by
  unfold sf_waits at hs
  rwa [if_pos hl] at hs
theorem waits_eq {s : Shp} (g : GoodShp s) {k : Nat} (hk : k < s.ws.length) : sf_waits [s.d, .int (k : Int)] = some (.ok (optD (afterM s k))) := by
  have e0 := check_eq s hk
  have e1 := isThere_eq g hk
  have e2 := step_eq g hk
  have e3 := held_eq g
  unfold stepM at e2
  unfold afterM
  generalize s.d = S at *
  cases ht : thereB s k with
  | false =>
    rw [ht] at e1
    simp [sf_waits, b_waits, startE, seqS, ifS, nxS, retS, retNS, drpS, putS, asgS, setG, getV, op2, op1, opC, consA, cst, cst0, tstB, asB, tru, truD, orT, andT, notT, andE, orE, ifE, chn, isiF, isTy, eqG_ii, eqG_ss, eqG_bb, neG_ii, neG_ss, neG_bb, isNG, notNG, notG, negG, ixG, ixO, lenG, intG, max2G, min2G, mkT, mkL, okD, opX, drpX, putX, retX, mkF, resO, ownS, ocL, ocE, ocD, frzS, borE, borT, borX, flatD, appS, mE, popM, tup2M, rmvS, setS, tupG, consG, nilG, lstN, lstG, itL, itemsL, atI_0, atI_l1, atI_l2, atI_l3, atI_1, atI_2, atI_3, st_wh, st_wf, st_hw, st_hf, st_fw, st_fh, rng1, rng2, whS, forS, prt, add_ii, sub_ii, mod_ii, div_ii, lt_ii, le_ii, gt_ii, ge_ii, e0, e1, optD]
  | true =>
    rw [ht] at e1
    obtain ⟨h1, h2⟩ := there_start ht
    have h3 : (wAt s k).plan[(spotAt s k).1]? = some ((wAt s k).plan[(spotAt s k).1]) := List.getElem?_eq_getElem h2
    rw [h3] at e2 ⊢
    cases hst : (wAt s k).plan[(spotAt s k).1] with
    | work n =>
      rw [hst] at e2
      simp [sf_waits, b_waits, startE, seqS, ifS, nxS, retS, retNS, drpS, putS, asgS, setG, getV, op2, op1, opC, consA, cst, cst0, tstB, asB, tru, truD, orT, andT, notT, andE, orE, ifE, chn, isiF, isTy, eqG_ii, eqG_ss, eqG_bb, neG_ii, neG_ss, neG_bb, isNG, notNG, notG, negG, ixG, ixO, lenG, intG, max2G, min2G, mkT, mkL, okD, opX, drpX, putX, retX, mkF, resO, ownS, ocL, ocE, ocD, frzS, borE, borT, borX, flatD, appS, mE, popM, tup2M, rmvS, setS, tupG, consG, nilG, lstN, lstG, itL, itemsL, atI_0, atI_l1, atI_l2, atI_l3, atI_1, atI_2, atI_3, st_wh, st_wf, st_hw, st_hf, st_fw, st_fh, rng1, rng2, whS, forS, prt, add_ii, sub_ii, mod_ii, div_ii, lt_ii, le_ii, gt_ii, ge_ii, e0, e1, e2, stepD, Stp.d, optD]
    | free t =>
      rw [hst] at e2
      simp [sf_waits, b_waits, startE, seqS, ifS, nxS, retS, retNS, drpS, putS, asgS, setG, getV, op2, op1, opC, consA, cst, cst0, tstB, asB, tru, truD, orT, andT, notT, andE, orE, ifE, chn, isiF, isTy, eqG_ii, eqG_ss, eqG_bb, neG_ii, neG_ss, neG_bb, isNG, notNG, notG, negG, ixG, ixO, lenG, intG, max2G, min2G, mkT, mkL, okD, opX, drpX, putX, retX, mkF, resO, ownS, ocL, ocE, ocD, frzS, borE, borT, borX, flatD, appS, mE, popM, tup2M, rmvS, setS, tupG, consG, nilG, lstN, lstG, itL, itemsL, atI_0, atI_l1, atI_l2, atI_l3, atI_1, atI_2, atI_3, st_wh, st_wf, st_hw, st_hf, st_fw, st_fh, rng1, rng2, whS, forS, prt, add_ii, sub_ii, mod_ii, div_ii, lt_ii, le_ii, gt_ii, ge_ii, e0, e1, e2, stepD, Stp.d, optD]
    | hold t =>
      rw [hst] at e2
      have e4 := held_find g t
      cases hh : holderM s t with
      | none =>
        rw [hh] at e4
        simp [sf_waits, b_waits, startE, seqS, ifS, nxS, retS, retNS, drpS, putS, asgS, setG, getV, op2, op1, opC, consA, cst, cst0, tstB, asB, tru, truD, orT, andT, notT, andE, orE, ifE, chn, isiF, isTy, eqG_ii, eqG_ss, eqG_bb, neG_ii, neG_ss, neG_bb, isNG, notNG, notG, negG, ixG, ixO, lenG, intG, max2G, min2G, mkT, mkL, okD, opX, drpX, putX, retX, mkF, resO, ownS, ocL, ocE, ocD, frzS, borE, borT, borX, flatD, appS, mE, popM, tup2M, rmvS, setS, tupG, consG, nilG, lstN, lstG, itL, itemsL, atI_0, atI_l1, atI_l2, atI_l3, atI_1, atI_2, atI_3, st_wh, st_wf, st_hw, st_hf, st_fw, st_fh, rng1, rng2, whS, forS, prt, add_ii, sub_ii, mod_ii, div_ii, lt_ii, le_ii, gt_ii, ge_ii, e0, e1, e2, e3, stepD, Stp.d, optD, dg1G, e4, hh]
      | some j =>
        rw [hh] at e4
        simp [sf_waits, b_waits, startE, seqS, ifS, nxS, retS, retNS, drpS, putS, asgS, setG, getV, op2, op1, opC, consA, cst, cst0, tstB, asB, tru, truD, orT, andT, notT, andE, orE, ifE, chn, isiF, isTy, eqG_ii, eqG_ss, eqG_bb, neG_ii, neG_ss, neG_bb, isNG, notNG, notG, negG, ixG, ixO, lenG, intG, max2G, min2G, mkT, mkL, okD, opX, drpX, putX, retX, mkF, resO, ownS, ocL, ocE, ocD, frzS, borE, borT, borX, flatD, appS, mE, popM, tup2M, rmvS, setS, tupG, consG, nilG, lstN, lstG, itL, itemsL, atI_0, atI_l1, atI_l2, atI_l3, atI_1, atI_2, atI_3, st_wh, st_wf, st_hw, st_hf, st_fw, st_fh, rng1, rng2, whS, forS, prt, add_ii, sub_ii, mod_ii, div_ii, lt_ii, le_ii, gt_ii, ge_ii, e0, e1, e2, e3, stepD, Stp.d, optD, dg1G, e4, hh]
theorem chainM_stop {s : Shp} {j : Nat} (n : Nat) (h : afterM s j = none) : chainM s n j = [j] := by
  cases n with
  | zero => rfl
  | succ n => simp [chainM, h]
theorem chainP_loop {s : Shp} (g : GoodShp s) (k : Int) : ∀ (fuel n : Nat) (found : List Nat) (a : Option Nat), found.length + n ≤ 1000 → n + 1 < fuel → (∀ j, a = some j → j < s.ws.length ∧ afterM s (endM s n j) = none) →
    ∃ t3, whL (tstB (op2 notNG (getV 3) (cst .non))) (b_chain_w0 sf_waits) fuel [.val s.d, .val (.int k), .own none (.l (natsD found)), .val (optD a)] =
      some (.nx [.val s.d, .val (.int k), .own none (.l (natsD (found ++ (match a with
        | some j => chainM s n j
        | none => [])))), t3])
  | 0, n, found, a, hl, hf, _ => by omega
  | fuel + 1, n, found, none, hl, hf, _ => by
    refine ⟨.val .non, ?_⟩
    rw [List.append_nil]
    exact whL_no rfl
  | fuel + 1, n, found, some j, hl, hf, ha => by
    obtain ⟨hj, he⟩ := ha j rfl
    have e1 := waits_eq g hj
    have hl90 : found.length ≤ 90000 := by omega
    have step : whL (tstB (op2 notNG (getV 3) (cst .non))) (b_chain_w0 sf_waits) (fuel + 1) [.val s.d, .val (.int k), .own none (.l (natsD found)), .val (optD (some j))] =
        whL (tstB (op2 notNG (getV 3) (cst .non))) (b_chain_w0 sf_waits) fuel [.val s.d, .val (.int k), .own none (.l (natsD (found ++ [j]))), .val (optD (afterM s j))] := by
      refine whL_nx rfl ?_
      generalize optD (afterM s j) = z at *
      simp [b_chain_w0, startE, seqS, ifS, nxS, retS, retNS, drpS, putS, asgS, setG, getV, op2, op1, opC, consA, cst, cst0, tstB, asB, tru, truD, orT, andT, notT, andE, orE, ifE, chn, isiF, isTy, eqG_ii, eqG_ss, eqG_bb, neG_ii, neG_ss, neG_bb, isNG, notNG, notG, negG, ixG, ixO, lenG, intG, max2G, min2G, mkT, mkL, okD, opX, drpX, putX, retX, mkF, resO, ownS, ocL, ocE, ocD, frzS, borE, borT, borX, flatD, appS, mE, popM, tup2M, rmvS, setS, tupG, consG, nilG, lstN, lstG, itL, itemsL, atI_0, atI_l1, atI_l2, atI_l3, atI_1, atI_2, atI_3, st_wh, st_wf, st_hw, st_hf, st_fw, st_fh, rng1, rng2, whS, forS, prt, add_ii, sub_ii, mod_ii, div_ii, lt_ii, le_ii, gt_ii, ge_ii, e1, optD, hl90]
    cases hn : afterM s j with
    | none =>
      rw [hn] at step
      obtain ⟨f, rfl⟩ : ∃ f, fuel = f + 1 := ⟨fuel - 1, by omega⟩
      refine ⟨.val .non, ?_⟩
      rw [step]
      simp only [chainM_stop n hn]
      exact whL_no rfl
    | some i =>
      rw [hn] at step
      cases n with
      | zero => simp only [endM] at he; rw [hn] at he; cases he
      | succ n =>
        have he' : afterM s (endM s n i) = none := by rwa [endM_some n hn] at he
        obtain ⟨t3, e3⟩ := chainP_loop g k fuel n (found ++ [j]) (some i) (by simp at hl ⊢; omega) (by omega) (fun i' hi => by cases hi; exact ⟨afterM_lt hn, he'⟩)
        refine ⟨t3, by rw [step, e3]; simp [chainM, hn]⟩
abbrev n_chain : Nat := 2
def sf_chain (ds : List D) : Option Res := if ds.length = 2 then resO (b_chain sf_waits (startE ds 4)) else none
theorem m_chain (ds : List D) (r : Res) (hl : ds.length = n_chain) (hs : sf_chain ds = some r) : resO (b_chain sf_waits (startE ds 4)) = some r := by
  unfold sf_chain at hs
  rwa [if_pos hl] at hs
theorem end8 {s : Shp} (g : GoodShp s) {j : Nat} (hj : j < s.ws.length) : afterM s (endM s 8 j) = none := by
  refine end_stops 8 j ?_
  have h1 := chain_short g 8 j hj
  have h2 := g.ws.most
  omega
theorem chainP_eq {s : Shp} (g : GoodShp s) {k : Nat} (hk : k < s.ws.length) : sf_chain [s.d, .int (k : Int)] = some (.ok (.lst (natsD (chainM s 9 k)))) := by
  have e1 := waits_eq g hk
  obtain ⟨t3, e2⟩ := chainP_loop g (k : Int) 100000 8 [k] (afterM s k) (by simp) (by omega) (fun j hj => ⟨afterM_lt hj, end8 g (afterM_lt hj)⟩)
  have e3 : [k] ++ (match afterM s k with
      | some j => chainM s 8 j
      | none => []) = chainM s 9 k := by
    show _ = chainM s (8 + 1) k
    unfold chainM
    cases afterM s k <;> rfl
  rw [e3] at e2
  generalize s.d = S at *
  generalize optD (afterM s k) = z at *
  generalize natsD (chainM s 9 k) = out at *
  simp [natsD] at e2
  simp [sf_chain, b_chain, startE, seqS, ifS, nxS, retS, retNS, drpS, putS, asgS, setG, getV, op2, op1, opC, consA, cst, cst0, tstB, asB, tru, truD, orT, andT, notT, andE, orE, ifE, chn, isiF, isTy, eqG_ii, eqG_ss, eqG_bb, neG_ii, neG_ss, neG_bb, isNG, notNG, notG, negG, ixG, ixO, lenG, intG, max2G, min2G, mkT, mkL, okD, opX, drpX, putX, retX, mkF, resO, ownS, ocL, ocE, ocD, frzS, borE, borT, borX, flatD, appS, mE, popM, tup2M, rmvS, setS, tupG, consG, nilG, lstN, lstG, itL, itemsL, atI_0, atI_l1, atI_l2, atI_l3, atI_1, atI_2, atI_3, st_wh, st_wf, st_hw, st_hf, st_fw, st_fh, rng1, rng2, whS, forS, prt, add_ii, sub_ii, mod_ii, div_ii, lt_ii, le_ii, gt_ii, ge_ii, e1, e2]
end LH

namespace LH
open PySem PySem.Spec PyProof.Rows L2 Evl DL

/-! ### lists of numbers -/
theorem natsD_ints (l : List Nat) : natsD l = (l.map fun (j : Nat) => (j : Int)).map .int := by simp [natsD]
theorem contains_cast (l : List Nat) (k : Nat) : (l.map fun (j : Nat) => (j : Int)).contains (k : Int) = l.contains k := by
  induction l with
  | nil => rfl
  | cons a l ih =>
    rw [List.map_cons, List.contains_cons, List.contains_cons, ih]
    congr 1
    rw [Bool.eq_iff_iff, beq_iff_eq, beq_iff_eq]
    omega
theorem inG_nats (neg : Bool) (k : Nat) (l : List Nat) : inG neg (.int (k : Int)) (.lst (natsD l)) = some (.bl (if neg then !(l.contains k) else l.contains k)) := by
  rw [natsD_ints, inG_ints, contains_cast]
theorem rng_nats (n : Nat) : rngD 0 n = natsD (List.range n) := by rw [rngD_nat, List.range_eq_range']
/-! ### lenders -/
abbrev n_lenders : Nat := 2
def sf_lenders (ds : List D) : Option Res := if ds.length = 2 then resO (b_lenders sf_check_number sf_chain (startE ds 4)) else none
theorem m_lenders (ds : List D) (r : Res) (hl : ds.length = n_lenders) (hs : sf_lenders ds = some r) : resO (b_lenders sf_check_number sf_chain (startE ds 4)) = some r := by
  unfold sf_lenders at hs
  rwa [if_pos hl] at hs
def othersL (s : Shp) (k : Nat) : List Nat := (List.range s.ws.length).filter fun i => decide (i ≠ k)
def lendO (s : Shp) (k : Nat) : List Nat := (othersL s k).filter fun i => (chainM s 9 i).contains k
theorem lenders_eq {s : Shp} (g : GoodShp s) {k : Nat} (hk : k < s.ws.length) : sf_lenders [s.d, .int (k : Int)] = some (.ok (.lst (natsD (lendO s k)))) := by
  have h8 := g.ws.most
  have hc : ((s.ws.length : Nat) : Int) ≤ 100000 ∧ -100000 ≤ ((s.ws.length : Nat) : Int) := by omega
  have hr := rng_nats s.ws.length
  have e0 := check_eq s hk
  have hl : (natsD (List.range s.ws.length)).length ≤ 90000 := by simp; omega
  have e1 := lcL_map (gf := setG 3) (T := tstB (op2 neG (getV 3) (getV 1))) (E := getV 3) (w := [.val s.d, .val (.int (k : Int)), .no, .no]) (fun (j : Nat) => D.int (j : Int)) (fun (j : Nat) => D.int (j : Int)) (fun i => decide (i ≠ k)) (List.range s.ws.length) fun j hj => by
    refine ⟨_, rfl, ?_, fun _ => ?_⟩
    · by_cases hjk : j = k
      · subst hjk; simp [startE, seqS, ifS, nxS, retS, retNS, drpS, putS, asgS, setG, getV, op2, op1, opC, consA, cst, cst0, tstB, asB, tru, truD, orT, andT, notT, andE, orE, ifE, chn, isiF, isTy, eqG_ii, eqG_ss, eqG_bb, neG_ii, neG_ss, neG_bb, isNG, notNG, notG, negG, ixG, ixO, lenG, intG, max2G, min2G, mkT, mkL, okD, opX, drpX, putX, retX, mkF, resO, ownS, ocL, ocE, ocD, frzS, borE, borT, borX, flatD, appS, mE, popM, tup2M, rmvS, setS, tupG, consG, nilG, lstN, lstG, itL, itemsL, atI_0, atI_l1, atI_l2, atI_l3, atI_1, atI_2, atI_3, st_wh, st_wf, st_hw, st_hf, st_fw, st_fh, rng1, rng2, whS, forS, prt, add_ii, sub_ii, mod_ii, div_ii, lt_ii, le_ii, gt_ii, ge_ii]
      · have : ¬ (j : Int) = (k : Int) := by omega
        simp [startE, seqS, ifS, nxS, retS, retNS, drpS, putS, asgS, setG, getV, op2, op1, opC, consA, cst, cst0, tstB, asB, tru, truD, orT, andT, notT, andE, orE, ifE, chn, isiF, isTy, eqG_ii, eqG_ss, eqG_bb, neG_ii, neG_ss, neG_bb, isNG, notNG, notG, negG, ixG, ixO, lenG, intG, max2G, min2G, mkT, mkL, okD, opX, drpX, putX, retX, mkF, resO, ownS, ocL, ocE, ocD, frzS, borE, borT, borX, flatD, appS, mE, popM, tup2M, rmvS, setS, tupG, consG, nilG, lstN, lstG, itL, itemsL, atI_0, atI_l1, atI_l2, atI_l3, atI_1, atI_2, atI_3, st_wh, st_wf, st_hw, st_hf, st_fw, st_fh, rng1, rng2, whS, forS, prt, add_ii, sub_ii, mod_ii, div_ii, lt_ii, le_ii, gt_ii, ge_ii, hjk, this]
    · simp [getV]
  change lcL _ _ _ _ (natsD (List.range s.ws.length)) = some (natsD (othersL s k)) at e1
  have hl2 : (natsD (othersL s k)).length ≤ 90000 := by
    have := List.length_filter_le (fun i => decide (i ≠ k)) (List.range s.ws.length)
    simp only [natsD, List.length_map, othersL]
    simp only [List.length_range] at this
    omega
  have e2 := lcL_map (gf := setG 3) (T := tstB (op2 (inG false) (getV 1) (opC (okD sf_chain) (consA (getV 0) (consA (getV 3) (cst0 [])))))) (E := getV 3) (w := [.val s.d, .val (.int (k : Int)), .val (.lst (natsD (othersL s k))), .no]) (fun (j : Nat) => D.int (j : Int)) (fun (j : Nat) => D.int (j : Int)) (fun i => (chainM s 9 i).contains k) (othersL s k) fun j hj => by
    have hj' : j < s.ws.length := by simpa using (List.mem_filter.mp hj).1
    have e3 := chainP_eq g hj'
    have e4 := inG_nats false k (chainM s 9 j)
    refine ⟨_, rfl, ?_, fun _ => ?_⟩
    · generalize s.d = S at *
      generalize natsD (chainM s 9 j) = cs at *
      simp [startE, seqS, ifS, nxS, retS, retNS, drpS, putS, asgS, setG, getV, op2, op1, opC, consA, cst, cst0, tstB, asB, tru, truD, orT, andT, notT, andE, orE, ifE, chn, isiF, isTy, eqG_ii, eqG_ss, eqG_bb, neG_ii, neG_ss, neG_bb, isNG, notNG, notG, negG, ixG, ixO, lenG, intG, max2G, min2G, mkT, mkL, okD, opX, drpX, putX, retX, mkF, resO, ownS, ocL, ocE, ocD, frzS, borE, borT, borX, flatD, appS, mE, popM, tup2M, rmvS, setS, tupG, consG, nilG, lstN, lstG, itL, itemsL, atI_0, atI_l1, atI_l2, atI_l3, atI_1, atI_2, atI_3, st_wh, st_wf, st_hw, st_hf, st_fw, st_fh, rng1, rng2, whS, forS, prt, add_ii, sub_ii, mod_ii, div_ii, lt_ii, le_ii, gt_ii, ge_ii, e3, e4]
    · simp [getV]
  change lcL _ _ _ _ (natsD (othersL s k)) = some (natsD (lendO s k)) at e2
  generalize natsD (List.range s.ws.length) = rs at *
  generalize natsD (othersL s k) = os at *
  generalize natsD (lendO s k) = out at *
  simp [sf_lenders, b_lenders, startE, seqS, ifS, nxS, retS, retNS, drpS, putS, asgS, setG, getV, op2, op1, opC, consA, cst, cst0, tstB, asB, tru, truD, orT, andT, notT, andE, orE, ifE, chn, isiF, isTy, eqG_ii, eqG_ss, eqG_bb, neG_ii, neG_ss, neG_bb, isNG, notNG, notG, negG, ixG, ixO, lenG, intG, max2G, min2G, mkT, mkL, okD, opX, drpX, putX, retX, mkF, resO, ownS, ocL, ocE, ocD, frzS, borE, borT, borX, flatD, appS, mE, popM, tup2M, rmvS, setS, tupG, consG, nilG, lstN, lstG, itL, itemsL, atI_0, atI_l1, atI_l2, atI_l3, atI_1, atI_2, atI_3, st_wh, st_wf, st_hw, st_hf, st_fw, st_fh, rng1, rng2, whS, forS, prt, add_ii, sub_ii, mod_ii, div_ii, lt_ii, le_ii, gt_ii, ge_ii, e0, hc, hr, lcF, wipeE, hl, e1, hl2, e2]
theorem mem_lendO {s : Shp} {i k : Nat} : i ∈ lendO s k ↔ i ≠ k ∧ Lends s i k := by
  unfold lendO othersL Lends
  simp only [List.mem_filter, List.mem_range, decide_eq_true_eq, List.contains_iff_mem]
  exact ⟨fun ⟨⟨a, b⟩, c⟩ => ⟨b, a, c⟩, fun ⟨a, b, c⟩ => ⟨⟨b, a⟩, c⟩⟩
/-! ### rank_of -/
abbrev n_rank_of : Nat := 2
def sf_rank_of (ds : List D) : Option Res := if ds.length = 2 then resO (b_rank_of sf_lenders sf_own_rank (startE ds 3)) else none
theorem m_rank_of (ds : List D) (r : Res) (hl : ds.length = n_rank_of) (hs : sf_rank_of ds = some r) : resO (b_rank_of sf_lenders sf_own_rank (startE ds 3)) = some r := by
  unfold sf_rank_of at hs
  rwa [if_pos hl] at hs
theorem ranks_max {s : Shp} {k : Nat} (hk : k < s.ws.length) (l : List Nat) (hl : ∀ i, i ∈ k :: l ↔ Lends s i k) : maxI (rankM s k) (l.map (rankM s)) = effM s k := by
  obtain ⟨⟨i, h1, h2⟩, h3⟩ := eff_spec hk
  refine (max_uniq (a := rankM s k) (r := l.map (rankM s)) ?_ ?_).symm
  · rw [h2, ← List.map_cons (f := rankM s)]
    exact List.mem_map_of_mem ((hl i).mpr h1)
  · intro y hy
    rw [← List.map_cons (f := rankM s)] at hy
    obtain ⟨j, hj, rfl⟩ := List.mem_map.mp hy
    exact h3 j ((hl j).mp hj)
theorem lend_all {s : Shp} {k : Nat} (hk : k < s.ws.length) (i : Nat) : i ∈ k :: lendO s k ↔ Lends s i k := by
  rw [List.mem_cons, mem_lendO]
  constructor
  · rintro (rfl | h)
    · exact lends_self s hk
    · exact h.2
  · intro h
    by_cases e : i = k
    · exact .inl e
    · exact .inr ⟨e, h⟩
theorem lendO_len {s : Shp} (g : GoodShp s) (k : Nat) : (lendO s k).length ≤ 8 := by
  have h1 := List.length_filter_le (fun i => (chainM s 9 i).contains k) (othersL s k)
  have h2 := List.length_filter_le (fun i => decide (i ≠ k)) (List.range s.ws.length)
  have h3 := g.ws.most
  rw [List.length_range] at h2
  exact Nat.le_trans h1 (Nat.le_trans h2 h3)
theorem rankOf_eq {s : Shp} (g : GoodShp s) {k : Nat} (hk : k < s.ws.length) : sf_rank_of [s.d, .int (k : Int)] = some (.ok (.int (effM s k))) := by
  have e0 := lenders_eq g hk
  have hlen := lendO_len g k
  have hn : (natsD (lendO s k)).length ≤ 8 := by simpa [natsD] using hlen
  have e1 := lcL_all (gf := setG 2) (E := opC (okD sf_own_rank) (consA (getV 0) (consA (getV 2) (cst0 [])))) (w := [.val s.d, .val (.int (k : Int)), .no]) (fun (j : Nat) => D.int (j : Int)) (fun (j : Nat) => D.int (rankM s j)) (k :: lendO s k) fun j hj => by
    have hj' := ((lend_all hk j).mp hj).1
    have e3 := ownRank_eq g hj'
    refine ⟨_, rfl, ?_⟩
    generalize s.d = S at *
    simp [startE, seqS, ifS, nxS, retS, retNS, drpS, putS, asgS, setG, getV, op2, op1, opC, consA, cst, cst0, tstB, asB, tru, truD, orT, andT, notT, andE, orE, ifE, chn, isiF, isTy, eqG_ii, eqG_ss, eqG_bb, neG_ii, neG_ss, neG_bb, isNG, notNG, notG, negG, ixG, ixO, lenG, intG, max2G, min2G, mkT, mkL, okD, opX, drpX, putX, retX, mkF, resO, ownS, ocL, ocE, ocD, frzS, borE, borT, borX, flatD, appS, mE, popM, tup2M, rmvS, setS, tupG, consG, nilG, lstN, lstG, itL, itemsL, atI_0, atI_l1, atI_l2, atI_l3, atI_1, atI_2, atI_3, st_wh, st_wf, st_hw, st_hf, st_fw, st_fh, rng1, rng2, whS, forS, prt, add_ii, sub_ii, mod_ii, div_ii, lt_ii, le_ii, gt_ii, ge_ii, e3, rankM]
  rw [List.map_cons, List.map_cons] at e1
  change lcL _ _ _ _ (.int (k : Int) :: natsD (lendO s k)) = _ at e1
  have e2 : intsOf (D.int (rankM s k) :: (lendO s k).map fun (j : Nat) => D.int (rankM s j)) = some (rankM s k :: (lendO s k).map (rankM s)) := by
    have := intsOf_ints ((k :: lendO s k).map (rankM s))
    rw [List.map_map, List.map_cons] at this
    exact this
  have e5 := ranks_max hk (lendO s k) (lend_all hk)
  generalize s.d = S at *
  generalize natsD (lendO s k) = ls at *
  generalize ((lendO s k).map fun (j : Nat) => D.int (rankM s j)) = rs at *
  have e4 : addG (.lst [.int (k : Int)]) (.lst ls) = some (.lst (.int (k : Int) :: ls)) := add_ll (xs := [.int (k : Int)]) (by simp; omega)
  have hl9 : (D.int (k : Int) :: ls).length ≤ 90000 := by simp; omega
  have hl9' : ls.length + 1 ≤ 90000 := by omega
  have hl1 : 1 + ls.length ≤ 100000 := by omega
  simp [sf_rank_of, b_rank_of, startE, seqS, ifS, nxS, retS, retNS, drpS, putS, asgS, setG, getV, op2, op1, opC, consA, cst, cst0, tstB, asB, tru, truD, orT, andT, notT, andE, orE, ifE, chn, isiF, isTy, addG, mulG, iiG, eqG_ii, eqG_ss, eqG_bb, neG_ii, neG_ss, neG_bb, isNG, notNG, notG, negG, ixG, ixO, lenG, intG, max2G, min2G, mkT, mkL, okD, opX, drpX, putX, retX, mkF, resO, ownS, ocL, ocE, ocD, frzS, borE, borT, borX, flatD, appS, mE, popM, tup2M, rmvS, setS, tupG, consG, nilG, lstN, lstG, itL, itemsL, atI_0, atI_l1, atI_l2, atI_l3, atI_1, atI_2, atI_3, st_wh, st_wf, st_hw, st_hf, st_fw, st_fh, rng1, rng2, whS, forS, prt, e0, hl1, lcF, wipeE, hl9', e1, maxG, e2, e5]
/-! ### chosen -/
theorem ltII_le {p q : Int × Int} (h : ltII p q = true) : p.1 ≤ q.1 := by
  unfold ltII at h
  split at h
  · omega
  · have := of_decide_eq_true h; omega
theorem ltII_ge {p q : Int × Int} (h : ¬ ltII p q = true) : q.1 ≤ p.1 := by
  unfold ltII at h
  split at h
  · omega
  · have : ¬ p.1 < q.1 := fun z => h (decide_eq_true z)
    omega
theorem maxII_spec : ∀ (ps : List (Int × Int)) (p : Int × Int), maxII p ps ∈ p :: ps ∧ ∀ q ∈ p :: ps, q.1 ≤ (maxII p ps).1
  | [], p => ⟨by simp [maxII], fun q hq => by simp at hq; subst hq; exact Int.le_refl _⟩
  | q :: ps, p => by
    show (maxII (if ltII p q = true then q else p) ps) ∈ p :: q :: ps ∧ ∀ r ∈ p :: q :: ps, r.1 ≤ (maxII (if ltII p q = true then q else p) ps).1
    obtain ⟨h1, h2⟩ := maxII_spec ps (if ltII p q = true then q else p)
    by_cases h : ltII p q = true
    · rw [if_pos h] at h1 h2 ⊢
      refine ⟨List.mem_cons_of_mem _ h1, fun r hr => ?_⟩
      rcases List.mem_cons.mp hr with rfl | hr
      · exact Int.le_trans (ltII_le h) (h2 q (by simp))
      · exact h2 r hr
    · rw [if_neg h] at h1 h2 ⊢
      refine ⟨?_, fun r hr => ?_⟩
      · rcases List.mem_cons.mp h1 with e | e
        · rw [e]; simp
        · exact List.mem_cons_of_mem _ (List.mem_cons_of_mem _ e)
      · rcases List.mem_cons.mp hr with rfl | hr
        · exact h2 _ (by simp)
        · rcases List.mem_cons.mp hr with rfl | hr
          · exact Int.le_trans (ltII_ge h) (h2 p (by simp))
          · exact h2 r (by simp [hr])
abbrev n_chosen : Nat := 1
def sf_chosen (ds : List D) : Option Res := if ds.length = 1 then resO (b_chosen sf_there sf_own_rank sf_chain (startE ds 5)) else none
theorem m_chosen (ds : List D) (r : Res) (hl : ds.length = n_chosen) (hs : sf_chosen ds = some r) : resO (b_chosen sf_there sf_own_rank sf_chain (startE ds 5)) = some r := by
  unfold sf_chosen at hs
  rwa [if_pos hl] at hs
def rkP (s : Shp) (k : Nat) : Int × Int := (rankM s k, (k : Int))
theorem mem_thereM {s : Shp} {k : Nat} : k ∈ thereM s ↔ k < s.ws.length ∧ thereB s k = true := by simp [thereM]
theorem last_chain (s : Shp) (b : Nat) : atI (natsD (chainM s 9 b)) (-1) = some (.int (endM s 9 b : Nat)) := by
  have h1 := chain_last s 9 b
  obtain ⟨ys, hy⟩ := List.getLast?_eq_some_iff.mp h1
  rw [hy, natsD, List.map_append]
  exact atI_l2 _ _
theorem chosenP_eq {s : Shp} (g : GoodShp s) : sf_chosen [s.d] = some (.ok (optD (chosenM s))) := by
  have e0 := thereL_eq g
  have hlen : (thereM s).length ≤ 8 := by
    have h1 := List.length_filter_le (thereB s) (List.range s.ws.length)
    rw [List.length_range] at h1
    exact Nat.le_trans h1 g.ws.most
  have hl : (natsD (thereM s)).length ≤ 90000 := by simp [natsD]; omega
  have e1 := lcL_all (gf := setG 4) (E := opC mkT (consA (opC (okD sf_own_rank) (consA (getV 0) (consA (getV 4) (cst0 [])))) (consA (getV 4) (cst0 [])))) (w := [.val s.d, .no, .no, .no, .no]) (fun (j : Nat) => D.int (j : Int)) (fun (j : Nat) => pairI (rkP s j)) (thereM s) fun j hj => by
    have e3 := ownRank_eq g (mem_thereM.mp hj).1
    refine ⟨_, rfl, ?_⟩
    generalize s.d = S at *
    simp [startE, seqS, ifS, nxS, retS, retNS, drpS, putS, asgS, setG, getV, op2, op1, opC, consA, cst, cst0, tstB, asB, tru, truD, orT, andT, notT, andE, orE, ifE, chn, isiF, isTy, eqG_ii, eqG_ss, eqG_bb, neG_ii, neG_ss, neG_bb, isNG, notNG, notG, negG, ixG, ixO, lenG, intG, max2G, min2G, mkT, mkL, okD, opX, drpX, putX, retX, mkF, resO, ownS, ocL, ocE, ocD, frzS, borE, borT, borX, flatD, appS, mE, popM, tup2M, rmvS, setS, tupG, consG, nilG, lstN, lstG, itL, itemsL, atI_0, atI_l1, atI_l2, atI_l3, atI_1, atI_2, atI_3, st_wh, st_wf, st_hw, st_hf, st_fw, st_fh, rng1, rng2, whS, forS, prt, add_ii, sub_ii, mod_ii, div_ii, lt_ii, le_ii, gt_ii, ge_ii, e3, rankM, rkP, pairI]
  change lcL _ _ _ _ (natsD (thereM s)) = _ at e1
  cases ht : thereM s with
  | nil =>
    have hn : chosenM s = none := by
      unfold chosenM
      cases hb : bestM s with
      | none => rfl
      | some b =>
        have B := bestM_some hb
        have : b ∈ thereM s := mem_thereM.mpr ⟨B.lt, B.there⟩
        rw [ht] at this; cases this
    rw [hn]
    rw [ht] at e0 e1
    simp only [natsD, List.map_nil] at e0 e1
    simp [sf_chosen, b_chosen, startE, seqS, ifS, nxS, retS, retNS, drpS, putS, asgS, setG, getV, op2, op1, opC, consA, cst, cst0, tstB, asB, tru, truD, orT, andT, notT, andE, orE, ifE, chn, isiF, isTy, eqG_ii, eqG_ss, eqG_bb, neG_ii, neG_ss, neG_bb, isNG, notNG, notG, negG, ixG, ixO, lenG, intG, max2G, min2G, mkT, mkL, okD, opX, drpX, putX, retX, mkF, resO, ownS, ocL, ocE, ocD, frzS, borE, borT, borX, flatD, appS, mE, popM, tup2M, rmvS, setS, tupG, consG, nilG, lstN, lstG, itL, itemsL, atI_0, atI_l1, atI_l2, atI_l3, atI_1, atI_2, atI_3, st_wh, st_wf, st_hw, st_hf, st_fw, st_fh, rng1, rng2, whS, forS, prt, add_ii, sub_ii, mod_ii, div_ii, lt_ii, le_ii, gt_ii, ge_ii, e0, lcF, wipeE, e1, optD]
  | cons a r =>
    obtain ⟨h1, h2⟩ := maxII_spec (r.map (rkP s)) (rkP s a)
    rw [← List.map_cons (f := rkP s)] at h1
    obtain ⟨b, hb, hbe⟩ := List.mem_map.mp h1
    rw [← ht] at hb
    have B : IsBest s b := ⟨(mem_thereM.mp hb).1, (mem_thereM.mp hb).2, fun i hi hti => by
      have := h2 (rkP s i) (by
        rw [← List.map_cons (f := rkP s), ← ht]
        exact List.mem_map_of_mem (mem_thereM.mpr ⟨hi, hti⟩))
      rw [← hbe] at this
      exact this⟩
    have hbest : bestM s = some b := by
      cases hq : bestM s with
      | none => have := bestM_none hq b B.lt; rw [B.there] at this; cases this
      | some c => rw [best_uniq g (bestM_some hq) B]
    have e2 : maxPG [.lst ((thereM s).map fun (j : Nat) => pairI (rkP s j))] = some (.tup [.int (rankM s b), .int (b : Int)]) := by
      have hp : ((thereM s).map fun (j : Nat) => pairI (rkP s j)) = ((thereM s).map (rkP s)).map pairI := by rw [List.map_map]; rfl
      rw [hp]
      simp only [maxPG, pairsOf_pairs]
      rw [ht, List.map_cons]
      simp only
      rw [← hbe]
      rfl
    have e4 := chainP_eq g B.lt
    have e5 := last_chain s b
    have hne : ((thereM s).map fun (j : Nat) => pairI (rkP s j)).isEmpty = false := by rw [ht]; rfl
    unfold chosenM
    rw [hbest]
    clear ht
    generalize s.d = S at *
    generalize natsD (chainM s 9 b) = cs at *
    generalize natsD (thereM s) = ts at *
    generalize ((thereM s).map fun (j : Nat) => pairI (rkP s j)) = ps at *
    cases ps with
    | nil => cases hne
    | cons p0 ps =>
      simp [sf_chosen, b_chosen, startE, seqS, ifS, nxS, retS, retNS, drpS, putS, asgS, setG, getV, op2, op1, opC, consA, cst, cst0, tstB, asB, tru, truD, orT, andT, notT, andE, orE, ifE, chn, isiF, isTy, eqG_ii, eqG_ss, eqG_bb, neG_ii, neG_ss, neG_bb, isNG, notNG, notG, negG, ixG, ixO, lenG, intG, max2G, min2G, mkT, mkL, okD, opX, drpX, putX, retX, mkF, resO, ownS, ocL, ocE, ocD, frzS, borE, borT, borX, flatD, appS, mE, popM, tup2M, rmvS, setS, tupG, consG, nilG, lstN, lstG, itL, itemsL, atI_0, atI_l1, atI_l2, atI_l3, atI_1, atI_2, atI_3, st_wh, st_wf, st_hw, st_hf, st_fw, st_fh, rng1, rng2, whS, forS, prt, add_ii, sub_ii, mod_ii, div_ii, lt_ii, le_ii, gt_ii, ge_ii, e0, lcF, wipeE, hl, e1, e2, e4, e5, optD]
end LH

namespace LH
open PySem PySem.Spec PyProof.Rows L2 Evl DL

/-! ### _law_shop -/
structure ShopInv (ws : List Wkr) (now : Int) (sps : List Spot) (taken : List Int) : Prop where
  len : sps.length ≤ ws.length
  ok : ∀ (j : Nat) w sp, ws[j]? = some w → sps[j]? = some sp → SpotOk w now sp
  tk : ∀ (j : Nat) w sp t, ws[j]? = some w → sps[j]? = some sp → t ∈ toolsAt w.plan sp.1 → t ∈ taken
  apart : ∀ (i j : Nat) w v sp sq t, i < j → ws[i]? = some w → ws[j]? = some v → sps[i]? = some sp → sps[j]? = some sq → t ∈ toolsAt w.plan sp.1 → t ∉ toolsAt v.plan sq.1
  few : taken.length ≤ 10 * sps.length
theorem snoc_get {α : Type} {l : List α} {x y : α} {j : Nat} (h : (l ++ [x])[j]? = some y) : (j < l.length ∧ l[j]? = some y) ∨ (j = l.length ∧ y = x) := by
  by_cases hj : j < l.length
  · rw [List.getElem?_append_left hj] at h; exact .inl ⟨hj, h⟩
  · rw [List.getElem?_append_right (by omega)] at h
    cases hd : j - l.length with
    | zero => rw [hd] at h; simp at h; exact .inr ⟨by omega, h.symm⟩
    | succ m => rw [hd] at h; simp at h
theorem ShopInv.snoc {ws : List Wkr} {now : Int} {sps : List Spot} {taken : List Int} {w : Wkr} {sp : Spot} (I : ShopInv ws now sps taken) (g : GoodW1 w) (hw : ws[sps.length]? = some w) (h : SpotDrawn w taken sp) (he : now < w.start → sp = (0, 0)) : ShopInv ws now (sps ++ [sp]) (taken ++ toolsAt w.plan sp.1) := by
  have hlt := (List.getElem?_eq_some_iff.mp hw).1
  have h10 := pigeonT _ (toolsAt_ok g.plan sp.1).nodup (toolsAt_ok g.plan sp.1).num
  refine ⟨by simp; omega, fun j v sq h1 h2 => ?_, fun j v sq t h1 h2 h3 => ?_, fun i j u v sp' sq t hij h1 h2 h3 h4 h5 => ?_, ?_⟩
  · rcases snoc_get h2 with ⟨hj, h2⟩ | ⟨rfl, rfl⟩
    · exact I.ok j v sq h1 h2
    · rw [hw] at h1; cases h1
      exact ⟨h.place, h.nofree, h.gone, h.work, h.other, fun c => by rw [he c]; exact ⟨rfl, rfl⟩⟩
  · rcases snoc_get h2 with ⟨hj, h2⟩ | ⟨rfl, rfl⟩
    · exact List.mem_append.mpr (.inl (I.tk j v sq t h1 h2 h3))
    · rw [hw] at h1; cases h1
      exact List.mem_append.mpr (.inr h3)
  · rcases snoc_get h4 with ⟨hj, h4⟩ | ⟨rfl, rfl⟩
    · rcases snoc_get h3 with ⟨hi, h3⟩ | ⟨rfl, rfl⟩
      · exact I.apart i j u v sp' sq t hij h1 h2 h3 h4 h5
      · omega
    · rcases snoc_get h3 with ⟨hi, h3⟩ | ⟨rfl, rfl⟩
      · rw [hw] at h2; cases h2
        exact fun h6 => h.apart t h6 (I.tk i u sp' t h1 h3 h5)
      · omega
  · have := I.few
    simp; omega
abbrev shopEnv (ns : List Int) (most : Int) (ws : List Wkr) (now : Int) (sps : List Spot) (taken : List Int) (s6 s7 : Sl) : DEnv := [.val (.scr ns), .val (.int most), .val (.lst (ws.map Wkr.d)), .val (.int now), .own none (.l (sps.map spotD)), .own none (.l (taken.map .int)), s6, s7]
theorem shop_turn (ns : List Int) (most : Int) {ws : List Wkr} (g : GoodL ws) (now : Int) {sps : List Spot} {taken : List Int} (I : ShopInv ws now sps taken) (hlt : sps.length < ws.length) (s7 : Sl) :
    ∃ sp t7 taken', b_law_shop_f0 sf_law_workers sf_law_cell_at sf_law_mixed sf_law_spot (shopEnv ns most ws now sps taken (.val (.int (sps.length : Int))) s7) = some (.nx (shopEnv ns most ws now (sps ++ [sp]) taken' (.val (.int (sps.length : Int))) t7)) ∧ ShopInv ws now (sps ++ [sp]) taken' := by
  obtain ⟨w, hw⟩ : ∃ w, ws[sps.length]? = some w := ⟨_, List.getElem?_eq_getElem hlt⟩
  have gw := g.all w (List.mem_of_getElem? hw)
  have e1 := atI_map Wkr.d hw
  have h8 := g.most
  have hf := I.few
  have h90 : sps.length ≤ 90000 := by omega
  by_cases c : w.start ≤ now
  · have c1 := cell_at ns (k := 19 + (sps.length : Int)) (by omega)
    have e2 : sf_law_mixed [.int (cell ns (19 + (sps.length : Int))), .int (20 + (sps.length : Int))] = some (.ok (.int (mix (cell ns (19 + (sps.length : Int))) (20 + (sps.length : Int))))) := rfl
    obtain ⟨sp, e3, hd⟩ := spot_eq gw (mix (cell ns (19 + (sps.length : Int))) (20 + (sps.length : Int))) taken (by omega)
    generalize cell ns (19 + (sps.length : Int)) = x at *
    generalize mix x (20 + (sps.length : Int)) = y at *
    refine ⟨sp, .val (spotD sp), taken ++ toolsAt w.plan sp.1, ?_, I.snoc gw hw hd fun h => by omega⟩
    simp [b_law_shop_f0, startE, seqS, ifS, nxS, retS, retNS, drpS, putS, asgS, setG, getV, op2, op1, opC, consA, cst, cst0, tstB, asB, tru, truD, orT, andT, notT, andE, orE, ifE, chn, isiF, isTy, eqG_ii, eqG_ss, eqG_bb, neG_ii, neG_ss, neG_bb, isNG, notNG, notG, negG, ixG, ixO, lenG, intG, max2G, min2G, mkT, mkL, okD, opX, drpX, putX, retX, mkF, resO, ownS, ocL, ocE, ocD, frzS, borE, borT, borX, flatD, appS, mE, popM, tup2M, rmvS, setS, tupG, consG, nilG, lstN, lstG, itL, itemsL, atI_0, atI_l1, atI_l2, atI_l3, atI_1, atI_2, atI_3, st_wh, st_wf, st_hw, st_hf, st_fw, st_fh, rng1, rng2, whS, forS, prt, add_ii, sub_ii, mod_ii, div_ii, lt_ii, le_ii, gt_ii, ge_ii, e1, c, c1, e2, putM, callM, e3, h90]
  · refine ⟨(0, 0), .val (spotD (0, 0)), taken, ?_, ?_⟩
    · simp [b_law_shop_f0, startE, seqS, ifS, nxS, retS, retNS, drpS, putS, asgS, setG, getV, op2, op1, opC, consA, cst, cst0, tstB, asB, tru, truD, orT, andT, notT, andE, orE, ifE, chn, isiF, isTy, eqG_ii, eqG_ss, eqG_bb, neG_ii, neG_ss, neG_bb, isNG, notNG, notG, negG, ixG, ixO, lenG, intG, max2G, min2G, mkT, mkL, okD, opX, drpX, putX, retX, mkF, resO, ownS, ocL, ocE, ocD, frzS, borE, borT, borX, flatD, appS, mE, popM, tup2M, rmvS, setS, tupG, consG, nilG, lstN, lstG, itL, itemsL, atI_0, atI_l1, atI_l2, atI_l3, atI_1, atI_2, atI_3, st_wh, st_wf, st_hw, st_hf, st_fw, st_fh, rng1, rng2, whS, forS, prt, add_ii, sub_ii, mod_ii, div_ii, lt_ii, le_ii, gt_ii, ge_ii, e1, c, h90]
    · have := I.snoc gw hw (start_drawn gw taken) fun _ => rfl
      have h00 : toolsAt w.plan 0 = [] := by simp [toolsAt, runS]
      rw [h00, List.append_nil] at this
      exact this
theorem shop_loop (ns : List Int) (most : Int) {ws : List Wkr} (g : GoodL ws) (now : Int) : ∀ (n : Nat) (sps : List Spot) (taken : List Int) (s6 s7 : Sl), ShopInv ws now sps taken → sps.length + n = ws.length →
    ∃ sps' taken' t6 t7, forL (setG 6) (b_law_shop_f0 sf_law_workers sf_law_cell_at sf_law_mixed sf_law_spot) ((List.range' sps.length n).map fun (j : Nat) => D.int (j : Int)) (shopEnv ns most ws now sps taken s6 s7) = some (.nx (shopEnv ns most ws now sps' taken' t6 t7)) ∧ ShopInv ws now sps' taken' ∧ sps'.length = ws.length
  | 0, sps, taken, s6, s7, I, h => ⟨sps, taken, s6, s7, rfl, I, h⟩
  | n + 1, sps, taken, s6, s7, I, h => by
    obtain ⟨sp, t7, taken2, e, I2⟩ := shop_turn ns most g now I (by omega) s7
    obtain ⟨sps3, taken3, u6, u7, e2, I3, l3⟩ := shop_loop ns most g now n (sps ++ [sp]) taken2 (.val (.int (sps.length : Int))) t7 I2 (by simp; omega)
    refine ⟨sps3, taken3, u6, u7, ?_, I3, l3⟩
    rw [List.range'_succ, List.map_cons]
    have hl' : (sps ++ [sp]).length = sps.length + 1 := by simp
    rw [hl'] at e2
    exact (forL_nx rfl e).trans e2
abbrev n_law_shop : Nat := 2
noncomputable def sf_law_shop (ds : List D) : Option Res := if ds.length = 2 then resO (b_law_shop sf_law_workers sf_law_cell_at sf_law_mixed sf_law_spot (startE ds 8)) else none
theorem m_law_shop (ds : List D) (r : Res) (hl : ds.length = n_law_shop) (hs : sf_law_shop ds = some r) : resO (b_law_shop sf_law_workers sf_law_cell_at sf_law_mixed sf_law_spot (startE ds 8)) = some r := by
  unfold sf_law_shop at hs
  rwa [if_pos hl] at hs
theorem shop_ok (ns : List Int) (most : Int) (hm : 1 ≤ most) (hm2 : most ≤ 20) : ∃ s : Shp, sf_law_shop [.scr ns, .int most] = some (.ok s.d) ∧ GoodShp s := by
  obtain ⟨ds, rs, e1, gw⟩ := workers_ok ns most 9 hm hm2 (by omega) (by omega)
  obtain ⟨ws, rfl, g, _⟩ := goodL_of gw
  have c1 := cell_at ns (k := 18) (by omega)
  generalize cell ns 18 = x at c1
  have hn : 0 ≤ x % 12 := Int.emod_nonneg _ (by decide)
  obtain ⟨sps, taken, t6, t7, e2, I, l⟩ := shop_loop ns most g (x % 12) ws.length [] [] .no .no ⟨by simp, fun j w sp h1 h2 => by simp at h2, fun j w sp t h1 h2 => by simp at h2, fun i j w v sp sq t _ h1 h2 h3 => by simp at h3, by simp⟩ (by simp)
  refine ⟨⟨ws, x % 12, sps⟩, ?_, g, hn, l, I.ok, fun i j w v sp sq t hij h1 h2 h3 h4 h5 h6 => ?_⟩
  · have hr : rngD 0 ws.length = (List.range' 0 ws.length).map fun (j : Nat) => D.int (j : Int) := rngD_nat _
    have h8 := g.most
    have hc : ((ws.length : Nat) : Int) ≤ 100000 ∧ -100000 ≤ ((ws.length : Nat) : Int) := by omega
    simp only [shopEnv, List.map_nil, List.length_nil] at e2
    simp [sf_law_shop, b_law_shop, startE, seqS, ifS, nxS, retS, retNS, drpS, putS, asgS, setG, getV, op2, op1, opC, consA, cst, cst0, tstB, asB, tru, truD, orT, andT, notT, andE, orE, ifE, chn, isiF, isTy, eqG_ii, eqG_ss, eqG_bb, neG_ii, neG_ss, neG_bb, isNG, notNG, notG, negG, ixG, ixO, lenG, intG, max2G, min2G, mkT, mkL, okD, opX, drpX, putX, retX, mkF, resO, ownS, ocL, ocE, ocD, frzS, borE, borT, borX, flatD, appS, mE, popM, tup2M, rmvS, setS, tupG, consG, nilG, lstN, lstG, itL, itemsL, atI_0, atI_l1, atI_l2, atI_l3, atI_1, atI_2, atI_3, st_wh, st_wf, st_hw, st_hf, st_fw, st_fh, rng1, rng2, whS, forS, prt, add_ii, sub_ii, mod_ii, div_ii, lt_ii, le_ii, gt_ii, ge_ii, e1, c1, hr, hc, e2]
  · rcases Nat.lt_or_gt_of_ne hij with hl | hl
    · exact I.apart i j w v sp sq t hl h1 h2 h3 h4 h5 h6
    · exact I.apart j i v w sq sp t hl h2 h1 h4 h3 h6 h5
end LH

namespace LH
open PySem PySem.Spec PyProof.Rows L2 Evl DL

/-! ### _law_alike -/
/-- of n levels -/
def sfA : Nat → List D → Option Res
  | 0, _ => none
  | n + 1, ds => if ds.length = 2 then resO (b_law_alike (sfA n) (startE ds 3)) else none
theorem m_law_alike (n : Nat) (ds : List D) (r : Res) (hl : ds.length = 2) (hs : sfA (n + 1) ds = some r) : resO (b_law_alike (sfA n) (startE ds 3)) = some r := by
  unfold sfA at hs
  rwa [if_pos hl] at hs
/-- plain data of less than n levels -/
def plainN : Nat → D → Prop
  | 0, _ => False
  | n + 1, d => match d with
    | .non | .bl _ | .int _ | .str _ => True
    | .lst xs => xs.length ≤ 1000 ∧ ∀ x ∈ xs, plainN n x
    | .tup xs => xs.length ≤ 1000 ∧ ∀ x ∈ xs, plainN n x
    | _ => False
theorem alike_lc (n : Nat) (ih : ∀ d, plainN n d → sfA n [d, d] = some (.ok (.bl true))) (xs : List D) (hp : ∀ x ∈ xs, plainN n x) (d : D) (hd : ∀ k, ixG d (.int k) = atI xs k) :
    lcL (setG 2) (cst0 true) (opC (okD (sfA n)) (consA (op2 ixG (getV 0) (getV 2)) (consA (op2 ixG (getV 1) (getV 2)) (cst0 [])))) [.val d, .val d, .no] (rngD 0 xs.length) = some ((List.range xs.length).map fun _ => D.bl true) := by
  rw [rngD_nat, ← List.range_eq_range']
  refine lcL_all (fun (j : Nat) => D.int (j : Int)) (fun _ => D.bl true) (List.range xs.length) fun j hj => ?_
  have hj' : j < xs.length := by simpa using hj
  have e := DL.atI_nat xs j
  rw [List.getElem?_eq_getElem hj'] at e
  have e2 := hd (j : Int)
  rw [e] at e2
  have e3 := ih xs[j] (hp _ (List.getElem_mem hj'))
  refine ⟨_, rfl, ?_⟩
  simp [opC, consA, op2, getV, cst0, okD, e2, e3]
theorem alike_refl : ∀ (n : Nat) (d : D), plainN n d → sfA n [d, d] = some (.ok (.bl true))
  | 0, d, h => by cases h
  | n + 1, d, h => by
    have ih := alike_refl n
    cases d with
    | non => simp [sfA, b_law_alike, startE, seqS, ifS, nxS, retS, retNS, drpS, putS, asgS, setG, getV, op2, op1, opC, consA, cst, cst0, tstB, asB, tru, truD, orT, andT, notT, andE, orE, ifE, chn, isiF, isTy, eqG_ii, eqG_ss, eqG_bb, neG_ii, neG_ss, neG_bb, isNG, notNG, notG, negG, ixG, ixO, lenG, intG, max2G, min2G, mkT, mkL, okD, opX, drpX, putX, retX, mkF, resO, ownS, ocL, ocE, ocD, frzS, borE, borT, borX, flatD, appS, mE, popM, tup2M, rmvS, setS, tupG, consG, nilG, lstN, lstG, itL, itemsL, atI_0, atI_l1, atI_l2, atI_l3, atI_1, atI_2, atI_3, st_wh, st_wf, st_hw, st_hf, st_fw, st_fh, rng1, rng2, whS, forS, prt, add_ii, sub_ii, mod_ii, div_ii, lt_ii, le_ii, gt_ii, ge_ii]
    | bl b => cases b <;> simp [sfA, b_law_alike, startE, seqS, ifS, nxS, retS, retNS, drpS, putS, asgS, setG, getV, op2, op1, opC, consA, cst, cst0, tstB, asB, tru, truD, orT, andT, notT, andE, orE, ifE, chn, isiF, isTy, eqG_ii, eqG_ss, eqG_bb, neG_ii, neG_ss, neG_bb, isNG, notNG, notG, negG, ixG, ixO, lenG, intG, max2G, min2G, mkT, mkL, okD, opX, drpX, putX, retX, mkF, resO, ownS, ocL, ocE, ocD, frzS, borE, borT, borX, flatD, appS, mE, popM, tup2M, rmvS, setS, tupG, consG, nilG, lstN, lstG, itL, itemsL, atI_0, atI_l1, atI_l2, atI_l3, atI_1, atI_2, atI_3, st_wh, st_wf, st_hw, st_hf, st_fw, st_fh, rng1, rng2, whS, forS, prt, add_ii, sub_ii, mod_ii, div_ii, lt_ii, le_ii, gt_ii, ge_ii]
    | int i => simp [sfA, b_law_alike, startE, seqS, ifS, nxS, retS, retNS, drpS, putS, asgS, setG, getV, op2, op1, opC, consA, cst, cst0, tstB, asB, tru, truD, orT, andT, notT, andE, orE, ifE, chn, isiF, isTy, eqG_ii, eqG_ss, eqG_bb, neG_ii, neG_ss, neG_bb, isNG, notNG, notG, negG, ixG, ixO, lenG, intG, max2G, min2G, mkT, mkL, okD, opX, drpX, putX, retX, mkF, resO, ownS, ocL, ocE, ocD, frzS, borE, borT, borX, flatD, appS, mE, popM, tup2M, rmvS, setS, tupG, consG, nilG, lstN, lstG, itL, itemsL, atI_0, atI_l1, atI_l2, atI_l3, atI_1, atI_2, atI_3, st_wh, st_wf, st_hw, st_hf, st_fw, st_fh, rng1, rng2, whS, forS, prt, add_ii, sub_ii, mod_ii, div_ii, lt_ii, le_ii, gt_ii, ge_ii]
    | str z => simp [sfA, b_law_alike, startE, seqS, ifS, nxS, retS, retNS, drpS, putS, asgS, setG, getV, op2, op1, opC, consA, cst, cst0, tstB, asB, tru, truD, orT, andT, notT, andE, orE, ifE, chn, isiF, isTy, eqG_ii, eqG_ss, eqG_bb, neG_ii, neG_ss, neG_bb, isNG, notNG, notG, negG, ixG, ixO, lenG, intG, max2G, min2G, mkT, mkL, okD, opX, drpX, putX, retX, mkF, resO, ownS, ocL, ocE, ocD, frzS, borE, borT, borX, flatD, appS, mE, popM, tup2M, rmvS, setS, tupG, consG, nilG, lstN, lstG, itL, itemsL, atI_0, atI_l1, atI_l2, atI_l3, atI_1, atI_2, atI_3, st_wh, st_wf, st_hw, st_hf, st_fw, st_fh, rng1, rng2, whS, forS, prt, add_ii, sub_ii, mod_ii, div_ii, lt_ii, le_ii, gt_ii, ge_ii]
    | lst xs =>
      obtain ⟨hl, hp⟩ := h
      have e := alike_lc n ih xs hp (.lst xs) fun _ => rfl
      have hc : ((xs.length : Nat) : Int) ≤ 100000 ∧ -100000 ≤ ((xs.length : Nat) : Int) := by omega
      have hr : (rngD 0 xs.length).length ≤ 90000 := by simp [rngD]; omega
      have hb := boolsOf_bools (fun (_ : Nat) => true) (List.range xs.length)
      generalize (List.range xs.length).map (fun _ => D.bl true) = bs at *
      simp [sfA, b_law_alike, startE, seqS, ifS, nxS, retS, retNS, drpS, putS, asgS, setG, getV, op2, op1, opC, consA, cst, cst0, tstB, asB, tru, truD, orT, andT, notT, andE, orE, ifE, chn, isiF, isTy, eqG_ii, eqG_ss, eqG_bb, neG_ii, neG_ss, neG_bb, isNG, notNG, notG, negG, ixG, ixO, lenG, intG, max2G, min2G, mkT, mkL, okD, opX, drpX, putX, retX, mkF, resO, ownS, ocL, ocE, ocD, frzS, borE, borT, borX, flatD, appS, mE, popM, tup2M, rmvS, setS, tupG, consG, nilG, lstN, lstG, itL, itemsL, atI_0, atI_l1, atI_l2, atI_l3, atI_1, atI_2, atI_3, st_wh, st_wf, st_hw, st_hf, st_fw, st_fh, rng1, rng2, whS, forS, prt, add_ii, sub_ii, mod_ii, div_ii, lt_ii, le_ii, gt_ii, ge_ii, hc, hr, lcF, wipeE, e, allG, hb]
    | tup xs =>
      obtain ⟨hl, hp⟩ := h
      have e := alike_lc n ih xs hp (.tup xs) fun _ => rfl
      have hc : ((xs.length : Nat) : Int) ≤ 100000 ∧ -100000 ≤ ((xs.length : Nat) : Int) := by omega
      have hr : (rngD 0 xs.length).length ≤ 90000 := by simp [rngD]; omega
      have hb := boolsOf_bools (fun (_ : Nat) => true) (List.range xs.length)
      generalize (List.range xs.length).map (fun _ => D.bl true) = bs at *
      simp [sfA, b_law_alike, startE, seqS, ifS, nxS, retS, retNS, drpS, putS, asgS, setG, getV, op2, op1, opC, consA, cst, cst0, tstB, asB, tru, truD, orT, andT, notT, andE, orE, ifE, chn, isiF, isTy, eqG_ii, eqG_ss, eqG_bb, neG_ii, neG_ss, neG_bb, isNG, notNG, notG, negG, ixG, ixO, lenG, intG, max2G, min2G, mkT, mkL, okD, opX, drpX, putX, retX, mkF, resO, ownS, ocL, ocE, ocD, frzS, borE, borT, borX, flatD, appS, mE, popM, tup2M, rmvS, setS, tupG, consG, nilG, lstN, lstG, itL, itemsL, atI_0, atI_l1, atI_l2, atI_l3, atI_1, atI_2, atI_3, st_wh, st_wf, st_hw, st_hf, st_fw, st_fh, rng1, rng2, whS, forS, prt, add_ii, sub_ii, mod_ii, div_ii, lt_ii, le_ii, gt_ii, ge_ii, hc, hr, lcF, wipeE, e, allG, hb]
    | scr _ => cases h
    | dct _ => cases h
    | dcl _ => cases h
end LH

namespace LH
open PySem PySem.Spec PyProof.Rows L2 Evl DL

/-! ### what is alike to itself -/
theorem plain_up : ∀ (n : Nat) (d : D), plainN n d → plainN (n + 1) d
  | 0, d, h => by cases h
  | n + 1, d, h => by
    cases d with
    | lst xs => exact ⟨h.1, fun x hx => plain_up n x (h.2 x hx)⟩
    | tup xs => exact ⟨h.1, fun x hx => plain_up n x (h.2 x hx)⟩
    | scr _ => cases h
    | dct _ => cases h
    | dcl _ => cases h
    | _ => trivial
theorem plain_le {n m : Nat} (h : n ≤ m) {d : D} (p : plainN n d) : plainN m d := by
  induction m with
  | zero =>
    have : n = 0 := by omega
    subst this; exact p
  | succ m ih =>
    by_cases e : n = m + 1
    · subst e; exact p
    · exact plain_up m d (ih (by omega))
theorem plain_stp (x : Stp) : plainN 2 x.d := by
  cases x <;> exact ⟨by simp, fun y hy => by simp at hy; rcases hy with rfl | rfl <;> trivial⟩
theorem plain_plan {p : List Stp} (h : p.length ≤ 1000) : plainN 3 (planD p) := ⟨by simpa using h, fun x hx => by
  obtain ⟨y, _, rfl⟩ := List.mem_map.mp hx
  exact plain_stp y⟩
theorem plain_wkr {w : Wkr} (h : w.plan.length ≤ 1000) : plainN 4 w.d := ⟨by simp, fun x hx => by
  simp at hx
  rcases hx with rfl | rfl | rfl
  · trivial
  · trivial
  · exact plain_plan h⟩
theorem plain_workers {ws : List Wkr} (g : GoodL ws) : plainN 5 (.lst (ws.map Wkr.d)) := ⟨by have := g.most; simp; omega, fun x hx => by
  obtain ⟨w, hw, rfl⟩ := List.mem_map.mp hx
  exact plain_wkr (by have := (g.all w hw).short; omega)⟩
theorem plain_spots {l : List Spot} (h : l.length ≤ 1000) : plainN 3 (.lst (l.map spotD)) := ⟨by simpa using h, fun x hx => by
  obtain ⟨w, _, rfl⟩ := List.mem_map.mp hx
  exact ⟨by simp, fun y hy => by simp at hy; rcases hy with rfl | rfl <;> trivial⟩⟩
theorem plain_shop {s : Shp} (g : GoodShp s) : plainN 6 s.d := ⟨by simp, fun x hx => by
  simp at hx
  rcases hx with rfl | rfl | rfl
  · exact plain_workers g.ws
  · trivial
  · exact plain_le (n := 3) (m := 5) (by decide) (plain_spots (by rw [g.len]; have := g.ws.most; omega))⟩
theorem plain_opt (o : Option Nat) : plainN 1 (optD o) := by cases o <;> trivial
theorem plain_told {s : Shp} (g : GoodShp s) (o : Option Nat) : plainN 7 (.tup [s.d, optD o]) := ⟨by simp, fun x hx => by
  simp at hx
  rcases hx with rfl | rfl
  · exact plain_shop g
  · exact plain_le (n := 1) (m := 6) (by decide) (plain_opt o)⟩
theorem plain_nats {l : List Nat} (h : l.length ≤ 1000) : plainN 2 (.lst (natsD l)) := ⟨by simpa using h, fun x hx => by
  obtain ⟨w, _, rfl⟩ := List.mem_map.mp hx
  trivial⟩
theorem alike_shop {s : Shp} (g : GoodShp s) {n : Nat} (h : 6 ≤ n) : sfA n [s.d, s.d] = some (.ok (.bl true)) := alike_refl n _ (plain_le h (plain_shop g))
end LH

namespace LH
open PySem PySem.Spec PyProof.Rows L2 Evl DL

/-! ### no list of ints in a shop -/
def NoI (d : D) : Prop := ∀ e, SubD d e → Plain1 e
theorem noi_int (i : Int) : NoI (.int i) := fun e h => by cases h; trivial
theorem noi_str (i : Str) : NoI (.str i) := fun e h => by cases h; trivial
theorem noi_tup {ds : List D} (h : ∀ d ∈ ds, NoI d) : NoI (.tup ds) := fun e k => by
  cases k with
  | refl => trivial
  | tup hd hs => exact h _ hd e hs
theorem noi_lst {ds : List D} (hn : ∃ d r, ds = d :: r ∧ isInt d = false) (h : ∀ d ∈ ds, NoI d) : NoI (.lst ds) := fun e k => by
  cases k with
  | refl => obtain ⟨d, r, rfl, hd⟩ := hn; exact hd
  | lst hd hs => exact h _ hd e hs
theorem noi_stp (x : Stp) : NoI x.d := by
  cases x <;> exact noi_tup fun d hd => by
    simp at hd
    rcases hd with rfl | rfl
    · exact noi_str _
    · exact noi_int _
theorem noi_lmap {α : Type} (f : α → D) {l : List α} (hl : 1 ≤ l.length) (hf : ∀ a, isInt (f a) = false) (h : ∀ a ∈ l, NoI (f a)) : NoI (.lst (l.map f)) := by
  refine noi_lst ?_ fun d hd => ?_
  · cases l with
    | nil => simp at hl
    | cons a l => exact ⟨_, _, rfl, hf a⟩
  · obtain ⟨a, ha, rfl⟩ := List.mem_map.mp hd
    exact h a ha
theorem noi_plan {p : List Stp} (g : GoodP p) : NoI (planD p) := noi_lmap Stp.d (by
  have := g.1
  cases p with
  | nil => exact absurd rfl this
  | cons a p => simp) (fun a => by cases a <;> rfl) fun a _ => noi_stp a
theorem noi_wkr {w : Wkr} (g : GoodW1 w) : NoI w.d := noi_tup fun d hd => by
  simp at hd
  rcases hd with rfl | rfl | rfl
  · exact noi_int _
  · exact noi_int _
  · exact noi_plan g.plan
theorem noi_workers {ws : List Wkr} (g : GoodL ws) : NoI (.lst (ws.map Wkr.d)) := noi_lmap Wkr.d g.one (fun _ => rfl) fun w hw => noi_wkr (g.all w hw)
theorem noi_shop {s : Shp} (g : GoodShp s) : NoI s.d := noi_tup fun d hd => by
  simp at hd
  rcases hd with rfl | rfl | rfl
  · exact noi_workers g.ws
  · exact noi_int _
  · exact noi_lmap spotD (by rw [g.len]; exact g.ws.one) (fun _ => rfl) fun sp _ => noi_tup fun d hd => by
      simp at hd
      rcases hd with rfl | rfl <;> exact noi_int _
theorem noInts1 {s : Shp} (g : GoodShp s) : NoInts [s.d] := fun d hd => by
  simp only [List.mem_cons, List.not_mem_nil, or_false] at hd
  subst hd
  exact noi_shop g
theorem noInts2 {s : Shp} (g : GoodShp s) (k : Int) : NoInts [s.d, .int k] := fun d hd => by
  simp only [List.mem_cons, List.not_mem_nil, or_false] at hd
  rcases hd with rfl | rfl
  · exact noi_shop g
  · exact noi_int k
theorem ints_nats (l : List Nat) : (natsD l).all isInt = true := by
  rw [List.all_eq_true]
  intro x hx
  obtain ⟨a, _, rfl⟩ := List.mem_map.mp hx
  rfl
/-! ### _law_alike of what is alike -/
theorem alike_opt (o : Option Nat) {n : Nat} (h : 1 ≤ n) : sfA n [optD o, optD o] = some (.ok (.bl true)) := alike_refl n _ (plain_le h (plain_opt o))
theorem alike_nats {l : List Nat} (hl : l.length ≤ 1000) {n : Nat} (h : 2 ≤ n) : sfA n [.lst (natsD l), .lst (natsD l)] = some (.ok (.bl true)) := alike_refl n _ (plain_le h (plain_nats hl))
theorem alike_int (i : Int) {n : Nat} (h : 1 ≤ n) : sfA n [.int i, .int i] = some (.ok (.bl true)) := alike_refl n _ (plain_le h (by trivial))
theorem chain_len {s : Shp} (g : GoodShp s) {k : Nat} (hk : k < s.ws.length) : (chainM s 9 k).length ≤ 8 := Nat.le_trans (chain_short g 9 k hk) g.ws.most
theorem nodup_cast {l : List Nat} (h : l.Nodup) : (l.map fun (j : Nat) => (j : Int)).Nodup := by
  refine List.Pairwise.map _ (fun a b hab => ?_) h
  omega
abbrev sf_law_alike : List D → Option Res := sfA 8
abbrev n_law_alike : Nat := 2
end LH

namespace LH
open PySem PySem.Spec PyProof.Rows L2 Evl DL

/-! ### place_behind -/
abbrev n_place_behind : Nat := 2
def sf_place_behind (ds : List D) : Option Res := if ds.length = 2 then resO (b_place_behind (startE ds 2)) else none
theorem m_place_behind (ds : List D) (r : Res) (hl : ds.length = n_place_behind) (hs : sf_place_behind ds = some r) : resO (b_place_behind (startE ds 2)) = some r := by
  unfold sf_place_behind at hs
  rwa [if_pos hl] at hs
theorem pbehind_loop (p : List Stp) : ∀ (n fuel j : Nat), p.length < j + n → n < fuel →
    whL (andT (tstB (op2 ltG (getV 1) (opC lenG (consA (getV 0) (cst0 []))))) (tstB (op2 eqG (op2 ixG (op2 ixG (getV 0) (getV 1)) (cst (.int 0))) (cst (.str "free"))))) b_place_behind_w0 fuel [.val (planD p), .val (.int (j : Int))] =
      some (.nx [.val (planD p), .val (.int (pastF p n j : Nat))])
  | n, 0, j, h1, h3 => by omega
  | 0, fuel + 1, j, h1, h3 => by
    have hj : ¬ (j : Int) < p.length := by omega
    rw [whL_no]
    · rfl
    · simp [startE, seqS, ifS, nxS, retS, retNS, drpS, putS, asgS, setG, getV, op2, op1, opC, consA, cst, cst0, tstB, asB, tru, truD, orT, andT, notT, andE, orE, ifE, chn, isiF, isTy, eqG_ii, eqG_ss, eqG_bb, neG_ii, neG_ss, neG_bb, isNG, notNG, notG, negG, ixG, ixO, lenG, intG, max2G, min2G, mkT, mkL, okD, opX, drpX, putX, retX, mkF, resO, ownS, ocL, ocE, ocD, frzS, borE, borT, borX, flatD, appS, mE, popM, tup2M, rmvS, setS, tupG, consG, nilG, lstN, lstG, itL, itemsL, atI_0, atI_l1, atI_l2, atI_l3, atI_1, atI_2, atI_3, st_wh, st_wf, st_hw, st_hf, st_fw, st_fh, rng1, rng2, whS, forS, prt, add_ii, sub_ii, mod_ii, div_ii, lt_ii, le_ii, gt_ii, ge_ii, hj]
  | n + 1, fuel + 1, j, h1, h3 => by
    by_cases hj : j < p.length
    · obtain ⟨st, hst⟩ : ∃ st, p[j]? = some st := ⟨_, List.getElem?_eq_getElem hj⟩
      have e := atI_map Stp.d hst
      unfold pastF
      rw [hst]
      cases st with
      | free t =>
        have ih := pbehind_loop p n fuel (j + 1) (by omega) (by omega)
        refine (whL_nx ?_ ?_).trans ih
        · simp [startE, seqS, ifS, nxS, retS, retNS, drpS, putS, asgS, setG, getV, op2, op1, opC, consA, cst, cst0, tstB, asB, tru, truD, orT, andT, notT, andE, orE, ifE, chn, isiF, isTy, eqG_ii, eqG_ss, eqG_bb, neG_ii, neG_ss, neG_bb, isNG, notNG, notG, negG, ixG, ixO, lenG, intG, max2G, min2G, mkT, mkL, okD, opX, drpX, putX, retX, mkF, resO, ownS, ocL, ocE, ocD, frzS, borE, borT, borX, flatD, appS, mE, popM, tup2M, rmvS, setS, tupG, consG, nilG, lstN, lstG, itL, itemsL, atI_0, atI_l1, atI_l2, atI_l3, atI_1, atI_2, atI_3, st_wh, st_wf, st_hw, st_hf, st_fw, st_fh, rng1, rng2, whS, forS, prt, add_ii, sub_ii, mod_ii, div_ii, lt_ii, le_ii, gt_ii, ge_ii, hj, e, Stp.d]
        · simp [b_place_behind_w0, startE, seqS, ifS, nxS, retS, retNS, drpS, putS, asgS, setG, getV, op2, op1, opC, consA, cst, cst0, tstB, asB, tru, truD, orT, andT, notT, andE, orE, ifE, chn, isiF, isTy, eqG_ii, eqG_ss, eqG_bb, neG_ii, neG_ss, neG_bb, isNG, notNG, notG, negG, ixG, ixO, lenG, intG, max2G, min2G, mkT, mkL, okD, opX, drpX, putX, retX, mkF, resO, ownS, ocL, ocE, ocD, frzS, borE, borT, borX, flatD, appS, mE, popM, tup2M, rmvS, setS, tupG, consG, nilG, lstN, lstG, itL, itemsL, atI_0, atI_l1, atI_l2, atI_l3, atI_1, atI_2, atI_3, st_wh, st_wf, st_hw, st_hf, st_fw, st_fh, rng1, rng2, whS, forS, prt, add_ii, sub_ii, mod_ii, div_ii, lt_ii, le_ii, gt_ii, ge_ii, augS]
      | work t =>
        rw [whL_no]
        simp [startE, seqS, ifS, nxS, retS, retNS, drpS, putS, asgS, setG, getV, op2, op1, opC, consA, cst, cst0, tstB, asB, tru, truD, orT, andT, notT, andE, orE, ifE, chn, isiF, isTy, eqG_ii, eqG_ss, eqG_bb, neG_ii, neG_ss, neG_bb, isNG, notNG, notG, negG, ixG, ixO, lenG, intG, max2G, min2G, mkT, mkL, okD, opX, drpX, putX, retX, mkF, resO, ownS, ocL, ocE, ocD, frzS, borE, borT, borX, flatD, appS, mE, popM, tup2M, rmvS, setS, tupG, consG, nilG, lstN, lstG, itL, itemsL, atI_0, atI_l1, atI_l2, atI_l3, atI_1, atI_2, atI_3, st_wh, st_wf, st_hw, st_hf, st_fw, st_fh, rng1, rng2, whS, forS, prt, add_ii, sub_ii, mod_ii, div_ii, lt_ii, le_ii, gt_ii, ge_ii, hj, e, Stp.d]
      | hold t =>
        rw [whL_no]
        simp [startE, seqS, ifS, nxS, retS, retNS, drpS, putS, asgS, setG, getV, op2, op1, opC, consA, cst, cst0, tstB, asB, tru, truD, orT, andT, notT, andE, orE, ifE, chn, isiF, isTy, eqG_ii, eqG_ss, eqG_bb, neG_ii, neG_ss, neG_bb, isNG, notNG, notG, negG, ixG, ixO, lenG, intG, max2G, min2G, mkT, mkL, okD, opX, drpX, putX, retX, mkF, resO, ownS, ocL, ocE, ocD, frzS, borE, borT, borX, flatD, appS, mE, popM, tup2M, rmvS, setS, tupG, consG, nilG, lstN, lstG, itL, itemsL, atI_0, atI_l1, atI_l2, atI_l3, atI_1, atI_2, atI_3, st_wh, st_wf, st_hw, st_hf, st_fw, st_fh, rng1, rng2, whS, forS, prt, add_ii, sub_ii, mod_ii, div_ii, lt_ii, le_ii, gt_ii, ge_ii, hj, e, Stp.d]
    · have hn : p[j]? = none := List.getElem?_eq_none (by omega)
      unfold pastF
      rw [hn]
      rw [whL_no]
      simp [startE, seqS, ifS, nxS, retS, retNS, drpS, putS, asgS, setG, getV, op2, op1, opC, consA, cst, cst0, tstB, asB, tru, truD, orT, andT, notT, andE, orE, ifE, chn, isiF, isTy, eqG_ii, eqG_ss, eqG_bb, neG_ii, neG_ss, neG_bb, isNG, notNG, notG, negG, ixG, ixO, lenG, intG, max2G, min2G, mkT, mkL, okD, opX, drpX, putX, retX, mkF, resO, ownS, ocL, ocE, ocD, frzS, borE, borT, borX, flatD, appS, mE, popM, tup2M, rmvS, setS, tupG, consG, nilG, lstN, lstG, itL, itemsL, atI_0, atI_l1, atI_l2, atI_l3, atI_1, atI_2, atI_3, st_wh, st_wf, st_hw, st_hf, st_fw, st_fh, rng1, rng2, whS, forS, prt, add_ii, sub_ii, mod_ii, div_ii, lt_ii, le_ii, gt_ii, ge_ii, hj]
theorem placeBehind_eq (p : List Stp) (hp : p.length ≤ 40) (j : Nat) : sf_place_behind [planD p, .int (j : Int)] = some (.ok (.int (behindM p j : Nat))) := by
  have e := pbehind_loop p 100 100000 (j + 1) (by omega) (by omega)
  rw [show ((j + 1 : Nat) : Int) = (j : Int) + 1 by omega] at e
  unfold behindM
  simp [sf_place_behind, b_place_behind, startE, seqS, ifS, nxS, retS, retNS, drpS, putS, asgS, setG, getV, op2, op1, opC, consA, cst, cst0, tstB, asB, tru, truD, orT, andT, notT, andE, orE, ifE, chn, isiF, isTy, eqG_ii, eqG_ss, eqG_bb, neG_ii, neG_ss, neG_bb, isNG, notNG, notG, negG, ixG, ixO, lenG, intG, max2G, min2G, mkT, mkL, okD, opX, drpX, putX, retX, mkF, resO, ownS, ocL, ocE, ocD, frzS, borE, borT, borX, flatD, appS, mE, popM, tup2M, rmvS, setS, tupG, consG, nilG, lstN, lstG, itL, itemsL, atI_0, atI_l1, atI_l2, atI_l3, atI_1, atI_2, atI_3, st_wh, st_wf, st_hw, st_hf, st_fw, st_fh, rng1, rng2, whS, forS, prt, add_ii, sub_ii, mod_ii, div_ii, lt_ii, le_ii, gt_ii, ge_ii, augS, e]
/-! ### rest_of -/
theorem heldAfter_at {p : List Stp} (g : GoodP p) (hl : p.length ≤ 40) {j : Nat} (hj : j ≤ p.length) : sf_held_after [.lst ((p.map Stp.d).take j)] = some (.ok (.lst ((toolsAt p j).map .int))) := by
  have := heldA_run (p.take j) [] (toolsAt p j) (by simp; omega) (toolsAt_run g j)
  rw [List.map_take] at this
  simp only [sf_held_after, this]
abbrev n_rest_of : Nat := 2
def sf_rest_of (ds : List D) : Option Res := if ds.length = 2 then resO (b_rest_of sf_check_number sf_plan_of sf_held_after (startE ds 8)) else none
theorem m_rest_of (ds : List D) (r : Res) (hl : ds.length = n_rest_of) (hs : sf_rest_of ds = some r) : resO (b_rest_of sf_check_number sf_plan_of sf_held_after (startE ds 8)) = some r := by
  unfold sf_rest_of at hs
  rwa [if_pos hl] at hs
theorem tools_lt {p : List Stp} (g : GoodP p) {j : Nat} (hj : j ≤ p.length) (h : toolsAt p j ≠ []) : j < p.length := by
  rcases Nat.lt_or_ge j p.length with z | z
  · exact z
  · have e : j = p.length := by omega
    rw [e, end_tools g] at h
    exact absurd rfl h
theorem restP_loop {p : List Stp} (g : GoodP p) (hl : p.length ≤ 40) (a0 a1 a5 : Sl) : ∀ (fuel j : Nat) (r : Int) (s6 s7 : Sl), j ≤ p.length → p.length - j < fuel →
    ∃ j' t6 t7, whL (tru (opC (okD sf_held_after) (consA (slF (getV 2) (fun _ => some none) (prt (getV 4))) (cst0 [])))) (b_rest_of_w0 sf_check_number sf_plan_of sf_held_after) fuel [a0, a1, .val (planD p), .val (.int r), .val (.int (j : Int)), a5, s6, s7] =
      some (.nx [a0, a1, .val (planD p), .val (.int (r + restP p j 0)), .val (.int j'), a5, t6, t7])
  | 0, j, r, s6, s7, hj, hf => by omega
  | fuel + 1, j, r, s6, s7, hj, hf => by
    have e1 := heldAfter_at g hl hj
    have hcut : DL.cutD (p.map Stp.d) none (some (j : Int)) = (p.map Stp.d).take j := cut_take _ _ (by simpa using hj)
    have test : tru (opC (okD sf_held_after) (consA (slF (getV 2) (fun _ => some none) (prt (getV 4))) (cst0 []))) [a0, a1, .val (planD p), .val (.int r), .val (.int (j : Int)), a5, s6, s7] = some (!(toolsAt p j).isEmpty) := by
      simp [startE, seqS, ifS, nxS, retS, retNS, drpS, putS, asgS, setG, getV, op2, op1, opC, consA, cst, cst0, tstB, asB, tru, truD, orT, andT, notT, andE, orE, ifE, chn, isiF, isTy, eqG_ii, eqG_ss, eqG_bb, neG_ii, neG_ss, neG_bb, isNG, notNG, notG, negG, ixG, ixO, lenG, intG, max2G, min2G, mkT, mkL, okD, opX, drpX, putX, retX, mkF, resO, ownS, ocL, ocE, ocD, frzS, borE, borT, borX, flatD, appS, mE, popM, tup2M, rmvS, setS, tupG, consG, nilG, lstN, lstG, itL, itemsL, atI_0, atI_l1, atI_l2, atI_l3, atI_1, atI_2, atI_3, st_wh, st_wf, st_hw, st_hf, st_fw, st_fh, rng1, rng2, whS, forS, prt, add_ii, sub_ii, mod_ii, div_ii, lt_ii, le_ii, gt_ii, ge_ii, slF, slG, hcut, e1]
    by_cases ht : toolsAt p j = []
    · refine ⟨(j : Int), s6, s7, ?_⟩
      rw [rest_none ht, Int.add_zero]
      refine whL_no ?_
      rw [test, ht]; rfl
    · have hlt := tools_lt g hj ht
      obtain ⟨st, hst⟩ : ∃ st, p[j]? = some st := ⟨_, List.getElem?_eq_getElem hlt⟩
      have e2 := atI_map Stp.d hst
      have ht2 : tru (opC (okD sf_held_after) (consA (slF (getV 2) (fun _ => some none) (prt (getV 4))) (cst0 []))) [a0, a1, .val (planD p), .val (.int r), .val (.int (j : Int)), a5, s6, s7] = some true := by
        rw [test]
        cases q : toolsAt p j with
        | nil => exact absurd q ht
        | cons a b => rfl
      cases st with
      | work n =>
        obtain ⟨j', t6, t7, ih⟩ := restP_loop g hl a0 a1 a5 fuel (j + 1) (r + n) (.val (.str "work")) (.val (.int n)) (by omega) (by omega)
        refine ⟨j', t6, t7, ?_⟩
        have e3 := rest_work g hst ht 0
        rw [show r + restP p j 0 = r + n + restP p (j + 1) 0 by omega]
        refine (whL_nx ht2 ?_).trans ih
        simp [b_rest_of_w0, startE, seqS, ifS, nxS, retS, retNS, drpS, putS, asgS, setG, getV, op2, op1, opC, consA, cst, cst0, tstB, asB, tru, truD, orT, andT, notT, andE, orE, ifE, chn, isiF, isTy, eqG_ii, eqG_ss, eqG_bb, neG_ii, neG_ss, neG_bb, isNG, notNG, notG, negG, ixG, ixO, lenG, intG, max2G, min2G, mkT, mkL, okD, opX, drpX, putX, retX, mkF, resO, ownS, ocL, ocE, ocD, frzS, borE, borT, borX, flatD, appS, mE, popM, tup2M, rmvS, setS, tupG, consG, nilG, lstN, lstG, itL, itemsL, atI_0, atI_l1, atI_l2, atI_l3, atI_1, atI_2, atI_3, st_wh, st_wf, st_hw, st_hf, st_fw, st_fh, rng1, rng2, whS, forS, prt, add_ii, sub_ii, mod_ii, div_ii, lt_ii, le_ii, gt_ii, ge_ii, augS, e2, Stp.d]
      | hold t =>
        obtain ⟨j', t6, t7, ih⟩ := restP_loop g hl a0 a1 a5 fuel (j + 1) r (.val (.str "hold")) (.val (.int t)) (by omega) (by omega)
        refine ⟨j', t6, t7, ?_⟩
        rw [rest_hold g hst ht 0]
        refine (whL_nx ht2 ?_).trans ih
        simp [b_rest_of_w0, startE, seqS, ifS, nxS, retS, retNS, drpS, putS, asgS, setG, getV, op2, op1, opC, consA, cst, cst0, tstB, asB, tru, truD, orT, andT, notT, andE, orE, ifE, chn, isiF, isTy, eqG_ii, eqG_ss, eqG_bb, neG_ii, neG_ss, neG_bb, isNG, notNG, notG, negG, ixG, ixO, lenG, intG, max2G, min2G, mkT, mkL, okD, opX, drpX, putX, retX, mkF, resO, ownS, ocL, ocE, ocD, frzS, borE, borT, borX, flatD, appS, mE, popM, tup2M, rmvS, setS, tupG, consG, nilG, lstN, lstG, itL, itemsL, atI_0, atI_l1, atI_l2, atI_l3, atI_1, atI_2, atI_3, st_wh, st_wf, st_hw, st_hf, st_fw, st_fh, rng1, rng2, whS, forS, prt, add_ii, sub_ii, mod_ii, div_ii, lt_ii, le_ii, gt_ii, ge_ii, augS, e2, Stp.d]
      | free t =>
        obtain ⟨j', t6, t7, ih⟩ := restP_loop g hl a0 a1 a5 fuel (j + 1) r (.val (.str "free")) (.val (.int t)) (by omega) (by omega)
        refine ⟨j', t6, t7, ?_⟩
        rw [rest_free g hst 0]
        refine (whL_nx ht2 ?_).trans ih
        simp [b_rest_of_w0, startE, seqS, ifS, nxS, retS, retNS, drpS, putS, asgS, setG, getV, op2, op1, opC, consA, cst, cst0, tstB, asB, tru, truD, orT, andT, notT, andE, orE, ifE, chn, isiF, isTy, eqG_ii, eqG_ss, eqG_bb, neG_ii, neG_ss, neG_bb, isNG, notNG, notG, negG, ixG, ixO, lenG, intG, max2G, min2G, mkT, mkL, okD, opX, drpX, putX, retX, mkF, resO, ownS, ocL, ocE, ocD, frzS, borE, borT, borX, flatD, appS, mE, popM, tup2M, rmvS, setS, tupG, consG, nilG, lstN, lstG, itL, itemsL, atI_0, atI_l1, atI_l2, atI_l3, atI_1, atI_2, atI_3, st_wh, st_wf, st_hw, st_hf, st_fw, st_fh, rng1, rng2, whS, forS, prt, add_ii, sub_ii, mod_ii, div_ii, lt_ii, le_ii, gt_ii, ge_ii, augS, e2, Stp.d]
theorem restOf_eq {s : Shp} (g : GoodShp s) {k : Nat} (hk : k < s.ws.length) : sf_rest_of [s.d, .int (k : Int)] = some (.ok (.int (restM s k))) := by
  obtain ⟨h1, h2, gw, sp⟩ := g.at_ hk
  have e0 := check_eq s hk
  have e1 := plan_at g hk
  have e2 := atI_map spotD h2
  have hcut : DL.cutD ((wAt s k).plan.map Stp.d) none (some ((spotAt s k).1 : Int)) = ((wAt s k).plan.map Stp.d).take (spotAt s k).1 := cut_take _ _ (by simpa using sp.place)
  have e3 := heldAfter_at gw.plan gw.short sp.place
  by_cases ht : toolsAt (wAt s k).plan (spotAt s k).1 = []
  · rw [restM_eq, rest_none ht]
    rw [ht] at e3
    simp only [List.map_nil] at e3
    simp [sf_rest_of, b_rest_of, startE, seqS, ifS, nxS, retS, retNS, drpS, putS, asgS, setG, getV, op2, op1, opC, consA, cst, cst0, tstB, asB, tru, truD, orT, andT, notT, andE, orE, ifE, chn, isiF, isTy, eqG_ii, eqG_ss, eqG_bb, neG_ii, neG_ss, neG_bb, isNG, notNG, notG, negG, ixG, ixO, lenG, intG, max2G, min2G, mkT, mkL, okD, opX, drpX, putX, retX, mkF, resO, ownS, ocL, ocE, ocD, frzS, borE, borT, borX, flatD, appS, mE, popM, tup2M, rmvS, setS, tupG, consG, nilG, lstN, lstG, itL, itemsL, atI_0, atI_l1, atI_l2, atI_l3, atI_1, atI_2, atI_3, st_wh, st_wf, st_hw, st_hf, st_fw, st_fh, rng1, rng2, whS, forS, prt, add_ii, sub_ii, mod_ii, div_ii, lt_ii, le_ii, gt_ii, ge_ii, e0, e1, e2, slF, slG, hcut, e3]
  · obtain ⟨j', t6, t7, e4⟩ := restP_loop gw.plan gw.short (.val s.d) (.val (.int (k : Int))) (.val (.int (spotAt s k).2)) 100000 (spotAt s k).1 (-(spotAt s k).2) .no .no sp.place (by have := gw.short; omega)
    have key : -(spotAt s k).2 + restP (wAt s k).plan (spotAt s k).1 0 = restM s k := by
      rw [restM_eq]
      have hlt := tools_lt gw.plan sp.place ht
      obtain ⟨st, hst⟩ : ∃ st, (wAt s k).plan[(spotAt s k).1]? = some st := ⟨_, List.getElem?_eq_getElem hlt⟩
      cases st with
      | work n =>
        rw [rest_work gw.plan hst ht, rest_work gw.plan hst ht]; omega
      | hold t =>
        rw [sp.other (fun n hn => by rw [hst] at hn; cases hn)]; omega
      | free t =>
        rw [sp.other (fun n hn => by rw [hst] at hn; cases hn)]; omega
    rw [key] at e4
    have hne : ((toolsAt (wAt s k).plan (spotAt s k).1).map D.int).isEmpty = false := by
      cases q : toolsAt (wAt s k).plan (spotAt s k).1 with
      | nil => exact absurd q ht
      | cons a b => rfl
    have hne2 : ¬ toolsAt (wAt s k).plan (spotAt s k).1 = [] := ht
    generalize hT : (toolsAt (wAt s k).plan (spotAt s k).1).map D.int = T at *
    simp [sf_rest_of, b_rest_of, startE, seqS, ifS, nxS, retS, retNS, drpS, putS, asgS, setG, getV, op2, op1, opC, consA, cst, cst0, tstB, asB, tru, truD, orT, andT, notT, andE, orE, ifE, chn, isiF, isTy, eqG_ii, eqG_ss, eqG_bb, neG_ii, neG_ss, neG_bb, isNG, notNG, notG, negG, ixG, ixO, lenG, intG, max2G, min2G, mkT, mkL, okD, opX, drpX, putX, retX, mkF, resO, ownS, ocL, ocE, ocD, frzS, borE, borT, borX, flatD, appS, mE, popM, tup2M, rmvS, setS, tupG, consG, nilG, lstN, lstG, itL, itemsL, atI_0, atI_l1, atI_l2, atI_l3, atI_1, atI_2, atI_3, st_wh, st_wf, st_hw, st_hf, st_fw, st_fh, rng1, rng2, whS, forS, prt, add_ii, sub_ii, mod_ii, div_ii, lt_ii, le_ii, gt_ii, ge_ii, e0, e1, e2, slF, slG, hcut, e3, hne, e4]
end LH

namespace DL
open PySem PySem.Spec PyProof.Rows L2 Evl
/-! ### slots that are flat -/
inductive FlatE : DEnv → L2.St → Prop
  | nil : FlatE [] []
  | no {e : DEnv} {s : L2.St} (x : Option V) : FlatE e s → FlatE (.no :: e) (x :: s)
  | val {e : DEnv} {s : L2.St} {d : D} : flatD d = true → FlatE e s → FlatE (.val d :: e) (some (flatV' d) :: s)
theorem FlatE.len {e : DEnv} {s : L2.St} (f : FlatE e s) : e.length = s.length := by
  induction f with
  | nil => rfl
  | no _ _ ih => simp [ih]
  | val _ _ ih => simp [ih]
theorem flat_dt {K : PySem.W.Frag} {F : Hp} {d : D} (h : flatD d = true) : Dt K F (flatV' d) d := by
  cases d with
  | non => exact .non
  | bl b => exact .bl b
  | int i => exact .int i
  | str z => exact .str z
  | _ => cases h
theorem FlatE.get {e : DEnv} {s : L2.St} (f : FlatE e s) : ∀ (i : Nat) (l : Sl), e[i]? = some l → l = .no ∨ ∃ d, l = .val d ∧ flatD d = true ∧ s[i]? = some (some (flatV' d)) := by
  induction f with
  | nil => intro i l h; simp at h
  | no x _ ih =>
    intro i l h
    cases i with
    | zero => simp at h; exact .inl h.symm
    | succ i => exact ih i l (by simpa using h)
  | val hd _ ih =>
    intro i l h
    cases i with
    | zero => simp at h; exact .inr ⟨_, h.symm, hd, rfl⟩
    | succ i => exact ih i l (by simpa using h)
section
variable {K : PySem.W.Frag} {a p : Addr} {x y d : D} {ds : List D} {H F H' F' : Hp} {xs : List V} {v : V} {e : DEnv} {s : L2.St}
/-- the shop in the first slot, flat ones behind -/
theorem Box.rel (b : Box K a p x y ds H F) (hx : H p = some (.lst xs)) (f : FlatE e s) : Rel K H (upd F p (.lst xs)) (upd F p (.lst xs)) (.val (.tup [x, y, .lst ds]) :: e) (some (.ref a) :: s) H := by
  obtain ⟨zs, z1, z2, z3, z4, z5⟩ := b.rd
  rw [hx] at z1
  cases z1
  refine ⟨⟨Ex.refl _, Ex.refl _, z4, fun _ _ => rfl⟩, fun i d hd => ?_, ⟨fun _ => 0, fun i a c hc => ?_, fun i j a b c d h1 h2 _ => ?_⟩, by simp [f.len], fun i a ha => ?_⟩
  · cases i with
    | zero => simp at hd; subst hd; exact ⟨_, rfl, z5⟩
    | succ i =>
      rcases f.get i _ (by simpa using hd) with h | ⟨d', h, h2, h3⟩
      · cases h
      · cases h
        exact ⟨_, by simpa using h3, flat_dt h2⟩
  · cases i with
    | zero => simp at hc
    | succ i =>
      rcases f.get i _ (by simpa using hc) with h | ⟨d', h, _⟩ <;> cases h
  · cases i with
    | zero => simp at h1
    | succ i =>
      rcases f.get i _ (by simpa using h1) with h | ⟨d', h, _⟩ <;> cases h
  · cases i with
    | zero => simp at ha
    | succ i =>
      rcases f.get i _ (by simpa using ha) with h | ⟨d', h, _⟩ <;> cases h
/-- what an expression over it tells -/
theorem Box.ask (b : Box K a p x y ds H F) (f : FlatE e s) {fe : DEnv → Option D} {Q : VK} (hf : fe (.val (.tup [x, y, .lst ds]) :: e) = some d)
    (q : ∀ v xs H' F', H p = some (.lst xs) → Grow H (upd F p (.lst xs)) H' F' → Dt K F' v d → Box K a p x y ds H' (drop F' p) → Grow (drop H p) F H' (drop F' p) → H' p = some (.lst xs) → F' p = some (.lst xs) → Q v H') : dE K fe (some (.ref a) :: s) H Q := by
  obtain ⟨zs, z1, z2, z3, z4, z5⟩ := b.rd
  refine ⟨H, _, _, _, d, b.rel z1 f, hf, fun v H' F' g hv => ?_⟩
  obtain ⟨b1, b2, b3⟩ := b.grow z1 g
  exact q v zs H' F' z1 g hv b1 b2 b3 (g.f _ _ upd_same)
theorem Box.test (b : Box K a p x y ds H F) (f : FlatE e s) {ft : DEnv → Option Bool} {c : Bool} {Q : Bool → Hp → Prop} (hf : ft (.val (.tup [x, y, .lst ds]) :: e) = some c)
    (q : ∀ H' F1, Box K a p x y ds H' F1 → Grow (drop H p) F H' F1 → Q c H') : dT K ft (some (.ref a) :: s) H Q := by
  obtain ⟨zs, z1, z2, z3, z4, z5⟩ := b.rd
  refine ⟨H, _, _, _, c, b.rel z1 f, hf, fun H' F' g => ?_⟩
  obtain ⟨b1, b2, b3⟩ := b.grow z1 g
  exact q H' _ b1 b2
theorem Grow.self (b : Box K a p x y ds H F) : Grow (drop H p) F H F := ⟨fun c u hc => by
    by_cases hcp : c = p
    · subst hcp; rw [drop_same] at hc; cases hc
    · rwa [drop_ne hcp] at hc, Ex.refl _, b.ex, fun _ _ => rfl⟩
end
section
variable {X : Cx} {e : Expr} {es : List Expr} {pos p : Pos} {x : Str} {k j n : Nat} {T : D → D → List D → List D → D → List D → Prop} {t : TA}
def tBox (K : PySem.W.Frag) (n : Nat) (T : D → D → List D → List D → D → List D → Prop) (t : TA) : TE := fun σ H Q => t σ H fun vs H1 => spB K n T vs H1 Q (fun _ _ _ => False)
theorem pe_callBx (c : ClB X.prog X.w X.K X.mg X.base x k n T) (hr : Room j X.A) (hk : k ≤ j) (hg : Gl X x) (ha : PA X (e :: es) t) (hdb : (x == ("__debug__" : Str)) = false := by decide)
    (he : starEach (e :: es) X.env = (false, eval e X.env) :: starEach es X.env := by rfl) (hpl : (backTo pos (starEach es X.env)).any (·.1) = false := by rfl) : PE X (.Call (.Name x p) (e :: es) [] pos) (tBox X.K n T t) := by
  obtain ⟨f, fd, ps, G, hm, hkp, hb⟩ := c
  refine ⟨fun pins s σ H Q I h => (pe_call (E := fun _ _ _ => False) G (hr.mono hk) hg hm hkp hb .nil passF ha hdb he hpl).run pins s σ H Q I ?_⟩
  unfold tCall
  simp only [List.append_nil]
  exact h
end
end DL

namespace DL
open PySem PySem.Spec PyProof.Rows L2 Evl
/-! ### len(set(xs)), xs any ints -/
def metN (ns : List Int) : Nat := (PyProof.Rows.firstMet (fun i => ns.getD i 0) ns.length).length
theorem metN_le (ns : List Int) : metN ns ≤ ns.length := PyProof.Rows.firstMet_length_le _ _
theorem met_full {val : Nat → Int} : ∀ i, (PyProof.Rows.firstMet val i).length = i → ((List.range i).map val).Nodup
  | 0, _ => by simp
  | i + 1, h => by
    have hle := PyProof.Rows.firstMet_length_le val i
    rw [PyProof.Rows.firstMet_succ] at h
    have hs : PyProof.Rows.step_dedup (PyProof.Rows.firstMet val i) (val i) = if (PyProof.Rows.firstMet val i).any (· == val i) then PyProof.Rows.firstMet val i else PyProof.Rows.firstMet val i ++ [val i] := rfl
    rw [hs] at h
    split at h
    · omega
    · rename_i hn
      rw [List.length_append, List.length_singleton] at h
      have ih := met_full (val := val) i (by omega)
      rw [PyProof.Rows.firstMet_any] at hn
      rw [List.range_succ, List.map_append, List.nodup_append]
      refine ⟨ih, by simp, fun a ha b hb => ?_⟩
      simp only [List.map_cons, List.map_nil, List.mem_singleton] at hb
      subst hb
      rintro rfl
      exact hn (List.any_eq_true.mpr ⟨_, ha, by simp⟩)
theorem range_getD (ns : List Int) : (List.range ns.length).map (fun i => ns.getD i 0) = ns := by
  apply List.ext_getElem
  · simp
  · intro i h1 h2
    simp at h1 h2
    simp [List.getElem?_eq_getElem h2]
theorem metN_full {ns : List Int} (h : ¬ metN ns < ns.length) : ns.Nodup := by
  have h1 := metN_le ns
  have h2 := met_full (val := fun i => ns.getD i 0) ns.length (by unfold metN at h h1; omega)
  rwa [range_getD] at h2
def lenSetG (fe : DEnv → Option D) : DEnv → Option D := fun env => match fe env with
  | some (.lst ds) => (match intsOf ds with
    | some ns => if ns.length < 64 then some (.int (metN ns)) else none
    | none => none)
  | _ => none
def tLenSetG (K : PySem.W.Frag) (ta : TE) : TE := fun σ H Q => ta σ H fun x H1 => ∃ (l : Addr) (ns : List Int), x = .ref l ∧ SqL K H1 l (ns.map V.int) ∧ ns.length < 64 ∧ Q (.int (metN ns : Nat)) H1
section
variable {X : Cx} {a e e2 : Expr} {fe fa fb : DEnv → Option D} {p p2 q pos : Pos}
theorem pe_lenSetG {ta : TE} (hc : X.calm = true) (hg : Gl X "len") (hm : X.mg "len" = none) (hg2 : Gl X "set") (hm2 : X.mg "set" = none) (ha : PE X a ta)
    (na : starEach [a] X.env = (false, eval a X.env) :: starEach [] X.env := by rfl) : PE X (.Call (.Name "len" p) [.Call (.Name "set" p2) [a] [] q] [] pos) (tLenSetG X.K ta) := by
  refine ⟨fun pins s σ H Q I h => ?_⟩
  refine PyProof.Rows.Call_ (ld_blt I hg hm boot_len ?_)
  refine PyProof.Rows.callWith_builtin1 (PyProof.Rows.args_cons ?_ rfl) rfl rfl
  refine PyProof.Rows.Call_ (ld_blt I hg2 hm2 boot_set ?_)
  refine PyProof.Rows.callWith_type1 (PyProof.Rows.args_cons (thn (ha.run pins s σ H _ I h) fun v s1 ⟨x, H1, I1, r1, q1⟩ => PyProof.Rows.args_nil ?_) na) na rfl
  obtain ⟨l, ns, rfl, hq, hl, q1⟩ := q1
  cases r1
  obtain ⟨its, r, pl, hz⟩ := I1.list hq
  have hlen : its.toArray.size = ns.length := by rw [List.size_toArray, ← r.length, List.length_map]
  refine call_set_list (I1.ok.hd hc) pl.isList (by simpa using RZ.intsAre_vals r) (by rw [hlen]; unfold scanBound; omega) fun h' tk hS hk => ?_
  refine PyProof.Rows.args_nil ?_
  rw [hlen] at hS
  have hle := metN_le ns
  obtain ⟨o, es, ep, t, ho, hex, hd, _, _, _, hf, hn⟩ := hS
  have I2 : Inv X pins σ H1 { s1 with heap := h', toks := tk } := I1.kept fun b o e => hk b o (Heap.lt_size e) e
  have hn' : _ = metN ns := hn
  exact call_len_set ho hex hd hf (by rw [hn'] <;> omega) ⟨.int (metN ns), H1, I2.tok _, ⟨_, by rw [hn']⟩, q1⟩
theorem de_lenSetG (hc : X.calm = true) (hg : Gl X "len") (hm : X.mg "len" = none) (hg2 : Gl X "set") (hm2 : X.mg "set" = none) (ha : PE X a (dE X.K fe)) (hs : starEach [a] X.env = (false, eval a X.env) :: starEach [] X.env := by rfl) :
    PE X (.Call (.Name "len" p) [.Call (.Name "set" p2) [a] [] q] [] pos) (dE X.K (lenSetG fe)) := by
  refine PE.imp (pe_lenSetG hc hg hm hg2 hm2 ha hs) ?_
  rintro σ H Q ⟨H0, F0, F, env, d, r, hf, k⟩
  unfold lenSetG at hf
  split at hf
  · rename_i ds hds
    split at hf
    · rename_i ns hns
      split at hf
      · rename_i hn
        cases hf
        refine ⟨H0, F0, F, env, _, r, hds, fun v H1 F1 g1 hv => ?_⟩
        obtain ⟨l, vs, rfl, hl, hx⟩ := hv.inv_lst
        obtain rfl := intsOf_map hns
        obtain rfl := dt_ints_inv hx
        exact ⟨l, ns, rfl, .inl (.inl (g1.fh l _ hl)), hn, k _ H1 F1 g1 (.int _)⟩
      · cases hf
    · cases hf
  · cases hf
/-! ### [x] * n, new -/
def repN (fa fb : DEnv → Option D) : DEnv → Option OC := fun env => match fa env with
  | some (.lst xs) => (match fb env with
    | some (.int k) => if -100000 ≤ k ∧ k ≤ 100000 ∧ xs.length * k.toNat ≤ 100000 then some (.l (List.replicate k.toNat xs).flatten) else none
    | _ => none)
  | _ => none
theorem dn_rep (ha : PE X e (dE X.K fa)) (hb : PE X e2 (dE X.K fb)) : PE X (.BinOp e .Mult e2 pos) (dN X.K (repN fa fb)) := by
  refine PE.imp (pe_op op_rep ha hb) ?_
  rintro σ H Q ⟨H0, F0, F, env, c, r, hf, k⟩
  unfold repN at hf
  split at hf
  · rename_i xs h1
    split at hf
    · rename_i n h2
      split at hf
      · rename_i hl
        cases hf
        refine ⟨H0, F0, F, env, _, r, h1, fun v H1 F1 g1 hv => ⟨H0, F0, F1, env, _, r.grow g1, h2, fun u H2 F2 g2 hu => ?_⟩⟩
        cases hu.inv_int
        obtain ⟨l, vs, rfl, hl2, hx⟩ := hv.inv_lst
        refine ⟨l, n, vs, rfl, rfl, g2.h _ _ (g1.fh _ _ hl2), by omega, by omega, sz_of (by rw [hx.len]; exact hl.2.2), fun z hz => ?_⟩
        have gz := Grow.newM (o := .lst (List.replicate n.toNat vs).flatten) g2.fh hz
        exact k z _ _ F2 ((g1.trans g2).trans gz) (none_of_ex (g1.h.trans g2.h) hz) upd_same (none_of_ex g2.fh hz) (.l ((hx.mono g2.f).rep _))
      · cases hf
    · cases hf
  · cases hf
end
end DL

namespace DL
open PySem PySem.Spec PyProof.Rows L2 Evl
/-! ### sorted of pairs of ints -/
def pairD : D → Option (Int × Int)
  | .tup [.int a, .int b] => some (a, b)
  | _ => none
theorem pairD_eq {d : D} {p : Int × Int} (h : pairD d = some p) : d = .tup [.int p.1, .int p.2] := by
  unfold pairD at h
  split at h
  · cases h; rfl
  · cases h
def pr (p : Int × Int) : D := .tup [.int p.1, .int p.2]
def prsOf : List D → Option (List (Int × Int))
  | [] => some []
  | d :: r => (match pairD d with
    | some p => (match prsOf r with
      | some l => some (p :: l)
      | none => none)
    | none => none)
theorem prsOf_map : ∀ {ds : List D} {ps : List (Int × Int)}, prsOf ds = some ps → ds = ps.map pr
  | [], _, h => by cases h; rfl
  | d :: r, ps, h => by
    simp only [prsOf] at h
    split at h
    · rename_i p hp
      split at h
      · rename_i l hl
        cases h
        rw [prsOf_map hl, pairD_eq hp]; rfl
      · cases h
    · cases h
theorem prsOf_pr : ∀ ps : List (Int × Int), prsOf (ps.map pr) = some ps
  | [] => rfl
  | p :: r => by simp [prsOf, prsOf_pr r, pr, pairD]
def insP (x : Int × Int) : List (Int × Int) → List (Int × Int)
  | [] => [x]
  | y :: r => if SrtO.lexB y x = false then x :: y :: r else y :: insP x r
def srtP : List (Int × Int) → List (Int × Int)
  | [] => []
  | x :: r => insP x (srtP r)
theorem insP_perm (x : Int × Int) : ∀ l, (insP x l).Perm (x :: l)
  | [] => .refl _
  | y :: r => by
    unfold insP
    split
    · exact .refl _
    · exact ((insP_perm x r).cons y).trans (.swap x y r)
theorem srtP_perm : ∀ l, (srtP l).Perm l
  | [] => .refl _
  | x :: r => (insP_perm x (srtP r)).trans ((srtP_perm r).cons x)
theorem lexB_tr {x y z : Int × Int} (h1 : SrtO.lexB y x = false) (h2 : SrtO.lexB z y = false) : SrtO.lexB z x = false := by
  have a := SrtO.lexB_no.mp h1
  have b := SrtO.lexB_no.mp h2
  refine SrtO.lexB_no.mpr ?_
  omega
theorem lexB_anti {x y : Int × Int} (h1 : SrtO.lexB y x = false) (h2 : SrtO.lexB x y = false) : x = y := by
  have a := SrtO.lexB_no.mp h1
  have b := SrtO.lexB_no.mp h2
  refine Prod.ext ?_ ?_ <;> omega
theorem insP_sorted (x : Int × Int) : ∀ l : List (Int × Int), l.Pairwise (fun a b => SrtO.lexB b a = false) → (insP x l).Pairwise (fun a b => SrtO.lexB b a = false)
  | [], _ => by simp [insP]
  | y :: r, h => by
    have h' := List.pairwise_cons.mp h
    unfold insP
    split
    · rename_i hxy
      refine List.pairwise_cons.mpr ⟨fun z hz => ?_, h⟩
      rcases List.mem_cons.mp hz with rfl | hz
      · exact hxy
      · exact lexB_tr hxy (h'.1 z hz)
    · rename_i hxy
      refine List.pairwise_cons.mpr ⟨fun z hz => ?_, insP_sorted x r h'.2⟩
      rcases List.mem_cons.mp ((insP_perm x r).mem_iff.mp hz) with rfl | hz
      · refine SrtO.lexB_no.mpr ?_
        have := SrtO.lexB_iff.mp (by simpa using hxy)
        omega
      · exact h'.1 z hz
theorem srtP_sorted : ∀ l : List (Int × Int), (srtP l).Pairwise (fun a b => SrtO.lexB b a = false)
  | [] => .nil
  | x :: r => insP_sorted x _ (srtP_sorted r)
theorem sortedP_uniq : ∀ {a b : List (Int × Int)}, a.Perm b → a.Pairwise (fun a b => SrtO.lexB b a = false) → b.Pairwise (fun a b => SrtO.lexB b a = false) → a = b
  | [], b, h, _, _ => (List.nil_perm.mp h).symm
  | x :: a, [], h, _, _ => absurd h.length_eq (by simp)
  | x :: a, y :: b, h, ha, hb => by
    have ha' := List.pairwise_cons.mp ha
    have hb' := List.pairwise_cons.mp hb
    have h1 : x = y := by
      have m1 : x ∈ y :: b := h.mem_iff.mp (by simp)
      have m2 : y ∈ x :: a := h.mem_iff.mpr (by simp)
      rcases List.mem_cons.mp m1 with e | m1
      · exact e
      · rcases List.mem_cons.mp m2 with e | m2
        · exact e.symm
        · exact lexB_anti (ha'.1 y m2) (hb'.1 x m1)
    subst h1
    rw [sortedP_uniq (List.Perm.cons_inv h) ha'.2 hb'.2]
theorem srtP_congr {a b : List (Int × Int)} (h : a.Perm b) : srtP a = srtP b := sortedP_uniq ((srtP_perm a).trans (h.trans (srtP_perm b).symm)) (srtP_sorted a) (srtP_sorted b)
def srtPN (fa : DEnv → Option D) : DEnv → Option OC := fun env => match fa env with
  | some (.lst ds) => (match prsOf ds with
    | some ps => some (.l ((srtP ps).map pr))
    | none => none)
  | _ => none
/-- the pair that stands at a value -/
def keyV (F : Hp) : V → Int × Int
  | .ref t => (match F t with
    | some (.tup [.int a, .int b]) => (a, b)
    | _ => (0, 0))
  | _ => (0, 0)
theorem keyV_at {K : PySem.W.Frag} {F : Hp} {x : V} {p : Int × Int} (h : Dt K F x (pr p)) : keyV F x = p ∧ ∃ t, x = .ref t ∧ F t = some (.tup [.int p.1, .int p.2]) := by
  obtain ⟨t, ws, rfl, ht, hw⟩ := h.inv_tup
  obtain ⟨x1, r1, rfl, h1, hr⟩ := hw.inv_cons
  obtain ⟨x2, r2, rfl, h2, hr2⟩ := hr.inv_cons
  cases hr2.inv_nil
  cases h1.inv_int
  cases h2.inv_int
  exact ⟨by simp [keyV, ht], t, rfl, ht⟩
theorem keys_of {K : PySem.W.Frag} {F : Hp} : ∀ {ps : List (Int × Int)} {vs : List V}, DtA K F vs (ps.map pr) → vs.map (keyV F) = ps
  | [], vs, h => by cases h.inv_nil; rfl
  | p :: ps, vs, h => by
    obtain ⟨x, r, rfl, hx, hr⟩ := h.inv_cons
    rw [List.map_cons, (keyV_at hx).1, keys_of hr]
section
variable {X : Cx} {R : RX} {e a b : Expr} {es : List Expr} {fa fb : DEnv → Option D} {fs : DEnv → Option (List D)} {x : Str} {p pos : Pos}
theorem dn_sortedP (hg : Gl X "sorted") (hm : X.mg "sorted" = none) (ha : PE X e (dE X.K fa)) (hs : starEach [e] X.env = (false, eval e X.env) :: starEach [] X.env := by rfl)
    (hpl : (backTo pos (starEach [] X.env)).any (·.1) = false := by rfl) : PE X (.Call (.Name "sorted" p) [e] [] pos) (dN X.K (srtPN fa)) := by
  refine PE.imp (pe_callB cr_sortedPO hg hm (by decide +kernel) (pa_cons ha pa_nil hs) (by decide) (by decide) hs hpl) ?_
  rintro σ H Q ⟨H0, F0, F, env, c, rl, hf, q⟩
  unfold srtPN at hf
  split at hf
  · rename_i ds h1
    split at hf
    · rename_i ps hn
      cases hf
      refine ⟨H0, F0, F, env, _, rl, h1, fun v H1 F1 g1 hv => ?_⟩
      obtain ⟨a, vs, rfl, e, r⟩ := hv.inv_lst
      rw [prsOf_map hn] at r
      have at_ : ∀ x ∈ vs, ∃ q : Int × Int, Dt X.K F1 x (pr q) := fun x hx => by
        obtain ⟨i, hi⟩ := List.getElem?_of_mem hx
        have hl := r.len
        have hlt : i < vs.length := by
          rcases Nat.lt_or_ge i vs.length with h | h
          · exact h
          · rw [List.getElem?_eq_none h] at hi; cases hi
        have hi2 : i < ps.length := by rw [hl] at hlt; simpa using hlt
        exact ⟨ps[i], r.at_ i x _ hi (by simp [List.getElem?_map, List.getElem?_eq_getElem hi2])⟩
      refine ⟨a, vs, keyV F1, rfl, .inl (.inl (g1.fh _ _ e)), fun x hx => ?_, fun ys l hso hst hl => ?_⟩
      · obtain ⟨q, hq⟩ := at_ x hx
        obtain ⟨k1, t, rfl, ht⟩ := keyV_at hq
        exact ⟨t, rfl, by rw [k1]; exact g1.fh _ _ ht⟩
      · have e1 := keys_of r
        have hp : (ys.map (keyV F1)).Perm (srtP ps) := ((hst.perm.map _).trans (by rw [e1])).trans (srtP_perm ps).symm
        have hs1 : (ys.map (keyV F1)).Pairwise (fun a b => SrtO.lexB b a = false) := List.pairwise_map.mpr hso
        have e2 := sortedP_uniq hp hs1 (srtP_sorted ps)
        refine q l _ _ F1 (g1.trans (Grow.newM g1.fh hl)) (none_of_ex g1.h hl) upd_same (none_of_ex g1.fh hl) (.l ?_)
        rw [← e2]
        refine ⟨by simp, fun i x d hx hd => ?_⟩
        have hm : x ∈ vs := hst.perm.mem_iff.mp (List.mem_of_getElem? hx)
        obtain ⟨z, hz⟩ := at_ x hm
        rw [List.getElem?_map, List.getElem?_map, hx] at hd
        cases hd
        rw [(keyV_at hz).1]
        exact hz
    · cases hf
  · cases hf
/-! ### f(..): a new dict of one's own -/
open Classical in
noncomputable def opCNd (sf : List D → Option Res) (fs : DEnv → Option (List D)) : DEnv → Option OC := fun env => match fs env with
  | some ds => if NoInts ds then (match sf ds with
    | some (.ok (.dct kvs)) => some (.d kvs)
    | _ => none) else none
  | none => none
theorem opCNd_dct {sf : List D → Option Res} {fs : DEnv → Option (List D)} {env : DEnv} {ds : List D} {kvs : List (Int × Int)} (h : fs env = some ds) (no : NoInts ds) (hs : sf ds = some (.ok (.dct kvs))) : opCNd sf fs env = some (.d kvs) := by
  unfold opCNd
  simp only [h, if_pos no, hs]
theorem dn_callCd {j k n : Nat} {sf : List D → Option Res} (c : Cl X.prog X.w X.K X.mg X.base x k n sf) (hr : Room j X.A) (hk : k ≤ j) (hg : Gl X x) (ha : PA X (e :: es) (dA X.K fs)) (hl : AL fs n) (hdb : (x == ("__debug__" : Str)) = false := by decide)
    (he : starEach (e :: es) X.env = (false, eval e X.env) :: starEach es X.env := by rfl) (hpl : (backTo pos (starEach es X.env)).any (·.1) = false := by rfl) : PE X (.Call (.Name x p) (e :: es) [] pos) (dN X.K (opCNd sf fs)) := by
  obtain ⟨f, fd, ps, G, hm, hkp, hb⟩ := c
  refine ⟨fun pins s σ H Q I h => ?_⟩
  obtain ⟨H0, F0, F, env, c, r, hf, q⟩ := h
  unfold opCNd at hf
  split at hf
  · rename_i ds hds
    split at hf
    · rename_i no
      split at hf
      · rename_i kvs hs
        cases hf
        refine thn ((pe_call (E := fun _ _ _ => False) G (hr.mono hk) hg hm hkp hb .nil passF ha hdb he hpl).run pins s σ H (fun v H' => ∃ p, v = .ref p ∧ H p = none ∧ ∃ H2 : Hp, (H2 = H' ∨ ∃ o u, H' p = some (.frz o u) ∧ H2 = upd H' p u) ∧ Q v H2) I ?_) ?_
        · refine ⟨H0, F0, F, env, ds, r, hds, fun vs H1 F1 g1 hv => ?_⟩
          refine ⟨by simp [hv.len, hl env ds hds], cutF F1 vs ds, ds, _, (cutF_ex F1 vs ds).trans g1.fh, by simpa using dta_cut hv, hs, fun v H' F' g hd => ?_⟩
          obtain ⟨p, rfl, hp⟩ := inv_dctV hd
          have hn : H1 p = none := by
            rcases hp with hp | ⟨o, hp⟩
            · exact call_new hv no g hp (.inr ⟨_, rfl⟩)
            · refine Classical.byContradiction fun hn => ?_
              have h1 := g.fr p hn
              rw [hp] at h1
              have h1' := h1.symm
              unfold cutF at h1'
              split at h1'
              · rename_i hx
                obtain ⟨e, i, x, d, hx, hd, n⟩ := hx
                obtain ⟨k1, k2⟩ := node_dt n (hv.at_ i x d hx hd)
                have pl := no d (List.mem_of_getElem? hd) e k2
                cases k1 with
                | @lst _ xs es q1 q2 q3 => rw [q1] at h1'; cases h1'
                | @tup _ xs es q1 q2 q3 => rw [q1] at h1'; cases h1'
                | scr q1 => exact pl
                | dct q1 => exact pl
                | dcl q1 => exact pl
              · cases h1'
          have hHn := none_of_ex g1.h hn
          refine ⟨p, rfl, hHn, ?_⟩
          have gg := g1.trans ⟨g.h, Ex.refl _, fun a u ha => g.h a u (g1.fh a u ha), fun _ _ => rfl⟩
          have hFn : F1 p = none := none_of_ex g1.fh hn
          rcases hp with hp | ⟨o, hp⟩
          · exact ⟨_, .inl rfl, q p _ H' F1 gg hHn (g.fh p _ hp) hFn (.d kvs)⟩
          · have hp' := g.fh p _ hp
            refine ⟨_, .inr ⟨o, _, hp', rfl⟩, q p _ _ F1 ⟨fun a u ha => ?_, gg.f, fun a u ha => ?_, gg.fr⟩ hHn upd_same hFn (.d kvs)⟩
            · rw [upd_ne (fun z => by subst z; rw [hHn] at ha; cases ha)]; exact gg.h a u ha
            · rw [upd_ne (fun z => by subst z; rw [hFn] at ha; cases ha)]; exact gg.fh a u ha
        · rintro u s1 ⟨v, H1, I1, rv, p, rfl, hpn, H2, h2, hq⟩
          rcases h2 with rfl | ⟨o, w, hp, rfl⟩
          · exact ⟨_, _, I1, rv, hq⟩
          · exact ⟨_, _, I1.unlock hp (fun o' u' z => by have := I.base.frzs p o' u' z; rw [hpn] at this; cases this), rv, hq⟩
      · cases hf
    · cases hf
  · cases hf
/-! ### an expression that only raises -/
def dXo (K : PySem.W.Frag) (R : RX) (f : DEnv → Option Res) (σ : L2.St) (H : Hp) : Prop := ∃ H0 F0 F env c, Rel K H0 F0 F env σ H ∧ f env = some (.ex c) ∧ ∀ H' F', Grow H F H' F' → R c σ H'
theorem dXo_of {f : DEnv → Option Res} (h : PE X e (dX X.K R f)) : PE X e (fun σ H _ => dXo X.K R f σ H) := PE.imp h (by
  rintro σ H Q ⟨H0, F0, F, env, c, r, hf, q⟩
  exact ⟨H0, F0, F, env, _, r, hf, q⟩)
/-- ahead of it something is told -/
def thenX (fa : DEnv → Option D) (f : DEnv → Option Res) : DEnv → Option Res := fun env => match fa env with
  | some _ => f env
  | none => none
theorem xo_op {op : Operator} {r : R2} {f : DEnv → Option Res} (ho : OpR X (binaryOp op) r) (ha : PE X a (dE X.K fa)) (hb : PE X b (fun σ H _ => dXo X.K R f σ H)) : PE X (.BinOp a op b pos) (fun σ H _ => dXo X.K R (thenX fa f) σ H) := by
  refine PE.imp (pe_op ho ha hb) ?_
  rintro σ H Q ⟨H0, F0, F, env, c, r, hf, q⟩
  unfold thenX at hf
  split at hf
  · rename_i d hd
    exact ⟨H0, F0, F, env, d, r, hd, fun v H1 F1 g1 hv => ⟨H0, F0, F1, env, c, r.grow g1, hf, fun H' F' g => q H' F' (g1.trans g)⟩⟩
  · cases hf
theorem xi_list {tg : Expr} {f : DEnv → Option Res} (h : PE X e (fun σ H _ => dXo X.K R f σ H)) : PI X tg e (fun σ H _ => dXo X.K R f σ H) := PI.imp (pi_list h) fun _ _ _ z => z
theorem xo_lc {elt tg iter : Expr} {ifs : List Expr} {scope : Scope} {own : List (Str × Nat)} {f : DEnv → Option Res} {gf : D → DEnv → Option DEnv} {T : DEnv → Option Bool} {E : DEnv → Option D} {ws : List Nat} (hc : X.calm = true) (hN : X.N.Nodup) (hi : PI X tg iter (fun σ H _ => dXo X.K R f σ H)) (ok : BlkOk X.N X.env.scope scope own) (hws : own.map (·.2) = ws)
    (hg : ∀ (s : Shared) (H : Hp) (C : Addr) (cl : List (Str × Addr)) (fp : List Addr), PG (X.blk s H scope (compEnvC scope cl C X.env) fp) tg (dG X.K ws gf)) (ht : ∀ (s : Shared) (H : Hp) (C : Addr) (cl : List (Str × Addr)) (fp : List Addr), PTs (X.blk s H scope (compEnvC scope cl C X.env) fp) ifs (dT X.K T))
    (he : ∀ (s : Shared) (H : Hp) (C : Addr) (cl : List (Str × Addr)) (fp : List Addr), PE (X.blk s H scope (compEnvC scope cl C X.env) fp) elt (dE X.K E)) (hs : ∀ x, foldedSetIterable iter X.env x = pure x := by intro _; rfl) :
    PE X (.ListComp elt [⟨tg, iter, ifs, 0⟩] scope pos) (fun σ H _ => dXo X.K R f σ H) := PE.imp (pe_lc hc hN hi ok hg ht he hs) fun _ _ _ z => z
theorem xo_call1 {id : String} {rc : List V → Hp → VK → Prop} {f : DEnv → Option Res} (hc : CallR X (.builtin id) rc) (hg : Gl X x) (hm : X.mg x = none) (hv : bootBuiltins x = some (.builtin id)) (ha : PE X e (fun σ H _ => dXo X.K R f σ H)) (hn : x ≠ "__name__" := by decide) (hdb : (x == ("__debug__" : Str)) = false := by decide)
    (he : starEach [e] X.env = (false, eval e X.env) :: starEach [] X.env := by rfl) (hpl : (backTo pos (starEach [] X.env)).any (·.1) = false := by rfl) : PE X (.Call (.Name x p) [e] [] pos) (fun σ H _ => dXo X.K R f σ H) := PE.imp (pe_callB hc hg hm hv (pa_cons ha pa_nil he) hn hdb he hpl) fun _ _ _ z => z
def exOr (fx : DEnv → Option Res) (b : DEnv → Option Out) : DEnv → Option Out := fun env => match fx env with
  | some (.ex c) => some (.ex c env)
  | _ => b env
theorem ds_exOr {fx : DEnv → Option Res} {B : DEnv → Option Out} (h1 : PE X e (fun σ H _ => dXo X.K R fx σ H)) (h2 : PS X (.Return (some e) pos) (dS X.K R B)) : PS X (.Return (some e) pos) (dS X.K R (exOr fx B)) := by
  refine ⟨fun pins s σ H D I h => ?_⟩
  obtain ⟨H0, F0, F, env, o, r, hf, q⟩ := h
  unfold exOr at hf
  split at hf
  · rename_i c hc
    cases hf
    exact (ps_ret h1).run pins s σ H D I ⟨H0, F0, F, env, c, r, hc, fun H' F' g => q F' σ H' (r.grow g)⟩
  · exact h2.run pins s σ H D I ⟨H0, F0, F, env, o, r, hf, q⟩
end
end DL

namespace LH
open PySem PySem.Spec PyProof.Rows L2 Evl DL

noncomputable section
def b_law_asked (sf_step_of sf_waits sf_chain sf_rank_of sf_lenders sf_rest_of : List D → Option Res) : DEnv → Option Out := (seqS (ifS (tstB (op2 eqG (getV 2) (cst (.int 0)))) (drpX (opX sf_step_of (consA (getV 0) (consA (getV 1) (cst0 []))))) nxS) (seqS (ifS (tstB (op2 eqG (getV 2) (cst (.int 1)))) (drpX (opX sf_waits (consA (getV 0) (consA (getV 1) (cst0 []))))) nxS) (seqS (ifS (tstB (op2 eqG (getV 2) (cst (.int 2)))) (drpX (opX sf_chain (consA (getV 0) (consA (getV 1) (cst0 []))))) nxS) (seqS (ifS (tstB (op2 eqG (getV 2) (cst (.int 3)))) (drpX (opX sf_rank_of (consA (getV 0) (consA (getV 1) (cst0 []))))) nxS) (seqS (ifS (tstB (op2 eqG (getV 2) (cst (.int 4)))) (drpX (opX sf_lenders (consA (getV 0) (consA (getV 1) (cst0 []))))) nxS) (ifS (tstB (op2 eqG (getV 2) (cst (.int 5)))) (drpX (opX sf_rest_of (consA (getV 0) (consA (getV 1) (cst0 []))))) nxS))))))
def b_law_refused_t0 (sf_law_asked : List D → Option Res) : DEnv → Option Out := (drpX (opX sf_law_asked (consA (getV 0) (consA (getV 1) (consA (getV 2) (cst0 []))))))
def Sf_law_refused0 (a : Addr) (c : Str) : DEnv → Option Out := (retS (isE 4 a (subN c "NoWorker")))
def Sr_law_refused0 : Str → DEnv → Option D := fun c e => if 4 < e.length then some (.bl (subN c "NoWorker")) else none
def Sr_law_refused1 : Str → DEnv → Option D := fun c e => if 4 < e.length then some (.bl true) else none
def b_law_refused_t2 (sf_law_asked : List D → Option Res) : DEnv → Option Out := (drpX (opX sf_law_asked (consA (getV 0) (consA (getV 1) (consA (getV 2) (cst0 []))))))
def Sf_law_refused1 (a : Addr) (c : Str) : DEnv → Option Out := (retS (isE 4 a true))
def b_law_refused (sf_law_asked : List D → Option Res) : DEnv → Option Out := (seqS (ifS (tstB (op2 eqG (getV 3) (cst (.int 0)))) (seqS (tryAs ["NoWorker"] (b_law_refused_t0 sf_law_asked) "HasteError" Sr_law_refused0) (retS (cst (.bl false)))) nxS) (seqS (tryAs ["NoWorker"] (b_law_refused_t2 sf_law_asked) "NoWorker" Sr_law_refused1) (retS (cst (.bl false)))))
def b_law_held_f0 (sf_law_tools : List D → Option Res) : DEnv → Option Out := (dputS 1 (getV 3) (getV 2))
def b_law_held_f1 (sf_law_tools : List D → Option Res) : DEnv → Option Out := (forS (itL (opC (okD sf_law_tools) (consA (op2 ixG (op2 ixG (op2 ixG (getV 0) (cst (.int 0))) (getV 2)) (cst (.int 2))) (consA (op2 ixG (op2 ixG (op2 ixG (getV 0) (cst (.int 2))) (getV 2)) (cst (.int 0))) (cst0 []))))) (setG 3) (b_law_held_f0 sf_law_tools))
def b_law_held (sf_law_tools : List D → Option Res) : DEnv → Option Out := (seqS (ownS 1 dicN) (seqS (forS (rng1 (consA (opC lenG (consA (op2 ixG (getV 0) (cst (.int 0))) (cst0 []))) (cst0 []))) (setG 2) (b_law_held_f1 sf_law_tools)) (frzS 1 (retS (ocE (srtPN (ocE (lockN 1 (lcF (keysF 1) (setG 3) (cst0 true) (opC mkT (consA (getV 3) (consA (op2 dgG (getV 1) (getV 3)) (cst0 [])))) [3])))))))))
def b_law_f0 (sf_law_shop sf_law_there sf_law_held sf_there sf_held sf_law_alike sf_step_of sf_law_cell_at sf_law_mixed sf_law_refused : List D → Option Res) : DEnv → Option Out := (seqS (putS 11 (cst .non)) (seqS (ifS (tstB (op2 ltG (op2 ixG (op2 ixG (op2 ixG (getV 1) (cst (.int 2))) (getV 7)) (cst (.int 0))) (opC lenG (consA (op2 ixG (op2 ixG (op2 ixG (getV 1) (cst (.int 0))) (getV 7)) (cst (.int 2))) (cst0 []))))) (putS 11 (op2 ixG (op2 ixG (op2 ixG (op2 ixG (getV 1) (cst (.int 0))) (getV 7)) (cst (.int 2))) (op2 ixG (op2 ixG (op2 ixG (getV 1) (cst (.int 2))) (getV 7)) (cst (.int 0))))) nxS) (ifS (notT (tru (opC (okD sf_law_alike) (consA (opC (okD sf_step_of) (consA (getV 1) (consA (getV 7) (cst0 [])))) (consA (getV 11) (cst0 [])))))) (retS (cst (.bl false))) nxS)))
def b_law_f1 (sf_law_shop sf_law_there sf_law_held sf_there sf_held sf_law_alike sf_step_of sf_law_cell_at sf_law_mixed sf_law_refused : List D → Option Res) : DEnv → Option Out := (ifS (notT (tru (opC (okD sf_law_refused) (consA (getV 1) (consA (getV 9) (consA (getV 10) (consA (op2 modG (op2 divG (getV 8) (cst (.int 8))) (cst (.int 2))) (cst0 [])))))))) (retS (cst (.bl false))) nxS)
def b_law (sf_law_shop sf_law_there sf_law_held sf_there sf_held sf_law_alike sf_step_of sf_law_cell_at sf_law_mixed sf_law_refused : List D → Option Res) : DEnv → Option Out := (seqS (putS 1 (opC (okD sf_law_shop) (consA (getV 0) (consA (cst (.int 20)) (cst0 []))))) (seqS (putS 2 (opC lenG (consA (op2 ixG (getV 1) (cst (.int 0))) (cst0 [])))) (seqS (ownS 3 (lcF (rng1 (consA (getV 2) (cst0 []))) (setG 7) (tru (opC (okD sf_law_there) (consA (getV 1) (consA (getV 7) (cst0 []))))) (getV 7) [7])) (frzS 3 (seqS (putS 4 (opC (okD sf_law_held) (consA (getV 1) (cst0 [])))) (seqS (newApp (opCN sf_there (consA (getV 1) (cst0 []))) (cst (.int 9))) (seqS (ownS 5 (opCNd sf_held (consA (getV 1) (cst0 [])))) (seqS (ifS (notT (borT 5 (tru (isiF .dict (getV 5))))) (retS (cst (.bl false))) nxS) (seqS (ifS (notT (borT 5 (tru (opC (okD sf_law_alike) (consA (ocE (srtPN (ocE (lockN 5 (lcF (keysF 5) (setG 12) (cst0 true) (opC mkT (consA (getV 12) (consA (op2 dgG (getV 5) (getV 12)) (cst0 [])))) [12]))))) (consA (getV 4) (cst0 []))))))) (retS (cst (.bl false))) nxS) (seqS (dputS 5 (cst (.int 77)) (cst (.int 5))) (seqS (putS 6 (opC (okD sf_held) (consA (getV 1) (cst0 [])))) (seqS (ifS (orT (notT (tru (opC (okD sf_law_alike) (consA (opC (okD sf_there) (consA (getV 1) (cst0 []))) (consA (getV 3) (cst0 [])))))) (tstB (op2 neG (ocE (srtPN (ocE (lockN 6 (lcF (keysF 6) (setG 12) (cst0 true) (opC mkT (consA (getV 12) (consA (op2 dgG (getV 6) (getV 12)) (cst0 [])))) [12]))))) (getV 4)))) (retS (cst (.bl false))) nxS) (seqS (forS (rng1 (consA (getV 2) (cst0 []))) (setG 7) (b_law_f0 sf_law_shop sf_law_there sf_law_held sf_there sf_held sf_law_alike sf_step_of sf_law_cell_at sf_law_mixed sf_law_refused)) (seqS (putS 8 (opC (okD sf_law_mixed) (consA (opC (okD sf_law_cell_at) (consA (getV 0) (consA (cst (.int 28)) (cst0 [])))) (consA (cst (.int 7)) (cst0 []))))) (seqS (putS 9 (op2 ixG (opC mkL (consA (op1 negG (cst (.int 1))) (consA (getV 2) (consA (op2 addG (getV 2) (getV 8)) (consA (op2 subG (op1 negG (cst (.int 1))) (getV 8)) (consA (cst (.bl true)) (consA (cst (.bl false)) (consA (cst .non) (consA (cst (.str "0")) (cst0 [])))))))))) (op2 modG (getV 8) (cst (.int 8))))) (seqS (forS (rng1 (consA (cst (.int 6)) (cst0 []))) (setG 10) (b_law_f1 sf_law_shop sf_law_there sf_law_held sf_there sf_held sf_law_alike sf_step_of sf_law_cell_at sf_law_mixed sf_law_refused)) (retS (opC (okD sf_law_alike) (consA (getV 1) (consA (opC (okD sf_law_shop) (consA (getV 0) (consA (cst (.int 20)) (cst0 [])))) (cst0 [])))))))))))))))))))))
def b_rank_ofX (sf_lenders sf_own_rank : List D → Option Res) : DEnv → Option Out := exOr (thenX (opC mkL (consA (getV 1) (cst0 []))) (opX sf_lenders (consA (getV 0) (consA (getV 1) (cst0 []))))) (b_rank_of sf_lenders sf_own_rank)
end
end LH

namespace LH
open PySem PySem.Spec PyProof.Rows L2 Evl DL
/-! ### pairs -/
theorem findD_mem : ∀ (kvs : List (Int × Int)) (p : Int × Int), p ∈ kvs → ∃ v, findD kvs p.1 = some v
  | [], p, h => by cases h
  | q :: r, p, h => by
    by_cases e : q.1 = p.1
    · exact ⟨q.2, by simp [findD, e]⟩
    · rcases List.mem_cons.mp h with rfl | h
      · exact absurd rfl e
      · obtain ⟨v, hv⟩ := findD_mem r p h
        refine ⟨v, ?_⟩
        unfold findD at hv ⊢
        rw [List.find?_cons]
        simp only [e, decide_false]
        exact hv
def pairsK (kvs : List (Int × Int)) : List (Int × Int) := kvs.map fun p => (p.1, (findD kvs p.1).getD 0)
theorem lay_prs : ∀ ps : List (Int × Int), PyData.canLayAll0 (toPyL (ps.map pr)) = true ∧ PyData.depthAll (toPyL (ps.map pr)) ≤ 2
  | [] => ⟨rfl, by simp [toPyL, PyData.depthAll]⟩
  | p :: ps => by
    obtain ⟨h1, h2⟩ := lay_prs ps
    refine ⟨by simp [toPyL, toPy, pr, PyData.canLayAll0, PyData.canLay0, h1], ?_⟩
    simp only [List.map_cons, toPyL, toPy, pr, PyData.depthAll, PyData.depth]
    simp
    omega
theorem eqOk_prs (ps : List (Int × Int)) : eqOk (.lst (ps.map pr)) = true := by
  obtain ⟨h1, h2⟩ := lay_prs ps
  simp [eqOk, SeqAt.shaped, toPy, PyData.canLay0, PyData.depth, h1]
  omega
theorem eqv_prs : ∀ ps : List (Int × Int), PyData.eqvAll (toPyL (ps.map pr)) (toPyL (ps.map pr)) = true
  | [] => rfl
  | p :: ps => by
    have ih := eqv_prs ps
    simp [toPyL, toPy, pr, PyData.eqvAll, PyData.eqv, ih]
theorem neG_prs (ps : List (Int × Int)) : neG (.lst (ps.map pr)) (.lst (ps.map pr)) = some (.bl false) := by
  simp only [neG, eqG, eqOk_prs, Bool.and_self, if_true, toPy, PyData.eqv, eqv_prs]
  rfl
theorem plain_prs {ps : List (Int × Int)} (h : ps.length ≤ 1000) : plainN 3 (.lst (ps.map pr)) := ⟨by simpa using h, fun x hx => by
  obtain ⟨w, _, rfl⟩ := List.mem_map.mp hx
  exact ⟨by simp, fun y hy => by simp at hy; rcases hy with rfl | rfl <;> trivial⟩⟩
theorem heldK_len {s : Shp} (g : GoodShp s) : ∀ (js : List Nat) (kvs : List (Int × Int)), (∀ j ∈ js, j < s.ws.length) → (heldK s js kvs).length ≤ kvs.length + 10 * js.length
  | [], kvs, _ => by simp [heldK]
  | j :: js, kvs, h => by
    obtain ⟨_, _, gw, sp⟩ := g.at_ (h j (by simp))
    have ht := toolsAt_ok gw.plan (spotAt s j).1
    have h10 := pigeonT _ ht.nodup ht.num
    have hp := putAll_len (j : Int) (toolsAt (wAt s j).plan (spotAt s j).1) kvs
    have ih := heldK_len g js (putAll (j : Int) (toolsAt (wAt s j).plan (spotAt s j).1) kvs) fun i hi => h i (by simp [hi])
    simp only [heldK, List.length_cons]
    omega
theorem heldM_len {s : Shp} (g : GoodShp s) : (heldM s).length ≤ 80 := by
  have := heldK_len g (List.range s.ws.length) [] fun j hj => by simpa using hj
  have h8 := g.ws.most
  unfold heldM
  simp at this
  omega
theorem srtP_len (l : List (Int × Int)) : (srtP l).length = l.length := (srtP_perm l).length_eq
def heldL (s : Shp) : List D := (srtP (pairsK (heldM s))).map pr
theorem heldL_plain {s : Shp} (g : GoodShp s) : plainN 3 (.lst (heldL s)) := plain_prs (by
  have := heldM_len g
  rw [srtP_len]
  simp [pairsK]
  omega)
/-- what a walk over the dict makes -/
theorem walk_dict (kvs : List (Int × Int)) (i j : Nat) (w : DEnv) (hij : i ≠ j) (hi : w[i]? = some (.val (.dcl kvs))) (hj : j < w.length) : lcL (setG j) (cst0 true) (opC mkT (consA (getV j) (consA (op2 dgG (getV i) (getV j)) (cst0 [])))) w (kvs.map fun p => D.int p.1) = some ((pairsK kvs).map pr) := by
  have e := lcL_map (gf := setG j) (T := cst0 true) (E := opC mkT (consA (getV j) (consA (op2 dgG (getV i) (getV j)) (cst0 [])))) (w := w) (fun p : Int × Int => D.int p.1) (fun p : Int × Int => pr (p.1, (findD kvs p.1).getD 0)) (fun _ => true) kvs fun p hp => by
    obtain ⟨v, hv⟩ := findD_mem kvs p hp
    refine ⟨w.set j (.val (.int p.1)), by simp [setG], rfl, fun _ => ?_⟩
    have h1 : (w.set j (.val (.int p.1)))[j]? = some (.val (.int p.1)) := by simp [List.getElem?_set, hj]
    have h2 : (w.set j (.val (.int p.1)))[i]? = some (.val (.dcl kvs)) := by rw [List.getElem?_set_ne (fun z => hij z.symm)]; exact hi
    simp [opC, consA, getV, op2, h1, h2, dgG, hv, mkT, pr, cst0]
  rw [e]
  have hf : kvs.filter (fun _ => true) = kvs := List.filter_eq_self.mpr fun _ _ => rfl
  rw [hf]
  simp [pairsK, Function.comp_def]
theorem pairsK_flat (kvs : List (Int × Int)) : ((pairsK kvs).map pr).all flat2 = true := by
  rw [List.all_eq_true]
  intro z hz
  obtain ⟨w, _, rfl⟩ := List.mem_map.mp hz
  simp [flat2, pr, flatD]
theorem sorted_walk (kvs : List (Int × Int)) (i j : Nat) (env : DEnv) (hij : i ≠ j) (hi : env[i]? = some (.val (.dct kvs))) (hj : j < env.length) (hl : kvs.length ≤ 90000) : srtPN (ocE (lockN i (lcF (keysF i) (setG j) (cst0 true) (opC mkT (consA (getV j) (consA (op2 dgG (getV i) (getV j)) (cst0 [])))) [j]))) env = some (.l ((srtP (pairsK kvs)).map pr)) := by
  have hit : i < env.length := by
    rcases Nat.lt_or_ge i env.length with h | h
    · exact h
    · rw [List.getElem?_eq_none h] at hi; cases hi
  have e := walk_dict kvs i j (wipeE (env.set i (.val (.dcl kvs))) [j]) hij (by
    show ((env.set i _).set j _)[i]? = _
    rw [List.getElem?_set_ne (fun z => hij z.symm)]
    simp [List.getElem?_set, hit]) (by rw [wipeE_length]; simpa using hj)
  have hk : keysF i (env.set i (.val (.dcl kvs))) = some (kvs.map fun p => D.int p.1) := by simp [keysF, List.getElem?_set, hit]
  have h1 : lcF (keysF i) (setG j) (cst0 true) (opC mkT (consA (getV j) (consA (op2 dgG (getV i) (getV j)) (cst0 [])))) [j] (env.set i (.val (.dcl kvs))) = some (.l ((pairsK kvs).map pr)) := by
    simp only [lcF, hk, e]
    simp [hl]
  have h2 := pairsK_flat kvs
  have h3 := prsOf_pr (pairsK kvs)
  generalize (pairsK kvs).map pr = L at *
  simp [ocE, srtPN, lockN, hi, h1, h2, ocD, h3]
theorem held2_inner (a0 : Sl) (k : Int) : ∀ (ts : List Int) (kvs : List (Int × Int)) (s3 : Sl), kvs.length + ts.length ≤ 1000 → ∃ t3, forL (setG 3) (b_law_held_f0 sf_law_tools) (ts.map .int) [a0, .own none (.d kvs), .val (.int k), s3] = some (.nx [a0, .own none (.d (putAll k ts kvs)), .val (.int k), t3])
  | [], kvs, s3, _ => ⟨s3, rfl⟩
  | t :: ts, kvs, s3, h => by
    have h2 := putD_len kvs t k
    simp only [List.length_cons] at h
    obtain ⟨t3, e⟩ := held2_inner a0 k ts (putD kvs t k) (.val (.int t)) (by omega)
    have hl : kvs.length ≤ 90000 := by omega
    refine ⟨t3, (forL_nx rfl ?_).trans e⟩
    simp [b_law_held_f0, startE, seqS, ifS, nxS, retS, retNS, drpS, putS, asgS, setG, getV, op2, op1, opC, consA, cst, cst0, tstB, asB, tru, truD, orT, andT, notT, andE, orE, ifE, chn, isiF, isTy, eqG_ii, eqG_ss, eqG_bb, neG_ii, neG_ss, neG_bb, isNG, notNG, notG, negG, ixG, ixO, lenG, intG, max2G, min2G, mkT, mkL, okD, opX, drpX, putX, retX, mkF, resO, ownS, ocL, ocE, ocD, frzS, borE, borT, borX, flatD, appS, mE, popM, tup2M, rmvS, setS, tupG, consG, nilG, lstN, lstG, itL, itemsL, atI_0, atI_l1, atI_l2, atI_l3, atI_1, atI_2, atI_3, st_wh, st_wf, st_hw, st_hf, st_fw, st_fh, rng1, rng2, whS, forS, prt, add_ii, sub_ii, mod_ii, div_ii, lt_ii, le_ii, gt_ii, ge_ii, dputS, hl]
theorem held2_outer {s : Shp} (g : GoodShp s) : ∀ (js : List Nat) (kvs : List (Int × Int)) (s2 s3 : Sl), (∀ j ∈ js, j < s.ws.length) → kvs.length + 10 * js.length ≤ 1000 → ∃ t2 t3, forL (setG 2) (b_law_held_f1 sf_law_tools) (natsD js) [.val s.d, .own none (.d kvs), s2, s3] = some (.nx [.val s.d, .own none (.d (heldK s js kvs)), t2, t3])
  | [], kvs, s2, s3, _, _ => ⟨s2, s3, rfl⟩
  | j :: js, kvs, s2, s3, h, hl => by
    have hj := h j (by simp)
    obtain ⟨q1, q2, gw, sp⟩ := g.at_ hj
    have e1 := atI_map Wkr.d q1
    have e2 := atI_map spotD q2
    have ht := toolsAt_ok gw.plan (spotAt s j).1
    have h10 := pigeonT _ ht.nodup ht.num
    have hp := putAll_len (j : Int) (toolsAt (wAt s j).plan (spotAt s j).1) kvs
    simp only [List.length_cons] at hl
    have e3 := tools_eq gw.plan gw.short (spotAt s j).1 sp.place
    obtain ⟨u3, e4⟩ := held2_inner (.val s.d) (j : Int) (toolsAt (wAt s j).plan (spotAt s j).1) kvs s3 (by omega)
    obtain ⟨t2, t3, e5⟩ := held2_outer g js (putAll (j : Int) (toolsAt (wAt s j).plan (spotAt s j).1) kvs) (.val (.int (j : Int))) u3 (fun i hi => h i (by simp [hi])) (by omega)
    refine ⟨t2, t3, (forL_nx rfl ?_).trans e5⟩
    unfold Shp.d at e4 ⊢
    generalize (toolsAt (wAt s j).plan (spotAt s j).1).map D.int = ts at *
    generalize (s.ws.map Wkr.d) = WS at *
    generalize (s.spots.map spotD) = SS at *
    simp [b_law_held_f1, startE, seqS, ifS, nxS, retS, retNS, drpS, putS, asgS, setG, getV, op2, op1, opC, consA, cst, cst0, tstB, asB, tru, truD, orT, andT, notT, andE, orE, ifE, chn, isiF, isTy, eqG_ii, eqG_ss, eqG_bb, neG_ii, neG_ss, neG_bb, isNG, notNG, notG, negG, ixG, ixO, lenG, intG, max2G, min2G, mkT, mkL, okD, opX, drpX, putX, retX, mkF, resO, ownS, ocL, ocE, ocD, frzS, borE, borT, borX, flatD, appS, mE, popM, tup2M, rmvS, setS, tupG, consG, nilG, lstN, lstG, itL, itemsL, atI_0, atI_l1, atI_l2, atI_l3, atI_1, atI_2, atI_3, st_wh, st_wf, st_hw, st_hf, st_fw, st_fh, rng1, rng2, whS, forS, prt, add_ii, sub_ii, mod_ii, div_ii, lt_ii, le_ii, gt_ii, ge_ii, e1, e2, e3, e4, Wkr.d, spotD]
abbrev n_law_held : Nat := 1
def sf_law_held (ds : List D) : Option Res := if ds.length = 1 then resO (b_law_held sf_law_tools (startE ds 4)) else none
theorem m_law_held (ds : List D) (r : Res) (hl : ds.length = n_law_held) (hs : sf_law_held ds = some r) : resO (b_law_held sf_law_tools (startE ds 4)) = some r := by
  unfold sf_law_held at hs
  rwa [if_pos hl] at hs
theorem held2_eq {s : Shp} (g : GoodShp s) : sf_law_held [s.d] = some (.ok (.lst (heldL s))) := by
  have h8 := g.ws.most
  obtain ⟨t2, t3, e⟩ := held2_outer g (List.range s.ws.length) [] .no .no (fun j hj => by simpa using hj) (by simp; omega)
  have hc : ((s.ws.length : Nat) : Int) ≤ 100000 ∧ -100000 ≤ ((s.ws.length : Nat) : Int) := by omega
  have hr := rng_nats s.ws.length
  have e2 := sorted_walk (heldM s) 1 3 [.val s.d, .val (.dct (heldM s)), t2, t3] (by decide) rfl (by simp) (by have := heldM_len g; omega)
  change srtPN _ _ = some (.l (heldL s)) at e2
  unfold heldM at e2
  generalize heldL s = hl at *
  generalize natsD (List.range s.ws.length) = rs at *
  simp [sf_law_held, b_law_held, startE, seqS, ifS, nxS, retS, retNS, drpS, putS, asgS, setG, getV, op2, op1, opC, consA, cst, cst0, tstB, asB, tru, truD, orT, andT, notT, andE, orE, ifE, chn, isiF, isTy, eqG_ii, eqG_ss, eqG_bb, neG_ii, neG_ss, neG_bb, isNG, notNG, notG, negG, ixG, ixO, lenG, intG, max2G, min2G, mkT, mkL, okD, opX, drpX, putX, retX, mkF, resO, ownS, ocL, ocE, ocD, frzS, borE, borT, borX, flatD, appS, mE, popM, tup2M, rmvS, setS, tupG, consG, nilG, lstN, lstG, itL, itemsL, atI_0, atI_l1, atI_l2, atI_l3, atI_1, atI_2, atI_3, st_wh, st_wf, st_hw, st_hf, st_fw, st_fh, rng1, rng2, whS, forS, prt, add_ii, sub_ii, mod_ii, div_ii, lt_ii, le_ii, gt_ii, ge_ii, dicN, hc, hr, e, e2]
/-! ### numbers of none -/
section
variable {s : Shp} {far : D} (bad : isNum far 0 ((s.ws.length : Int) - 1) = false)
include bad
theorem check_bad : sf_check_number [s.d, far] = some (.ex "NoWorker") := by
  simp only [sf_check_number, many_d, bad]
  rfl
theorem step_bad : sf_step_of [s.d, far] = some (.ex "NoWorker") := by
  simp only [sf_step_of, check_bad bad]
theorem waits_bad : sf_waits [s.d, far] = some (.ex "NoWorker") := by
  have e := check_bad bad
  generalize s.d = S at *
  simp [sf_waits, b_waits, startE, seqS, ifS, nxS, retS, retNS, drpS, putS, asgS, setG, getV, op2, op1, opC, consA, cst, cst0, tstB, asB, tru, truD, orT, andT, notT, andE, orE, ifE, chn, isiF, isTy, eqG_ii, eqG_ss, eqG_bb, neG_ii, neG_ss, neG_bb, isNG, notNG, notG, negG, ixG, ixO, lenG, intG, max2G, min2G, mkT, mkL, okD, opX, drpX, putX, retX, mkF, resO, ownS, ocL, ocE, ocD, frzS, borE, borT, borX, flatD, appS, mE, popM, tup2M, rmvS, setS, tupG, consG, nilG, lstN, lstG, itL, itemsL, atI_0, atI_l1, atI_l2, atI_l3, atI_1, atI_2, atI_3, st_wh, st_wf, st_hw, st_hf, st_fw, st_fh, rng1, rng2, whS, forS, prt, add_ii, sub_ii, mod_ii, div_ii, lt_ii, le_ii, gt_ii, ge_ii, e]
theorem chain_bad : sf_chain [s.d, far] = some (.ex "NoWorker") := by
  have e := waits_bad bad
  generalize s.d = S at *
  simp [sf_chain, b_chain, startE, seqS, ifS, nxS, retS, retNS, drpS, putS, asgS, setG, getV, op2, op1, opC, consA, cst, cst0, tstB, asB, tru, truD, orT, andT, notT, andE, orE, ifE, chn, isiF, isTy, eqG_ii, eqG_ss, eqG_bb, neG_ii, neG_ss, neG_bb, isNG, notNG, notG, negG, ixG, ixO, lenG, intG, max2G, min2G, mkT, mkL, okD, opX, drpX, putX, retX, mkF, resO, ownS, ocL, ocE, ocD, frzS, borE, borT, borX, flatD, appS, mE, popM, tup2M, rmvS, setS, tupG, consG, nilG, lstN, lstG, itL, itemsL, atI_0, atI_l1, atI_l2, atI_l3, atI_1, atI_2, atI_3, st_wh, st_wf, st_hw, st_hf, st_fw, st_fh, rng1, rng2, whS, forS, prt, add_ii, sub_ii, mod_ii, div_ii, lt_ii, le_ii, gt_ii, ge_ii, e]
theorem lenders_bad : sf_lenders [s.d, far] = some (.ex "NoWorker") := by
  have e := check_bad bad
  generalize s.d = S at *
  simp [sf_lenders, b_lenders, startE, seqS, ifS, nxS, retS, retNS, drpS, putS, asgS, setG, getV, op2, op1, opC, consA, cst, cst0, tstB, asB, tru, truD, orT, andT, notT, andE, orE, ifE, chn, isiF, isTy, eqG_ii, eqG_ss, eqG_bb, neG_ii, neG_ss, neG_bb, isNG, notNG, notG, negG, ixG, ixO, lenG, intG, max2G, min2G, mkT, mkL, okD, opX, drpX, putX, retX, mkF, resO, ownS, ocL, ocE, ocD, frzS, borE, borT, borX, flatD, appS, mE, popM, tup2M, rmvS, setS, tupG, consG, nilG, lstN, lstG, itL, itemsL, atI_0, atI_l1, atI_l2, atI_l3, atI_1, atI_2, atI_3, st_wh, st_wf, st_hw, st_hf, st_fw, st_fh, rng1, rng2, whS, forS, prt, add_ii, sub_ii, mod_ii, div_ii, lt_ii, le_ii, gt_ii, ge_ii, e]
theorem rest_bad : sf_rest_of [s.d, far] = some (.ex "NoWorker") := by
  have e := check_bad bad
  generalize s.d = S at *
  simp [sf_rest_of, b_rest_of, startE, seqS, ifS, nxS, retS, retNS, drpS, putS, asgS, setG, getV, op2, op1, opC, consA, cst, cst0, tstB, asB, tru, truD, orT, andT, notT, andE, orE, ifE, chn, isiF, isTy, eqG_ii, eqG_ss, eqG_bb, neG_ii, neG_ss, neG_bb, isNG, notNG, notG, negG, ixG, ixO, lenG, intG, max2G, min2G, mkT, mkL, okD, opX, drpX, putX, retX, mkF, resO, ownS, ocL, ocE, ocD, frzS, borE, borT, borX, flatD, appS, mE, popM, tup2M, rmvS, setS, tupG, consG, nilG, lstN, lstG, itL, itemsL, atI_0, atI_l1, atI_l2, atI_l3, atI_1, atI_2, atI_3, st_wh, st_wf, st_hw, st_hf, st_fw, st_fh, rng1, rng2, whS, forS, prt, add_ii, sub_ii, mod_ii, div_ii, lt_ii, le_ii, gt_ii, ge_ii, e]
end
abbrev n_rank_ofX : Nat := 2
def sf_rank_ofX (ds : List D) : Option Res := if ds.length = 2 then resO (b_rank_ofX sf_lenders sf_own_rank (startE ds 3)) else none
theorem m_rank_ofX (ds : List D) (r : Res) (hl : ds.length = n_rank_ofX) (hs : sf_rank_ofX ds = some r) : resO (b_rank_ofX sf_lenders sf_own_rank (startE ds 3)) = some r := by
  unfold sf_rank_ofX at hs
  rwa [if_pos hl] at hs
theorem rank_bad {s : Shp} {far : D} (bad : isNum far 0 ((s.ws.length : Int) - 1) = false) : sf_rank_ofX [s.d, far] = some (.ex "NoWorker") := by
  have e := lenders_bad bad
  generalize s.d = S at *
  simp [sf_rank_ofX, b_rank_ofX, exOr, thenX, startE, seqS, ifS, nxS, retS, retNS, drpS, putS, asgS, setG, getV, op2, op1, opC, consA, cst, cst0, tstB, asB, tru, truD, orT, andT, notT, andE, orE, ifE, chn, isiF, isTy, eqG_ii, eqG_ss, eqG_bb, neG_ii, neG_ss, neG_bb, isNG, notNG, notG, negG, ixG, ixO, lenG, intG, max2G, min2G, mkT, mkL, okD, opX, drpX, putX, retX, mkF, resO, ownS, ocL, ocE, ocD, frzS, borE, borT, borX, flatD, appS, mE, popM, tup2M, rmvS, setS, tupG, consG, nilG, lstN, lstG, itL, itemsL, atI_0, atI_l1, atI_l2, atI_l3, atI_1, atI_2, atI_3, st_wh, st_wf, st_hw, st_hf, st_fw, st_fh, rng1, rng2, whS, forS, prt, add_ii, sub_ii, mod_ii, div_ii, lt_ii, le_ii, gt_ii, ge_ii, e]
abbrev n_law_asked : Nat := 3
def sf_law_asked (ds : List D) : Option Res := if ds.length = 3 then resO (b_law_asked sf_step_of sf_waits sf_chain sf_rank_ofX sf_lenders sf_rest_of (startE ds 3)) else none
theorem m_law_asked (ds : List D) (r : Res) (hl : ds.length = n_law_asked) (hs : sf_law_asked ds = some r) : resO (b_law_asked sf_step_of sf_waits sf_chain sf_rank_ofX sf_lenders sf_rest_of (startE ds 3)) = some r := by
  unfold sf_law_asked at hs
  rwa [if_pos hl] at hs
theorem asked_bad {s : Shp} {far : D} (bad : isNum far 0 ((s.ws.length : Int) - 1) = false) (w : Nat) (hw : w < 6) : sf_law_asked [s.d, far, .int (w : Int)] = some (.ex "NoWorker") := by
  have e0 := step_bad bad
  have e1 := waits_bad bad
  have e2 := chain_bad bad
  have e3 := rank_bad bad
  have e4 := lenders_bad bad
  have e5 := rest_bad bad
  generalize s.d = S at *
  match w, hw with
  | 0, _ => simp [sf_law_asked, b_law_asked, startE, seqS, ifS, nxS, retS, retNS, drpS, putS, asgS, setG, getV, op2, op1, opC, consA, cst, cst0, tstB, asB, tru, truD, orT, andT, notT, andE, orE, ifE, chn, isiF, isTy, eqG_ii, eqG_ss, eqG_bb, neG_ii, neG_ss, neG_bb, isNG, notNG, notG, negG, ixG, ixO, lenG, intG, max2G, min2G, mkT, mkL, okD, opX, drpX, putX, retX, mkF, resO, ownS, ocL, ocE, ocD, frzS, borE, borT, borX, flatD, appS, mE, popM, tup2M, rmvS, setS, tupG, consG, nilG, lstN, lstG, itL, itemsL, atI_0, atI_l1, atI_l2, atI_l3, atI_1, atI_2, atI_3, st_wh, st_wf, st_hw, st_hf, st_fw, st_fh, rng1, rng2, whS, forS, prt, add_ii, sub_ii, mod_ii, div_ii, lt_ii, le_ii, gt_ii, ge_ii, e0]
  | 1, _ => simp [sf_law_asked, b_law_asked, startE, seqS, ifS, nxS, retS, retNS, drpS, putS, asgS, setG, getV, op2, op1, opC, consA, cst, cst0, tstB, asB, tru, truD, orT, andT, notT, andE, orE, ifE, chn, isiF, isTy, eqG_ii, eqG_ss, eqG_bb, neG_ii, neG_ss, neG_bb, isNG, notNG, notG, negG, ixG, ixO, lenG, intG, max2G, min2G, mkT, mkL, okD, opX, drpX, putX, retX, mkF, resO, ownS, ocL, ocE, ocD, frzS, borE, borT, borX, flatD, appS, mE, popM, tup2M, rmvS, setS, tupG, consG, nilG, lstN, lstG, itL, itemsL, atI_0, atI_l1, atI_l2, atI_l3, atI_1, atI_2, atI_3, st_wh, st_wf, st_hw, st_hf, st_fw, st_fh, rng1, rng2, whS, forS, prt, add_ii, sub_ii, mod_ii, div_ii, lt_ii, le_ii, gt_ii, ge_ii, e1]
  | 2, _ => simp [sf_law_asked, b_law_asked, startE, seqS, ifS, nxS, retS, retNS, drpS, putS, asgS, setG, getV, op2, op1, opC, consA, cst, cst0, tstB, asB, tru, truD, orT, andT, notT, andE, orE, ifE, chn, isiF, isTy, eqG_ii, eqG_ss, eqG_bb, neG_ii, neG_ss, neG_bb, isNG, notNG, notG, negG, ixG, ixO, lenG, intG, max2G, min2G, mkT, mkL, okD, opX, drpX, putX, retX, mkF, resO, ownS, ocL, ocE, ocD, frzS, borE, borT, borX, flatD, appS, mE, popM, tup2M, rmvS, setS, tupG, consG, nilG, lstN, lstG, itL, itemsL, atI_0, atI_l1, atI_l2, atI_l3, atI_1, atI_2, atI_3, st_wh, st_wf, st_hw, st_hf, st_fw, st_fh, rng1, rng2, whS, forS, prt, add_ii, sub_ii, mod_ii, div_ii, lt_ii, le_ii, gt_ii, ge_ii, e2]
  | 3, _ => simp [sf_law_asked, b_law_asked, startE, seqS, ifS, nxS, retS, retNS, drpS, putS, asgS, setG, getV, op2, op1, opC, consA, cst, cst0, tstB, asB, tru, truD, orT, andT, notT, andE, orE, ifE, chn, isiF, isTy, eqG_ii, eqG_ss, eqG_bb, neG_ii, neG_ss, neG_bb, isNG, notNG, notG, negG, ixG, ixO, lenG, intG, max2G, min2G, mkT, mkL, okD, opX, drpX, putX, retX, mkF, resO, ownS, ocL, ocE, ocD, frzS, borE, borT, borX, flatD, appS, mE, popM, tup2M, rmvS, setS, tupG, consG, nilG, lstN, lstG, itL, itemsL, atI_0, atI_l1, atI_l2, atI_l3, atI_1, atI_2, atI_3, st_wh, st_wf, st_hw, st_hf, st_fw, st_fh, rng1, rng2, whS, forS, prt, add_ii, sub_ii, mod_ii, div_ii, lt_ii, le_ii, gt_ii, ge_ii, e3]
  | 4, _ => simp [sf_law_asked, b_law_asked, startE, seqS, ifS, nxS, retS, retNS, drpS, putS, asgS, setG, getV, op2, op1, opC, consA, cst, cst0, tstB, asB, tru, truD, orT, andT, notT, andE, orE, ifE, chn, isiF, isTy, eqG_ii, eqG_ss, eqG_bb, neG_ii, neG_ss, neG_bb, isNG, notNG, notG, negG, ixG, ixO, lenG, intG, max2G, min2G, mkT, mkL, okD, opX, drpX, putX, retX, mkF, resO, ownS, ocL, ocE, ocD, frzS, borE, borT, borX, flatD, appS, mE, popM, tup2M, rmvS, setS, tupG, consG, nilG, lstN, lstG, itL, itemsL, atI_0, atI_l1, atI_l2, atI_l3, atI_1, atI_2, atI_3, st_wh, st_wf, st_hw, st_hf, st_fw, st_fh, rng1, rng2, whS, forS, prt, add_ii, sub_ii, mod_ii, div_ii, lt_ii, le_ii, gt_ii, ge_ii, e4]
  | 5, _ => simp [sf_law_asked, b_law_asked, startE, seqS, ifS, nxS, retS, retNS, drpS, putS, asgS, setG, getV, op2, op1, opC, consA, cst, cst0, tstB, asB, tru, truD, orT, andT, notT, andE, orE, ifE, chn, isiF, isTy, eqG_ii, eqG_ss, eqG_bb, neG_ii, neG_ss, neG_bb, isNG, notNG, notG, negG, ixG, ixO, lenG, intG, max2G, min2G, mkT, mkL, okD, opX, drpX, putX, retX, mkF, resO, ownS, ocL, ocE, ocD, frzS, borE, borT, borX, flatD, appS, mE, popM, tup2M, rmvS, setS, tupG, consG, nilG, lstN, lstG, itL, itemsL, atI_0, atI_l1, atI_l2, atI_l3, atI_1, atI_2, atI_3, st_wh, st_wf, st_hw, st_hf, st_fw, st_fh, rng1, rng2, whS, forS, prt, add_ii, sub_ii, mod_ii, div_ii, lt_ii, le_ii, gt_ii, ge_ii, e5]
theorem hres_law_refused0 : ∀ a c e d, Sr_law_refused0 c e = some d → ∃ e', Sf_law_refused0 a c (e.set 4 (.exc a)) = some (.rt d e') := by
  intro a c e d h
  unfold Sr_law_refused0 at h
  split at h
  · rename_i hl
    cases h
    match e, hl with
    | x0 :: x1 :: x2 :: x3 :: x4 :: t, _ => exact ⟨_, by simp [Sf_law_refused0, startE, seqS, ifS, nxS, retS, retNS, drpS, putS, asgS, setG, getV, op2, op1, opC, consA, cst, cst0, tstB, asB, tru, truD, orT, andT, notT, andE, orE, ifE, chn, isiF, isTy, addG, mulG, iiG, eqG_ii, eqG_ss, eqG_bb, neG_ii, neG_ss, neG_bb, isNG, notNG, notG, negG, ixG, ixO, lenG, intG, max2G, min2G, mkT, mkL, okD, opX, drpX, putX, retX, mkF, resO, ownS, ocL, ocE, ocD, frzS, borE, borT, borX, flatD, appS, mE, popM, tup2M, rmvS, setS, tupG, consG, nilG, lstN, lstG, itL, itemsL, atI_0, atI_l1, atI_l2, atI_l3, atI_1, atI_2, atI_3, st_wh, st_wf, st_hw, st_hf, st_fw, st_fh, rng1, rng2, whS, forS, prt, isE]; rfl⟩
  · cases h
theorem hres_law_refused1 : ∀ a c e d, Sr_law_refused1 c e = some d → ∃ e', Sf_law_refused1 a c (e.set 4 (.exc a)) = some (.rt d e') := by
  intro a c e d h
  unfold Sr_law_refused1 at h
  split at h
  · rename_i hl
    cases h
    match e, hl with
    | x0 :: x1 :: x2 :: x3 :: x4 :: t, _ => exact ⟨_, by simp [Sf_law_refused1, startE, seqS, ifS, nxS, retS, retNS, drpS, putS, asgS, setG, getV, op2, op1, opC, consA, cst, cst0, tstB, asB, tru, truD, orT, andT, notT, andE, orE, ifE, chn, isiF, isTy, addG, mulG, iiG, eqG_ii, eqG_ss, eqG_bb, neG_ii, neG_ss, neG_bb, isNG, notNG, notG, negG, ixG, ixO, lenG, intG, max2G, min2G, mkT, mkL, okD, opX, drpX, putX, retX, mkF, resO, ownS, ocL, ocE, ocD, frzS, borE, borT, borX, flatD, appS, mE, popM, tup2M, rmvS, setS, tupG, consG, nilG, lstN, lstG, itL, itemsL, atI_0, atI_l1, atI_l2, atI_l3, atI_1, atI_2, atI_3, st_wh, st_wf, st_hw, st_hf, st_fw, st_fh, rng1, rng2, whS, forS, prt, isE]; rfl⟩
  · cases h
abbrev n_law_refused : Nat := 4
def sf_law_refused (ds : List D) : Option Res := if ds.length = 4 then resO (b_law_refused sf_law_asked (startE ds 5)) else none
theorem m_law_refused (ds : List D) (r : Res) (hl : ds.length = n_law_refused) (hs : sf_law_refused ds = some r) : resO (b_law_refused sf_law_asked (startE ds 5)) = some r := by
  unfold sf_law_refused at hs
  rwa [if_pos hl] at hs
theorem refused_eq {s : Shp} {far : D} (bad : isNum far 0 ((s.ws.length : Int) - 1) = false) (w : Nat) (hw : w < 6) (y : Int) : sf_law_refused [s.d, far, .int (w : Int), .int y] = some (.ok (.bl true)) := by
  have e := asked_bad bad w hw
  have h1 : subN "NoWorker" "HasteError" = true := rfl
  have h2 : subN "NoWorker" "NoWorker" = true := rfl
  generalize s.d = S at *
  by_cases hy : y = 0
  · subst hy
    simp [sf_law_refused, b_law_refused, b_law_refused_t0, startE, seqS, ifS, nxS, retS, retNS, drpS, putS, asgS, setG, getV, op2, op1, opC, consA, cst, cst0, tstB, asB, tru, truD, orT, andT, notT, andE, orE, ifE, chn, isiF, isTy, eqG_ii, eqG_ss, eqG_bb, neG_ii, neG_ss, neG_bb, isNG, notNG, notG, negG, ixG, ixO, lenG, intG, max2G, min2G, mkT, mkL, okD, opX, drpX, putX, retX, mkF, resO, ownS, ocL, ocE, ocD, frzS, borE, borT, borX, flatD, appS, mE, popM, tup2M, rmvS, setS, tupG, consG, nilG, lstN, lstG, itL, itemsL, atI_0, atI_l1, atI_l2, atI_l3, atI_1, atI_2, atI_3, st_wh, st_wf, st_hw, st_hf, st_fw, st_fh, rng1, rng2, whS, forS, prt, add_ii, sub_ii, mod_ii, div_ii, lt_ii, le_ii, gt_ii, ge_ii, tryAs, e, h1, h2, Sr_law_refused0]
  · simp [sf_law_refused, b_law_refused, b_law_refused_t2, startE, seqS, ifS, nxS, retS, retNS, drpS, putS, asgS, setG, getV, op2, op1, opC, consA, cst, cst0, tstB, asB, tru, truD, orT, andT, notT, andE, orE, ifE, chn, isiF, isTy, eqG_ii, eqG_ss, eqG_bb, neG_ii, neG_ss, neG_bb, isNG, notNG, notG, negG, ixG, ixO, lenG, intG, max2G, min2G, mkT, mkL, okD, opX, drpX, putX, retX, mkF, resO, ownS, ocL, ocE, ocD, frzS, borE, borT, borX, flatD, appS, mE, popM, tup2M, rmvS, setS, tupG, consG, nilG, lstN, lstG, itL, itemsL, atI_0, atI_l1, atI_l2, atI_l3, atI_1, atI_2, atI_3, st_wh, st_wf, st_hw, st_hf, st_fw, st_fh, rng1, rng2, whS, forS, prt, add_ii, sub_ii, mod_ii, div_ii, lt_ii, le_ii, gt_ii, ge_ii, tryAs, e, h1, h2, hy, Sr_law_refused1]
/-- a step told, looked at by the law -/
theorem lawstep {s : Shp} (g : GoodShp s) {k : Nat} (hk : k < s.ws.length) (s0 s2 s3 s4 s5 s6 s8 s9 s10 s11 s12 : Sl) : ∃ t11, b_law_f0 sf_law_shop sf_law_there sf_law_held sf_there sf_held sf_law_alike sf_step_of sf_law_cell_at sf_law_mixed sf_law_refused [s0, .val s.d, s2, s3, s4, s5, s6, .val (.int (k : Int)), s8, s9, s10, s11, s12] = some (.nx [s0, .val s.d, s2, s3, s4, s5, s6, .val (.int (k : Int)), s8, s9, s10, t11, s12]) := by
  obtain ⟨q1, q2, gw, sp⟩ := g.at_ hk
  have e1 := atI_map Wkr.d q1
  have e2 := atI_map spotD q2
  have e3 := step_eq g hk
  unfold stepM at e3
  have e4 : ∀ o : Option Stp, sf_law_alike [stepD o, stepD o] = some (.ok (.bl true)) := fun o => by
    refine alike_refl 8 _ (plain_le (n := 2) (by decide) ?_)
    cases o with
    | none => trivial
    | some x => exact plain_stp x
  refine ⟨.val (stepD ((wAt s k).plan[(spotAt s k).1]?)), ?_⟩
  have e5 := e4 ((wAt s k).plan[(spotAt s k).1]?)
  by_cases h : (spotAt s k).1 < (wAt s k).plan.length
  · have h2 : (wAt s k).plan[(spotAt s k).1]? = some ((wAt s k).plan[(spotAt s k).1]) := List.getElem?_eq_getElem h
    have e6 := atI_map Stp.d h2
    rw [h2] at e3 e5 ⊢
    unfold Shp.d at e3 ⊢
    generalize (s.ws.map Wkr.d) = WS at *
    generalize (s.spots.map spotD) = SS at *
    generalize hx : (wAt s k).plan[(spotAt s k).1] = x at *
    simp only [stepD] at e3 e5 ⊢
    generalize x.d = xd at *
    simp [b_law_f0, startE, seqS, ifS, nxS, retS, retNS, drpS, putS, asgS, setG, getV, op2, op1, opC, consA, cst, cst0, tstB, asB, tru, truD, orT, andT, notT, andE, orE, ifE, chn, isiF, isTy, eqG_ii, eqG_ss, eqG_bb, neG_ii, neG_ss, neG_bb, isNG, notNG, notG, negG, ixG, ixO, lenG, intG, max2G, min2G, mkT, mkL, okD, opX, drpX, putX, retX, mkF, resO, ownS, ocL, ocE, ocD, frzS, borE, borT, borX, flatD, appS, mE, popM, tup2M, rmvS, setS, tupG, consG, nilG, lstN, lstG, itL, itemsL, atI_0, atI_l1, atI_l2, atI_l3, atI_1, atI_2, atI_3, st_wh, st_wf, st_hw, st_hf, st_fw, st_fh, rng1, rng2, whS, forS, prt, add_ii, sub_ii, mod_ii, div_ii, lt_ii, le_ii, gt_ii, ge_ii, e1, e2, e3, e5, e6, Wkr.d, spotD, planD, h]
  · have h2 : (wAt s k).plan[(spotAt s k).1]? = none := List.getElem?_eq_none (by omega)
    rw [h2] at e3 e5 ⊢
    unfold Shp.d at e3 ⊢
    generalize (s.ws.map Wkr.d) = WS at *
    generalize (s.spots.map spotD) = SS at *
    simp only [stepD] at e3 e5 ⊢
    have h3 : (decide ((spotAt s k).1 < (wAt s k).plan.length)) = false := by simp; omega
    simp [b_law_f0, startE, seqS, ifS, nxS, retS, retNS, drpS, putS, asgS, setG, getV, op2, op1, opC, consA, cst, cst0, tstB, asB, tru, truD, orT, andT, notT, andE, orE, ifE, chn, isiF, isTy, eqG_ii, eqG_ss, eqG_bb, neG_ii, neG_ss, neG_bb, isNG, notNG, notG, negG, ixG, ixO, lenG, intG, max2G, min2G, mkT, mkL, okD, opX, drpX, putX, retX, mkF, resO, ownS, ocL, ocE, ocD, frzS, borE, borT, borX, flatD, appS, mE, popM, tup2M, rmvS, setS, tupG, consG, nilG, lstN, lstG, itL, itemsL, atI_0, atI_l1, atI_l2, atI_l3, atI_1, atI_2, atI_3, st_wh, st_wf, st_hw, st_hf, st_fw, st_fh, rng1, rng2, whS, forS, prt, add_ii, sub_ii, mod_ii, div_ii, lt_ii, le_ii, gt_ii, ge_ii, e1, e2, e3, e5, Wkr.d, spotD, planD, h3]
theorem lawsteps {s : Shp} (g : GoodShp s) (s0 s2 s3 s4 s5 s6 s8 s9 s10 s12 : Sl) : ∀ (js : List Nat) (s7 s11 : Sl), (∀ j ∈ js, j < s.ws.length) → ∃ t7 t11, forL (setG 7) (b_law_f0 sf_law_shop sf_law_there sf_law_held sf_there sf_held sf_law_alike sf_step_of sf_law_cell_at sf_law_mixed sf_law_refused) (natsD js) [s0, .val s.d, s2, s3, s4, s5, s6, s7, s8, s9, s10, s11, s12] = some (.nx [s0, .val s.d, s2, s3, s4, s5, s6, t7, s8, s9, s10, t11, s12])
  | [], s7, s11, _ => ⟨s7, s11, rfl⟩
  | j :: js, s7, s11, h => by
    obtain ⟨t11, e⟩ := lawstep g (h j (by simp)) s0 s2 s3 s4 s5 s6 s8 s9 s10 s11 s12
    obtain ⟨u7, u11, e2⟩ := lawsteps g s0 s2 s3 s4 s5 s6 s8 s9 s10 s12 js (.val (.int (j : Int))) t11 fun i hi => h i (by simp [hi])
    exact ⟨u7, u11, (forL_nx rfl e).trans e2⟩
theorem lawfar {s : Shp} {far : D} (bad : isNum far 0 ((s.ws.length : Int) - 1) = false) (n : Int) (s0 s2 s3 s4 s5 s6 s7 s11 s12 : Sl) : ∀ (js : List Nat) (s10 : Sl), (∀ j ∈ js, j < 6) → ∃ t10, forL (setG 10) (b_law_f1 sf_law_shop sf_law_there sf_law_held sf_there sf_held sf_law_alike sf_step_of sf_law_cell_at sf_law_mixed sf_law_refused) (natsD js) [s0, .val s.d, s2, s3, s4, s5, s6, s7, .val (.int n), .val far, s10, s11, s12] = some (.nx [s0, .val s.d, s2, s3, s4, s5, s6, s7, .val (.int n), .val far, t10, s11, s12])
  | [], s10, _ => ⟨s10, rfl⟩
  | j :: js, s10, h => by
    have e := refused_eq bad j (h j (by simp)) (n / 8 % 2)
    obtain ⟨u10, e2⟩ := lawfar bad n s0 s2 s3 s4 s5 s6 s7 s11 s12 js (.val (.int (j : Int))) fun i hi => h i (by simp [hi])
    refine ⟨u10, (forL_nx rfl ?_).trans e2⟩
    generalize s.d = S at *
    simp [b_law_f1, startE, seqS, ifS, nxS, retS, retNS, drpS, putS, asgS, setG, getV, op2, op1, opC, consA, cst, cst0, tstB, asB, tru, truD, orT, andT, notT, andE, orE, ifE, chn, isiF, isTy, eqG_ii, eqG_ss, eqG_bb, neG_ii, neG_ss, neG_bb, isNG, notNG, notG, negG, ixG, ixO, lenG, intG, max2G, min2G, mkT, mkL, okD, opX, drpX, putX, retX, mkF, resO, ownS, ocL, ocE, ocD, frzS, borE, borT, borX, flatD, appS, mE, popM, tup2M, rmvS, setS, tupG, consG, nilG, lstN, lstG, itL, itemsL, atI_0, atI_l1, atI_l2, atI_l3, atI_1, atI_2, atI_3, st_wh, st_wf, st_hw, st_hf, st_fw, st_fh, rng1, rng2, whS, forS, prt, add_ii, sub_ii, mod_ii, div_ii, lt_ii, le_ii, gt_ii, ge_ii, e]
abbrev n_law : Nat := 1
noncomputable def sf_law (ds : List D) : Option Res := if ds.length = 1 then resO (b_law sf_law_shop sf_law_there sf_law_held sf_there sf_held sf_law_alike sf_step_of sf_law_cell_at sf_law_mixed sf_law_refused (startE ds 13)) else none
theorem m_law (ds : List D) (r : Res) (hl : ds.length = n_law) (hs : sf_law ds = some r) : resO (b_law sf_law_shop sf_law_there sf_law_held sf_there sf_held sf_law_alike sf_step_of sf_law_cell_at sf_law_mixed sf_law_refused (startE ds 13)) = some r := by
  unfold sf_law at hs
  rwa [if_pos hl] at hs
/-- the number of none that is drawn -/
def farOf (m : Nat) (n : Int) : D := match (n % 8).toNat with
  | 0 => .int (-1)
  | 1 => .int m
  | 2 => .int (m + n)
  | 3 => .int (-1 - n)
  | 4 => .bl true
  | 5 => .bl false
  | 6 => .non
  | _ => .str "0"
theorem far_bad (m : Nat) (n : Int) (hn : 0 ≤ n) : isNum (farOf m n) 0 ((m : Int) - 1) = false := by
  unfold farOf
  split <;> simp [isNum] <;> omega
theorem far_at (m : Nat) (n : Int) : atI [D.int (-1), .int m, .int (m + n), .int (-1 - n), .bl true, .bl false, .non, .str "0"] (n % 8) = some (farOf m n) := by
  have h1 : 0 ≤ n % 8 := by omega
  have h2 : n % 8 < 8 := by omega
  unfold farOf
  generalize n % 8 = r at *
  have h : r = 0 ∨ r = 1 ∨ r = 2 ∨ r = 3 ∨ r = 4 ∨ r = 5 ∨ r = 6 ∨ r = 7 := by omega
  rcases h with rfl | rfl | rfl | rfl | rfl | rfl | rfl | rfl <;> rfl
theorem sf_law_ok (ns : List Int) (hl : ns.length ≤ 63) : sf_law [.scr ns] = some (.ok (.bl true)) := by
  obtain ⟨s, e1, g⟩ := shop_ok ns 20 (by decide) (by decide)
  have h8 := g.ws.most
  have hc : ((s.ws.length : Nat) : Int) ≤ 100000 ∧ -100000 ≤ ((s.ws.length : Nat) : Int) := by omega
  have hr := rng_nats s.ws.length
  have hrl : (natsD (List.range s.ws.length)).length ≤ 90000 := by simp; omega
  have e2 := lcL_map (gf := setG 7) (T := tru (opC (okD sf_law_there) (consA (getV 1) (consA (getV 7) (cst0 []))))) (E := getV 7) (w := [.val (.scr ns), .val s.d, .val (.int (s.ws.length : Int)), .no, .no, .no, .no, .no, .no, .no, .no, .no, .no]) (fun (j : Nat) => D.int (j : Int)) (fun (j : Nat) => D.int (j : Int)) (thereB s) (List.range s.ws.length) fun j hj => by
    have e1 := there_eq g (k := j) (by simpa using hj)
    generalize s.d = S at *
    exact ⟨_, rfl, by simp [startE, seqS, ifS, nxS, retS, retNS, drpS, putS, asgS, setG, getV, op2, op1, opC, consA, cst, cst0, tstB, asB, tru, truD, orT, andT, notT, andE, orE, ifE, chn, isiF, isTy, eqG_ii, eqG_ss, eqG_bb, neG_ii, neG_ss, neG_bb, isNG, notNG, notG, negG, ixG, ixO, lenG, intG, max2G, min2G, mkT, mkL, okD, opX, drpX, putX, retX, mkF, resO, ownS, ocL, ocE, ocD, frzS, borE, borT, borX, flatD, appS, mE, popM, tup2M, rmvS, setS, tupG, consG, nilG, lstN, lstG, itL, itemsL, atI_0, atI_l1, atI_l2, atI_l3, atI_1, atI_2, atI_3, st_wh, st_wf, st_hw, st_hf, st_fw, st_fh, rng1, rng2, whS, forS, prt, add_ii, sub_ii, mod_ii, div_ii, lt_ii, le_ii, gt_ii, ge_ii, e1], fun _ => by simp [getV]⟩
  change lcL _ _ _ _ (natsD (List.range s.ws.length)) = some (natsD (thereM s)) at e2
  have e3 := held2_eq g
  have e4 := thereL_eq g
  have hth : (thereM s).length ≤ 8 := by
    have := List.length_filter_le (thereB s) (List.range s.ws.length)
    unfold thereM
    simp at this
    omega
  have hthl : (natsD (thereM s)).length ≤ 90000 := by simp; omega
  have e5 : ∀ r : DEnv, opCN sf_there (consA (getV 1) (cst0 [])) (.val (.scr ns) :: .val s.d :: r) = some (.l (natsD (thereM s))) := fun r => opCN_lst (ds := [s.d]) rfl (noInts1 g) e4 (ints_nats _)
  have e6 := held_eq g
  have e7 : ∀ r : DEnv, opCNd sf_held (consA (getV 1) (cst0 [])) (.val (.scr ns) :: .val s.d :: r) = some (.d (heldM s)) := fun r => opCNd_dct (ds := [s.d]) rfl (noInts1 g) e6
  have hk : (heldM s).length ≤ 90000 := by have := heldM_len g; omega
  have e8 := fun (x2 x3 x4 x6 : Sl) => sorted_walk (heldM s) 5 12 [.val (.scr ns), .val s.d, x2, x3, x4, .val (.dct (heldM s)), x6, .no, .no, .no, .no, .no, .no] (by decide) rfl (by simp) hk
  have e9 := fun (x2 x3 x4 x5 : Sl) => sorted_walk (heldM s) 6 12 [.val (.scr ns), .val s.d, x2, x3, x4, x5, .val (.dct (heldM s)), .no, .no, .no, .no, .no, .no] (by decide) rfl (by simp) hk
  change ∀ x2 x3 x4 x6, srtPN _ _ = some (.l (heldL s)) at e8
  change ∀ x2 x3 x4 x5, srtPN _ _ = some (.l (heldL s)) at e9
  have e10 : sf_law_alike [.lst (heldL s), .lst (heldL s)] = some (.ok (.bl true)) := alike_refl 8 _ (plain_le (n := 3) (by decide) (heldL_plain g))
  have e11 : sf_law_alike [.lst (natsD (thereM s)), .lst (natsD (thereM s))] = some (.ok (.bl true)) := alike_nats (by omega) (by decide)
  have e12 : neG (.lst (heldL s)) (.lst (heldL s)) = some (.bl false) := neG_prs _
  have e13 := lawsteps g (.val (.scr ns)) (.val (.int (s.ws.length : Int))) (.val (.lst (natsD (thereM s)))) (.val (.lst (heldL s))) (.own none (.d (putD (heldM s) 77 5))) (.val (.dct (heldM s))) .no .no .no .no (List.range s.ws.length) .no .no fun j hj => by simpa using hj
  obtain ⟨t7, t11, e13⟩ := e13
  have hn := (mix_range (cell ns 28) 7).1
  have e14 : sf_law_cell_at [.scr ns, .int 28] = some (.ok (.int (cell ns 28))) := cell_at ns (by decide)
  have e15 : sf_law_mixed [.int (cell ns 28), .int 7] = some (.ok (.int (mix (cell ns 28) 7))) := rfl
  generalize mix (cell ns 28) 7 = n at *
  have e16 := far_at s.ws.length n
  obtain ⟨t10, e17⟩ := lawfar (far_bad s.ws.length n hn) n (.val (.scr ns)) (.val (.int (s.ws.length : Int))) (.val (.lst (natsD (thereM s)))) (.val (.lst (heldL s))) (.own none (.d (putD (heldM s) 77 5))) (.val (.dct (heldM s))) t7 t11 .no [0, 1, 2, 3, 4, 5] .no fun j hj => by simp at hj; omega
  have hr6 : rngD 0 6 = natsD [0, 1, 2, 3, 4, 5] := rfl
  have e18 := alike_shop g (n := 8) (by decide)
  generalize natsD (List.range s.ws.length) = rs at *
  generalize natsD [0, 1, 2, 3, 4, 5] = r6 at *
  generalize natsD (thereM s) = th at *
  generalize heldL s = hL at *
  generalize heldM s = hM at *
  generalize farOf s.ws.length n = far at *
  simp [sf_law, b_law, startE, seqS, ifS, nxS, retS, retNS, drpS, putS, asgS, setG, getV, op2, op1, opC, consA, cst, cst0, tstB, asB, tru, truD, orT, andT, notT, andE, orE, ifE, chn, isiF, isTy, eqG_ii, eqG_ss, eqG_bb, neG_ii, neG_ss, neG_bb, isNG, notNG, notG, negG, ixG, ixO, lenG, intG, max2G, min2G, mkT, mkL, okD, opX, drpX, putX, retX, mkF, resO, ownS, ocL, ocE, ocD, frzS, borE, borT, borX, flatD, appS, mE, popM, tup2M, rmvS, setS, tupG, consG, nilG, lstN, lstG, itL, itemsL, atI_0, atI_l1, atI_l2, atI_l3, atI_1, atI_2, atI_3, st_wh, st_wf, st_hw, st_hf, st_fw, st_fh, rng1, rng2, whS, forS, prt, add_ii, sub_ii, mod_ii, div_ii, lt_ii, le_ii, gt_ii, ge_ii, e1, hc, hr, hrl, lcF, wipeE, e2, e3, e4, e5, e6, e7, e8, e9, e10, e11, e12, e13, e14, e15, e16, e17, e18, newApp, dputS, hk, hthl, hr6]
end LH

namespace LH
open PySem PySem.Spec PyProof.Rows L2 Evl DL

def topS (i : Nat) : Stmt := PySem.Challenge.pw_lenthaste_k02_there_and_held.main.body.getD i (.Pass ⟨0, 0, 0, 0⟩)
abbrev s_is_number : Stmt := topS 4
def N_is_number : List Str := ["thing", "least", "most"]
theorem sc_is_number : FnScope N_is_number ["thing", "least", "most"] (defScope s_is_number) := ⟨rfl, rfl, rfl, by decide +kernel, rfl, by decide +kernel, by decide +kernel⟩
abbrev s_held_after : Stmt := topS 5
def N_held_after : List Str := ["steps", "tools", "word", "number"]
theorem sc_held_after : FnScope N_held_after ["steps"] (defScope s_held_after) := ⟨rfl, rfl, rfl, by decide +kernel, rfl, by decide +kernel, by decide +kernel⟩
abbrev s_check_number : Stmt := topS 7
def N_check_number : List Str := ["shop", "k"]
theorem sc_check_number : FnScope N_check_number ["shop", "k"] (defScope s_check_number) := ⟨rfl, rfl, rfl, by decide +kernel, rfl, by decide +kernel, by decide +kernel⟩
abbrev s_plan_of : Stmt := topS 8
def N_plan_of : List Str := ["shop", "k"]
theorem sc_plan_of : FnScope N_plan_of ["shop", "k"] (defScope s_plan_of) := ⟨rfl, rfl, rfl, by decide +kernel, rfl, by decide +kernel, by decide +kernel⟩
abbrev s_place_of : Stmt := topS 9
def N_place_of : List Str := ["shop", "k"]
theorem sc_place_of : FnScope N_place_of ["shop", "k"] (defScope s_place_of) := ⟨rfl, rfl, rfl, by decide +kernel, rfl, by decide +kernel, by decide +kernel⟩
abbrev s_own_rank : Stmt := topS 10
def N_own_rank : List Str := ["shop", "k"]
theorem sc_own_rank : FnScope N_own_rank ["shop", "k"] (defScope s_own_rank) := ⟨rfl, rfl, rfl, by decide +kernel, rfl, by decide +kernel, by decide +kernel⟩
abbrev s_has_steps : Stmt := topS 11
def N_has_steps : List Str := ["shop", "k"]
theorem sc_has_steps : FnScope N_has_steps ["shop", "k"] (defScope s_has_steps) := ⟨rfl, rfl, rfl, by decide +kernel, rfl, by decide +kernel, by decide +kernel⟩
abbrev s_is_there : Stmt := topS 12
def N_is_there : List Str := ["shop", "k"]
theorem sc_is_there : FnScope N_is_there ["shop", "k"] (defScope s_is_there) := ⟨rfl, rfl, rfl, by decide +kernel, rfl, by decide +kernel, by decide +kernel⟩
abbrev s_there : Stmt := topS 13
def N_there : List Str := ["shop", "k"]
theorem sc_there : FnScope N_there ["shop"] (defScope s_there) := ⟨rfl, rfl, rfl, by decide +kernel, rfl, by decide +kernel, by decide +kernel⟩
abbrev s_held : Stmt := topS 14
def N_held : List Str := ["shop", "holders", "k", "tool"]
theorem sc_held : FnScope N_held ["shop"] (defScope s_held) := ⟨rfl, rfl, rfl, by decide +kernel, rfl, by decide +kernel, by decide +kernel⟩
abbrev s_step_of : Stmt := topS 15
def N_step_of : List Str := ["shop", "k"]
theorem sc_step_of : FnScope N_step_of ["shop", "k"] (defScope s_step_of) := ⟨rfl, rfl, rfl, by decide +kernel, rfl, by decide +kernel, by decide +kernel⟩
abbrev s_waits : Stmt := topS 17
def N_waits : List Str := ["shop", "k", "word", "tool"]
theorem sc_waits : FnScope N_waits ["shop", "k"] (defScope s_waits) := ⟨rfl, rfl, rfl, by decide +kernel, rfl, by decide +kernel, by decide +kernel⟩
abbrev s_chain : Stmt := topS 18
def N_chain : List Str := ["shop", "k", "workers", "ahead"]
theorem sc_chain : FnScope N_chain ["shop", "k"] (defScope s_chain) := ⟨rfl, rfl, rfl, by decide +kernel, rfl, by decide +kernel, by decide +kernel⟩
abbrev s_lenders : Stmt := topS 19
def N_lenders : List Str := ["shop", "k", "others", "other"]
theorem sc_lenders : FnScope N_lenders ["shop", "k"] (defScope s_lenders) := ⟨rfl, rfl, rfl, by decide +kernel, rfl, by decide +kernel, by decide +kernel⟩
abbrev s_rank_of : Stmt := topS 20
def N_rank_of : List Str := ["shop", "k", "one"]
theorem sc_rank_of : FnScope N_rank_of ["shop", "k"] (defScope s_rank_of) := ⟨rfl, rfl, rfl, by decide +kernel, rfl, by decide +kernel, by decide +kernel⟩
abbrev s_rest_of : Stmt := topS 22
def N_rest_of : List Str := ["shop", "k", "plan", "rest", "place", "gone", "word", "number"]
theorem sc_rest_of : FnScope N_rest_of ["shop", "k"] (defScope s_rest_of) := ⟨rfl, rfl, rfl, by decide +kernel, rfl, by decide +kernel, by decide +kernel⟩
abbrev s_law_cell_at : Stmt := topS 24
def N_law_cell_at : List Str := ["_law_script", "_law_k"]
theorem sc_law_cell_at : FnScope N_law_cell_at ["_law_script", "_law_k"] (defScope s_law_cell_at) := ⟨rfl, rfl, rfl, by decide +kernel, rfl, by decide +kernel, by decide +kernel⟩
abbrev s_law_mixed : Stmt := topS 25
def N_law_mixed : List Str := ["_law_cell", "_law_k", "_law_number"]
theorem sc_law_mixed : FnScope N_law_mixed ["_law_cell", "_law_k"] (defScope s_law_mixed) := ⟨rfl, rfl, rfl, by decide +kernel, rfl, by decide +kernel, by decide +kernel⟩
abbrev s_law_alike : Stmt := topS 26
def N_law_alike : List Str := ["_law_found", "_law_due", "_law_k"]
theorem sc_law_alike : FnScope N_law_alike ["_law_found", "_law_due"] (defScope s_law_alike) := ⟨rfl, rfl, rfl, by decide +kernel, rfl, by decide +kernel, by decide +kernel⟩
abbrev s_law_plan : Stmt := topS 27
def N_law_plan : List Str := ["_law_number", "_law_most", "_law_steps", "_law_tools_here", "_law_k", "_law_more", "_law_low", "_law_tool"]
theorem sc_law_plan : FnScope N_law_plan ["_law_number", "_law_most"] (defScope s_law_plan) := ⟨rfl, rfl, rfl, by decide +kernel, rfl, by decide +kernel, by decide +kernel⟩
abbrev s_law_ranks : Stmt := topS 28
def N_law_ranks : List Str := ["_law_number", "_law_many", "_law_found", "_law_k", "_law_more", "_law_rank"]
theorem sc_law_ranks : FnScope N_law_ranks ["_law_number", "_law_many"] (defScope s_law_ranks) := ⟨rfl, rfl, rfl, by decide +kernel, rfl, by decide +kernel, by decide +kernel⟩
abbrev s_law_ladder : Stmt := topS 29
def N_law_ladder : List Str := ["_law_k", "_law_many", "_law_number", "_law_steps"]
theorem sc_law_ladder : FnScope N_law_ladder ["_law_k", "_law_many", "_law_number"] (defScope s_law_ladder) := ⟨rfl, rfl, rfl, by decide +kernel, rfl, by decide +kernel, by decide +kernel⟩
abbrev s_law_workers : Stmt := topS 30
def N_law_workers : List Str := ["_law_script", "_law_most", "_law_late", "_law_many", "_law_first", "_law_degrees", "_law_workers_here", "_law_k", "_law_start", "_law_number", "_law_plan_here"]
theorem sc_law_workers : FnScope N_law_workers ["_law_script", "_law_most", "_law_late"] (defScope s_law_workers) := ⟨rfl, rfl, rfl, by decide +kernel, rfl, by decide +kernel, by decide +kernel⟩
abbrev s_law_tools : Stmt := topS 31
def N_law_tools : List Str := ["_law_plan_here", "_law_place", "_law_tools_here", "_law_step"]
theorem sc_law_tools : FnScope N_law_tools ["_law_plan_here", "_law_place"] (defScope s_law_tools) := ⟨rfl, rfl, rfl, by decide +kernel, rfl, by decide +kernel, by decide +kernel⟩
abbrev s_law_there : Stmt := topS 32
def N_law_there : List Str := ["_law_shop_here", "_law_k"]
theorem sc_law_there : FnScope N_law_there ["_law_shop_here", "_law_k"] (defScope s_law_there) := ⟨rfl, rfl, rfl, by decide +kernel, rfl, by decide +kernel, by decide +kernel⟩
abbrev s_law_after : Stmt := topS 33
def N_law_after : List Str := ["_law_shop_here", "_law_k", "_law_step", "_law_one"]
theorem sc_law_after : FnScope N_law_after ["_law_shop_here", "_law_k"] (defScope s_law_after) := ⟨rfl, rfl, rfl, by decide +kernel, rfl, by decide +kernel, by decide +kernel⟩
abbrev s_law_chain : Stmt := topS 34
def N_law_chain : List Str := ["_law_shop_here", "_law_k", "_law_found", "_law_after_here"]
theorem sc_law_chain : FnScope N_law_chain ["_law_shop_here", "_law_k"] (defScope s_law_chain) := ⟨rfl, rfl, rfl, by decide +kernel, rfl, by decide +kernel, by decide +kernel⟩
abbrev s_law_spot : Stmt := topS 35
def N_law_spot : List Str := ["_law_worker", "_law_number", "_law_taken", "_law_plan_here", "_law_place", "_law_holds", "_law_tools_here", "_law_gone", "_law_at", "_law_tool"]
theorem sc_law_spot : FnScope N_law_spot ["_law_worker", "_law_number", "_law_taken"] (defScope s_law_spot) := ⟨rfl, rfl, rfl, by decide +kernel, rfl, by decide +kernel, by decide +kernel⟩
abbrev s_law_shop : Stmt := topS 36
def N_law_shop : List Str := ["_law_script", "_law_most", "_law_workers_here", "_law_now", "_law_spots", "_law_taken", "_law_k", "_law_spot_here"]
theorem sc_law_shop : FnScope N_law_shop ["_law_script", "_law_most"] (defScope s_law_shop) := ⟨rfl, rfl, rfl, by decide +kernel, rfl, by decide +kernel, by decide +kernel⟩
abbrev s_law_asked : Stmt := topS 37
def N_law_asked : List Str := ["_law_shop_here", "_law_k", "_law_which"]
theorem sc_law_asked : FnScope N_law_asked ["_law_shop_here", "_law_k", "_law_which"] (defScope s_law_asked) := ⟨rfl, rfl, rfl, by decide +kernel, rfl, by decide +kernel, by decide +kernel⟩
abbrev s_law_refused : Stmt := topS 38
def N_law_refused : List Str := ["_law_shop_here", "_law_k", "_law_which", "_law_way", "e"]
theorem sc_law_refused : FnScope N_law_refused ["_law_shop_here", "_law_k", "_law_which", "_law_way"] (defScope s_law_refused) := ⟨rfl, rfl, rfl, by decide +kernel, rfl, by decide +kernel, by decide +kernel⟩
abbrev s_law_held : Stmt := topS 39
def N_law_held : List Str := ["_law_shop_here", "_law_found", "_law_k", "_law_tool"]
theorem sc_law_held : FnScope N_law_held ["_law_shop_here"] (defScope s_law_held) := ⟨rfl, rfl, rfl, by decide +kernel, rfl, by decide +kernel, by decide +kernel⟩
abbrev s_law : Stmt := topS 40
def N_law : List Str := ["_law_script", "_law_shop_here", "_law_many", "_law_due", "_law_tools_here", "_law_first", "_law_again", "_law_k", "_law_number", "_law_far", "_law_which", "_law_step", "_law_tool"]
theorem sc_law : FnScope N_law ["_law_script"] (defScope s_law) := ⟨rfl, rfl, rfl, by decide +kernel, rfl, by decide +kernel, by decide +kernel⟩
structure Tx (K : PySem.W.Frag) (mg : Str → Option Value) : Prop where
  b_ValueError : mg "ValueError" = none
  b_all : mg "all" = none
  b_bool : mg "bool" = none
  b_dict : mg "dict" = none
  b_int : mg "int" = none
  b_isinstance : mg "isinstance" = none
  b_len : mg "len" = none
  b_list : mg "list" = none
  b_max : mg "max" = none
  b_min : mg "min" = none
  b_range : mg "range" = none
  b_sorted : mg "sorted" = none
  b_str : mg "str" = none
  b_tuple : mg "tuple" = none
  f_is_number : ∃ f fd, Fun K "is_number" "is_number" s_is_number f fd ∧ mg "is_number" = some (.ref f)
  f_held_after : ∃ f fd, Fun K "held_after" "held_after" s_held_after f fd ∧ mg "held_after" = some (.ref f)
  f_check_number : ∃ f fd, Fun K "check_number" "check_number" s_check_number f fd ∧ mg "check_number" = some (.ref f)
  f_plan_of : ∃ f fd, Fun K "plan_of" "plan_of" s_plan_of f fd ∧ mg "plan_of" = some (.ref f)
  f_place_of : ∃ f fd, Fun K "place_of" "place_of" s_place_of f fd ∧ mg "place_of" = some (.ref f)
  f_own_rank : ∃ f fd, Fun K "own_rank" "own_rank" s_own_rank f fd ∧ mg "own_rank" = some (.ref f)
  f_has_steps : ∃ f fd, Fun K "has_steps" "has_steps" s_has_steps f fd ∧ mg "has_steps" = some (.ref f)
  f_is_there : ∃ f fd, Fun K "is_there" "is_there" s_is_there f fd ∧ mg "is_there" = some (.ref f)
  f_there : ∃ f fd, Fun K "there" "there" s_there f fd ∧ mg "there" = some (.ref f)
  f_held : ∃ f fd, Fun K "held" "held" s_held f fd ∧ mg "held" = some (.ref f)
  f_step_of : ∃ f fd, Fun K "step_of" "step_of" s_step_of f fd ∧ mg "step_of" = some (.ref f)
  f_waits : ∃ f fd, Fun K "waits" "waits" s_waits f fd ∧ mg "waits" = some (.ref f)
  f_chain : ∃ f fd, Fun K "chain" "chain" s_chain f fd ∧ mg "chain" = some (.ref f)
  f_lenders : ∃ f fd, Fun K "lenders" "lenders" s_lenders f fd ∧ mg "lenders" = some (.ref f)
  f_rank_of : ∃ f fd, Fun K "rank_of" "rank_of" s_rank_of f fd ∧ mg "rank_of" = some (.ref f)
  f_rest_of : ∃ f fd, Fun K "rest_of" "rest_of" s_rest_of f fd ∧ mg "rest_of" = some (.ref f)
  f_law_cell_at : ∃ f fd, Fun K "_law_cell_at" "_law_cell_at" s_law_cell_at f fd ∧ mg "_law_cell_at" = some (.ref f)
  f_law_mixed : ∃ f fd, Fun K "_law_mixed" "_law_mixed" s_law_mixed f fd ∧ mg "_law_mixed" = some (.ref f)
  f_law_alike : ∃ f fd, Fun K "_law_alike" "_law_alike" s_law_alike f fd ∧ mg "_law_alike" = some (.ref f)
  f_law_plan : ∃ f fd, Fun K "_law_plan" "_law_plan" s_law_plan f fd ∧ mg "_law_plan" = some (.ref f)
  f_law_ranks : ∃ f fd, Fun K "_law_ranks" "_law_ranks" s_law_ranks f fd ∧ mg "_law_ranks" = some (.ref f)
  f_law_ladder : ∃ f fd, Fun K "_law_ladder" "_law_ladder" s_law_ladder f fd ∧ mg "_law_ladder" = some (.ref f)
  f_law_workers : ∃ f fd, Fun K "_law_workers" "_law_workers" s_law_workers f fd ∧ mg "_law_workers" = some (.ref f)
  f_law_tools : ∃ f fd, Fun K "_law_tools" "_law_tools" s_law_tools f fd ∧ mg "_law_tools" = some (.ref f)
  f_law_there : ∃ f fd, Fun K "_law_there" "_law_there" s_law_there f fd ∧ mg "_law_there" = some (.ref f)
  f_law_after : ∃ f fd, Fun K "_law_after" "_law_after" s_law_after f fd ∧ mg "_law_after" = some (.ref f)
  f_law_chain : ∃ f fd, Fun K "_law_chain" "_law_chain" s_law_chain f fd ∧ mg "_law_chain" = some (.ref f)
  f_law_spot : ∃ f fd, Fun K "_law_spot" "_law_spot" s_law_spot f fd ∧ mg "_law_spot" = some (.ref f)
  f_law_shop : ∃ f fd, Fun K "_law_shop" "_law_shop" s_law_shop f fd ∧ mg "_law_shop" = some (.ref f)
  f_law_asked : ∃ f fd, Fun K "_law_asked" "_law_asked" s_law_asked f fd ∧ mg "_law_asked" = some (.ref f)
  f_law_refused : ∃ f fd, Fun K "_law_refused" "_law_refused" s_law_refused f fd ∧ mg "_law_refused" = some (.ref f)
  f_law_held : ∃ f fd, Fun K "_law_held" "_law_held" s_law_held f fd ∧ mg "_law_held" = some (.ref f)
  f_law : ∃ f fd, Fun K "law" "law" s_law f fd ∧ mg "law" = some (.ref f)
  errs : ErrS ["NoWorker"] K mg
variable {P : Program} {w : World} {K : PySem.W.Frag} {mg : Str → Option Value} {base : Heap}
theorem c_is_number (T : Tx K mg)  : Cl P w K mg base "is_number" 1 n_is_number sf_is_number := by
  obtain ⟨f, fd, F, hm⟩ := T.f_is_number
  have hb : L2.Binds K fd ["thing", "least", "most"] [] := F.binds (ps := ["thing", "least", "most"]) fun _ _ _ _ _ _ us hl => match us, hl with | [_, _, _], _ => rfl
  refine ⟨f, fd, ["thing", "least", "most"], fn_ok (B := b_is_number) (N := N_is_number) F sc_is_number rfl (fun cdv A outer s H E hr => ?_) m_is_number, hm, F.kp, hb⟩
  exact (ds_cons (ds_if (PW.pt (dw_or (dt_not (dt_tru (de_isi .int (by decide +kernel) (by rfl) T.b_isinstance (by rfl) T.b_int (de_var 0)))) (dw_or1 (dt_tru (de_isi .bool (by decide +kernel) (by rfl) T.b_isinstance (by rfl) T.b_bool (de_var 0)))))) (ds_one (ds_ret de_bl)) ds_nil) (ds_one (ds_ret (de_chn op_le r2_le op_le r2_le (de_var 1) (de_var 0) (de_var 2)))))
theorem c_held_after (T : Tx K mg)  : Cl P w K mg base "held_after" 1 n_held_after sf_held_after := by
  obtain ⟨f, fd, F, hm⟩ := T.f_held_after
  have hb : L2.Binds K fd ["steps"] [] := F.binds (ps := ["steps"]) fun _ _ _ _ _ _ us hl => match us, hl with | [_], _ => rfl
  refine ⟨f, fd, ["steps"], fn_ok (B := b_held_after) (N := N_held_after) F sc_held_after rfl (fun cdv A outer s H E hr => ?_) m_held_after, hm, F.kp, hb⟩
  exact (ds_cons (ds_own (i := 1) sc_held_after.nd rfl (by first | exact .inl rfl | exact .inr rfl) (dn_lst da_nil)) (ds_cons (ds_for (ws := [2, 3]) (B := (b_held_after_f0)) (passes_of rfl) rfl (di_list (de_var 0)) (dg_tup rfl (dgs_cons (dg_name (i := 2) sc_held_after.nd rfl (by first | exact .inl rfl | exact .inr rfl) (by decide)) (dgs_cons (dg_name (i := 3) sc_held_after.nd rfl (by first | exact .inl rfl | exact .inr rfl) (by decide)) dgs_nil))) (ds_one (ds_if (dt_cmp (op_eqA hr) r2_eq (de_var 2) de_str (nomark _)) (ds_one (ds_append (i := 1) (pv 1) (dm_e (de_var 3)))) (ds_one (ds_if (dt_cmp (op_eqA hr) r2_eq (de_var 2) de_str (nomark _)) (ds_one (ds_remove (i := 1) (pv 1) (de_var 3))) ds_nil))))) (ds_frz 1 (ds_one (ds_ret (de_var 1))))))
theorem c_check_number (T : Tx K mg) (c_is_number : Cl P w K mg base "is_number" 1 n_is_number sf_is_number) : Cl P w K mg base "check_number" 2 n_check_number sf_check_number := by
  obtain ⟨f, fd, F, hm⟩ := T.f_check_number
  have hb : L2.Binds K fd ["shop", "k"] [] := F.binds (ps := ["shop", "k"]) fun _ _ _ _ _ _ us hl => match us, hl with | [_, _], _ => rfl
  refine ⟨f, fd, ["shop", "k"], fn_ok (B := (b_check_number sf_is_number)) (N := N_check_number) F sc_check_number rfl (fun cdv A outer s H E hr => ?_) m_check_number, hm, F.kp, hb⟩
  exact (ds_one (ds_if (dt_not (dt_tru (de_callC c_is_number hr (by decide) (by rfl) (da_cons (de_var 1) (da_cons de_int (da_cons (de_op op_sub r2_sub (de_callB call_len_seq rc_len (by rfl) T.b_len (by decide +kernel) (da_cons (de_ix ix_any r2_ix (de_var 0) de_int) da_nil)) de_int) da_nil))) (al_cons (al_cons (al_cons al_nil)))))) (ds_one (ds_raiseA T.errs (by decide) rfl (takes_of rfl rfl rfl rfl) (by rfl) (da_cons de_str da_nil) (al_cons al_nil))) ds_nil))
theorem c_plan_of (T : Tx K mg)  : Cl P w K mg base "plan_of" 1 n_plan_of sf_plan_of := by
  obtain ⟨f, fd, F, hm⟩ := T.f_plan_of
  have hb : L2.Binds K fd ["shop", "k"] [] := F.binds (ps := ["shop", "k"]) fun _ _ _ _ _ _ us hl => match us, hl with | [_, _], _ => rfl
  refine ⟨f, fd, ["shop", "k"], fn_ok (B := b_plan_of) (N := N_plan_of) F sc_plan_of rfl (fun cdv A outer s H E hr => ?_) m_plan_of, hm, F.kp, hb⟩
  exact (ds_one (ds_ret (de_ix ix_any r2_ix (de_ix ix_any r2_ix (de_ix ix_any r2_ix (de_var 0) de_int) (de_var 1)) de_int)))
theorem c_place_of (T : Tx K mg)  : Cl P w K mg base "place_of" 1 n_place_of sf_place_of := by
  obtain ⟨f, fd, F, hm⟩ := T.f_place_of
  have hb : L2.Binds K fd ["shop", "k"] [] := F.binds (ps := ["shop", "k"]) fun _ _ _ _ _ _ us hl => match us, hl with | [_, _], _ => rfl
  refine ⟨f, fd, ["shop", "k"], fn_ok (B := b_place_of) (N := N_place_of) F sc_place_of rfl (fun cdv A outer s H E hr => ?_) m_place_of, hm, F.kp, hb⟩
  exact (ds_one (ds_ret (de_ix ix_any r2_ix (de_ix ix_any r2_ix (de_ix ix_any r2_ix (de_var 0) de_int) (de_var 1)) de_int)))
theorem c_own_rank (T : Tx K mg)  : Cl P w K mg base "own_rank" 1 n_own_rank sf_own_rank := by
  obtain ⟨f, fd, F, hm⟩ := T.f_own_rank
  have hb : L2.Binds K fd ["shop", "k"] [] := F.binds (ps := ["shop", "k"]) fun _ _ _ _ _ _ us hl => match us, hl with | [_, _], _ => rfl
  refine ⟨f, fd, ["shop", "k"], fn_ok (B := b_own_rank) (N := N_own_rank) F sc_own_rank rfl (fun cdv A outer s H E hr => ?_) m_own_rank, hm, F.kp, hb⟩
  exact (ds_one (ds_ret (de_ix ix_any r2_ix (de_ix ix_any r2_ix (de_ix ix_any r2_ix (de_var 0) de_int) (de_var 1)) de_int)))
theorem c_has_steps (T : Tx K mg) (c_place_of : Cl P w K mg base "place_of" 1 n_place_of sf_place_of) (c_plan_of : Cl P w K mg base "plan_of" 1 n_plan_of sf_plan_of) : Cl P w K mg base "has_steps" 2 n_has_steps sf_has_steps := by
  obtain ⟨f, fd, F, hm⟩ := T.f_has_steps
  have hb : L2.Binds K fd ["shop", "k"] [] := F.binds (ps := ["shop", "k"]) fun _ _ _ _ _ _ us hl => match us, hl with | [_, _], _ => rfl
  refine ⟨f, fd, ["shop", "k"], fn_ok (B := (b_has_steps sf_place_of sf_plan_of)) (N := N_has_steps) F sc_has_steps rfl (fun cdv A outer s H E hr => ?_) m_has_steps, hm, F.kp, hb⟩
  exact (ds_one (ds_ret (de_cmp op_lt r2_lt (de_callC c_place_of hr (by decide) (by rfl) (da_cons (de_var 0) (da_cons (de_var 1) da_nil)) (al_cons (al_cons al_nil))) (de_callB call_len_seq rc_len (by rfl) T.b_len (by decide +kernel) (da_cons (de_callC c_plan_of hr (by decide) (by rfl) (da_cons (de_var 0) (da_cons (de_var 1) da_nil)) (al_cons (al_cons al_nil))) da_nil)) (nomark _))))
theorem c_is_there (T : Tx K mg) (c_has_steps : Cl P w K mg base "has_steps" 2 n_has_steps sf_has_steps) : Cl P w K mg base "is_there" 3 n_is_there sf_is_there := by
  obtain ⟨f, fd, F, hm⟩ := T.f_is_there
  have hb : L2.Binds K fd ["shop", "k"] [] := F.binds (ps := ["shop", "k"]) fun _ _ _ _ _ _ us hl => match us, hl with | [_, _], _ => rfl
  refine ⟨f, fd, ["shop", "k"], fn_ok (B := (b_is_there sf_has_steps)) (N := N_is_there) F sc_is_there rfl (fun cdv A outer s H E hr => ?_) m_is_there, hm, F.kp, hb⟩
  exact (ds_one (ds_ret (de_and (de_cmp op_le r2_le (de_ix ix_any r2_ix (de_ix ix_any r2_ix (de_ix ix_any r2_ix (de_var 0) de_int) (de_var 1)) de_int) (de_ix ix_any r2_ix (de_var 0) de_int) (nomark _)) (de_one (de_callC c_has_steps hr (by decide) (by rfl) (da_cons (de_var 0) (da_cons (de_var 1) da_nil)) (al_cons (al_cons al_nil)))))))
theorem c_there (T : Tx K mg) (c_is_there : Cl P w K mg base "is_there" 3 n_is_there sf_is_there) : Cl P w K mg base "there" 4 n_there sf_there := by
  obtain ⟨f, fd, F, hm⟩ := T.f_there
  have hb : L2.Binds K fd ["shop"] [] := F.binds (ps := ["shop"]) fun _ _ _ _ _ _ us hl => match us, hl with | [_], _ => rfl
  refine ⟨f, fd, ["shop"], fn_ok (B := (b_there sf_is_there)) (N := N_there) F sc_there rfl (fun cdv A outer s H E hr => ?_) m_there, hm, F.kp, hb⟩
  exact (ds_one (ds_ret (de_new (dn_lc rfl sc_there.nd (di_rng1 (by rfl) T.b_range (da_cons (de_callB call_len_seq rc_len (by rfl) T.b_len (by decide +kernel) (da_cons (de_ix ix_any r2_ix (de_var 0) de_int) da_nil)) da_nil)) (blkOk_by (own := [("k", 1)]) (N := N_there) (sc := defScope s_there) (by decide +kernel)) rfl (fun _ _ _ _ _ => (dg_name (i := 1) sc_there.nd rfl (by first | exact .inl rfl | exact .inr rfl) (by decide))) (fun _ _ _ _ _ => (dts_one (dt_tru (de_callC c_is_there hr (by decide) (by rfl) (da_cons (de_var 0) (da_cons (de_var 1) da_nil)) (al_cons (al_cons al_nil)))))) (fun _ _ _ _ _ => (de_var 1))))))
theorem c_held (T : Tx K mg) (c_plan_of : Cl P w K mg base "plan_of" 1 n_plan_of sf_plan_of) (c_place_of : Cl P w K mg base "place_of" 1 n_place_of sf_place_of) (c_held_after : Cl P w K mg base "held_after" 1 n_held_after sf_held_after) : Cl P w K mg base "held" 2 n_held sf_held := by
  obtain ⟨f, fd, F, hm⟩ := T.f_held
  have hb : L2.Binds K fd ["shop"] [] := F.binds (ps := ["shop"]) fun _ _ _ _ _ _ us hl => match us, hl with | [_], _ => rfl
  refine ⟨f, fd, ["shop"], fn_ok (B := (b_held sf_plan_of sf_place_of sf_held_after)) (N := N_held) F sc_held rfl (fun cdv A outer s H E hr => ?_) m_held, hm, F.kp, hb⟩
  exact (ds_cons (ds_own (i := 1) sc_held.nd rfl (by first | exact .inl rfl | exact .inr rfl) dn_dict0) (ds_cons (ds_for (ws := [2]) (B := (b_held_f1 sf_plan_of sf_place_of sf_held_after)) (passes_of rfl) rfl (di_rng1 (by rfl) T.b_range (da_cons (de_callB call_len_seq rc_len (by rfl) T.b_len (by decide +kernel) (da_cons (de_ix ix_any r2_ix (de_var 0) de_int) da_nil)) da_nil)) (dg_name (i := 2) sc_held.nd rfl (by first | exact .inl rfl | exact .inr rfl) (by decide)) (ds_one (ds_for (ws := [3]) (B := (b_held_f0 sf_plan_of sf_place_of sf_held_after)) (passes_of rfl) rfl (di_list (de_callC c_held_after hr (by decide) (by rfl) (da_cons (de_slice (de_callC c_plan_of hr (by decide) (by rfl) (da_cons (de_var 0) (da_cons (de_var 2) da_nil)) (al_cons (al_cons al_nil))) do_none (do_some (de_callC c_place_of hr (by decide) (by rfl) (da_cons (de_var 0) (da_cons (de_var 2) da_nil)) (al_cons (al_cons al_nil))))) da_nil) (al_cons al_nil))) (dg_name (i := 3) sc_held.nd rfl (by first | exact .inl rfl | exact .inr rfl) (by decide)) (ds_one (ds_dput hr (de_var 2) (pv 1) (de_var 3)))))) (ds_frz 1 (ds_one (ds_ret (de_var 1))))))
theorem c_step_of (T : Tx K mg) (c_check_number : Cl P w K mg base "check_number" 2 n_check_number sf_check_number) (c_has_steps : Cl P w K mg base "has_steps" 2 n_has_steps sf_has_steps) (c_plan_of : Cl P w K mg base "plan_of" 1 n_plan_of sf_plan_of) (c_place_of : Cl P w K mg base "place_of" 1 n_place_of sf_place_of) : Cl P w K mg base "step_of" 3 n_step_of sf_step_of := by
  obtain ⟨f, fd, F, hm⟩ := T.f_step_of
  have hb : L2.Binds K fd ["shop", "k"] [] := F.binds (ps := ["shop", "k"]) fun _ _ _ _ _ _ us hl => match us, hl with | [_, _], _ => rfl
  refine ⟨f, fd, ["shop", "k"], fn_ok (B := (b_step_of sf_check_number sf_has_steps sf_plan_of sf_place_of)) (N := N_step_of) F sc_step_of rfl (fun cdv A outer s H E hr => ?_) m_step_of, hm, F.kp, hb⟩
  exact (ds_cons (ds_exprX (dx_callC c_check_number hr (by decide) (by rfl) (takes_of rfl rfl rfl rfl) (da_cons (de_var 0) (da_cons (de_var 1) da_nil)) (al_cons (al_cons al_nil)))) (ds_cons (ds_if (dt_not (dt_tru (de_callC c_has_steps hr (by decide) (by rfl) (da_cons (de_var 0) (da_cons (de_var 1) da_nil)) (al_cons (al_cons al_nil))))) (ds_one (ds_ret de_non)) ds_nil) (ds_one (ds_ret (de_ix ix_any r2_ix (de_callC c_plan_of hr (by decide) (by rfl) (da_cons (de_var 0) (da_cons (de_var 1) da_nil)) (al_cons (al_cons al_nil))) (de_callC c_place_of hr (by decide) (by rfl) (da_cons (de_var 0) (da_cons (de_var 1) da_nil)) (al_cons (al_cons al_nil))))))))
theorem c_waits (T : Tx K mg) (c_check_number : Cl P w K mg base "check_number" 2 n_check_number sf_check_number) (c_is_there : Cl P w K mg base "is_there" 3 n_is_there sf_is_there) (c_step_of : Cl P w K mg base "step_of" 3 n_step_of sf_step_of) (c_held : Cl P w K mg base "held" 2 n_held sf_held) : Cl P w K mg base "waits" 4 n_waits sf_waits := by
  obtain ⟨f, fd, F, hm⟩ := T.f_waits
  have hb : L2.Binds K fd ["shop", "k"] [] := F.binds (ps := ["shop", "k"]) fun _ _ _ _ _ _ us hl => match us, hl with | [_, _], _ => rfl
  refine ⟨f, fd, ["shop", "k"], fn_ok (B := (b_waits sf_check_number sf_is_there sf_step_of sf_held)) (N := N_waits) F sc_waits rfl (fun cdv A outer s H E hr => ?_) m_waits, hm, F.kp, hb⟩
  exact (ds_cons (ds_exprX (dx_callC c_check_number hr (by decide) (by rfl) (takes_of rfl rfl rfl rfl) (da_cons (de_var 0) (da_cons (de_var 1) da_nil)) (al_cons (al_cons al_nil)))) (ds_cons (ds_if (dt_not (dt_tru (de_callC c_is_there hr (by decide) (by rfl) (da_cons (de_var 0) (da_cons (de_var 1) da_nil)) (al_cons (al_cons al_nil))))) (ds_one (ds_ret de_non)) ds_nil) (ds_cons (ds_asg (ws := [2, 3]) (de_callC c_step_of hr (by decide) (by rfl) (da_cons (de_var 0) (da_cons (de_var 1) da_nil)) (al_cons (al_cons al_nil))) (dg_tup rfl (dgs_cons (dg_name (i := 2) sc_waits.nd rfl (by first | exact .inl rfl | exact .inr rfl) (by decide)) (dgs_cons (dg_name (i := 3) sc_waits.nd rfl (by first | exact .inl rfl | exact .inr rfl) (by decide)) dgs_nil)))) (ds_cons (ds_if (dt_cmp (op_neA hr) r2_ne (de_var 2) de_str (nomark _)) (ds_one (ds_ret de_non)) ds_nil) (ds_one (ds_ret (de_dget1 hr (de_callC c_held hr (by decide) (by rfl) (da_cons (de_var 0) da_nil) (al_cons al_nil)) (de_var 3))))))))
theorem c_chain (T : Tx K mg) (c_waits : Cl P w K mg base "waits" 4 n_waits sf_waits) : Cl P w K mg base "chain" 5 n_chain sf_chain := by
  obtain ⟨f, fd, F, hm⟩ := T.f_chain
  have hb : L2.Binds K fd ["shop", "k"] [] := F.binds (ps := ["shop", "k"]) fun _ _ _ _ _ _ us hl => match us, hl with | [_, _], _ => rfl
  refine ⟨f, fd, ["shop", "k"], fn_ok (B := (b_chain sf_waits)) (N := N_chain) F sc_chain rfl (fun cdv A outer s H E hr => ?_) m_chain, hm, F.kp, hb⟩
  exact (ds_cons (ds_own (i := 2) sc_chain.nd rfl (by first | exact .inl rfl | exact .inr rfl) (dn_lst (da_cons (de_var 1) da_nil))) (ds_cons (ds_setX (i := 3) sc_chain.nd rfl (by first | exact .inl rfl | exact .inr rfl) (dx_callC c_waits hr (by decide) (by rfl) (takes_of rfl rfl rfl rfl) (da_cons (de_var 0) (da_cons (de_var 1) da_nil)) (al_cons (al_cons al_nil)))) (ds_cons (ds_while (B := (b_chain_w0 sf_waits)) 100000 (passes_of rfl) (dt_cmp op_notN r2_notN (de_var 3) de_non (nomark _)) (ds_cons (ds_append (i := 2) (pv 2) (dm_e (de_var 3))) (ds_one (ds_setX (i := 3) sc_chain.nd rfl (by first | exact .inl rfl | exact .inr rfl) (dx_callC c_waits hr (by decide) (by rfl) (takes_of rfl rfl rfl rfl) (da_cons (de_var 0) (da_cons (de_var 3) da_nil)) (al_cons (al_cons al_nil))))))) (ds_frz 2 (ds_one (ds_ret (de_var 2)))))))
theorem c_lenders (T : Tx K mg) (c_check_number : Cl P w K mg base "check_number" 2 n_check_number sf_check_number) (c_chain : Cl P w K mg base "chain" 5 n_chain sf_chain) : Cl P w K mg base "lenders" 6 n_lenders sf_lenders := by
  obtain ⟨f, fd, F, hm⟩ := T.f_lenders
  have hb : L2.Binds K fd ["shop", "k"] [] := F.binds (ps := ["shop", "k"]) fun _ _ _ _ _ _ us hl => match us, hl with | [_, _], _ => rfl
  refine ⟨f, fd, ["shop", "k"], fn_ok (B := (b_lenders sf_check_number sf_chain)) (N := N_lenders) F sc_lenders rfl (fun cdv A outer s H E hr => ?_) m_lenders, hm, F.kp, hb⟩
  exact (ds_cons (ds_exprX (dx_callC c_check_number hr (by decide) (by rfl) (takes_of rfl rfl rfl rfl) (da_cons (de_var 0) (da_cons (de_var 1) da_nil)) (al_cons (al_cons al_nil)))) (ds_cons (ds_lc (i := 2) rfl sc_lenders.nd rfl rfl (sw_true rfl rfl rfl (by decide +kernel)) (di_rng1 (by rfl) T.b_range (da_cons (de_callB call_len_seq rc_len (by rfl) T.b_len (by decide +kernel) (da_cons (de_ix ix_any r2_ix (de_var 0) de_int) da_nil)) da_nil)) (blkOk_by (own := [("other", 3)]) (N := N_lenders) (sc := defScope s_lenders) (by decide +kernel)) rfl (fun _ _ _ _ _ => (dg_name (i := 3) sc_lenders.nd rfl (by first | exact .inl rfl | exact .inr rfl) (by decide))) (fun _ _ _ _ _ => (dts_one (dt_cmp (op_neA hr) r2_ne (de_var 3) (de_var 1) (nomark _)))) (fun _ _ _ _ _ => (de_var 3))) (ds_frz 2 (ds_one (ds_ret (de_new (dn_lc rfl sc_lenders.nd (di_list (de_var 2)) (blkOk_by (own := [("other", 3)]) (N := N_lenders) (sc := defScope s_lenders) (by decide +kernel)) rfl (fun _ _ _ _ _ => (dg_name (i := 3) sc_lenders.nd rfl (by first | exact .inl rfl | exact .inr rfl) (by decide))) (fun _ _ _ _ _ => (dts_one (dt_cmp op_in_seq r2_in (de_var 1) (de_callC c_chain hr (by decide) (by rfl) (da_cons (de_var 0) (da_cons (de_var 3) da_nil)) (al_cons (al_cons al_nil))) (by rfl)))) (fun _ _ _ _ _ => (de_var 3)))))))))
theorem c_rank_of (T : Tx K mg) (c_lenders : Cl P w K mg base "lenders" 6 n_lenders sf_lenders) (c_own_rank : Cl P w K mg base "own_rank" 1 n_own_rank sf_own_rank) : Cl P w K mg base "rank_of" 7 n_rank_ofX sf_rank_ofX := by
  obtain ⟨f, fd, F, hm⟩ := T.f_rank_of
  have hb : L2.Binds K fd ["shop", "k"] [] := F.binds (ps := ["shop", "k"]) fun _ _ _ _ _ _ us hl => match us, hl with | [_, _], _ => rfl
  refine ⟨f, fd, ["shop", "k"], fn_ok (B := (b_rank_ofX sf_lenders sf_own_rank)) (N := N_rank_of) F sc_rank_of rfl (fun cdv A outer s H E hr => ?_) m_rank_ofX, hm, F.kp, hb⟩
  exact (ds_one (ds_exOr (xo_call1 (cr_max rfl) (by rfl) T.b_max (by decide +kernel) (xo_lc rfl sc_rank_of.nd (xi_list (xo_op op_addA (de_lst (da_cons (de_var 1) da_nil)) (dXo_of (dx_callC c_lenders hr (by decide) (by rfl) (takes_of rfl rfl rfl rfl) (da_cons (de_var 0) (da_cons (de_var 1) da_nil)) (al_cons (al_cons al_nil)))))) (blkOk_by (own := [("one", 2)]) (N := N_rank_of) (sc := defScope s_rank_of) (by decide +kernel)) rfl (fun _ _ _ _ _ => (dg_name (i := 2) sc_rank_of.nd rfl (by first | exact .inl rfl | exact .inr rfl) (by decide))) (fun _ _ _ _ _ => dts_nil) (fun _ _ _ _ _ => (de_callC c_own_rank hr (by decide) (by rfl) (da_cons (de_var 0) (da_cons (de_var 2) da_nil)) (al_cons (al_cons al_nil)))))) (ds_ret (de_callB (cr_max rfl) rc_max (by rfl) T.b_max (by decide +kernel) (da_cons (de_new (dn_lc rfl sc_rank_of.nd (di_list (de_op op_addA r2_add (de_lst (da_cons (de_var 1) da_nil)) (de_callC c_lenders hr (by decide) (by rfl) (da_cons (de_var 0) (da_cons (de_var 1) da_nil)) (al_cons (al_cons al_nil))))) (blkOk_by (own := [("one", 2)]) (N := N_rank_of) (sc := defScope s_rank_of) (by decide +kernel)) rfl (fun _ _ _ _ _ => (dg_name (i := 2) sc_rank_of.nd rfl (by first | exact .inl rfl | exact .inr rfl) (by decide))) (fun _ _ _ _ _ => dts_nil) (fun _ _ _ _ _ => (de_callC c_own_rank hr (by decide) (by rfl) (da_cons (de_var 0) (da_cons (de_var 2) da_nil)) (al_cons (al_cons al_nil)))))) da_nil)))))
theorem c_rest_of (T : Tx K mg) (c_check_number : Cl P w K mg base "check_number" 2 n_check_number sf_check_number) (c_plan_of : Cl P w K mg base "plan_of" 1 n_plan_of sf_plan_of) (c_held_after : Cl P w K mg base "held_after" 1 n_held_after sf_held_after) : Cl P w K mg base "rest_of" 3 n_rest_of sf_rest_of := by
  obtain ⟨f, fd, F, hm⟩ := T.f_rest_of
  have hb : L2.Binds K fd ["shop", "k"] [] := F.binds (ps := ["shop", "k"]) fun _ _ _ _ _ _ us hl => match us, hl with | [_, _], _ => rfl
  refine ⟨f, fd, ["shop", "k"], fn_ok (B := (b_rest_of sf_check_number sf_plan_of sf_held_after)) (N := N_rest_of) F sc_rest_of rfl (fun cdv A outer s H E hr => ?_) m_rest_of, hm, F.kp, hb⟩
  exact (ds_cons (ds_exprX (dx_callC c_check_number hr (by decide) (by rfl) (takes_of rfl rfl rfl rfl) (da_cons (de_var 0) (da_cons (de_var 1) da_nil)) (al_cons (al_cons al_nil)))) (ds_cons (ds_set (i := 2) sc_rest_of.nd rfl (by first | exact .inl rfl | exact .inr rfl) (de_callC c_plan_of hr (by decide) (by rfl) (da_cons (de_var 0) (da_cons (de_var 1) da_nil)) (al_cons (al_cons al_nil)))) (ds_cons (ds_asg (ws := [4, 5]) (de_ix ix_any r2_ix (de_ix ix_any r2_ix (de_var 0) de_int) (de_var 1)) (dg_tup rfl (dgs_cons (dg_name (i := 4) sc_rest_of.nd rfl (by first | exact .inl rfl | exact .inr rfl) (by decide)) (dgs_cons (dg_name (i := 5) sc_rest_of.nd rfl (by first | exact .inl rfl | exact .inr rfl) (by decide)) dgs_nil)))) (ds_cons (ds_if (dt_not (dt_tru (de_callC c_held_after hr (by decide) (by rfl) (da_cons (de_slice (de_var 2) do_none (do_some (de_var 4))) da_nil) (al_cons al_nil)))) (ds_one (ds_ret de_int)) ds_nil) (ds_cons (ds_set (i := 3) sc_rest_of.nd rfl (by first | exact .inl rfl | exact .inr rfl) (de_neg (de_var 5))) (ds_cons (ds_while (B := (b_rest_of_w0 sf_check_number sf_plan_of sf_held_after)) 100000 (passes_of rfl) (dt_tru (de_callC c_held_after hr (by decide) (by rfl) (da_cons (de_slice (de_var 2) do_none (do_some (de_var 4))) da_nil) (al_cons al_nil))) (ds_cons (ds_asg (ws := [6, 7]) (de_ix ix_any r2_ix (de_var 2) (de_var 4)) (dg_tup rfl (dgs_cons (dg_name (i := 6) sc_rest_of.nd rfl (by first | exact .inl rfl | exact .inr rfl) (by decide)) (dgs_cons (dg_name (i := 7) sc_rest_of.nd rfl (by first | exact .inl rfl | exact .inr rfl) (by decide)) dgs_nil)))) (ds_cons (ds_if (dt_cmp (op_eqA hr) r2_eq (de_var 6) de_str (nomark _)) (ds_one (ds_aug (i := 3) sc_rest_of.nd rfl (by first | exact .inl rfl | exact .inr rfl) (de_var 7))) ds_nil) (ds_one (ds_aug (i := 4) sc_rest_of.nd rfl (by first | exact .inl rfl | exact .inr rfl) de_int))))) (ds_one (ds_ret (de_var 3)))))))))
theorem c_law_cell_at (T : Tx K mg)  : Cl P w K mg base "_law_cell_at" 1 n_law_cell_at sf_law_cell_at := by
  obtain ⟨f, fd, F, hm⟩ := T.f_law_cell_at
  have hb : L2.Binds K fd ["_law_script", "_law_k"] [] := F.binds (ps := ["_law_script", "_law_k"]) fun _ _ _ _ _ _ us hl => match us, hl with | [_, _], _ => rfl
  refine ⟨f, fd, ["_law_script", "_law_k"], fn_ok (B := b_law_cell_at) (N := N_law_cell_at) F sc_law_cell_at rfl (fun cdv A outer s H E hr => ?_) m_law_cell_at, hm, F.kp, hb⟩
  exact (ds_cons (ds_if (dt_cmp op_lt r2_lt (de_var 1) (de_callB call_len_seq rc_len (by rfl) T.b_len (by decide +kernel) (da_cons (de_var 0) da_nil)) (nomark _)) (ds_one (ds_ret (de_ix ix_any r2_ix (de_var 0) (de_var 1)))) ds_nil) (ds_one (ds_ret de_int)))
theorem c_law_mixed (T : Tx K mg)  : Cl P w K mg base "_law_mixed" 1 n_law_mixed sf_law_mixed := by
  obtain ⟨f, fd, F, hm⟩ := T.f_law_mixed
  have hb : L2.Binds K fd ["_law_cell", "_law_k"] [] := F.binds (ps := ["_law_cell", "_law_k"]) fun _ _ _ _ _ _ us hl => match us, hl with | [_, _], _ => rfl
  refine ⟨f, fd, ["_law_cell", "_law_k"], fn_ok (B := b_law_mixed) (N := N_law_mixed) F sc_law_mixed rfl (fun cdv A outer s H E hr => ?_) m_law_mixed, hm, F.kp, hb⟩
  exact (ds_cons (ds_set (i := 2) sc_law_mixed.nd rfl (by first | exact .inl rfl | exact .inr rfl) (de_op op_mod r2_mod (de_op op_addA r2_add (de_op op_addA r2_add (de_op op_mulA r2_mul (de_var 0) de_int) (de_op op_mulA r2_mul (de_var 1) de_int)) de_int) de_int)) (ds_one (ds_ret (de_op op_mod r2_mod (de_op op_mulA r2_mul (de_var 2) (de_op op_addA r2_add (de_op op_addA r2_add (de_var 2) (de_op op_mulA r2_mul de_int (de_var 1))) de_int)) de_int))))
theorem c_law_alikeR (T : Tx K mg) : ∀ n, Cl P w K mg base "_law_alike" n 2 (sfA n)
  | 0 => by
    obtain ⟨f, fd, F, hm⟩ := T.f_law_alike
    have hb : L2.Binds K fd ["_law_found", "_law_due"] [] := F.binds (ps := ["_law_found", "_law_due"]) fun _ _ _ _ _ _ us hl => match us, hl with | [_, _], _ => rfl
    exact ⟨f, fd, ["_law_found", "_law_due"], fnok_no hb, hm, F.kp, hb⟩
  | n + 1 => by
    have ih := c_law_alikeR T n
    obtain ⟨f, fd, F, hm⟩ := T.f_law_alike
    have hb : L2.Binds K fd ["_law_found", "_law_due"] [] := F.binds (ps := ["_law_found", "_law_due"]) fun _ _ _ _ _ _ us hl => match us, hl with | [_, _], _ => rfl
    refine ⟨f, fd, ["_law_found", "_law_due"], fn_ok (B := (b_law_alike (sfA n))) (N := N_law_alike) F sc_law_alike rfl (fun cdv A outer s H E hr => ?_) (m_law_alike n), hm, F.kp, hb⟩
    exact (ds_cons (ds_if (PW.pt (dw_or (dt_tru (de_isi .list (by decide +kernel) (by rfl) T.b_isinstance (by rfl) T.b_list (de_var 1))) (dw_or1 (dt_tru (de_isi .tuple (by decide +kernel) (by rfl) T.b_isinstance (by rfl) T.b_tuple (de_var 1)))))) (ds_cons (ds_if (PW.pt (dw_and (dt_not (dt_tru (de_isi .list (by decide +kernel) (by rfl) T.b_isinstance (by rfl) T.b_list (de_var 0)))) (dw_and1 (dt_not (dt_tru (de_isi .tuple (by decide +kernel) (by rfl) T.b_isinstance (by rfl) T.b_tuple (de_var 0))))))) (ds_one (ds_ret de_bl)) ds_nil) (ds_cons (ds_if (PW.pt (dw_or (dt_cmp (op_neA hr) r2_ne (de_isi .list (by decide +kernel) (by rfl) T.b_isinstance (by rfl) T.b_list (de_var 0)) (de_isi .list (by decide +kernel) (by rfl) T.b_isinstance (by rfl) T.b_list (de_var 1)) (nomark _)) (dw_or1 (dt_cmp (op_neA hr) r2_ne (de_callB call_len_seq rc_len (by rfl) T.b_len (by decide +kernel) (da_cons (de_var 0) da_nil)) (de_callB call_len_seq rc_len (by rfl) T.b_len (by decide +kernel) (da_cons (de_var 1) da_nil)) (nomark _))))) (ds_one (ds_ret de_bl)) ds_nil) (ds_one (ds_ret (de_callB (cr_all rfl) rc_all (by rfl) T.b_all (by decide +kernel) (da_cons (de_new (dn_lc rfl sc_law_alike.nd (di_rng1 (by rfl) T.b_range (da_cons (de_callB call_len_seq rc_len (by rfl) T.b_len (by decide +kernel) (da_cons (de_var 1) da_nil)) da_nil)) (blkOk_by (own := [("_law_k", 2)]) (N := N_law_alike) (sc := defScope s_law_alike) (by decide +kernel)) rfl (fun _ _ _ _ _ => (dg_name (i := 2) sc_law_alike.nd rfl (by first | exact .inl rfl | exact .inr rfl) (by decide))) (fun _ _ _ _ _ => dts_nil) (fun _ _ _ _ _ => (de_callC ih hr (Nat.le_refl _) (by rfl) (da_cons (de_ix ix_any r2_ix (de_var 0) (de_var 2)) (da_cons (de_ix ix_any r2_ix (de_var 1) (de_var 2)) da_nil)) (al_cons (al_cons al_nil)))))) da_nil)))))) ds_nil) (ds_cons (ds_if (dt_tru (de_isi .int (by decide +kernel) (by rfl) T.b_isinstance (by rfl) T.b_int (de_var 1))) (ds_one (ds_ret (de_and (de_isi .int (by decide +kernel) (by rfl) T.b_isinstance (by rfl) T.b_int (de_var 0)) (de_and (de_cmp (op_eqA hr) r2_eq (de_isi .bool (by decide +kernel) (by rfl) T.b_isinstance (by rfl) T.b_bool (de_var 0)) (de_isi .bool (by decide +kernel) (by rfl) T.b_isinstance (by rfl) T.b_bool (de_var 1)) (nomark _)) (de_one (de_cmp (op_eqA hr) r2_eq (de_var 0) (de_var 1) (nomark _))))))) ds_nil) (ds_cons (ds_if (dt_cmp op_isN r2_isN (de_var 1) de_non (nomark _)) (ds_one (ds_ret (de_cmp op_isN r2_isN (de_var 0) de_non (nomark _)))) ds_nil) (ds_one (ds_ret (de_and (de_isi .str (by decide +kernel) (by rfl) T.b_isinstance (by rfl) T.b_str (de_var 0)) (de_one (de_cmp (op_eqA hr) r2_eq (de_var 0) (de_var 1) (nomark _)))))))))
theorem c_law_alike (T : Tx K mg) : Cl P w K mg base "_law_alike" 8 n_law_alike sf_law_alike := c_law_alikeR T 8
theorem c_law_plan (T : Tx K mg) (c_law_mixed : Cl P w K mg base "_law_mixed" 1 n_law_mixed sf_law_mixed) : Cl P w K mg base "_law_plan" 2 n_law_plan sf_law_plan := by
  obtain ⟨f, fd, F, hm⟩ := T.f_law_plan
  have hb : L2.Binds K fd ["_law_number", "_law_most"] [] := F.binds (ps := ["_law_number", "_law_most"]) fun _ _ _ _ _ _ us hl => match us, hl with | [_, _], _ => rfl
  refine ⟨f, fd, ["_law_number", "_law_most"], fn_ok (B := (b_law_plan sf_law_mixed)) (N := N_law_plan) F sc_law_plan rfl (fun cdv A outer s H E hr => ?_) m_law_plan, hm, F.kp, hb⟩
  exact (ds_cons (ds_own (i := 2) sc_law_plan.nd rfl (by first | exact .inl rfl | exact .inr rfl) (dn_lst da_nil)) (ds_cons (ds_own (i := 3) sc_law_plan.nd rfl (by first | exact .inl rfl | exact .inr rfl) (dn_lst da_nil)) (ds_cons (ds_for (ws := [4]) (B := (b_law_plan_f0 sf_law_mixed)) (passes_of rfl) rfl (di_rng1 (by rfl) T.b_range (da_cons (de_op op_addA r2_add de_int (de_op op_mod r2_mod (de_var 0) (de_var 1))) da_nil)) (dg_name (i := 4) sc_law_plan.nd rfl (by first | exact .inl rfl | exact .inr rfl) (by decide)) (ds_cons (ds_set (i := 5) sc_law_plan.nd rfl (by first | exact .inl rfl | exact .inr rfl) (de_callC c_law_mixed hr (by decide) (by rfl) (da_cons (de_var 0) (da_cons (de_op op_addA r2_add de_int (de_var 4)) da_nil)) (al_cons (al_cons al_nil)))) (ds_cons (ds_set (i := 6) sc_law_plan.nd rfl (by first | exact .inl rfl | exact .inr rfl) (de_op op_addA r2_add (de_bor 3 (de_maxD rfl hr (by rfl) T.b_max (de_var 3) (de_neg de_int))) de_int)) (ds_one (ds_if (PW.pt (dw_and (dt_cmp op_lt r2_lt (de_op op_mod r2_mod (de_var 5) de_int) de_int (nomark _)) (dw_and1 (dt_cmp op_lt r2_lt (de_var 6) de_int (nomark _))))) (ds_cons (ds_set (i := 7) sc_law_plan.nd rfl (by first | exact .inl rfl | exact .inr rfl) (de_op op_addA r2_add (de_op op_addA r2_add (de_var 6) (de_op op_mod r2_mod (de_op op_fdiv r2_div (de_var 5) de_int) de_int)) (de_op op_mulA r2_mul de_int (de_callTy call_int1 rc_int (by rfl) T.b_int (by decide +kernel) (da_cons (de_cmp (op_eqA hr) r2_eq (de_op op_mod r2_mod (de_op op_fdiv r2_div (de_var 5) de_int) de_int) de_int (nomark _)) da_nil))))) (ds_cons (ds_append (i := 3) (pv 3) (dm_e (de_callB (call_min2 rfl) rc_min2 (by rfl) T.b_min (by decide +kernel) (da_cons de_int (da_cons (de_var 7) da_nil))))) (ds_one (ds_append (i := 2) (pv 2) (dm_e (de_tup (da_cons de_str (da_cons (de_ixO (pv 3) (de_neg de_int)) da_nil)))))))) (ds_one (ds_if (PW.pt (dw_and (dt_cmp (op_eqA hr) r2_eq (de_op op_mod r2_mod (de_var 5) de_int) de_int (nomark _)) (dw_and1 (dt_bor 3 (dt_cmp (op_neA hr) r2_ne (de_var 3) (de_lst da_nil) (nomark _)))))) (ds_one (ds_append (i := 2) (pv 2) (dm_tup2 de_str (dm_pop (i := 3) (pv 3) (de_op op_mod r2_mod (de_op op_fdiv r2_div (de_var 5) de_int) (de_bor 3 (de_callB call_len_seq rc_len (by rfl) T.b_len (by decide +kernel) (da_cons (de_var 3) da_nil)))))))) (ds_one (ds_append (i := 2) (pv 2) (dm_e (de_tup (da_cons de_str (da_cons (de_op op_addA r2_add (de_op op_addA r2_add de_int (de_op op_mod r2_mod (de_op op_fdiv r2_div (de_var 5) de_int) de_int)) (de_op op_mulA r2_mul de_int (de_callTy call_int1 rc_int (by rfl) T.b_int (by decide +kernel) (da_cons (de_cmp (op_eqA hr) r2_eq (de_op op_mod r2_mod (de_op op_fdiv r2_div (de_var 5) de_int) de_int) de_int (nomark _)) da_nil)))) da_nil))))))))))))) (ds_cons (ds_while (B := (b_law_plan_w1 sf_law_mixed)) 100000 (passes_of rfl) (dt_bor 3 (dt_cmp (op_neA hr) r2_ne (de_var 3) (de_lst da_nil) (nomark _))) (ds_one (ds_append (i := 2) (pv 2) (dm_tup2 de_str (dm_pop (i := 3) (pv 3) (de_op op_mod r2_mod (de_op op_fdiv r2_div (de_var 0) de_int) (de_bor 3 (de_callB call_len_seq rc_len (by rfl) T.b_len (by decide +kernel) (da_cons (de_var 3) da_nil))))))))) (ds_frz 2 (ds_one (ds_ret (de_var 2))))))))
theorem c_law_ranks (T : Tx K mg) (c_law_mixed : Cl P w K mg base "_law_mixed" 1 n_law_mixed sf_law_mixed) : Cl P w K mg base "_law_ranks" 2 n_law_ranks sf_law_ranks := by
  obtain ⟨f, fd, F, hm⟩ := T.f_law_ranks
  have hb : L2.Binds K fd ["_law_number", "_law_many"] [] := F.binds (ps := ["_law_number", "_law_many"]) fun _ _ _ _ _ _ us hl => match us, hl with | [_, _], _ => rfl
  refine ⟨f, fd, ["_law_number", "_law_many"], fn_ok (B := (b_law_ranks sf_law_mixed)) (N := N_law_ranks) F sc_law_ranks rfl (fun cdv A outer s H E hr => ?_) m_law_ranks, hm, F.kp, hb⟩
  exact (ds_cons (ds_own (i := 2) sc_law_ranks.nd rfl (by first | exact .inl rfl | exact .inr rfl) (dn_lst da_nil)) (ds_cons (ds_for (ws := [3]) (B := (b_law_ranks_f1 sf_law_mixed)) (passes_of rfl) rfl (di_rng1 (by rfl) T.b_range (da_cons (de_var 1) da_nil)) (dg_name (i := 3) sc_law_ranks.nd rfl (by first | exact .inl rfl | exact .inr rfl) (by decide)) (ds_cons (ds_set (i := 4) sc_law_ranks.nd rfl (by first | exact .inl rfl | exact .inr rfl) (de_callC c_law_mixed hr (by decide) (by rfl) (da_cons (de_var 0) (da_cons (de_op op_addA r2_add de_int (de_var 3)) da_nil)) (al_cons (al_cons al_nil)))) (ds_cons (ds_set (i := 5) sc_law_ranks.nd rfl (by first | exact .inl rfl | exact .inr rfl) (de_op op_addA r2_add de_int (de_ix ix_any r2_ix (de_lst (da_cons (de_op op_mod r2_mod (de_var 4) de_int) (da_cons (de_op op_mod r2_mod (de_var 4) (de_op op_pow r2_pow de_int de_int)) da_nil))) (de_op op_mod r2_mod (de_var 0) de_int)))) (ds_cons (ds_while (B := (b_law_ranks_w0 sf_law_mixed)) 100000 (passes_of rfl) (dt_bor 2 (dt_cmp op_in_seq r2_in (de_var 5) (de_var 2) (by rfl))) (ds_one (ds_set (i := 5) sc_law_ranks.nd rfl (by first | exact .inl rfl | exact .inr rfl) (de_op op_addA r2_add (de_op op_mod r2_mod (de_var 5) (de_op op_pow r2_pow de_int de_int)) de_int)))) (ds_one (ds_append (i := 2) (pv 2) (dm_e (de_var 5)))))))) (ds_frz 2 (ds_one (ds_ret (de_var 2))))))
theorem c_law_ladder (T : Tx K mg)  : Cl P w K mg base "_law_ladder" 1 n_law_ladder sf_law_ladder := by
  obtain ⟨f, fd, F, hm⟩ := T.f_law_ladder
  have hb : L2.Binds K fd ["_law_k", "_law_many", "_law_number"] [] := F.binds (ps := ["_law_k", "_law_many", "_law_number"]) fun _ _ _ _ _ _ us hl => match us, hl with | [_, _, _], _ => rfl
  refine ⟨f, fd, ["_law_k", "_law_many", "_law_number"], fn_ok (B := b_law_ladder) (N := N_law_ladder) F sc_law_ladder rfl (fun cdv A outer s H E hr => ?_) m_law_ladder, hm, F.kp, hb⟩
  exact (ds_cons (ds_set (i := 3) sc_law_ladder.nd rfl (by first | exact .inl rfl | exact .inr rfl) (de_op op_addA r2_add (de_op op_mulA r2_mul (de_lst (da_cons (de_tup (da_cons de_str (da_cons (de_op op_addA r2_add de_int (de_op op_mod r2_mod (de_var 2) de_int)) da_nil))) da_nil)) (de_op op_mod r2_mod (de_op op_fdiv r2_div (de_var 2) de_int) de_int)) (de_lst (da_cons (de_tup (da_cons de_str (da_cons (de_var 0) da_nil))) (da_cons (de_tup (da_cons de_str (da_cons (de_op op_addA r2_add de_int (de_op op_mod r2_mod (de_op op_fdiv r2_div (de_var 2) de_int) de_int)) da_nil))) da_nil))))) (ds_cons (ds_if (dt_cmp op_lt r2_lt (de_op op_addA r2_add (de_var 0) de_int) (de_var 1) (nomark _)) (ds_cons (ds_set (i := 3) sc_law_ladder.nd rfl (by first | exact .inl rfl | exact .inr rfl) (de_op op_addA r2_add (de_var 3) (de_lst (da_cons (de_tup (da_cons de_str (da_cons (de_op op_addA r2_add (de_var 0) de_int) da_nil))) (da_cons (de_tup (da_cons de_str (da_cons (de_op op_addA r2_add de_int (de_op op_mod r2_mod (de_op op_fdiv r2_div (de_var 2) de_int) de_int)) da_nil))) da_nil))))) (ds_one (ds_if (dt_cmp (op_eqA hr) r2_eq (de_op op_mod r2_mod (de_op op_fdiv r2_div (de_var 2) de_int) de_int) de_int (nomark _)) (ds_one (ds_set (i := 3) sc_law_ladder.nd rfl (by first | exact .inl rfl | exact .inr rfl) (de_op op_addA r2_add (de_op op_addA r2_add (de_op op_addA r2_add (de_var 3) (de_lst (da_cons (de_tup (da_cons de_str (da_cons (de_op op_addA r2_add (de_var 0) de_int) da_nil))) da_nil))) (de_op op_mulA r2_mul (de_lst (da_cons (de_tup (da_cons de_str (da_cons de_int da_nil))) da_nil)) (de_op op_mod r2_mod (de_op op_fdiv r2_div (de_var 2) de_int) de_int))) (de_lst (da_cons (de_tup (da_cons de_str (da_cons (de_var 0) da_nil))) da_nil))))) (ds_one (ds_set (i := 3) sc_law_ladder.nd rfl (by first | exact .inl rfl | exact .inr rfl) (de_op op_addA r2_add (de_op op_addA r2_add (de_op op_addA r2_add (de_var 3) (de_lst (da_cons (de_tup (da_cons de_str (da_cons (de_var 0) da_nil))) da_nil))) (de_op op_mulA r2_mul (de_lst (da_cons (de_tup (da_cons de_str (da_cons de_int da_nil))) da_nil)) (de_op op_mod r2_mod (de_op op_fdiv r2_div (de_var 2) de_int) de_int))) (de_lst (da_cons (de_tup (da_cons de_str (da_cons (de_op op_addA r2_add (de_var 0) de_int) da_nil))) da_nil)))))))) (ds_one (ds_set (i := 3) sc_law_ladder.nd rfl (by first | exact .inl rfl | exact .inr rfl) (de_op op_addA r2_add (de_var 3) (de_lst (da_cons (de_tup (da_cons de_str (da_cons (de_op op_addA r2_add de_int (de_op op_mod r2_mod (de_op op_fdiv r2_div (de_var 2) de_int) de_int)) da_nil))) (da_cons (de_tup (da_cons de_str (da_cons (de_var 0) da_nil))) da_nil))))))) (ds_one (ds_ret (de_op op_addA r2_add (de_var 3) (de_op op_mulA r2_mul (de_lst (da_cons (de_tup (da_cons de_str (da_cons (de_op op_addA r2_add de_int (de_op op_mod r2_mod (de_op op_fdiv r2_div (de_var 2) de_int) de_int)) da_nil))) da_nil)) (de_op op_mod r2_mod (de_op op_fdiv r2_div (de_var 2) de_int) de_int)))))))
theorem c_law_workers (T : Tx K mg) (c_law_cell_at : Cl P w K mg base "_law_cell_at" 1 n_law_cell_at sf_law_cell_at) (c_law_mixed : Cl P w K mg base "_law_mixed" 1 n_law_mixed sf_law_mixed) (c_law_ranks : Cl P w K mg base "_law_ranks" 2 n_law_ranks sf_law_ranks) (c_law_plan : Cl P w K mg base "_law_plan" 2 n_law_plan sf_law_plan) (c_law_ladder : Cl P w K mg base "_law_ladder" 1 n_law_ladder sf_law_ladder) : Cl P w K mg base "_law_workers" 3 n_law_workers sf_law_workers := by
  obtain ⟨f, fd, F, hm⟩ := T.f_law_workers
  have hb : L2.Binds K fd ["_law_script", "_law_most", "_law_late"] [] := F.binds (ps := ["_law_script", "_law_most", "_law_late"]) fun _ _ _ _ _ _ us hl => match us, hl with | [_, _, _], _ => rfl
  refine ⟨f, fd, ["_law_script", "_law_most", "_law_late"], fn_ok (B := (b_law_workers sf_law_cell_at sf_law_mixed sf_law_ranks sf_law_plan sf_law_ladder)) (N := N_law_workers) F sc_law_workers rfl (fun cdv A outer s H E hr => ?_) m_law_workers, hm, F.kp, hb⟩
  exact (ds_cons (ds_set (i := 3) sc_law_workers.nd rfl (by first | exact .inl rfl | exact .inr rfl) (de_op op_addA r2_add de_int (de_op op_mod r2_mod (de_callC c_law_cell_at hr (by decide) (by rfl) (da_cons (de_var 0) (da_cons de_int da_nil)) (al_cons (al_cons al_nil))) de_int))) (ds_cons (ds_if (dt_cmp (op_eqA hr) r2_eq (de_op op_mod r2_mod (de_op op_fdiv r2_div (de_callC c_law_cell_at hr (by decide) (by rfl) (da_cons (de_var 0) (da_cons de_int da_nil)) (al_cons (al_cons al_nil))) de_int) de_int) de_int (nomark _)) (ds_one (ds_set (i := 3) sc_law_workers.nd rfl (by first | exact .inl rfl | exact .inr rfl) (de_op op_addA r2_add de_int (de_op op_mod r2_mod (de_op op_fdiv r2_div (de_callC c_law_cell_at hr (by decide) (by rfl) (da_cons (de_var 0) (da_cons de_int da_nil)) (al_cons (al_cons al_nil))) de_int) de_int)))) ds_nil) (ds_cons (ds_set (i := 4) sc_law_workers.nd rfl (by first | exact .inl rfl | exact .inr rfl) (de_callC c_law_cell_at hr (by decide) (by rfl) (da_cons (de_var 0) (da_cons de_int da_nil)) (al_cons (al_cons al_nil)))) (ds_cons (ds_set (i := 5) sc_law_workers.nd rfl (by first | exact .inl rfl | exact .inr rfl) (de_callC c_law_ranks hr (by decide) (by rfl) (da_cons (de_callC c_law_mixed hr (by decide) (by rfl) (da_cons (de_var 4) (da_cons de_int da_nil)) (al_cons (al_cons al_nil))) (da_cons (de_var 3) da_nil)) (al_cons (al_cons al_nil)))) (ds_cons (ds_if (dt_cmp (op_eqA hr) r2_eq (de_op op_mod r2_mod (de_var 4) de_int) de_int (nomark _)) (ds_one (ds_set (i := 5) sc_law_workers.nd rfl (by first | exact .inl rfl | exact .inr rfl) (de_new (dn_rev (de_new (dn_sorted (by rfl) T.b_sorted (de_var 5))))))) ds_nil) (ds_cons (ds_own (i := 6) sc_law_workers.nd rfl (by first | exact .inl rfl | exact .inr rfl) (dn_lst da_nil)) (ds_cons (ds_for (ws := [7]) (B := (b_law_workers_f0 sf_law_cell_at sf_law_mixed sf_law_ranks sf_law_plan sf_law_ladder)) (passes_of rfl) rfl (di_rng1 (by rfl) T.b_range (da_cons (de_var 3) da_nil)) (dg_name (i := 7) sc_law_workers.nd rfl (by first | exact .inl rfl | exact .inr rfl) (by decide)) (ds_cons (ds_set (i := 8) sc_law_workers.nd rfl (by first | exact .inl rfl | exact .inr rfl) (de_op op_mod r2_mod (de_callC c_law_mixed hr (by decide) (by rfl) (da_cons (de_callC c_law_cell_at hr (by decide) (by rfl) (da_cons (de_var 0) (da_cons (de_op op_addA r2_add de_int (de_op op_mulA r2_mul de_int (de_var 7))) da_nil)) (al_cons (al_cons al_nil))) (da_cons (de_op op_addA r2_add de_int (de_var 7)) da_nil)) (al_cons (al_cons al_nil))) (de_var 2))) (ds_cons (ds_set (i := 9) sc_law_workers.nd rfl (by first | exact .inl rfl | exact .inr rfl) (de_callC c_law_mixed hr (by decide) (by rfl) (da_cons (de_callC c_law_cell_at hr (by decide) (by rfl) (da_cons (de_var 0) (da_cons (de_op op_addA r2_add de_int (de_op op_mulA r2_mul de_int (de_var 7))) da_nil)) (al_cons (al_cons al_nil))) (da_cons (de_op op_addA r2_add de_int (de_var 7)) da_nil)) (al_cons (al_cons al_nil)))) (ds_cons (ds_set (i := 10) sc_law_workers.nd rfl (by first | exact .inl rfl | exact .inr rfl) (de_callC c_law_plan hr (by decide) (by rfl) (da_cons (de_var 9) (da_cons (de_var 1) da_nil)) (al_cons (al_cons al_nil)))) (ds_cons (ds_if (dt_cmp (op_eqA hr) r2_eq (de_op op_mod r2_mod (de_var 4) de_int) de_int (nomark _)) (ds_cons (ds_set (i := 8) sc_law_workers.nd rfl (by first | exact .inl rfl | exact .inr rfl) (de_op op_addA r2_add (de_op op_mulA r2_mul (de_op op_sub r2_sub (de_op op_sub r2_sub (de_var 3) de_int) (de_var 7)) (de_op op_addA r2_add de_int (de_op op_mod r2_mod (de_op op_fdiv r2_div (de_var 4) de_int) de_int))) (de_op op_mod r2_mod (de_var 8) de_int))) (ds_one (ds_set (i := 10) sc_law_workers.nd rfl (by first | exact .inl rfl | exact .inr rfl) (de_callC c_law_ladder hr (by decide) (by rfl) (da_cons (de_var 7) (da_cons (de_var 3) (da_cons (de_var 9) da_nil))) (al_cons (al_cons (al_cons al_nil))))))) ds_nil) (ds_one (ds_append (i := 6) (pv 6) (dm_e (de_tup (da_cons (de_ix ix_any r2_ix (de_var 5) (de_var 7)) (da_cons (de_var 8) (da_cons (de_var 10) da_nil)))))))))))) (ds_frz 6 (ds_one (ds_ret (de_var 6)))))))))))
theorem c_law_tools (T : Tx K mg)  : Cl P w K mg base "_law_tools" 1 n_law_tools sf_law_tools := by
  obtain ⟨f, fd, F, hm⟩ := T.f_law_tools
  have hb : L2.Binds K fd ["_law_plan_here", "_law_place"] [] := F.binds (ps := ["_law_plan_here", "_law_place"]) fun _ _ _ _ _ _ us hl => match us, hl with | [_, _], _ => rfl
  refine ⟨f, fd, ["_law_plan_here", "_law_place"], fn_ok (B := b_law_tools) (N := N_law_tools) F sc_law_tools rfl (fun cdv A outer s H E hr => ?_) m_law_tools, hm, F.kp, hb⟩
  exact (ds_cons (ds_own (i := 2) sc_law_tools.nd rfl (by first | exact .inl rfl | exact .inr rfl) (dn_lst da_nil)) (ds_cons (ds_for (ws := [3]) (B := (b_law_tools_f0)) (passes_of rfl) rfl (di_list (de_slice (de_var 0) do_none (do_some (de_var 1)))) (dg_name (i := 3) sc_law_tools.nd rfl (by first | exact .inl rfl | exact .inr rfl) (by decide)) (ds_cons (ds_if (dt_cmp (op_eqA hr) r2_eq (de_ix ix_any r2_ix (de_var 3) de_int) de_str (nomark _)) (ds_one (ds_append (i := 2) (pv 2) (dm_e (de_ix ix_any r2_ix (de_var 3) de_int)))) ds_nil) (ds_one (ds_if (dt_cmp (op_eqA hr) r2_eq (de_ix ix_any r2_ix (de_var 3) de_int) de_str (nomark _)) (ds_one (ds_remove (i := 2) (pv 2) (de_ix ix_any r2_ix (de_var 3) de_int))) ds_nil)))) (ds_frz 2 (ds_one (ds_ret (de_var 2))))))
theorem c_law_there (T : Tx K mg)  : Cl P w K mg base "_law_there" 1 n_law_there sf_law_there := by
  obtain ⟨f, fd, F, hm⟩ := T.f_law_there
  have hb : L2.Binds K fd ["_law_shop_here", "_law_k"] [] := F.binds (ps := ["_law_shop_here", "_law_k"]) fun _ _ _ _ _ _ us hl => match us, hl with | [_, _], _ => rfl
  refine ⟨f, fd, ["_law_shop_here", "_law_k"], fn_ok (B := b_law_there) (N := N_law_there) F sc_law_there rfl (fun cdv A outer s H E hr => ?_) m_law_there, hm, F.kp, hb⟩
  exact (ds_one (ds_ret (de_and (de_cmp op_le r2_le (de_ix ix_any r2_ix (de_ix ix_any r2_ix (de_ix ix_any r2_ix (de_var 0) de_int) (de_var 1)) de_int) (de_ix ix_any r2_ix (de_var 0) de_int) (nomark _)) (de_one (de_cmp op_lt r2_lt (de_ix ix_any r2_ix (de_ix ix_any r2_ix (de_ix ix_any r2_ix (de_var 0) de_int) (de_var 1)) de_int) (de_callB call_len_seq rc_len (by rfl) T.b_len (by decide +kernel) (da_cons (de_ix ix_any r2_ix (de_ix ix_any r2_ix (de_ix ix_any r2_ix (de_var 0) de_int) (de_var 1)) de_int) da_nil)) (nomark _))))))
theorem c_law_after (T : Tx K mg) (c_law_there : Cl P w K mg base "_law_there" 1 n_law_there sf_law_there) (c_law_tools : Cl P w K mg base "_law_tools" 1 n_law_tools sf_law_tools) : Cl P w K mg base "_law_after" 2 n_law_after sf_law_after := by
  obtain ⟨f, fd, F, hm⟩ := T.f_law_after
  have hb : L2.Binds K fd ["_law_shop_here", "_law_k"] [] := F.binds (ps := ["_law_shop_here", "_law_k"]) fun _ _ _ _ _ _ us hl => match us, hl with | [_, _], _ => rfl
  refine ⟨f, fd, ["_law_shop_here", "_law_k"], fn_ok (B := (b_law_after sf_law_there sf_law_tools)) (N := N_law_after) F sc_law_after rfl (fun cdv A outer s H E hr => ?_) m_law_after, hm, F.kp, hb⟩
  exact (ds_cons (ds_if (dt_not (dt_tru (de_callC c_law_there hr (by decide) (by rfl) (da_cons (de_var 0) (da_cons (de_var 1) da_nil)) (al_cons (al_cons al_nil))))) (ds_one (ds_ret de_non)) ds_nil) (ds_cons (ds_set (i := 2) sc_law_after.nd rfl (by first | exact .inl rfl | exact .inr rfl) (de_ix ix_any r2_ix (de_ix ix_any r2_ix (de_ix ix_any r2_ix (de_ix ix_any r2_ix (de_var 0) de_int) (de_var 1)) de_int) (de_ix ix_any r2_ix (de_ix ix_any r2_ix (de_ix ix_any r2_ix (de_var 0) de_int) (de_var 1)) de_int))) (ds_cons (ds_if (dt_cmp (op_neA hr) r2_ne (de_ix ix_any r2_ix (de_var 2) de_int) de_str (nomark _)) (ds_one (ds_ret de_non)) ds_nil) (ds_cons (ds_for (ws := [3]) (B := (b_law_after_f0 sf_law_there sf_law_tools)) (passes_of rfl) rfl (di_rng1 (by rfl) T.b_range (da_cons (de_callB call_len_seq rc_len (by rfl) T.b_len (by decide +kernel) (da_cons (de_ix ix_any r2_ix (de_var 0) de_int) da_nil)) da_nil)) (dg_name (i := 3) sc_law_after.nd rfl (by first | exact .inl rfl | exact .inr rfl) (by decide)) (ds_one (ds_if (dt_cmp op_in_seq r2_in (de_ix ix_any r2_ix (de_var 2) de_int) (de_callC c_law_tools hr (by decide) (by rfl) (da_cons (de_ix ix_any r2_ix (de_ix ix_any r2_ix (de_ix ix_any r2_ix (de_var 0) de_int) (de_var 3)) de_int) (da_cons (de_ix ix_any r2_ix (de_ix ix_any r2_ix (de_ix ix_any r2_ix (de_var 0) de_int) (de_var 3)) de_int) da_nil)) (al_cons (al_cons al_nil))) (by rfl)) (ds_one (ds_ret (de_var 3))) ds_nil))) (ds_one (ds_ret de_non))))))
theorem c_law_chain (T : Tx K mg) (c_law_after : Cl P w K mg base "_law_after" 2 n_law_after sf_law_after) : Cl P w K mg base "_law_chain" 3 n_law_chain sf_law_chain := by
  obtain ⟨f, fd, F, hm⟩ := T.f_law_chain
  have hb : L2.Binds K fd ["_law_shop_here", "_law_k"] [] := F.binds (ps := ["_law_shop_here", "_law_k"]) fun _ _ _ _ _ _ us hl => match us, hl with | [_, _], _ => rfl
  refine ⟨f, fd, ["_law_shop_here", "_law_k"], fn_ok (B := (b_law_chain sf_law_after)) (N := N_law_chain) F sc_law_chain rfl (fun cdv A outer s H E hr => ?_) m_law_chain, hm, F.kp, hb⟩
  exact (ds_cons (ds_own (i := 2) sc_law_chain.nd rfl (by first | exact .inl rfl | exact .inr rfl) (dn_lst (da_cons (de_var 1) da_nil))) (ds_cons (ds_set (i := 3) sc_law_chain.nd rfl (by first | exact .inl rfl | exact .inr rfl) (de_callC c_law_after hr (by decide) (by rfl) (da_cons (de_var 0) (da_cons (de_var 1) da_nil)) (al_cons (al_cons al_nil)))) (ds_cons (ds_while (B := (b_law_chain_w0 sf_law_after)) 100000 (passes_of rfl) (PW.pt (dw_and (dt_cmp op_notN r2_notN (de_var 3) de_non (nomark _)) (dw_and1 (dt_cmp op_lt r2_lt (de_bor 2 (de_callB call_len_seq rc_len (by rfl) T.b_len (by decide +kernel) (da_cons (de_var 2) da_nil))) de_int (nomark _))))) (ds_cons (ds_append (i := 2) (pv 2) (dm_e (de_var 3))) (ds_one (ds_set (i := 3) sc_law_chain.nd rfl (by first | exact .inl rfl | exact .inr rfl) (de_callC c_law_after hr (by decide) (by rfl) (da_cons (de_var 0) (da_cons (de_var 3) da_nil)) (al_cons (al_cons al_nil))))))) (ds_frz 2 (ds_one (ds_ret (de_var 2)))))))
theorem c_law_spot (T : Tx K mg) (c_law_tools : Cl P w K mg base "_law_tools" 1 n_law_tools sf_law_tools) : ClO P w K mg base "_law_spot" 2 n_law_spot sf_law_spot := by
  obtain ⟨f, fd, F, hm⟩ := T.f_law_spot
  have hb : L2.Binds K fd ["_law_worker", "_law_number", "_law_taken"] [] := F.binds (ps := ["_law_worker", "_law_number", "_law_taken"]) fun _ _ _ _ _ _ us hl => match us, hl with | [_, _, _], _ => rfl
  refine ⟨f, fd, ["_law_worker", "_law_number", "_law_taken"], fn_okO (B := (b_law_spot sf_law_tools)) (N := N_law_spot) F sc_law_spot rfl (by decide) (fun cdv A outer s H E hr => ?_) m_law_spot, hm, F.kp, hb⟩
  exact (ds_cons (ds_set (i := 3) sc_law_spot.nd rfl (by first | exact .inl rfl | exact .inr rfl) (de_ix ix_any r2_ix (de_var 0) de_int)) (ds_cons (ds_set (i := 4) sc_law_spot.nd rfl (by first | exact .inl rfl | exact .inr rfl) (de_op op_mod r2_mod (de_var 1) (de_op op_addA r2_add (de_callB call_len_seq rc_len (by rfl) T.b_len (by decide +kernel) (da_cons (de_var 3) da_nil)) de_int))) (ds_cons (ds_lc (i := 5) rfl sc_law_spot.nd rfl rfl (sw_true rfl rfl rfl (by decide +kernel)) (di_rng1 (by rfl) T.b_range (da_cons (de_callB call_len_seq rc_len (by rfl) T.b_len (by decide +kernel) (da_cons (de_var 3) da_nil)) da_nil)) (blkOk_by (own := [("_law_at", 8)]) (N := N_law_spot) (sc := defScope s_law_spot) (by decide +kernel)) rfl (fun _ _ _ _ _ => (dg_name (i := 8) sc_law_spot.nd rfl (by first | exact .inl rfl | exact .inr rfl) (by decide))) (fun _ _ _ _ _ => (dts_one (dt_cmp (op_eqA hr) r2_eq (de_ix ix_any r2_ix (de_ix ix_any r2_ix (de_var 3) (de_var 8)) de_int) de_str (nomark _)))) (fun _ _ _ _ _ => (de_var 8))) (ds_frz 5 (ds_cons (ds_if (PW.pt (dw_and (dt_cmp (op_eqA hr) r2_eq (de_op op_mod r2_mod (de_op op_fdiv r2_div (de_var 1) de_int) de_int) de_int (nomark _)) (dw_and1 (dt_cmp (op_neA hr) r2_ne (de_var 5) (de_lst da_nil) (nomark _))))) (ds_one (ds_set (i := 4) sc_law_spot.nd rfl (by first | exact .inl rfl | exact .inr rfl) (de_ix ix_any r2_ix (de_var 5) (de_neg de_int)))) ds_nil) (ds_cons (ds_while (B := (b_law_spot_w0 sf_law_tools)) 100000 (passes_of rfl) (PW.pt (dw_and (dt_cmp op_lt r2_lt (de_var 4) (de_callB call_len_seq rc_len (by rfl) T.b_len (by decide +kernel) (da_cons (de_var 3) da_nil)) (nomark _)) (dw_and1 (dt_cmp (op_eqA hr) r2_eq (de_ix ix_any r2_ix (de_ix ix_any r2_ix (de_var 3) (de_var 4)) de_int) de_str (nomark _))))) (ds_one (ds_set (i := 4) sc_law_spot.nd rfl (by first | exact .inl rfl | exact .inr rfl) (de_op op_addA r2_add (de_var 4) de_int)))) (ds_cons (ds_set (i := 6) sc_law_spot.nd rfl (by first | exact .inl rfl | exact .inr rfl) (de_callC c_law_tools hr (by decide) (by rfl) (da_cons (de_var 3) (da_cons (de_var 4) da_nil)) (al_cons (al_cons al_nil)))) (ds_cons (ds_if (dt_cmp (op_neA hr) r2_ne (de_new (dn_lc rfl sc_law_spot.nd (di_list (de_var 6)) (blkOk_by (own := [("_law_tool", 9)]) (N := N_law_spot) (sc := defScope s_law_spot) (by decide +kernel)) rfl (fun _ _ _ _ _ => (dg_name (i := 9) sc_law_spot.nd rfl (by first | exact .inl rfl | exact .inr rfl) (by decide))) (fun _ _ _ _ _ => (dts_one (dt_bor 2 (dt_cmp op_in_seq r2_in (de_var 9) (de_var 2) (by rfl))))) (fun _ _ _ _ _ => (de_var 9)))) (de_lst da_nil) (nomark _)) (ds_one (ds_ret (de_tup (da_cons de_int (da_cons de_int da_nil))))) ds_nil) (ds_cons (ds_set (i := 7) sc_law_spot.nd rfl (by first | exact .inl rfl | exact .inr rfl) de_int) (ds_cons (ds_if (PW.pt (dw_and (dt_cmp op_lt r2_lt (de_var 4) (de_callB call_len_seq rc_len (by rfl) T.b_len (by decide +kernel) (da_cons (de_var 3) da_nil)) (nomark _)) (dw_and1 (dt_cmp (op_eqA hr) r2_eq (de_ix ix_any r2_ix (de_ix ix_any r2_ix (de_var 3) (de_var 4)) de_int) de_str (nomark _))))) (ds_one (ds_set (i := 7) sc_law_spot.nd rfl (by first | exact .inl rfl | exact .inr rfl) (de_op op_mod r2_mod (de_op op_fdiv r2_div (de_var 1) de_int) (de_ix ix_any r2_ix (de_ix ix_any r2_ix (de_var 3) (de_var 4)) de_int)))) ds_nil) (ds_cons (ds_extend (i := 2) (pv 2) (de_var 6)) (ds_one (ds_ret (de_tup (da_cons (de_var 4) (da_cons (de_var 7) da_nil))))))))))))))))
theorem c_law_shop (T : Tx K mg) (c_law_workers : Cl P w K mg base "_law_workers" 3 n_law_workers sf_law_workers) (c_law_cell_at : Cl P w K mg base "_law_cell_at" 1 n_law_cell_at sf_law_cell_at) (c_law_mixed : Cl P w K mg base "_law_mixed" 1 n_law_mixed sf_law_mixed) (c_law_spot : ClO P w K mg base "_law_spot" 2 n_law_spot sf_law_spot) : Cl P w K mg base "_law_shop" 4 n_law_shop sf_law_shop := by
  obtain ⟨f, fd, F, hm⟩ := T.f_law_shop
  have hb : L2.Binds K fd ["_law_script", "_law_most"] [] := F.binds (ps := ["_law_script", "_law_most"]) fun _ _ _ _ _ _ us hl => match us, hl with | [_, _], _ => rfl
  refine ⟨f, fd, ["_law_script", "_law_most"], fn_ok (B := (b_law_shop sf_law_workers sf_law_cell_at sf_law_mixed sf_law_spot)) (N := N_law_shop) F sc_law_shop rfl (fun cdv A outer s H E hr => ?_) m_law_shop, hm, F.kp, hb⟩
  exact (ds_cons (ds_set (i := 2) sc_law_shop.nd rfl (by first | exact .inl rfl | exact .inr rfl) (de_callC c_law_workers hr (by decide) (by rfl) (da_cons (de_var 0) (da_cons (de_var 1) (da_cons de_int da_nil))) (al_cons (al_cons (al_cons al_nil))))) (ds_cons (ds_set (i := 3) sc_law_shop.nd rfl (by first | exact .inl rfl | exact .inr rfl) (de_op op_mod r2_mod (de_callC c_law_cell_at hr (by decide) (by rfl) (da_cons (de_var 0) (da_cons de_int da_nil)) (al_cons (al_cons al_nil))) de_int)) (ds_cons (ds_own (i := 4) sc_law_shop.nd rfl (by first | exact .inl rfl | exact .inr rfl) (dn_lst da_nil)) (ds_cons (ds_own (i := 5) sc_law_shop.nd rfl (by first | exact .inl rfl | exact .inr rfl) (dn_lst da_nil)) (ds_cons (ds_for (ws := [6]) (B := (b_law_shop_f0 sf_law_workers sf_law_cell_at sf_law_mixed sf_law_spot)) (passes_of rfl) rfl (di_rng1 (by rfl) T.b_range (da_cons (de_callB call_len_seq rc_len (by rfl) T.b_len (by decide +kernel) (da_cons (de_var 2) da_nil)) da_nil)) (dg_name (i := 6) sc_law_shop.nd rfl (by first | exact .inl rfl | exact .inr rfl) (by decide)) (ds_cons (ds_set (i := 7) sc_law_shop.nd rfl (by first | exact .inl rfl | exact .inr rfl) (de_tup (da_cons de_int (da_cons de_int da_nil)))) (ds_cons (ds_if (dt_cmp op_le r2_le (de_ix ix_any r2_ix (de_ix ix_any r2_ix (de_var 2) (de_var 6)) de_int) (de_var 3) (nomark _)) (ds_one (ds_setM (i := 7) sc_law_shop.nd rfl (by first | exact .inl rfl | exact .inr rfl) (dm_callO c_law_spot hr (by decide) (by rfl) (dao_cons (de_ix ix_any r2_ix (de_var 2) (de_var 6)) (dao_cons (de_callC c_law_mixed hr (by decide) (by rfl) (da_cons (de_callC c_law_cell_at hr (by decide) (by rfl) (da_cons (de_var 0) (da_cons (de_op op_addA r2_add de_int (de_var 6)) da_nil)) (al_cons (al_cons al_nil))) (da_cons (de_op op_addA r2_add de_int (de_var 6)) da_nil)) (al_cons (al_cons al_nil))) (dao_last (pv 5)))) (al_cons (al_cons al_nil)) (by decide)))) ds_nil) (ds_one (ds_append (i := 4) (pv 4) (dm_e (de_var 7))))))) (ds_frz 4 (ds_one (ds_ret (de_tup (da_cons (de_var 2) (da_cons (de_var 3) (da_cons (de_var 4) da_nil))))))))))))
theorem c_law_asked (T : Tx K mg) (c_step_of : Cl P w K mg base "step_of" 3 n_step_of sf_step_of) (c_waits : Cl P w K mg base "waits" 4 n_waits sf_waits) (c_chain : Cl P w K mg base "chain" 5 n_chain sf_chain) (c_rank_of : Cl P w K mg base "rank_of" 7 n_rank_ofX sf_rank_ofX) (c_lenders : Cl P w K mg base "lenders" 6 n_lenders sf_lenders) (c_rest_of : Cl P w K mg base "rest_of" 3 n_rest_of sf_rest_of) : Cl P w K mg base "_law_asked" 8 n_law_asked sf_law_asked := by
  obtain ⟨f, fd, F, hm⟩ := T.f_law_asked
  have hb : L2.Binds K fd ["_law_shop_here", "_law_k", "_law_which"] [] := F.binds (ps := ["_law_shop_here", "_law_k", "_law_which"]) fun _ _ _ _ _ _ us hl => match us, hl with | [_, _, _], _ => rfl
  refine ⟨f, fd, ["_law_shop_here", "_law_k", "_law_which"], fn_ok (B := (b_law_asked sf_step_of sf_waits sf_chain sf_rank_ofX sf_lenders sf_rest_of)) (N := N_law_asked) F sc_law_asked rfl (fun cdv A outer s H E hr => ?_) m_law_asked, hm, F.kp, hb⟩
  exact (ds_cons (ds_if (dt_cmp (op_eqA hr) r2_eq (de_var 2) de_int (nomark _)) (ds_one (ds_exprX (dx_callC c_step_of hr (by decide) (by rfl) (takes_of rfl rfl rfl rfl) (da_cons (de_var 0) (da_cons (de_var 1) da_nil)) (al_cons (al_cons al_nil))))) ds_nil) (ds_cons (ds_if (dt_cmp (op_eqA hr) r2_eq (de_var 2) de_int (nomark _)) (ds_one (ds_exprX (dx_callC c_waits hr (by decide) (by rfl) (takes_of rfl rfl rfl rfl) (da_cons (de_var 0) (da_cons (de_var 1) da_nil)) (al_cons (al_cons al_nil))))) ds_nil) (ds_cons (ds_if (dt_cmp (op_eqA hr) r2_eq (de_var 2) de_int (nomark _)) (ds_one (ds_exprX (dx_callC c_chain hr (by decide) (by rfl) (takes_of rfl rfl rfl rfl) (da_cons (de_var 0) (da_cons (de_var 1) da_nil)) (al_cons (al_cons al_nil))))) ds_nil) (ds_cons (ds_if (dt_cmp (op_eqA hr) r2_eq (de_var 2) de_int (nomark _)) (ds_one (ds_exprX (dx_callC c_rank_of hr (by decide) (by rfl) (takes_of rfl rfl rfl rfl) (da_cons (de_var 0) (da_cons (de_var 1) da_nil)) (al_cons (al_cons al_nil))))) ds_nil) (ds_cons (ds_if (dt_cmp (op_eqA hr) r2_eq (de_var 2) de_int (nomark _)) (ds_one (ds_exprX (dx_callC c_lenders hr (by decide) (by rfl) (takes_of rfl rfl rfl rfl) (da_cons (de_var 0) (da_cons (de_var 1) da_nil)) (al_cons (al_cons al_nil))))) ds_nil) (ds_one (ds_if (dt_cmp (op_eqA hr) r2_eq (de_var 2) de_int (nomark _)) (ds_one (ds_exprX (dx_callC c_rest_of hr (by decide) (by rfl) (takes_of rfl rfl rfl rfl) (da_cons (de_var 0) (da_cons (de_var 1) da_nil)) (al_cons (al_cons al_nil))))) ds_nil)))))))
theorem c_law_refused (T : Tx K mg) (c_law_asked : Cl P w K mg base "_law_asked" 8 n_law_asked sf_law_asked) : Cl P w K mg base "_law_refused" 9 n_law_refused sf_law_refused := by
  obtain ⟨f, fd, F, hm⟩ := T.f_law_refused
  have hb : L2.Binds K fd ["_law_shop_here", "_law_k", "_law_which", "_law_way"] [] := F.binds (ps := ["_law_shop_here", "_law_k", "_law_which", "_law_way"]) fun _ _ _ _ _ _ us hl => match us, hl with | [_, _, _, _], _ => rfl
  refine ⟨f, fd, ["_law_shop_here", "_law_k", "_law_which", "_law_way"], fn_ok (B := (b_law_refused sf_law_asked)) (N := N_law_refused) F sc_law_refused rfl (fun cdv A outer s H E hr => ?_) m_law_refused, hm, F.kp, hb⟩
  exact (ds_cons (ds_if (dt_cmp (op_eqA hr) r2_eq (de_var 3) de_int (nomark _)) (ds_cons (ds_try_as (B := (b_law_refused_t0 sf_law_asked)) (Sr := Sr_law_refused0) T.errs (by decide) rfl rfl sc_law_refused.nd rfl rfl (by rfl) (takes_of rfl rfl rfl rfl) (by decide) (fun W pn xe tk _ => (ds_one (ds_exprX (dx_callC c_law_asked hr (by decide) (by rfl) tk (da_cons (de_var 0) (da_cons (de_var 1) (da_cons (de_var 2) da_nil))) (al_cons (al_cons (al_cons al_nil))))))) Sf_law_refused0 (fun a oe pn c C hc gC hE hz hf => (ds_one (ds_ret (de_isEc T.errs hc gC hE hz hf (by decide) (by rfl) T.b_isinstance (pv 4) (by rfl))))) hres_law_refused0) (ds_one (ds_ret de_bl))) ds_nil) (ds_cons (ds_try_as (B := (b_law_refused_t2 sf_law_asked)) (Sr := Sr_law_refused1) T.errs (by decide) rfl rfl sc_law_refused.nd rfl rfl (by rfl) (takes_of rfl rfl rfl rfl) (by decide) (fun W pn xe tk _ => (ds_one (ds_exprX (dx_callC c_law_asked hr (by decide) (by rfl) tk (da_cons (de_var 0) (da_cons (de_var 1) (da_cons (de_var 2) da_nil))) (al_cons (al_cons (al_cons al_nil))))))) Sf_law_refused1 (fun a oe pn c C hc gC hE hz hf => (ds_one (ds_ret (de_isEv T.errs hc gC hE hz hf (by rfl) T.b_isinstance (pv 4) (by rfl) T.b_ValueError)))) hres_law_refused1) (ds_one (ds_ret de_bl))))
theorem c_law_held (T : Tx K mg) (c_law_tools : Cl P w K mg base "_law_tools" 1 n_law_tools sf_law_tools) : Cl P w K mg base "_law_held" 2 n_law_held sf_law_held := by
  obtain ⟨f, fd, F, hm⟩ := T.f_law_held
  have hb : L2.Binds K fd ["_law_shop_here"] [] := F.binds (ps := ["_law_shop_here"]) fun _ _ _ _ _ _ us hl => match us, hl with | [_], _ => rfl
  refine ⟨f, fd, ["_law_shop_here"], fn_ok (B := (b_law_held sf_law_tools)) (N := N_law_held) F sc_law_held rfl (fun cdv A outer s H E hr => ?_) m_law_held, hm, F.kp, hb⟩
  exact (ds_cons (ds_own (i := 1) sc_law_held.nd rfl (by first | exact .inl rfl | exact .inr rfl) dn_dict0) (ds_cons (ds_for (ws := [2]) (B := (b_law_held_f1 sf_law_tools)) (passes_of rfl) rfl (di_rng1 (by rfl) T.b_range (da_cons (de_callB call_len_seq rc_len (by rfl) T.b_len (by decide +kernel) (da_cons (de_ix ix_any r2_ix (de_var 0) de_int) da_nil)) da_nil)) (dg_name (i := 2) sc_law_held.nd rfl (by first | exact .inl rfl | exact .inr rfl) (by decide)) (ds_one (ds_for (ws := [3]) (B := (b_law_held_f0 sf_law_tools)) (passes_of rfl) rfl (di_list (de_callC c_law_tools hr (by decide) (by rfl) (da_cons (de_ix ix_any r2_ix (de_ix ix_any r2_ix (de_ix ix_any r2_ix (de_var 0) de_int) (de_var 2)) de_int) (da_cons (de_ix ix_any r2_ix (de_ix ix_any r2_ix (de_ix ix_any r2_ix (de_var 0) de_int) (de_var 2)) de_int) da_nil)) (al_cons (al_cons al_nil)))) (dg_name (i := 3) sc_law_held.nd rfl (by first | exact .inl rfl | exact .inr rfl) (by decide)) (ds_one (ds_dput hr (de_var 2) (pv 1) (de_var 3)))))) (ds_frz 1 (ds_one (ds_ret (de_new (dn_sortedP (by rfl) T.b_sorted (de_new (dn_lock 1 (dn_lc rfl sc_law_held.nd (di_keys (pv 1)) (blkOk_by (own := [("_law_tool", 3)]) (N := N_law_held) (sc := defScope s_law_held) (by decide +kernel)) rfl (fun _ _ _ _ _ => (dg_name (i := 3) sc_law_held.nd rfl (by first | exact .inl rfl | exact .inr rfl) (by decide))) (fun _ _ _ _ _ => dts_nil) (fun _ _ _ _ _ => (de_tup (da_cons (de_var 3) (da_cons (de_dget hr (de_var 1) (de_var 3)) da_nil))))))))))))))
theorem k_law {f : Addr} {fd : FuncData} (F : Fun K "law" "law" s_law f fd) (T : Tx K mg) (c_law_shop : Cl P w K mg base "_law_shop" 4 n_law_shop sf_law_shop) (c_law_there : Cl P w K mg base "_law_there" 1 n_law_there sf_law_there) (c_law_held : Cl P w K mg base "_law_held" 2 n_law_held sf_law_held) (c_there : Cl P w K mg base "there" 4 n_there sf_there) (c_held : Cl P w K mg base "held" 2 n_held sf_held) (c_law_alike : Cl P w K mg base "_law_alike" 8 n_law_alike sf_law_alike) (c_step_of : Cl P w K mg base "step_of" 3 n_step_of sf_step_of) (c_law_cell_at : Cl P w K mg base "_law_cell_at" 1 n_law_cell_at sf_law_cell_at) (c_law_mixed : Cl P w K mg base "_law_mixed" 1 n_law_mixed sf_law_mixed) (c_law_refused : Cl P w K mg base "_law_refused" 9 n_law_refused sf_law_refused) : FnOk P w K mg base (L2.CX P w) 10 f fd ["_law_script"] (spF K mg 1 sf_law) := by
  refine fn_ok (B := (b_law sf_law_shop sf_law_there sf_law_held sf_there sf_held sf_law_alike sf_step_of sf_law_cell_at sf_law_mixed sf_law_refused)) (N := N_law) F sc_law rfl (fun cdv A outer s H E hr => ?_) m_law
  exact (ds_cons (ds_set (i := 1) sc_law.nd rfl (by first | exact .inl rfl | exact .inr rfl) (de_callC c_law_shop hr (by decide) (by rfl) (da_cons (de_var 0) (da_cons de_int da_nil)) (al_cons (al_cons al_nil)))) (ds_cons (ds_set (i := 2) sc_law.nd rfl (by first | exact .inl rfl | exact .inr rfl) (de_callB call_len_seq rc_len (by rfl) T.b_len (by decide +kernel) (da_cons (de_ix ix_any r2_ix (de_var 1) de_int) da_nil))) (ds_cons (ds_lc (i := 3) rfl sc_law.nd rfl rfl (sw_true rfl rfl rfl (by decide +kernel)) (di_rng1 (by rfl) T.b_range (da_cons (de_var 2) da_nil)) (blkOk_by (own := [("_law_k", 7)]) (N := N_law) (sc := defScope s_law) (by decide +kernel)) rfl (fun _ _ _ _ _ => (dg_name (i := 7) sc_law.nd rfl (by first | exact .inl rfl | exact .inr rfl) (by decide))) (fun _ _ _ _ _ => (dts_one (dt_tru (de_callC c_law_there hr (by decide) (by rfl) (da_cons (de_var 1) (da_cons (de_var 7) da_nil)) (al_cons (al_cons al_nil)))))) (fun _ _ _ _ _ => (de_var 7))) (ds_frz 3 (ds_cons (ds_set (i := 4) sc_law.nd rfl (by first | exact .inl rfl | exact .inr rfl) (de_callC c_law_held hr (by decide) (by rfl) (da_cons (de_var 1) da_nil) (al_cons al_nil))) (ds_cons (ds_newApp (dn_callC c_there hr (by decide) (by rfl) (da_cons (de_var 1) da_nil) (al_cons al_nil)) de_int) (ds_cons (ds_own (i := 5) sc_law.nd rfl (by first | exact .inl rfl | exact .inr rfl) (dn_callCd c_held hr (by decide) (by rfl) (da_cons (de_var 1) da_nil) (al_cons al_nil))) (ds_cons (ds_if (dt_not (dt_bor 5 (dt_tru (de_isi .dict (by decide +kernel) (by rfl) T.b_isinstance (by rfl) T.b_dict (de_var 5))))) (ds_one (ds_ret de_bl)) ds_nil) (ds_cons (ds_if (dt_not (dt_bor 5 (dt_tru (de_callC c_law_alike hr (by decide) (by rfl) (da_cons (de_new (dn_sortedP (by rfl) T.b_sorted (de_new (dn_lock 5 (dn_lc rfl sc_law.nd (di_keys (pv 5)) (blkOk_by (own := [("_law_tool", 12)]) (N := N_law) (sc := defScope s_law) (by decide +kernel)) rfl (fun _ _ _ _ _ => (dg_name (i := 12) sc_law.nd rfl (by first | exact .inl rfl | exact .inr rfl) (by decide))) (fun _ _ _ _ _ => dts_nil) (fun _ _ _ _ _ => (de_tup (da_cons (de_var 12) (da_cons (de_dget hr (de_var 5) (de_var 12)) da_nil))))))))) (da_cons (de_var 4) da_nil)) (al_cons (al_cons al_nil)))))) (ds_one (ds_ret de_bl)) ds_nil) (ds_cons (ds_dput hr de_int (pv 5) de_int) (ds_cons (ds_set (i := 6) sc_law.nd rfl (by first | exact .inl rfl | exact .inr rfl) (de_callC c_held hr (by decide) (by rfl) (da_cons (de_var 1) da_nil) (al_cons al_nil))) (ds_cons (ds_if (PW.pt (dw_or (dt_not (dt_tru (de_callC c_law_alike hr (by decide) (by rfl) (da_cons (de_callC c_there hr (by decide) (by rfl) (da_cons (de_var 1) da_nil) (al_cons al_nil)) (da_cons (de_var 3) da_nil)) (al_cons (al_cons al_nil))))) (dw_or1 (dt_cmp (op_neA hr) r2_ne (de_new (dn_sortedP (by rfl) T.b_sorted (de_new (dn_lock 6 (dn_lc rfl sc_law.nd (di_keys (pv 6)) (blkOk_by (own := [("_law_tool", 12)]) (N := N_law) (sc := defScope s_law) (by decide +kernel)) rfl (fun _ _ _ _ _ => (dg_name (i := 12) sc_law.nd rfl (by first | exact .inl rfl | exact .inr rfl) (by decide))) (fun _ _ _ _ _ => dts_nil) (fun _ _ _ _ _ => (de_tup (da_cons (de_var 12) (da_cons (de_dget hr (de_var 6) (de_var 12)) da_nil))))))))) (de_var 4) (nomark _))))) (ds_one (ds_ret de_bl)) ds_nil) (ds_cons (ds_for (ws := [7]) (B := (b_law_f0 sf_law_shop sf_law_there sf_law_held sf_there sf_held sf_law_alike sf_step_of sf_law_cell_at sf_law_mixed sf_law_refused)) (passes_of rfl) rfl (di_rng1 (by rfl) T.b_range (da_cons (de_var 2) da_nil)) (dg_name (i := 7) sc_law.nd rfl (by first | exact .inl rfl | exact .inr rfl) (by decide)) (ds_cons (ds_set (i := 11) sc_law.nd rfl (by first | exact .inl rfl | exact .inr rfl) de_non) (ds_cons (ds_if (dt_cmp op_lt r2_lt (de_ix ix_any r2_ix (de_ix ix_any r2_ix (de_ix ix_any r2_ix (de_var 1) de_int) (de_var 7)) de_int) (de_callB call_len_seq rc_len (by rfl) T.b_len (by decide +kernel) (da_cons (de_ix ix_any r2_ix (de_ix ix_any r2_ix (de_ix ix_any r2_ix (de_var 1) de_int) (de_var 7)) de_int) da_nil)) (nomark _)) (ds_one (ds_set (i := 11) sc_law.nd rfl (by first | exact .inl rfl | exact .inr rfl) (de_ix ix_any r2_ix (de_ix ix_any r2_ix (de_ix ix_any r2_ix (de_ix ix_any r2_ix (de_var 1) de_int) (de_var 7)) de_int) (de_ix ix_any r2_ix (de_ix ix_any r2_ix (de_ix ix_any r2_ix (de_var 1) de_int) (de_var 7)) de_int)))) ds_nil) (ds_one (ds_if (dt_not (dt_tru (de_callC c_law_alike hr (by decide) (by rfl) (da_cons (de_callC c_step_of hr (by decide) (by rfl) (da_cons (de_var 1) (da_cons (de_var 7) da_nil)) (al_cons (al_cons al_nil))) (da_cons (de_var 11) da_nil)) (al_cons (al_cons al_nil))))) (ds_one (ds_ret de_bl)) ds_nil))))) (ds_cons (ds_set (i := 8) sc_law.nd rfl (by first | exact .inl rfl | exact .inr rfl) (de_callC c_law_mixed hr (by decide) (by rfl) (da_cons (de_callC c_law_cell_at hr (by decide) (by rfl) (da_cons (de_var 0) (da_cons de_int da_nil)) (al_cons (al_cons al_nil))) (da_cons de_int da_nil)) (al_cons (al_cons al_nil)))) (ds_cons (ds_set (i := 9) sc_law.nd rfl (by first | exact .inl rfl | exact .inr rfl) (de_ix ix_any r2_ix (de_lst (da_cons (de_neg de_int) (da_cons (de_var 2) (da_cons (de_op op_addA r2_add (de_var 2) (de_var 8)) (da_cons (de_op op_sub r2_sub (de_neg de_int) (de_var 8)) (da_cons de_bl (da_cons de_bl (da_cons de_non (da_cons de_str da_nil))))))))) (de_op op_mod r2_mod (de_var 8) de_int))) (ds_cons (ds_for (ws := [10]) (B := (b_law_f1 sf_law_shop sf_law_there sf_law_held sf_there sf_held sf_law_alike sf_step_of sf_law_cell_at sf_law_mixed sf_law_refused)) (passes_of rfl) rfl (di_rng1 (by rfl) T.b_range (da_cons de_int da_nil)) (dg_name (i := 10) sc_law.nd rfl (by first | exact .inl rfl | exact .inr rfl) (by decide)) (ds_one (ds_if (dt_not (dt_tru (de_callC c_law_refused hr (by decide) (by rfl) (da_cons (de_var 1) (da_cons (de_var 9) (da_cons (de_var 10) (da_cons (de_op op_mod r2_mod (de_op op_fdiv r2_div (de_var 8) de_int) de_int) da_nil)))) (al_cons (al_cons (al_cons (al_cons al_nil))))))) (ds_one (ds_ret de_bl)) ds_nil))) (ds_one (ds_ret (de_callC c_law_alike hr (by decide) (by rfl) (da_cons (de_var 1) (da_cons (de_callC c_law_shop hr (by decide) (by rfl) (da_cons (de_var 0) (da_cons de_int da_nil)) (al_cons (al_cons al_nil))) da_nil)) (al_cons (al_cons al_nil)))))))))))))))))))))
end LH

namespace LH
open PySem PySem.Spec PyProof.Rows L2 Evl DL

def fns : List He.DefD := [⟨("is_number", none), "is_number", "is_number", defArgs s_is_number, defBody s_is_number, defScope s_is_number, [], []⟩, ⟨("held_after", none), "held_after", "held_after", defArgs s_held_after, defBody s_held_after, defScope s_held_after, [], []⟩, ⟨("check_number", none), "check_number", "check_number", defArgs s_check_number, defBody s_check_number, defScope s_check_number, [], []⟩, ⟨("plan_of", none), "plan_of", "plan_of", defArgs s_plan_of, defBody s_plan_of, defScope s_plan_of, [], []⟩, ⟨("place_of", none), "place_of", "place_of", defArgs s_place_of, defBody s_place_of, defScope s_place_of, [], []⟩, ⟨("own_rank", none), "own_rank", "own_rank", defArgs s_own_rank, defBody s_own_rank, defScope s_own_rank, [], []⟩, ⟨("has_steps", none), "has_steps", "has_steps", defArgs s_has_steps, defBody s_has_steps, defScope s_has_steps, [], []⟩, ⟨("is_there", none), "is_there", "is_there", defArgs s_is_there, defBody s_is_there, defScope s_is_there, [], []⟩, ⟨("there", none), "there", "there", defArgs s_there, defBody s_there, defScope s_there, [], []⟩, ⟨("held", none), "held", "held", defArgs s_held, defBody s_held, defScope s_held, [], []⟩, ⟨("step_of", none), "step_of", "step_of", defArgs s_step_of, defBody s_step_of, defScope s_step_of, [], []⟩, ⟨("waits", none), "waits", "waits", defArgs s_waits, defBody s_waits, defScope s_waits, [], []⟩, ⟨("chain", none), "chain", "chain", defArgs s_chain, defBody s_chain, defScope s_chain, [], []⟩, ⟨("lenders", none), "lenders", "lenders", defArgs s_lenders, defBody s_lenders, defScope s_lenders, [], []⟩, ⟨("rank_of", none), "rank_of", "rank_of", defArgs s_rank_of, defBody s_rank_of, defScope s_rank_of, [], []⟩, ⟨("rest_of", none), "rest_of", "rest_of", defArgs s_rest_of, defBody s_rest_of, defScope s_rest_of, [], []⟩, ⟨("_law_cell_at", none), "_law_cell_at", "_law_cell_at", defArgs s_law_cell_at, defBody s_law_cell_at, defScope s_law_cell_at, [], []⟩, ⟨("_law_mixed", none), "_law_mixed", "_law_mixed", defArgs s_law_mixed, defBody s_law_mixed, defScope s_law_mixed, [], []⟩, ⟨("_law_alike", none), "_law_alike", "_law_alike", defArgs s_law_alike, defBody s_law_alike, defScope s_law_alike, [], []⟩, ⟨("_law_plan", none), "_law_plan", "_law_plan", defArgs s_law_plan, defBody s_law_plan, defScope s_law_plan, [], []⟩, ⟨("_law_ranks", none), "_law_ranks", "_law_ranks", defArgs s_law_ranks, defBody s_law_ranks, defScope s_law_ranks, [], []⟩, ⟨("_law_ladder", none), "_law_ladder", "_law_ladder", defArgs s_law_ladder, defBody s_law_ladder, defScope s_law_ladder, [], []⟩, ⟨("_law_workers", none), "_law_workers", "_law_workers", defArgs s_law_workers, defBody s_law_workers, defScope s_law_workers, [], []⟩, ⟨("_law_tools", none), "_law_tools", "_law_tools", defArgs s_law_tools, defBody s_law_tools, defScope s_law_tools, [], []⟩, ⟨("_law_there", none), "_law_there", "_law_there", defArgs s_law_there, defBody s_law_there, defScope s_law_there, [], []⟩, ⟨("_law_after", none), "_law_after", "_law_after", defArgs s_law_after, defBody s_law_after, defScope s_law_after, [], []⟩, ⟨("_law_chain", none), "_law_chain", "_law_chain", defArgs s_law_chain, defBody s_law_chain, defScope s_law_chain, [], []⟩, ⟨("_law_spot", none), "_law_spot", "_law_spot", defArgs s_law_spot, defBody s_law_spot, defScope s_law_spot, [], []⟩, ⟨("_law_shop", none), "_law_shop", "_law_shop", defArgs s_law_shop, defBody s_law_shop, defScope s_law_shop, [], []⟩, ⟨("_law_asked", none), "_law_asked", "_law_asked", defArgs s_law_asked, defBody s_law_asked, defScope s_law_asked, [], []⟩, ⟨("_law_refused", none), "_law_refused", "_law_refused", defArgs s_law_refused, defBody s_law_refused, defScope s_law_refused, [], []⟩, ⟨("_law_held", none), "_law_held", "_law_held", defArgs s_law_held, defBody s_law_held, defScope s_law_held, [], []⟩, ⟨("law", none), "law", "law", defArgs s_law, defBody s_law, defScope s_law, [], []⟩]
def facts : List He.Fa := ([.glo "is_number", .glo "held_after", .glo "check_number", .glo "plan_of", .glo "place_of", .glo "own_rank", .glo "has_steps", .glo "is_there", .glo "there", .glo "held", .glo "step_of", .glo "waits", .glo "chain", .glo "lenders", .glo "rank_of", .glo "rest_of", .glo "_law_cell_at", .glo "_law_mixed", .glo "_law_alike", .glo "_law_plan", .glo "_law_ranks", .glo "_law_ladder", .glo "_law_workers", .glo "_law_tools", .glo "_law_there", .glo "_law_after", .glo "_law_chain", .glo "_law_spot", .glo "_law_shop", .glo "_law_asked"] : List He.Fa) ++ ([.glo "_law_refused", .glo "_law_held", .glo "law", .free "ValueError", .free "all", .free "bool", .free "dict", .free "int", .free "isinstance", .free "len", .free "list", .free "max", .free "min", .free "range", .free "sorted", .free "str", .free "tuple", .glo "HasteError", .exc "HasteError", .glo "NoWorker", .exc "NoWorker", .exm "HasteError" "HasteError" true, .exm "HasteError" "NoWorker" false, .exm "NoWorker" "HasteError" true, .exm "NoWorker" "NoWorker" true] : List He.Fa)
abbrev RR : PySem.W.OpenRow := PySem.W.OpenLaw.row PySem.Challenge.rw_lenthaste_k02_there_and_held
def more : PySem.W.Frag → Bool := (errMore ["NoWorker"])
abbrev hk : PySem.W.Hook := He.hookX 4 facts fns [] [] more
def ob (s : PySem.W.SharedT) : He.AlX := He.obsX 4 facts fns [] [] more (HandSHeadRun.getT s)
theorem ob_eq (s : PySem.W.SharedT) : ob s = hk.obs s.abs := He.obsX_eq (HandSHeadRun.getT_eq s)
def loose : List PySem.Str := (["HasteError", "NoWorker", "is_number", "held_after", "check_number", "plan_of", "place_of", "own_rank", "has_steps", "is_there", "there", "held", "step_of", "waits", "chain", "lenders", "rank_of", "rest_of", "_law_cell_at", "_law_mixed"] : List PySem.Str) ++ (["_law_alike", "_law_plan", "_law_ranks", "_law_ladder", "_law_workers", "_law_tools", "_law_there", "_law_after", "_law_chain", "_law_spot", "_law_shop", "_law_asked", "_law_refused", "_law_held"] : List PySem.Str)
theorem run (w : World) : HandSHeadRun.RunEq RR (PySem.W.view RR.prog [40]) hk ob 4000 loose w := by
  intro os
  kernel_rfl
theorem tx_of {K : PySem.W.Frag} {mg : Str → Option Value} {h : Heap} (KX : K.In h) (G : h.Ns mainGlobals mg) (c : He.SaysD facts fns K) (em : more K = true) : Tx K mg where
  b_ValueError := He.free_ok KX G (c.fact 33)
  b_all := He.free_ok KX G (c.fact 34)
  b_bool := He.free_ok KX G (c.fact 35)
  b_dict := He.free_ok KX G (c.fact 36)
  b_int := He.free_ok KX G (c.fact 37)
  b_isinstance := He.free_ok KX G (c.fact 38)
  b_len := He.free_ok KX G (c.fact 39)
  b_list := He.free_ok KX G (c.fact 40)
  b_max := He.free_ok KX G (c.fact 41)
  b_min := He.free_ok KX G (c.fact 42)
  b_range := He.free_ok KX G (c.fact 43)
  b_sorted := He.free_ok KX G (c.fact 44)
  b_str := He.free_ok KX G (c.fact 45)
  b_tuple := He.free_ok KX G (c.fact 46)
  f_is_number := (fun ⟨fd, F⟩ => ⟨_, fd, F, (He.glo_ok KX G (c.fact 0))⟩) (fun_at c 0 (x := "is_number") rfl)
  f_held_after := (fun ⟨fd, F⟩ => ⟨_, fd, F, (He.glo_ok KX G (c.fact 1))⟩) (fun_at c 1 (x := "held_after") rfl)
  f_check_number := (fun ⟨fd, F⟩ => ⟨_, fd, F, (He.glo_ok KX G (c.fact 2))⟩) (fun_at c 2 (x := "check_number") rfl)
  f_plan_of := (fun ⟨fd, F⟩ => ⟨_, fd, F, (He.glo_ok KX G (c.fact 3))⟩) (fun_at c 3 (x := "plan_of") rfl)
  f_place_of := (fun ⟨fd, F⟩ => ⟨_, fd, F, (He.glo_ok KX G (c.fact 4))⟩) (fun_at c 4 (x := "place_of") rfl)
  f_own_rank := (fun ⟨fd, F⟩ => ⟨_, fd, F, (He.glo_ok KX G (c.fact 5))⟩) (fun_at c 5 (x := "own_rank") rfl)
  f_has_steps := (fun ⟨fd, F⟩ => ⟨_, fd, F, (He.glo_ok KX G (c.fact 6))⟩) (fun_at c 6 (x := "has_steps") rfl)
  f_is_there := (fun ⟨fd, F⟩ => ⟨_, fd, F, (He.glo_ok KX G (c.fact 7))⟩) (fun_at c 7 (x := "is_there") rfl)
  f_there := (fun ⟨fd, F⟩ => ⟨_, fd, F, (He.glo_ok KX G (c.fact 8))⟩) (fun_at c 8 (x := "there") rfl)
  f_held := (fun ⟨fd, F⟩ => ⟨_, fd, F, (He.glo_ok KX G (c.fact 9))⟩) (fun_at c 9 (x := "held") rfl)
  f_step_of := (fun ⟨fd, F⟩ => ⟨_, fd, F, (He.glo_ok KX G (c.fact 10))⟩) (fun_at c 10 (x := "step_of") rfl)
  f_waits := (fun ⟨fd, F⟩ => ⟨_, fd, F, (He.glo_ok KX G (c.fact 11))⟩) (fun_at c 11 (x := "waits") rfl)
  f_chain := (fun ⟨fd, F⟩ => ⟨_, fd, F, (He.glo_ok KX G (c.fact 12))⟩) (fun_at c 12 (x := "chain") rfl)
  f_lenders := (fun ⟨fd, F⟩ => ⟨_, fd, F, (He.glo_ok KX G (c.fact 13))⟩) (fun_at c 13 (x := "lenders") rfl)
  f_rank_of := (fun ⟨fd, F⟩ => ⟨_, fd, F, (He.glo_ok KX G (c.fact 14))⟩) (fun_at c 14 (x := "rank_of") rfl)
  f_rest_of := (fun ⟨fd, F⟩ => ⟨_, fd, F, (He.glo_ok KX G (c.fact 15))⟩) (fun_at c 15 (x := "rest_of") rfl)
  f_law_cell_at := (fun ⟨fd, F⟩ => ⟨_, fd, F, (He.glo_ok KX G (c.fact 16))⟩) (fun_at c 16 (x := "_law_cell_at") rfl)
  f_law_mixed := (fun ⟨fd, F⟩ => ⟨_, fd, F, (He.glo_ok KX G (c.fact 17))⟩) (fun_at c 17 (x := "_law_mixed") rfl)
  f_law_alike := (fun ⟨fd, F⟩ => ⟨_, fd, F, (He.glo_ok KX G (c.fact 18))⟩) (fun_at c 18 (x := "_law_alike") rfl)
  f_law_plan := (fun ⟨fd, F⟩ => ⟨_, fd, F, (He.glo_ok KX G (c.fact 19))⟩) (fun_at c 19 (x := "_law_plan") rfl)
  f_law_ranks := (fun ⟨fd, F⟩ => ⟨_, fd, F, (He.glo_ok KX G (c.fact 20))⟩) (fun_at c 20 (x := "_law_ranks") rfl)
  f_law_ladder := (fun ⟨fd, F⟩ => ⟨_, fd, F, (He.glo_ok KX G (c.fact 21))⟩) (fun_at c 21 (x := "_law_ladder") rfl)
  f_law_workers := (fun ⟨fd, F⟩ => ⟨_, fd, F, (He.glo_ok KX G (c.fact 22))⟩) (fun_at c 22 (x := "_law_workers") rfl)
  f_law_tools := (fun ⟨fd, F⟩ => ⟨_, fd, F, (He.glo_ok KX G (c.fact 23))⟩) (fun_at c 23 (x := "_law_tools") rfl)
  f_law_there := (fun ⟨fd, F⟩ => ⟨_, fd, F, (He.glo_ok KX G (c.fact 24))⟩) (fun_at c 24 (x := "_law_there") rfl)
  f_law_after := (fun ⟨fd, F⟩ => ⟨_, fd, F, (He.glo_ok KX G (c.fact 25))⟩) (fun_at c 25 (x := "_law_after") rfl)
  f_law_chain := (fun ⟨fd, F⟩ => ⟨_, fd, F, (He.glo_ok KX G (c.fact 26))⟩) (fun_at c 26 (x := "_law_chain") rfl)
  f_law_spot := (fun ⟨fd, F⟩ => ⟨_, fd, F, (He.glo_ok KX G (c.fact 27))⟩) (fun_at c 27 (x := "_law_spot") rfl)
  f_law_shop := (fun ⟨fd, F⟩ => ⟨_, fd, F, (He.glo_ok KX G (c.fact 28))⟩) (fun_at c 28 (x := "_law_shop") rfl)
  f_law_asked := (fun ⟨fd, F⟩ => ⟨_, fd, F, (He.glo_ok KX G (c.fact 29))⟩) (fun_at c 29 (x := "_law_asked") rfl)
  f_law_refused := (fun ⟨fd, F⟩ => ⟨_, fd, F, (He.glo_ok KX G (c.fact 30))⟩) (fun_at c 30 (x := "_law_refused") rfl)
  f_law_held := (fun ⟨fd, F⟩ => ⟨_, fd, F, (He.glo_ok KX G (c.fact 31))⟩) (fun_at c 31 (x := "_law_held") rfl)
  f_law := (fun ⟨fd, F⟩ => ⟨_, fd, F, (He.glo_ok KX G (c.fact 32))⟩) (fun_at c 32 (x := "law") rfl)
  errs := errS_of em (fun e he => by
    simp only [List.mem_cons, List.not_mem_nil, or_false] at he
    rcases he with rfl | rfl
    · exact (He.glo_ok KX G (c.fact 47))
    · exact (He.glo_ok KX G (c.fact 49))) (fun e he => by
    simp only [List.mem_cons, List.not_mem_nil, or_false] at he
    rcases he with rfl
    · exact c.fact 50)
theorem close {w : World} {mg : Str → Option Value} {fa : Addr} {h : Heap} (Y : hk.says w h) (G : h.Ns mainGlobals mg) (hmg : mg "law" = some (.ref fa)) :
    ∃ (K : PySem.W.Frag) (fd : FuncData) (sp : Sp), K.In h ∧ (∀ (s : Shared) (u : Value), BindsTo s fd ⟨[u], []⟩ [("_law_script", u)]) ∧
      (∀ (H : Hp) (a : Addr) (ns : List Int), ns.length ≤ 63 → Only H → SqL K H a (ns.map V.int) → sp [.ref a] H (fun v _ => v = .bl true) fun _ _ _ => False) ∧
      ∀ base : Heap, K.In base → base.Ns mainGlobals mg → FnOk RR.prog w K mg base (CXa RR.prog) 10 fa fd ["_law_script"] sp := by
  obtain ⟨K, KX, c⟩ := Y
  have T := tx_of KX G c.t.d c.more
  obtain ⟨f, fd, F, hf⟩ := T.f_law
  rw [hmg] at hf
  cases hf
  refine top_of (p := "_law_script") (sf := sf_law) KX F (fun s u => by
      obtain ⟨_, _, _, _, _, _, _, _, _, rfl, _⟩ := F.ex
      exact .of_eq rfl) (fun base hK hN => ?_) (fun ns hl => sf_law_ok ns hl)
  have c_is_number : Cl RR.prog w K mg base "is_number" 1 n_is_number sf_is_number := c_is_number T
  have c_held_after : Cl RR.prog w K mg base "held_after" 1 n_held_after sf_held_after := c_held_after T
  have c_check_number : Cl RR.prog w K mg base "check_number" 2 n_check_number sf_check_number := c_check_number T c_is_number
  have c_plan_of : Cl RR.prog w K mg base "plan_of" 1 n_plan_of sf_plan_of := c_plan_of T
  have c_place_of : Cl RR.prog w K mg base "place_of" 1 n_place_of sf_place_of := c_place_of T
  have c_own_rank : Cl RR.prog w K mg base "own_rank" 1 n_own_rank sf_own_rank := c_own_rank T
  have c_has_steps : Cl RR.prog w K mg base "has_steps" 2 n_has_steps sf_has_steps := c_has_steps T c_place_of c_plan_of
  have c_is_there : Cl RR.prog w K mg base "is_there" 3 n_is_there sf_is_there := c_is_there T c_has_steps
  have c_there : Cl RR.prog w K mg base "there" 4 n_there sf_there := c_there T c_is_there
  have c_held : Cl RR.prog w K mg base "held" 2 n_held sf_held := c_held T c_plan_of c_place_of c_held_after
  have c_step_of : Cl RR.prog w K mg base "step_of" 3 n_step_of sf_step_of := c_step_of T c_check_number c_has_steps c_plan_of c_place_of
  have c_waits : Cl RR.prog w K mg base "waits" 4 n_waits sf_waits := c_waits T c_check_number c_is_there c_step_of c_held
  have c_chain : Cl RR.prog w K mg base "chain" 5 n_chain sf_chain := c_chain T c_waits
  have c_lenders : Cl RR.prog w K mg base "lenders" 6 n_lenders sf_lenders := c_lenders T c_check_number c_chain
  have c_rank_of : Cl RR.prog w K mg base "rank_of" 7 n_rank_ofX sf_rank_ofX := c_rank_of T c_lenders c_own_rank
  have c_rest_of : Cl RR.prog w K mg base "rest_of" 3 n_rest_of sf_rest_of := c_rest_of T c_check_number c_plan_of c_held_after
  have c_law_cell_at : Cl RR.prog w K mg base "_law_cell_at" 1 n_law_cell_at sf_law_cell_at := c_law_cell_at T
  have c_law_mixed : Cl RR.prog w K mg base "_law_mixed" 1 n_law_mixed sf_law_mixed := c_law_mixed T
  have c_law_alike : Cl RR.prog w K mg base "_law_alike" 8 n_law_alike sf_law_alike := c_law_alike T
  have c_law_plan : Cl RR.prog w K mg base "_law_plan" 2 n_law_plan sf_law_plan := c_law_plan T c_law_mixed
  have c_law_ranks : Cl RR.prog w K mg base "_law_ranks" 2 n_law_ranks sf_law_ranks := c_law_ranks T c_law_mixed
  have c_law_ladder : Cl RR.prog w K mg base "_law_ladder" 1 n_law_ladder sf_law_ladder := c_law_ladder T
  have c_law_workers : Cl RR.prog w K mg base "_law_workers" 3 n_law_workers sf_law_workers := c_law_workers T c_law_cell_at c_law_mixed c_law_ranks c_law_plan c_law_ladder
  have c_law_tools : Cl RR.prog w K mg base "_law_tools" 1 n_law_tools sf_law_tools := c_law_tools T
  have c_law_there : Cl RR.prog w K mg base "_law_there" 1 n_law_there sf_law_there := c_law_there T
  have c_law_after : Cl RR.prog w K mg base "_law_after" 2 n_law_after sf_law_after := c_law_after T c_law_there c_law_tools
  have c_law_chain : Cl RR.prog w K mg base "_law_chain" 3 n_law_chain sf_law_chain := c_law_chain T c_law_after
  have c_law_spot : ClO RR.prog w K mg base "_law_spot" 2 n_law_spot sf_law_spot := c_law_spot T c_law_tools
  have c_law_shop : Cl RR.prog w K mg base "_law_shop" 4 n_law_shop sf_law_shop := c_law_shop T c_law_workers c_law_cell_at c_law_mixed c_law_spot
  have c_law_asked : Cl RR.prog w K mg base "_law_asked" 8 n_law_asked sf_law_asked := c_law_asked T c_step_of c_waits c_chain c_rank_of c_lenders c_rest_of
  have c_law_refused : Cl RR.prog w K mg base "_law_refused" 9 n_law_refused sf_law_refused := c_law_refused T c_law_asked
  have c_law_held : Cl RR.prog w K mg base "_law_held" 2 n_law_held sf_law_held := c_law_held T c_law_tools
  exact k_law F T c_law_shop c_law_there c_law_held c_there c_held c_law_alike c_step_of c_law_cell_at c_law_mixed c_law_refused
end LH

open PySem PySem.W PySem.Calls PyProof.Rows
theorem PySem.Challenge.cw_lenthaste_k02_there_and_held_holds : PySem.Challenge.rw_lenthaste_k02_there_and_held.Holds := by
  w_on; o_law
  refine HandSHeadRun.head_any (r := OpenLaw.row PySem.Challenge.rw_lenthaste_k02_there_and_held) (q := view (OpenLaw.row PySem.Challenge.rw_lenthaste_k02_there_and_held).prog [40]) (H := LH.hk) (ob := LH.ob) (M := 4000) (loose := LH.loose) (d := HandSHeadRun.topDef (OpenLaw.row PySem.Challenge.rw_lenthaste_k02_there_and_held).prog 40) (kwd := []) LH.ob_eq
    (by kernel_rfl) (fun s => by kernel_rfl) LH.run (by kernel_rfl) (by kernel_rfl) (by kernel_rfl) (by rfl) (by first | assumption | decide +kernel) (by decide +kernel) ⟨rfl, rfl, rfl, rfl, rfl, by decide +kernel⟩ ?hw ?hc
  case hw => w_witness2
  case hc =>
    refine L2.walk_ofE (l := PySem.Challenge.rw_lenthaste_k02_there_and_held) (n := 63) (k := 10) (x := "_law_script") (CX := DL.CXa (PySem.Challenge.rw_lenthaste_k02_there_and_held).prog) rfl (by decide) (by kernel_rfl) ⟨rfl, by decide, by decide⟩ ?F ?C
    case F =>
      intro w mg fa h Y G hmg0
      have hmg : mg ("law" : PySem.Str) = some (.ref fa) := by
        have e : (HandSHeadRun.topDef (OpenLaw.row PySem.Challenge.rw_lenthaste_k02_there_and_held).prog 40).name = ("law" : PySem.Str) := by kernel_rfl
        rw [← e]
        exact hmg0
      exact LH.close Y G hmg
    case C => exact fun _ _ _ _ z => DL.noXa z

