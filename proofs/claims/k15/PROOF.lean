import PyProof.Rows.All
import Wide.All
import OpenK.AllK
import Wide.FinOn
import HandS.ForExc
import HandS.ExcValue
import HandS.ExcIs
import HandS.ForMost
import HandS.Evl
import HandS.IsInst
import HandS.Flow
import KE.DataMinMax
import KE.DatumOrd
import HandS.SetFor
import HandS.Small
import HandS.FStr
import HandS.RaiseMore
import HandS.SortKw
import HandS.Style
import HandS.Sort
import HandS.TryMany
import HandS.Head0
import HandS.Head1
import HandS.Head2
import HandS.HeadEnd
import HandS.HeadHook1
import HandS.HeadHook2
import HandS.HeadHook3
import HandS.HeadHook4
import HandS.Dict
import HandS.Iter
import HandS.Zip
import PySem.Challenge.RW_lenthaste_k15_refusals_made
set_option Elab.async false
set_option linter.all false
set_option maxRecDepth 100000
set_option maxHeartbeats 4000000
namespace DL
open PySem PySem.Spec PyProof.Rows L2
/-! ### a caught error that a name keeps -/
/-- an error of the class cls, at a -/
def ErrO (cls : Value) (a : Addr) : HO := .ext fun h => ∃ (oe : Obj) (vs : Array Value), h.get? a = some oe ∧ Zc cls none oe ∧ oe.data = .fields vs
section
variable {X : Cx} {pins : List (Addr × Obj)} {σ : L2.St} {H : Hp} {s : Shared}
theorem Inv_track (I : L2.Inv X pins σ H s) {a : Addr} {oe : Obj} {vs : Array Value} {cls : Value} (ha : s.heap.get? a = some oe) (hz : Zc cls none oe) (hd : oe.data = .fields vs) (na : H a = none) (nL : a ≠ X.env.locals) (n0 : X.s_0.heap.get? a = none) (np : ∀ p ∈ X.pn ++ pins, p.1 ≠ a) : L2.Inv X pins σ (upd H a (ErrO cls a)) s := by
  have ne0 : ∀ b o, X.s_0.heap.get? b = some o → b ≠ a := fun b o e z => by rw [z, n0] at e; cases e
  have neH : ∀ {b : Addr} {o : HO}, H b = some o → b ≠ a := fun {b o} e z => by rw [z, na] at e; cases e
  have nc : ∀ x c, X.env.cells.lookup x = some c → c ≠ a := fun x c e z => by
    obtain ⟨v, o, ho, hv⟩ := I.cell x c e
    rw [z, ha] at ho
    cases ho
    rw [hd] at hv
    cases hv
  refine ⟨I.ok, I.os, I.bare, ⟨I.base.keep, I.base.slot, fun b o e n hx => ?_, I.base.there, fun b xs e => ?_, fun b o u e => ?_, fun b ps e => ?_⟩, I.loc, I.cell, ?_, fun x c e => ?_, fun p hp => ?_, fun b o e => ?_, I.len⟩
  · rw [upd_ne (ne0 b o e)]
    exact I.base.free b o e n hx
  · have q := I.base.tups b xs e
    rw [upd_ne (neH q)]
    exact q
  · have q := I.base.frzs b o u e
    rw [upd_ne (neH q)]
    exact q
  · obtain ⟨more, q⟩ := I.base.tbls b ps e
    refine ⟨more, ?_⟩
    rw [upd_ne (neH q)]
    exact q
  · rw [upd_ne (Ne.symm nL)]
    exact I.free
  · rw [upd_ne (nc x c e)]
    exact I.freeC x c e
  · obtain ⟨q1, q2, q3⟩ := I.pin p hp
    refine ⟨q1, ?_, q3⟩
    rw [upd_ne (np p hp)]
    exact q2
  · by_cases hb : b = a
    · subst hb
      rw [upd_same] at e
      cases e
      exact ⟨⟨oe, vs, ha, hz, hd⟩, ⟨oe, ha⟩, fun _ _ ⟨o, w, q, r⟩ k => ⟨o, w, k o q, r⟩⟩
    · rw [upd_ne hb] at e
      exact (I.hok b o e).stay (fun _ _ _ q => q) (fun c q => by rw [upd_ne (neH q)]; exact q) fun c xs q => by rw [upd_ne (neH q)]; exact q
end
/-- what the clause 'except x as n: m = n' wishes: the slot i is n's, the slot j is m's -/
def wKeep (K : PySem.W.Frag) (c : Value) (i j : Nat) (Wout : WX) (E : Ends) : WX := fun cls d σ H =>
  ∃ b, PySem.W.exmOne K cls c = some b ∧ (b = true → d = none ∧ ∀ a, H a = none → E.nx (((σ.set i (some (.ref a))).set j (some (.ref a))).set i none) (upd H a (ErrO cls a))) ∧ (b = false → Wout cls d σ H)
section
variable {X : Cx} {x n m : Str} {c : Value} {i j : Nat} {body : List Stmt} {np pm pn1 pa pos pos' : Pos} {tb : WX → TS} {Wout : WX}
theorem ps_try_keep (hst : X.stack = X.env :: X.outer) (hfr : X.env.frame = some X.env.locals) (hex : X.ex = []) (hN : X.N.Nodup) (hi : X.N[i]? = some n) (hln : X.env.kindOf n = some .local) (hc : Names X x c) (tk : Takes X Wout)
    (hbody : ∀ (W : WX) (pn : List (Addr × Obj)) (xe : Value → Shared → Prop), Takes (X.tr pn xe) W → PassesOwn (model X.prog X.w) X.A X.env xe → PSs (X.tr pn xe) body (tb W))
    (hset : ∀ (a : Addr) (oe : Obj) (pn : List (Addr × Obj)), PS (X.suite a ((a, oe) :: pn)) (.Assign [.Name m pm] (.Name n pn1) pa) (tAsg (tVar i) (gName j))) :
    PS X (.Try body [.ExceptHandler (some (.Name x np)) (some n) [.Assign [.Name m pm] (.Name n pn1) pa] pos'] [] [] pos) (fun E σ H => tb (wKeep X.K c i j Wout E) E σ H) := by
  refine ⟨fun pins s σ H E I wish => ?_⟩
  have okX := I.ok
  have framesX : X.A.frames = some (X.env :: X.outer) := okX.frames.trans (congrArg some hst)
  have locX : Loc X.env.scope n := .inl hln
  refine wpAny_Try_except ?_
  let after : Value → Shared → Prop := fun e1 t1 => wpAny (model X.prog X.w) X.A (noteFrame e1 X.env) (fun _ t2 => wpAny (model X.prog X.w) X.A (setFlight e1 none) (fun _ t3 => wpAny (model X.prog X.w) X.A (handleBy e1 X.env [.ExceptHandler (some (.Name x np)) (some n) [.Assign [.Name m pm] (.Name n pn1) pa] pos']) (SP X pins E) X.xe t3) X.xe t2) X.xe t1
  have takesW : Takes (X.tr (X.pn ++ pins) after) (wKeep X.K c i j Wout E) := fun u t0 xe0 => by
    obtain ⟨a, G, tI, pins1, σ1, H1, cls, d, rfl, J0, big, rise, air, free1, osq, bareq, b, hexm, yes, no⟩ := xe0
    have J : L2.Inv X pins σ1 H1 tI := J0.ofTry okX
    have air' : Sky G (X.env :: X.outer) a (Zc cls d) X.env.locals t0.heap := hst ▸ air
    refine Sky.land Zc.steady framesX hfr air' fun h1 fly1 rise1 => ?_
    have J1 : L2.Inv X pins σ1 H1 { t0 with heap := h1 } := J.landed big fly1.1 (rise.trans rise1) osq bareq
    obtain ⟨ob1, fs1, get1, zc1, dat1⟩ := fly1.there
    have offF : a ∉ frs (X.env :: X.outer) := fun hm => by
      obtain ⟨_, ob2, get2, hnf⟩ := fly1.2.2.1.mem hm
      rw [get1] at get2
      cases get2
      exact hnf _ dat1
    have offL : a ≠ X.env.locals := fun z => offF (List.mem_filterMap.mpr ⟨X.env, List.mem_cons_self, by rw [hfr, z]⟩)
    have offS : a ∉ X.fs := fun hm => by
      obtain ⟨e1, he1, q1⟩ := List.mem_filterMap.mp hm
      exact offF (List.mem_filterMap.mpr ⟨e1, List.mem_cons_of_mem _ he1, q1⟩)
    have noG : G.get? a = none := fly1.2.1
    have new0 : X.s_0.heap.get? a = none := by
      cases q0 : X.s_0.heap.get? a with
      | none => rfl
      | some o0 =>
        obtain ⟨o1, q1⟩ := J.base.there a o0 q0 (by rw [hex]; exact fun z => nomatch z)
        have q2 := big a o1 q1 (by rw [hst]; exact offF)
        rw [noG] at q2
        cases q2
    have newP : ∀ p ∈ X.pn ++ pins, p.1 ≠ a := fun p hp z => by
      obtain ⟨q1, _, q3, q4, _⟩ := J.pin p hp
      have q2 := big p.1 p.2 q1 fun hm => (List.mem_cons.mp (J.stkSub p.1 hm)).elim q3 q4
      rw [z, noG] at q2
      cases q2
    have S1 := J1.suite get1 dat1 free1 offL offS
    refine wpAny_handleBy_cons (codeAny_handlers_test ?_) (fun q => nomatch q)
    have tyA : PySem.W.Looks (model X.prog X.w) h1 (typeOf (.ref a)) cls := fun _ _ _ _ keepk q => wpAny_typeOf_ref (keepk _ _ get1) (zc1.1.symm ▸ q)
    have fits := PySem.W.exm_one (M := model X.prog X.w) J1.kIn tyA hexm
    have named : ∀ {Q1 : Value → Shared → Prop} {E1 : Value → Shared → Prop}, Q1 c { t0 with heap := h1 } → wpAny (model X.prog X.w) (X.A.mark (some (.ref a))) (eval (.Name x np) X.env) Q1 E1 { t0 with heap := h1 } := fun {Q1 E1} q => by
      obtain ⟨hg, hdbg, gm | ⟨gm, gv, gn⟩⟩ := hc
      · exact ld_glob (X := X.suite a ((a, ob1) :: (X.pn ++ pins))) S1 hg gm q hdbg
      · exact ld_blt (X := X.suite a ((a, ob1) :: (X.pn ++ pins))) S1 hg gm gv q gn hdbg
    refine named (fits.here ?_)
    cases b with
    | true =>
      obtain ⟨rfl, go⟩ := yes rfl
      refine codeAny_handlers_suite_as (HandSPX.lands_againZ fly1 fun h2 fly2 rise2 => ?_)
      have J2 : L2.Inv X pins σ1 H1 { t0 with heap := h2 } := J.landed big fly2.1 ((rise.trans rise1).trans rise2) osq bareq
      obtain ⟨ob2, fs2, get2, zc2, dat2⟩ := fly2.there
      have S2 := J2.suite get2 dat2 free1 offL offS
      refine store_ok (X := X.suite a ((a, ob2) :: (X.pn ++ pins))) (v := .ref a) S2 hN hi locX rfl (fun t5 S5 => ?_) (.inr hln)
      have hil : i < σ1.length := by
        have := (List.getElem?_eq_some_iff.mp hi).1
        have := J2.len
        omega
      refine wpAny_mono ((pss_one (hset a ob2 (X.pn ++ pins))).run [] t5 _ H1 { nx := fun σ6 H6 => σ6 = (σ1.set i (some (.ref a))).set j (some (.ref a)) ∧ H6 = H1, rt := fun _ _ => False } S5 ⟨.ref a, List.getElem?_set_self hil, rfl, rfl⟩) (fun fl t6 sp6 => ?_) (fun _ _ z => z.elim)
      cases fl with
      | next =>
        obtain ⟨σ6, H6, S6, rfl, rfl⟩ := sp6
        obtain ⟨p1, p2, p3, _⟩ := S6.pin (a, ob2) (List.mem_append_left _ List.mem_cons_self)
        have J6 := Inv_track (S6.unsuite okX) p1 zc2 dat2 p2 p3 new0 newP
        exact gone_ok J6 hN hi hln fun t7 J7 => ⟨_, _, J7, go a free1⟩
      | brk => obtain ⟨_, _, _, q⟩ := sp6; exact q.elim
      | cont => obtain ⟨_, _, _, q⟩ := sp6; exact q.elim
      | ret u => obtain ⟨_, _, _, _, _, q⟩ := sp6; exact q.elim
    | false =>
      refine wpAny_handleBy_nil (env := X.env) ?_
      obtain ⟨_, _, _, ob3, fs3, tr, otr, rest, get3, zc3, dat3, f1, _⟩ := id fly1
      unfold PySem.passOn
      refine wpAny_bind (wpAny_field get3 dat3 f1 ?_)
      rw [if_neg (show ¬ ((Value.ref tr == Value.none) = true) from by simp)]
      have out : wpAny (model X.prog X.w) X.A (setFlight (.ref a) X.env.frame) (fun _ t4 => wpAny (model X.prog X.w) X.A (throw (.ref a) : Sem Flow) (SP X pins E) X.xe t4) X.xe { t0 with heap := h1 } := by
        rw [hfr]
        refine HandSPX.setFlight_upZ fly1 fun h4 held4 rise4 => wpAny_throw (tk _ _ ?_)
        exact ⟨a, G, tI, pins, σ1, H1, cls, d, rfl, J, big, (rise.trans rise1).trans rise4, .inr (.inr (by rw [hst]; exact held4)), free1, osq, bareq, no rfl⟩
      first
        | exact wpAny_bind (wpAny_pure (wpAny_bind out))
        | exact wpAny_bind out
  refine wpAny_mono ((hbody _ (X.pn ++ pins) after takesW PassesOwn.looking).run [] s σ H E (I.toTry _) wish) (fun fl t1 sp1 => ?_) (fun _ _ z => z)
  cases fl with
  | next =>
    obtain ⟨σ1, H1, J, q⟩ := sp1
    exact wpAny_execs_nil ⟨σ1, H1, J.ofTry okX, q⟩
  | brk => obtain ⟨σ1, H1, J, q⟩ := sp1; exact ⟨σ1, H1, J.ofTry okX, q⟩
  | cont => obtain ⟨σ1, H1, J, q⟩ := sp1; exact ⟨σ1, H1, J.ofTry okX, q⟩
  | ret u => obtain ⟨v, σ1, H1, J, r, q⟩ := sp1; exact ⟨v, σ1, H1, J.ofTry okX, r, q⟩
end
end DL

namespace DL
open PySem PySem.Spec PyProof.Rows L2 Evl

/-! ### data -/
inductive D where
  | non
  | bl (b : Bool)
  | int (i : Int)
  | str (x : Str)
  | lst (xs : List D)
  | tup (xs : List D)
  /-- the script, or another list of ints that is only read -/
  | scr (ns : List Int)
  /-- a dict from ints to ints -/
  | dct (kvs : List (Int × Int))
  /-- .. that is walked, so read only -/
  | dcl (kvs : List (Int × Int))
  /-- an error of the class at C -/
  | err (C : Addr)
deriving Inhabited

/-- v stands for the datum d, in the frozen heap F -/
inductive Dt (K : PySem.W.Frag) (F : Hp) : V → D → Prop
  | non : Dt K F .non .non
  | bl (b : Bool) : Dt K F (.bl b) (.bl b)
  | int (i : Int) : Dt K F (.int i) (.int i)
  | str (x : Str) : Dt K F (.str x) (.str x)
  | lst {a : Addr} {xs : List V} {ds : List D} : F a = some (.lst xs) → xs.length = ds.length → (∀ (i : Nat) (x : V) (d : D), xs[i]? = some x → ds[i]? = some d → Dt K F x d) → Dt K F (.ref a) (.lst ds)
  | tup {a : Addr} {xs : List V} {ds : List D} : F a = some (.tup xs) → xs.length = ds.length → (∀ (i : Nat) (x : V) (d : D), xs[i]? = some x → ds[i]? = some d → Dt K F x d) → Dt K F (.ref a) (.tup ds)
  | scr {a : Addr} {ns : List Int} : SqL K F a (ns.map V.int) → Dt K F (.ref a) (.scr ns)
  | dct {a : Addr} {kvs : List (Int × Int)} : Rd F a (.dK (kvs.map fun p => (Sum.inl p.1, V.int p.2))) → Dt K F (.ref a) (.dct kvs)
  | dcl {a : Addr} {o : Obj} {kvs : List (Int × Int)} : F a = some (.frz o (.dK (kvs.map fun p => (Sum.inl p.1, V.int p.2)))) → Dt K F (.ref a) (.dcl kvs)
  | err {a C : Addr} : (F a = some (ExO (.ref C) a) ∨ F a = some (ErrO (.ref C) a)) → Dt K F (.ref a) (.err C)

structure DtA (K : PySem.W.Frag) (F : Hp) (xs : List V) (ds : List D) : Prop where
  len : xs.length = ds.length
  at_ : ∀ (i : Nat) (x : V) (d : D), xs[i]? = some x → ds[i]? = some d → Dt K F x d

section
variable {K : PySem.W.Frag} {F F' : Hp} {x y : V} {d e : D} {xs ys : List V} {ds es : List D}
theorem Dt.mono (h : Dt K F x d) (e : Ex F F') : Dt K F' x d := by
  induction h with
  | non => exact .non
  | bl b => exact .bl b
  | int i => exact .int i
  | str z => exact .str z
  | lst h1 h2 _ ih => exact .lst (e _ _ h1) h2 ih
  | tup h1 h2 _ ih => exact .tup (e _ _ h1) h2 ih
  | scr h => exact .scr (ex_l e h)
  | dct h => exact .dct (h.imp (e _ _) fun ⟨o, q⟩ => ⟨o, e _ _ q⟩)
  | dcl h => exact .dcl (e _ _ h)
  | err h => exact .err (h.imp (e _ _) (e _ _))
theorem DtA.mono (h : DtA K F xs ds) (e : Ex F F') : DtA K F' xs ds := ⟨h.len, fun i x d a b => (h.at_ i x d a b).mono e⟩
theorem DtA.nil : DtA K F [] [] := ⟨rfl, fun i x d a _ => by simp at a⟩
theorem DtA.cons (h : Dt K F x d) (t : DtA K F xs ds) : DtA K F (x :: xs) (d :: ds) := by
  refine ⟨by simp [t.len], fun i y e a b => ?_⟩
  cases i with
  | zero => simp at a b; subst a; subst b; exact h
  | succ i => simp at a b; exact t.at_ i y e a b
theorem DtA.uncons (h : DtA K F (x :: xs) (d :: ds)) : Dt K F x d ∧ DtA K F xs ds :=
  ⟨h.at_ 0 x d rfl rfl, by have := h.len; simpa using this, fun i y e a b => h.at_ (i + 1) y e (by simpa using a) (by simpa using b)⟩
theorem DtA.one (h : Dt K F x d) : DtA K F [x] [d] := .cons h .nil
theorem DtA.two (h : Dt K F x d) (h' : Dt K F y e) : DtA K F [x, y] [d, e] := .cons h (.cons h' .nil)
theorem DtA.inv_nil (h : DtA K F xs []) : xs = [] := List.length_eq_zero_iff.mp h.len
theorem DtA.inv_cons (h : DtA K F xs (d :: ds)) : ∃ x r, xs = x :: r ∧ Dt K F x d ∧ DtA K F r ds := by
  cases xs with
  | nil => have := h.len; simp at this
  | cons x r => exact ⟨x, r, rfl, h.uncons⟩
theorem DtA.inv_one (h : DtA K F xs [d]) : ∃ x, xs = [x] ∧ Dt K F x d := by
  obtain ⟨x, r, rfl, hx, hr⟩ := h.inv_cons
  obtain rfl := hr.inv_nil
  exact ⟨x, rfl, hx⟩
theorem DtA.inv_two (h : DtA K F xs [d, e]) : ∃ x y, xs = [x, y] ∧ Dt K F x d ∧ Dt K F y e := by
  obtain ⟨x, r, rfl, hx, hr⟩ := h.inv_cons
  obtain ⟨y, rfl, hy⟩ := hr.inv_one
  exact ⟨x, y, rfl, hx, hy⟩
theorem DtA.append (h : DtA K F xs ds) (h' : DtA K F ys es) : DtA K F (xs ++ ys) (ds ++ es) := by
  refine ⟨by simp [h.len, h'.len], fun i x d a b => ?_⟩
  have hl := h.len
  by_cases hi : i < xs.length
  · rw [List.getElem?_append_left hi] at a
    rw [List.getElem?_append_left (by omega)] at b
    exact h.at_ i x d a b
  · rw [List.getElem?_append_right (by omega)] at a
    rw [List.getElem?_append_right (by omega), ← hl] at b
    exact h'.at_ _ x d a b
theorem DtA.get (h : DtA K F xs ds) {i : Nat} (b : ds[i]? = some d) : ∃ x, xs[i]? = some x ∧ Dt K F x d := by
  have hl := h.len
  have hi := (List.getElem?_eq_some_iff.mp b).1
  exact ⟨xs[i], List.getElem?_eq_getElem (by omega), h.at_ i _ d (List.getElem?_eq_getElem (by omega)) b⟩
theorem DtA.getV (h : DtA K F xs ds) {i : Nat} (b : xs[i]? = some x) : ∃ d, ds[i]? = some d ∧ Dt K F x d := by
  have hl := h.len
  have hi := (List.getElem?_eq_some_iff.mp b).1
  exact ⟨ds[i], List.getElem?_eq_getElem (by omega), h.at_ i x _ b (List.getElem?_eq_getElem (by omega))⟩
theorem DtA.take (n : Nat) (h : DtA K F xs ds) : DtA K F (xs.take n) (ds.take n) := by
  refine ⟨by simp [h.len], fun i x d a b => ?_⟩
  rw [List.getElem?_take] at a b
  split at a
  · exact h.at_ i x d a (by simpa [*] using b)
  · cases a
theorem DtA.drop (n : Nat) (h : DtA K F xs ds) : DtA K F (xs.drop n) (ds.drop n) := by
  refine ⟨by simp [h.len], fun i x d a b => ?_⟩
  rw [List.getElem?_drop] at a b
  exact h.at_ _ x d a b
theorem DtA.set (i : Nat) (h : DtA K F xs ds) (hx : Dt K F x d) : DtA K F (xs.set i x) (ds.set i d) := by
  have hl := h.len
  refine ⟨by simp [hl], fun j y e a b => ?_⟩
  rw [List.getElem?_set] at a b
  by_cases hij : i = j
  · subst hij
    by_cases hi : i < xs.length
    · have hi' : i < ds.length := by omega
      simp [hi] at a; simp [hi'] at b
      subst a; subst b; exact hx
    · simp [hi] at a
  · simp [hij] at a b
    exact h.at_ j y e a b
theorem DtA.eraseIdx (i : Nat) (h : DtA K F xs ds) : DtA K F (xs.eraseIdx i) (ds.eraseIdx i) := by
  rw [List.eraseIdx_eq_take_drop_succ, List.eraseIdx_eq_take_drop_succ]
  exact (h.take i).append (h.drop (i + 1))
theorem DtA.reverse (h : DtA K F xs ds) : DtA K F xs.reverse ds.reverse := by
  have hl := h.len
  refine ⟨by simp [hl], fun i x d a b => ?_⟩
  have h1 := (List.getElem?_eq_some_iff.mp a).1
  have h2 := (List.getElem?_eq_some_iff.mp b).1
  simp at h1 h2
  rw [List.getElem?_reverse h1] at a
  rw [List.getElem?_reverse h2] at b
  exact h.at_ _ x d a (by rw [hl]; exact b)
theorem DtA.dropLast (h : DtA K F xs ds) : DtA K F xs.dropLast ds.dropLast := by
  rw [List.dropLast_eq_take, List.dropLast_eq_take, h.len]
  exact h.take _
theorem DtA.rep (h : DtA K F xs ds) : ∀ k : Nat, DtA K F (List.replicate k xs).flatten (List.replicate k ds).flatten
  | 0 => .nil
  | k + 1 => by
    rw [List.replicate_succ, List.replicate_succ, List.flatten_cons, List.flatten_cons]
    exact h.append (DtA.rep h k)
theorem Dt.lst' {a : Addr} (h : F a = some (.lst xs)) (r : DtA K F xs ds) : Dt K F (.ref a) (.lst ds) := .lst h r.len r.at_
theorem Dt.tup' {a : Addr} (h : F a = some (.tup xs)) (r : DtA K F xs ds) : Dt K F (.ref a) (.tup ds) := .tup h r.len r.at_
theorem Dt.inv_lst (h : Dt K F x (.lst ds)) : ∃ a xs, x = .ref a ∧ F a = some (.lst xs) ∧ DtA K F xs ds := by
  cases h with
  | lst h1 h2 h3 => exact ⟨_, _, rfl, h1, h2, h3⟩
theorem Dt.inv_tup (h : Dt K F x (.tup ds)) : ∃ a xs, x = .ref a ∧ F a = some (.tup xs) ∧ DtA K F xs ds := by
  cases h with
  | tup h1 h2 h3 => exact ⟨_, _, rfl, h1, h2, h3⟩
theorem Dt.inv_int {i : Int} (h : Dt K F x (.int i)) : x = .int i := by cases h; rfl
theorem Dt.inv_bl {b : Bool} (h : Dt K F x (.bl b)) : x = .bl b := by cases h; rfl
theorem Dt.inv_str {z : Str} (h : Dt K F x (.str z)) : x = .str z := by cases h; rfl
theorem Dt.inv_non (h : Dt K F x .non) : x = .non := by cases h; rfl
end

/-- flat data: no address -/
def flatD : D → Bool
  | .non => true
  | .bl _ => true
  | .int _ => true
  | .str _ => true
  | _ => false
theorem Dt.flat {K : PySem.W.Frag} {F F' : Hp} {x : V} {d : D} (h : Dt K F x d) (f : flatD d = true) : Dt K F' x d := by
  cases h with
  | non => exact .non
  | bl b => exact .bl b
  | int i => exact .int i
  | str z => exact .str z
  | lst _ _ _ => cases f
  | tup _ _ _ => cases f
  | scr _ => cases f
  | dct _ => cases f
  | dcl _ => cases f
  | err _ => cases f
def flatV' : D → V
  | .bl b => .bl b
  | .int i => .int i
  | .str z => .str z
  | _ => .non
theorem Dt.flatV {K : PySem.W.Frag} {F : Hp} {x : V} {d : D} (h : Dt K F x d) (f : flatD d = true) : x = flatV' d := by
  cases h with
  | non => rfl
  | bl b => rfl
  | int i => rfl
  | str z => rfl
  | lst _ _ _ => cases f
  | tup _ _ _ => cases f
  | scr _ => cases f
  | dct _ => cases f
  | dcl _ => cases f
  | err _ => cases f

/-! ### heaps that grow: H the heap, F its frozen part -/
structure Grow (H F H' F' : Hp) : Prop where
  h : Ex H H'
  f : Ex F F'
  fh : Ex F' H'
  fr : ∀ a, H a ≠ none → F' a = F a
theorem Grow.refl {H F : Hp} (e : Ex F H) : Grow H F H F := ⟨Ex.refl _, Ex.refl _, e, fun _ _ => rfl⟩
theorem Grow.trans {H F H1 F1 H2 F2 : Hp} (a : Grow H F H1 F1) (b : Grow H1 F1 H2 F2) : Grow H F H2 F2 :=
  ⟨a.h.trans b.h, a.f.trans b.f, b.fh, fun x hx => by
    have h1 : H1 x ≠ none := by
      cases q : H x with
      | none => exact absurd q hx
      | some o => rw [a.h x o q]; simp
    rw [b.fr x h1, a.fr x hx]⟩
/-- a new frozen object -/
theorem Grow.new {H F : Hp} {p : Addr} {o : HO} (e : Ex F H) (h : H p = none) : Grow H F (upd H p o) (upd F p o) := by
  have hF : F p = none := by
    cases q : F p with
    | none => rfl
    | some u => rw [e p u q] at h; cases h
  refine ⟨Ex.new h, Ex.new hF, fun a u ha => ?_, fun a ha => ?_⟩
  · by_cases hp : a = p
    · subst hp; rw [upd_same] at ha ⊢; exact ha
    · rw [upd_ne hp] at ha ⊢; exact e a u ha
  · have : a ≠ p := by rintro rfl; exact ha h
    rw [upd_ne this]
/-- a new object, not frozen -/
theorem Grow.newM {H F : Hp} {p : Addr} {o : HO} (e : Ex F H) (h : H p = none) : Grow H F (upd H p o) F :=
  ⟨Ex.new h, Ex.refl _, e.trans (Ex.new h), fun _ _ => rfl⟩
theorem none_of_ex {H F : Hp} {p : Addr} (e : Ex F H) (h : H p = none) : F p = none := by
  cases q : F p with
  | none => rfl
  | some u => rw [e p u q] at h; cases h

/-! ### the slots -/
/-- what one's own object holds -/
inductive OC where
  | l (ds : List D)
  | d (kvs : List (Int × Int))
inductive OcR (K : PySem.W.Frag) (F : Hp) : HO → OC → Prop
  | l {vs : List V} {ds : List D} : DtA K F vs ds → OcR K F (.lst vs) (.l ds)
  | d (kvs : List (Int × Int)) : OcR K F (.dK (kvs.map fun p => (Sum.inl p.1, V.int p.2))) (.d kvs)
theorem OcR.mono {K : PySem.W.Frag} {F F' : Hp} {o : HO} {c : OC} (h : OcR K F o c) (e : Ex F F') : OcR K F' o c := by
  cases h with
  | l r => exact .l (r.mono e)
  | d kvs => exact .d kvs
def ocD : OC → D
  | .l ds => .lst ds
  | .d kvs => .dct kvs
theorem OcR.dt {K : PySem.W.Frag} {F : Hp} {a : Addr} {o : HO} {c : OC} (h : OcR K F o c) (e : F a = some o) : Dt K F (.ref a) (ocD c) := by
  cases h with
  | l r => exact .lst' e r
  | d kvs => exact .dct (.inl e)
inductive Sl where
  | no
  | val (d : D)
  /-- one's own object; some a: it stands at a -/
  | own (a : Option Addr) (c : OC)
  /-- the error that a suite holds -/
  | exc (a : Addr)
  /-- one's own tree of lists and tuples: every node one's own, each once -/
  | tree (d : D)
abbrev DEnv := List Sl

/-- a tuple that stays: frozen, or new since H0 -/
def TupAt (H0 F H : Hp) (a : Addr) (xs : List V) : Prop := F a = some (.tup xs) ∨ (H a = some (.tup xs) ∧ H0 a = none)
/-- d stands at x in H, its lists at the addresses told, in their order -/
inductive TreeAt (K : PySem.W.Frag) (H0 F H : Hp) : V → D → List Addr → Prop
  | flat {x : V} {d : D} : Dt K (fun _ => none) x d → TreeAt K H0 F H x d []
  | lst {a : Addr} {xs : List V} {ds : List D} {As : List (List Addr)} : H a = some (.lst xs) → xs.length = ds.length → As.length = ds.length → (∀ (i : Nat) (x : V) (d : D) (B : List Addr), xs[i]? = some x → ds[i]? = some d → As[i]? = some B → TreeAt K H0 F H x d B) → TreeAt K H0 F H (.ref a) (.lst ds) (a :: As.flatten)
  | tup {a : Addr} {xs : List V} {ds : List D} {As : List (List Addr)} : TupAt H0 F H a xs → xs.length = ds.length → As.length = ds.length → (∀ (i : Nat) (x : V) (d : D) (B : List Addr), xs[i]? = some x → ds[i]? = some d → As[i]? = some B → TreeAt K H0 F H x d B) → TreeAt K H0 F H (.ref a) (.tup ds) As.flatten
theorem mem_flat {As : List (List Addr)} {p : Addr} (h : p ∈ As.flatten) : ∃ (i : Nat) (B : List Addr), As[i]? = some B ∧ p ∈ B := by
  obtain ⟨B, hB, hp⟩ := List.mem_flatten.mp h
  obtain ⟨i, hi⟩ := List.getElem?_of_mem hB
  exact ⟨i, B, hi, hp⟩
theorem at_len {α β : Type} {xs : List α} {ys : List β} (h : xs.length = ys.length) {i : Nat} {x : α} (hi : xs[i]? = some x) : ∃ y, ys[i]? = some y := by
  have : i < xs.length := (List.getElem?_eq_some_iff.mp hi).1
  exact ⟨ys[i]'(by omega), List.getElem?_eq_getElem (by omega)⟩
theorem TreeAt.live {K : PySem.W.Frag} {H0 F H : Hp} {x : V} {d : D} {A : List Addr} (t : TreeAt K H0 F H x d A) : ∀ p ∈ A, H p ≠ none := by
  induction t with
  | flat _ => intro p hp; cases hp
  | lst h1 h2 h3 _ ih =>
    intro p hp
    rcases List.mem_cons.mp hp with rfl | hp
    · rw [h1]; simp
    · obtain ⟨i, B, hi, hB⟩ := mem_flat hp
      obtain ⟨d, hd⟩ := at_len h3 hi
      obtain ⟨x, hx⟩ := at_len h2.symm hd
      exact ih i x d B hx hd hi p hB
  | tup h1 h2 h3 _ ih =>
    intro p hp
    obtain ⟨i, B, hi, hB⟩ := mem_flat hp
    obtain ⟨d, hd⟩ := at_len h3 hi
    obtain ⟨x, hx⟩ := at_len h2.symm hd
    exact ih i x d B hx hd hi p hB
theorem mem_flatI {As : List (List Addr)} {i : Nat} {B : List Addr} {p : Addr} (h : As[i]? = some B) (hp : p ∈ B) : p ∈ As.flatten := List.mem_flatten.mpr ⟨B, List.mem_of_getElem? h, hp⟩
theorem TreeAt.keep {K : PySem.W.Frag} {H0 F H H0' F' H' : Hp} {x : V} {d : D} {A : List Addr} (t : TreeAt K H0 F H x d A) (ht : ∀ a xs, TupAt H0 F H a xs → TupAt H0' F' H' a xs) : (∀ p ∈ A, ∀ o, H p = some o → H' p = some o) → TreeAt K H0' F' H' x d A := by
  induction t with
  | flat h => exact fun _ => .flat h
  | lst h1 h2 h3 _ ih => exact fun k => .lst (k _ (by simp) _ h1) h2 h3 fun i x d B hx hd hB => ih i x d B hx hd hB fun p hp => k p (List.mem_cons_of_mem _ (mem_flatI hB hp))
  | tup h1 h2 h3 _ ih => exact fun k => .tup (ht _ _ h1) h2 h3 fun i x d B hx hd hB => ih i x d B hx hd hB fun p hp => k p (mem_flatI hB hp)
theorem TupAt.grow {H0 F H F' H' : Hp} {a : Addr} {xs : List V} (t : TupAt H0 F H a xs) (g : Grow H F H' F') : TupAt H0 F' H' a xs := t.imp (fun h => g.f _ _ h) fun h => ⟨g.h _ _ h.1, h.2⟩
theorem TupAt.mut {H0 F H : Hp} {a l : Addr} {xs : List V} {o : HO} (t : TupAt H0 F H a xs) (h : ∀ {ys}, H l ≠ some (.tup ys)) : TupAt H0 F (upd H l o) a xs := t.imp (fun z => z) fun z => ⟨by rw [upd_ne (fun e => by subst e; exact h z.1)]; exact z.1, z.2⟩
/-- the own trees of the slots -/
def Trees (K : PySem.W.Frag) (H0 F : Hp) (env : DEnv) (σ : L2.St) (H : Hp) : Prop := ∃ T : Nat → List Addr,
  (∀ (i : Nat) (d : D), env[i]? = some (.tree d) → ∃ v, σ[i]? = some (some v) ∧ TreeAt K H0 F H v d (T i) ∧ (T i).Nodup ∧ ∀ p ∈ T i, F p = none ∧ H0 p = none) ∧
  (∀ (i j : Nat) (d e : D), env[i]? = some (.tree d) → env[j]? = some (.tree e) → i ≠ j → ∀ p ∈ T i, p ∉ T j) ∧
  ∀ (i j : Nat) (d : D) (b : Option Addr) (c : OC) (x : Addr), env[i]? = some (.tree d) → env[j]? = some (.own b c) → σ[j]? = some (some (.ref x)) → x ∉ T i
/-- trees stay where nothing of theirs is changed -/
theorem Trees.stay {K : PySem.W.Frag} {H0 F H0' F' : Hp} {env env' : DEnv} {σ σ' : L2.St} {H H' : Hp} (t : Trees K H0 F env σ H) (ht : ∀ a xs, TupAt H0 F H a xs → TupAt H0' F' H' a xs)
    (ha : ∀ (j : Nat) (d : D), env'[j]? = some (.tree d) → env[j]? = some (.tree d) ∧ σ'[j]? = σ[j]?)
    (hb : ∀ (j : Nat) (b : Option Addr) (c : OC) (x : Addr), env'[j]? = some (.own b c) → σ'[j]? = some (some (.ref x)) → H x = none ∨ ∃ (k : Nat) (b' : Option Addr) (c' : OC), env[k]? = some (.own b' c') ∧ σ[k]? = some (some (.ref x)))
    (hc : ∀ (p : Addr) (o : HO), H p = some o → F p = none → H' p = some o ∨ ∃ (k : Nat) (b' : Option Addr) (c' : OC), env[k]? = some (.own b' c') ∧ σ[k]? = some (some (.ref p)))
    (hd : ∀ p : Addr, H p ≠ none → F p = none → H0 p = none → (F' p = none ∧ H0' p = none) ∨ ∃ (k : Nat) (b' : Option Addr) (c' : OC), env[k]? = some (.own b' c') ∧ σ[k]? = some (some (.ref p))) : Trees K H0' F' env' σ' H' := by
  obtain ⟨T, h1, h2, h3⟩ := t
  have no : ∀ {i : Nat} {d : D} {p : Addr}, env[i]? = some (.tree d) → p ∈ T i → ¬ ∃ (k : Nat) (b' : Option Addr) (c' : OC), env[k]? = some (.own b' c') ∧ σ[k]? = some (some (.ref p)) := fun {i d p} e hp ⟨k, b', c', k1, k2⟩ => h3 i k d b' c' p e k1 k2 hp
  refine ⟨T, fun i d e => ?_, fun i j d e q1 q2 => h2 i j d e (ha i d q1).1 (ha j e q2).1, fun i j d b c x q1 q2 q3 hx => ?_⟩
  · obtain ⟨e1, e2⟩ := ha i d e
    obtain ⟨v, x1, x2, x3, x4⟩ := h1 i d e1
    refine ⟨v, e2.trans x1, x2.keep ht fun p hp o ho => ?_, x3, fun p hp => ?_⟩
    · rcases hc p o ho (x4 p hp).1 with h | h
      · exact h
      · exact absurd h (no e1 hp)
    · rcases hd p (x2.live p hp) (x4 p hp).1 (x4 p hp).2 with h | h
      · exact h
      · exact absurd h (no e1 hp)
  · obtain ⟨e1, _⟩ := ha i d q1
    rcases hb j b c x q2 q3 with h | h
    · obtain ⟨v, x1, x2, x3, x4⟩ := h1 i d e1
      exact x2.live x hx h
    · exact no e1 hx h

structure Rel (K : PySem.W.Frag) (H0 F0 F : Hp) (env : DEnv) (σ : L2.St) (H : Hp) : Prop where
  g : Grow H0 F0 H F
  vals : ∀ (i : Nat) (d : D), env[i]? = some (.val d) → ∃ v, σ[i]? = some (some v) ∧ Dt K F v d
  owns : ∃ A : Nat → Addr, (∀ (i : Nat) (a : Option Addr) (c : OC), env[i]? = some (.own a c) → ∃ o, σ[i]? = some (some (.ref (A i))) ∧ H (A i) = some o ∧ OcR K F o c ∧ F (A i) = none ∧ H0 (A i) = none ∧ ∀ b, a = some b → A i = b) ∧
    ∀ (i j : Nat) (a b : Option Addr) (c d : OC), env[i]? = some (.own a c) → env[j]? = some (.own b d) → A i = A j → i = j
  len : env.length = σ.length
  excs : ∀ (i : Nat) (a : Addr), env[i]? = some (.exc a) → σ[i]? = some (some (.ref a))
  trs : Trees K H0 F env σ H
section
variable {K : PySem.W.Frag} {H0 F0 F F' H H' : Hp} {env : DEnv} {σ : L2.St}
theorem Rel.fh (r : Rel K H0 F0 F env σ H) : Ex F H := r.g.fh
theorem Rel.grow (r : Rel K H0 F0 F env σ H) (g : Grow H F H' F') : Rel K H0 F0 F' env σ H' := by
  obtain ⟨A, h1, h2⟩ := r.owns
  refine ⟨r.g.trans g, fun i d e => ?_, ⟨A, fun i a ds e => ?_, h2⟩, r.len, r.excs, r.trs.stay (fun a xs z => z.grow g) (fun _ _ e => ⟨e, rfl⟩) (fun k b c x e q => .inr ⟨k, b, c, e, q⟩) (fun p o h _ => .inl (g.h p o h)) fun p h1 h2 h3 => .inl ⟨(g.fr p h1).trans h2, h3⟩⟩
  · obtain ⟨v, a, b⟩ := r.vals i d e
    exact ⟨v, a, b.mono g.f⟩
  · obtain ⟨o, a, b, c, d, f⟩ := h1 i a ds e
    exact ⟨o, a, g.h _ _ b, c.mono g.f, (g.fr _ (by rw [b]; simp)).trans d, f⟩
theorem set_ne {α : Type} {l : List α} {i j : Nat} {x y : α} (h : j ≠ i) : (l.set i x)[j]? = some y ↔ l[j]? = some y := by
  rw [List.getElem?_set_ne (Ne.symm h)]
theorem set_eq {α : Type} {l : List α} {i : Nat} {x y : α} (h : (l.set i x)[i]? = some y) : i < l.length ∧ y = x := by
  rw [List.getElem?_set] at h
  by_cases hi : i < l.length
  · simp [hi] at h; exact ⟨hi, h.symm⟩
  · simp [hi] at h
/-- a slot is set to a datum -/
theorem Rel.setVal (r : Rel K H0 F0 F env σ H) {i : Nat} {v : V} {d : D} (hv : Dt K F v d) : Rel K H0 F0 F (env.set i (.val d)) (σ.set i (some v)) H := by
  obtain ⟨A, h1, h2⟩ := r.owns
  have hl := r.len
  have ow : ∀ {j : Nat} {a : Option Addr} {c : OC}, (env.set i (.val d))[j]? = some (.own a c) → j ≠ i ∧ env[j]? = some (.own a c) := fun {j a c} e => by
    by_cases hj : j = i
    · subst hj; have := (set_eq e).2; cases this
    · exact ⟨hj, (set_ne hj).mp e⟩
  refine ⟨r.g, fun j d' e => ?_, ⟨A, fun j a c e => ?_, fun j k a b c d e1 e2 => h2 j k a b c d (ow e1).2 (ow e2).2⟩, by simp [hl], fun j a e => ?_, r.trs.stay (fun a xs z => z) (fun j d' e => by
    by_cases hj : j = i
    · subst hj; have := (set_eq e).2; cases this
    · exact ⟨(set_ne hj).mp e, List.getElem?_set_ne (Ne.symm hj)⟩) (fun j b c x e q => .inr ⟨j, b, c, (ow e).2, (set_ne (ow e).1).mp q⟩) (fun p o h _ => .inl h) fun p _ h2 h3 => .inl ⟨h2, h3⟩⟩
  · by_cases hj : j = i
    · subst hj
      obtain ⟨hi, q⟩ := set_eq e
      cases q
      exact ⟨v, by rw [List.getElem?_set_self (by omega)], hv⟩
    · obtain ⟨u, a, b⟩ := r.vals j d' ((set_ne hj).mp e)
      exact ⟨u, (set_ne hj).mpr a, b⟩
  · obtain ⟨hj, e'⟩ := ow e
    obtain ⟨o, p, q⟩ := h1 j a c e'
    exact ⟨o, (set_ne hj).mpr p, q⟩
  · by_cases hj : j = i
    · subst hj; have := (set_eq e).2; cases this
    · exact (set_ne hj).mpr (r.excs j a ((set_ne hj).mp e))
/-- a slot is set to a new object of one's own -/
theorem Rel.setOwn (r : Rel K H0 F0 F env σ H) {i : Nat} {p : Addr} {o : HO} {c : OC} (g : Grow H F H' F') (hp : H p = none) (ho : H' p = some o) (hF : F' p = none) (hv : OcR K F' o c) : Rel K H0 F0 F' (env.set i (.own none c)) (σ.set i (some (.ref p))) H' := by
  have r1 := r.grow g
  obtain ⟨A, h1, h2⟩ := r1.owns
  obtain ⟨B, k1, _⟩ := r.owns
  have hl := r.len
  have h00 := none_of_ex r.g.h hp
  have ne : ∀ {j : Nat} {a : Option Addr} {c : OC}, env[j]? = some (.own a c) → A j ≠ p := fun {j a c} e z => by
    obtain ⟨o, a', b, _⟩ := k1 j a c e
    obtain ⟨o2, a2, b2, _⟩ := h1 j a c e
    rw [a'] at a2
    have e3 : B j = A j := by injection a2 with a2; injection a2 with a2; injection a2
    rw [e3, z, hp] at b; cases b
  refine ⟨r1.g, fun j d' e => ?_, ⟨fun j => if j = i then p else A j, fun j a c' e => ?_, fun j k a b c' d' e1 e2 z => ?_⟩, by simp [hl], fun j a e => ?_, r.trs.stay (fun a xs z => z.grow g) (fun j d' e => by
    by_cases hj : j = i
    · subst hj; have := (set_eq e).2; cases this
    · exact ⟨(set_ne hj).mp e, List.getElem?_set_ne (Ne.symm hj)⟩) (fun j b c x e q => by
    by_cases hj : j = i
    · subst hj
      have hlt : j < σ.length := by have := (set_eq e).1; omega
      rw [List.getElem?_set_self hlt] at q
      cases q
      exact .inl hp
    · exact .inr ⟨j, b, c, (set_ne hj).mp e, (set_ne hj).mp q⟩) (fun p o h _ => .inl (g.h p o h)) fun p h1 h2 h3 => .inl ⟨(g.fr p h1).trans h2, h3⟩⟩
  · by_cases hj : j = i
    · subst hj; have := (set_eq e).2; cases this
    · obtain ⟨v, a, b⟩ := r1.vals j d' ((set_ne hj).mp e)
      exact ⟨v, (set_ne hj).mpr a, b⟩
  · by_cases hj : j = i
    · subst hj
      obtain ⟨hi, q⟩ := set_eq e
      cases q
      have hi' : j < σ.length := by omega
      exact ⟨o, by simp [hi'], by simp [ho], hv, by simp [hF], by simp [h00], fun _ z => by cases z⟩
    · obtain ⟨o', x1, x2, x3, x4, x5, x6⟩ := h1 j a c' ((set_ne hj).mp e)
      refine ⟨o', ?_, ?_, x3, ?_, ?_, fun b z => ?_⟩
      · simp only [if_neg hj]; exact (set_ne hj).mpr x1
      · simp only [if_neg hj]; exact x2
      · simp only [if_neg hj]; exact x4
      · simp only [if_neg hj]; exact x5
      · simp only [if_neg hj]; exact x6 b z
  · by_cases hj : j = i <;> by_cases hk : k = i
    · rw [hj, hk]
    · simp only [if_pos hj, if_neg hk] at z
      exact absurd z.symm (ne ((set_ne hk).mp e2))
    · simp only [if_neg hj, if_pos hk] at z
      exact absurd z (ne ((set_ne hj).mp e1))
    · simp only [if_neg hj, if_neg hk] at z
      exact h2 j k a b c' d' ((set_ne hj).mp e1) ((set_ne hk).mp e2) z
  · by_cases hj : j = i
    · subst hj; have := (set_eq e).2; cases this
    · exact (set_ne hj).mpr (r.excs j a ((set_ne hj).mp e))
theorem Rel.own (r : Rel K H0 F0 F env σ H) {i : Nat} {a : Option Addr} {c : OC} (e : env[i]? = some (.own a c)) : ∃ l o, σ[i]? = some (some (.ref l)) ∧ H l = some o ∧ OcR K F o c ∧ F l = none ∧ H0 l = none ∧ ∀ b, a = some b → l = b := by
  obtain ⟨A, h1, _⟩ := r.owns
  obtain ⟨o, h⟩ := h1 i a c e
  exact ⟨_, o, h⟩
/-- one's own object is changed -/
theorem Rel.mut (r : Rel K H0 F0 F env σ H) {i : Nat} {a : Option Addr} {c c' : OC} {l : Addr} {o : HO} (e : env[i]? = some (.own a c)) (hl : σ[i]? = some (some (.ref l))) (hv : OcR K F o c') : Rel K H0 F0 F (env.set i (.own a c')) σ (upd H l o) := by
  obtain ⟨A, h1, h2⟩ := r.owns
  obtain ⟨o1, x1, x2, x3, x4, x5, x6⟩ := h1 i a c e
  have hA : A i = l := by rw [x1] at hl; injection hl with hl; injection hl with hl; injection hl
  subst hA
  have hi : i < env.length := (List.getElem?_eq_some_iff.mp e).1
  have isown : ∀ {j : Nat} {b : Option Addr} {d : OC}, (env.set i (.own a c'))[j]? = some (.own b d) → ∃ b' d', env[j]? = some (.own b' d') := fun {j b d} q => by
    by_cases hj : j = i
    · subst hj; exact ⟨a, c, e⟩
    · exact ⟨b, d, (set_ne hj).mp q⟩
  refine ⟨⟨Ex.mut r.g.h x5, r.g.f, Ex.mut r.fh x4, r.g.fr⟩, fun j d' q => ?_, ⟨A, fun j b d q => ?_, fun j k b b2 d d2 q1 q2 z => ?_⟩, by simp [r.len], fun j b q => ?_, r.trs.stay (fun a' xs z => z.mut (l := A i) (fun {ys} q => by rw [x2] at q; injection q with q; subst q; cases x3)) (fun j d' q => by
    by_cases hj : j = i
    · subst hj; have := (set_eq q).2; cases this
    · exact ⟨(set_ne hj).mp q, rfl⟩) (fun j b d x q q2 => by
    obtain ⟨b', d', hx⟩ := isown q
    exact .inr ⟨j, b', d', hx, q2⟩) (fun p o' h _ => by
    by_cases hp : p = A i
    · subst hp; exact .inr ⟨i, a, c, e, x1⟩
    · exact .inl (by rw [upd_ne hp]; exact h)) fun p _ h2 h3 => .inl ⟨h2, h3⟩⟩
  · by_cases hj : j = i
    · subst hj; have := (set_eq q).2; cases this
    · exact r.vals j d' ((set_ne hj).mp q)
  · by_cases hj : j = i
    · subst hj
      obtain ⟨_, q⟩ := set_eq q
      cases q
      exact ⟨o, x1, upd_same, hv, x4, x5, x6⟩
    · obtain ⟨o2, y1, y2, y3⟩ := h1 j b d ((set_ne hj).mp q)
      refine ⟨o2, y1, ?_, y3⟩
      rw [upd_ne]; · exact y2
      intro z
      exact hj (h2 j i b a d c ((set_ne hj).mp q) e z)
  · obtain ⟨b', d', hx⟩ := isown q1
    obtain ⟨b2', d2', hy⟩ := isown q2
    exact h2 j k b' b2' d' d2' hx hy z
  · by_cases hj : j = i
    · subst hj; have := (set_eq q).2; cases this
    · exact r.excs j b ((set_ne hj).mp q)
/-- one's own object is frozen -/
theorem Rel.freeze (r : Rel K H0 F0 F env σ H) {i : Nat} {a : Option Addr} {c : OC} (e : env[i]? = some (.own a c)) :
    ∃ l o, σ[i]? = some (some (.ref l)) ∧ H l = some o ∧ F l = none ∧ H0 l = none ∧ OcR K F o c ∧ Rel K H0 F0 (upd F l o) (env.set i (.val (ocD c))) σ H := by
  obtain ⟨A, h1, h2⟩ := r.owns
  obtain ⟨o, x1, x2, x3, x4, x5, x6⟩ := h1 i a c e
  have hi : i < env.length := (List.getElem?_eq_some_iff.mp e).1
  have eF : Ex F (upd F (A i) o) := Ex.new x4
  have ow : ∀ {j : Nat} {b : Option Addr} {d : OC}, (env.set i (.val (ocD c)))[j]? = some (.own b d) → j ≠ i ∧ env[j]? = some (.own b d) := fun {j b d} e => by
    by_cases hj : j = i
    · subst hj; have := (set_eq e).2; cases this
    · exact ⟨hj, (set_ne hj).mp e⟩
  refine ⟨A i, o, x1, x2, x4, x5, x3, ⟨r.g.h, r.g.f.trans eF, fun x o' q => ?_, fun x hx => ?_⟩, fun j d' q => ?_, ⟨A, fun j b d q => ?_, fun j k b b2 d d2 q1 q2 z => h2 j k b b2 d d2 (ow q1).2 (ow q2).2 z⟩, by simp [r.len], fun j b q => ?_, r.trs.stay (fun a' xs z => z.imp (fun h => eF _ _ h) (fun h => h)) (fun j d' q => by
    by_cases hj : j = i
    · subst hj; have := (set_eq q).2; cases this
    · exact ⟨(set_ne hj).mp q, rfl⟩) (fun j b d x q q2 => .inr ⟨j, b, d, (ow q).2, q2⟩) (fun p o' h _ => .inl h) fun p _ h2 h3 => by
    by_cases hp : p = A i
    · subst hp; exact .inr ⟨i, a, c, e, x1⟩
    · exact .inl ⟨by rw [upd_ne hp]; exact h2, h3⟩⟩
  · by_cases hx : x = A i
    · subst hx; rw [upd_same] at q; cases q; exact x2
    · rw [upd_ne hx] at q; exact r.fh x o' q
  · have : x ≠ A i := by rintro rfl; exact hx x5
    rw [upd_ne this]; exact r.g.fr x hx
  · by_cases hj : j = i
    · subst hj
      obtain ⟨_, q⟩ := set_eq q
      cases q
      exact ⟨_, x1, (x3.mono eF).dt upd_same⟩
    · obtain ⟨v, a', b'⟩ := r.vals j d' ((set_ne hj).mp q)
      exact ⟨v, a', b'.mono eF⟩
  · obtain ⟨hj, q'⟩ := ow q
    obtain ⟨o2, y1, y2, y3, y4, y5⟩ := h1 j b d q'
    refine ⟨o2, y1, y2, y3.mono eF, ?_, y5⟩
    rw [upd_ne]; · exact y4
    intro z
    exact hj (h2 j i b a d c q' e z)
  · by_cases hj : j = i
    · subst hj; have := (set_eq q).2; cases this
    · exact r.excs j b ((set_ne hj).mp q)
/-- some slots are forgotten -/
theorem Rel.weak (r : Rel K H0 F0 F env σ H) {env' : DEnv} {σ' : L2.St} (h : ∀ (j : Nat) (s : Sl), env'[j]? = some s → s ≠ .no → env[j]? = some s ∧ σ'[j]? = σ[j]?) (hl : env'.length = σ'.length) : Rel K H0 F0 F env' σ' H := by
  obtain ⟨A, h1, h2⟩ := r.owns
  refine ⟨r.g, fun j d e => ?_, ⟨A, fun j a c e => ?_, fun j k a b c d e1 e2 => h2 j k a b c d (h _ _ e1 (by intro z; cases z)).1 (h _ _ e2 (by intro z; cases z)).1⟩, hl, fun j a e => ?_, r.trs.stay (fun a xs z => z) (fun j d e => h _ _ e (by intro z; cases z)) (fun j b c x e q => .inr ⟨j, b, c, (h _ _ e (by intro z; cases z)).1, ((h _ _ e (by intro z; cases z)).2).symm.trans q⟩) (fun p o h _ => .inl h) fun p _ h2 h3 => .inl ⟨h2, h3⟩⟩
  · obtain ⟨e', s⟩ := h _ _ e (by intro z; cases z)
    obtain ⟨v, a, b⟩ := r.vals j d e'
    exact ⟨v, s.trans a, b⟩
  · obtain ⟨e', s⟩ := h _ _ e (by intro z; cases z)
    obtain ⟨o, p, q⟩ := h1 j a c e'
    exact ⟨o, s.trans p, q⟩
  · obtain ⟨e', s⟩ := h _ _ e (by intro z; cases z)
    exact s.trans (r.excs j a e')
end
end DL

namespace DL
open PySem PySem.Spec PyProof.Rows L2 Evl

/-! ### weakening -/
section
variable {X : Cx} {e : Expr} {t t' : TE} {u u' : TT} {es : List Expr} {a a' : TA} {st : Stmt} {sts : List Stmt} {w w' : TS}
theorem PE.imp (h : PE X e t) (i : ∀ σ H Q, t' σ H Q → t σ H Q) : PE X e t' := ⟨fun p s σ H Q I q => h.run p s σ H Q I (i _ _ _ q)⟩
theorem PT.imp (h : PT X e u) (i : ∀ σ H Q, u' σ H Q → u σ H Q) : PT X e u' := ⟨fun p s σ H Q I q => h.run p s σ H Q I (i _ _ _ q)⟩
theorem PW.imp (h : PW X e u) (i : ∀ σ H Q, u' σ H Q → u σ H Q) : PW X e u' := ⟨fun wh p s σ H Q I q => h.run wh p s σ H Q I (i _ _ _ q)⟩
theorem PA.imp (h : PA X es a) (i : ∀ σ H Q, a' σ H Q → a σ H Q) : PA X es a' := ⟨fun pos p s σ H Q I q => h.run pos p s σ H Q I (i _ _ _ q)⟩
theorem PS.imp (h : PS X st w) (i : ∀ D σ H, w' D σ H → w D σ H) : PS X st w' := ⟨fun p s σ H D I q => h.run p s σ H D I (i _ _ _ q)⟩
theorem PSs.imp (h : PSs X sts w) (i : ∀ D σ H, w' D σ H → w D σ H) : PSs X sts w' := ⟨fun p s σ H D I q => h.run p s σ H D I (i _ _ _ q)⟩
end

/-! ### readings by data -/
def dE (K : PySem.W.Frag) (f : DEnv → Option D) : TE := fun σ H Q => ∃ H0 F0 F env d, Rel K H0 F0 F env σ H ∧ f env = some d ∧ ∀ v H' F', Grow H F H' F' → Dt K F' v d → Q v H'
def dT (K : PySem.W.Frag) (f : DEnv → Option Bool) : TT := fun σ H Q => ∃ H0 F0 F env b, Rel K H0 F0 F env σ H ∧ f env = some b ∧ ∀ H' F', Grow H F H' F' → Q b H'
def dA (K : PySem.W.Frag) (f : DEnv → Option (List D)) : TA := fun σ H Q => ∃ H0 F0 F env ds, Rel K H0 F0 F env σ H ∧ f env = some ds ∧ ∀ vs H' F', Grow H F H' F' → DtA K F' vs ds → Q vs H'
def dO (K : PySem.W.Frag) (f : DEnv → Option (Option Int)) : TO := fun σ H Q => ∃ H0 F0 F env o, Rel K H0 F0 F env σ H ∧ f env = some o ∧ ∀ H' F', Grow H F H' F' → Q o H'

/-! ### names, constants -/
def getV (i : Nat) (env : DEnv) : Option D := match env[i]? with
  | some (.val d) => some d
  | _ => none
section
variable {X : Cx}
theorem de_var (i : Nat) {x : Str} {pos : Pos} (hN : X.N[i]? = some x := by rfl) (hv : Vis X.env.scope x := by first | exact Or.inl rfl | exact Or.inr (Or.inl rfl) | exact Or.inr (Or.inr rfl)) (hd : (x == ("__debug__" : Str)) = false := by decide)
    (hcd : (x == ("__classdict__" : Str)) = false := by decide) : PE X (.Name x pos) (dE X.K (getV i)) := by
  refine PE.imp (pe_var hN hv hd hcd) ?_
  rintro σ H Q ⟨H0, F0, F, env, d, r, hf, q⟩
  unfold getV at hf
  split at hf
  · rename_i d' he
    cases hf
    obtain ⟨v, a, b⟩ := r.vals i d he
    exact ⟨v, a, q v H F (.refl r.fh) b⟩
  · cases hf
theorem de_int {i : Int} {j pos} : PE X (.Constant (.int i) j pos) (dE X.K fun _ => some (.int i)) := PE.imp pe_int (by rintro σ H Q ⟨H0, F0, F, env, d, r, hf, q⟩; cases hf; exact q _ H F (.refl r.fh) (.int i))
theorem de_bl {i : Bool} {j pos} : PE X (.Constant (.bool i) j pos) (dE X.K fun _ => some (.bl i)) := PE.imp pe_bl (by rintro σ H Q ⟨H0, F0, F, env, d, r, hf, q⟩; cases hf; exact q _ H F (.refl r.fh) (.bl i))
theorem de_str {i : Str} {j pos} : PE X (.Constant (.str i) j pos) (dE X.K fun _ => some (.str i)) := PE.imp pe_str (by rintro σ H Q ⟨H0, F0, F, env, d, r, hf, q⟩; cases hf; exact q _ H F (.refl r.fh) (.str i))
theorem de_non {j pos} : PE X (.Constant .none j pos) (dE X.K fun _ => some .non) := PE.imp pe_non (by rintro σ H Q ⟨H0, F0, F, env, d, r, hf, q⟩; cases hf; exact q _ H F (.refl r.fh) .non)
/-- a module's constant -/
theorem de_globI {x : Str} {i : Int} {t : Tok} {pos : Pos} (hg : Gl X x) (hm : X.mg x = some (.int i t)) (hd : (x == ("__debug__" : Str)) = false := by decide) : PE X (.Name x pos) (dE X.K fun _ => some (.int i)) :=
  PE.imp (pe_glob (v := .int i) hg hm ⟨t, rfl⟩ hd) (by rintro σ H Q ⟨H0, F0, F, env, d, r, hf, q⟩; cases hf; exact q _ H F (.refl r.fh) (.int i))
end

/-! ### operators by data -/
def R2Ok (K : PySem.W.Frag) (r : R2) (g : D → D → Option D) : Prop := ∀ (F H : Hp) (x y : V) (a b d : D) (Q : VK), Ex F H → Dt K F x a → Dt K F y b → g a b = some d → (∀ v H' F', Grow H F H' F' → Dt K F' v d → Q v H') → r x y H Q
def R1Ok (K : PySem.W.Frag) (r : V → Hp → VK → Prop) (g : D → Option D) : Prop := ∀ (F H : Hp) (x : V) (a d : D) (Q : VK), Ex F H → Dt K F x a → g a = some d → (∀ v H' F', Grow H F H' F' → Dt K F' v d → Q v H') → r x H Q
/-- a call's -/
def RCOk (K : PySem.W.Frag) (r : List V → Hp → VK → Prop) (g : List D → Option D) : Prop := ∀ (F H : Hp) (xs : List V) (as : List D) (d : D) (Q : VK), Ex F H → DtA K F xs as → g as = some d → (∀ v H' F', Grow H F H' F' → Dt K F' v d → Q v H') → r xs H Q
def op2 (g : D → D → Option D) (fa fb : DEnv → Option D) : DEnv → Option D := fun env => match fa env with
  | none => none
  | some a => match fb env with
    | none => none
    | some b => g a b
def op1 (g : D → Option D) (fa : DEnv → Option D) : DEnv → Option D := fun env => match fa env with
  | none => none
  | some a => g a
def opC (g : List D → Option D) (fa : DEnv → Option (List D)) : DEnv → Option D := fun env => match fa env with
  | none => none
  | some a => g a
section
variable {X : Cx} {a b c e : Expr} {es : List Expr} {fa fb fc : DEnv → Option D} {fs : DEnv → Option (List D)} {pos p : Pos} {r r' : R2} {g g' : D → D → Option D} {x : Str}
theorem run2 (hr : R2Ok X.K r g) {σ : L2.St} {H : Hp} {Q : VK} (h : dE X.K (op2 g fa fb) σ H Q) : tOp r (dE X.K fa) (dE X.K fb) σ H Q := by
  obtain ⟨H0, F0, F, env, d, rl, hf, q⟩ := h
  unfold op2 at hf
  cases ha : fa env with
  | none => rw [ha] at hf; cases hf
  | some da =>
    rw [ha] at hf
    simp only at hf
    cases hb : fb env with
    | none => rw [hb] at hf; cases hf
    | some db =>
      rw [hb] at hf
      simp only at hf
      refine ⟨H0, F0, F, env, da, rl, ha, fun v H1 F1 g1 hv => ⟨H0, F0, F1, env, db, rl.grow g1, hb, fun u H2 F2 g2 hu => ?_⟩⟩
      exact hr F2 H2 v u da db d Q g2.fh (hv.mono g2.f) hu hf fun z H3 F3 g3 hz => q z H3 F3 ((g1.trans g2).trans g3) hz
theorem de_op {op : Operator} (ho : OpR X (binaryOp op) r) (hr : R2Ok X.K r g) (ha : PE X a (dE X.K fa)) (hb : PE X b (dE X.K fb)) : PE X (.BinOp a op b pos) (dE X.K (op2 g fa fb)) :=
  PE.imp (pe_op ho ha hb) fun _ _ _ h => run2 hr h
theorem de_cmp {op : CmpOp} (ho : OpR X (compareOp op) r) (hr : R2Ok X.K r g) (ha : PE X a (dE X.K fa)) (hb : PE X b (dE X.K fb)) (hm : behindInMarks op b = false) : PE X (.Compare a [op] [b] pos) (dE X.K (op2 g fa fb)) :=
  PE.imp (pe_cmpR ho ha hb hm) fun _ _ _ h => run2 hr h
/-- a value as a test's answer -/
def asB : Option D → Option Bool
  | some (.bl b) => some b
  | _ => none
def tstB (f : DEnv → Option D) : DEnv → Option Bool := fun env => asB (f env)
theorem dT_test {t : TE} {f : DEnv → Option D} (h : ∀ σ H Q, dE X.K f σ H Q → t σ H Q) {σ : L2.St} {H : Hp} {Q : Bool → Hp → Prop} (q : dT X.K (tstB f) σ H Q) : tTest t σ H Q := by
  obtain ⟨H0, F0, F, env, k, rl, hf, q⟩ := q
  refine h _ _ _ ?_
  unfold tstB at hf
  cases hd : f env with
  | none => rw [hd] at hf; cases hf
  | some d =>
    rw [hd] at hf
    cases d <;> simp [asB] at hf
    subst hf
    exact ⟨H0, F0, F, env, _, rl, hd, fun v H' F' g hv => ⟨_, hv.inv_bl, q H' F' g⟩⟩
theorem dt_cmp {op : CmpOp} (ho : OpR X (compareOp op) r) (hr : R2Ok X.K r g) (ha : PE X a (dE X.K fa)) (hb : PE X b (dE X.K fb)) (hm : behindInMarks op b = false) : PT X (.Compare a [op] [b] pos) (dT X.K (tstB (op2 g fa fb))) :=
  PT.imp (pt_cmpR ho ha hb hm) fun _ _ _ h => dT_test (fun _ _ _ z => run2 hr z) h
/-- a op b op' c -/
def chn (g g' : D → D → Option D) (fa fb fc : DEnv → Option D) : DEnv → Option D := fun env => match fa env with
  | none => none
  | some a => match fb env with
    | none => none
    | some b => match g a b with
      | some (.bl true) => (match fc env with
        | none => none
        | some c => g' b c)
      | some (.bl false) => some (.bl false)
      | _ => none
theorem runC (hr : R2Ok X.K r g) (hr' : R2Ok X.K r' g') {σ : L2.St} {H : Hp} {Q : VK} (h : dE X.K (chn g g' fa fb fc) σ H Q) : tChain r r' (dE X.K fa) (dE X.K fb) (dE X.K fc) σ H Q := by
  obtain ⟨H0, F0, F, env, d, rl, hf, q⟩ := h
  unfold chn at hf
  cases ha : fa env with
  | none => rw [ha] at hf; cases hf
  | some da =>
    rw [ha] at hf
    simp only at hf
    cases hb : fb env with
    | none => rw [hb] at hf; cases hf
    | some db =>
      rw [hb] at hf
      simp only at hf
      refine ⟨H0, F0, F, env, da, rl, ha, fun v H1 F1 g1 hv => ⟨H0, F0, F1, env, db, rl.grow g1, hb, fun u H2 F2 g2 hu => ?_⟩⟩
      cases hg : g da db with
      | none => rw [hg] at hf; cases hf
      | some k =>
        rw [hg] at hf
        refine hr F2 H2 v u da db k _ g2.fh (hv.mono g2.f) hu hg fun z H3 F3 g3 hz => ?_
        cases k with
        | bl k =>
          refine ⟨k, hz.inv_bl, ?_⟩
          cases k with
          | true =>
            simp only at hf
            refine iteT ?_
            cases hc : fc env with
            | none => rw [hc] at hf; cases hf
            | some dc =>
              rw [hc] at hf
              simp only at hf
              refine ⟨H0, F0, F3, env, dc, ((rl.grow g1).grow g2).grow g3, hc, fun w H4 F4 g4 hw => ?_⟩
              exact hr' F4 H4 u w db dc d Q g4.fh ((hu.mono g3.f).mono g4.f) hw hf fun z H5 F5 g5 hz => q z H5 F5 ((((g1.trans g2).trans g3).trans g4).trans g5) hz
          | false =>
            simp only at hf
            cases hf
            exact iteF (q _ H3 F3 ((g1.trans g2).trans g3) (.bl false))
        | _ => simp at hf
theorem de_chn {op op' : CmpOp} (ho : OpR X (compareOp op) r) (hr : R2Ok X.K r g) (ho' : OpR X (compareOp op') r') (hr' : R2Ok X.K r' g') (ha : PE X a (dE X.K fa)) (hb : PE X b (dE X.K fb)) (hc : PE X c (dE X.K fc))
    (hm : lastMarks [op, op'] [b, c] = false := by with_unfolding_all rfl) : PE X (.Compare a [op, op'] [b, c] pos) (dE X.K (chn g g' fa fb fc)) := PE.imp (pe_chain ho ho' ha hb hc hm) fun _ _ _ h => runC hr hr' h
theorem dt_chn {op op' : CmpOp} (ho : OpR X (compareOp op) r) (hr : R2Ok X.K r g) (ho' : OpR X (compareOp op') r') (hr' : R2Ok X.K r' g') (ha : PE X a (dE X.K fa)) (hb : PE X b (dE X.K fb)) (hc : PE X c (dE X.K fc))
    (hm : lastMarks [op, op'] [b, c] = false := by with_unfolding_all rfl) : PT X (.Compare a [op, op'] [b, c] pos) (dT X.K (tstB (chn g g' fa fb fc))) := PT.imp (pt_chain ho ho' ha hb hc hm) fun _ _ _ h => dT_test (fun _ _ _ z => runC hr hr' z) h

/-! ### arguments, displays -/
theorem da_nil : PA X [] (dA X.K fun _ => some []) := PA.imp pa_nil (by
  rintro σ H Q ⟨H0, F0, F, env, d, r, hf, q⟩
  cases hf
  exact q _ H F (.refl r.fh) .nil)
def consA (fa : DEnv → Option D) (fs : DEnv → Option (List D)) : DEnv → Option (List D) := fun env => match fa env with
  | none => none
  | some a => match fs env with
    | none => none
    | some as => some (a :: as)
theorem da_cons (ha : PE X e (dE X.K fa)) (hr : PA X es (dA X.K fs)) (hs : starEach (e :: es) X.env = (false, eval e X.env) :: starEach es X.env := by rfl) : PA X (e :: es) (dA X.K (consA fa fs)) := by
  refine PA.imp (pa_cons ha hr hs) ?_
  rintro σ H Q ⟨H0, F0, F, env, d, rl, hf, q⟩
  unfold consA at hf
  cases ha : fa env with
  | none => rw [ha] at hf; cases hf
  | some da =>
    rw [ha] at hf
    simp only at hf
    cases hb : fs env with
    | none => rw [hb] at hf; cases hf
    | some db =>
      rw [hb] at hf
      cases hf
      refine ⟨H0, F0, F, env, da, rl, ha, fun v H1 F1 g1 hv => ⟨H0, F0, F1, env, db, rl.grow g1, hb, fun u H2 F2 g2 hu => ?_⟩⟩
      exact q _ H2 F2 (g1.trans g2) (.cons (hv.mono g2.f) hu)
def mkT (xs : List D) : Option D := if xs.length ≤ 100000 then some (.tup xs) else none
def mkL (xs : List D) : Option D := if xs.length ≤ 100000 then some (.lst xs) else none
theorem de_tup {x1} (h : PA X es (dA X.K fs)) : PE X (.Tuple es x1 pos) (dE X.K (opC mkT fs)) := by
  refine PE.imp (pe_tup h) ?_
  rintro σ H Q ⟨H0, F0, F, env, d, rl, hf, q⟩
  unfold opC at hf
  cases hb : fs env with
  | none => rw [hb] at hf; cases hf
  | some ds =>
    rw [hb] at hf
    simp only [mkT] at hf
    split at hf
    · rename_i hl
      cases hf
      refine ⟨H0, F0, F, env, ds, rl, hb, fun vs H1 F1 g1 hv => ⟨sz_of (by rw [hv.len]; exact hl), fun p hp => ?_⟩⟩
      have g2 := Grow.new (o := .tup vs) g1.fh hp
      exact q _ _ _ (g1.trans g2) (.tup' upd_same (hv.mono g2.f))
    · cases hf
theorem de_lst (h : PA X es (dA X.K fs)) : PE X (.List es pos) (dE X.K (opC mkL fs)) := by
  refine PE.imp (pe_lst h) ?_
  rintro σ H Q ⟨H0, F0, F, env, d, rl, hf, q⟩
  unfold opC at hf
  cases hb : fs env with
  | none => rw [hb] at hf; cases hf
  | some ds =>
    rw [hb] at hf
    simp only [mkL] at hf
    split at hf
    · rename_i hl
      cases hf
      refine ⟨H0, F0, F, env, ds, rl, hb, fun vs H1 F1 g1 hv => ⟨sz_of (by rw [hv.len]; exact hl), fun p hp => ?_⟩⟩
      have g2 := Grow.new (o := .lst vs) g1.fh hp
      exact q _ _ _ (g1.trans g2) (.lst' upd_same (hv.mono g2.f))
    · cases hf

/-! ### and, or, not, if -/
def andE (fa fb : DEnv → Option D) : DEnv → Option D := fun env => match fa env with
  | some (.bl true) => fb env
  | some (.bl false) => some (.bl false)
  | _ => none
def orE (fa fb : DEnv → Option D) : DEnv → Option D := fun env => match fa env with
  | some (.bl true) => some (.bl true)
  | some (.bl false) => fb env
  | _ => none
variable {rest : List Expr}
theorem de_and (ha : PE X a (dE X.K fa)) (hb : PE X (.BoolOp .And (b :: rest) pos) (dE X.K fb)) : PE X (.BoolOp .And (a :: b :: rest) pos) (dE X.K (andE fa fb)) := by
  refine PE.imp (pe_and ha hb) ?_
  rintro σ H Q ⟨H0, F0, F, env, d, rl, hf, q⟩
  unfold andE at hf
  split at hf
  · rename_i ha
    exact ⟨H0, F0, F, env, _, rl, ha, fun v H1 F1 g1 hv => ⟨true, hv.inv_bl, iteT ⟨H0, F0, F1, env, d, rl.grow g1, hf, fun u H2 F2 g2 hu => q u H2 F2 (g1.trans g2) hu⟩⟩⟩
  · rename_i ha
    cases hf
    exact ⟨H0, F0, F, env, _, rl, ha, fun v H1 F1 g1 hv => ⟨false, hv.inv_bl, iteF (q _ H1 F1 g1 (.bl false))⟩⟩
  · cases hf
theorem de_or (ha : PE X a (dE X.K fa)) (hb : PE X (.BoolOp .Or (b :: rest) pos) (dE X.K fb)) : PE X (.BoolOp .Or (a :: b :: rest) pos) (dE X.K (orE fa fb)) := by
  refine PE.imp (pe_or ha hb) ?_
  rintro σ H Q ⟨H0, F0, F, env, d, rl, hf, q⟩
  unfold orE at hf
  split at hf
  · rename_i ha
    cases hf
    exact ⟨H0, F0, F, env, _, rl, ha, fun v H1 F1 g1 hv => ⟨true, hv.inv_bl, iteT (q _ H1 F1 g1 (.bl true))⟩⟩
  · rename_i ha
    exact ⟨H0, F0, F, env, _, rl, ha, fun v H1 F1 g1 hv => ⟨false, hv.inv_bl, iteF ⟨H0, F0, F1, env, d, rl.grow g1, hf, fun u H2 F2 g2 hu => q u H2 F2 (g1.trans g2) hu⟩⟩⟩
  · cases hf
theorem de_one {op} (h : PE X a (dE X.K fa)) : PE X (.BoolOp op [a] pos) (dE X.K fa) := pe_one h
variable {ta tb : DEnv → Option Bool}
/-- tests -/
def andT (fa fb : DEnv → Option Bool) : DEnv → Option Bool := fun env => match fa env with
  | some true => fb env
  | some false => some false
  | none => none
def orT (fa fb : DEnv → Option Bool) : DEnv → Option Bool := fun env => match fa env with
  | some true => some true
  | some false => fb env
  | none => none
def notT (fa : DEnv → Option Bool) : DEnv → Option Bool := fun env => match fa env with
  | some b => some (!b)
  | none => none
theorem dw_and (ha : PT X a (dT X.K ta)) (hb : PW X (.BoolOp .And (b :: rest) pos) (dT X.K tb)) : PW X (.BoolOp .And (a :: b :: rest) pos) (dT X.K (andT ta tb)) := by
  refine PW.imp (pw_and ha hb) ?_
  rintro σ H Q ⟨H0, F0, F, env, d, rl, hf, q⟩
  unfold andT at hf
  split at hf
  · rename_i ha
    exact ⟨H0, F0, F, env, _, rl, ha, fun H1 F1 g1 => iteT ⟨H0, F0, F1, env, d, rl.grow g1, hf, fun H2 F2 g2 => q H2 F2 (g1.trans g2)⟩⟩
  · rename_i ha
    cases hf
    exact ⟨H0, F0, F, env, _, rl, ha, fun H1 F1 g1 => iteF (q H1 F1 g1)⟩
  · cases hf
theorem dw_or (ha : PT X a (dT X.K ta)) (hb : PW X (.BoolOp .Or (b :: rest) pos) (dT X.K tb)) : PW X (.BoolOp .Or (a :: b :: rest) pos) (dT X.K (orT ta tb)) := by
  refine PW.imp (pw_or ha hb) ?_
  rintro σ H Q ⟨H0, F0, F, env, d, rl, hf, q⟩
  unfold orT at hf
  split at hf
  · rename_i ha
    cases hf
    exact ⟨H0, F0, F, env, _, rl, ha, fun H1 F1 g1 => iteT (q H1 F1 g1)⟩
  · rename_i ha
    exact ⟨H0, F0, F, env, _, rl, ha, fun H1 F1 g1 => iteF ⟨H0, F0, F1, env, d, rl.grow g1, hf, fun H2 F2 g2 => q H2 F2 (g1.trans g2)⟩⟩
  · cases hf
theorem dw_and1 (ha : PT X a (dT X.K ta)) : PW X (.BoolOp .And [a] pos) (dT X.K ta) := pw_and1 ha
theorem dw_or1 (ha : PT X a (dT X.K ta)) : PW X (.BoolOp .Or [a] pos) (dT X.K ta) := pw_or1 ha
theorem dt_not (ha : PT X a (dT X.K ta)) : PT X (.UnaryOp .Not a pos) (dT X.K (notT ta)) := by
  refine PT.imp (pt_not ha) ?_
  rintro σ H Q ⟨H0, F0, F, env, d, rl, hf, q⟩
  unfold notT at hf
  split at hf
  · rename_i ha
    cases hf
    exact ⟨H0, F0, F, env, _, rl, ha, fun H1 F1 g1 => q H1 F1 g1⟩
  · cases hf
/-- truth -/
def truD : D → Option Bool
  | .non => some false
  | .bl b => some b
  | .int i => some (i != 0)
  | .lst xs => some (!xs.isEmpty)
  | .tup xs => some (!xs.isEmpty)
  | _ => none
def tru (f : DEnv → Option D) : DEnv → Option Bool := fun env => match f env with
  | some d => truD d
  | none => none
theorem isEmpty_len {α β : Type} {xs : List α} {ys : List β} (h : xs.length = ys.length) : xs.isEmpty = ys.isEmpty := by
  cases xs <;> cases ys <;> first | rfl | (simp at h)
theorem dt_tru (ha : PE X a (dE X.K fa)) (he : ∀ whole, isTrue a X.env whole = (do let v ← whole; standAt a.pos; holding [v] (truthy v)) := by intro _; rfl) : PT X a (dT X.K (tru fa)) := by
  refine PT.imp (pt_truth ha he) ?_
  rintro σ H Q ⟨H0, F0, F, env, d, rl, hf, q⟩
  unfold tru at hf
  split at hf
  · rename_i x ha
    refine ⟨H0, F0, F, env, _, rl, ha, fun v H1 F1 g1 hv => ?_⟩
    cases x with
    | non => cases hf; cases hv.inv_non; exact ⟨false, rfl, q H1 F1 g1⟩
    | bl b => cases hf; cases hv.inv_bl; exact ⟨_, rfl, q H1 F1 g1⟩
    | int b => cases hf; cases hv.inv_int; exact ⟨_, rfl, q H1 F1 g1⟩
    | lst xs =>
      cases hf
      obtain ⟨p, vs, rfl, e, r⟩ := hv.inv_lst
      exact ⟨_, .inl ⟨vs, .inl (.inl (g1.fh _ _ e)), by rw [isEmpty_len r.len]⟩, q H1 F1 g1⟩
    | tup xs =>
      cases hf
      obtain ⟨p, vs, rfl, e, r⟩ := hv.inv_tup
      exact ⟨_, .inr (.inl ⟨vs, .inl (.inl (g1.fh _ _ e)), by rw [isEmpty_len r.len]⟩), q H1 F1 g1⟩
    | _ => simp [truD] at hf
  · cases hf
def notG (d : D) : Option D := match truD d with
  | some b => some (.bl !b)
  | none => none
theorem truV_of {K : PySem.W.Frag} {F H : Hp} {v : V} {x : D} {b : Bool} (e : Ex F H) (hv : Dt K F v x) (ht : truD x = some b) : TruV K v H b := by
  cases x with
  | non => cases ht; cases hv.inv_non; exact rfl
  | bl b => cases ht; cases hv.inv_bl; exact rfl
  | int b => cases ht; cases hv.inv_int; exact rfl
  | lst xs =>
    cases ht
    obtain ⟨p, vs, rfl, e', r⟩ := hv.inv_lst
    exact .inl ⟨vs, .inl (.inl (e _ _ e')), by rw [isEmpty_len r.len]⟩
  | tup xs =>
    cases ht
    obtain ⟨p, vs, rfl, e', r⟩ := hv.inv_tup
    exact .inr (.inl ⟨vs, .inl (.inl (e _ _ e')), by rw [isEmpty_len r.len]⟩)
  | _ => simp [truD] at ht
theorem de_not (ha : PE X a (dE X.K fa)) : PE X (.UnaryOp .Not a pos) (dE X.K (op1 notG fa)) := by
  refine PE.imp (pe_notT ha) ?_
  rintro σ H Q ⟨H0, F0, F, env, d, rl, hf, q⟩
  unfold op1 at hf
  cases ha : fa env with
  | none => rw [ha] at hf; cases hf
  | some da =>
    rw [ha] at hf
    simp only [notG] at hf
    cases ht : truD da with
    | none => rw [ht] at hf; cases hf
    | some k =>
      rw [ht] at hf
      cases hf
      exact ⟨H0, F0, F, env, _, rl, ha, fun v H1 F1 g1 hv => ⟨k, truV_of g1.fh hv ht, q _ H1 F1 g1 (.bl _)⟩⟩
def ifE (ta : DEnv → Option Bool) (fa fb : DEnv → Option D) : DEnv → Option D := fun env => match ta env with
  | some true => fa env
  | some false => fb env
  | none => none
theorem de_ifE (hc : PT X c (dT X.K ta)) (ha : PE X a (dE X.K fa)) (hb : PE X b (dE X.K fb)) : PE X (.IfExp c a b pos) (dE X.K (ifE ta fa fb)) := by
  refine PE.imp (pe_ifExp hc ha hb) ?_
  rintro σ H Q ⟨H0, F0, F, env, d, rl, hf, q⟩
  unfold ifE at hf
  split at hf
  · rename_i ha
    exact ⟨H0, F0, F, env, _, rl, ha, fun H1 F1 g1 => iteT ⟨H0, F0, F1, env, d, rl.grow g1, hf, fun u H2 F2 g2 hu => q u H2 F2 (g1.trans g2) hu⟩⟩
  · rename_i ha
    exact ⟨H0, F0, F, env, _, rl, ha, fun H1 F1 g1 => iteF ⟨H0, F0, F1, env, d, rl.grow g1, hf, fun u H2 F2 g2 hu => q u H2 F2 (g1.trans g2) hu⟩⟩
  · cases hf

/-! ### subscripts, slices -/
theorem de_ix {r : R2} {g : D → D → Option D} (hi : IxR X r) (hr : R2Ok X.K r g) (ha : PE X a (dE X.K fa)) (hb : PE X b (dE X.K fb)) (hs : PlainIx b := by exact fun _ _ => rfl) : PE X (.Subscript a b pos) (dE X.K (op2 g fa fb)) :=
  PE.imp (pe_ix hi ha hb hs) fun _ _ _ h => run2 hr h
variable {oa ob : DEnv → Option (Option Int)} {lo hi : Option Expr} {p2 : Pos}
theorem do_none : PO X none (dO X.K fun _ => some none) := ⟨fun pins s σ H Q I h => (po_none (X := X)).run pins s σ H Q I (by
  obtain ⟨H0, F0, F, env, d, r, hf, q⟩ := h
  cases hf
  exact q H F (.refl r.fh))⟩
def prt (fa : DEnv → Option D) : DEnv → Option (Option Int) := fun env => match fa env with
  | some (.int i) => some (some i)
  | _ => none
theorem do_some (h : PE X e (dE X.K fa)) : PO X (some e) (dO X.K (prt fa)) := ⟨fun pins s σ H Q I q => (po_some h).run pins s σ H Q I (by
  obtain ⟨H0, F0, F, env, d, r, hf, q⟩ := q
  unfold prt at hf
  split at hf
  · rename_i i ha
    cases hf
    exact ⟨H0, F0, F, env, _, r, ha, fun v H1 F1 g1 hv => ⟨i, hv.inv_int, q H1 F1 g1⟩⟩
  · cases hf)⟩
/-- the bounds of a slice, on data -/
def cutD (xs : List D) (lo hi : Option Int) : List D := (xs.drop (HT.sIx xs.length 0 lo)).take (HT.sIx xs.length xs.length hi - HT.sIx xs.length 0 lo)
theorem DtA.cut {K : PySem.W.Frag} {F : Hp} {vs : List V} {ds : List D} (r : DtA K F vs ds) (lo hi : Option Int) : DtA K F (cutV vs lo hi) (cutD ds lo hi) := by
  unfold cutV cutD
  rw [r.len]
  exact (r.drop _).take _
def slG : D → Option Int → Option Int → Option D
  | .lst xs, lo, hi => some (.lst (cutD xs lo hi))
  | _, _, _ => none
def slF (fa : DEnv → Option D) (oa ob : DEnv → Option (Option Int)) : DEnv → Option D := fun env => match fa env with
  | none => none
  | some d => match oa env with
    | none => none
    | some lo => match ob env with
      | none => none
      | some hi => slG d lo hi
theorem de_slice (he : PE X e (dE X.K fa)) (hl : PO X lo (dO X.K oa)) (hu : PO X hi (dO X.K ob)) : PE X (.Subscript e (.Slice lo hi none p2) pos) (dE X.K (slF fa oa ob)) := by
  refine PE.imp (pe_slice sl_list he hl hu) ?_
  rintro σ H Q ⟨H0, F0, F, env, d, rl, hf, q⟩
  unfold slF at hf
  cases ha : fa env with
  | none => rw [ha] at hf; cases hf
  | some da =>
    rw [ha] at hf
    simp only at hf
    cases hb : oa env with
    | none => rw [hb] at hf; cases hf
    | some db =>
      rw [hb] at hf
      simp only at hf
      cases hc : ob env with
      | none => rw [hc] at hf; cases hf
      | some dc =>
        rw [hc] at hf
        simp only at hf
        refine ⟨H0, F0, F, env, da, rl, ha, fun v H1 F1 g1 hv => ⟨H0, F0, F1, env, db, rl.grow g1, hb, fun H2 F2 g2 => ⟨H0, F0, F2, env, dc, (rl.grow g1).grow g2, hc, fun H3 F3 g3 => ?_⟩⟩⟩
        cases da with
        | lst xs =>
          simp [slG] at hf
          subst hf
          obtain ⟨p, vs, rfl, e, r⟩ := (hv.mono (g2.f.trans g3.f)).inv_lst
          refine ⟨p, vs, rfl, .inl (.inl (g3.fh _ _ e)), fun z hz => ?_⟩
          have g4 := Grow.new (o := .lst (cutV vs db dc)) g3.fh hz
          exact q _ _ _ (((g1.trans g2).trans g3).trans g4) (.lst' upd_same ((r.mono g4.f).cut db dc))
        | _ => simp [slG] at hf

/-! ### calls -/
theorem de_callB {id : String} {rc : List V → Hp → VK → Prop} {gc : List D → Option D} (hc : CallR X (.builtin id) rc) (hr : RCOk X.K rc gc) (hg : Gl X x) (hm : X.mg x = none) (hv : bootBuiltins x = some (.builtin id)) (ha : PA X (e :: es) (dA X.K fs)) (hn : x ≠ "__name__" := by decide) (hdb : (x == ("__debug__" : Str)) = false := by decide)
    (he : starEach (e :: es) X.env = (false, eval e X.env) :: starEach es X.env := by rfl) (hpl : (backTo pos (starEach es X.env)).any (·.1) = false := by rfl) : PE X (.Call (.Name x p) (e :: es) [] pos) (dE X.K (opC gc fs)) := by
  refine PE.imp (pe_callB hc hg hm hv ha hn hdb he hpl) ?_
  rintro σ H Q ⟨H0, F0, F, env, d, rl, hf, q⟩
  unfold opC at hf
  cases hb : fs env with
  | none => rw [hb] at hf; cases hf
  | some ds =>
    rw [hb] at hf
    exact ⟨H0, F0, F, env, ds, rl, hb, fun vs H1 F1 g1 hv => hr F1 H1 vs ds d Q g1.fh hv hf fun v H2 F2 g2 hv => q v H2 F2 (g1.trans g2) hv⟩
theorem de_callTy {T : String} {rc : List V → Hp → VK → Prop} {gc : List D → Option D} (hc : CallR X (.type T) rc) (hr : RCOk X.K rc gc) (hg : Gl X x) (hm : X.mg x = none) (hv : bootBuiltins x = some (.type T)) (ha : PA X (e :: es) (dA X.K fs)) (hn : x ≠ "__name__" := by decide) (hdb : (x == ("__debug__" : Str)) = false := by decide)
    (he : starEach (e :: es) X.env = (false, eval e X.env) :: starEach es X.env := by rfl) (hpl : (backTo pos (starEach es X.env)).any (·.1) = false := by rfl) : PE X (.Call (.Name x p) (e :: es) [] pos) (dE X.K (opC gc fs)) := by
  refine PE.imp (pe_callTy hc hg hm hv ha hn hdb he hpl) ?_
  rintro σ H Q ⟨H0, F0, F, env, d, rl, hf, q⟩
  unfold opC at hf
  cases hb : fs env with
  | none => rw [hb] at hf; cases hf
  | some ds =>
    rw [hb] at hf
    exact ⟨H0, F0, F, env, ds, rl, hb, fun vs H1 F1 g1 hv => hr F1 H1 vs ds d Q g1.fh hv hf fun v H2 F2 g2 hv => q v H2 F2 (g1.trans g2) hv⟩
end

/-- what a def answers: a datum, or an own error of the class of that name -/
inductive Res where
  | ok (d : D)
  | ex (c : Str)
def spF (K : PySem.W.Frag) (mg : Str → Option Value) (n : Nat) (f : List D → Option Res) : Sp := fun vs H Q E => vs.length = n ∧ ∃ F ds r, Ex F H ∧ DtA K F vs ds ∧ f ds = some r ∧
  match r with
  | .ok d => ∀ v H' F', Grow H F H' F' → Dt K F' v d → Q v H'
  | .ex c => ∃ C, mg c = some (.ref C) ∧ ∀ H' F', Grow H F H' F' → E (.ref C) none H'
def okD (f : List D → Option Res) : List D → Option D := fun ds => match f ds with
  | some (.ok d) => some d
  | _ => none
section
variable {X : Cx} {e : Expr} {es : List Expr} {fs : DEnv → Option (List D)} {pos p : Pos} {x : Str} {CX : CXT} {k n : Nat} {f : Addr} {fd : FuncData} {ps : List Str} {sf : List D → Option Res} {E : XK}
theorem de_call (G : FnOk X.prog X.w X.K X.mg X.base CX k f fd ps (spF X.K X.mg n sf)) (hr : Room k X.A) (hg : Gl X x) (hm : X.mg x = some (.ref f)) (hk : PySem.W.keepIn X.K (.ref f) = true) (hb : Binds X.K fd ps []) (hx : Passes CX X E)
    (ha : PA X (e :: es) (dA X.K fs)) (hl : ∀ env ds, fs env = some ds → ds.length = n) (hdb : (x == ("__debug__" : Str)) = false := by decide) (he : starEach (e :: es) X.env = (false, eval e X.env) :: starEach es X.env := by rfl) (hpl : (backTo pos (starEach es X.env)).any (·.1) = false := by rfl) :
    PE X (.Call (.Name x p) (e :: es) [] pos) (dE X.K (opC (okD sf) fs)) := by
  refine PE.imp (pe_call G hr hg hm hk hb .nil hx ha hdb he hpl) ?_
  rintro σ H Q ⟨H0, F0, F, env, d, rl, hf, q⟩
  unfold opC at hf
  cases hb : fs env with
  | none => rw [hb] at hf; cases hf
  | some ds =>
    rw [hb] at hf
    refine ⟨H0, F0, F, env, ds, rl, hb, fun vs H1 F1 g1 hv => ?_⟩
    unfold okD at hf
    simp only at hf
    split at hf
    · rename_i d' hd
      cases hf
      rw [List.append_nil]
      exact ⟨hv.len.trans (hl env ds hb), F1, ds, _, g1.fh, hv, hd, fun v H2 F2 g2 hv => q v H2 F2 (g1.trans g2) hv⟩
    · cases hf
end
end DL

namespace DL
open PySem PySem.Spec PyProof.Rows L2 Evl

/-! ### statements by data -/
inductive Out where
  | nx (e : DEnv)
  | bk (e : DEnv)
  | ct (e : DEnv)
  | rt (d : D) (e : DEnv)
  | ex (c : Str) (e : DEnv)
/-- what an own error's way out wants -/
abbrev RX := Str → L2.St → Hp → Prop
def Post (K : PySem.W.Frag) (R : RX) (H0 F0 : Hp) (o : Out) (D : Ends) : Prop := match o with
  | .nx e => ∀ F σ H, Rel K H0 F0 F e σ H → D.nx σ H
  | .bk e => ∀ F σ H, Rel K H0 F0 F e σ H → D.bk σ H
  | .ct e => ∀ F σ H, Rel K H0 F0 F e σ H → D.ct σ H
  | .rt d e => ∀ v F σ H, Rel K H0 F0 F e σ H → Dt K F v d → D.rt v H
  | .ex c e => ∀ F σ H, Rel K H0 F0 F e σ H → R c σ H
def dS (K : PySem.W.Frag) (R : RX) (f : DEnv → Option Out) : TS := fun D σ H => ∃ H0 F0 F env o, Rel K H0 F0 F env σ H ∧ f env = some o ∧ Post K R H0 F0 o D
def seqS (f g : DEnv → Option Out) : DEnv → Option Out := fun env => match f env with
  | some (.nx e) => g e
  | o => o
def nxS : DEnv → Option Out := fun env => some (.nx env)
section
variable {X : Cx} {R : RX} {st : Stmt} {rest : List Stmt} {f g : DEnv → Option Out} {fe : DEnv → Option D} {fs : DEnv → Option (List D)} {ft : DEnv → Option Bool} {e c : Expr} {pos : Pos}
theorem ds_nil : PSs X [] (dS X.K R nxS) := PSs.imp pss_nil (by
  rintro D σ H ⟨H0, F0, F, env, o, r, hf, p⟩
  cases hf
  exact p F σ H r)
theorem ds_cons (h1 : PS X st (dS X.K R f)) (h2 : PSs X rest (dS X.K R g)) : PSs X (st :: rest) (dS X.K R (seqS f g)) := by
  refine PSs.imp (pss_cons h1 h2) ?_
  rintro D σ H ⟨H0, F0, F, env, o, r, hf, p⟩
  unfold seqS at hf
  split at hf
  · rename_i e he
    exact ⟨H0, F0, F, env, .nx e, r, he, fun F' σ' H' r' => ⟨H0, F0, F', e, o, r', hf, p⟩⟩
  · rename_i hn
    refine ⟨H0, F0, F, env, o, r, hf, ?_⟩
    cases o with
    | nx e => exact absurd hf (hn e)
    | bk e => exact p
    | ct e => exact p
    | rt d e => exact p
    | ex c e => exact p
theorem ds_one (h1 : PS X st (dS X.K R f)) : PSs X [st] (dS X.K R f) := pss_one h1
theorem ds_pass : PS X (.Pass pos) (dS X.K R nxS) := PS.imp ps_pass (by
  rintro D σ H ⟨H0, F0, F, env, o, r, hf, p⟩
  cases hf
  exact p F σ H r)
theorem ds_break : PS X (.Break pos) (dS X.K R fun env => some (.bk env)) := PS.imp ps_break (by
  rintro D σ H ⟨H0, F0, F, env, o, r, hf, p⟩
  cases hf
  exact p F σ H r)
theorem ds_continue : PS X (.Continue pos) (dS X.K R fun env => some (.ct env)) := PS.imp ps_continue (by
  rintro D σ H ⟨H0, F0, F, env, o, r, hf, p⟩
  cases hf
  exact p F σ H r)
def retS (fe : DEnv → Option D) : DEnv → Option Out := fun env => match fe env with
  | some d => some (.rt d env)
  | none => none
theorem ds_ret (he : PE X e (dE X.K fe)) : PS X (.Return (some e) pos) (dS X.K R (retS fe)) := by
  refine PS.imp (ps_ret he) ?_
  rintro D σ H ⟨H0, F0, F, env, o, r, hf, p⟩
  unfold retS at hf
  split at hf
  · rename_i d hd
    cases hf
    exact ⟨H0, F0, F, env, d, r, hd, fun v H' F' g hv => p v F' σ H' (r.grow g) hv⟩
  · cases hf
theorem ds_retN : PS X (.Return none pos) (dS X.K R fun env => some (.rt .non env)) := PS.imp ps_retN (by
  rintro D σ H ⟨H0, F0, F, env, o, r, hf, p⟩
  cases hf
  exact p _ F σ H r .non)
def drpS (fe : DEnv → Option D) : DEnv → Option Out := fun env => match fe env with
  | some _ => some (.nx env)
  | none => none
theorem ds_expr (he : PE X e (dE X.K fe)) (hs : swapsWith e none pos.line X.env = pure false := by rfl) : PS X (.Expr e pos) (dS X.K R (drpS fe)) := by
  refine PS.imp (ps_expr he hs) ?_
  rintro D σ H ⟨H0, F0, F, env, o, r, hf, p⟩
  unfold drpS at hf
  split at hf
  · rename_i d hd
    cases hf
    exact ⟨H0, F0, F, env, d, r, hd, fun v H' F' g hv => p F' σ H' (r.grow g)⟩
  · cases hf
def ifS (ft : DEnv → Option Bool) (f g : DEnv → Option Out) : DEnv → Option Out := fun env => match ft env with
  | some true => f env
  | some false => g env
  | none => none
theorem ds_if {a b : List Stmt} (hc : PT X c (dT X.K ft)) (ha : PSs X a (dS X.K R f)) (hb : PSs X b (dS X.K R g)) : PS X (.If c a b pos) (dS X.K R (ifS ft f g)) := by
  refine PS.imp (ps_if hc ha hb) ?_
  rintro D σ H ⟨H0, F0, F, env, o, r, hf, p⟩
  unfold ifS at hf
  split at hf
  · rename_i hd
    exact ⟨H0, F0, F, env, _, r, hd, fun H' F' g => iteT ⟨H0, F0, F', env, o, r.grow g, hf, p⟩⟩
  · rename_i hd
    exact ⟨H0, F0, F, env, _, r, hd, fun H' F' g => iteF ⟨H0, F0, F', env, o, r.grow g, hf, p⟩⟩
  · cases hf

/-! ### targets -/
def dG (K : PySem.W.Frag) (ws : List Nat) (gf : D → DEnv → Option DEnv) : TG := fun v σ H Q => ∃ H0 F0 F env d env', Rel K H0 F0 F env σ H ∧ Dt K F v d ∧ gf d env = some env' ∧ ∀ σ', Rel K H0 F0 F env' σ' H → wipe σ' ws = wipe σ ws → Q σ' H
def dGs (K : PySem.W.Frag) (ws : List Nat) (gf : List D → DEnv → Option DEnv) : TGs := fun vs σ H Q => ∃ H0 F0 F env ds env', Rel K H0 F0 F env σ H ∧ DtA K F vs ds ∧ gf ds env = some env' ∧ ∀ σ', Rel K H0 F0 F env' σ' H → wipe σ' ws = wipe σ ws → Q σ' H
def setG (i : Nat) : D → DEnv → Option DEnv := fun d env => some (env.set i (.val d))
theorem wipe_comm (σ : L2.St) : ∀ (ws : List Nat) (i : Nat) (x : Option V), i ∉ ws → wipe (σ.set i x) ws = (wipe σ ws).set i x
  | [], i, x, _ => rfl
  | w :: ws, i, x, h => by
    have h1 : i ≠ w := fun z => h (by simp [z])
    have h2 : i ∉ ws := fun z => h (by simp [z])
    unfold wipe
    rw [wipe_comm σ ws i x h2, List.set_comm _ _ h1]
theorem wipe_set (σ : L2.St) : ∀ (ws : List Nat) (i : Nat) (x : Option V), i ∈ ws → wipe (σ.set i x) ws = wipe σ ws
  | [], i, x, h => absurd h (by simp)
  | w :: ws, i, x, h => by
    unfold wipe
    by_cases hw : i ∈ ws
    · rw [wipe_set σ ws i x hw]
    · have e : i = w := by
        rcases List.mem_cons.mp h with z | z
        · exact z
        · exact absurd z hw
      subst e
      rw [wipe_comm σ ws i x hw, List.set_set]
theorem dg_name {ws : List Nat} {i : Nat} {x : Str} (hN : X.N.Nodup) (hi : X.N[i]? = some x) (hx : Loc X.env.scope x) (hw : i ∈ ws) (hf : X.fn x = true ∨ X.env.scope.names.lookup x = some .local := by first | exact .inl rfl | exact .inr rfl | assumption) : PG X (.Name x pos) (dG X.K ws (setG i)) := by
  have h := pg_name (pos := pos) hN hi hx hf
  refine ⟨fun pins s σ H v u Q I rv q => h.run pins s σ H v u Q I rv ?_⟩
  obtain ⟨H0, F0, F, env, d, env', r, hv, hs, q⟩ := q
  cases hs
  exact q _ (r.setVal hv) (wipe_set σ ws i _ hw)
def nilG : List D → DEnv → Option DEnv := fun ds env => match ds with
  | [] => some env
  | _ :: _ => none
def consG (a : D → DEnv → Option DEnv) (b : List D → DEnv → Option DEnv) : List D → DEnv → Option DEnv := fun ds env => match ds with
  | [] => none
  | d :: r => match a d env with
    | none => none
    | some e => b r e
theorem dgs_nil {ws : List Nat} : PGs X [] (dGs X.K ws nilG) := by
  have h := pgs_nil (X := X)
  refine ⟨fun pins s σ H vs us Q I rv q => h.run pins s σ H vs us Q I rv ?_⟩
  obtain ⟨H0, F0, F, env, ds, env', r, hv, hs, q⟩ := q
  cases ds with
  | nil => cases hs; exact ⟨hv.inv_nil, q σ r rfl⟩
  | cons d ds => cases hs
theorem dgs_cons {ws : List Nat} {es : List Expr} {a : D → DEnv → Option DEnv} {b : List D → DEnv → Option DEnv} (h1 : PG X e (dG X.K ws a)) (h2 : PGs X es (dGs X.K ws b))
    (hs : (assignEach (e :: es) X.env).map (·.2) = assign e X.env :: (assignEach es X.env).map (·.2) := by rfl) : PGs X (e :: es) (dGs X.K ws (consG a b)) := by
  have h := pgs_cons h1 h2 hs
  refine ⟨fun pins s σ H vs us Q I rv q => h.run pins s σ H vs us Q I rv ?_⟩
  obtain ⟨H0, F0, F, env, ds, env', r, hv, hs, q⟩ := q
  cases ds with
  | nil => cases hs
  | cons d ds =>
    unfold consG at hs
    simp only at hs
    obtain ⟨v, vr, rfl, hd, hr⟩ := hv.inv_cons
    cases ha : a d env with
    | none => rw [ha] at hs; cases hs
    | some e1 =>
      rw [ha] at hs
      simp only at hs
      exact ⟨v, vr, rfl, H0, F0, F, env, d, e1, r, hd, ha, fun σ1 r1 w1 => ⟨H0, F0, F, e1, ds, env', r1, hr, hs, fun σ2 r2 w2 => q σ2 r2 (w2.trans w1)⟩⟩
def tupG (n : Nat) (b : List D → DEnv → Option DEnv) : D → DEnv → Option DEnv := fun d env => match d with
  | .tup ds => if ds.length = n then b ds env else none
  | _ => none
theorem dg_tup {ws : List Nat} {es : List Expr} {k n : Nat} {b : List D → DEnv → Option DEnv} (hc : X.calm = true) (h : PGs X es (dGs X.K ws b))
    (hn : (assignEach es X.env).length = n := by rfl) (hst : (assignEach es X.env).findIdx? (·.1) = none := by rfl) : PG X (.Tuple es k pos) (dG X.K ws (tupG n b)) := by
  have h := pg_tup (k := k) (pos := pos) hc h hn hst
  refine ⟨fun pins s σ H v u Q I rv q => h.run pins s σ H v u Q I rv ?_⟩
  obtain ⟨H0, F0, F, env, d, env', r, hv, hs, q⟩ := q
  cases d with
  | tup ds =>
    simp only [tupG] at hs
    split at hs
    · rename_i hl
      obtain ⟨p, vs, rfl, e, rr⟩ := hv.inv_tup
      exact ⟨p, vs, rfl, .inl (.inl (r.fh _ _ e)), rr.len.trans hl, H0, F0, F, env, ds, env', r, rr, hs, q⟩
    · cases hs
  | _ => simp [tupG] at hs

/-! ### assignments -/
def asgS (fe : DEnv → Option D) (gf : D → DEnv → Option DEnv) : DEnv → Option Out := fun env => match fe env with
  | none => none
  | some d => match gf d env with
    | none => none
    | some e => some (.nx e)
theorem ds_asg {ws : List Nat} {tg : Expr} {gf : D → DEnv → Option DEnv} (he : PE X e (dE X.K fe)) (hg : PG X tg (dG X.K ws gf)) (hs : swapsWithSole [tg] e pos.line X.env = pure false := by rfl) (hw : swappedStores [tg] e X.env = pure none := by rfl)
    (h1 : (assignEach [tg] X.env).map (·.2) = [assign tg X.env] := by rfl) : PS X (.Assign [tg] e pos) (dS X.K R (asgS fe gf)) := by
  refine PS.imp (ps_asg he hg hs hw h1) ?_
  rintro D σ H ⟨H0, F0, F, env, o, r, hf, p⟩
  unfold asgS at hf
  cases hd : fe env with
  | none => rw [hd] at hf; cases hf
  | some d =>
    rw [hd] at hf
    simp only at hf
    cases hg : gf d env with
    | none => rw [hg] at hf; cases hf
    | some e1 =>
      rw [hg] at hf
      cases hf
      exact ⟨H0, F0, F, env, d, r, hd, fun v H' F' g hv => ⟨H0, F0, F', env, d, e1, r.grow g, hv, hg, fun σ' r' _ => p F' σ' H' r'⟩⟩
/-- x = e, x the i-th slot -/
abbrev putS (i : Nat) (fe : DEnv → Option D) : DEnv → Option Out := asgS fe (setG i)
theorem ds_set {i : Nat} {x : Str} {pos' : Pos} (hN : X.N.Nodup) (hi : X.N[i]? = some x) (hx : Loc X.env.scope x) (he : PE X e (dE X.K fe)) (hs : swapsWith e (some (.Name x pos')) pos.line X.env = pure false := by rfl) (hf : X.fn x = true ∨ X.env.scope.names.lookup x = some .local := by first | exact .inl rfl | exact .inr rfl | assumption) :
    PS X (.Assign [.Name x pos'] e pos) (dS X.K R (putS i fe)) := by
  refine PS.imp (ps_set hN hi hx he hs hf) ?_
  rintro D σ H ⟨H0, F0, F, env, o, r, hf, p⟩
  unfold putS asgS setG at hf
  cases hd : fe env with
  | none => rw [hd] at hf; cases hf
  | some d =>
    rw [hd] at hf
    cases hf
    exact ⟨H0, F0, F, env, d, r, hd, fun v H' F' g hv => p F' _ H' ((r.grow g).setVal hv)⟩
/-- a new object (a list, a dict) of one's own -/
def dN (K : PySem.W.Frag) (f : DEnv → Option OC) : TE := fun σ H Q => ∃ H0 F0 F env c, Rel K H0 F0 F env σ H ∧ f env = some c ∧ ∀ p o H' F', Grow H F H' F' → H p = none → H' p = some o → F' p = none → OcR K F' o c → Q (.ref p) H'
def ownS (i : Nat) (fc : DEnv → Option OC) : DEnv → Option Out := fun env => match fc env with
  | none => none
  | some c => some (.nx (env.set i (.own none c)))
theorem ds_own {fc : DEnv → Option OC} {i : Nat} {x : Str} {pos' : Pos} (hN : X.N.Nodup) (hi : X.N[i]? = some x) (hx : Loc X.env.scope x) (he : PE X e (dN X.K fc)) (hs : swapsWith e (some (.Name x pos')) pos.line X.env = pure false := by rfl) (hf : X.fn x = true ∨ X.env.scope.names.lookup x = some .local := by first | exact .inl rfl | exact .inr rfl | assumption) :
    PS X (.Assign [.Name x pos'] e pos) (dS X.K R (ownS i fc)) := by
  refine PS.imp (ps_set hN hi hx he hs hf) ?_
  rintro D σ H ⟨H0, F0, F, env, o, r, hf, p⟩
  unfold ownS at hf
  cases hd : fc env with
  | none => rw [hd] at hf; cases hf
  | some c =>
    rw [hd] at hf
    cases hf
    exact ⟨H0, F0, F, env, c, r, hd, fun q o H' F' g hp ho hF hv => p F' _ H' (r.setOwn g hp ho hF hv)⟩
def ocE (f : DEnv → Option OC) : DEnv → Option D := fun env => match f env with
  | some c => some (ocD c)
  | none => none
/-- a new object as a datum -/
theorem de_new {fc : DEnv → Option OC} (h : PE X e (dN X.K fc)) : PE X e (dE X.K (ocE fc)) := by
  refine PE.imp h ?_
  rintro σ H Q ⟨H0, F0, F, env, d, r, hf, q⟩
  unfold ocE at hf
  split at hf
  · rename_i c hc
    cases hf
    refine ⟨H0, F0, F, env, c, r, hc, fun p o H' F' g hp ho hF hv => ?_⟩
    have g2 : Grow H F H' (upd F' p o) := by
      refine ⟨g.h, g.f.trans (Ex.new hF), fun a u ha => ?_, fun a ha => ?_⟩
      · by_cases hap : a = p
        · subst hap; rw [upd_same] at ha; cases ha; exact ho
        · rw [upd_ne hap] at ha; exact g.fh a u ha
      · have : a ≠ p := by rintro rfl; exact ha hp
        rw [upd_ne this]; exact g.fr a ha
    exact q _ H' _ g2 ((hv.mono (Ex.new hF)).dt upd_same)
  · cases hf
def ocL (f : DEnv → Option (List D)) : DEnv → Option OC := fun env => match f env with
  | some ds => if ds.length ≤ 100000 then some (.l ds) else none
  | none => none
/-- [a, b] -/
theorem dn_lst {es : List Expr} (h : PA X es (dA X.K fs)) : PE X (.List es pos) (dN X.K (ocL fs)) := by
  refine PE.imp (pe_lst h) ?_
  rintro σ H Q ⟨H0, F0, F, env, d, rl, hf, q⟩
  unfold ocL at hf
  cases hb : fs env with
  | none => rw [hb] at hf; cases hf
  | some ds =>
    rw [hb] at hf
    simp only at hf
    split at hf
    · rename_i hl
      cases hf
      refine ⟨H0, F0, F, env, ds, rl, hb, fun vs H1 F1 g1 hv => ⟨sz_of (by rw [hv.len]; exact hl), fun p hp => ?_⟩⟩
      exact q p _ _ F1 (g1.trans (Grow.newM g1.fh hp)) (none_of_ex g1.h hp) upd_same (none_of_ex g1.fh hp) (.l hv)
    · cases hf
/-- list(xs) -/
def lstG : D → Option OC
  | .lst xs => some (.l xs)
  | .tup xs => some (.l xs)
  | .scr ns => some (.l (ns.map .int))
  | _ => none
def lstN (fa : DEnv → Option D) : DEnv → Option OC := fun env => match fa env with
  | some d => lstG d
  | none => none
theorem dt_ints {K : PySem.W.Frag} {F : Hp} (ns : List Int) : DtA K F (ns.map V.int) (ns.map D.int) := by
  refine ⟨by simp, fun i x d a b => ?_⟩
  rw [List.getElem?_map] at a b
  cases h : ns[i]? with
  | none => rw [h] at a; cases a
  | some n => rw [h] at a b; cases a; cases b; exact .int n
theorem dn_list {p : Pos} (hg : Gl X "list") (hm : X.mg "list" = none) (ha : PE X e (dE X.K fe)) (hs : starEach [e] X.env = (false, eval e X.env) :: starEach [] X.env := by rfl)
    (hpl : (backTo pos (starEach [] X.env)).any (·.1) = false := by rfl) : PE X (.Call (.Name "list" p) [e] [] pos) (dN X.K (lstN fe)) := by
  refine PE.imp (pe_callTy call_list_of hg hm (by decide +kernel) (pa_cons ha pa_nil hs) (by decide) (by decide) hs hpl) ?_
  rintro σ H Q ⟨H0, F0, F, env, c, rl, hf, q⟩
  unfold lstN at hf
  split at hf
  · rename_i d hd
    refine ⟨H0, F0, F, env, d, rl, hd, fun v H1 F1 g1 hv => ?_⟩
    have fin : ∀ (vs : List V) (ds : List D), c = .l ds → DtA X.K F1 vs ds → ∀ l, H1 l = none → Q (.ref l) (upd H1 l (.lst vs)) := fun vs ds hc hr l hl => by
      subst hc
      exact q l _ _ F1 (g1.trans (Grow.newM g1.fh hl)) (none_of_ex g1.h hl) upd_same (none_of_ex g1.fh hl) (.l hr)
    cases d with
    | lst ds =>
      cases hf
      obtain ⟨p, vs, rfl, e, r⟩ := hv.inv_lst
      exact ⟨p, vs, rfl, .inl (.inl (.inl (g1.fh _ _ e))), fin vs ds rfl r⟩
    | tup ds =>
      cases hf
      obtain ⟨p, vs, rfl, e, r⟩ := hv.inv_tup
      exact ⟨p, vs, rfl, .inr (.inl (.inl (g1.fh _ _ e))), fin vs ds rfl r⟩
    | scr ns =>
      cases hf
      cases hv with
      | scr h => exact ⟨_, _, rfl, .inl (ex_l g1.fh h), fin _ _ rfl (dt_ints ns)⟩
    | _ => simp [lstG] at hf
  · cases hf
/-- xs[a:b], new -/
def slN (fa : DEnv → Option D) (oa ob : DEnv → Option (Option Int)) : DEnv → Option OC := fun env => match slF fa oa ob env with
  | some (.lst xs) => some (.l xs)
  | _ => none
variable {oa ob : DEnv → Option (Option Int)} {lo hi : Option Expr} {p2 : Pos} {fa : DEnv → Option D}
theorem dn_slice (he : PE X e (dE X.K fa)) (hl : PO X lo (dO X.K oa)) (hu : PO X hi (dO X.K ob)) : PE X (.Subscript e (.Slice lo hi none p2) pos) (dN X.K (slN fa oa ob)) := by
  refine PE.imp (pe_slice sl_list he hl hu) ?_
  rintro σ H Q ⟨H0, F0, F, env, d, rl, hf, q⟩
  unfold slN slF at hf
  cases ha : fa env with
  | none => rw [ha] at hf; cases hf
  | some da =>
    rw [ha] at hf
    simp only at hf
    cases hb : oa env with
    | none => rw [hb] at hf; cases hf
    | some db =>
      rw [hb] at hf
      simp only at hf
      cases hc : ob env with
      | none => rw [hc] at hf; cases hf
      | some dc =>
        rw [hc] at hf
        simp only at hf
        refine ⟨H0, F0, F, env, da, rl, ha, fun v H1 F1 g1 hv => ⟨H0, F0, F1, env, db, rl.grow g1, hb, fun H2 F2 g2 => ⟨H0, F0, F2, env, dc, (rl.grow g1).grow g2, hc, fun H3 F3 g3 => ?_⟩⟩⟩
        cases da with
        | lst xs =>
          simp only [slG] at hf
          cases hf
          obtain ⟨p, vs, rfl, e, r⟩ := (hv.mono (g2.f.trans g3.f)).inv_lst
          refine ⟨p, vs, rfl, .inl (.inl (g3.fh _ _ e)), fun z hz => ?_⟩
          have gg := ((g1.trans g2).trans g3)
          exact q z _ _ F3 (gg.trans (Grow.newM g3.fh hz)) (none_of_ex gg.h hz) upd_same (none_of_ex g3.fh hz) (.l (r.cut db dc))
        | _ => simp [slG] at hf

/-! ### freezing, forgetting: what may be said between statements -/
def frzS (i : Nat) (f : DEnv → Option Out) : DEnv → Option Out := fun env => match env[i]? with
  | some (.own _ c) => f (env.set i (.val (ocD c)))
  | _ => f env
theorem dS_frz {D : Ends} {σ : L2.St} {H : Hp} {i : Nat} (h : dS X.K R (frzS i f) D σ H) : dS X.K R f D σ H := by
  obtain ⟨H0, F0, F, env, o, r, hf, p⟩ := h
  unfold frzS at hf
  split at hf
  · rename_i a c he
    obtain ⟨l, u, _, _, _, _, _, r'⟩ := r.freeze he
    exact ⟨H0, F0, _, _, o, r', hf, p⟩
  · exact ⟨H0, F0, F, env, o, r, hf, p⟩
theorem ds_frz {sts : List Stmt} (i : Nat) (h : PSs X sts (dS X.K R f)) : PSs X sts (dS X.K R (frzS i f)) := PSs.imp h fun _ _ _ q => dS_frz q
theorem ds_frz1 {st : Stmt} (i : Nat) (h : PS X st (dS X.K R f)) : PS X st (dS X.K R (frzS i f)) := PS.imp h fun _ _ _ q => dS_frz q

/-! ### one's own objects read within an expression whose value is flat -/
def borE (i : Nat) (f : DEnv → Option D) : DEnv → Option D := fun env => match env[i]? with
  | some (.own _ c) => (match f (env.set i (.val (ocD c))) with
    | some d => if flatD d then some d else none
    | none => none)
  | _ => f env
def borT (i : Nat) (f : DEnv → Option Bool) : DEnv → Option Bool := fun env => match env[i]? with
  | some (.own _ c) => f (env.set i (.val (ocD c)))
  | _ => f env
/-- without p -/
def drop (F : Hp) (p : Addr) : Hp := fun a => if a = p then none else F a
theorem bor_grow {H F H' F' : Hp} {p : Addr} {o : HO} (eF : Ex F H) (hF : F p = none) (g : Grow H (upd F p o) H' F') : Grow H F H' (drop F' p) := by
  refine ⟨g.h, fun a u ha => ?_, fun a u ha => ?_, fun a ha => ?_⟩
  · have hp : a ≠ p := ne_of_none ha hF
    unfold drop; rw [if_neg hp]
    exact g.f a u (by rw [upd_ne hp]; exact ha)
  · unfold drop at ha
    split at ha
    · cases ha
    · exact g.fh a u ha
  · unfold drop
    by_cases hp : a = p
    · subst hp; rw [if_pos rfl, hF]
    · rw [if_neg hp, g.fr a ha, upd_ne hp]
theorem de_bor (i : Nat) (h : PE X e (dE X.K fe)) : PE X e (dE X.K (borE i fe)) := by
  refine PE.imp h ?_
  rintro σ H Q ⟨H0, F0, F, env, d, r, hf, q⟩
  unfold borE at hf
  split at hf
  · rename_i a c he
    obtain ⟨l, u, hs, hl, hF, h00, hc, r'⟩ := r.freeze he
    split at hf
    · rename_i d' hd
      split at hf
      · rename_i hfl
        cases hf
        exact ⟨H0, F0, _, _, d, r', hd, fun v H' F' g hv => q v H' _ (bor_grow r.fh hF g) (hv.flat hfl)⟩
      · cases hf
    · cases hf
  · exact ⟨H0, F0, F, env, d, r, hf, q⟩
theorem dt_bor (i : Nat) (h : PT X c (dT X.K ft)) : PT X c (dT X.K (borT i ft)) := by
  refine PT.imp h ?_
  rintro σ H Q ⟨H0, F0, F, env, d, r, hf, q⟩
  unfold borT at hf
  split at hf
  · rename_i a c he
    obtain ⟨l, u, hs, hl, hF, h00, hc, r'⟩ := r.freeze he
    exact ⟨H0, F0, _, _, d, r', hf, fun H' F' g => q H' _ (bor_grow r.fh hF g)⟩
  · exact ⟨H0, F0, F, env, d, r, hf, q⟩
theorem do_bor {o : Option Expr} {fo : DEnv → Option (Option Int)} (i : Nat) (h : PO X o (dO X.K fo)) : PO X o (dO X.K fun env => match env[i]? with
  | some (.own _ c) => fo (env.set i (.val (ocD c)))
  | _ => fo env) := by
  refine ⟨fun pins s σ H Q I q => h.run pins s σ H Q I ?_⟩
  obtain ⟨H0, F0, F, env, d, r, hf, q⟩ := q
  simp only at hf
  split at hf
  · rename_i a c he
    obtain ⟨l, u, hs, hl, hF, h00, hc, r'⟩ := r.freeze he
    exact ⟨H0, F0, _, _, d, r', hf, fun H' F' g => q H' _ (bor_grow r.fh hF g)⟩
  · exact ⟨H0, F0, F, env, d, r, hf, q⟩
end
end DL

namespace DL
open PySem PySem.Spec PyProof.Rows L2 Evl

/-! ### what a loop walks -/
structure ItOk (K : PySem.W.Frag) (J : It) (F : Hp) (ds : List D) : Prop where
  go : ∀ (i : Nat) (F' H : Hp), Ex F F' → Ex F' H → i < ds.length → J.go i H
  yld : ∀ (i : Nat) (d : D) (F' H : Hp) (x : V) (H' : Hp), Ex F F' → Ex F' H → ds[i]? = some d → J.yld i H x H' → ∃ F'', Grow H F' H' F'' ∧ Dt K F'' x d
  stop : ∀ (F' H : Hp), Ex F F' → Ex F' H → J.stop ds.length H
def dI (K : PySem.W.Frag) (fi : DEnv → Option (List D)) : TI := fun σ H R => ∃ H0 F0 F env ds, Rel K H0 F0 F env σ H ∧ fi env = some ds ∧ ∀ J H' F', Grow H F H' F' → ItOk K J F' ds → R J H'
section
variable {X : Cx} {R : RX} {e : Expr} {fe : DEnv → Option D} {fs : DEnv → Option (List D)} {tg : Expr} {p pos : Pos}
theorem PI.imp {wi wi' : TI} (h : PI X tg e wi) (i : ∀ σ H Q, wi' σ H Q → wi σ H Q) : PI X tg e wi' := ⟨fun p s σ H Q I q => h.run p s σ H Q I (i _ _ _ q)⟩
def itemsL : D → Option (List D)
  | .lst xs => some xs
  | .scr ns => some (ns.map .int)
  | _ => none
def itL (fe : DEnv → Option D) : DEnv → Option (List D) := fun env => match fe env with
  | some d => itemsL d
  | none => none
theorem sql_len {K : PySem.W.Frag} {H : Hp} {a : Addr} {vs : List V} (h : SqL K H a vs) : True := trivial
theorem di_list (h : PE X e (dE X.K fe)) : PI X tg e (dI X.K (itL fe)) := by
  refine PI.imp (pi_list h) ?_
  rintro σ H Q ⟨H0, F0, F, env, ds, r, hf, q⟩
  unfold itL at hf
  split at hf
  · rename_i d hd
    refine ⟨H0, F0, F, env, d, r, hd, fun v H1 F1 g1 hv => ?_⟩
    have key : ∀ (a : Addr) (vs : List V), v = .ref a → SqL X.K F1 a vs → DtA X.K F1 vs ds → ∃ a, v = .ref a ∧ (∃ xs, SqL X.K H1 a xs) ∧ Q (Itl X.K a) H1 := fun a vs e hS hr => by
      refine ⟨a, e, ⟨vs, ex_l g1.fh hS⟩, q _ _ _ g1 ⟨fun i F' H e1 e2 hi => ?_, fun i d F' H x H' e1 e2 hd hy => ?_, fun F' H e1 e2 => ?_⟩⟩
      · obtain ⟨x, hx, _⟩ := hr.get (List.getElem?_eq_getElem hi)
        exact ⟨vs, x, ex_l e2 (ex_l e1 hS), hx⟩
      · obtain ⟨rfl, hy⟩ := hy
        exact ⟨F', .refl e2, (hr.at_ i x d (hy vs (ex_l e2 (ex_l e1 hS))) hd).mono e1⟩
      · exact ⟨vs, ex_l e2 (ex_l e1 hS), by rw [hr.len]; exact Nat.le_refl _⟩
    cases d with
    | lst xs =>
      cases hf
      obtain ⟨a, vs, rfl, e, r⟩ := hv.inv_lst
      exact key a vs rfl (.inl (.inl e)) r
    | scr ns =>
      cases hf
      cases hv with
      | scr h => exact key _ _ rfl h (dt_ints ns)
    | _ => simp [itemsL] at hf
  · cases hf
def itemsT : D → Option (List D)
  | .tup xs => some xs
  | _ => none
def itT (fe : DEnv → Option D) : DEnv → Option (List D) := fun env => match fe env with
  | some d => itemsT d
  | none => none
theorem di_tup (h : PE X e (dE X.K fe)) : PI X tg e (dI X.K (itT fe)) := by
  refine PI.imp (pi_tup h) ?_
  rintro σ H Q ⟨H0, F0, F, env, ds, r, hf, q⟩
  unfold itT at hf
  split at hf
  · rename_i d hd
    refine ⟨H0, F0, F, env, d, r, hd, fun v H1 F1 g1 hv => ?_⟩
    cases d with
    | tup xs =>
      cases hf
      obtain ⟨a, vs, rfl, e, hr⟩ := hv.inv_tup
      have hS : SqT X.K F1 a vs := .inl (.inl e)
      refine ⟨a, rfl, ⟨vs, ex_t g1.fh hS⟩, q _ _ _ g1 ⟨fun i F' H e1 e2 hi => ?_, fun i d F' H x H' e1 e2 hd hy => ?_, fun F' H e1 e2 => ?_⟩⟩
      · obtain ⟨x, hx, _⟩ := hr.get (List.getElem?_eq_getElem hi)
        exact ⟨vs, x, ex_t e2 (ex_t e1 hS), hx⟩
      · obtain ⟨rfl, hy⟩ := hy
        exact ⟨F', .refl e2, (hr.at_ i x d (hy vs (ex_t e2 (ex_t e1 hS))) hd).mono e1⟩
      · exact ⟨vs, ex_t e2 (ex_t e1 hS), by rw [hr.len]; exact Nat.le_refl _⟩
    | _ => simp [itemsT] at hf
  · cases hf
/-- lo, lo + 1, .. -/
def rngD (lo : Int) (n : Nat) : List D := (List.range n).map fun (i : Nat) => D.int (lo + (i : Int))
theorem rngD_get {lo : Int} {n i : Nat} {d : D} (h : (rngD lo n)[i]? = some d) : i < n ∧ d = .int (lo + (i : Int)) := by
  unfold rngD at h
  rw [List.getElem?_map] at h
  by_cases hi : i < n
  · rw [List.getElem?_range hi] at h; cases h; exact ⟨hi, rfl⟩
  · rw [List.getElem?_eq_none (by simpa using hi)] at h; cases h
theorem itok_rng {K : PySem.W.Frag} {F : Hp} {lo : Int} {n : Nat} : ItOk K (Itr lo n) F (rngD lo n) := by
  refine ⟨fun i F' H e1 e2 hi => ?_, fun i d F' H x H' e1 e2 hd hy => ?_, fun F' H e1 e2 => ?_⟩
  · show i < n; simpa [rngD] using hi
  · obtain ⟨hi, rfl⟩ := rngD_get hd
    obtain ⟨rfl, rfl⟩ := hy
    exact ⟨F', .refl e2, .int _⟩
  · show n ≤ _; simp [rngD]
def rng1 (fs : DEnv → Option (List D)) : DEnv → Option (List D) := fun env => match fs env with
  | some [.int j] => if j ≤ 100000 ∧ -100000 ≤ j then some (rngD 0 j.toNat) else none
  | _ => none
theorem di_rng1 (hg : Gl X "range") (hm : X.mg "range" = none) (ha : PA X [e] (dA X.K fs)) (hs : starEach [e] X.env = [(false, eval e X.env)] := by rfl) : PI X tg (.Call (.Name "range" p) [e] [] pos) (dI X.K (rng1 fs)) := by
  refine PI.imp (pi_range1 hg hm ha hs) ?_
  rintro σ H Q ⟨H0, F0, F, env, ds, r, hf, q⟩
  unfold rng1 at hf
  split at hf
  · rename_i j hd
    split at hf
    · rename_i hj
      cases hf
      refine ⟨H0, F0, F, env, _, r, hd, fun v H1 F1 g1 hv => ?_⟩
      obtain ⟨x, rfl, hx⟩ := hv.inv_one
      cases hx.inv_int
      exact ⟨j, rfl, by omega, by omega, q _ _ _ g1 itok_rng⟩
    · cases hf
  · cases hf
def rng2 (fs : DEnv → Option (List D)) : DEnv → Option (List D) := fun env => match fs env with
  | some [.int i, .int j] => if (i ≤ 100000 ∧ -100000 ≤ i) ∧ j ≤ 100000 ∧ -100000 ≤ j then some (rngD i (j - i).toNat) else none
  | _ => none
theorem di_rng2 {e2 : Expr} (hg : Gl X "range") (hm : X.mg "range" = none) (ha : PA X [e, e2] (dA X.K fs)) (hs : starEach [e, e2] X.env = [(false, eval e X.env), (false, eval e2 X.env)] := by rfl) (hs2 : starEach [e2] X.env = [(false, eval e2 X.env)] := by rfl) : PI X tg (.Call (.Name "range" p) [e, e2] [] pos) (dI X.K (rng2 fs)) := by
  refine PI.imp (pi_range2 hg hm ha hs hs2) ?_
  rintro σ H Q ⟨H0, F0, F, env, ds, r, hf, q⟩
  unfold rng2 at hf
  split at hf
  · rename_i i j hd
    split at hf
    · rename_i hj
      cases hf
      refine ⟨H0, F0, F, env, _, r, hd, fun v H1 F1 g1 hv => ?_⟩
      obtain ⟨x, y, rfl, hx, hy⟩ := hv.inv_two
      cases hx.inv_int
      cases hy.inv_int
      exact ⟨i, j, rfl, by omega, q _ _ _ g1 itok_rng⟩
    · cases hf
  · cases hf
def enumD : Nat → List D → List D
  | _, [] => []
  | i, d :: ds => .tup [.int (i : Int), d] :: enumD (i + 1) ds
theorem enumD_len : ∀ (ds : List D) (k : Nat), (enumD k ds).length = ds.length
  | [], _ => rfl
  | _ :: ds, k => by simp [enumD, enumD_len ds]
theorem enumD_get : ∀ (ds : List D) (k i : Nat) (d : D), (enumD k ds)[i]? = some d → ∃ x, ds[i]? = some x ∧ d = .tup [.int ((k + i : Nat) : Int), x]
  | [], _, _, _, h => by simp [enumD] at h
  | x :: ds, k, 0, d, h => by simp [enumD] at h; exact ⟨x, rfl, by rw [← h] <;> simp⟩
  | x :: ds, k, i + 1, d, h => by
    obtain ⟨y, h1, h2⟩ := enumD_get ds (k + 1) i d (by simpa [enumD] using h)
    exact ⟨y, by simpa using h1, by rw [h2]; congr 3; omega⟩

theorem Rel.rebase {K : PySem.W.Frag} {H0 F0 F H : Hp} {env : DEnv} {σ : L2.St} (r : Rel K H0 F0 F env σ H) : Rel K H0 F F env σ H := ⟨⟨r.g.h, Ex.refl _, r.g.fh, fun _ _ => rfl⟩, r.vals, r.owns, r.len, r.excs, r.trs⟩
theorem Grow.back {H0 F0 F1 H F H1 : Hp} (g : Grow H0 F0 H1 F1) (g' : Grow H0 F1 H F) : Grow H0 F0 H F := ⟨g'.h, g.f.trans g'.f, g'.fh, fun a ha => (g'.fr a ha).trans (g.fr a ha)⟩
theorem Rel.unbase {K : PySem.W.Frag} {H0 F0 F1 F H H1 : Hp} {env : DEnv} {σ : L2.St} (g : Grow H0 F0 H1 F1) (r : Rel K H0 F1 F env σ H) : Rel K H0 F0 F env σ H := ⟨g.back r.g, r.vals, r.owns, r.len, r.excs, r.trs⟩
theorem Post.base {K : PySem.W.Frag} {R : RX} {H0 F0 F1 H1 : Hp} {o : Out} {D : Ends} (g : Grow H0 F0 H1 F1) (p : Post K R H0 F0 o D) : Post K R H0 F1 o D := by
  cases o with
  | nx e => exact fun F σ H r => p F σ H (r.unbase g)
  | bk e => exact fun F σ H r => p F σ H (r.unbase g)
  | ct e => exact fun F σ H r => p F σ H (r.unbase g)
  | rt d e => exact fun v F σ H r => p v F σ H (r.unbase g)
  | ex c e => exact fun F σ H r => p F σ H (r.unbase g)
/-! ### for -/
def forL (gf : D → DEnv → Option DEnv) (B : DEnv → Option Out) : List D → DEnv → Option Out
  | [], env => some (.nx env)
  | d :: ds, env => match gf d env with
    | none => none
    | some e1 => match B e1 with
      | some (.nx e) => forL gf B ds e
      | some (.ct e) => forL gf B ds e
      | some (.bk e) => some (.nx e)
      | some (.rt d e) => some (.rt d e)
      | some (.ex c e) => some (.ex c e)
      | none => none
def forS (fi : DEnv → Option (List D)) (gf : D → DEnv → Option DEnv) (B : DEnv → Option Out) : DEnv → Option Out := fun env => match fi env with
  | some ds => forL gf B ds env
  | none => none
theorem ds_for {ws : List Nat} {iter : Expr} {body : List Stmt} {fi : DEnv → Option (List D)} {gf : D → DEnv → Option DEnv} {B : DEnv → Option Out} (hp : PassesOwn (model X.prog X.w) X.A X.env X.xe) (hc : X.calm = true) (hi : PI X tg iter (dI X.K fi)) (hg : PG X tg (dG X.K ws gf)) (hb : PSs X body (dS X.K R B))
    (hs : ∀ x, foldedSetIterable iter X.env x = pure x := by intro _; rfl) : PS X (.For tg iter body [] pos) (dS X.K R (forS fi gf B)) := by
  refine PS.imp (ps_for hp hc hi hg hb hs) ?_
  rintro D σ H ⟨H0, F0, F, env, o, r, hf, po⟩
  unfold forS at hf
  split at hf
  · rename_i ds hd
    refine ⟨H0, F0, F, env, ds, r, hd, fun J H1 F1 g1 it => ?_⟩
    have gg := r.g.trans g1
    have po1 := Post.base gg po
    refine ⟨fun i m σ H => m = ds.length - i ∧ i ≤ ds.length ∧ ∃ F2 env2, Rel X.K H0 F1 F2 env2 σ H ∧ forL gf B (ds.drop i) env2 = some o, ⟨ds.length, by simp, Nat.zero_le _, F1, env, (r.grow g1).rebase, by simpa using hf⟩, ?_⟩
    rintro i m σ2 H2 ⟨rfl, hi, F2, env2, r2, hl⟩
    have ex := r2.g.f
    by_cases hlt : i < ds.length
    · refine .inr ⟨it.go i F2 H2 ex r2.fh hlt, fun σ' H' => ∃ F3 env3, Rel X.K H0 F1 F3 env3 σ' H' ∧ forL gf B (ds.drop (i + 1)) env3 = some o, fun σ' H' ⟨F3, env3, b, c⟩ => ⟨ds.length - (i + 1), by omega, rfl, hlt, F3, env3, b, c⟩, fun x H3 hy => ?_⟩
      rw [List.drop_eq_getElem_cons hlt] at hl
      obtain ⟨F3, g3, hx⟩ := it.yld i _ F2 H2 x H3 ex r2.fh (List.getElem?_eq_getElem hlt) hy
      simp only [forL] at hl
      cases hgf : gf ds[i] env2 with
      | none => rw [hgf] at hl; cases hl
      | some e1 =>
        rw [hgf] at hl
        simp only at hl
        refine ⟨H0, F1, F3, env2, _, e1, r2.grow g3, hx, hgf, fun σ4 r4 _ => ?_⟩
        cases hB : B e1 with
        | none => rw [hB] at hl; cases hl
        | some ob =>
          rw [hB] at hl
          refine ⟨H0, F1, F3, e1, ob, r4, hB, ?_⟩
          cases ob with
          | nx e => exact fun F5 σ5 H5 r5 => ⟨F5, e, r5, hl⟩
          | ct e => exact fun F5 σ5 H5 r5 => ⟨F5, e, r5, hl⟩
          | bk e => cases hl; exact fun F5 σ5 H5 r5 => po1 F5 σ5 H5 r5
          | rt d e => cases hl; exact po1
          | ex c e => cases hl; exact po1
    · have : i = ds.length := by omega
      subst this
      rw [List.drop_length] at hl
      cases hl
      exact .inl ⟨it.stop F2 H2 ex r2.fh, po1 F2 σ2 H2 r2⟩
  · cases hf
end
end DL

namespace DL
open PySem PySem.Spec PyProof.Rows L2 Evl
section
variable {X : Cx} {R : RX} {e c : Expr} {fe fa : DEnv → Option D} {fs : DEnv → Option (List D)} {ft : DEnv → Option Bool} {tg : Expr} {p pos : Pos}

/-! ### while -/
def whL (T : DEnv → Option Bool) (B : DEnv → Option Out) : Nat → DEnv → Option Out
  | 0, _ => none
  | n + 1, env => match T env with
    | some false => some (.nx env)
    | some true => (match B env with
      | some (.nx e) => whL T B n e
      | some (.ct e) => whL T B n e
      | some (.bk e) => some (.nx e)
      | some (.rt d e) => some (.rt d e)
      | some (.ex c e) => some (.ex c e)
      | none => none)
    | none => none
/-- the turns that are looked at -/
def whS (n : Nat) (T : DEnv → Option Bool) (B : DEnv → Option Out) : DEnv → Option Out := fun env => whL T B n env
theorem ds_while {body : List Stmt} {B : DEnv → Option Out} (n : Nat) (hp : PassesOwn (model X.prog X.w) X.A X.env X.xe) (hc : PT X c (dT X.K ft)) (hb : PSs X body (dS X.K R B)) : PS X (.While c body [] pos) (dS X.K R (whS n ft B)) := by
  refine PS.imp (ps_while hp hc hb) ?_
  rintro D σ H ⟨H0, F0, F, env, o, r, hf, po⟩
  unfold whS at hf
  refine ⟨fun m σ H => ∃ F2 env2, Rel X.K H0 F0 F2 env2 σ H ∧ whL ft B m env2 = some o, ⟨n, F, env, r, hf⟩, ?_⟩
  rintro m σ2 H2 ⟨F2, env2, r2, hl⟩
  cases m with
  | zero => cases hl
  | succ m =>
    simp only [whL] at hl
    split at hl
    · rename_i ht
      cases hl
      exact ⟨H0, F0, F2, env2, false, r2, ht, fun H' F' g => iteF (po F' σ2 H' (r2.grow g))⟩
    · rename_i ht
      refine ⟨H0, F0, F2, env2, true, r2, ht, fun H' F' g => iteT ⟨fun σ' H' => ∃ F3 env3, Rel X.K H0 F0 F3 env3 σ' H' ∧ whL ft B m env3 = some o, fun σ' H' h => ⟨m, Nat.lt_succ_self _, h⟩, ?_⟩⟩
      cases hB : B env2 with
      | none => rw [hB] at hl; cases hl
      | some ob =>
        rw [hB] at hl
        refine ⟨H0, F0, F', env2, ob, r2.grow g, hB, ?_⟩
        cases ob with
        | nx e => exact fun F5 σ5 H5 r5 => ⟨F5, e, r5, hl⟩
        | ct e => exact fun F5 σ5 H5 r5 => ⟨F5, e, r5, hl⟩
        | bk e => cases hl; exact fun F5 σ5 H5 r5 => po F5 σ5 H5 r5
        | rt d e => cases hl; exact po
        | ex c e => cases hl; exact po
    · cases hl

/-! ### comprehensions -/
def wipeE (env : DEnv) : List Nat → DEnv
  | [] => env
  | v :: vs => (wipeE env vs).set v .no
theorem wipeE_length (env : DEnv) : ∀ vs : List Nat, (wipeE env vs).length = env.length
  | [] => rfl
  | v :: vs => by unfold wipeE; rw [List.length_set, wipeE_length env vs]
theorem wipeE_get {env : DEnv} {j : Nat} {s : Sl} : ∀ {vs : List Nat}, (wipeE env vs)[j]? = some s → s ≠ .no → env[j]? = some s ∧ j ∉ vs
  | [], h, _ => ⟨h, by simp⟩
  | v :: vs, h, hs => by
    unfold wipeE at h
    by_cases hj : j = v
    · subst hj
      exact absurd (set_eq h).2 hs
    · obtain ⟨a, b⟩ := wipeE_get ((set_ne hj).mp h) hs
      exact ⟨a, fun z => (List.mem_cons.mp z).elim hj b⟩
theorem rel_wipe {K : PySem.W.Frag} {H0 F0 F H : Hp} {env : DEnv} {σ : L2.St} (r : Rel K H0 F0 F env σ H) (vs : List Nat) : Rel K H0 F0 F (wipeE env vs) (wipe σ vs) H :=
  r.weak (fun j s h hs => by
    obtain ⟨a, b⟩ := wipeE_get h hs
    exact ⟨a, wipe_out b⟩) (by rw [wipeE_length, wipe_length]; exact r.len)
def lcL (gf : D → DEnv → Option DEnv) (T : DEnv → Option Bool) (E : DEnv → Option D) (w : DEnv) : List D → Option (List D)
  | [] => some []
  | d :: ds => match gf d w with
    | none => none
    | some e1 => match T e1 with
      | none => none
      | some false => lcL gf T E w ds
      | some true => match E e1 with
        | none => none
        | some y => match lcL gf T E w ds with
          | none => none
          | some ys => some (y :: ys)
def lcF (fi : DEnv → Option (List D)) (gf : D → DEnv → Option DEnv) (T : DEnv → Option Bool) (E : DEnv → Option D) (ws : List Nat) : DEnv → Option OC := fun env => match fi env with
  | none => none
  | some ds => if ds.length ≤ 90000 then (match lcL gf T E (wipeE env ws) ds with
    | none => none
    | some ys => some (.l ys)) else none
def dTs (X : Cx) (ifs : List Expr) (T : DEnv → Option Bool) : Prop := PTs X ifs (dT X.K T)
theorem dts_nil : PTs X [] (dT X.K fun _ => some true) := ⟨fun pins s σ H Q I h => (pts_nil (X := X)).run pins s σ H Q I (by
  obtain ⟨H0, F0, F, env, b, r, hf, q⟩ := h
  cases hf
  exact q H F (.refl r.fh))⟩
theorem dts_one (h : PT X c (dT X.K ft)) : PTs X [c] (dT X.K ft) := pts_one h
theorem wipe_idem' (σ : L2.St) (ws : List Nat) : ∀ l : List Nat, (∀ v ∈ l, v ∈ ws) → wipe (wipe σ l) ws = wipe σ ws
  | [], _ => rfl
  | v :: l, h => by
    show wipe ((wipe σ l).set v none) ws = wipe σ ws
    rw [wipe_set _ ws v none (h v (by simp))]
    exact wipe_idem' σ ws l fun u hu => h u (by simp [hu])
theorem wipe_idem (σ : L2.St) (ws : List Nat) : wipe (wipe σ ws) ws = wipe σ ws := wipe_idem' σ ws ws fun _ h => h
/-- the reading of a comprehension, by data -/
theorem run_lc {fi : DEnv → Option (List D)} {gf : D → DEnv → Option DEnv} {T : DEnv → Option Bool} {E : DEnv → Option D} {ws : List Nat} {K : PySem.W.Frag}
    {σ : L2.St} {H : Hp} {Q : VK} (h : dN K (lcF fi gf T E ws) σ H Q) : tLc (dI K fi) (dG K ws gf) (dT K T) (dE K E) ws σ H Q := by
  obtain ⟨H0, F0, F, env, c, r, hf, q⟩ := h
  unfold lcF at hf
  split at hf
  · cases hf
  · rename_i ds hd
    split at hf
    · rename_i hz
      split at hf
      · cases hf
      · rename_i ys hl0
        cases hf
        refine ⟨H0, F0, F, env, ds, r, hd, fun J H1 F1 g1 it Dl hD => ?_⟩
        have r1 := (r.grow g1).rebase
        have hDF : F1 Dl = none := none_of_ex g1.fh hD
        -- at turn i: acc the items so far
        let Pv : Nat → Hp → Prop := fun i H' => ∃ F2 acc accd, Grow H1 F1 H' F2 ∧ F2 Dl = none ∧ H' Dl = some (.lst acc) ∧ DtA K F2 acc accd ∧ accd.length ≤ i ∧ ∃ rest, lcL gf T E (wipeE env ws) (ds.drop i) = some rest ∧ ys = accd ++ rest
        refine ⟨fun i m H' => m = ds.length - i ∧ i ≤ ds.length ∧ Pv i H', ⟨ds.length, by simp, Nat.zero_le _, F1, [], [], Grow.newM g1.fh hD, hDF, upd_same, .nil, Nat.zero_le _, ys, by simpa using hl0, rfl⟩, ?_⟩
        rintro i m H2 ⟨rfl, hi, F2, acc, accd, g2, hF2, hH2, ha, hal, rest, hl, hys⟩
        by_cases hlt : i < ds.length
        · refine .inr ⟨it.go i F2 H2 g2.f g2.fh hlt, Pv (i + 1), fun H' h' => ⟨ds.length - (i + 1), by omega, rfl, hlt, h'⟩, fun x H3 hy => ?_⟩
          rw [List.drop_eq_getElem_cons hlt] at hl
          obtain ⟨F3, g3, hx⟩ := it.yld i _ F2 H2 x H3 g2.f g2.fh (List.getElem?_eq_getElem hlt) hy
          have r3 : Rel K H0 F1 F3 (wipeE env ws) (wipe σ ws) H3 := rel_wipe ((r1.grow g2).grow g3) ws
          have hF3 : F3 Dl = none := (g3.fr Dl (by rw [hH2]; simp)).trans hF2
          simp only [lcL] at hl
          cases hgf : gf ds[i] (wipeE env ws) with
          | none => rw [hgf] at hl; cases hl
          | some e1 =>
            rw [hgf] at hl
            simp only at hl
            refine ⟨H0, F1, F3, wipeE env ws, _, e1, r3, hx, hgf, fun σ4 r4 hw => ⟨?_, ?_⟩⟩
            · rw [hw]
              exact wipe_idem σ ws
            · cases hT : T e1 with
              | none => rw [hT] at hl; cases hl
              | some b =>
                rw [hT] at hl
                refine ⟨H0, F1, F3, e1, b, r4, hT, fun H4 F4 g4 => ?_⟩
                have hF4 : F4 Dl = none := (g4.fr Dl (by rw [g3.h _ _ hH2]; simp)).trans hF3
                cases b with
                | false =>
                  refine iteF ⟨F4, acc, accd, (g2.trans g3).trans g4, hF4, g4.h _ _ (g3.h _ _ hH2), (ha.mono g3.f).mono g4.f, by omega, rest, hl, hys⟩
                | true =>
                  simp only at hl
                  cases hE : E e1 with
                  | none => rw [hE] at hl; cases hl
                  | some y =>
                    rw [hE] at hl
                    simp only at hl
                    cases hR : lcL gf T E (wipeE env ws) (List.drop (i + 1) ds) with
                    | none => rw [hR] at hl; cases hl
                    | some zs =>
                      rw [hR] at hl
                      cases hl
                      refine iteT ⟨H0, F1, F4, e1, y, r4.grow g4, hE, fun v H5 F5 g5 hv => ?_⟩
                      have hH5 := g5.h _ _ (g4.h _ _ (g3.h _ _ hH2))
                      have hF5 : F5 Dl = none := (g5.fr Dl (by rw [g4.h _ _ (g3.h _ _ hH2)]; simp)).trans hF4
                      have gg := ((g2.trans g3).trans g4).trans g5
                      refine ⟨acc, hH5, sz_lt (by rw [ha.len]; omega), F5, acc ++ [v], accd ++ [y], ⟨?_, gg.f, Ex.mut gg.fh hF5, gg.fr⟩, hF5, upd_same, (((ha.mono g3.f).mono g4.f).mono g5.f).append (.one hv), by simp; omega, zs, hR, by rw [hys]; simp⟩
                      exact Ex.mut gg.h hD
        · have : i = ds.length := by omega
          subst this
          rw [List.drop_length] at hl
          cases hl
          rw [List.append_nil] at hys
          subst hys
          refine .inl ⟨it.stop F2 H2 g2.f g2.fh, ?_⟩
          exact q Dl (.lst acc) H2 F2 (g1.trans g2) (none_of_ex g1.h hD) hH2 hF2 (.l ha)
    · cases hf

variable {elt iter : Expr} {ifs : List Expr} {scope : Scope} {own : List (Str × Nat)} {fi : DEnv → Option (List D)} {gf : D → DEnv → Option DEnv} {T : DEnv → Option Bool} {E : DEnv → Option D} {ws : List Nat}
theorem dn_lc (hc : X.calm = true) (hN : X.N.Nodup) (hi : PI X tg iter (dI X.K fi)) (ok : BlkOk X.N X.env.scope scope own) (hws : own.map (·.2) = ws)
    (hg : ∀ (s : Shared) (H : Hp) (C : Addr) (cl : List (Str × Addr)) (fp : List Addr), PG (X.blk s H scope (compEnvC scope cl C X.env) fp) tg (dG X.K ws gf)) (ht : ∀ (s : Shared) (H : Hp) (C : Addr) (cl : List (Str × Addr)) (fp : List Addr), PTs (X.blk s H scope (compEnvC scope cl C X.env) fp) ifs (dT X.K T))
    (he : ∀ (s : Shared) (H : Hp) (C : Addr) (cl : List (Str × Addr)) (fp : List Addr), PE (X.blk s H scope (compEnvC scope cl C X.env) fp) elt (dE X.K E)) (hs : ∀ x, foldedSetIterable iter X.env x = pure x := by intro _; rfl) :
    PE X (.ListComp elt [⟨tg, iter, ifs, 0⟩] scope pos) (dN X.K (lcF fi gf T E ws)) := by
  subst hws
  exact PE.imp (pe_lc hc hN hi ok hg ht he hs) fun _ _ _ h => run_lc h
/-- y = [..]: a new list of one's own (put i: as a datum) -/
theorem ds_lc {i : Nat} {y : Str} {py spos : Pos} (hc : X.calm = true) (hN : X.N.Nodup) (hy : X.N[i]? = some y) (hyl : X.env.scope.names.lookup y = some .local)
    (hsw : swapsWith (.ListComp elt [⟨tg, iter, ifs, 0⟩] scope pos) (some (.Name y py)) spos.line X.env = pure true) (hi : PI X tg iter (dI X.K fi)) (ok : BlkOk X.N X.env.scope scope own) (hws : own.map (·.2) = ws)
    (hg : ∀ (s : Shared) (H : Hp) (C : Addr) (cl : List (Str × Addr)) (fp : List Addr), PG (X.blk s H scope (compEnvC scope cl C X.env) fp) tg (dG X.K ws gf)) (ht : ∀ (s : Shared) (H : Hp) (C : Addr) (cl : List (Str × Addr)) (fp : List Addr), PTs (X.blk s H scope (compEnvC scope cl C X.env) fp) ifs (dT X.K T))
    (he : ∀ (s : Shared) (H : Hp) (C : Addr) (cl : List (Str × Addr)) (fp : List Addr), PE (X.blk s H scope (compEnvC scope cl C X.env) fp) elt (dE X.K E)) (hs : ∀ x, foldedSetIterable iter X.env x = pure x := by intro _; rfl) :
    PS X (.Assign [.Name y py] (.ListComp elt [⟨tg, iter, ifs, 0⟩] scope pos) spos) (dS X.K R (ownS i (lcF fi gf T E ws))) := by
  subst hws
  refine PS.imp (ps_setLc hc hN hy hyl hsw hi ok hg ht he hs) ?_
  rintro D σ H ⟨H0, F0, F, env, o, r, hf, po⟩
  unfold ownS at hf
  cases hd : lcF fi gf T E (own.map (·.2)) env with
  | none => rw [hd] at hf; cases hf
  | some c =>
    rw [hd] at hf
    cases hf
    refine run_lc (Q := fun x H1 => gName i x σ H1 D.nx) ⟨H0, F0, F, env, c, r, hd, fun q o H' F' g hp ho hF hv => ?_⟩
    exact po F' _ H' (r.setOwn g hp ho hF hv)

/-! ### one's own list changed -/
def getO (i : Nat) (env : DEnv) : Option (Option Addr × OC) := match env[i]? with
  | some (.own a c) => some (a, c)
  | _ => none
/-- an expression that changes own slots -/
def dM (K : PySem.W.Frag) (f : DEnv → Option (D × DEnv)) : TE := fun σ H Q => ∃ H0 F0 F env d env', Rel K H0 F0 F env σ H ∧ f env = some (d, env') ∧ ∀ v H' F', Rel K H0 F0 F' env' σ H' → Ex F F' → Dt K F' v d → Q v H'
def mE (f : DEnv → Option D) : DEnv → Option (D × DEnv) := fun env => match f env with
  | some d => some (d, env)
  | none => none
theorem dm_e (h : PE X e (dE X.K fe)) : PE X e (dM X.K (mE fe)) := PE.imp h (by
  rintro σ H Q ⟨H0, F0, F, env, d, env', r, hf, q⟩
  unfold mE at hf
  split at hf
  · rename_i d' hd
    cases hf
    exact ⟨H0, F0, F, env, d, r, hd, fun v H' F' g hv => q v H' F' (r.grow g) g.f hv⟩
  · cases hf)
variable {fm : DEnv → Option (D × DEnv)} {x : Str} {px apos : Pos}
/-- x.pop(k), x the i-th slot -/
def popM (i : Nat) (fk : DEnv → Option D) : DEnv → Option (D × DEnv) := fun env => match env[i]? with
  | some (.own a (.l ds)) => (match fk env with
    | some (.int k) => if -1000000 ≤ k ∧ k ≤ 1000000 then (match seqIndex? k ds.length with
      | some j => (match ds[j]? with
        | some d => some (d, env.set i (.own a (.l (ds.eraseIdx j))))
        | none => none)
      | none => none) else none
    | _ => none)
  | _ => none
theorem dm_pop {i : Nat} (hx : PE X (.Name x px) (tVar i)) (hk : PE X e (dE X.K fe)) (hbase : attributeBase (.Name x px) "pop" X.env (eval (.Name x px) X.env) = eval (.Name x px) X.env := by rfl)
    (hfew : ((backTo pos (starEach (e :: []) X.env)).all (fun x => !x.1) && (backToKw pos (keywordEach [] X.env)).all (fun x => x.1.isSome)
      && decide ((e :: []).length + ([] : List Keyword).length + (if ([] : List Keyword).isEmpty then 0 else 1) < 30)) = true := by rfl)
    (hline : (apos.endLine == pos.line) = true := by rfl) (hs : starEach (e :: []) X.env = (false, eval e X.env) :: starEach [] X.env := by rfl) (hplain : (backTo pos (starEach [] X.env)).any (·.1) = false := by rfl) :
    PE X (.Call (.Attribute (.Name x px) "pop" apos) [e] [] pos) (dM X.K (popM i fe)) := by
  refine PE.imp (pe_bm PySem.F.plainAttrs_list PySem.F.slot_list_pop PySem.F.type_list_pop mt_popAt hx (pa_cons hk pa_nil hs) hbase hfew hline hs hplain) ?_
  rintro σ H Q ⟨H0, F0, F, env, d, env', r, hf, q⟩
  unfold popM at hf
  split at hf
  · rename_i a ds he
    obtain ⟨l, o, h1, h2, h3, h4, h5, h6⟩ := r.own he
    cases h3 with
    | @l vs _ h3 =>
    split at hf
    · rename_i k hkk
      split at hf
      · rename_i hb
        split at hf
        · rename_i j hj
          split at hf
          · rename_i d' hd
            cases hf
            refine ⟨_, h1, .inl ⟨rfl, vs, .inl (.inl h2)⟩, H0, F0, F, env, _, r, hkk, fun v H' F' g hv => ?_⟩
            cases hv.inv_int
            obtain ⟨y, hy, hyd⟩ := h3.get hd
            refine ⟨l, vs, k, j, y, rfl, rfl, g.h _ _ h2, by omega, by omega, by rw [h3.len]; exact hj, hy, ?_⟩
            exact q y _ F' ((r.grow g).mut he h1 (.l ((h3.mono g.f).eraseIdx j))) g.f (hyd.mono g.f)
          · cases hf
        · cases hf
      · cases hf
    · cases hf
  · cases hf
/-- (e, f) with f a change -/
def tup2M (fa : DEnv → Option D) (fm : DEnv → Option (D × DEnv)) : DEnv → Option (D × DEnv) := fun env => match fa env with
  | none => none
  | some a => match fm env with
    | none => none
    | some (b, env') => some (.tup [a, b], env')
theorem dm_tup2 {e2 : Expr} {x1} (ha : PE X e (dE X.K fa)) (hb : PE X e2 (dM X.K fm)) (hs : starEach (e :: [e2]) X.env = (false, eval e X.env) :: starEach [e2] X.env := by rfl) (hs2 : starEach (e2 :: []) X.env = (false, eval e2 X.env) :: starEach [] X.env := by rfl) :
    PE X (.Tuple [e, e2] x1 pos) (dM X.K (tup2M fa fm)) := by
  refine PE.imp (pe_tup (pa_cons ha (pa_cons hb pa_nil hs2) hs)) ?_
  rintro σ H Q ⟨H0, F0, F, env, d, env', r, hf, q⟩
  unfold tup2M at hf
  cases h1 : fa env with
  | none => rw [h1] at hf; cases hf
  | some a =>
    rw [h1] at hf
    simp only at hf
    cases h2 : fm env with
    | none => rw [h2] at hf; cases hf
    | some b =>
      obtain ⟨b, e1⟩ := b
      rw [h2] at hf
      cases hf
      refine ⟨H0, F0, F, env, a, r, h1, fun v H1 F1 g1 hv => ⟨H0, F0, F1, env, b, _, r.grow g1, h2, fun u H2 F2 r2 e2 hu => ⟨sz_of (by simp), fun p hp => ?_⟩⟩⟩
      have g3 := Grow.new (o := .tup [v, u]) r2.fh hp
      exact q _ _ _ (r2.grow g3) ((g1.f.trans e2).trans g3.f) (.tup' upd_same (.two ((hv.mono e2).mono g3.f) (hu.mono g3.f)))
/-- x.append(e), x the i-th slot; e may change others -/
def appS (i : Nat) (fm : DEnv → Option (D × DEnv)) : DEnv → Option Out := fun env => match env[i]? with
  | some (.own _ (.l _)) => (match fm env with
    | none => none
    | some (d, env') => match env'[i]? with
      | some (.own a (.l ds)) => if ds.length ≤ 90000 then some (.nx (env'.set i (.own a (.l (ds ++ [d]))))) else none
      | _ => none)
  | _ => none
theorem ds_append {i : Nat} {pos2 : Pos} (hx : PE X (.Name x px) (tVar i)) (hk : PE X e (dM X.K fm)) (hsw : swapsWith (.Call (.Attribute (.Name x px) "append" apos) [e] [] pos) none pos2.line X.env = pure false := by rfl) (hbase : attributeBase (.Name x px) "append" X.env (eval (.Name x px) X.env) = eval (.Name x px) X.env := by rfl)
    (hfew : ((backTo pos (starEach (e :: []) X.env)).all (fun x => !x.1) && (backToKw pos (keywordEach [] X.env)).all (fun x => x.1.isSome)
      && decide ((e :: []).length + ([] : List Keyword).length + (if ([] : List Keyword).isEmpty then 0 else 1) < 30)) = true := by rfl)
    (hline : (apos.endLine == pos.line) = true := by rfl) (hs : starEach (e :: []) X.env = (false, eval e X.env) :: starEach [] X.env := by rfl) (hplain : (backTo pos (starEach [] X.env)).any (·.1) = false := by rfl) :
    PS X (.Expr (.Call (.Attribute (.Name x px) "append" apos) [e] [] pos) pos2) (dS X.K R (appS i fm)) := by
  refine PS.imp (ps_expr (pe_bm PySem.F.plainAttrs_list PySem.F.slot_list_append PySem.F.type_list_append mt_append hx (pa_cons hk pa_nil hs) hbase hfew hline hs hplain) hsw) ?_
  rintro D σ H ⟨H0, F0, F, env, o, r, hf, po⟩
  unfold appS at hf
  split at hf
  · rename_i a0 ds0 he0
    obtain ⟨l0, o0, k1, k2, k3, k4, k5, k6⟩ := r.own he0
    cases k3 with
    | @l vs0 _ k3 =>
    cases h1 : fm env with
    | none => rw [h1] at hf; cases hf
    | some b =>
      obtain ⟨d, env'⟩ := b
      rw [h1] at hf
      simp only at hf
      split at hf
      · rename_i a ds he
        split at hf
        · rename_i hz
          cases hf
          refine ⟨_, k1, .inl ⟨rfl, vs0, .inl (.inl k2)⟩, H0, F0, F, env, d, env', r, h1, fun v H' F' r' e' hv => ?_⟩
          obtain ⟨l, o, h1, h2, h3, h4, h5, h6⟩ := r'.own he
          rw [k1] at h1
          cases h1
          cases h3 with
          | @l vs _ h3 =>
          exact ⟨l0, vs, v, rfl, rfl, h2, sz_lt (by rw [h3.len]; omega), po F' σ _ (r'.mut he k1 (.l (h3.append (.one hv))))⟩
        · cases hf
      · cases hf
  · cases hf
/-- x.remove(e): ints -/
def intsOf : List D → Option (List Int)
  | [] => some []
  | .int i :: r => (match intsOf r with
    | some l => some (i :: l)
    | none => none)
  | _ :: _ => none
theorem intsOf_map : ∀ {ds : List D} {ns : List Int}, intsOf ds = some ns → ds = ns.map D.int
  | [], _, h => by cases h; rfl
  | .int i :: r, ns, h => by
    simp only [intsOf] at h
    split at h
    · rename_i l hl
      cases h
      rw [intsOf_map hl]; rfl
    · cases h
  | .non :: r, _, h => by simp [intsOf] at h
  | .bl _ :: r, _, h => by simp [intsOf] at h
  | .str _ :: r, _, h => by simp [intsOf] at h
  | .lst _ :: r, _, h => by simp [intsOf] at h
  | .tup _ :: r, _, h => by simp [intsOf] at h
  | .scr _ :: r, _, h => by simp [intsOf] at h
  | .dct _ :: r, _, h => by simp [intsOf] at h
  | .dcl _ :: r, _, h => by simp [intsOf] at h
  | .err _ :: r, _, h => by simp [intsOf] at h
theorem dt_ints_inv {K : PySem.W.Frag} {F : Hp} : ∀ {ns : List Int} {vs : List V}, DtA K F vs (ns.map D.int) → vs = ns.map V.int
  | [], vs, h => h.inv_nil
  | n :: ns, vs, h => by
    obtain ⟨x, r, rfl, hx, hr⟩ := h.inv_cons
    cases hx.inv_int
    rw [dt_ints_inv hr]; rfl
end
end DL

namespace DL
open PySem PySem.Spec PyProof.Rows L2 Evl

/-! ### the operators, by data -/
section
variable {K : PySem.W.Frag} {r r' : R2} {g g' : D → D → Option D}
theorem R2Ok.inl (h : R2Ok K r g) : R2Ok K (fun x y H Q => r x y H Q ∨ r' x y H Q) g := fun F H x y a b d Q e hx hy hg q => .inl (h F H x y a b d Q e hx hy hg q)
/-- x op y, ints -/
def iiG (f : Int → Int → Option D) : D → D → Option D
  | .int i, .int j => f i j
  | _, _ => none
theorem r2_ii {C : Int → Int → Prop} [∀ i j, Decidable (C i j)] {f : Int → Int → V} {fd : Int → Int → D} (h : ∀ i j, ∀ F, Dt K F (f i j) (fd i j)) : R2Ok K (rI C f) (iiG fun i j => if C i j then some (fd i j) else none) := by
  intro F H x y a b d Q e hx hy hg q
  cases a with
  | int i =>
    cases b with
    | int j =>
      simp only [iiG] at hg
      split at hg
      · rename_i hc
        cases hg
        exact ⟨i, j, hx.inv_int, hy.inv_int, hc, q _ H F (.refl e) (h i j F)⟩
      · cases hg
    | _ => simp [iiG] at hg
  | _ => simp [iiG] at hg
theorem r2_ii0 {f : Int → Int → V} {fd : Int → Int → D} (h : ∀ i j, ∀ F, Dt K F (f i j) (fd i j)) : R2Ok K (rI0 f) (iiG fun i j => some (fd i j)) := by
  intro F H x y a b d Q e hx hy hg q
  cases a with
  | int i =>
    cases b with
    | int j =>
      simp only [iiG] at hg
      cases hg
      exact ⟨i, j, hx.inv_int, hy.inv_int, q _ H F (.refl e) (h i j F)⟩
    | _ => simp [iiG] at hg
  | _ => simp [iiG] at hg
abbrev subG : D → D → Option D := iiG fun i j => some (.int (i - j))
theorem r2_sub : R2Ok K (rI0 fun i j => .int (i - j)) subG := r2_ii0 fun _ _ _ => .int _
abbrev divG : D → D → Option D := iiG fun i j => if 0 < j ∧ j < 1073741824 then some (.int (i / j)) else none
theorem r2_div : R2Ok K (rI CDiv fun i j => .int (i / j)) divG := r2_ii (C := fun i j => 0 < j ∧ j < 1073741824) fun _ _ _ => .int _
abbrev modG : D → D → Option D := iiG fun i j => if 0 < j then some (.int (i % j)) else none
theorem r2_mod : R2Ok K (rI (fun _ j => 0 < j) fun i j => .int (i % j)) modG := r2_ii (C := fun _ j => 0 < j) fun _ _ _ => .int _
abbrev powG : D → D → Option D := iiG fun i j => if 0 ≤ j ∧ j ≤ 1000000 ∧ i.natAbs < 2 ^ 64 then some (.int (i ^ j.toNat)) else none
theorem r2_pow : R2Ok K (rI CPow fun i j => .int (i ^ j.toNat)) powG := r2_ii (C := fun i j => 0 ≤ j ∧ j ≤ 1000000 ∧ i.natAbs < 2 ^ 64) fun _ _ _ => .int _
abbrev ltG : D → D → Option D := iiG fun i j => some (.bl (decide (i < j)))
theorem r2_lt : R2Ok K (rI0 fun i j => .bl (decide (i < j))) ltG := r2_ii0 fun _ _ _ => .bl _
abbrev leG : D → D → Option D := iiG fun i j => some (.bl (decide (i ≤ j)))
theorem r2_le : R2Ok K (rI0 fun i j => .bl (decide (i ≤ j))) leG := r2_ii0 fun _ _ _ => .bl _
abbrev gtG : D → D → Option D := iiG fun i j => some (.bl (decide (j < i)))
theorem r2_gt : R2Ok K (rI0 fun i j => .bl (decide (j < i))) gtG := r2_ii0 fun _ _ _ => .bl _
abbrev geG : D → D → Option D := iiG fun i j => some (.bl (decide (j ≤ i)))
theorem r2_ge : R2Ok K (rI0 fun i j => .bl (decide (j ≤ i))) geG := r2_ii0 fun _ _ _ => .bl _

/-- +: ints, texts, lists, tuples -/
def addG : D → D → Option D
  | .int i, .int j => some (.int (i + j))
  | .str a, .str b => if a.length + b.length ≤ 100000 then some (.str (a ++ b)) else none
  | .lst xs, .lst ys => if xs.length + ys.length ≤ 100000 then some (.lst (xs ++ ys)) else none
  | .tup (x :: xs), .tup (y :: ys) => if xs.length + ys.length ≤ 90000 then some (.tup ((x :: xs) ++ (y :: ys))) else none
  | _, _ => none
def rStr : R2 := fun x y H Q => ∃ i j, x = .str i ∧ y = .str j ∧ i.length + j.length ≤ sizeLine ∧ Q (.str (i ++ j)) H
def rAddA (K : PySem.W.Frag) : R2 := fun x y H Q => (rI0 (fun i j => .int (i + j)) x y H Q ∨ rStr x y H Q) ∨ (rCat x y H Q ∨ rCatT K x y H Q)
theorem op_addA {X : Cx} : OpR X (binaryOp .Add) (rAddA X.K) := (op_add.or op_add_str).or (op_cat.or op_catT)
theorem r2_add : R2Ok K (rAddA K) addG := by
  intro F H x y a b d Q e hx hy hg q
  cases a <;> cases b <;> simp only [addG] at hg <;> try (cases hg; done)
  · cases hg
    exact .inl (.inl ⟨_, _, hx.inv_int, hy.inv_int, q _ H F (.refl e) (.int _)⟩)
  · split at hg
    · rename_i hl
      cases hg
      exact .inl (.inr ⟨_, _, hx.inv_str, hy.inv_str, sz_of hl, q _ H F (.refl e) (.str _)⟩)
    · cases hg
  · split at hg
    · rename_i hl
      cases hg
      obtain ⟨p, vs, rfl, hp, hr⟩ := hx.inv_lst
      obtain ⟨p', vs', rfl, hp', hr'⟩ := hy.inv_lst
      refine .inr (.inl ⟨p, p', vs, vs', rfl, rfl, e _ _ hp, e _ _ hp', sz_of (by rw [hr.len, hr'.len]; exact hl), fun z hz => ?_⟩)
      have g := Grow.new (o := .lst (vs ++ vs')) e hz
      exact q _ _ _ g (.lst' upd_same ((hr.mono g.f).append (hr'.mono g.f)))
    · cases hg
  · rename_i xs ys
    cases xs with
    | nil => simp at hg
    | cons x0 xs =>
      cases ys with
      | nil => simp at hg
      | cons y0 ys =>
        simp only at hg
        split at hg
        · rename_i hl
          cases hg
          obtain ⟨p, vs, rfl, hp, hr⟩ := hx.inv_tup
          obtain ⟨p', vs', rfl, hp', hr'⟩ := hy.inv_tup
          have n1 : vs ≠ [] := by rintro rfl; have := hr.len; simp at this
          have n2 : vs' ≠ [] := by rintro rfl; have := hr'.len; simp at this
          have l1 := hr.len
          have l2 := hr'.len
          simp at l1 l2
          refine .inr (.inr ⟨p, p', vs, vs', rfl, rfl, .inl (.inl (e _ _ hp)), .inl (.inl (e _ _ hp')), n1, sz_of (by omega), ?_⟩)
          first
            | (rw [if_neg n2]
               intro z hz
               have g := Grow.new (o := .tup (vs ++ vs')) e hz
               exact q _ _ _ g (.tup' upd_same ((hr.mono g.f).append (hr'.mono g.f))))
            | (refine ⟨fun z => absurd z n2, fun _ z hz => ?_⟩
               have g := Grow.new (o := .tup (vs ++ vs')) e hz
               exact q _ _ _ g (.tup' upd_same ((hr.mono g.f).append (hr'.mono g.f))))
        · cases hg

/-- *: ints; a list times an int -/
def mulG : D → D → Option D
  | .int i, .int j => if (-(2 ^ 64) < i ∧ i < 2 ^ 64) ∨ (-(2 ^ 64) < j ∧ j < 2 ^ 64) then some (.int (i * j)) else none
  | .lst xs, .int k => if -100000 ≤ k ∧ k ≤ 100000 ∧ xs.length * k.toNat ≤ 100000 then some (.lst (List.replicate k.toNat xs).flatten) else none
  | _, _ => none
def rMulA : R2 := fun x y H Q => rI CMul (fun i j => .int (i * j)) x y H Q ∨ rRep x y H Q
theorem op_mulA {X : Cx} : OpR X (binaryOp .Mult) rMulA := op_mul.or op_rep
theorem r2_mul : R2Ok K rMulA mulG := by
  intro F H x y a b d Q e hx hy hg q
  cases a <;> cases b <;> simp only [mulG] at hg <;> try (cases hg; done)
  · split at hg
    · rename_i hl
      cases hg
      exact .inl ⟨_, _, hx.inv_int, hy.inv_int, hl, q _ H F (.refl e) (.int _)⟩
    · cases hg
  · split at hg
    · rename_i hl
      cases hg
      obtain ⟨p, vs, rfl, hp, hr⟩ := hx.inv_lst
      refine .inr ⟨p, _, vs, rfl, hy.inv_int, e _ _ hp, by omega, by omega, sz_of (by rw [hr.len]; exact hl.2.2), fun z hz => q _ _ _ (Grow.new e hz) (.lst' upd_same ((hr.mono (Grow.new e hz).f).rep _))⟩
    · cases hg

/-! ### == -/
mutual
def toPy : D → PyData
  | .non => .none
  | .bl b => .bool b
  | .int i => .int i
  | .str x => .str x
  | .lst xs => .list (toPyL xs)
  | .tup xs => .tuple (toPyL xs)
  | .scr ns => .list (ns.map .int)
  | .dct _ => .dict []
  | .dcl _ => .dict []
  | .err _ => .dict []
def toPyL : List D → List PyData
  | [] => []
  | x :: xs => toPy x :: toPyL xs
end
/-- no dict in it -/
def eqOk (d : D) : Bool := SeqAt.shaped (toPy d)
mutual
def noDct : D → Bool
  | .dct _ => false
  | .dcl _ => false
  | .lst xs => noDctL xs
  | .tup xs => noDctL xs
  | _ => true
def noDctL : List D → Bool
  | [] => true
  | x :: xs => noDct x && noDctL xs
end
theorem canLay_noDct : ∀ d : D, (toPy d).canLay0 = true → (∀ kvs, d ≠ .dct kvs) := by
  intro d h kvs z
  subst z
  simp [toPy, PyData.canLay0] at h
theorem canLayAll_get : ∀ {xs : List D}, PyData.canLayAll0 (toPyL xs) = true → ∀ d ∈ xs, (toPy d).canLay0 = true
  | [], _, d, h => by cases h
  | x :: xs, hx, d, h => by
    simp only [toPyL, PyData.canLayAll0, Bool.and_eq_true] at hx
    rcases List.mem_cons.mp h with rfl | h
    · exact hx.1
    · exact canLayAll_get hx.2 d h
theorem dpAll_of {F : Hp} : ∀ {vs : List V} {ds : List D}, vs.length = ds.length → (∀ (i : Nat) (x : V) (d : D), vs[i]? = some x → ds[i]? = some d → Dp K F x (toPy d)) → DpAll K F vs (toPyL ds)
  | [], [], _, _ => .nil
  | v :: vs, d :: ds, hl, h => .cons (h 0 v d rfl rfl) (dpAll_of (by simpa using hl) fun i x d a b => h (i + 1) x d (by simpa using a) (by simpa using b))
  | [], _ :: _, hl, _ => by simp at hl
  | _ :: _, [], hl, _ => by simp at hl
theorem dpAll_ints {F : Hp} : ∀ ns : List Int, DpAll K F (ns.map V.int) (ns.map PyData.int)
  | [] => .nil
  | n :: ns => .cons (.int n) (dpAll_ints ns)
theorem Dt.dp {F : Hp} {x : V} {d : D} (h : Dt K F x d) : (toPy d).canLay0 = true → Dp K F x (toPy d) := by
  induction h with
  | non => intro _; simp only [toPy]; exact .non
  | bl b => intro _; simp only [toPy]; exact .bl b
  | int i => intro _; simp only [toPy]; exact .int i
  | str z => intro _; simp only [toPy]; exact .str z
  | lst h1 h2 _ ih =>
    intro hc
    simp only [toPy, PyData.canLay0] at hc ⊢
    exact .lst (.inl (.inl h1)) (dpAll_of h2 fun i x d a b => ih i x d a b (canLayAll_get hc d (List.mem_of_getElem? b)))
  | tup h1 h2 _ ih =>
    intro hc
    simp only [toPy, PyData.canLay0] at hc ⊢
    exact .tup (.inl (.inl h1)) (dpAll_of h2 fun i x d a b => ih i x d a b (canLayAll_get hc d (List.mem_of_getElem? b)))
  | scr h => intro _; simp only [toPy]; exact .lst h (dpAll_ints _)
  | dct h => intro hc; simp [toPy, PyData.canLay0] at hc
  | dcl h => intro hc; simp [toPy, PyData.canLay0] at hc
  | err h => intro hc; simp [toPy, PyData.canLay0] at hc
theorem shaped_lay {d : D} (h : eqOk d = true) : (toPy d).canLay0 = true := by
  unfold eqOk SeqAt.shaped at h
  rw [Bool.and_eq_true] at h
  exact h.1
def eqG : D → D → Option D
  | .int i, .int j => some (.bl (decide (i = j)))
  | .str a, .str b => some (.bl (decide (a = b)))
  | .bl a, .bl b => some (.bl (decide (a = b)))
  | a, b => if eqOk a && eqOk b then some (.bl (PyData.eqv (toPy a) (toPy b))) else none
def neG (a b : D) : Option D := match eqG a b with
  | some (.bl b) => some (.bl !b)
  | _ => none
def rEqA (K : PySem.W.Frag) : R2 := fun x y H Q => rEq x y H Q ∨ rEqD K x y H Q
def rNeA (K : PySem.W.Frag) : R2 := fun x y H Q => rNe x y H Q ∨ rNeD K x y H Q
theorem op_eqA {X : Cx} {k : Nat} (hr : Room k X.A) : OpR X (compareOp .Eq) (rEqA X.K) := op_eq.or (op_eqD hr.units)
theorem op_neA {X : Cx} {k : Nat} (hr : Room k X.A) : OpR X (compareOp .NotEq) (rNeA X.K) := op_ne.or (op_neD hr.units)
theorem eqG_cases (a b : D) : (∃ i j, a = .int i ∧ b = .int j) ∨ (∃ i j, a = .str i ∧ b = .str j) ∨ (∃ i j, a = .bl i ∧ b = .bl j) ∨ eqG a b = if eqOk a && eqOk b then some (.bl (PyData.eqv (toPy a) (toPy b))) else none := by
  cases a <;> cases b <;> first
    | exact .inr (.inr (.inr rfl))
    | exact .inl ⟨_, _, rfl, rfl⟩
    | exact .inr (.inl ⟨_, _, rfl, rfl⟩)
    | exact .inr (.inr (.inl ⟨_, _, rfl, rfl⟩))
theorem r2_eq : R2Ok K (rEqA K) eqG := by
  intro F H x y a b d Q e hx hy hg q
  rcases eqG_cases a b with ⟨i, j, rfl, rfl⟩ | ⟨i, j, rfl, rfl⟩ | ⟨i, j, rfl, rfl⟩ | he
  · simp only [eqG] at hg
    cases hg
    cases hx.inv_int; cases hy.inv_int
    refine .inl ⟨rfl, ?_⟩
    have e1 : decide (V.int i = V.int j) = decide (i = j) := by rw [dec_int, Bool.beq_eq_decide_eq]
    rw [e1]
    exact q _ H F (.refl e) (.bl _)
  · simp only [eqG] at hg
    cases hg
    cases hx.inv_str; cases hy.inv_str
    refine .inl ⟨rfl, ?_⟩
    have e1 : decide (V.str i = V.str j) = decide (i = j) := by rw [dec_str, Bool.beq_eq_decide_eq]
    rw [e1]
    exact q _ H F (.refl e) (.bl _)
  · simp only [eqG] at hg
    cases hg
    cases hx.inv_bl; cases hy.inv_bl
    refine .inl ⟨rfl, ?_⟩
    have e1 : decide (V.bl i = V.bl j) = decide (i = j) := by rw [dec_bl, Bool.beq_eq_decide_eq]
    rw [e1]
    exact q _ H F (.refl e) (.bl _)
  · rw [he] at hg
    split at hg
    · rename_i hs
      rw [Bool.and_eq_true] at hs
      cases hg
      exact .inr ⟨_, _, (hx.mono e).dp (shaped_lay hs.1), (hy.mono e).dp (shaped_lay hs.2), hs.1, hs.2, q _ H F (.refl e) (.bl _)⟩
    · cases hg
theorem r2_ne : R2Ok K (rNeA K) neG := by
  intro F H x y a b d Q e hx hy hg q
  unfold neG at hg
  rcases eqG_cases a b with ⟨i, j, rfl, rfl⟩ | ⟨i, j, rfl, rfl⟩ | ⟨i, j, rfl, rfl⟩ | he
  · simp only [eqG] at hg
    cases hg
    cases hx.inv_int; cases hy.inv_int
    refine .inl ⟨rfl, ?_⟩
    have e1 : decide (V.int i = V.int j) = decide (i = j) := by rw [dec_int, Bool.beq_eq_decide_eq]
    rw [e1]
    exact q _ H F (.refl e) (.bl _)
  · simp only [eqG] at hg
    cases hg
    cases hx.inv_str; cases hy.inv_str
    refine .inl ⟨rfl, ?_⟩
    have e1 : decide (V.str i = V.str j) = decide (i = j) := by rw [dec_str, Bool.beq_eq_decide_eq]
    rw [e1]
    exact q _ H F (.refl e) (.bl _)
  · simp only [eqG] at hg
    cases hg
    cases hx.inv_bl; cases hy.inv_bl
    refine .inl ⟨rfl, ?_⟩
    have e1 : decide (V.bl i = V.bl j) = decide (i = j) := by rw [dec_bl, Bool.beq_eq_decide_eq]
    rw [e1]
    exact q _ H F (.refl e) (.bl _)
  · rw [he] at hg
    split at hg
    · rename_i b hb
      split at hb
      · rename_i hs
        rw [Bool.and_eq_true] at hs
        cases hb
        cases hg
        exact .inr ⟨_, _, (hx.mono e).dp (shaped_lay hs.1), (hy.mono e).dp (shaped_lay hs.2), hs.1, hs.2, q _ H F (.refl e) (.bl _)⟩
      · cases hb
    · cases hg

/-! ### is None -/
def isNG : D → D → Option D
  | .non, .non => some (.bl true)
  | _, .non => some (.bl false)
  | _, _ => none
def notNG : D → D → Option D
  | .non, .non => some (.bl false)
  | _, .non => some (.bl true)
  | _, _ => none
theorem dt_non {F : Hp} {x : V} {d : D} (h : Dt K F x d) : decide (x = .non) = (match d with | .non => true | _ => false) := by
  cases h <;> simp
theorem r2_isN : R2Ok K (fun x y H Q => y = .non ∧ Q (.bl (decide (x = .non))) H) isNG := by
  intro F H x y a b d Q e hx hy hg q
  have h := dt_non hx
  cases b with
  | non =>
    cases hy.inv_non
    refine ⟨rfl, ?_⟩
    rw [h]
    cases a <;> simp only [isNG] at hg <;> cases hg <;> exact q _ H F (.refl e) (.bl _)
  | _ => cases a <;> simp [isNG] at hg
theorem r2_notN : R2Ok K (fun x y H Q => y = .non ∧ Q (.bl (!decide (x = .non))) H) notNG := by
  intro F H x y a b d Q e hx hy hg q
  have h := dt_non hx
  cases b with
  | non =>
    cases hy.inv_non
    refine ⟨rfl, ?_⟩
    rw [h]
    cases a <;> simp only [notNG] at hg <;> cases hg <;> exact q _ H F (.refl e) (.bl _)
  | _ => cases a <;> simp [notNG] at hg

/-! ### in -/
def eqFl : D → D → Bool
  | .non, .non => true
  | .bl a, .bl b => a == b
  | .bl a, .int b => (if a then 1 else 0) == b
  | .int a, .bl b => a == (if b then 1 else 0)
  | .int a, .int b => a == b
  | .str a, .str b => a == b
  | _, _ => false
def inD (x : D) (xs : List D) : Bool := xs.any fun y => eqFl y x
def inG (neg : Bool) : D → D → Option D
  | x, .lst ys => if flatD x && ys.all flatD then some (.bl (if neg then !inD x ys else inD x ys)) else none
  | x, .tup ys => if flatD x && ys.all flatD then some (.bl (if neg then !inD x ys else inD x ys)) else none
  | x, .scr ns => if flatD x then some (.bl (if neg then !inD x (ns.map .int) else inD x (ns.map .int))) else none
  | _, _ => none
theorem flat_of {F : Hp} {x : V} {d : D} (h : Dt K F x d) (f : flatD d = true) : L2.flatV x = true := by
  cases h <;> first | rfl | (simp [flatD] at f)
theorem eqFl_of {F : Hp} {x y : V} {d e : D} (h : Dt K F x d) (h' : Dt K F y e) (f : flatD d = true) (f' : flatD e = true) : eqV x y = eqFl d e := by
  cases h <;> first | (simp [flatD] at f; done) | (cases h' <;> first | (simp [flatD] at f'; done) | rfl)
theorem inV_of {F : Hp} {x : V} {d : D} (h : Dt K F x d) (f : flatD d = true) : ∀ {vs : List V} {ds : List D}, DtA K F vs ds → ds.all flatD = true → vs.all L2.flatV = true ∧ inV x vs = inD d ds
  | [], [], _, _ => ⟨rfl, rfl⟩
  | v :: vs, e :: ds, hr, hf => by
    obtain ⟨h1, h2⟩ := hr.uncons
    rw [List.all_cons, Bool.and_eq_true] at hf
    obtain ⟨i1, i2⟩ := inV_of h f h2 hf.2
    refine ⟨by rw [List.all_cons, flat_of h1 hf.1, i1]; rfl, ?_⟩
    unfold inV inD at i2 ⊢
    rw [List.any_cons, List.any_cons, eqFl_of h1 h hf.1 f, i2]
  | [], _ :: _, hr, _ => by have := hr.len; simp at this
  | _ :: _, [], hr, _ => by have := hr.len; simp at this
theorem r2_in {neg : Bool} : R2Ok K (rIn K neg) (inG neg) := by
  intro F H x y a b d Q e hx hy hg q
  have key : ∀ (ds : List D) (vs : List V), flatD a = true → ds.all flatD = true → DtA K F vs ds → d = .bl (if neg then !inD a ds else inD a ds) → L2.flatV x = true ∧ vs.all L2.flatV = true ∧ Q (.bl (if neg then !inV x vs else inV x vs)) H := fun ds vs h1 h2 h3 h4 => by
    obtain ⟨k1, k2⟩ := inV_of hx h1 h3 h2
    refine ⟨flat_of hx h1, k1, ?_⟩
    rw [k2]
    subst h4
    exact q _ H F (.refl e) (.bl _)
  cases b with
  | lst ys =>
    simp only [inG] at hg
    split at hg
    · rename_i hs
      rw [Bool.and_eq_true] at hs
      obtain ⟨p, vs, rfl, hp, hr⟩ := hy.inv_lst
      exact ⟨p, vs, rfl, .inl (.inl (.inl (e _ _ hp))), key ys vs hs.1 hs.2 hr (by cases hg; rfl)⟩
    · cases hg
  | tup ys =>
    simp only [inG] at hg
    split at hg
    · rename_i hs
      rw [Bool.and_eq_true] at hs
      obtain ⟨p, vs, rfl, hp, hr⟩ := hy.inv_tup
      exact ⟨p, vs, rfl, .inr (.inl (.inl (e _ _ hp))), key ys vs hs.1 hs.2 hr (by cases hg; rfl)⟩
    · cases hg
  | scr ns =>
    simp only [inG] at hg
    split at hg
    · rename_i hs
      cases hy with
      | scr h => exact ⟨_, _, rfl, .inl (ex_l e h), key _ _ hs (by rw [List.all_eq_true]; intro z hz; simp at hz; obtain ⟨w, _, rfl⟩ := hz; rfl) (dt_ints ns) (by cases hg; rfl)⟩
    · cases hg
  | _ => cases a <;> simp [inG] at hg

/-! ### subscripts -/
def ixG : D → D → Option D
  | .lst xs, .int i => atI xs i
  | .tup xs, .int i => atI xs i
  | .scr ns, .int i => (match atI ns i with
    | some n => some (.int n)
    | none => none)
  | _, _ => none
theorem atI_get {α : Type} {xs : List α} {i : Int} {x : α} (h : atI xs i = some x) : ∃ j, ixN xs.length i = some j ∧ xs[j]? = some x := by
  unfold atI at h
  cases e : ixN xs.length i with
  | none => rw [e] at h; cases h
  | some j => rw [e] at h; exact ⟨j, rfl, h⟩
theorem atI_dt {F : Hp} {vs : List V} {ds : List D} {i : Int} {d : D} (h : DtA K F vs ds) (a : atI ds i = some d) : ∃ x, atI vs i = some x ∧ Dt K F x d := by
  obtain ⟨j, h1, h2⟩ := atI_get a
  obtain ⟨x, h3, h4⟩ := h.get h2
  refine ⟨x, ?_, h4⟩
  unfold atI
  rw [h.len, h1]
  exact h3
def rIxA (K : PySem.W.Frag) : R2 := fun x y H Q => rIxL K x y H Q ∨ rIxT K x y H Q
theorem ix_any {X : Cx} : IxR X (rIxA X.K) := ix_list.or ix_tup
theorem r2_ix : R2Ok K (rIxA K) ixG := by
  intro F H x y a b d Q e hx hy hg q
  cases a <;> cases b <;> simp only [ixG] at hg <;> try (cases hg; done)
  · obtain ⟨p, vs, rfl, hp, hr⟩ := hx.inv_lst
    obtain ⟨z, h1, h2⟩ := atI_dt hr hg
    exact .inl ⟨p, vs, _, z, rfl, hy.inv_int, .inl (.inl (e _ _ hp)), h1, q _ H F (.refl e) h2⟩
  · obtain ⟨p, vs, rfl, hp, hr⟩ := hx.inv_tup
    obtain ⟨z, h1, h2⟩ := atI_dt hr hg
    exact .inr ⟨p, vs, _, z, rfl, hy.inv_int, .inl (.inl (e _ _ hp)), h1, q _ H F (.refl e) h2⟩
  · split at hg
    · rename_i n hn
      cases hg
      cases hx with
      | scr h =>
        obtain ⟨j, h1, h2⟩ := atI_get hn
        refine .inl ⟨_, _, _, V.int n, rfl, hy.inv_int, ex_l e h, ?_, q _ H F (.refl e) (.int n)⟩
        unfold atI
        rw [List.length_map, h1]
        show (List.map V.int _)[j]? = _
        rw [List.getElem?_map, h2]; rfl
    · cases hg
end
end DL

namespace DL
open PySem PySem.Spec PyProof.Rows L2 Evl

/-! ### built-in calls -/
section
variable {K : PySem.W.Frag}
def lenG : List D → Option D
  | [.lst xs] => some (.int (xs.length : Int))
  | [.tup xs] => some (.int (xs.length : Int))
  | [.scr ns] => some (.int (ns.length : Int))
  | _ => none
theorem rc_len : RCOk K (fun xs H Q => ∃ p ys, xs = [.ref p] ∧ (SqL K H p ys ∨ SqT K H p ys) ∧ Q (.int ys.length) H) lenG := by
  intro F H xs as d Q e hx hg q
  unfold lenG at hg
  split at hg
  · cases hg
    obtain ⟨x, rfl, hd⟩ := hx.inv_one
    obtain ⟨p, vs, rfl, hp, hr⟩ := hd.inv_lst
    exact ⟨p, vs, rfl, .inl (.inl (.inl (e _ _ hp))), by rw [hr.len]; exact q _ H F (.refl e) (.int _)⟩
  · cases hg
    obtain ⟨x, rfl, hd⟩ := hx.inv_one
    obtain ⟨p, vs, rfl, hp, hr⟩ := hd.inv_tup
    exact ⟨p, vs, rfl, .inr (.inl (.inl (e _ _ hp))), by rw [hr.len]; exact q _ H F (.refl e) (.int _)⟩
  · rename_i ns
    cases hg
    obtain ⟨x, rfl, hd⟩ := hx.inv_one
    cases hd with
    | scr h => exact ⟨_, _, rfl, .inl (ex_l e h), by rw [List.length_map]; exact q _ H F (.refl e) (.int _)⟩
  · cases hg
def intG : List D → Option D
  | [.int i] => some (.int i)
  | [.bl b] => some (.int (if b then 1 else 0))
  | _ => none
theorem rc_int : RCOk K (fun xs H Q => (∃ i, xs = [.int i] ∧ Q (.int i) H) ∨ ∃ k, xs = [.bl k] ∧ Q (.int (if k then 1 else 0)) H) intG := by
  intro F H xs as d Q e hx hg q
  unfold intG at hg
  split at hg
  · cases hg
    obtain ⟨x, rfl, hd⟩ := hx.inv_one
    cases hd.inv_int
    exact .inl ⟨_, rfl, q _ H F (.refl e) (.int _)⟩
  · cases hg
    obtain ⟨x, rfl, hd⟩ := hx.inv_one
    cases hd.inv_bl
    exact .inr ⟨_, rfl, q _ H F (.refl e) (.int _)⟩
  · cases hg
def max2G : List D → Option D
  | [.int i, .int j] => some (.int (if j > i then j else i))
  | _ => none
theorem rc_max2 : RCOk K (fun xs H Q => ∃ i j, xs = [.int i, .int j] ∧ Q (.int (if j > i then j else i)) H) max2G := by
  intro F H xs as d Q e hx hg q
  unfold max2G at hg
  split at hg
  · cases hg
    obtain ⟨x, y, rfl, hd, hd'⟩ := hx.inv_two
    cases hd.inv_int; cases hd'.inv_int
    exact ⟨_, _, rfl, q _ H F (.refl e) (.int _)⟩
  · cases hg
def min2G : List D → Option D
  | [.int i, .int j] => some (.int (if j < i then j else i))
  | _ => none
theorem rc_min2 : RCOk K (fun xs H Q => ∃ i j, xs = [.int i, .int j] ∧ Q (.int (if j < i then j else i)) H) min2G := by
  intro F H xs as d Q e hx hg q
  unfold min2G at hg
  split at hg
  · cases hg
    obtain ⟨x, y, rfl, hd, hd'⟩ := hx.inv_two
    cases hd.inv_int; cases hd'.inv_int
    exact ⟨_, _, rfl, q _ H F (.refl e) (.int _)⟩
  · cases hg
/-- the greatest -/
def maxI : Int → List Int → Int
  | a, [] => a
  | a, b :: r => maxI (if b > a then b else a) r
theorem maxI_ge : ∀ (r : List Int) (a : Int), a ≤ maxI a r ∧ ∀ y ∈ r, y ≤ maxI a r
  | [], a => ⟨Int.le_refl a, fun y h => by cases h⟩
  | b :: r, a => by
    obtain ⟨h1, h2⟩ := maxI_ge r (if b > a then b else a)
    unfold maxI
    refine ⟨?_, fun y hy => ?_⟩
    · split at h1 <;> split <;> omega
    · rcases List.mem_cons.mp hy with rfl | hy
      · split at h1 <;> split <;> omega
      · exact h2 y hy
theorem maxI_mem : ∀ (r : List Int) (a : Int), maxI a r = a ∨ maxI a r ∈ r
  | [], a => .inl rfl
  | b :: r, a => by
    unfold maxI
    rcases maxI_mem r (if b > a then b else a) with h | h
    · by_cases hb : b > a
      · rw [if_pos hb] at h ⊢; exact .inr (by rw [h]; simp)
      · rw [if_neg hb] at h ⊢; exact .inl h
    · exact .inr (by simp [h])
theorem max_uniq {a : Int} {r : List Int} {m : Int} (h1 : m ∈ a :: r) (h2 : ∀ y ∈ a :: r, y ≤ m) : m = maxI a r := by
  obtain ⟨k1, k2⟩ := maxI_ge r a
  have k3 : m ≤ maxI a r := by
    rcases List.mem_cons.mp h1 with rfl | h
    · exact k1
    · exact k2 m h
  have k4 : maxI a r ≤ m := by
    rcases maxI_mem r a with h | h
    · rw [h]; exact h2 a (by simp)
    · exact h2 _ (by simp [h])
  omega
def maxG : List D → Option D
  | [.lst xs] => (match intsOf xs with
    | some (a :: r) => some (.int (maxI a r))
    | _ => none)
  | _ => none
theorem rc_max : RCOk K (rMax K) maxG := by
  intro F H xs as d Q e hx hg q
  unfold maxG at hg
  split at hg
  · split at hg
    · rename_i ds a r hn
      cases hg
      obtain ⟨x, rfl, hd⟩ := hx.inv_one
      obtain ⟨p, vs, rfl, hp, hr⟩ := hd.inv_lst
      rw [intsOf_map hn] at hr
      have hv := dt_ints_inv hr
      subst hv
      refine ⟨p, a :: r, rfl, .inl (.inl (e _ _ hp)), by simp, fun m h1 h2 => ?_⟩
      rw [max_uniq h1 h2]
      exact q _ H F (.refl e) (.int _)
    · cases hg
  · cases hg
/-! isinstance -/
inductive Ty where
  | int | bool | str | list | tuple | dict
def tyN : Ty → String
  | .int => "int" | .bool => "bool" | .str => "str" | .list => "list" | .tuple => "tuple" | .dict => "dict"
def isTy : Ty → D → Bool
  | .int, .int _ => true
  | .int, .bl _ => true
  | .bool, .bl _ => true
  | .str, .str _ => true
  | .list, .lst _ => true
  | .list, .scr _ => true
  | .tuple, .tup _ => true
  | .dict, .dct _ => true
  | .dict, .dcl _ => true
  | _, _ => false
def kindD : D → String
  | .non => "NoneType" | .bl _ => "bool" | .int _ => "int" | .str _ => "str" | .lst _ => "list" | .tup _ => "tuple" | .scr _ => "list" | .dct _ => "dict" | .dcl _ => "dict" | .err _ => "list"
def isErrD : D → Bool
  | .err _ => true
  | _ => false
theorem ty_of {F : Hp} {x : V} {d : D} (h : Dt K F x d) (hn : isErrD d = false) : TyX K F x (.type (kindD d)) := by
  cases h with
  | non => exact .base .non
  | bl b => exact .base (.bl b)
  | int i => exact .base (.int i)
  | str z => exact .base (.str z)
  | lst h _ _ => exact .base (.lst h)
  | tup h _ _ => exact .base (.tup h)
  | scr h =>
    rcases h with (h | ⟨o, h⟩) | ⟨o, its, n, h1, h2, _⟩
    · exact .base (.lst h)
    · exact .base (.frz h)
    · exact .kList h1 h2
  | dct h =>
    rcases h with h | ⟨o, h⟩
    · exact .base (.dK h)
    · exact .fDict h
  | dcl h => exact .fDict h
  | err h => cases hn
theorem kit_all (t : Ty) (d : D) (hn : isErrD d = false) : kitB (kindD d) (tyN t) = some (isTy t d) := by
  cases t <;> cases d <;> first | (cases hn; done) | (show kitB _ _ = some _; first | (simp only [kindD, tyN, isTy]; decide +kernel))
end
section
variable {X : Cx} {e : Expr} {fe : DEnv → Option D} {p p2 pos : Pos}
def isiF (t : Ty) (fe : DEnv → Option D) : DEnv → Option D := fun env => match fe env with
  | some (.err _) => none
  | some d => some (.bl (isTy t d))
  | none => none
theorem de_isi (t : Ty) {T : Str} (hT : bootBuiltins T = some (.type (tyN t))) (hg : Gl X "isinstance") (hm : X.mg "isinstance" = none) (hg2 : Gl X T) (hm2 : X.mg T = none) (he : PE X e (dE X.K fe)) (hn : T ≠ "__name__" := by decide) (hd : (T == ("__debug__" : Str)) = false := by decide)
    (hs : starEach (e :: [.Name T p2]) X.env = (false, eval e X.env) :: starEach [.Name T p2] X.env := by rfl) (hs2 : starEach (.Name T p2 :: []) X.env = (false, eval (.Name T p2) X.env) :: starEach [] X.env := by rfl)
    (hpl : (backTo pos (starEach [.Name T p2] X.env)).any (·.1) = false := by rfl) :
    PE X (.Call (.Name "isinstance" p) [e, .Name T p2] [] pos) (dE X.K (isiF t fe)) := by
  have hb : PE X (.Name T p2) (tC (.ty (tyN t))) := pe_bltn hg2 hm2 hT rfl hn hd
  refine PE.imp (pe_callB call_isi hg hm (by decide +kernel) (pa_cons he (pa_cons hb pa_nil hs2) hs) (by decide) (by decide) hs hpl) ?_
  rintro σ H Q ⟨H0, F0, F, env, d, rl, hf, q⟩
  unfold isiF at hf
  split at hf
  · cases hf
  · rename_i d' hne hd'
    cases hf
    have hn : isErrD d' = false := by
      cases d' with
      | err C => exact absurd rfl (hne C)
      | _ => rfl
    refine ⟨H0, F0, F, env, d', rl, hd', fun v H1 F1 g1 hv => ?_⟩
    exact ⟨v, .ty (tyN t), .type (kindD d'), .type (tyN t), isTy t d', rfl, .ty _, ty_of (hv.mono g1.fh) hn, kit_ty (kit_all t d' hn), q _ H1 F1 g1 (.bl _)⟩
  · cases hf

/-! max(xs, default=e) -/
def maxDF (fa fd : DEnv → Option D) : DEnv → Option D := fun env => match fa env with
  | some (.lst ds) => (match fd env with
    | some (.int z) => (match intsOf ds with
      | some [] => some (.int z)
      | some (a :: r) => some (.int (maxI a r))
      | none => none)
    | _ => none)
  | _ => none
end

/-! ### errors -/
/-- what a wish W about errors asks of the own class of that name -/
def RW (mg : Str → Option Value) (W : WX) : RX := fun c σ H => ∃ C, mg c = some (.ref C) ∧ W (.ref C) none σ H
theorem passF {X : Cx} : Passes (L2.CX X.prog X.w) X (fun _ _ _ => False) := fun _ _ _ _ _ _ _ h => by
  obtain ⟨_, _, _, _, _, _, _, _, _, _, _, _, z⟩ := h
  exact False.elim z
/-- an expression that may raise -/
def dX (K : PySem.W.Frag) (R : RX) (f : DEnv → Option Res) : TE := fun σ H Q => ∃ H0 F0 F env r, Rel K H0 F0 F env σ H ∧ f env = some r ∧ match r with
  | .ok d => ∀ v H' F', Grow H F H' F' → Dt K F' v d → Q v H'
  | .ex c => ∀ H' F', Grow H F H' F' → R c σ H'
def opX (gc : List D → Option Res) (fa : DEnv → Option (List D)) : DEnv → Option Res := fun env => match fa env with
  | none => none
  | some a => gc a
section
variable {X : Cx} {e : Expr} {es : List Expr} {fs : DEnv → Option (List D)} {pos p : Pos} {x : Str} {k n : Nat} {f : Addr} {fd : FuncData} {ps : List Str} {sf : List D → Option Res} {W : WX} {fx : DEnv → Option Res}
theorem dx_call (G : FnOk X.prog X.w X.K X.mg X.base (L2.CX X.prog X.w) k f fd ps (spF X.K X.mg n sf)) (hr : Room k X.A) (hg : Gl X x) (hm : X.mg x = some (.ref f)) (hk : PySem.W.keepIn X.K (.ref f) = true) (hb : Binds X.K fd ps []) (tk : Takes X W)
    (ha : PA X (e :: es) (dA X.K fs)) (hl : ∀ env ds, fs env = some ds → ds.length = n) (hdb : (x == ("__debug__" : Str)) = false := by decide) (he : starEach (e :: es) X.env = (false, eval e X.env) :: starEach es X.env := by rfl) (hpl : (backTo pos (starEach es X.env)).any (·.1) = false := by rfl) :
    PE X (.Call (.Name x p) (e :: es) [] pos) (dX X.K (RW X.mg W) (opX sf fs)) := by
  refine PE.imp (pe_callS G hr hg hm hk hb (fun σ => passAt tk σ) ha hdb he hpl) ?_
  rintro σ H Q ⟨H0, F0, F, env, d, rl, hf, q⟩
  unfold opX at hf
  cases hb : fs env with
  | none => rw [hb] at hf; cases hf
  | some ds =>
    rw [hb] at hf
    refine ⟨H0, F0, F, env, ds, rl, hb, fun vs H1 F1 g1 hv => ?_⟩
    show spF X.K X.mg n sf vs H1 Q (WE W σ)
    refine ⟨hv.len.trans (hl env ds hb), F1, ds, d, g1.fh, hv, hf, ?_⟩
    cases d with
    | ok d => exact fun v H2 F2 g2 hv => q v H2 F2 (g1.trans g2) hv
    | ex c =>
      obtain ⟨C, hC, _⟩ := q H1 F1 g1
      refine ⟨C, hC, fun H2 F2 g2 => ?_⟩
      obtain ⟨C', hC', hE⟩ := q H2 F2 (g1.trans g2)
      rw [hC] at hC'
      cases hC'
      exact hE
variable {R : RX}
def xE (f : DEnv → Option D) : DEnv → Option Res := fun env => match f env with
  | some d => some (.ok d)
  | none => none
def drpX (fx : DEnv → Option Res) : DEnv → Option Out := fun env => match fx env with
  | some (.ok _) => some (.nx env)
  | some (.ex c) => some (.ex c env)
  | none => none
theorem ds_exprX (he : PE X e (dX X.K R fx)) (hs : swapsWith e none pos.line X.env = pure false := by rfl) : PS X (.Expr e pos) (dS X.K R (drpX fx)) := by
  refine PS.imp (ps_expr he hs) ?_
  rintro D σ H ⟨H0, F0, F, env, o, r, hf, p⟩
  unfold drpX at hf
  split at hf
  · rename_i d hd
    cases hf
    exact ⟨H0, F0, F, env, _, r, hd, fun v H' F' g hv => p F' σ H' (r.grow g)⟩
  · rename_i c hc
    cases hf
    exact ⟨H0, F0, F, env, _, r, hc, fun H' F' g => p F' σ H' (r.grow g)⟩
  · cases hf
def putX (i : Nat) (fx : DEnv → Option Res) : DEnv → Option Out := fun env => match fx env with
  | some (.ok d) => some (.nx (env.set i (.val d)))
  | some (.ex c) => some (.ex c env)
  | none => none
theorem ds_setX {i : Nat} {pos' : Pos} (hN : X.N.Nodup) (hi : X.N[i]? = some x) (hx : Loc X.env.scope x) (he : PE X e (dX X.K R fx)) (hs : swapsWith e (some (.Name x pos')) pos.line X.env = pure false := by rfl) (hf : X.fn x = true ∨ X.env.scope.names.lookup x = some .local := by first | exact .inl rfl | exact .inr rfl | assumption) :
    PS X (.Assign [.Name x pos'] e pos) (dS X.K R (putX i fx)) := by
  refine PS.imp (ps_set hN hi hx he hs hf) ?_
  rintro D σ H ⟨H0, F0, F, env, o, r, hf, p⟩
  unfold putX at hf
  split at hf
  · rename_i d hd
    cases hf
    exact ⟨H0, F0, F, env, _, r, hd, fun v H' F' g hv => p F' _ H' ((r.grow g).setVal hv)⟩
  · rename_i c hc
    cases hf
    exact ⟨H0, F0, F, env, _, r, hc, fun H' F' g => p F' σ H' (r.grow g)⟩
  · cases hf
def retX (fx : DEnv → Option Res) : DEnv → Option Out := fun env => match fx env with
  | some (.ok d) => some (.rt d env)
  | some (.ex c) => some (.ex c env)
  | none => none
theorem ds_retX (he : PE X e (dX X.K R fx)) : PS X (.Return (some e) pos) (dS X.K R (retX fx)) := by
  refine PS.imp (ps_ret he) ?_
  rintro D σ H ⟨H0, F0, F, env, o, r, hf, p⟩
  unfold retX at hf
  split at hf
  · rename_i d hd
    cases hf
    exact ⟨H0, F0, F, env, _, r, hd, fun v H' F' g hv => p v F' σ H' (r.grow g) hv⟩
  · rename_i c hc
    cases hf
    exact ⟨H0, F0, F, env, _, r, hc, fun H' F' g => p F' σ H' (r.grow g)⟩
  · cases hf
/-- raise X(..): what is made -/
def mkF (c : Str) (f : DEnv → Option (List D)) : DEnv → Option Out := fun env => match f env with
  | some _ => some (.ex c env)
  | none => none
theorem ds_raise {c : Str} {C : Addr} {t : L2.St → Hp → XK → Prop} (hc : X.calm = true) (tk : Takes X W) (he : PMk X e t) (gC : X.mg c = some (.ref C))
    (ht : ∀ σ H Q, dA X.K fs σ H (fun _ H' => Q (.ref C) none H') → t σ H Q) : PS X (.Raise (some e) none pos) (dS X.K (RW X.mg W) (mkF c fs)) := by
  refine PS.imp (ps_raise hc tk he) ?_
  rintro D σ H ⟨H0, F0, F, env, o, r, hf, p⟩
  unfold mkF at hf
  split at hf
  · rename_i ds hd
    cases hf
    refine ht σ H _ ⟨H0, F0, F, env, ds, r, hd, fun vs H' F' g hv => ?_⟩
    obtain ⟨C', hC', hE⟩ := p F' σ H' (r.grow g)
    rw [gC] at hC'
    cases hC'
    exact hE
  · cases hf
end

/-! ### a def -/
def startE (ds : List D) (n : Nat) : DEnv := ds.map .val ++ List.replicate (n - ds.length) .no
def resO : Option Out → Option Res
  | some (.nx _) => some (.ok .non)
  | some (.rt d _) => some (.ok d)
  | some (.ex c _) => some (.ex c)
  | _ => none
theorem rel_start {K : PySem.W.Frag} {H F : Hp} {N : List Str} {vs : List V} {ds : List D} (e : Ex F H) (h : DtA K F vs ds) : Rel K H F F (startE ds N.length) (L2.start N vs) H := by
  have hl := h.len
  have get : ∀ (i : Nat) (s : Sl), (startE ds N.length)[i]? = some s → s ≠ .no → ∃ d, ds[i]? = some d ∧ s = .val d := fun i s hs hn => by
    unfold startE at hs
    by_cases hi : i < ds.length
    · rw [List.getElem?_append_left (by simpa using hi), List.getElem?_map, List.getElem?_eq_getElem hi] at hs
      cases hs
      exact ⟨_, List.getElem?_eq_getElem hi, rfl⟩
    · rw [List.getElem?_append_right (by simpa using hi), List.getElem?_replicate] at hs
      split at hs
      · cases hs; exact absurd rfl hn
      · cases hs
  refine ⟨Grow.refl e, fun i d hd => ?_, ⟨fun _ => 0, fun i a c hc => ?_, fun i j a b c d h1 h2 _ => ?_⟩, by simp [startE, L2.start, hl], fun i a ha => ?_, ⟨fun _ => [], fun i d h => ?_, fun i j d e h => ?_, fun i j d b c x h => ?_⟩⟩
  · obtain ⟨d', h1, h2⟩ := get i _ hd (by intro z; cases z)
    cases h2
    obtain ⟨x, hx, hxd⟩ := h.get h1
    refine ⟨x, ?_, hxd⟩
    unfold L2.start
    have hi := (List.getElem?_eq_some_iff.mp hx).1
    rw [List.getElem?_append_left (by simpa using hi), List.getElem?_map, hx]
    rfl
  · obtain ⟨_, _, z⟩ := get i _ hc (by intro z; cases z)
    cases z
  · obtain ⟨_, _, z⟩ := get i _ h1 (by intro z; cases z)
    cases z
  · obtain ⟨_, _, z⟩ := get i _ ha (by intro z; cases z)
    cases z
  · obtain ⟨_, _, z⟩ := get i _ h (by intro z; cases z)
    cases z
  · obtain ⟨_, _, z⟩ := get i _ h (by intro z; cases z)
    cases z
  · obtain ⟨_, _, z⟩ := get i _ h (by intro z; cases z)
    cases z
section
variable {P : Program} {w : World} {K : PySem.W.Frag} {mg : Str → Option Value} {base : Heap}
/-- THE RULE for a def, by data -/
theorem fn_ok {x qual : Str} {st : Stmt} {f : Addr} {fd : FuncData} {N ps : List Str} {k n : Nat} {sf : List D → Option Res} {B : DEnv → Option Out} (F : Fun K x qual st f fd) (S : FnScope N ps (defScope st)) (hn : ps.length = n)
    (hbody : ∀ (cdv : Value) (A : Around) (outer : List Env) (s : Shared) (H : Hp) (E : XK), Room k (A.deeper (envOfC qual (defScope st) s.heap.objs.size f cdv)) →
      PSs (cxOf (L2.CX P w) P w K mg base N qual (defScope st) f cdv A outer s H E) (defBody st) (dS K (RW mg fun cls d _ H => E cls d H) B))
    (hB : ∀ ds r, ds.length = n → sf ds = some r → resO (B (startE ds N.length)) = some r) : FnOk P w K mg base (L2.CX P w) (k + 1) f fd ps (spF K mg n sf) := by
  refine F.okX S (fun vs H Q E h => by rw [hn]; exact h.1) (fun cdv A outer s H vs Q E hr h => ⟨dS K (RW mg fun cls d _ H => E cls d H) B, hbody cdv A outer s H E hr, ?_⟩)
  obtain ⟨hvl, Fz, ds, r, e, hv, hs, q⟩ := h
  have hb := hB ds r (hv.len.symm.trans hvl) hs
  cases ho : B (startE ds N.length) with
  | none => rw [ho] at hb; cases hb
  | some o =>
    rw [ho] at hb
    refine ⟨H, Fz, Fz, _, o, rel_start e hv, ho, ?_⟩
    cases o with
    | nx env =>
      simp only [resO] at hb
      cases hb
      exact fun F' σ H' r' => q _ H' F' r'.g .non
    | rt d env =>
      simp only [resO] at hb
      cases hb
      exact fun v F' σ H' r' hd => q v H' F' r'.g hd
    | ex c env =>
      simp only [resO] at hb
      cases hb
      obtain ⟨C, hC, q⟩ := q
      exact fun F' σ' H' r' => ⟨C, hC, q H' F' r'.g⟩
    | bk env => simp [resO] at hb
    | ct env => simp [resO] at hb
end
end DL

namespace DL
open PySem PySem.Spec PyProof.Rows L2 Evl

/-- a def of the text that may be called by its name -/
def Cl (P : Program) (w : World) (K : PySem.W.Frag) (mg : Str → Option Value) (base : Heap) (x : Str) (k n : Nat) (sf : List D → Option Res) : Prop :=
  ∃ (f : Addr) (fd : FuncData) (ps : List Str), FnOk P w K mg base (L2.CX P w) k f fd ps (spF K mg n sf) ∧ mg x = some (.ref f) ∧ PySem.W.keepIn K (.ref f) = true ∧ L2.Binds K fd ps []
/-- how many arguments -/
def AL (fs : DEnv → Option (List D)) (n : Nat) : Prop := ∀ env ds, fs env = some ds → ds.length = n
theorem al_nil : AL (fun _ => some []) 0 := fun _ ds h => by cases h; rfl
theorem al_cons {fa : DEnv → Option D} {fs : DEnv → Option (List D)} {n : Nat} (h : AL fs n) : AL (consA fa fs) (n + 1) := fun env ds e => by
  unfold consA at e
  split at e
  · cases e
  · split at e
    · cases e
    · rename_i h2
      cases e
      simp [h env _ h2]
section
variable {X : Cx} {e : Expr} {es : List Expr} {fs : DEnv → Option (List D)} {pos p : Pos} {x : Str} {k j n : Nat} {sf : List D → Option Res} {E : XK} {R : RX}
theorem de_callC (c : Cl X.prog X.w X.K X.mg X.base x k n sf) (hr : Room j X.A) (hk : k ≤ j) (hg : Gl X x) (ha : PA X (e :: es) (dA X.K fs)) (hl : AL fs n) (hdb : (x == ("__debug__" : Str)) = false := by decide)
    (he : starEach (e :: es) X.env = (false, eval e X.env) :: starEach es X.env := by rfl) (hpl : (backTo pos (starEach es X.env)).any (·.1) = false := by rfl) : PE X (.Call (.Name x p) (e :: es) [] pos) (dE X.K (opC (okD sf) fs)) := by
  obtain ⟨f, fd, ps, G, hm, hkp, hb⟩ := c
  exact de_call G (hr.mono hk) hg hm hkp hb passF ha hl hdb he hpl
theorem dx_callC {W : WX} (c : Cl X.prog X.w X.K X.mg X.base x k n sf) (hr : Room j X.A) (hk : k ≤ j) (hg : Gl X x) (tk : Takes X W) (ha : PA X (e :: es) (dA X.K fs)) (hl : AL fs n) (hdb : (x == ("__debug__" : Str)) = false := by decide)
    (he : starEach (e :: es) X.env = (false, eval e X.env) :: starEach es X.env := by rfl) (hpl : (backTo pos (starEach es X.env)).any (·.1) = false := by rfl) : PE X (.Call (.Name x p) (e :: es) [] pos) (dX X.K (RW X.mg W) (opX sf fs)) := by
  obtain ⟨f, fd, ps, G, hm, hkp, hb⟩ := c
  exact dx_call G (hr.mono hk) hg hm hkp hb tk ha hl hdb he hpl

def negG : D → Option D
  | .int i => some (.int (-i))
  | _ => none
theorem de_neg {fa : DEnv → Option D} (ha : PE X e (dE X.K fa)) : PE X (.UnaryOp .USub e pos) (dE X.K (op1 negG fa)) := by
  refine PE.imp (pe_un un_neg ha) ?_
  rintro σ H Q ⟨H0, F0, F, env, d, rl, hf, q⟩
  unfold op1 at hf
  cases ha : fa env with
  | none => rw [ha] at hf; cases hf
  | some da =>
    rw [ha] at hf
    cases da <;> simp [negG] at hf
    subst hf
    exact ⟨H0, F0, F, env, _, rl, ha, fun v H1 F1 g1 hv => ⟨_, hv.inv_int, q _ H1 F1 g1 (.int _)⟩⟩

theorem maxOf_int (y : Int) : ∀ ys : List Int, PySem.W.maxOf y ys = maxI y ys := fun ys => by
  unfold PySem.W.maxOf
  induction ys generalizing y with
  | nil => rfl
  | cons z zs ih =>
    rw [List.foldl_cons, ih]
    show maxI (if decide (y < z) = true then z else y) zs = maxI (if z > y then z else y) zs
    congr 1
    by_cases h : y < z <;> simp [h]
def maxZ (z : Int) : List Int → Int
  | [] => z
  | b :: r => maxI b r
/-! max(xs, default=e) -/
theorem cr_maxD {pins : List (Addr × Obj)} {s : Shared} {σ : L2.St} {H : Hp} {Q : VK} (hc : X.calm = true) (hu : X.A.units + 64 < cLine) (I : Inv X pins σ H s) {a : Addr} {ns : List Int} {z : Int} {t : Tok} (h : SqL X.K H a (ns.map V.int)) (q : Q (.int (maxZ z ns)) H) :
    wpAny (model X.prog X.w) X.A (call (.builtin "max") [.ref a] [(Str.ofString "default", .int z t)]) (EP X pins σ Q) X.xe s := by
  obtain ⟨its, rv, hl, _⟩ := I.list h
  have hi := rv.ints
  have hh : PySem.W.HoldAll s.heap its.toArray.toList ns := by
    simpa using PySem.W.HoldAll.of_ints hi
  refine PySem.W.max_list_datum_default (α := Int) (I.ok.hd hc) hl.isList hh (by show X.A.units + 1 + 0 < cLine; omega) (fun e h' tk hk => ?_) fun y ys i v h' tk e hi hv hk => ?_
  · subst e
    exact ⟨.int z, H, I.kept hk, ⟨t, rfl⟩, q⟩
  · subst e
    refine ⟨.int (maxI y ys), H, I.kept hk, ?_, q⟩
    have e2 := maxOf_int y ys
    rw [e2] at hv
    obtain ⟨as, hr⟩ := hv
    cases hr
    exact ⟨_, rfl⟩
def rMaxD (K : PySem.W.Frag) : List V → List V → Hp → VK → Prop := fun xs zs H Q => ∃ a ns z, xs = [.ref a] ∧ zs = [.int z] ∧ SqL K H a (ns.map V.int) ∧ Q (.int (maxZ z ns)) H
theorem call_maxD (hc : X.calm = true) (hu : X.A.units + 64 < cLine) : CallRK X (.builtin "max") [Str.ofString "default"] (rMaxD X.K) := by
  intro pins s σ H xs zs us ws Q I rx rz h
  obtain ⟨a, ns, z, rfl, rfl, hs, q⟩ := h
  obtain ⟨u, rfl, ru⟩ := rx.one
  cases ru
  obtain ⟨v, rfl, t, rfl⟩ := rz.one
  exact cr_maxD hc hu I hs q
theorem de_maxD {fa fd : DEnv → Option D} {e2 : Expr} {kpos : Pos} (hc : X.calm = true) {j : Nat} (hr : Room j X.A) (hg : Gl X "max") (hm : X.mg "max" = none) (ha : PE X e (dE X.K fa)) (hd : PE X e2 (dE X.K fd))
    (hst : starEach [e] X.env = (false, eval e X.env) :: starEach [] X.env := by rfl)
    (he : backTo pos (starEach (e :: []) X.env) = (false, eval e X.env) :: backTo pos (starEach [] X.env) := by rfl) (hpl : (backTo pos (starEach (e :: []) X.env)).any (·.1) = false := by rfl)
    (hall : (backToKw pos (keywordEach [⟨some (Str.ofString "default"), e2, kpos⟩] X.env)).all (·.1.isSome) = true := by rfl) (hnone : (backToKw pos (keywordEach [⟨some (Str.ofString "default"), e2, kpos⟩] X.env)).any (·.1.isNone) = false := by rfl) (hks : (backToKw pos (keywordEach [⟨some (Str.ofString "default"), e2, kpos⟩] X.env)).filterMap (·.1) = [Str.ofString "default"] := by rfl) :
    PE X (.Call (.Name "max" p) [e] [⟨some (Str.ofString "default"), e2, kpos⟩] pos) (dE X.K (maxDF fa fd)) := by
  refine PE.imp (pe_callBK (call_maxD hc hr.units) hg hm (by decide +kernel) (pa_cons ha pa_nil hst) (pk_cons hd pk_nil) (by decide) (by decide) he hpl hall hnone hks) ?_
  rintro σ H Q ⟨H0, F0, F, env, d, rl, hf, q⟩
  unfold maxDF at hf
  split at hf
  · rename_i ds h1
    split at hf
    · rename_i z h2
      have key : ∀ ns, ds = ns.map D.int → d = .int (maxZ z ns) → tCKw (rMaxD X.K) (tCons (dE X.K fa) tNil) (tCons (dE X.K fd) tNil) σ H Q := fun ns hns hdn => by
        subst hns
        subst hdn
        refine ⟨H0, F0, F, env, _, rl, h1, fun v H1 F1 g1 hv => ⟨H0, F0, F1, env, _, rl.grow g1, h2, fun u H2 F2 g2 hu => ?_⟩⟩
        obtain ⟨a, vs, rfl, e, r⟩ := (hv.mono g2.f).inv_lst
        have := dt_ints_inv r
        subst this
        cases hu.inv_int
        exact ⟨a, ns, z, rfl, rfl, .inl (.inl (g2.fh _ _ e)), q _ H2 F2 (g1.trans g2) (.int _)⟩
      split at hf
      · rename_i hn
        cases hf
        exact key [] (intsOf_map hn) rfl
      · rename_i a r hn
        cases hf
        exact key (a :: r) (intsOf_map hn) rfl
      · cases hf
    · cases hf
  · cases hf

/-! sorted: ints -/
def ins (x : Int) : List Int → List Int
  | [] => [x]
  | y :: r => if x ≤ y then x :: y :: r else y :: ins x r
def srt : List Int → List Int
  | [] => []
  | x :: r => ins x (srt r)
theorem ins_perm (x : Int) : ∀ l, (ins x l).Perm (x :: l)
  | [] => .refl _
  | y :: r => by
    unfold ins
    split
    · exact .refl _
    · exact ((ins_perm x r).cons y).trans (.swap x y r)
theorem srt_perm : ∀ l, (srt l).Perm l
  | [] => .refl _
  | x :: r => (ins_perm x (srt r)).trans ((srt_perm r).cons x)
theorem ins_sorted (x : Int) : ∀ l : List Int, l.Pairwise (· ≤ ·) → (ins x l).Pairwise (· ≤ ·)
  | [], _ => by simp [ins]
  | y :: r, h => by
    have h' := List.pairwise_cons.mp h
    unfold ins
    split
    · rename_i hxy
      refine List.pairwise_cons.mpr ⟨fun z hz => ?_, h⟩
      rcases List.mem_cons.mp hz with rfl | hz
      · exact hxy
      · exact Int.le_trans hxy (h'.1 z hz)
    · rename_i hxy
      refine List.pairwise_cons.mpr ⟨fun z hz => ?_, ins_sorted x r h'.2⟩
      rcases List.mem_cons.mp ((ins_perm x r).mem_iff.mp hz) with rfl | hz
      · omega
      · exact h'.1 z hz
theorem srt_sorted : ∀ l : List Int, (srt l).Pairwise (· ≤ ·)
  | [] => .nil
  | x :: r => ins_sorted x _ (srt_sorted r)
theorem sorted_uniq : ∀ {a b : List Int}, a.Perm b → a.Pairwise (· ≤ ·) → b.Pairwise (· ≤ ·) → a = b
  | [], b, h, _, _ => (List.nil_perm.mp h).symm
  | x :: a, [], h, _, _ => absurd h.length_eq (by simp)
  | x :: a, y :: b, h, ha, hb => by
    have ha' := List.pairwise_cons.mp ha
    have hb' := List.pairwise_cons.mp hb
    have h1 : x = y := by
      have m1 : x ∈ y :: b := h.mem_iff.mp (by simp)
      have m2 : y ∈ x :: a := h.mem_iff.mpr (by simp)
      have l1 : y ≤ x := by
        rcases List.mem_cons.mp m1 with e | m
        · omega
        · exact hb'.1 x m
      have l2 : x ≤ y := by
        rcases List.mem_cons.mp m2 with e | m
        · omega
        · exact ha'.1 y m
      omega
    subst h1
    rw [sorted_uniq (List.Perm.cons_inv h) ha'.2 hb'.2]
def srtN (fa : DEnv → Option D) : DEnv → Option OC := fun env => match fa env with
  | some (.lst ds) => (match intsOf ds with
    | some ns => if ns.length < 64 then some (.l ((srt ns).map .int)) else none
    | none => none)
  | _ => none
theorem dn_sorted {fa : DEnv → Option D} (hg : Gl X "sorted") (hm : X.mg "sorted" = none) (ha : PE X e (dE X.K fa)) (hs : starEach [e] X.env = (false, eval e X.env) :: starEach [] X.env := by rfl)
    (hpl : (backTo pos (starEach [] X.env)).any (·.1) = false := by rfl) : PE X (.Call (.Name "sorted" p) [e] [] pos) (dN X.K (srtN fa)) := by
  refine PE.imp (pe_callB cr_sorted hg hm (by decide +kernel) (pa_cons ha pa_nil hs) (by decide) (by decide) hs hpl) ?_
  rintro σ H Q ⟨H0, F0, F, env, c, rl, hf, q⟩
  unfold srtN at hf
  split at hf
  · rename_i ds h1
    split at hf
    · rename_i ns hn
      split at hf
      · rename_i hz
        cases hf
        refine ⟨H0, F0, F, env, _, rl, h1, fun v H1 F1 g1 hv => ?_⟩
        obtain ⟨a, vs, rfl, e, r⟩ := hv.inv_lst
        rw [intsOf_map hn] at r
        have := dt_ints_inv r
        subst this
        refine ⟨a, ns, rfl, .inl (.inl (g1.fh _ _ e)), hz, fun ns' l hp hso hl => ?_⟩
        have e2 : ns' = srt ns := sorted_uniq (hp.trans (srt_perm ns).symm) hso (srt_sorted ns)
        subst e2
        exact q l _ _ F1 (g1.trans (Grow.newM g1.fh hl)) (none_of_ex g1.h hl) upd_same (none_of_ex g1.fh hl) (.l (dt_ints _))
      · cases hf
    · cases hf
  · cases hf
/-! xs[::-1] -/
def revN (fa : DEnv → Option D) : DEnv → Option OC := fun env => match fa env with
  | some (.lst ds) => some (.l ds.reverse)
  | _ => none
theorem dn_rev {fa : DEnv → Option D} {k : Nat} {p1 p2 p3 : Pos} (ha : PE X e (dE X.K fa)) : PE X (.Subscript e (.Slice none none (some (.UnaryOp .USub (.Constant (.int 1) k p1) p2)) p3) pos) (dN X.K (revN fa)) := by
  refine PE.imp (pe_revL ha) ?_
  rintro σ H Q ⟨H0, F0, F, env, c, rl, hf, q⟩
  unfold revN at hf
  split at hf
  · rename_i ds h1
    cases hf
    refine ⟨H0, F0, F, env, _, rl, h1, fun v H1 F1 g1 hv => ?_⟩
    obtain ⟨a, vs, rfl, e, r⟩ := hv.inv_lst
    refine ⟨a, vs, rfl, .inl (.inl (g1.fh _ _ e)), fun l hl => ?_⟩
    exact q l _ _ F1 (g1.trans (Grow.newM g1.fh hl)) (none_of_ex g1.h hl) upd_same (none_of_ex g1.fh hl) (.l r.reverse)
  · cases hf

/-! ### one's own list changed, further -/
variable {px apos : Pos} {fe : DEnv → Option D}
def idxOf? (k : Int) : List Int → Option Nat
  | [] => none
  | x :: r => if x = k then some 0 else (idxOf? k r).map (· + 1)
theorem idxOf_spec : ∀ {l : List Int} {k : Int} {j : Nat}, idxOf? k l = some j → l[j]? = some k ∧ ∀ m : Nat, m < j → l[m]? ≠ some k
  | [], _, _, h => by cases h
  | x :: r, k, j, h => by
    unfold idxOf? at h
    split at h
    · rename_i hx
      cases h
      exact ⟨by simp [hx], fun m hm => absurd hm (by omega)⟩
    · rename_i hx
      cases hr : idxOf? k r with
      | none => rw [hr] at h; cases h
      | some i =>
        rw [hr] at h
        cases h
        obtain ⟨h1, h2⟩ := idxOf_spec hr
        refine ⟨by simpa using h1, fun m hm => ?_⟩
        cases m with
        | zero => simp; exact hx
        | succ m =>
          have hm' : m + 1 < i + 1 := hm
          simpa using h2 m (by omega)
def rmvS (i : Nat) (fe : DEnv → Option D) : DEnv → Option Out := fun env => match env[i]? with
  | some (.own a (.l ds)) => (match fe env with
    | some (.int k) => (match intsOf ds with
      | some ns => (match idxOf? k ns with
        | some j => some (.nx (env.set i (.own a (.l ((ns.eraseIdx j).map .int)))))
        | none => none)
      | none => none)
    | _ => none)
  | _ => none
theorem ds_remove {i : Nat} {pos2 : Pos} (hx : PE X (.Name x px) (tVar i)) (hk : PE X e (dE X.K fe)) (hsw : swapsWith (.Call (.Attribute (.Name x px) "remove" apos) [e] [] pos) none pos2.line X.env = pure false := by rfl) (hbase : attributeBase (.Name x px) "remove" X.env (eval (.Name x px) X.env) = eval (.Name x px) X.env := by rfl)
    (hfew : ((backTo pos (starEach (e :: []) X.env)).all (fun x => !x.1) && (backToKw pos (keywordEach [] X.env)).all (fun x => x.1.isSome)
      && decide ((e :: []).length + ([] : List Keyword).length + (if ([] : List Keyword).isEmpty then 0 else 1) < 30)) = true := by rfl)
    (hline : (apos.endLine == pos.line) = true := by rfl) (hs : starEach (e :: []) X.env = (false, eval e X.env) :: starEach [] X.env := by rfl) (hplain : (backTo pos (starEach [] X.env)).any (·.1) = false := by rfl) :
    PS X (.Expr (.Call (.Attribute (.Name x px) "remove" apos) [e] [] pos) pos2) (dS X.K R (rmvS i fe)) := by
  refine PS.imp (ps_expr (pe_bm PySem.F.plainAttrs_list PySem.F.slot_list_remove PySem.F.type_list_remove mt_remove hx (pa_cons hk pa_nil hs) hbase hfew hline hs hplain) hsw) ?_
  rintro D σ H ⟨H0, F0, F, env, o, r, hf, po⟩
  unfold rmvS at hf
  split at hf
  · rename_i a ds he
    obtain ⟨l, o1, h1, h2, h3, h4, h5, h6⟩ := r.own he
    cases h3 with
    | @l vs _ h3 =>
    split at hf
    · rename_i k hkk
      split at hf
      · rename_i ns hns
        split at hf
        · rename_i j hj
          cases hf
          refine ⟨_, h1, .inl ⟨rfl, vs, .inl (.inl h2)⟩, H0, F0, F, env, _, r, hkk, fun v H' F' g hv => ?_⟩
          cases hv.inv_int
          rw [intsOf_map hns] at h3
          have := dt_ints_inv h3
          subst this
          obtain ⟨i1, i2⟩ := idxOf_spec hj
          exact ⟨l, ns, k, j, rfl, rfl, g.h _ _ h2, i1, i2, po F' σ _ ((r.grow g).mut he h1 (.l (dt_ints _)))⟩
        · cases hf
      · cases hf
    · cases hf
  · cases hf
/-- x[e] = v -/
def setS (i : Nat) (fk fv : DEnv → Option D) : DEnv → Option Out := fun env => match fv env with
  | none => none
  | some d => match env[i]? with
    | some (.own a (.l ds)) => (match fk env with
      | some (.int k) => (match ixN ds.length k with
        | some j => some (.nx (env.set i (.own a (.l (ds.set j d)))))
        | none => none)
      | _ => none)
    | _ => none
theorem ds_setIx {fk fv : DEnv → Option D} {i : Nat} {ek ev : Expr} {pos2 : Pos} (hv : PE X ev (dE X.K fv)) (hx : PE X (.Name x px) (tVar i)) (hk : PE X ek (dE X.K fk))
    (ha : ∀ v, assign (.Subscript (.Name x px) ek pos) X.env v = (do
      let ov ← holding [v] (eval (.Name x px) X.env)
      let iv ← holding [v, ov] (eval ek X.env)
      standAt pos
      holding [v, ov, iv] (setItem ov iv v)
      release [v, ov, iv] []) := by intro _; rfl)
    (hs : swapsWithSole [.Subscript (.Name x px) ek pos] ev pos2.line X.env = pure false := by rfl) (hw : swappedStores [.Subscript (.Name x px) ek pos] ev X.env = pure none := by rfl)
    (h1 : (assignEach [.Subscript (.Name x px) ek pos] X.env).map (·.2) = [assign (.Subscript (.Name x px) ek pos) X.env] := by rfl) :
    PS X (.Assign [.Subscript (.Name x px) ek pos] ev pos2) (dS X.K R (setS i fk fv)) := by
  refine PS.imp (ps_asg hv (pg_sub hx hk set_list ha) hs hw h1) ?_
  rintro D σ H ⟨H0, F0, F, env, o, r, hf, po⟩
  unfold setS at hf
  split at hf
  · cases hf
  · rename_i d hd
    split at hf
    · rename_i a ds he
      split at hf
      · rename_i k hkk
        split at hf
        · rename_i j hj
          cases hf
          obtain ⟨l, o1, h1, h2, h3, h4, h5, h6⟩ := r.own he
          cases h3 with
          | @l vs _ h3 =>
          refine ⟨H0, F0, F, env, d, r, hd, fun v H1 F1 g1 hv => ⟨_, h1, H0, F0, F1, env, _, r.grow g1, hkk, fun u H2 F2 g2 hu => ?_⟩⟩
          cases hu.inv_int
          have gg := g1.trans g2
          exact ⟨l, vs, k, j, rfl, rfl, gg.h _ _ h2, by rw [h3.len]; exact hj, po F2 σ _ ((r.grow gg).mut he h1 (.l ((h3.mono gg.f).set j (hv.mono g2.f))))⟩
        · cases hf
      · cases hf
    · cases hf
end
end DL

namespace DL
open PySem PySem.Spec PyProof.Rows L2 Evl

def cst (d : D) : DEnv → Option D := fun _ => some d
def cst0 {α : Type} (d : α) : DEnv → Option α := fun _ => some d
def retNS : DEnv → Option Out := fun env => some (.rt .non env)
section
variable {X : Cx} {R : RX} {e : Expr} {es : List Expr} {fe fa : DEnv → Option D} {fs : DEnv → Option (List D)} {tg : Expr} {p pos : Pos} {x : Str}
theorem de_globI2 {i : Int} (hg : Gl X x) (hm : ∃ t, X.mg x = some (.int i t)) (hd : (x == ("__debug__" : Str)) = false := by decide) : PE X (.Name x pos) (dE X.K (cst (.int i))) := by
  obtain ⟨t, hm⟩ := hm
  exact de_globI hg hm hd
/-! enumerate -/
def enumF (fs : DEnv → Option (List D)) : DEnv → Option (List D) := fun env => match fs env with
  | some [.lst xs] => some (enumD 0 xs)
  | _ => none
theorem di_enum {elts : List Expr} {kk : Nat} {tpos : Pos} (hg : Gl X "enumerate") (hm : X.mg "enumerate" = none) (ha : PA X [e] (dA X.K fs)) (hs : starEach [e] X.env = [(false, eval e X.env)] := by rfl) :
    PI X (.Tuple elts kk tpos) (.Call (.Name "enumerate" p) [e] [] pos) (dI X.K (enumF fs)) := by
  refine PI.imp (pi_enum hg hm ha hs) ?_
  rintro σ H Q ⟨H0, F0, F, env, ds, r, hf, q⟩
  unfold enumF at hf
  split at hf
  · rename_i xs hd
    cases hf
    refine ⟨H0, F0, F, env, _, r, hd, fun v H1 F1 g1 hv => ?_⟩
    obtain ⟨y, rfl, hy⟩ := hv.inv_one
    obtain ⟨a, vs, rfl, e, hr⟩ := hy.inv_lst
    have hS : SqL X.K F1 a vs := .inl (.inl e)
    refine ⟨a, vs, rfl, ex_l g1.fh hS, q _ _ _ g1 ⟨fun i F' H e1 e2 hi => ?_, fun i d F' H x H' e1 e2 hd hy => ?_, fun F' H e1 e2 => ?_⟩⟩
    · rw [enumD_len] at hi
      obtain ⟨z, hz, _⟩ := hr.get (List.getElem?_eq_getElem hi)
      exact ⟨vs, z, ex_l e2 (ex_l e1 hS), hz⟩
    · obtain ⟨z, h1, rfl⟩ := enumD_get xs 0 i d hd
      obtain ⟨T, w, rfl, hT, rfl, hw⟩ := hy
      have g2 := Grow.new (o := .tup [.int (i : Int), w]) e2 hT
      refine ⟨_, g2, .tup' upd_same ?_⟩
      have e3 : ((0 + i : Nat) : Int) = (i : Int) := by omega
      rw [e3]
      exact .two (.int _) ((hr.at_ i w z (hw vs (ex_l e2 (ex_l e1 hS))) h1).mono (e1.trans g2.f))
    · exact ⟨vs, ex_l e2 (ex_l e1 hS), by rw [enumD_len, hr.len]; exact Nat.le_refl _⟩
  · cases hf
/-! all, any, sum: of lists -/
def boolsOf : List D → Option (List Bool)
  | [] => some []
  | .bl b :: r => (match boolsOf r with
    | some l => some (b :: l)
    | none => none)
  | _ :: _ => none
theorem boolsOf_map : ∀ {ds : List D} {bs : List Bool}, boolsOf ds = some bs → ds = bs.map D.bl
  | [], _, h => by cases h; rfl
  | .bl i :: r, ns, h => by
    simp only [boolsOf] at h
    split at h
    · rename_i l hl
      cases h
      rw [boolsOf_map hl]; rfl
    · cases h
  | .non :: r, _, h => by simp [boolsOf] at h
  | .int _ :: r, _, h => by simp [boolsOf] at h
  | .str _ :: r, _, h => by simp [boolsOf] at h
  | .lst _ :: r, _, h => by simp [boolsOf] at h
  | .tup _ :: r, _, h => by simp [boolsOf] at h
  | .scr _ :: r, _, h => by simp [boolsOf] at h
  | .dct _ :: r, _, h => by simp [boolsOf] at h
  | .dcl _ :: r, _, h => by simp [boolsOf] at h
  | .err _ :: r, _, h => by simp [boolsOf] at h
theorem dt_bools_inv {K : PySem.W.Frag} {F : Hp} : ∀ {ns : List Bool} {vs : List V}, DtA K F vs (ns.map D.bl) → vs = ns.map V.bl
  | [], vs, h => h.inv_nil
  | n :: ns, vs, h => by
    obtain ⟨x, r, rfl, hx, hr⟩ := h.inv_cons
    cases hx.inv_bl
    rw [dt_bools_inv hr]; rfl
def allG : List D → Option D
  | [.lst xs] => (match boolsOf xs with
    | some bs => some (.bl (bs.all id))
    | none => none)
  | _ => none
theorem rc_all {K : PySem.W.Frag} : RCOk K (rAll K) allG := by
  intro F H xs as d Q e hx hg q
  unfold allG at hg
  split at hg
  · split at hg
    · rename_i ds bs hb
      cases hg
      obtain ⟨x, rfl, hd⟩ := hx.inv_one
      obtain ⟨p, vs, rfl, hp, hr⟩ := hd.inv_lst
      rw [boolsOf_map hb] at hr
      have := dt_bools_inv hr
      subst this
      exact ⟨p, bs, rfl, .inl (.inl (e _ _ hp)), q _ H F (.refl e) (.bl _)⟩
    · cases hg
  · cases hg
def sumG : List D → Option D
  | [.lst xs] => (match intsOf xs with
    | some bs => some (.int bs.sum)
    | none => none)
  | _ => none
theorem rc_sum {K : PySem.W.Frag} : RCOk K (rSum K) sumG := by
  intro F H xs as d Q e hx hg q
  unfold sumG at hg
  split at hg
  · split at hg
    · rename_i ds bs hb
      cases hg
      obtain ⟨x, rfl, hd⟩ := hx.inv_one
      obtain ⟨p, vs, rfl, hp, hr⟩ := hd.inv_lst
      rw [intsOf_map hb] at hr
      have := dt_ints_inv hr
      subst this
      exact ⟨p, bs, rfl, .inl (.inl (e _ _ hp)), q _ H F (.refl e) (.int _)⟩
    · cases hg
  · cases hg
def borX (i : Nat) (f : DEnv → Option Res) : DEnv → Option Res := fun env => match env[i]? with
  | some (.own _ c) => (match f (env.set i (.val (ocD c))) with
    | some (.ok d) => if flatD d then some (.ok d) else none
    | o => o)
  | _ => f env
theorem dx_bor {fx : DEnv → Option Res} (i : Nat) (h : PE X e (dX X.K R fx)) : PE X e (dX X.K R (borX i fx)) := by
  refine PE.imp h ?_
  rintro σ H Q ⟨H0, F0, F, env, d, r, hf, q⟩
  unfold borX at hf
  split at hf
  · rename_i a c he
    obtain ⟨l, u, hs, hl, hF, h00, hc, r'⟩ := r.freeze he
    cases hd : fx (env.set i (.val (ocD c))) with
    | none => rw [hd] at hf; cases hf
    | some d' =>
      rw [hd] at hf
      cases d' with
      | ok d' =>
        simp only at hf
        split at hf
        · rename_i hfl
          cases hf
          exact ⟨H0, F0, _, _, _, r', hd, fun v H' F' g hv => q v H' _ (bor_grow r.fh hF g) (hv.flat hfl)⟩
        · cases hf
      | ex c' =>
        cases hf
        exact ⟨H0, F0, _, _, _, r', hd, fun H' F' g => q H' _ (bor_grow r.fh hF g)⟩
  · exact ⟨H0, F0, F, env, d, r, hf, q⟩
/-! f-strings -/
def fmtG : D → Option D
  | .str y => if y.length ≤ 100000 then some (.str y) else none
  | .int i => if i.natAbs.log2 < 1920 then some (.str (toString i)) else none
  | _ => none
theorem de_fmt (he : PE X e (dE X.K fe)) : PE X (.FormattedValue e (-1) none pos) (dE X.K (op1 fmtG fe)) := by
  refine PE.imp (pe_fmt he) ?_
  rintro σ H Q ⟨H0, F0, F, env, d, r, hf, q⟩
  unfold op1 at hf
  cases ha : fe env with
  | none => rw [ha] at hf; cases hf
  | some da =>
    rw [ha] at hf
    refine ⟨H0, F0, F, env, da, r, ha, fun v H1 F1 g1 hv => ?_⟩
    cases da with
    | str y =>
      simp only [fmtG] at hf
      split at hf
      · rename_i hl
        cases hf
        exact .inl ⟨y, hv.inv_str, sz_of hl, q _ H1 F1 g1 (.str y)⟩
      · cases hf
    | int i =>
      simp only [fmtG] at hf
      split at hf
      · rename_i hl
        cases hf
        exact .inr ⟨i, hv.inv_int, hl, q _ H1 F1 g1 (.str _)⟩
      · cases hf
    | _ => simp [fmtG] at hf
def jsF : List (DEnv → Option D) → Str → DEnv → Option D
  | [], acc, _ => some (.str acc)
  | f :: fs, acc, env => match f env with
    | some (.str y) => if (acc ++ y).length ≤ 100000 then jsF fs (acc ++ y) env else none
    | _ => none
theorem run_js {K : PySem.W.Frag} {σ : L2.St} : ∀ (fs : List (DEnv → Option D)) (acc : Str) (H0 F0 F H : Hp) (env : DEnv) (d : D) (Q : Str → Hp → Prop), Rel K H0 F0 F env σ H → jsF fs acc env = some d →
    (∀ z H' F', d = .str z → Grow H F H' F' → Q z H') → tJs (fs.map (dE K)) acc σ H Q
  | [], acc, H0, F0, F, H, env, d, Q, r, hf, q => by
    cases hf
    exact q acc H F rfl (.refl r.fh)
  | f :: fs, acc, H0, F0, F, H, env, d, Q, r, hf, q => by
    simp only [jsF] at hf
    split at hf
    · rename_i y hy
      split at hf
      · rename_i hl
        refine ⟨H0, F0, F, env, _, r, hy, fun v H1 F1 g1 hv => ⟨y, hv.inv_str, sz_of hl, ?_⟩⟩
        exact run_js fs (acc ++ y) H0 F0 F1 H1 env d Q (r.grow g1) hf fun z H2 F2 e g2 => q z H2 F2 e (g1.trans g2)
      · cases hf
    · cases hf
theorem de_joined {v1 v2 : Expr} {rest : List Expr} {f1 f2 : DEnv → Option D} {fr : List (DEnv → Option D)} (h : PJ X (v1 :: v2 :: rest) ((f1 :: f2 :: fr).map (dE X.K))) : PE X (.JoinedStr (v1 :: v2 :: rest) pos) (dE X.K (jsF (f1 :: f2 :: fr) Str.empty)) := by
  refine PE.imp (pe_joined h) ?_
  rintro σ H Q ⟨H0, F0, F, env, d, r, hf, q⟩
  exact run_js _ _ H0 F0 F H env d _ r hf fun z H' F' e g => q _ H' F' g (by rw [e]; exact .str z)
theorem pj_cons {f : DEnv → Option D} {fr : List (DEnv → Option D)} (h : PE X e (dE X.K f)) (r : PJ X es (fr.map (dE X.K))) : PJ X (e :: es) ((f :: fr).map (dE X.K)) := .cons h r

/-! ### own errors -/
def errNames : List Str := ["TooMany", "BadWorker", "BadRank", "BadStart", "BadPlan", "NoWorker"]
/-- is an error of the class c one of h's -/
def subN (c h : Str) : Bool := decide (h = "HasteError") || decide (c = h)
/-- what the text says of the own classes of errors -/
structure ErrF (K : PySem.W.Frag) (C : Addr) : Prop where
  q : PySem.W.excIn K C [.type "ValueError", .type "Exception", .type "BaseException", .type "object"] "ValueError.__new__" = true
  k : PySem.W.keepIn K (.ref C) = true
  b : PySem.W.subIn K (.ref C) (.type "BaseException") = some true
  t : PySem.W.typeIn K (.ref C) = some (.type "type")
structure ErrS (es : List Str) (K : PySem.W.Frag) (mg : Str → Option Value) : Prop where
  cls : ∀ c ∈ es, ∃ C, mg c = some (.ref C) ∧ ErrF K C ∧ ExcC K C ∧ PySem.W.kitOne K (.ref C) (.type "ValueError") = some true
  top : ∃ C, mg "HasteError" = some (.ref C)
  pair : ∀ c ∈ es, ∀ h ∈ ("HasteError" : Str) :: es, ∀ C D, mg c = some (.ref C) → mg h = some (.ref D) → PySem.W.exmOne K (.ref C) (.ref D) = some (subN c h) ∧ PySem.W.kitOne K (.ref C) (.ref D) = some (subN c h)
theorem ErrS.at_ {K : PySem.W.Frag} {mg : Str → Option Value} {es : List Str} (S : ErrS es K mg) : ∀ h ∈ ("HasteError" : Str) :: es, ∃ C, mg h = some (.ref C) := fun h hh => by
  rcases List.mem_cons.mp hh with rfl | hh
  · exact S.top
  · obtain ⟨C, hC, _⟩ := S.cls h hh
    exact ⟨C, hC⟩
theorem ds_raiseA {c : Str} {W : WX} {pos2 : Pos} {es : List Str} (S : ErrS es X.K X.mg) (hm : c ∈ es) (hc : X.calm = true) (tk : Takes X W) (hg : Gl X c) (ha : PA X [e] (dA X.K fs)) (hl : AL fs 1) (hdb : (c == ("__debug__" : Str)) = false := by decide)
    (he : starEach [e] X.env = (false, eval e X.env) :: starEach [] X.env := by rfl) (hpl : (backTo pos (starEach [] X.env)).any (·.1) = false := by rfl) :
    PS X (.Raise (some (.Call (.Name c p) [e] [] pos)) none pos2) (dS X.K (RW X.mg W) (mkF c fs)) := by
  obtain ⟨C, gC, hF, _⟩ := S.cls c hm
  refine ds_raise hc tk (pmk_ownA PySem.F.excBase_ValueError hF.q gC hF.k (raises_own hF.b hF.t) hg ha hdb he hpl) gC fun σ H Q h => ?_
  obtain ⟨H0, F0, F, env, ds, r, hf, q⟩ := h
  exact ⟨H0, F0, F, env, ds, r, hf, fun vs H' F' g hv => ⟨by rw [hv.len, hl env ds hf]; decide, q vs H' F' g hv⟩⟩

/-! ### try -/
def noE (env : DEnv) : DEnv := env.map fun _ => Sl.no
theorem rel_noE {K : PySem.W.Frag} {H0 F0 F H : Hp} {env : DEnv} {σ σ' : L2.St} (r : Rel K H0 F0 F env σ H) (hl : σ'.length = σ.length) : Rel K H0 F0 F (noE env) σ' H :=
  r.weak (fun j s h hn => by
    unfold noE at h
    rw [List.getElem?_map] at h
    cases q : env[j]? with
    | none => rw [q] at h; cases h
    | some u => rw [q] at h; cases h; exact absurd rfl hn) (by simp [noE, r.len, hl])
/-- isinstance(n, T) in a suite, n the name of its error at a; b the answer -/
def isE (i : Nat) (a : Addr) (b : Bool) : DEnv → Option D := fun env => match env[i]? with
  | some (.exc a') => if a' = a then some (.bl b) else none
  | _ => none
theorem tyv_isE {a : Addr} {oe : Obj} {pn : List (Addr × Obj)} {C : Addr} {i : Nat} {n t : Str} {cv : Value} {tv : V} {b : Bool} {p1 p2 : Pos} (hE : ExcC X.K C) (hz : Zc (.ref C) none oe) (hf : ∃ vs, oe.data = .fields vs)
    (hg : Gl X "isinstance") (hm : X.mg "isinstance" = none) (hx : PE (X.suite a ((a, oe) :: pn)) (.Name n p1) (tVar i)) (ht : PE (X.suite a ((a, oe) :: pn)) (.Name t p2) (tC tv)) (hcv : ∀ u, RelV tv u → u = cv) (hk : PySem.W.kitOne X.K (.ref C) cv = some b)
    (hs : starEach [Expr.Name n p1, .Name t p2] (X.suite a ((a, oe) :: pn)).env = (false, eval (.Name n p1) (X.suite a ((a, oe) :: pn)).env) :: starEach [.Name t p2] (X.suite a ((a, oe) :: pn)).env := by rfl) (hs2 : starEach [Expr.Name t p2] (X.suite a ((a, oe) :: pn)).env = (false, eval (.Name t p2) (X.suite a ((a, oe) :: pn)).env) :: starEach [] (X.suite a ((a, oe) :: pn)).env := by rfl)
    (hpl : (backTo pos (starEach [.Name t p2] (X.suite a ((a, oe) :: pn)).env)).any (·.1) = false := by rfl) :
    PE (X.suite a ((a, oe) :: pn)) (.Call (.Name "isinstance" p) [.Name n p1, .Name t p2] [] pos) (dE X.K (isE i a b)) := by
  refine PE.imp (pe_callB (call_isE hE hz hf) hg hm (by decide +kernel) (pa_cons hx (pa_cons ht pa_nil hs2) hs) (by decide) (by decide) hs hpl) ?_
  rintro σ H Q ⟨H0, F0, F, env, d, r, hf', q⟩
  unfold isE at hf'
  split at hf'
  · rename_i a' he
    split at hf'
    · rename_i ha
      subst ha
      cases hf'
      exact ⟨_, r.excs i _ he, tv, cv, b, rfl, hcv, hk, q _ H F (.refl r.fh) (.bl b)⟩
    · cases hf'
  · cases hf'
theorem de_isEc {a : Addr} {oe : Obj} {pn : List (Addr × Obj)} {C : Addr} {c : Str} {i : Nat} {n t : Str} {p1 p2 : Pos} {es : List Str} (S : ErrS es X.K X.mg) (hc : c ∈ es) (gC : X.mg c = some (.ref C)) (hE : ExcC X.K C) (hz : Zc (.ref C) none oe) (hf : ∃ vs, oe.data = .fields vs) (ht : t ∈ ("HasteError" : Str) :: es)
    (hg : Gl X "isinstance") (hm : X.mg "isinstance" = none) (hx : PE (X.suite a ((a, oe) :: pn)) (.Name n p1) (tVar i)) (hgt : Gl X t) (hd : (t == ("__debug__" : Str)) = false := by decide)
    (hs : starEach [Expr.Name n p1, .Name t p2] (X.suite a ((a, oe) :: pn)).env = (false, eval (.Name n p1) (X.suite a ((a, oe) :: pn)).env) :: starEach [.Name t p2] (X.suite a ((a, oe) :: pn)).env := by rfl) (hs2 : starEach [Expr.Name t p2] (X.suite a ((a, oe) :: pn)).env = (false, eval (.Name t p2) (X.suite a ((a, oe) :: pn)).env) :: starEach [] (X.suite a ((a, oe) :: pn)).env := by rfl)
    (hpl : (backTo pos (starEach [.Name t p2] (X.suite a ((a, oe) :: pn)).env)).any (·.1) = false := by rfl) :
    PE (X.suite a ((a, oe) :: pn)) (.Call (.Name "isinstance" p) [.Name n p1, .Name t p2] [] pos) (dE X.K (isE i a (subN c t))) := by
  obtain ⟨D, gD⟩ := S.at_ t ht
  exact tyv_isE (tv := .ref D) hE hz hf hg hm hx (pe_glob hgt gD rfl hd) (fun u r => r) (S.pair c hc t ht C D gC gD).2 hs hs2 hpl
theorem de_isEv {a : Addr} {oe : Obj} {pn : List (Addr × Obj)} {C : Addr} {c : Str} {i : Nat} {n : Str} {p1 p2 : Pos} {es : List Str} (S : ErrS es X.K X.mg) (hc : c ∈ es) (gC : X.mg c = some (.ref C)) (hE : ExcC X.K C) (hz : Zc (.ref C) none oe) (hf : ∃ vs, oe.data = .fields vs)
    (hg : Gl X "isinstance") (hm : X.mg "isinstance" = none) (hx : PE (X.suite a ((a, oe) :: pn)) (.Name n p1) (tVar i)) (hgt : Gl X "ValueError") (hmv : X.mg "ValueError" = none)
    (hs : starEach [Expr.Name n p1, .Name "ValueError" p2] (X.suite a ((a, oe) :: pn)).env = (false, eval (.Name n p1) (X.suite a ((a, oe) :: pn)).env) :: starEach [.Name "ValueError" p2] (X.suite a ((a, oe) :: pn)).env := by rfl) (hs2 : starEach [Expr.Name "ValueError" p2] (X.suite a ((a, oe) :: pn)).env = (false, eval (.Name "ValueError" p2) (X.suite a ((a, oe) :: pn)).env) :: starEach [] (X.suite a ((a, oe) :: pn)).env := by rfl)
    (hpl : (backTo pos (starEach [.Name "ValueError" p2] (X.suite a ((a, oe) :: pn)).env)).any (·.1) = false := by rfl) :
    PE (X.suite a ((a, oe) :: pn)) (.Call (.Name "isinstance" p) [.Name n p1, .Name "ValueError" p2] [] pos) (dE X.K (isE i a true)) := by
  obtain ⟨C', gC', _, _, hk⟩ := S.cls c hc
  rw [gC] at gC'
  cases gC'
  exact tyv_isE (tv := .ty "ValueError") hE hz hf hg hm hx (pe_bltn hgt hmv (by decide +kernel) rfl) (fun u r => r) hk hs hs2 hpl
/-- try: B except h as n: a suite that hands back Sr(class) -/
def tryAs (es : List Str) (B : DEnv → Option Out) (h : Str) (Sr : Str → DEnv → Option D) : DEnv → Option Out := fun env => match B env with
  | some (.ex c e) => if es.contains c then (if subN c h then (match Sr c e with
    | some d => some (.rt d (noE e))
    | none => none) else some (.ex c e)) else none
  | o => o
theorem ds_try_as {h n : Str} {i : Nat} {body suite : List Stmt} {b₀ : Stmt} {np pos' : Pos} {Wout : WX} {B : DEnv → Option Out} {Sr : Str → DEnv → Option D} {es : List Str} (S : ErrS es X.K X.mg) (hh : h ∈ ("HasteError" : Str) :: es) (hst : X.stack = X.env :: X.outer) (hfr : X.env.frame = some X.env.locals) (hN : X.N.Nodup) (hi : X.N[i]? = some n)
    (hln : X.env.kindOf n = some .local) (hg : Gl X h) (tk : Takes X Wout) (hd : (h == ("__debug__" : Str)) = false)
    (hb : ∀ (W : WX) (pn : List (Addr × Obj)) (xe : Value → Shared → Prop), Takes (X.tr pn xe) W → PassesOwn (model X.prog X.w) X.A X.env xe → PSs (X.tr pn xe) body (dS X.K (RW X.mg W) B))
    (Sf : Addr → Str → DEnv → Option Out)
    (hsu : ∀ (a : Addr) (oe : Obj) (pn : List (Addr × Obj)) (c : Str) (C : Addr), c ∈ es → X.mg c = some (.ref C) → ExcC X.K C → Zc (.ref C) none oe → (∃ vs, oe.data = .fields vs) → PSs (X.suite a ((a, oe) :: pn)) (b₀ :: suite) (dS X.K (fun _ _ _ => False) (Sf a c)))
    (hres : ∀ a c e d, Sr c e = some d → ∃ e', Sf a c (e.set i (.exc a)) = some (.rt d e')) :
    PS X (.Try body [.ExceptHandler (some (.Name h np)) (some n) (b₀ :: suite) pos'] [] [] pos) (dS X.K (RW X.mg Wout) (tryAs es B h Sr)) := by
  obtain ⟨Ch, gh⟩ := S.at_ h hh
  refine PS.imp (ps_try_as (c := .ref Ch) (tb := fun W => dS X.K (RW X.mg W) B) (ts := fun a cls d D σ H => ∃ c C, c ∈ es ∧ X.mg c = some (.ref C) ∧ cls = .ref C ∧ d = none ∧ dS X.K (fun _ _ _ => False) (Sf a c) D σ H) (Wout := Wout) hst hfr hN hi hln ⟨hg, hd, .inl gh⟩ tk hb ?_) ?_
  · intro a oe cls d pn hz hf
    refine ⟨fun pins s σ H D I q => ?_⟩
    obtain ⟨c, C, hc, gC, rfl, rfl, q⟩ := q
    obtain ⟨C', gC', _, hE, _⟩ := S.cls c hc
    rw [gC] at gC'
    cases gC'
    exact (hsu a oe pn c C hc gC hE hz hf).run pins s σ H D I q
  · rintro D σ H ⟨H0, F0, F, env, o, r, hf, po⟩
    unfold tryAs at hf
    cases hB : B env with
    | none => rw [hB] at hf; cases hf
    | some ob =>
      rw [hB] at hf
      refine ⟨H0, F0, F, env, ob, r, hB, ?_⟩
      cases ob with
      | nx e => cases hf; exact po
      | bk e => cases hf; exact po
      | ct e => cases hf; exact po
      | rt d e => cases hf; exact po
      | ex c e =>
        intro F1 σ1 H1 r1
        simp only at hf
        split at hf
        · rename_i hc
          have hc' : c ∈ es := by simpa using hc
          obtain ⟨C, gC, _, _, _⟩ := S.cls c hc'
          have hx := (S.pair c hc' h hh C Ch gC gh).1
          refine ⟨C, gC, _, hx, fun hbt a ha => ?_, fun hbf => ?_⟩
          · rw [if_pos hbt] at hf
            split at hf
            · rename_i d hd
              cases hf
              obtain ⟨e', he'⟩ := hres a c e d hd
              refine ⟨c, C, hc', gC, rfl, rfl, H0, F0, F1, e.set i (.exc a), .rt d e', ?_, he', fun v F2 σ2 H2 r2 hv => ?_⟩
              · obtain ⟨A, h1, h2⟩ := r1.owns
                have ow : ∀ {j : Nat} {b : Option Addr} {d : OC}, (e.set i (.exc a))[j]? = some (.own b d) → j ≠ i ∧ e[j]? = some (.own b d) := fun {j b d} q => by
                  by_cases hj : j = i
                  · subst hj; have := (set_eq q).2; cases this
                  · exact ⟨hj, (set_ne hj).mp q⟩
                refine ⟨r1.g, fun j d q => ?_, ⟨A, fun j b d q => ?_, fun j k b b2 d d2 q1 q2 z => h2 j k b b2 d d2 (ow q1).2 (ow q2).2 z⟩, by simp [r1.len], fun j b q => ?_, r1.trs.stay (fun a' xs z => z) (fun j d' q => by
                    by_cases hj : j = i
                    · subst hj; have := (set_eq q).2; cases this
                    · exact ⟨(set_ne hj).mp q, List.getElem?_set_ne (Ne.symm hj)⟩) (fun j b c x q q2 => .inr ⟨j, b, c, (ow q).2, (set_ne (ow q).1).mp q2⟩) (fun p o h _ => .inl h) fun p _ h2 h3 => .inl ⟨h2, h3⟩⟩
                · by_cases hj : j = i
                  · subst hj; have := (set_eq q).2; cases this
                  · obtain ⟨v, k1, k2⟩ := r1.vals j d ((set_ne hj).mp q)
                    exact ⟨v, (set_ne hj).mpr k1, k2⟩
                · obtain ⟨hj, q'⟩ := ow q
                  obtain ⟨o, k1, k2⟩ := h1 j b d q'
                  exact ⟨o, (set_ne hj).mpr k1, k2⟩
                · by_cases hj : j = i
                  · subst hj
                    obtain ⟨hlt, q'⟩ := set_eq q
                    cases q'
                    exact List.getElem?_set_self (by rw [← r1.len]; exact hlt)
                  · exact (set_ne hj).mpr (r1.excs j b ((set_ne hj).mp q))
              · exact po v F2 (List.replicate e.length none) H2 (by
                  have hw := r2.weak (env' := noE e) (σ' := List.replicate e.length none) (fun j s h hn => by
                    unfold noE at h
                    rw [List.getElem?_map] at h
                    cases q : e[j]? with
                    | none => rw [q] at h; cases h
                    | some u => rw [q] at h; cases h; exact absurd rfl hn) (by simp [noE])
                  exact hw) hv
            · cases hf
          · rw [if_neg (by rw [hbf]; exact Bool.false_ne_true)] at hf
            cases hf
            obtain ⟨C', gC', hW⟩ := po F1 σ1 H1 r1
            rw [gC] at gC'
            cases gC'
            exact hW
        · cases hf
end
end DL

namespace DL
open PySem PySem.Spec PyProof.Rows L2 Evl
theorem eqG_ii (i j : Int) : eqG (.int i) (.int j) = some (.bl (decide (i = j))) := rfl
theorem eqG_ss (i j : Str) : eqG (.str i) (.str j) = some (.bl (decide (i = j))) := rfl
theorem eqG_bb (i j : Bool) : eqG (.bl i) (.bl j) = some (.bl (decide (i = j))) := rfl
theorem neG_ii (i j : Int) : neG (.int i) (.int j) = some (.bl !(decide (i = j))) := rfl
theorem neG_ss (i j : Str) : neG (.str i) (.str j) = some (.bl !(decide (i = j))) := rfl
theorem neG_bb (i j : Bool) : neG (.bl i) (.bl j) = some (.bl !(decide (i = j))) := rfl
/-- a list of ints may be compared -/
theorem lay_ints : ∀ ns : List Int, PyData.canLayAll0 (toPyL (ns.map D.int)) = true ∧ PyData.depthAll (toPyL (ns.map D.int)) = 0
  | [] => by constructor <;> simp [toPyL, PyData.canLayAll0, PyData.depthAll]
  | n :: ns => by
    obtain ⟨h1, h2⟩ := lay_ints ns
    constructor <;> simp [toPyL, toPy, PyData.canLayAll0, PyData.canLay0, PyData.depthAll, PyData.depth, h1, h2]
theorem eqOk_ints (ns : List Int) : eqOk (.lst (ns.map .int)) = true := by
  obtain ⟨h1, h2⟩ := lay_ints ns
  simp [eqOk, SeqAt.shaped, toPy, PyData.canLay0, PyData.depth, h1, h2]
theorem eqOk_nil : eqOk (.lst []) = true := eqOk_ints []
theorem eqv_nil (xs : List D) : PyData.eqv (toPy (.lst xs)) (toPy (.lst [])) = xs.isEmpty := by
  cases xs <;> simp [toPy, toPyL, PyData.eqv, PyData.eqvAll]
/-- xs == [], xs != []: ints -/
theorem eqG_nil (ns : List Int) : eqG (.lst (ns.map .int)) (.lst []) = some (.bl ns.isEmpty) := by
  simp only [eqG, eqOk_ints, eqOk_nil, eqv_nil]
  cases ns <;> rfl
theorem neG_nil (ns : List Int) : neG (.lst (ns.map .int)) (.lst []) = some (.bl !ns.isEmpty) := by
  unfold neG; rw [eqG_nil]
theorem intsOf_ints (ns : List Int) : intsOf (ns.map D.int) = some ns := by
  induction ns with
  | nil => rfl
  | cons n ns ih => simp [intsOf, ih]
theorem flat_ints (ns : List Int) : (ns.map D.int).all flatD = true := by
  rw [List.all_eq_true]; intro z hz; simp at hz; obtain ⟨w, _, rfl⟩ := hz; rfl
theorem inD_ints (k : Int) (ns : List Int) : inD (.int k) (ns.map D.int) = ns.contains k := by
  induction ns with
  | nil => rfl
  | cons n ns ih =>
    unfold inD at ih ⊢
    rw [List.map_cons, List.any_cons, ih, List.contains_cons]
    show ((n == k) || _) = ((k == n) || _)
    have e : (n == k) = (k == n) := by
      rw [Bool.eq_iff_iff, beq_iff_eq, beq_iff_eq]
      exact eq_comm
    rw [e]
theorem inG_ints (neg : Bool) (k : Int) (ns : List Int) : inG neg (.int k) (.lst (ns.map .int)) = some (.bl (if neg then !(ns.contains k) else ns.contains k)) := by
  simp [inG, flatD, flat_ints, inD_ints]
theorem st_wh : ¬ (("work" : Str) = "hold") := by decide +kernel
theorem st_wf : ¬ (("work" : Str) = "free") := by decide +kernel
theorem st_hw : ¬ (("hold" : Str) = "work") := by decide +kernel
theorem st_hf : ¬ (("hold" : Str) = "free") := by decide +kernel
theorem st_fw : ¬ (("free" : Str) = "work") := by decide +kernel
theorem st_fh : ¬ (("free" : Str) = "hold") := by decide +kernel
section
variable {gf : D → DEnv → Option DEnv} {B : DEnv → Option Out} {d x : D} {ds : List D} {env e1 e2 : DEnv} {c : Str}
theorem forL_nx (h1 : gf d env = some e1) (h2 : B e1 = some (.nx e2)) : forL gf B (d :: ds) env = forL gf B ds e2 := by simp [forL, h1, h2]
theorem forL_ct (h1 : gf d env = some e1) (h2 : B e1 = some (.ct e2)) : forL gf B (d :: ds) env = forL gf B ds e2 := by simp [forL, h1, h2]
theorem forL_bk (h1 : gf d env = some e1) (h2 : B e1 = some (.bk e2)) : forL gf B (d :: ds) env = some (.nx e2) := by simp [forL, h1, h2]
theorem forL_rt (h1 : gf d env = some e1) (h2 : B e1 = some (.rt x e2)) : forL gf B (d :: ds) env = some (.rt x e2) := by simp [forL, h1, h2]
theorem forL_ex (h1 : gf d env = some e1) (h2 : B e1 = some (.ex c e2)) : forL gf B (d :: ds) env = some (.ex c e2) := by simp [forL, h1, h2]
variable {T : DEnv → Option Bool} {n : Nat}
theorem whL_no (h : T env = some false) : whL T B (n + 1) env = some (.nx env) := by simp [whL, h]
theorem whL_nx (h : T env = some true) (h2 : B env = some (.nx e2)) : whL T B (n + 1) env = whL T B n e2 := by simp [whL, h, h2]
variable {E : DEnv → Option D} {w : DEnv} {y : D} {ys : List D}
theorem lcL_yes (h1 : gf d w = some e1) (h2 : T e1 = some true) (h3 : E e1 = some y) (h4 : lcL gf T E w ds = some ys) : lcL gf T E w (d :: ds) = some (y :: ys) := by simp [lcL, h1, h2, h3, h4]
theorem lcL_no (h1 : gf d w = some e1) (h2 : T e1 = some false) (h4 : lcL gf T E w ds = some ys) : lcL gf T E w (d :: ds) = some ys := by simp [lcL, h1, h2, h4]
end
/-- a comprehension's items, by their places -/
theorem lcL_map {gf : D → DEnv → Option DEnv} {T : DEnv → Option Bool} {E : DEnv → Option D} {w : DEnv} {α : Type} (f : α → D) (g : α → D) (p : α → Bool) : ∀ (l : List α), (∀ a ∈ l, ∃ e, gf (f a) w = some e ∧ T e = some (p a) ∧ (p a = true → E e = some (g a))) →
    lcL gf T E w (l.map f) = some ((l.filter p).map g)
  | [], _ => rfl
  | a :: l, h => by
    obtain ⟨e, h1, h2, h3⟩ := h a (by simp)
    have ih := lcL_map f g p l fun b hb => h b (by simp [hb])
    cases hp : p a with
    | true =>
      rw [List.map_cons, lcL_yes h1 (by rw [h2, hp]) (h3 hp) ih, List.filter_cons_of_pos hp, List.map_cons]
    | false =>
      rw [List.map_cons, lcL_no h1 (by rw [h2, hp]) ih, List.filter_cons_of_neg (by simp [hp])]
theorem lcL_all {gf : D → DEnv → Option DEnv} {E : DEnv → Option D} {w : DEnv} {α : Type} (f : α → D) (g : α → D) (l : List α) (h : ∀ a ∈ l, ∃ e, gf (f a) w = some e ∧ E e = some (g a)) : lcL gf (cst0 true) E w (l.map f) = some (l.map g) := by
  have := lcL_map (T := cst0 true) (E := E) (w := w) (gf := gf) f g (fun _ => true) l fun a ha => by
    obtain ⟨e, h1, h2⟩ := h a ha
    exact ⟨e, h1, rfl, fun _ => h2⟩
  rw [this, List.filter_eq_self.mpr fun _ _ => rfl]
theorem cut_take (xs : List D) (i : Nat) (h : i ≤ xs.length) : DL.cutD xs none (some (i : Int)) = xs.take i := by
  unfold DL.cutD
  rw [show HT.sIx xs.length xs.length (some (i : Int)) = min i xs.length from HT.sIx_nat xs.length xs.length i, HT.sIx_none, Nat.min_eq_left h]
  simp
end DL

namespace DL
open PySem PySem.Spec PyProof.Rows L2 Evl
/-! ### places of a sequence -/
theorem ixN_nat (n i : Nat) : ixN n (i : Int) = if i < n then some i else none := by
  unfold ixN
  rw [if_pos (Int.natCast_nonneg i)]
  by_cases h : i < n
  · rw [if_pos (by omega), if_pos h]; rfl
  · rw [if_neg (by omega), if_neg h]
theorem atI_nat {α : Type} (xs : List α) (i : Nat) : atI xs (i : Int) = xs[i]? := by
  unfold atI
  rw [ixN_nat]
  by_cases h : i < xs.length
  · rw [if_pos h]; rfl
  · rw [if_neg h, List.getElem?_eq_none (by omega)]; rfl
theorem atI_nat0 {α : Type} (xs : List α) {i : Int} (h : 0 ≤ i) : atI xs i = xs[i.toNat]? := by
  have := atI_nat xs i.toNat
  rwa [Int.toNat_of_nonneg h] at this
theorem atI_0 {α : Type} (x : α) (xs : List α) : atI (x :: xs) 0 = some x := atI_nat _ 0
theorem atI_1 {α : Type} (x y : α) (xs : List α) : atI (x :: y :: xs) 1 = some y := atI_nat _ 1
theorem atI_2 {α : Type} (x y z : α) (xs : List α) : atI (x :: y :: z :: xs) 2 = some z := atI_nat _ 2
theorem atI_3 {α : Type} (x y z w : α) (xs : List α) : atI (x :: y :: z :: w :: xs) 3 = some w := atI_nat _ 3
/-! ### numbers -/
theorem add_ii {i j : Int} : addG (.int i) (.int j) = some (.int (i + j)) := rfl
theorem sub_ii {i j : Int} : subG (.int i) (.int j) = some (.int (i - j)) := rfl
theorem mod_ii {i j : Int} (h : 0 < j) : modG (.int i) (.int j) = some (.int (i % j)) := by simp [modG, iiG, h]
theorem div_ii {i j : Int} (h : 0 < j) (h2 : j < 1073741824) : divG (.int i) (.int j) = some (.int (i / j)) := by simp [divG, iiG, h, h2]
theorem mul_l {i j : Int} (h : -(2 ^ 64) < i) (h2 : i < 2 ^ 64) : mulG (.int i) (.int j) = some (.int (i * j)) := by simp only [mulG, if_pos (Or.inl (And.intro h h2))]
theorem mul_r {i j : Int} (h : -(2 ^ 64) < j) (h2 : j < 2 ^ 64) : mulG (.int i) (.int j) = some (.int (i * j)) := by simp only [mulG, if_pos (Or.inr (And.intro h h2))]
theorem add_ll {xs ys : List D} (h : xs.length + ys.length ≤ 100000) : addG (.lst xs) (.lst ys) = some (.lst (xs ++ ys)) := by simp only [addG, if_pos h]
theorem mul_li {xs : List D} {k : Int} (h : -100000 ≤ k ∧ k ≤ 100000 ∧ xs.length * k.toNat ≤ 100000) : mulG (.lst xs) (.int k) = some (.lst (List.replicate k.toNat xs).flatten) := by simp only [mulG, if_pos h]
theorem lt_ii {i j : Int} : ltG (.int i) (.int j) = some (.bl (decide (i < j))) := rfl
theorem le_ii {i j : Int} : leG (.int i) (.int j) = some (.bl (decide (i ≤ j))) := rfl
theorem gt_ii {i j : Int} : gtG (.int i) (.int j) = some (.bl (decide (i > j))) := rfl
theorem ge_ii {i j : Int} : geG (.int i) (.int j) = some (.bl (decide (i ≥ j))) := rfl
/-! ### lists of truths -/
theorem lay_bools : ∀ ns : List Bool, PyData.canLayAll0 (toPyL (ns.map D.bl)) = true ∧ PyData.depthAll (toPyL (ns.map D.bl)) = 0
  | [] => by constructor <;> simp [toPyL, PyData.canLayAll0, PyData.depthAll]
  | n :: ns => by
    obtain ⟨h1, h2⟩ := lay_bools ns
    constructor <;> simp [toPyL, toPy, PyData.canLayAll0, PyData.canLay0, PyData.depthAll, PyData.depth, h1, h2]
theorem eqOk_bools (ns : List Bool) : eqOk (.lst (ns.map .bl)) = true := by
  obtain ⟨h1, h2⟩ := lay_bools ns
  simp [eqOk, SeqAt.shaped, toPy, PyData.canLay0, PyData.depth, h1, h2]
theorem eqv_bools : ∀ as bs : List Bool, PyData.eqvAll (toPyL (as.map .bl)) (toPyL (bs.map .bl)) = decide (as = bs)
  | [], [] => rfl
  | [], _ :: _ => rfl
  | _ :: _, [] => rfl
  | a :: as, b :: bs => by
    have ih := eqv_bools as bs
    simp only [List.map_cons, toPyL, toPy, PyData.eqvAll, PyData.eqv, ih, List.cons.injEq, Bool.decide_and]
    cases a <;> cases b <;> simp
theorem eqG_bools (as bs : List Bool) : eqG (.lst (as.map .bl)) (.lst (bs.map .bl)) = some (.bl (decide (as = bs))) := by
  simp only [eqG, eqOk_bools, Bool.and_self, if_true, toPy, PyData.eqv, eqv_bools]
/-! ### the last place -/
theorem atI_l2 {α : Type} (xs : List α) (y : α) : atI (xs ++ [y]) (-1) = some y := by
  unfold atI ixN
  rw [if_neg (by decide), if_pos (by simp; omega)]
  simp only [Option.bind_some, List.length_append, List.length_cons, List.length_nil]
  rw [show ((-1 : Int) + ((xs.length + (0 + 1) : Nat) : Int)).toNat = xs.length from by omega]
  simp
theorem atI_l1 {α : Type} (y : α) : atI [y] (-1) = some y := atI_l2 [] y
theorem atI_l3 {α : Type} (x : α) (xs : List α) (y : α) : atI (x :: (xs ++ [y])) (-1) = some y := atI_l2 (x :: xs) y
theorem seqIndex_nat {i : Int} {n : Nat} (h : 0 ≤ i) (h2 : i < n) : seqIndex? i n = some i.toNat := by
  unfold seqIndex?
  simp only [if_neg (show ¬ i < 0 by omega)]
  simp [h, h2]
/-! ### what is shown in a text -/
theorem js_two {A : Str} {N : Int} (env : DEnv) (h1 : (Str.empty ++ A).length ≤ 100000) (h2 : N.natAbs.log2 < 1920) (h3 : (Str.empty ++ A ++ toString N).length ≤ 100000) : jsF [cst (.str A), op1 fmtG (cst (.int N))] Str.empty env = some (.str (Str.empty ++ A ++ toString N)) := by
  simp only [jsF, cst, op1, fmtG, if_pos h1, if_pos h2, if_pos h3]
theorem js_three {A B : Str} {N : Int} (env : DEnv) (h1 : (Str.empty ++ A).length ≤ 100000) (h2 : N.natAbs.log2 < 1920) (h3 : (Str.empty ++ A ++ toString N).length ≤ 100000) (h4 : (Str.empty ++ A ++ toString N ++ B).length ≤ 100000) : jsF [cst (.str A), op1 fmtG (cst (.int N)), cst (.str B)] Str.empty env = some (.str (Str.empty ++ A ++ toString N ++ B)) := by
  simp only [jsF, cst, op1, fmtG, if_pos h1, if_pos h2, if_pos h3, if_pos h4]
end DL

namespace DL
open PySem PySem.Spec PyProof.Rows L2 Evl
theorem fun_ofD {K : PySem.W.Frag} {x qual : Str} {st : Stmt} {f : Addr} {fd : FuncData} (h : FunD K x qual (defArgs st) (defBody st) (defScope st) [] [] f fd) : Fun K x qual st f fd := by
  obtain ⟨⟨oc, od, dV, kV, doc, pm, an, cdv, ct, osl, h1, h2, h3, h4, h5⟩, kp⟩ := h
  rcases h4 with ⟨_, rfl⟩ | ⟨h4, _⟩
  · exact ⟨⟨oc, od, kV, doc, pm, an, cdv, ct, osl, h1, h2, h3⟩, kp⟩
  · exact absurd rfl h4
theorem fun_at {fa : List He.Fa} {fn : List He.DefD} {K : PySem.W.Frag} (c : He.SaysD fa fn K) (i : Nat) {x qual : Str} {st : Stmt} (h : fn[i]? = some ⟨(x, none), x, qual, defArgs st, defBody st, defScope st, [], []⟩) : ∃ fd, Fun K x qual st (He.ga K x) fd := by
  obtain ⟨fd, F⟩ := c.def_ i h
  exact ⟨fd, fun_ofD F⟩
/-! ### the own errors -/
def excCB (K : PySem.W.Frag) (D : Addr) : Bool := (He.eqO (PySem.W.findIn K (.ref D) "__getattribute__") (some (some (.builtin "BaseException.__getattribute__"))) && He.eqO (PySem.W.findIn K (.ref D) "__getattr__") (some none)) && ((decide (PySem.W.subIn K (.ref D) (.type "BaseException") = some true) && PySem.W.hasDictIn K D) && ((He.eqO (PySem.W.findIn K (.ref D) "__class__") (some (some (.builtin "object.__class__"))) && He.eqO (PySem.W.specialIn K (.builtin "object.__class__") "__get__") (some (some (.builtin "getset_descriptor.__get__")))) && (decide (PySem.W.takesIn K (.builtin "object.__class__") = some true) && decide (PySem.W.mroIn K D (.type "object") = some true))))
theorem excCB_ok {K : PySem.W.Frag} {D : Addr} (h : excCB K D = true) : ExcC K D := by
  unfold excCB at h
  simp only [Bool.and_eq_true, decide_eq_true_eq] at h
  obtain ⟨⟨h1, h2⟩, ⟨h3, h4⟩, ⟨h5, h6⟩, h7, h8⟩ := h
  exact ⟨He.eqO_ok h1, He.eqO_ok h2, h3, h4, He.eqO_ok h5, He.eqO_ok h6, h7, h8⟩
def errMore (es : List Str) (K : PySem.W.Frag) : Bool := (es.all fun c => excCB K (He.ga K c) && decide (PySem.W.kitOne K (.ref (He.ga K c)) (.type "ValueError") = some true)) && es.all fun c => (("HasteError" : Str) :: es).all fun h => decide (PySem.W.exmOne K (.ref (He.ga K c)) (.ref (He.ga K h)) = some (subN c h)) && decide (PySem.W.kitOne K (.ref (He.ga K c)) (.ref (He.ga K h)) = some (subN c h))
theorem errS_of {es : List Str} {K : PySem.W.Frag} {mg : Str → Option Value} (c : errMore es K = true) (hg : ∀ c ∈ ("HasteError" : Str) :: es, mg c = some (.ref (He.ga K c))) (he : ∀ c ∈ es, (He.Fa.exc c).ok K = true) : ErrS es K mg := by
  unfold errMore at c
  rw [Bool.and_eq_true, List.all_eq_true, List.all_eq_true] at c
  obtain ⟨c1, c2⟩ := c
  refine ⟨fun e he' => ?_, ⟨_, hg _ List.mem_cons_self⟩, fun e he' h hh C D hC hD => ?_⟩
  · have h1 := c1 e he'
    rw [Bool.and_eq_true, decide_eq_true_eq] at h1
    have h2 := he e he'
    simp only [He.Fa.ok, Bool.and_eq_true, decide_eq_true_eq] at h2
    exact ⟨_, hg e (List.mem_cons_of_mem _ he'), ⟨h2.1, h2.2.1, h2.2.2.1, h2.2.2.2⟩, excCB_ok h1.1, h1.2⟩
  · have h1 := List.all_eq_true.mp (c2 e he') h hh
    rw [Bool.and_eq_true, decide_eq_true_eq, decide_eq_true_eq] at h1
    rw [hg e (List.mem_cons_of_mem _ he')] at hC
    rw [hg h hh] at hD
    cases hC
    cases hD
    exact h1
/-! ### the top -/
def CXa (P : Program) : CXT := fun o H s E u s' => ∃ w, L2.CX P w o H s E u s'
theorem fnok_any {P : Program} {w : World} {K : PySem.W.Frag} {mg : Str → Option Value} {base : Heap} {k : Nat} {f : Addr} {fd : FuncData} {ps : List Str} {sp : Sp} (h : FnOk P w K mg base (L2.CX P w) k f fd ps sp) : FnOk P w K mg base (CXa P) k f fd ps sp :=
  ⟨h.len, fun A outer s H args us vs Q E hr e0 hb hv hs => codeAny_mono (h.run A outer s H args us vs Q E hr e0 hb hv hs) fun r s' hc => by
    cases r with
    | ok v => cases v <;> exact hc
    | error e => exact ⟨w, hc⟩⟩
theorem noXa {P : Program} {H : Hp} {s s' : Shared} {e : Value} (h : CXa P [] H s (fun _ _ _ => False) e s') : False := by
  obtain ⟨w, h⟩ := h
  obtain ⟨_, _, _, _, _, _, _, _, _, _, _, _, z⟩ := h
  exact z
theorem top_of {P : Program} {w : World} {K : PySem.W.Frag} {mg : Str → Option Value} {h : Heap} {k n : Nat} {fa : Addr} {sf : List D → Option Res} {st : Stmt} {p : Str} (KX : K.In h) {fd : FuncData} (F : Fun K "law" "law" st fa fd)
    (hp : ∀ (s : Shared) (u : Value), BindsTo s fd ⟨[u], []⟩ [(p, u)])
    (hc : ∀ base : Heap, K.In base → base.Ns mainGlobals mg → FnOk P w K mg base (L2.CX P w) k fa fd [p] (spF K mg 1 sf))
    (hs : ∀ ns : List Int, ns.length ≤ n → sf [.scr ns] = some (.ok (.bl true))) :
    ∃ (K : PySem.W.Frag) (fd : FuncData) (sp : Sp), K.In h ∧ (∀ (s : Shared) (u : Value), BindsTo s fd ⟨[u], []⟩ [(p, u)]) ∧
        (∀ (H : Hp) (a : Addr) (ns : List Int), ns.length ≤ n → Only H → SqL K H a (ns.map V.int) → sp [.ref a] H (fun v _ => v = .bl true) fun _ _ _ => False) ∧
        ∀ base : Heap, K.In base → base.Ns mainGlobals mg → FnOk P w K mg base (CXa P) k fa fd [p] sp := by
  refine ⟨K, fd, spF K mg 1 sf, KX, hp, fun H a ns hl ho hq => ?_, fun base hK hN => fnok_any (hc base hK hN)⟩
  refine ⟨rfl, H, [.scr ns], _, fun _ _ e => e, ⟨rfl, fun i x d h1 h2 => ?_⟩, hs ns hl, fun v H' F' g hv => hv.inv_bl⟩
  cases i with
  | zero => cases h1; cases h2; exact .scr hq
  | succ i => cases h1
end DL

namespace DL
open PySem PySem.Spec PyProof.Rows L2 Evl
/-! ### x in range(..) -/
section
variable {X : Cx}
theorem cr_range1 : CallR X (.type "range") (fun vs H Q => ∃ j, vs = [V.int j] ∧ ∀ p, H p = none → Q (.ref p) (upd H p (.rng 0 j))) := by
  intro pins s σ H vs us Q I r h
  obtain ⟨j, rfl, q⟩ := h
  cases r with
  | cons rj rr =>
    cases rr
    obtain ⟨t, rfl⟩ := rj
    refine call_range_1 ⟨.ref s.heap.objs.size, upd H s.heap.objs.size (.rng 0 j), I.laid (t' := s.toks + 1 + 1) (fun b o e => Heap.get?_push_of_some _ e) (Nat.le_refl _) ?_, rfl, q _ (I.hok.fresh (Nat.le_refl _))⟩
    exact ⟨_, _, _, Heap.get?_push_size _ rfl⟩
/-- i not in a range -/
theorem op_nin_rng : OpR X (compareOp .NotIn) (fun x y H Q => ∃ i a lo hi, x = V.int i ∧ y = V.ref a ∧ H a = some (.rng lo hi) ∧ Q (.bl (!decide (lo ≤ i ∧ i < hi))) H) := by
  intro pins s σ H x y v u Q I rx ry h
  obtain ⟨i, a, lo, hi, rfl, rfl, ha, q⟩ := h
  obtain ⟨k, rfl⟩ := rx
  obtain rfl : u = Value.ref a := ry
  obtain ⟨t1, t2, t3, ho⟩ := I.hok a _ ha
  show wpAny _ _ (do return Value.bool (!(← contains (Value.ref a) (Value.int i k)))) _ _ s
  refine wpAny_bind (wpAny_contains_slot (T := "range") ⟨_, ho, rfl⟩ F.slot_range_contains (call_meets F.slot_range_contains ⟨_, ho, rfl⟩ F.entry_range_contains (F.args_range_contains_2 _ _) (q_contains a lo hi i t1 t2 t3 k) ⟨ho, wpAny_truthy_bool (wpAny_pure ⟨.bl _, H, I, rfl, ?_⟩)⟩))
  rw [place1]
  exact q
/-- the bounds of range(..) -/
def rngB : List D → Option (Int × Int)
  | [.int j] => some (0, j)
  | [.int i, .int j] => some (i, j)
  | _ => none
def inRg (neg : Bool) (fa : DEnv → Option D) (fs : DEnv → Option (List D)) : DEnv → Option D := fun env => match fa env with
  | some (.int k) => (match fs env with
    | some ds => (match rngB ds with
      | some (lo, hi) => some (.bl (if neg then !decide (lo ≤ k ∧ k < hi) else decide (lo ≤ k ∧ k < hi)))
      | none => none)
    | none => none)
  | _ => none
def RgIn (op : CmpOp) (neg : Bool) : Prop := ∀ X : Cx, OpR X (compareOp op) (fun x y H Q => ∃ i a lo hi, x = V.int i ∧ y = V.ref a ∧ H a = some (.rng lo hi) ∧ Q (.bl (if neg then !decide (lo ≤ i ∧ i < hi) else decide (lo ≤ i ∧ i < hi))) H)
theorem rgIn : RgIn .In false := fun X => op_in_rng
theorem rgNot : RgIn .NotIn true := fun X => op_nin_rng
variable {op : CmpOp} {neg : Bool} {a e e1 e2 : Expr} {fa : DEnv → Option D} {fs : DEnv → Option (List D)} {p pos pos2 : Pos}
theorem run_inRg {fa : DEnv → Option D} {fs : DEnv → Option (List D)} {K : PySem.W.Frag} {rc : List V → Hp → VK → Prop} (hrc : ∀ vs H Q lo hi, (vs = [V.int hi] ∧ lo = 0 ∨ vs = [V.int lo, V.int hi]) → (∀ p, H p = none → Q (.ref p) (upd H p (.rng lo hi))) → rc vs H Q)
    {σ : L2.St} {H : Hp} {Q : VK} (h : dE K (inRg neg fa fs) σ H Q) : tOp (fun x y H Q => ∃ i a lo hi, x = V.int i ∧ y = V.ref a ∧ H a = some (.rng lo hi) ∧ Q (.bl (if neg then !decide (lo ≤ i ∧ i < hi) else decide (lo ≤ i ∧ i < hi))) H) (dE K fa) (tCB rc (dA K fs)) σ H Q := by
  obtain ⟨H0, F0, F, env, d, rl, hf, q⟩ := h
  unfold inRg at hf
  split at hf
  · rename_i k ha
    split at hf
    · rename_i ds hds
      split at hf
      · rename_i lo hi hb
        cases hf
        refine ⟨H0, F0, F, env, _, rl, ha, fun v H1 F1 g1 hv => ?_⟩
        cases hv.inv_int
        refine ⟨H0, F0, F1, env, ds, rl.grow g1, hds, fun vs H2 F2 g2 hv2 => ?_⟩
        refine hrc vs H2 _ lo hi ?_ (fun p hp => ?_)
        · unfold rngB at hb
          split at hb
          · cases hb
            obtain ⟨x, rfl, hx⟩ := hv2.inv_one
            cases hx.inv_int
            exact .inl ⟨rfl, rfl⟩
          · cases hb
            obtain ⟨x, y, rfl, hx, hy⟩ := hv2.inv_two
            cases hx.inv_int
            cases hy.inv_int
            exact .inr rfl
          · cases hb
        · exact ⟨k, p, lo, hi, rfl, rfl, by simp [upd], q _ _ _ ((g1.trans g2).trans (Grow.newM g2.fh hp)) (.bl _)⟩
      · cases hf
    · cases hf
  · cases hf
theorem rc_rg1 (vs : List V) (H : Hp) (Q : VK) (lo hi : Int) (h : vs = [V.int hi] ∧ lo = 0) (q : ∀ p, H p = none → Q (.ref p) (upd H p (.rng lo hi))) : ∃ j, vs = [V.int j] ∧ ∀ p, H p = none → Q (.ref p) (upd H p (.rng 0 j)) := by
  obtain ⟨rfl, rfl⟩ := h
  exact ⟨hi, rfl, q⟩
theorem cr_range : CallR X (.type "range") (fun vs H Q => ∃ lo hi, (vs = [V.int hi] ∧ lo = 0 ∨ vs = [V.int lo, V.int hi]) ∧ ∀ p, H p = none → Q (.ref p) (upd H p (.rng lo hi))) := by
  intro pins s σ H vs us Q I r h
  obtain ⟨lo, hi, h1 | rfl, q⟩ := h
  · obtain ⟨rfl, rfl⟩ := h1
    exact cr_range1 pins s σ H _ us Q I r ⟨hi, rfl, q⟩
  · exact cr_range2 pins s σ H _ us Q I r ⟨lo, hi, rfl, q⟩
theorem de_inRg (ho : RgIn op neg) (hg : Gl X "range") (hm : X.mg "range" = none) (ha : PE X a (dE X.K fa)) (hb : PA X (e :: es) (dA X.K fs)) (he : starEach (e :: es) X.env = (false, eval e X.env) :: starEach es X.env := by rfl) (hpl : (backTo pos2 (starEach es X.env)).any (·.1) = false := by rfl) (hk : behindInMarks op (.Call (.Name "range" p) (e :: es) [] pos2) = false := by rfl) :
    PE X (.Compare a [op] [.Call (.Name "range" p) (e :: es) [] pos2] pos) (dE X.K (inRg neg fa fs)) :=
  PE.imp (pe_cmpR (ho X) ha (pe_callTy cr_range hg hm (by decide +kernel) hb (by decide) (by decide) he hpl) hk) fun _ _ _ h => run_inRg (fun vs H Q lo hi h1 h2 => ⟨lo, hi, h1, h2⟩) h
theorem dt_inRg (ho : RgIn op neg) (hg : Gl X "range") (hm : X.mg "range" = none) (ha : PE X a (dE X.K fa)) (hb : PA X (e :: es) (dA X.K fs)) (he : starEach (e :: es) X.env = (false, eval e X.env) :: starEach es X.env := by rfl) (hpl : (backTo pos2 (starEach es X.env)).any (·.1) = false := by rfl) (hk : behindInMarks op (.Call (.Name "range" p) (e :: es) [] pos2) = false := by rfl) :
    PT X (.Compare a [op] [.Call (.Name "range" p) (e :: es) [] pos2] pos) (dT X.K (tstB (inRg neg fa fs))) :=
  PT.imp (pt_cmpR (ho X) ha (pe_callTy cr_range hg hm (by decide +kernel) hb (by decide) (by decide) he hpl) hk) fun _ _ _ h => dT_test (fun _ _ _ z => run_inRg (fun vs H Q lo hi h1 h2 => ⟨lo, hi, h1, h2⟩) z) h
end
end DL

namespace DL
open PySem PySem.Spec PyProof.Rows L2 Evl
/-! ### a def whose last argument is the caller's own list, which it changes -/
def spO (K : PySem.W.Frag) (n : Nat) (sf : List D → List D → Option (D × List D)) : Sp := fun vs H Q _ => ∃ (us : List V) (p : Addr) (xs : List V) (ds dxs : List D) (F : Hp) (r : D × List D), vs = us ++ [.ref p] ∧ us.length + 1 = n ∧ Ex F H ∧ H p = some (.lst xs) ∧ F p = none ∧ DtA K F us ds ∧ DtA K F xs dxs ∧ sf ds dxs = some r ∧
  ∀ v H' F' ys, Grow (drop H p) F H' F' → H' p = some (.lst ys) → F' p = none → DtA K F' ys r.2 → Dt K F' v r.1 → Q v H'
def startO (ds dxs : List D) (p : Addr) (n : Nat) : DEnv := ds.map .val ++ .own (some p) (.l dxs) :: List.replicate (n - ds.length - 1) .no
def resP (i : Nat) (p : Addr) : Option Out → Option (D × List D)
  | some (.rt d e) => (match e[i]? with
    | some (.own (some q) (.l ys)) => if q = p then some (d, ys) else none
    | _ => none)
  | _ => none
theorem drop_same {H : Hp} {p : Addr} : drop H p p = none := by unfold drop; rw [if_pos rfl]
theorem drop_ne {H : Hp} {p a : Addr} (h : a ≠ p) : drop H p a = H a := by unfold drop; rw [if_neg h]
theorem rel_startO {K : PySem.W.Frag} {H F : Hp} {N : List Str} {us xs : List V} {ds dxs : List D} {p : Addr} (e : Ex F H) (hp : H p = some (.lst xs)) (hF : F p = none) (h : DtA K F us ds) (hx : DtA K F xs dxs) (hn : us.length < N.length) :
    Rel K (drop H p) F F (startO ds dxs p N.length) (L2.start N (us ++ [.ref p])) H := by
  have hl := h.len
  have get : ∀ (i : Nat) (s : Sl), (startO ds dxs p N.length)[i]? = some s → (∃ d, ds[i]? = some d ∧ s = .val d) ∨ (i = ds.length ∧ s = .own (some p) (.l dxs)) ∨ s = .no := fun i s hs => by
    unfold startO at hs
    by_cases hi : i < ds.length
    · rw [List.getElem?_append_left (by simpa using hi), List.getElem?_map, List.getElem?_eq_getElem hi] at hs
      cases hs
      exact .inl ⟨_, List.getElem?_eq_getElem hi, rfl⟩
    · rw [List.getElem?_append_right (by simpa using hi), List.length_map] at hs
      cases hd : i - ds.length with
      | zero =>
        rw [hd] at hs
        cases hs
        exact .inr (.inl ⟨by omega, rfl⟩)
      | succ m =>
        rw [hd, List.getElem?_cons_succ, List.getElem?_replicate] at hs
        split at hs
        · cases hs; exact .inr (.inr rfl)
        · cases hs
  have st : ∀ i v, (us ++ [V.ref p])[i]? = some v → (L2.start N (us ++ [.ref p]))[i]? = some (some v) := fun i v hv => by
    unfold L2.start
    have hi := (List.getElem?_eq_some_iff.mp hv).1
    rw [List.getElem?_append_left (by simpa using hi), List.getElem?_map, hv]
    rfl
  refine ⟨⟨fun a u ha => ?_, Ex.refl _, e, fun _ _ => rfl⟩, fun i d hd => ?_, ⟨fun _ => p, fun i a c hc => ?_, fun i j a b c d h1 h2 _ => ?_⟩, ?_, fun i a ha => ?_, ⟨fun _ => [], fun i d h => ?_, fun i j d e h => ?_, fun i j d b c x h => ?_⟩⟩
  · by_cases hap : a = p
    · subst hap; rw [drop_same] at ha; cases ha
    · rw [drop_ne hap] at ha; exact ha
  · rcases get i _ hd with ⟨d', h1, h2⟩ | ⟨_, z⟩ | z
    · cases h2
      obtain ⟨x, hx, hxd⟩ := h.get h1
      refine ⟨x, st i x ?_, hxd⟩
      rw [List.getElem?_append_left (List.getElem?_eq_some_iff.mp hx).1]
      exact hx
    · cases z
    · cases z
  · rcases get i _ hc with ⟨_, _, z⟩ | ⟨hi, z⟩ | z
    · cases z
    · cases z
      refine ⟨_, st i _ ?_, hp, .l hx, hF, drop_same, fun b hb => by cases hb; rfl⟩
      rw [hi, List.getElem?_append_right (by omega), hl, Nat.sub_self]
      rfl
    · cases z
  · rcases get i _ h1 with ⟨_, _, z⟩ | ⟨hi, _⟩ | z
    · cases z
    · rcases get j _ h2 with ⟨_, _, z⟩ | ⟨hj, _⟩ | z
      · cases z
      · rw [hi, hj]
      · cases z
    · cases z
  · simp [startO, L2.start, hl]; omega
  · rcases get i _ ha with ⟨_, _, z⟩ | ⟨_, z⟩ | z <;> cases z
  · rcases get i _ h with ⟨_, _, z⟩ | ⟨_, z⟩ | z <;> cases z
  · rcases get i _ h with ⟨_, _, z⟩ | ⟨_, z⟩ | z <;> cases z
  · rcases get i _ h with ⟨_, _, z⟩ | ⟨_, z⟩ | z <;> cases z
section
variable {P : Program} {w : World} {K : PySem.W.Frag} {mg : Str → Option Value} {base : Heap}
theorem fn_okO {x qual : Str} {st : Stmt} {f : Addr} {fd : FuncData} {N ps : List Str} {k n : Nat} {sf : List D → List D → Option (D × List D)} {B : DEnv → Option Out} (F : Fun K x qual st f fd) (S : FnScope N ps (defScope st)) (hn : ps.length = n) (hN : n ≤ N.length)
    (hbody : ∀ (cdv : Value) (A : Around) (outer : List Env) (s : Shared) (H : Hp) (E : XK), Room k (A.deeper (envOfC qual (defScope st) s.heap.objs.size f cdv)) →
      PSs (cxOf (L2.CX P w) P w K mg base N qual (defScope st) f cdv A outer s H E) (defBody st) (dS K (RW mg fun cls d _ H => E cls d H) B))
    (hB : ∀ (p : Addr) ds dxs r, ds.length + 1 = n → sf ds dxs = some r → resP ds.length p (B (startO ds dxs p N.length)) = some r) : FnOk P w K mg base (L2.CX P w) (k + 1) f fd ps (spO K n sf) := by
  refine F.okX S (fun vs H Q E h => ?_) (fun cdv A outer s H vs Q E hr h => ⟨dS K (RW mg fun cls d _ H => E cls d H) B, hbody cdv A outer s H E hr, ?_⟩)
  · obtain ⟨us, p, _, _, _, _, _, rfl, h1, _⟩ := h
    rw [hn]; simp [h1]
  obtain ⟨us, p, xs, ds, dxs, Fz, r, rfl, hl, e, hp, hF, hu, hx, hs, q⟩ := h
  have hb := hB p ds dxs r (by rw [← hu.len]; exact hl) hs
  cases ho : B (startO ds dxs p N.length) with
  | none => rw [ho] at hb; cases hb
  | some o =>
    rw [ho] at hb
    refine ⟨drop H p, Fz, Fz, _, o, rel_startO e hp hF hu hx (by omega), ho, ?_⟩
    cases o with
    | rt d env =>
      unfold resP at hb
      simp only at hb
      split at hb
      · rename_i q' ys he
        split at hb
        · rename_i hq
          subst hq
          cases hb
          intro v F' σ H' r' hd
          obtain ⟨l, o, h1, h2, h3, h4, h5, h6⟩ := r'.own he
          have hl' := h6 q' rfl
          subst hl'
          cases h3 with
          | @l vs _ h3 => exact q v H' F' vs r'.g h2 h4 h3 hd
        · cases hb
      · cases hb
    | _ => cases hb
end
section
variable {X : Cx} {R : RX} {e : Expr} {es : List Expr} {fe : DEnv → Option D} {fs : DEnv → Option (List D)} {fm : DEnv → Option (D × DEnv)} {x y : Str} {px p pos apos : Pos}
/-- arguments, the last one the own list of the slot j -/
def dAO (K : PySem.W.Frag) (j : Nat) (fs : DEnv → Option (List D)) : TA := fun σ H Q => ∃ H0 F0 F env ds s, Rel K H0 F0 F env σ H ∧ fs env = some ds ∧ env[j]? = some s ∧ (∃ a c, s = .own a c) ∧ ∀ us p H' F', Grow H F H' F' → DtA K F' us ds → σ[j]? = some (some (.ref p)) → Q (us ++ [.ref p]) H'
theorem dao_last {j : Nat} (hx : PE X (.Name x px) (tVar j)) (hs : starEach [Expr.Name x px] X.env = (false, eval (.Name x px) X.env) :: starEach [] X.env := by rfl) : PA X [.Name x px] (dAO X.K j (cst0 [])) := by
  refine PA.imp (pa_cons hx pa_nil hs) ?_
  rintro σ H Q ⟨H0, F0, F, env, ds, s, r, hf, he, ⟨a, c, rfl⟩, q⟩
  cases hf
  obtain ⟨l, o, h1, h2, h3, h4, h5, h6⟩ := r.own he
  exact ⟨_, h1, q [] l H F (.refl r.fh) .nil h1⟩
theorem dao_cons {j : Nat} (ha : PE X e (dE X.K fe)) (hr : PA X es (dAO X.K j fs)) (hs : starEach (e :: es) X.env = (false, eval e X.env) :: starEach es X.env := by rfl) : PA X (e :: es) (dAO X.K j (consA fe fs)) := by
  refine PA.imp (pa_cons ha hr hs) ?_
  rintro σ H Q ⟨H0, F0, F, env, d, s, rl, hf, he, ho, q⟩
  unfold consA at hf
  cases ha : fe env with
  | none => rw [ha] at hf; cases hf
  | some da =>
    rw [ha] at hf
    simp only at hf
    cases hb : fs env with
    | none => rw [hb] at hf; cases hf
    | some db =>
      rw [hb] at hf
      cases hf
      exact ⟨H0, F0, F, env, da, rl, ha, fun v H1 F1 g1 hv => ⟨H0, F0, F1, env, db, s, rl.grow g1, hb, he, ho, fun us p H2 F2 g2 hu hp => q (v :: us) p H2 F2 (g1.trans g2) (.cons (hv.mono g2.f) hu) hp⟩⟩
def callM (j : Nat) (sf : List D → List D → Option (D × List D)) (fs : DEnv → Option (List D)) : DEnv → Option (D × DEnv) := fun env => match env[j]? with
  | some (.own a (.l xs)) => (match fs env with
    | some ds => (match sf ds xs with
      | some r => some (r.1, env.set j (.own a (.l r.2)))
      | none => none)
    | none => none)
  | _ => none
/-- callable so -/
def ClO (P : Program) (w : World) (K : PySem.W.Frag) (mg : Str → Option Value) (base : Heap) (x : Str) (k n : Nat) (sf : List D → List D → Option (D × List D)) : Prop :=
  ∃ (f : Addr) (fd : FuncData) (ps : List Str), FnOk P w K mg base (L2.CX P w) k f fd ps (spO K n sf) ∧ mg x = some (.ref f) ∧ PySem.W.keepIn K (.ref f) = true ∧ L2.Binds K fd ps []
theorem dm_callO {j k k2 n : Nat} {sf : List D → List D → Option (D × List D)} (c : ClO X.prog X.w X.K X.mg X.base x k n sf) (hr : Room k2 X.A) (hk : k ≤ k2) (hg : Gl X x) (ha : PA X (e :: es) (dAO X.K j fs)) (hl : AL fs (n - 1)) (hn : 1 ≤ n) (hdb : (x == ("__debug__" : Str)) = false := by decide)
    (he : starEach (e :: es) X.env = (false, eval e X.env) :: starEach es X.env := by rfl) (hpl : (backTo pos (starEach es X.env)).any (·.1) = false := by rfl) : PE X (.Call (.Name x p) (e :: es) [] pos) (dM X.K (callM j sf fs)) := by
  obtain ⟨f, fd, ps, G, hm, hkp, hb⟩ := c
  refine PE.imp (pe_call (E := fun _ _ _ => False) G (hr.mono hk) hg hm hkp hb .nil passF ha hdb he hpl) ?_
  rintro σ H Q ⟨H0, F0, F, env, d, env', r, hf, q⟩
  unfold callM at hf
  split at hf
  · rename_i a xs hj
    split at hf
    · rename_i ds hds
      split at hf
      · rename_i rr hsf
        cases hf
        refine ⟨H0, F0, F, env, ds, _, r, hds, hj, ⟨_, _, rfl⟩, fun us p H1 F1 g1 hu hp => ?_⟩
        have r1 := r.grow g1
        obtain ⟨l, o, h1, h2, h3, h4, h5, h6⟩ := r1.own hj
        rw [hp] at h1
        cases h1
        cases h3 with
        | @l vx _ h3 =>
        have hlen := hl env ds hds
        refine ⟨us, p, vx, ds, xs, F1, rr, by simp, by rw [hu.len]; omega, r1.fh, h2, h4, hu, h3, hsf, fun v H' F' ys g hH hF hys hv => ?_⟩
        have g2 : Grow H1 F1 (upd H' p (.lst vx)) F' := by
          refine ⟨fun b u hb => ?_, g.f, fun b u hb => ?_, fun b hb => ?_⟩
          · by_cases hbp : b = p
            · subst hbp; rw [upd_same]; rw [h2] at hb; exact hb
            · rw [upd_ne hbp]; exact g.h b u (by rw [drop_ne hbp]; exact hb)
          · by_cases hbp : b = p
            · subst hbp; rw [hF] at hb; cases hb
            · rw [upd_ne hbp]; exact g.fh b u hb
          · by_cases hbp : b = p
            · subst hbp; rw [hF, h4]
            · exact g.fr b (by rw [drop_ne hbp]; exact hb)
        have r2 := (r1.grow g2).mut hj hp (.l hys)
        have eH : upd (upd H' p (.lst vx)) p (.lst ys) = H' := by
          funext b
          by_cases hbp : b = p
          · subst hbp; rw [upd_same, hH]
          · rw [upd_ne hbp, upd_ne hbp]
        rw [eH] at r2
        exact q v H' F' r2 (g1.f.trans g.f) hv
      · cases hf
    · cases hf
  · cases hf
/-- x = e, e a change -/
def putM (i : Nat) (fm : DEnv → Option (D × DEnv)) : DEnv → Option Out := fun env => match fm env with
  | some (d, env') => some (.nx (env'.set i (.val d)))
  | none => none
theorem ds_setM {i : Nat} {pos' : Pos} (hN : X.N.Nodup) (hi : X.N[i]? = some x) (hx : Loc X.env.scope x) (he : PE X e (dM X.K fm)) (hs : swapsWith e (some (.Name x pos')) pos.line X.env = pure false := by rfl) (hf : X.fn x = true ∨ X.env.scope.names.lookup x = some .local := by first | exact .inl rfl | exact .inr rfl | assumption) :
    PS X (.Assign [.Name x pos'] e pos) (dS X.K R (putM i fm)) := by
  refine PS.imp (ps_set hN hi hx he hs hf) ?_
  rintro D σ H ⟨H0, F0, F, env, o, r, hf, po⟩
  unfold putM at hf
  split at hf
  · rename_i d env' hd
    cases hf
    exact ⟨H0, F0, F, env, d, env', r, hd, fun v H' F' r' e' hv => po F' _ H' (r'.setVal hv)⟩
  · cases hf
/-- x.extend(e) -/
def extS (i : Nat) (fe : DEnv → Option D) : DEnv → Option Out := fun env => match env[i]? with
  | some (.own a (.l ds)) => (match fe env with
    | some (.lst zs) => if ds.length + zs.length ≤ 90000 then some (.nx (env.set i (.own a (.l (ds ++ zs))))) else none
    | _ => none)
  | _ => none
theorem ds_extend {i : Nat} {pos2 : Pos} (hx : PE X (.Name x px) (tVar i)) (hk : PE X e (dE X.K fe)) (hsw : swapsWith (.Call (.Attribute (.Name x px) "extend" apos) [e] [] pos) none pos2.line X.env = pure false := by rfl) (hbase : attributeBase (.Name x px) "extend" X.env (eval (.Name x px) X.env) = eval (.Name x px) X.env := by rfl)
    (hfew : ((backTo pos (starEach (e :: []) X.env)).all (fun x => !x.1) && (backToKw pos (keywordEach [] X.env)).all (fun x => x.1.isSome)
      && decide ((e :: []).length + ([] : List Keyword).length + (if ([] : List Keyword).isEmpty then 0 else 1) < 30)) = true := by rfl)
    (hline : (apos.endLine == pos.line) = true := by rfl) (hs : starEach (e :: []) X.env = (false, eval e X.env) :: starEach [] X.env := by rfl) (hplain : (backTo pos (starEach [] X.env)).any (·.1) = false := by rfl) :
    PS X (.Expr (.Call (.Attribute (.Name x px) "extend" apos) [e] [] pos) pos2) (dS X.K R (extS i fe)) := by
  refine PS.imp (ps_expr (pe_bm PySem.F.plainAttrs_list PySem.F.slot_list_extend PySem.F.type_list_extend mt_extend hx (pa_cons hk pa_nil hs) hbase hfew hline hs hplain) hsw) ?_
  rintro D σ H ⟨H0, F0, F, env, o, r, hf, po⟩
  unfold extS at hf
  split at hf
  · rename_i a ds he
    obtain ⟨l, o, h1, h2, h3, h4, h5, h6⟩ := r.own he
    cases h3 with
    | @l vs _ h3 =>
    split at hf
    · rename_i zs hz
      split at hf
      · rename_i hc
        cases hf
        refine ⟨_, h1, .inl ⟨rfl, vs, .inl (.inl h2)⟩, H0, F0, F, env, _, r, hz, fun v H' F' g hv => ?_⟩
        obtain ⟨b, vz, rfl, hb, hzs⟩ := hv.inv_lst
        refine ⟨l, b, vs, vz, rfl, rfl, g.h _ _ h2, g.fh _ _ hb, ?_, ?_⟩
        · rw [h3.len, hzs.len, sizeLine_eq]; omega
        · exact po F' σ _ ((r.grow g).mut he h1 (.l ((h3.mono g.f).append hzs)))
      · cases hf
    · cases hf
  · cases hf
end
end DL

namespace DL
open PySem PySem.Spec PyProof.Rows L2 Evl
/-! ### several except clauses without names -/
def hdl : List (Str × (DEnv → Option Out)) → Str → DEnv → Option Out
  | [], c, e => some (.ex c e)
  | (h, S) :: r, c, e => if subN c h then (match S e with
    | some (.ex _ _) => none
    | o => o) else hdl r c e
def tryM (es : List Str) (B : DEnv → Option Out) (l : List (Str × (DEnv → Option Out))) : DEnv → Option Out := fun env => match B env with
  | some (.ex c e) => if es.contains c then hdl l c e else none
  | o => o
inductive HdD (es : List Str) (X : Cx) : List ExceptHandler → List (Str × (DEnv → Option Out)) → Prop
  | nil : HdD es X [] []
  | cons {h : Str} {S : DEnv → Option Out} {b : Stmt} {suite : List Stmt} {np pos' : Pos} {hds : List ExceptHandler} {l : List (Str × (DEnv → Option Out))} (hh : h ∈ ("HasteError" : Str) :: es) (hg : Gl X h) (hd : (h == ("__debug__" : Str)) = false)
      (hsu : ∀ (a : Addr) (oe : Obj) (pn : List (Addr × Obj)), PSs (X.suite a ((a, oe) :: pn)) (b :: suite) (dS X.K (fun _ _ _ => False) S)) (r : HdD es X hds l) : HdD es X (.ExceptHandler (some (.Name h np)) none (b :: suite) pos' :: hds) ((h, S) :: l)
theorem Post.noex {K : PySem.W.Frag} {R R' : RX} {H0 F0 : Hp} {o : Out} {D : Ends} (p : Post K R H0 F0 o D) (h : ∀ c e, o ≠ .ex c e) : Post K R' H0 F0 o D := by
  cases o with
  | ex c e => exact absurd rfl (h c e)
  | _ => exact p
theorem hdd_ok {X : Cx} {es : List Str} (S : ErrS es X.K X.mg) {hds : List ExceptHandler} {l : List (Str × (DEnv → Option Out))} (h : HdD es X hds l) : ∃ l', HdsOk X hds l' ∧ ∀ (Wout : WX) (D : Ends) (c : Str) (C : Addr) (H0 F0 F1 H : Hp) (e : DEnv) (σ : L2.St) (o : Out), c ∈ es → X.mg c = some (.ref C) → Rel X.K H0 F0 F1 e σ H → hdl l c e = some o → Post X.K (RW X.mg Wout) H0 F0 o D → wMany X.K Wout D l' (.ref C) none σ H := by
  induction h with
  | nil =>
    refine ⟨[], .nil, fun Wout D c C H0 F0 F1 H e σ o hc gC r hf po => ?_⟩
    cases hf
    obtain ⟨C', gC', w⟩ := po F1 σ H r
    rw [gC] at gC'
    cases gC'
    exact w
  | @cons h Sf b suite np pos' hds l hh hg hd hsu r ih =>
    obtain ⟨l', k1, k2⟩ := ih
    obtain ⟨Ch, gh⟩ := S.at_ h hh
    refine ⟨(.ref Ch, fun a cls d => dS X.K (fun _ _ _ => False) Sf) :: l', .cons ⟨hg, hd, .inl gh⟩ (fun a oe cls d pn _ _ => hsu a oe pn) k1, fun Wout D c C H0 F0 F1 H e σ o hc gC r hf po => ?_⟩
    refine ⟨_, (S.pair c hc h hh C Ch gC gh).1, fun hb a ha => ?_, fun hb => ?_⟩
    · unfold hdl at hf
      rw [if_pos hb] at hf
      cases hS : Sf e with
      | none => rw [hS] at hf; cases hf
      | some o' =>
        rw [hS] at hf
        have ho : o' = o ∧ ∀ c e, o ≠ .ex c e := by
          cases o' with
          | ex c e => cases hf
          | _ => cases hf; exact ⟨rfl, fun c e z => by cases z⟩
        obtain ⟨rfl, hn⟩ := ho
        exact ⟨H0, F0, F1, e, o', r, hS, po.noex hn⟩
    · unfold hdl at hf
      rw [if_neg (by rw [hb]; simp)] at hf
      exact k2 Wout D c C H0 F0 F1 H e σ o hc gC r hf po
theorem ds_try_many {X : Cx} {h0 : ExceptHandler} {hds : List ExceptHandler} {l : List (Str × (DEnv → Option Out))} {body : List Stmt} {pos : Pos} {Wout : WX} {B : DEnv → Option Out} {es : List Str} (S : ErrS es X.K X.mg) (hst : X.stack = X.env :: X.outer) (hfr : X.env.frame = some X.env.locals) (tk : Takes X Wout)
    (hb : ∀ (W : WX) (pn : List (Addr × Obj)) (xe : Value → Shared → Prop), Takes (X.tr pn xe) W → PassesOwn (model X.prog X.w) X.A X.env xe → PSs (X.tr pn xe) body (dS X.K (RW X.mg W) B)) (hh : HdD es X (h0 :: hds) l) :
    PS X (.Try body (h0 :: hds) [] [] pos) (dS X.K (RW X.mg Wout) (tryM es B l)) := by
  obtain ⟨l', k1, k2⟩ := hdd_ok S hh
  refine PS.imp (ps_try_many (tb := fun W => dS X.K (RW X.mg W) B) hst hfr tk hb k1) ?_
  rintro D σ H ⟨H0, F0, F, env, o, r, hf, po⟩
  unfold tryM at hf
  cases hB : B env with
  | none => rw [hB] at hf; cases hf
  | some ob =>
    rw [hB] at hf
    refine ⟨H0, F0, F, env, ob, r, hB, ?_⟩
    cases ob with
    | nx e => cases hf; exact po
    | bk e => cases hf; exact po
    | ct e => cases hf; exact po
    | rt d e => cases hf; exact po
    | ex c e =>
      intro F1 σ1 H1 r1
      simp only at hf
      split at hf
      · rename_i hc
        have hc' : c ∈ es := by simpa using hc
        obtain ⟨C, gC, _⟩ := S.cls c hc'
        exact ⟨C, gC, k2 Wout D c C H0 F0 F1 H1 e σ1 o hc' gC r1 hf po⟩
      · cases hf
end DL
namespace DL
open PySem PySem.Spec PyProof.Rows L2 Evl
/-- a promise that asks for what never is -/
theorem fnok_no {P : Program} {w : World} {K : PySem.W.Frag} {mg : Str → Option Value} {base : Heap} {f : Addr} {fd : FuncData} {ps : List Str} {n : Nat} {sf : List D → Option Res} {k : Nat} (hb : L2.Binds K fd ps []) (h : ∀ ds, sf ds = none := by intro _; rfl) : FnOk P w K mg base (L2.CX P w) k f fd ps (spF K mg n sf) := by
  refine ⟨fun vs H Q E z => ?_, fun A outer s H args us vs Q E _ _ _ _ z => ?_⟩
  · obtain ⟨_, _, ds, _, _, _, hs, _⟩ := z
    rw [h ds] at hs
    cases hs
  · obtain ⟨_, _, ds, _, _, _, hs, _⟩ := z
    rw [h ds] at hs
    cases hs
end DL

namespace DL
open PySem PySem.Spec PyProof.Rows L2 Evl
/-! ### what a call tells is new where nothing handed in looks so -/
inductive NodeOf (F : Hp) : V → D → Addr → D → Prop
  | lst {a : Addr} {ds : List D} : NodeOf F (.ref a) (.lst ds) a (.lst ds)
  | tup {a : Addr} {ds : List D} : NodeOf F (.ref a) (.tup ds) a (.tup ds)
  | scr {a : Addr} {ns : List Int} : NodeOf F (.ref a) (.scr ns) a (.scr ns)
  | dct {a : Addr} {kvs : List (Int × Int)} : NodeOf F (.ref a) (.dct kvs) a (.dct kvs)
  | dcl {a : Addr} {kvs : List (Int × Int)} : NodeOf F (.ref a) (.dcl kvs) a (.dcl kvs)
  | err {a C : Addr} : NodeOf F (.ref a) (.err C) a (.err C)
  | inl {a b : Addr} {xs : List V} {ds : List D} {i : Nat} {x : V} {d e : D} : F a = some (.lst xs) → xs[i]? = some x → ds[i]? = some d → NodeOf F x d b e → NodeOf F (.ref a) (.lst ds) b e
  | int {a b : Addr} {xs : List V} {ds : List D} {i : Nat} {x : V} {d e : D} : F a = some (.tup xs) → xs[i]? = some x → ds[i]? = some d → NodeOf F x d b e → NodeOf F (.ref a) (.tup ds) b e
inductive SubD : D → D → Prop
  | refl {d : D} : SubD d d
  | lst {ds : List D} {d e : D} : d ∈ ds → SubD d e → SubD (.lst ds) e
  | tup {ds : List D} {d e : D} : d ∈ ds → SubD d e → SubD (.tup ds) e
def NodeA (F : Hp) (vs : List V) (ds : List D) (b : Addr) (e : D) : Prop := ∃ (i : Nat) (x : V) (d : D), vs[i]? = some x ∧ ds[i]? = some d ∧ NodeOf F x d b e
open Classical in
noncomputable def cutF (F : Hp) (vs : List V) (ds : List D) : Hp := fun b => if ∃ e, NodeA F vs ds b e then F b else none
theorem cutF_ex (F : Hp) (vs : List V) (ds : List D) : Ex (cutF F vs ds) F := fun a u h => by
  unfold cutF at h
  split at h
  · exact h
  · cases h
theorem dt_cut {K : PySem.W.Frag} {F G : Hp} {x : V} {d : D} (h : Dt K F x d) : (∀ b e, NodeOf F x d b e → G b = F b) → Dt K G x d := by
  induction h with
  | non => exact fun _ => .non
  | bl b => exact fun _ => .bl b
  | int i => exact fun _ => .int i
  | str z => exact fun _ => .str z
  | lst h1 h2 _ ih => exact fun g => .lst ((g _ _ .lst).trans h1) h2 fun i x d hx hd => ih i x d hx hd fun b e hn => g b e (.inl h1 hx hd hn)
  | tup h1 h2 _ ih => exact fun g => .tup ((g _ _ .tup).trans h1) h2 fun i x d hx hd => ih i x d hx hd fun b e hn => g b e (.int h1 hx hd hn)
  | @scr a ns h1 =>
    refine fun g => .scr ?_
    have e := g _ _ .scr
    unfold SqL Rd at h1 ⊢
    rw [e]
    exact h1
  | @dct a kvs h1 =>
    refine fun g => .dct ?_
    have e := g _ _ .dct
    unfold Rd at h1 ⊢
    rw [e]
    exact h1
  | dcl h1 => exact fun g => .dcl ((g _ _ .dcl).trans h1)
  | err h1 => exact fun g => .err (h1.imp ((g _ _ .err).trans ·) ((g _ _ .err).trans ·))
theorem dta_cut {K : PySem.W.Frag} {F : Hp} {vs : List V} {ds : List D} (h : DtA K F vs ds) : DtA K (cutF F vs ds) vs ds := ⟨h.len, fun i x d hx hd => dt_cut (h.at_ i x d hx hd) fun b e hn => by
  unfold cutF
  rw [if_pos ⟨e, i, x, d, hx, hd, hn⟩]⟩
theorem node_dt {K : PySem.W.Frag} {F : Hp} {x : V} {d : D} {b : Addr} {e : D} (n : NodeOf F x d b e) : Dt K F x d → Dt K F (.ref b) e ∧ SubD d e := by
  induction n with
  | lst => exact fun h => ⟨h, .refl⟩
  | tup => exact fun h => ⟨h, .refl⟩
  | scr => exact fun h => ⟨h, .refl⟩
  | dct => exact fun h => ⟨h, .refl⟩
  | dcl => exact fun h => ⟨h, .refl⟩
  | err => exact fun h => ⟨h, .refl⟩
  | inl h1 hx hd _ ih =>
    intro h
    obtain ⟨a', xs', e1, h2, h3⟩ := h.inv_lst
    cases e1
    rw [h1] at h2
    cases h2
    obtain ⟨k1, k2⟩ := ih (h3.at_ _ _ _ hx hd)
    exact ⟨k1, .lst (List.mem_of_getElem? hd) k2⟩
  | int h1 hx hd _ ih =>
    intro h
    obtain ⟨a', xs', e1, h2, h3⟩ := h.inv_tup
    cases e1
    rw [h1] at h2
    cases h2
    obtain ⟨k1, k2⟩ := ih (h3.at_ _ _ _ hx hd)
    exact ⟨k1, .tup (List.mem_of_getElem? hd) k2⟩
/-- no list of ints, no empty list, no dict among what is handed in -/
def isInt : D → Bool
  | .int _ => true
  | _ => false
def Plain1 : D → Prop
  | .lst (d :: _) => isInt d = false
  | .lst [] => False
  | .scr _ => False
  | .dct _ => False
  | .dcl _ => False
  | .err _ => False
  | _ => True
def NoInts (ds : List D) : Prop := ∀ d ∈ ds, ∀ e, SubD d e → Plain1 e
theorem call_new {K : PySem.W.Frag} {H F H' F' : Hp} {vs : List V} {ds : List D} {p : Addr} {o : HO} (hv : DtA K F vs ds) (no : NoInts ds) (g : Grow H (cutF F vs ds) H' F') (hp : F' p = some o) (ho : (∃ xs rs, o = .lst xs ∧ DtA K F' xs rs ∧ ∀ r ∈ rs, isInt r = true) ∨ ∃ kvs, o = .dK kvs) : H p = none := by
  refine Classical.byContradiction fun hn => ?_
  have h1 := g.fr p hn
  rw [hp] at h1
  have h1' := h1.symm
  unfold cutF at h1'
  split at h1'
  · rename_i hx
    obtain ⟨e, i, x, d, hx, hd, n⟩ := hx
    obtain ⟨k1, k2⟩ := node_dt n (hv.at_ i x d hx hd)
    have pl := no d (List.mem_of_getElem? hd) e k2
    cases k1 with
    | @lst _ xs es q1 q2 q3 =>
      rw [q1] at h1'
      rcases ho with ⟨ys, rs, rfl, hr, hi⟩ | ⟨kvs, rfl⟩
      · cases h1'
        cases es with
        | nil => exact pl
        | cons e0 es =>
          have hl : xs.length = rs.length := hr.len
          cases xs with
          | nil => simp at q2
          | cons x0 xs =>
            cases rs with
            | nil => simp at hl
            | cons r0 rs =>
              have w1 := hr.at_ 0 x0 r0 rfl rfl
              have w2 := q3 0 x0 e0 rfl rfl
              have hi0 := hi r0 (by simp)
              cases r0 with
              | int j =>
                cases w1.inv_int
                cases w2
                simp [Plain1, isInt] at pl
              | _ => simp [isInt] at hi0
      · cases h1'
    | @tup _ xs es q1 q2 q3 =>
      rw [q1] at h1'
      rcases ho with ⟨ys, rs, rfl, hr, hi⟩ | ⟨kvs, rfl⟩ <;> cases h1'
    | scr q1 => exact pl
    | dct q1 => exact pl
    | dcl q1 => exact pl
    | err q1 => exact pl
  · cases h1'
end DL
namespace DL
open PySem PySem.Spec PyProof.Rows L2 Evl
open Classical in
noncomputable def opCN (sf : List D → Option Res) (fs : DEnv → Option (List D)) : DEnv → Option OC := fun env => match fs env with
  | some ds => if NoInts ds then (match sf ds with
    | some (.ok (.lst rs)) => if rs.all isInt then some (.l rs) else none
    | _ => none) else none
  | none => none
theorem opCN_lst {sf : List D → Option Res} {fs : DEnv → Option (List D)} {env : DEnv} {ds rs : List D} (h : fs env = some ds) (no : NoInts ds) (hs : sf ds = some (.ok (.lst rs))) (hi : rs.all isInt = true) : opCN sf fs env = some (.l rs) := by
  unfold opCN
  simp only [h, if_pos no, hs, hi, if_true]
theorem inv_dctV {K : PySem.W.Frag} {F : Hp} {x : V} {kvs : List (Int × Int)} (h : Dt K F x (.dct kvs)) : ∃ a, x = .ref a ∧ Rd F a (.dK (kvs.map fun p => (Sum.inl p.1, V.int p.2))) := by
  cases h with
  | dct h => exact ⟨_, rfl, h⟩
theorem dta_ints {K : PySem.W.Frag} {F G : Hp} {xs : List V} {rs : List D} (h : DtA K F xs rs) (hi : rs.all isInt = true) : DtA K G xs rs := ⟨h.len, fun i x d hx hd => by
  have h1 := h.at_ i x d hx hd
  have h2 := List.all_eq_true.mp hi d (List.mem_of_getElem? hd)
  cases d with
  | int j => cases h1.inv_int; exact .int j
  | _ => simp [isInt] at h2⟩
section
variable {X : Cx} {R : RX} {e c : Expr} {es : List Expr} {fe : DEnv → Option D} {fs : DEnv → Option (List D)} {fc : DEnv → Option OC} {x : Str} {px p pos apos : Pos}
/-- f(..): a new list of ints, a new dict, of one's own -/
theorem dn_callC {j k n : Nat} {sf : List D → Option Res} (c : Cl X.prog X.w X.K X.mg X.base x k n sf) (hr : Room j X.A) (hk : k ≤ j) (hg : Gl X x) (ha : PA X (e :: es) (dA X.K fs)) (hl : AL fs n) (hdb : (x == ("__debug__" : Str)) = false := by decide)
    (he : starEach (e :: es) X.env = (false, eval e X.env) :: starEach es X.env := by rfl) (hpl : (backTo pos (starEach es X.env)).any (·.1) = false := by rfl) : PE X (.Call (.Name x p) (e :: es) [] pos) (dN X.K (opCN sf fs)) := by
  obtain ⟨f, fd, ps, G, hm, hkp, hb⟩ := c
  refine PE.imp (pe_call (E := fun _ _ _ => False) G (hr.mono hk) hg hm hkp hb .nil passF ha hdb he hpl) ?_
  rintro σ H Q ⟨H0, F0, F, env, c, r, hf, q⟩
  unfold opCN at hf
  split at hf
  · rename_i ds hds
    split at hf
    · rename_i no
      refine ⟨H0, F0, F, env, ds, r, hds, fun vs H1 F1 g1 hv => ?_⟩
      have fin : ∀ (p : Addr) (o : HO) (H' : Hp) (F' : Hp), Grow H1 (cutF F1 vs ds) H' F' → F' p = some o → H1 p = none → OcR X.K F1 o c → Q (.ref p) H' := fun p o H' F' g hp hn ho => by
        refine q p o H' F1 (g1.trans ⟨g.h, Ex.refl _, fun a u ha => g.h a u (g1.fh a u ha), fun _ _ => rfl⟩) (none_of_ex g1.h hn) (g.fh p o hp) (none_of_ex g1.fh hn) ho
      split at hf
      · rename_i rs hs
        split at hf
        · rename_i hi
          cases hf
          refine ⟨by simp [hv.len, hl env ds hds], cutF F1 vs ds, ds, _, (cutF_ex F1 vs ds).trans g1.fh, by simpa using dta_cut hv, hs, fun v H' F' g hd => ?_⟩
          obtain ⟨p, xs, rfl, hp, hx⟩ := hd.inv_lst
          exact fin p _ H' F' g hp (call_new hv no g hp (.inl ⟨xs, rs, rfl, hx, fun r hr => List.all_eq_true.mp hi r hr⟩)) (.l (dta_ints hx hi))
        · cases hf
      · cases hf
    · cases hf
  · cases hf
/-- f(..).append(e), f(..) new -/
def newApp (fc : DEnv → Option OC) (fe : DEnv → Option D) : DEnv → Option Out := fun env => match fc env with
  | some (.l ds) => (match fe env with
    | some _ => if ds.length ≤ 90000 then some (.nx env) else none
    | none => none)
  | _ => none
theorem ds_newApp {pos2 : Pos} (hx : PE X c (dN X.K fc)) (hk : PE X e (dE X.K fe)) (hsw : swapsWith (.Call (.Attribute c "append" apos) [e] [] pos) none pos2.line X.env = pure false := by rfl) (hbase : attributeBase c "append" X.env (eval c X.env) = eval c X.env := by rfl)
    (hfew : ((backTo pos (starEach (e :: []) X.env)).all (fun x => !x.1) && (backToKw pos (keywordEach [] X.env)).all (fun x => x.1.isSome)
      && decide ((e :: []).length + ([] : List Keyword).length + (if ([] : List Keyword).isEmpty then 0 else 1) < 30)) = true := by rfl)
    (hline : (apos.endLine == pos.line) = true := by rfl) (hs : starEach (e :: []) X.env = (false, eval e X.env) :: starEach [] X.env := by rfl) (hplain : (backTo pos (starEach [] X.env)).any (·.1) = false := by rfl) :
    PS X (.Expr (.Call (.Attribute c "append" apos) [e] [] pos) pos2) (dS X.K R (newApp fc fe)) := by
  refine PS.imp (ps_expr (pe_bm PySem.F.plainAttrs_list PySem.F.slot_list_append PySem.F.type_list_append mt_append hx (pa_cons hk pa_nil hs) hbase hfew hline hs hplain) hsw) ?_
  rintro D σ H ⟨H0, F0, F, env, o, r, hf, po⟩
  unfold newApp at hf
  split at hf
  · rename_i ds hc
    split at hf
    · rename_i d hd
      split at hf
      · rename_i hz
        cases hf
        refine ⟨H0, F0, F, env, _, r, hc, fun p o H1 F1 g1 hp ho hF hv => ?_⟩
        cases hv with
        | @l vs _ hv =>
        refine .inl ⟨rfl, vs, .inl (.inl ho)⟩ |> fun isl => ⟨isl, H0, F0, F1, env, d, r.grow g1, hd, fun v H2 F2 g2 hv2 => ?_⟩
        refine ⟨p, vs, v, rfl, rfl, g2.h _ _ ho, sz_lt (by rw [hv.len]; omega), ?_⟩
        have hF2 : F2 p = none := (g2.fr p (by rw [ho]; simp)).trans hF
        have g3 := g1.trans g2
        exact po F2 σ _ (r.grow ⟨Ex.mut g3.h hp, g3.f, Ex.mut g3.fh hF2, g3.fr⟩)
      · cases hf
    · cases hf
  · cases hf
end
end DL

namespace DL
open PySem PySem.Spec PyProof.Rows L2 Evl
/-! ### dicts of ints -/
abbrev embK (p : Int × Int) : Key × V := (Sum.inl p.1, V.int p.2)
def putD (kvs : List (Int × Int)) (k v : Int) : List (Int × Int) := if (kvs.any fun p => decide (p.1 = k)) = true then kvs.map (fun p => if p.1 = k then (p.1, v) else p) else kvs ++ [(k, v)]
def findD (kvs : List (Int × Int)) (k : Int) : Option Int := (kvs.find? fun p => decide (p.1 = k)).map (·.2)
theorem putD_emb (kvs : List (Int × Int)) (k v : Int) : (putD kvs k v).map embK = putK (kvs.map embK) (Sum.inl k) (V.int v) := by
  have e : ((kvs.map embK).any fun kv => decide (kv.1 = (Sum.inl k : Key))) = kvs.any fun p => decide (p.1 = k) := by
    rw [List.any_map]
    congr 1
    funext p
    simp [embK]
  unfold putD putK
  rw [e]
  split
  · rw [List.map_map, List.map_map]
    congr 1
    funext p
    simp only [Function.comp, embK]
    by_cases h : p.1 = k
    · simp [h]
    · simp [h]
  · simp [embK]
theorem findD_emb (kvs : List (Int × Int)) (k : Int) : valV (kvs.map embK) (Sum.inl k : Key) = (findD kvs k).map V.int := by
  induction kvs with
  | nil => rfl
  | cons p r ih =>
    unfold findD at ih ⊢
    by_cases h : p.1 = k
    · rw [List.map_cons, valV_pos (by simp [embK, h])]
      simp [List.find?_cons, h, embK]
    · rw [List.map_cons, valV_neg (by simp [embK, h]), ih]
      simp [List.find?_cons, h]
theorem inv_dctE {K : PySem.W.Frag} {F : Hp} {x : V} {kvs : List (Int × Int)} (h : Dt K F x (.dct kvs)) : ∃ a, x = .ref a ∧ Rd F a (.dK (kvs.map embK)) := inv_dctV h
theorem inv_dclE {K : PySem.W.Frag} {F : Hp} {x : V} {kvs : List (Int × Int)} (h : Dt K F x (.dcl kvs)) : ∃ a, x = .ref a ∧ Rd F a (.dK (kvs.map embK)) := by
  cases h with
  | dcl h => exact ⟨_, rfl, .inr ⟨_, h⟩⟩
theorem rd_mono {F H : Hp} {a : Addr} {u : HO} (h : Rd F a u) (e : Ex F H) : Rd H a u := h.imp (e _ _) fun ⟨o, q⟩ => ⟨o, e _ _ q⟩
theorem dget_rd {H : Hp} {a : Addr} {kvs : List (Int × Int)} {k : Int} (h : Rd H a (.dK (kvs.map embK))) : DGet H a (.int k) ((findD kvs k).map V.int) := by
  rw [← findD_emb]
  exact .inl ⟨_, Sum.inl k, h, rfl, rfl⟩
section
variable {X : Cx} {R : RX} {e o i : Expr} {fe fo fk fv : DEnv → Option D} {x : Str} {px p pos pos' apos cpos : Pos} {j : Nat}
theorem hu_room (hr : Room j X.A) : X.A.units + 1 < cLine := by have := hr.units; omega
/-- {} -/
def dicN : DEnv → Option OC := fun _ => some (.d [])
theorem dn_dict0 : PE X (.Dict [] [] pos) (dN X.K dicN) := by
  refine PE.imp pe_dnewK ?_
  rintro σ H Q ⟨H0, F0, F, env, c, r, hf, q⟩
  cases hf
  exact fun p hp => q p _ _ F (Grow.newM r.fh hp) hp upd_same (none_of_ex r.fh hp) (.d [])
/-- x[k] = v, x one's own dict -/
def dputS (s : Nat) (fk fv : DEnv → Option D) : DEnv → Option Out := fun env => match fv env with
  | some (.int v) => (match env[s]? with
    | some (.own a (.d kvs)) => (match fk env with
      | some (.int k) => if kvs.length ≤ 90000 then some (.nx (env.set s (.own a (.d (putD kvs k v))))) else none
      | _ => none)
    | _ => none)
  | _ => none
theorem ds_dput {s : Nat} (hr : Room j X.A) (hv : PE X e (dE X.K fv)) (hx : PE X (.Name x px) (tVar s)) (hk : PE X i (dE X.K fk)) (hs : swapsWith e (some (.Subscript (.Name x px) i pos')) pos.line X.env = pure false := by rfl) :
    PS X (.Assign [.Subscript (.Name x px) i pos'] e pos) (dS X.K R (dputS s fk fv)) := by
  refine PS.imp (ps_dput (hu_room hr) hx hk hv hs) ?_
  rintro D σ H ⟨H0, F0, F, env, o, r, hf, po⟩
  unfold dputS at hf
  split at hf
  · rename_i v hvv
    split at hf
    · rename_i a kvs he
      split at hf
      · rename_i k hkk
        split at hf
        · rename_i hz
          cases hf
          refine ⟨H0, F0, F, env, _, r, hvv, fun v1 H1 F1 g1 hv1 => ?_⟩
          cases hv1.inv_int
          have r1 := r.grow g1
          obtain ⟨l, o1, h1, h2, h3, h4, h5, h6⟩ := r1.own he
          refine ⟨_, h1, H0, F0, F1, env, _, r1, hkk, fun v2 H2 F2 g2 hv2 => ?_⟩
          cases hv2.inv_int
          have r2 := r1.grow g2
          cases h3 with
          | @d kvs =>
          refine ⟨l, _, rfl, DPut.k (k := Sum.inl k) (g2.h _ _ h2) (sz_lt (by simp; omega)), ?_⟩
          rw [show putK (kvs.map fun p => ((Sum.inl p.1 : Key), V.int p.2)) (Sum.inl k) (V.int v) = (putD kvs k v).map fun p => ((Sum.inl p.1 : Key), V.int p.2) from (putD_emb kvs k v).symm]
          exact po F2 σ _ (r2.mut he h1 (.d _))
        · cases hf
      · cases hf
    · cases hf
  · cases hf
/-- x[k] of a dict -/
def dgG : D → D → Option D
  | .dct kvs, .int k => (findD kvs k).map D.int
  | .dcl kvs, .int k => (findD kvs k).map D.int
  | _, _ => none
theorem run_dg {K : PySem.W.Frag} {σ : L2.St} {H : Hp} {Q : VK} {rr : Addr → V → Hp → VK → Prop} {g : D → D → Option D} (hg : ∀ (F H : Hp) (a : Addr) (kvs : List (Int × Int)) (k : Int) (d : D) (Q : VK), Ex F H → Rd F a (.dK (kvs.map embK)) → (g (.dct kvs) (.int k) = some d ∨ g (.dcl kvs) (.int k) = some d) → (∀ v H' F', Grow H F H' F' → Dt K F' v d → Q v H') → rr a (.int k) H Q)
    (hn : ∀ x y d, g x y = some d → ∃ kvs k, (x = .dct kvs ∨ x = .dcl kvs) ∧ y = .int k) (h : dE K (op2 g fo fk) σ H Q) : dE K fo σ H fun x H1 => dE K fk σ H1 fun y H2 => ∃ a, x = .ref a ∧ rr a y H2 Q := by
  obtain ⟨H0, F0, F, env, d, rl, hf, q⟩ := h
  unfold op2 at hf
  cases ha : fo env with
  | none => rw [ha] at hf; cases hf
  | some da =>
    rw [ha] at hf
    simp only at hf
    cases hb : fk env with
    | none => rw [hb] at hf; cases hf
    | some db =>
      rw [hb] at hf
      simp only at hf
      obtain ⟨kvs, k, hx, rfl⟩ := hn _ _ _ hf
      refine ⟨H0, F0, F, env, _, rl, ha, fun v H1 F1 g1 hv => ⟨H0, F0, F1, env, _, rl.grow g1, hb, fun u H2 F2 g2 hu => ?_⟩⟩
      cases hu.inv_int
      obtain ⟨a, rfl, he⟩ : ∃ a, v = .ref a ∧ Rd F2 a (.dK (kvs.map embK)) := by
        rcases hx with rfl | rfl
        · exact inv_dctE (hv.mono g2.f)
        · exact inv_dclE (hv.mono g2.f)
      refine ⟨a, rfl, hg F2 H2 a kvs k d Q g2.fh he ?_ fun z H3 F3 g3 hz => q z H3 F3 ((g1.trans g2).trans g3) hz⟩
      rcases hx with rfl | rfl
      · exact .inl hf
      · exact .inr hf
theorem de_dget (hr : Room j X.A) (ho : PE X o (dE X.K fo)) (hk : PE X i (dE X.K fk)) (hs : NoSl i := by intro _ _; rfl) : PE X (.Subscript o i pos) (dE X.K (op2 dgG fo fk)) := by
  refine PE.imp (pe_dget (hu_room hr) ho hk hs) fun σ H Q h => ?_
  have := run_dg (rr := fun a y H2 Q => ∃ v, DGet H2 a y (some v) ∧ Q v H2) (fun F H a kvs k d Q e ha hg q => ?_) (fun x y d hg => ?_) h
  · obtain ⟨H0, F0, F, env, d, rl, ha, q⟩ := this
    refine ⟨H0, F0, F, env, d, rl, ha, fun v H1 F1 g hv => ?_⟩
    obtain ⟨H0, F0, F, env, d, rl, ha, q⟩ := q v H1 F1 g hv
    refine ⟨H0, F0, F, env, d, rl, ha, fun v H1 F1 g hv => ?_⟩
    obtain ⟨a, rfl, w, h1, h2⟩ := q v H1 F1 g hv
    exact ⟨a, w, rfl, h1, h2⟩
  · have hg : (findD kvs k).map D.int = some d := by
      rcases hg with hg | hg <;> exact hg
    obtain ⟨w, hw, rfl⟩ := Option.map_eq_some_iff.mp hg
    refine ⟨.int w, ?_, q _ H F (.refl e) (.int w)⟩
    have := dget_rd (k := k) (rd_mono ha e)
    rw [hw] at this
    exact this
  · unfold dgG at hg
    split at hg
    · exact ⟨_, _, .inl rfl, rfl⟩
    · exact ⟨_, _, .inr rfl, rfl⟩
    · cases hg
/-- k in d, k not in d -/
def dinG (neg : Bool) : D → D → Option D
  | .int k, .dct kvs => some (.bl (if neg then !(findD kvs k).isSome else (findD kvs k).isSome))
  | _, _ => none
theorem run_din {K : PySem.W.Frag} {neg : Bool} {σ : L2.St} {H : Hp} {Q : VK} (h : dE K (op2 (dinG neg) fk fo) σ H Q) : dE K fk σ H fun y H1 => dE K fo σ H1 fun x H2 => ∃ a o, x = .ref a ∧ DGet H2 a y o ∧ Q (.bl (if neg then !o.isSome else o.isSome)) H2 := by
  obtain ⟨H0, F0, F, env, d, rl, hf, q⟩ := h
  unfold op2 at hf
  cases ha : fk env with
  | none => rw [ha] at hf; cases hf
  | some da =>
    rw [ha] at hf
    simp only at hf
    cases hb : fo env with
    | none => rw [hb] at hf; cases hf
    | some db =>
      rw [hb] at hf
      simp only at hf
      unfold dinG at hf
      split at hf
      · rename_i k kvs
        cases hf
        refine ⟨H0, F0, F, env, _, rl, ha, fun v H1 F1 g1 hv => ⟨H0, F0, F1, env, _, rl.grow g1, hb, fun u H2 F2 g2 hu => ?_⟩⟩
        cases hv.inv_int
        obtain ⟨a, rfl, he⟩ := inv_dctE hu
        have hd := dget_rd (k := k) (rd_mono he g2.fh)
        refine ⟨a, _, rfl, hd, ?_⟩
        rw [Option.isSome_map]
        exact q _ H2 F2 (g1.trans g2) (.bl _)
      · cases hf
theorem de_din (hr : Room j X.A) (hk : PE X i (dE X.K fk)) (ho : PE X o (dE X.K fo)) (hm : behindInMarks .In o = false) : PE X (.Compare i [.In] [o] pos) (dE X.K (op2 (dinG false) fk fo)) := PE.imp (pe_cmp (pc_din (hu_room hr) hk ho) hm) fun _ _ _ h => run_din h
theorem dt_din (hr : Room j X.A) (hk : PE X i (dE X.K fk)) (ho : PE X o (dE X.K fo)) (hm : behindInMarks .In o = false) : PT X (.Compare i [.In] [o] pos) (dT X.K (tstB (op2 (dinG false) fk fo))) := PT.imp (pt_cmp (pc_din (hu_room hr) hk ho) hm) fun _ _ _ h => dT_test (fun _ _ _ z => run_din z) h
theorem de_dnin (hr : Room j X.A) (hk : PE X i (dE X.K fk)) (ho : PE X o (dE X.K fo)) (hm : behindInMarks .NotIn o = false) : PE X (.Compare i [.NotIn] [o] pos) (dE X.K (op2 (dinG true) fk fo)) := PE.imp (pe_cmp (pc_dnotin (hu_room hr) hk ho) hm) fun _ _ _ h => run_din h
theorem dt_dnin (hr : Room j X.A) (hk : PE X i (dE X.K fk)) (ho : PE X o (dE X.K fo)) (hm : behindInMarks .NotIn o = false) : PT X (.Compare i [.NotIn] [o] pos) (dT X.K (tstB (op2 (dinG true) fk fo))) := PT.imp (pt_cmp (pc_dnotin (hu_room hr) hk ho) hm) fun _ _ _ h => dT_test (fun _ _ _ z => run_din z) h
/-- d.get(k) -/
def dg1G : D → D → Option D
  | .dct kvs, .int k => some (match findD kvs k with
    | some v => .int v
    | none => .non)
  | _, _ => none
theorem de_dget1 (hr : Room j X.A) (ho : PE X o (dE X.K fo)) (hk : PE X e (dE X.K fk)) (m : M1 X o "get" apos e cpos := by exact ⟨rfl, rfl, rfl, rfl⟩) : PE X (.Call (.Attribute o "get" apos) [e] [] cpos) (dE X.K (op2 dg1G fo fk)) := by
  refine PE.imp (pe_dget1 (hu_room hr) ho hk m) ?_
  rintro σ H Q ⟨H0, F0, F, env, d, rl, hf, q⟩
  unfold op2 at hf
  cases ha : fo env with
  | none => rw [ha] at hf; cases hf
  | some da =>
    rw [ha] at hf
    simp only at hf
    cases hb : fk env with
    | none => rw [hb] at hf; cases hf
    | some db =>
      rw [hb] at hf
      simp only at hf
      unfold dg1G at hf
      split at hf
      · rename_i kvs k
        cases hf
        refine ⟨H0, F0, F, env, _, rl, ha, fun v H1 F1 g1 hv => ?_⟩
        obtain ⟨a, rfl, he⟩ := inv_dctE hv
        refine ⟨a, rfl, ?_, H0, F0, F1, env, _, rl.grow g1, hb, fun u H2 F2 g2 hu => ?_⟩
        · exact .inl ⟨_, rd_mono he g1.fh⟩
        · cases hu.inv_int
          have hd := dget_rd (k := k) (rd_mono (rd_mono he g2.f) g2.fh)
          refine ⟨_, hd, ?_⟩
          cases hw : findD kvs k with
          | some v => exact q _ H2 F2 (g1.trans g2) (by simp only [hw]; exact .int v)
          | none => exact q _ H2 F2 (g1.trans g2) (by simp only [hw]; exact .non)
      · cases hf
end
end DL

namespace DL
open PySem PySem.Spec PyProof.Rows L2 Evl
/-! ### a dict that is walked -/
def flat2 (d : D) : Bool := flatD d || match d with
  | .tup xs => xs.all flatD
  | _ => false
def lockN (i : Nat) (fc : DEnv → Option OC) : DEnv → Option OC := fun env => match env[i]? with
  | some (.val (.dct kvs)) => (match fc (env.set i (.val (.dcl kvs))) with
    | some (.l ds) => if ds.all flat2 then some (.l ds) else none
    | _ => none)
  | _ => none
theorem dt_lockF {K : PySem.W.Frag} {F : Hp} {p : Addr} {o : Obj} {kvs : List (Key × V)} (hp : F p = some (.dK kvs)) {x : V} {d : D} (h : Dt K F x d) : Dt K (upd F p (.frz o (.dK kvs))) x d := by
  have ne : ∀ {a : Addr} {u : HO}, F a = some u → u ≠ .dK kvs → a ≠ p := fun {a u} ha hu z => by
    subst z
    rw [hp] at ha
    cases ha
    exact hu rfl
  induction h with
  | non => exact .non
  | bl b => exact .bl b
  | int i => exact .int i
  | str z => exact .str z
  | lst h1 h2 _ ih => exact .lst (by rw [upd_ne (ne h1 (by intro z; cases z))]; exact h1) h2 ih
  | tup h1 h2 _ ih => exact .tup (by rw [upd_ne (ne h1 (by intro z; cases z))]; exact h1) h2 ih
  | @scr a ns h1 =>
    refine .scr ?_
    rcases h1 with (h1 | ⟨o', h1⟩) | h1
    · exact .inl (.inl (by rw [upd_ne (ne h1 (by intro z; cases z))]; exact h1))
    · exact .inl (.inr ⟨o', by rw [upd_ne (ne h1 (by intro z; cases z))]; exact h1⟩)
    · exact .inr h1
  | @dct a kv h1 =>
    refine .dct ?_
    by_cases ha : a = p
    · subst ha
      rcases h1 with h1 | ⟨o', h1⟩
      · rw [hp] at h1
        cases h1
        exact .inr ⟨o, upd_same⟩
      · rw [hp] at h1; cases h1
    · rcases h1 with h1 | ⟨o', h1⟩
      · exact .inl (by rw [upd_ne ha]; exact h1)
      · exact .inr ⟨o', by rw [upd_ne ha]; exact h1⟩
  | dcl h1 => exact .dcl (by rw [upd_ne (ne h1 (by intro z; cases z))]; exact h1)
  | err h1 =>
    rcases h1 with h1 | h1
    · exact .err (.inl (by rw [upd_ne (ne h1 (by intro z; cases z))]; exact h1))
    · exact .err (.inr (by rw [upd_ne (ne h1 (by intro z; cases z))]; exact h1))
theorem ocr_lockF {K : PySem.W.Frag} {F : Hp} {p : Addr} {o : Obj} {kvs : List (Key × V)} (hp : F p = some (.dK kvs)) {u : HO} {c : OC} (h : OcR K F u c) : OcR K (upd F p (.frz o (.dK kvs))) u c := by
  cases h with
  | l r => exact .l ⟨r.len, fun i x d a b => dt_lockF hp (r.at_ i x d a b)⟩
  | d kvs => exact .d kvs
theorem flat2_unlock {K : PySem.W.Frag} {F : Hp} {p : Addr} {o : Obj} {u : HO} (hp : F p = some (.frz o u)) {x : V} {d : D} (h : Dt K F x d) (f : flat2 d = true) : Dt K (upd F p u) x d := by
  unfold flat2 at f
  cases hf : flatD d with
  | true => exact h.flat hf
  | false =>
    rw [hf, Bool.false_or] at f
    cases d with
    | tup xs =>
      obtain ⟨a, vs, rfl, ha, hv⟩ := h.inv_tup
      have hne : a ≠ p := fun z => by subst z; rw [hp] at ha; cases ha
      refine .tup (xs := vs) (by rw [upd_ne hne]; exact ha) hv.len fun i x d hx hd => ?_
      exact (hv.at_ i x d hx hd).flat (List.all_eq_true.mp f d (List.mem_of_getElem? hd))
    | _ => cases f
section
variable {X : Cx} {e : Expr} {fc : DEnv → Option OC}
theorem rel_dcl {K : PySem.W.Frag} {H0 F0 F H : Hp} {env : DEnv} {σ : L2.St} {i : Nat} {p : Addr} {o : Obj} {kvs : List (Int × Int)} (r : Rel K H0 F0 F env σ H) (he : ∃ d, env[i]? = some (.val d)) (hs : σ[i]? = some (some (.ref p))) (hp : F p = some (.frz o (.dK (kvs.map embK)))) : Rel K H0 F0 F (env.set i (.val (.dcl kvs))) σ H := by
  obtain ⟨A, h1, h2⟩ := r.owns
  have ow : ∀ {j : Nat} {a : Option Addr} {c : OC}, (env.set i (.val (.dcl kvs)))[j]? = some (.own a c) → env[j]? = some (.own a c) := fun {j a c} q => by
    by_cases hj : j = i
    · subst hj; have := (set_eq q).2; cases this
    · exact (set_ne hj).mp q
  refine ⟨r.g, fun j d q => ?_, ⟨A, fun j a c q => h1 j a c (ow q), fun j k a b c d q1 q2 z => h2 j k a b c d (ow q1) (ow q2) z⟩, by simp [r.len], fun j a q => ?_, r.trs.stay (fun a' xs z => z) (fun j d' q => by
    by_cases hj : j = i
    · subst hj; have := (set_eq q).2; cases this
    · exact ⟨(set_ne hj).mp q, rfl⟩) (fun j b c x q q2 => .inr ⟨j, b, c, ow q, q2⟩) (fun p o h _ => .inl h) fun p _ h2 h3 => .inl ⟨h2, h3⟩⟩
  · by_cases hj : j = i
    · subst hj
      have := (set_eq q).2
      cases this
      exact ⟨_, hs, .dcl hp⟩
    · exact r.vals j d ((set_ne hj).mp q)
  · by_cases hj : j = i
    · subst hj; have := (set_eq q).2; cases this
    · exact r.excs j a ((set_ne hj).mp q)
theorem dn_lock (i : Nat) (h : PE X e (dN X.K fc)) : PE X e (dN X.K (lockN i fc)) := by
  refine ⟨fun pins s σ H Q I hw => ?_⟩
  obtain ⟨H0, F0, F, env, c, r, hf, q⟩ := hw
  unfold lockN at hf
  split at hf
  · rename_i kvs he
    split at hf
    · rename_i ds hds
      split at hf
      · rename_i hfl
        cases hf
        obtain ⟨v, hs, hv⟩ := r.vals i _ he
        obtain ⟨p, rfl, hp⟩ := inv_dctE hv
        rcases hp with hp | ⟨o, hp⟩
        · -- locked here
          have hHp := r.fh p _ hp
          refine (pe_lock h).run pins s σ H Q I ⟨p, _, hHp, trivial, fun od => ?_⟩
          have exF : Ex (upd F p (.frz od (.dK (kvs.map embK)))) (upd H p (.frz od (.dK (kvs.map embK)))) := fun a u ha => by
            by_cases hap : a = p
            · subst hap; rw [upd_same] at ha ⊢; exact ha
            · rw [upd_ne hap] at ha ⊢; exact r.fh a u ha
          obtain ⟨A, h1, h2⟩ := r.owns
          have r1 : Rel X.K (upd F p (.frz od (.dK (kvs.map embK)))) (upd F p (.frz od (.dK (kvs.map embK)))) (upd F p (.frz od (.dK (kvs.map embK)))) env σ (upd H p (.frz od (.dK (kvs.map embK)))) := by
            refine ⟨⟨exF, Ex.refl _, exF, fun _ _ => rfl⟩, fun j d hd => ?_, ⟨A, fun j a c hc => ?_, h2⟩, r.len, r.excs, r.trs.stay (fun a' xs z => by
              rcases z with z | ⟨z1, z2⟩
              · exact .inl (by rw [upd_ne (fun e => by subst e; rw [hp] at z; cases z)]; exact z)
              · have hne : a' ≠ p := fun e => by subst e; rw [hHp] at z1; cases z1
                cases hF : F a' with
                | none => exact .inr ⟨by rw [upd_ne hne]; exact z1, by rw [upd_ne hne]; exact hF⟩
                | some u =>
                  have := r.fh a' u hF
                  rw [z1] at this
                  cases this
                  exact .inl (by rw [upd_ne hne]; exact hF)) (fun j d e => ⟨e, rfl⟩) (fun j b c x e q => .inr ⟨j, b, c, e, q⟩) (fun a u ha hn => .inl (by rw [upd_ne (fun z => by subst z; rw [hp] at hn; cases hn)]; exact ha)) fun a k1 k2 k3 => .inl (by rw [upd_ne (fun z => by subst z; rw [hp] at k2; cases k2)]; exact ⟨k2, k2⟩)⟩
            · obtain ⟨v, k1, k2⟩ := r.vals j d hd
              exact ⟨v, k1, dt_lockF hp k2⟩
            · obtain ⟨o, k1, k2, k3, k4, k5, k6⟩ := h1 j a c hc
              have hne : A j ≠ p := fun z => by rw [z, hp] at k4; cases k4
              exact ⟨o, k1, by rw [upd_ne hne]; exact k2, ocr_lockF hp k3, by rw [upd_ne hne]; exact k4, by rw [upd_ne hne]; exact k4, k6⟩
          have r2 := rel_dcl (kvs := kvs) r1 ⟨_, he⟩ hs upd_same
          refine ⟨_, _, _, _, _, r2, hds, fun b o H' F' g hb ho hF hc => ?_⟩
          have hH'p : H' p = some (.frz od (.dK (kvs.map embK))) := g.h p _ upd_same
          have hF'p : F' p = some (.frz od (.dK (kvs.map embK))) := g.f p _ upd_same
          have hbp : b ≠ p := fun z => by subst z; rw [upd_same] at hb; cases hb
          refine ⟨hH'p, q b o _ (upd F' p (.dK (kvs.map embK))) ⟨fun a u ha => ?_, fun a u ha => ?_, fun a u ha => ?_, fun a ha => ?_⟩ ?_ ?_ ?_ ?_⟩
          · by_cases hap : a = p
            · subst hap; rw [upd_same]; rw [hHp] at ha; exact ha
            · rw [upd_ne hap]; exact g.h a u (by rw [upd_ne hap]; exact ha)
          · by_cases hap : a = p
            · subst hap; rw [upd_same]; rw [hp] at ha; exact ha
            · rw [upd_ne hap]; exact g.f a u (by rw [upd_ne hap]; exact ha)
          · by_cases hap : a = p
            · subst hap; rw [upd_same] at ha ⊢; exact ha
            · rw [upd_ne hap] at ha ⊢; exact g.fh a u ha
          · by_cases hap : a = p
            · subst hap; rw [upd_same, hp]
            · rw [upd_ne hap]
              have := g.fr a (by rw [upd_ne hap]; exact ha)
              rw [upd_ne hap] at this
              exact this
          · rw [upd_ne hbp] at hb; exact hb
          · rw [upd_ne hbp]; exact ho
          · rw [upd_ne hbp]; exact hF
          · cases hc with
            | l hc => exact .l ⟨hc.len, fun j x d hx hd => flat2_unlock hF'p (hc.at_ j x d hx hd) (List.all_eq_true.mp hfl d (List.mem_of_getElem? hd))⟩
        · -- locked already
          exact h.run pins s σ H Q I ⟨H0, F0, F, _, _, rel_dcl (kvs := kvs) r ⟨_, he⟩ hs hp, hds, q⟩
      · cases hf
    · cases hf
  · cases hf
/-- the keys of a dict that is locked -/
def keysF (i : Nat) : DEnv → Option (List D) := fun env => match env[i]? with
  | some (.val (.dcl kvs)) => some (kvs.map fun p => D.int p.1)
  | _ => none
theorem di_keys {x : Str} {px : Pos} {tg : Expr} {i : Nat} (hx : PE X (.Name x px) (tVar i)) : PI X tg (.Name x px) (dI X.K (keysF i)) := by
  refine PI.imp (pi_keys hx) ?_
  rintro σ H Q ⟨H0, F0, F, env, ds, r, hf, q⟩
  unfold keysF at hf
  split at hf
  · rename_i kvs he
    cases hf
    obtain ⟨v, hs, hv⟩ := r.vals i _ he
    cases hv with
    | @dcl p o _ hp =>
    refine ⟨_, hs, p, o, rfl, .inl ⟨_, r.fh p _ hp, q _ H F (.refl r.fh) ⟨fun j F' H e1 e2 hj => ?_, fun j d F' H x H' e1 e2 hd hy => ?_, fun F' H e1 e2 => ?_⟩⟩⟩
    · exact ⟨e2 _ _ (e1 _ _ hp), by simpa using hj⟩
    · obtain ⟨rfl, k, v, hk, rfl⟩ := hy
      rw [List.getElem?_map] at hk hd
      cases hkv : kvs[j]? with
      | none => rw [hkv] at hk; cases hk
      | some kv =>
        rw [hkv] at hk hd
        cases hk
        cases hd
        exact ⟨F', .refl e2, .int _⟩
    · exact ⟨e2 _ _ (e1 _ _ hp), by simp⟩
  · cases hf
end
end DL

namespace DL
open PySem PySem.Spec PyProof.Rows L2 Evl
/-! ### len(set(xs)), xs ints of which none stands twice -/
def lenSet (fe : DEnv → Option D) : DEnv → Option D := fun env => match fe env with
  | some (.lst ds) => (match intsOf ds with
    | some ns => if ns.length < 64 ∧ ns.Nodup then some (.int ns.length) else none
    | none => none)
  | _ => none
section
variable {X : Cx} {a : Expr} {fe : DEnv → Option D} {p p2 q pos : Pos}
theorem de_lenSet (hc : X.calm = true) (hg : Gl X "len") (hm : X.mg "len" = none) (hg2 : Gl X "set") (hm2 : X.mg "set" = none) (ha : PE X a (dE X.K fe)) (hs : starEach [a] X.env = (false, eval a X.env) :: starEach [] X.env := by rfl) :
    PE X (.Call (.Name "len" p) [.Call (.Name "set" p2) [a] [] q] [] pos) (dE X.K (lenSet fe)) := by
  refine PE.imp (RZ.pe_lenSetI hg hm hg2 hm2 ha hc hs) ?_
  rintro σ H Q ⟨H0, F0, F, env, d, r, hf, k⟩
  unfold lenSet at hf
  split at hf
  · rename_i ds hds
    split at hf
    · rename_i ns hns
      split at hf
      · rename_i hn
        cases hf
        refine ⟨H0, F0, F, env, _, r, hds, fun v H1 F1 g1 hv => ?_⟩
        obtain ⟨l, vs, rfl, hl, hx⟩ := hv.inv_lst
        obtain rfl := intsOf_map hns
        obtain rfl := dt_ints_inv hx
        exact ⟨l, ns, rfl, .inl (.inl (g1.fh l _ hl)), hn.2, (by have := hn.1; omega), k _ H1 F1 g1 (.int _)⟩
      · cases hf
    · cases hf
  · cases hf
end
end DL

namespace DL
open PySem PySem.Spec PyProof.Rows L2 Evl
/-! ### x[k], x perhaps one's own list -/
def ixO (i : Nat) (fk : DEnv → Option D) : DEnv → Option D := fun env => match env[i]? with
  | some (.own _ (.l ds)) => (match fk env with
    | some (.int k) => atI ds k
    | _ => none)
  | some (.val d) => (match fk env with
    | some k => ixG d k
    | none => none)
  | _ => none
section
variable {X : Cx} {b : Expr} {fk : DEnv → Option D} {x : Str} {px pos : Pos}
theorem de_ixO {i : Nat} (hx : PE X (.Name x px) (tVar i)) (hb : PE X b (dE X.K fk)) (hs : PlainIx b := by exact fun _ _ => rfl) : PE X (.Subscript (.Name x px) b pos) (dE X.K (ixO i fk)) := by
  refine PE.imp (pe_ix ix_any hx hb hs) ?_
  rintro σ H Q ⟨H0, F0, F, env, d, r, hf, q⟩
  unfold ixO at hf
  split at hf
  · rename_i a ds he
    obtain ⟨l, o, h1, h2, h3, h4, h5, h6⟩ := r.own he
    cases h3 with
    | @l vs _ h3 =>
    split at hf
    · rename_i k hk
      refine ⟨_, h1, H0, F0, F, env, _, r, hk, fun v H' F' g hv => ?_⟩
      cases hv.inv_int
      obtain ⟨z, k1, k2⟩ := atI_dt (h3.mono g.f) hf
      exact .inl ⟨l, vs, k, z, rfl, rfl, .inl (.inl (g.h _ _ h2)), k1, q z H' F' g k2⟩
    · cases hf
  · rename_i d' he
    obtain ⟨v, h1, hv⟩ := r.vals i d' he
    split at hf
    · rename_i k hk
      refine ⟨_, h1, H0, F0, F, env, _, r, hk, fun u H' F' g hu => ?_⟩
      exact r2_ix F' H' v u d' k d Q g.fh (hv.mono g.f) hu hf fun z H3 F3 g3 hz => q z H3 F3 (g.trans g3) hz
    · cases hf
  · cases hf
end
end DL

namespace DL
open PySem PySem.Spec PyProof.Rows L2 Evl
/-! ### x += e, ints -/
def augS (i : Nat) (fe : DEnv → Option D) : DEnv → Option Out := fun env => match env[i]? with
  | some (.val (.int a)) => (match fe env with
    | some (.int b) => some (.nx (env.set i (.val (.int (a + b)))))
    | _ => none)
  | _ => none
section
variable {X : Cx} {R : RX} {e : Expr} {fe : DEnv → Option D} {x : Str} {px pos : Pos}
theorem ds_aug {i : Nat} {pos' : Pos} (hN : X.N.Nodup) (hi : X.N[i]? = some x) (hx : Loc X.env.scope x) (he : PE X e (dE X.K fe)) (hf : X.fn x = true ∨ X.env.scope.names.lookup x = some .local := by first | exact .inl rfl | exact .inr rfl | assumption) :
    PS X (.AugAssign (.Name x pos') .Add e pos) (dS X.K R (augS i fe)) := by
  refine PS.imp (ps_aug hN hi hx he ip_add hf) ?_
  rintro D σ H ⟨H0, F0, F, env, o, r, hf, p⟩
  unfold augS at hf
  split at hf
  · rename_i a ha
    split at hf
    · rename_i b hb
      cases hf
      obtain ⟨v, h1, hv⟩ := r.vals i _ ha
      cases hv.inv_int
      exact ⟨_, h1, H0, F0, F, env, _, r, hb, fun v H' F' g hv => by cases hv.inv_int; exact ⟨a, b, rfl, rfl, p F' _ H' ((r.grow g).setVal (.int _))⟩⟩
    · cases hf
  · cases hf
end
/-! ### max of a list of pairs of ints -/
def pairI (q : Int × Int) : D := .tup [.int q.1, .int q.2]
def pairsOf : List D → Option (List (Int × Int))
  | [] => some []
  | .tup [.int a, .int b] :: r => (match pairsOf r with
    | some ps => some ((a, b) :: ps)
    | none => none)
  | _ :: _ => none
theorem pairsOf_map : ∀ {ds : List D} {ps : List (Int × Int)}, pairsOf ds = some ps → ds = ps.map pairI
  | [], ps, h => by cases h; rfl
  | d :: ds, ps, h => by
    unfold pairsOf at h
    split at h
    · cases ‹_ :: _ = []›
    · rename_i a b r he
      cases he
      split at h
      · rename_i ps' hp
        cases h
        rw [List.map_cons, ← pairsOf_map hp]
        rfl
      · cases h
    · cases h
theorem pairsOf_pairs : ∀ ps : List (Int × Int), pairsOf (ps.map pairI) = some ps
  | [] => rfl
  | q :: ps => by simp [pairsOf, pairI, pairsOf_pairs ps]
/-- the first of the greatest -/
def ltII (p q : Int × Int) : Bool := if p.1 = q.1 then decide (p.2 < q.2) else decide (p.1 < q.1)
def maxII (p : Int × Int) (ps : List (Int × Int)) : Int × Int := ps.foldl (fun a y => if ltII a y = true then y else a) p
theorem maxP_eq (p : Int × Int) (ps : List (Int × Int)) : PySem.W.maxOf p ps = maxII p ps := rfl
theorem toPyL_pairs : ∀ ps : List (Int × Int), toPyL (ps.map pairI) = ps.map (PySem.W.Datum.toD : Int × Int → PyData)
  | [] => rfl
  | q :: ps => by
    rw [List.map_cons, List.map_cons, toPyL, toPyL_pairs ps]
    rfl
theorem lay_pairs : ∀ q : Int × Int, (toPy (pairI q)).canLay0 = true := fun q => by
  simp [pairI, toPy, toPyL, PyData.canLay0, PyData.canLayAll0]
def rMaxP (K : PySem.W.Frag) : List V → Hp → VK → Prop := fun vs H Q => ∃ (a : Addr) (xs : List V) (p : Int × Int) (ps : List (Int × Int)), vs = [.ref a] ∧ SqL K H a xs ∧ DpAll K H xs ((p :: ps).map (PySem.W.Datum.toD : Int × Int → PyData)) ∧
  ∀ (i : Nat) (x : V), xs[i]? = some x → (p :: ps)[i]? = some (maxII p ps) → Q x H
theorem cr_maxP {X : Cx} {j : Nat} (hc : X.calm = true) (hr : Room j X.A) : CallR X (.builtin "max") (rMaxP X.K) := by
  intro pins s σ H vs us Q I r h
  obtain ⟨a, xs, p, ps, rfl, hs, hd, q⟩ := h
  obtain ⟨its, rv, hl, _⟩ := I.list hs
  rw [Vals.ref1 r]
  obtain ⟨as, hR⟩ := Dp.readsAll I _ xs _ hd rv
  have hh : PySem.W.HoldAll s.heap its.toArray.toList (p :: ps) := ⟨as, by simpa using hR⟩
  have hu := hr.units
  refine PySem.W.max_list_datum (α := Int × Int) (I.ok.hd hc) hl.isList hh (by
    show X.A.units + 1 + _ < cLine
    have : PySem.W.Datum.depth (Int × Int) ≤ 8 := by decide
    omega) fun i v h' tk hv hold hk => ?_
  have hv' : its[i]? = some v := by simpa using hv
  obtain ⟨x, hx, hxv⟩ : ∃ x, xs[i]? = some x ∧ RelV x v := by
    have hln := rv.length
    have hi := (List.getElem?_eq_some_iff.mp hv').1
    have hi2 : i < xs.length := by omega
    obtain ⟨y, hy, hyv⟩ := rv.get (i := i) (x := xs[i]) (List.getElem?_eq_getElem hi2)
    rw [hv'] at hy
    cases hy
    exact ⟨_, List.getElem?_eq_getElem hi2, hyv⟩
  have hh' : PySem.W.HoldAll h' its.toArray.toList (p :: ps) := hh.keeps hk
  obtain ⟨y, hy, hyv⟩ := hh'.at (i := i) (v := v) (by simpa using hv')
  have e : y = maxII p ps := by
    obtain ⟨a1, r1⟩ := hyv
    obtain ⟨a2, r2⟩ := hold
    have := (Reads.unique r1 _ _ r2).1
    rw [maxP_eq] at this
    have e1 := congrArg (fun z => PyData.eqv z (PySem.W.Datum.toD (maxII p ps))) this
    simp only [PySem.W.Datum.eqv] at e1
    simpa using e1
  subst e
  exact ⟨x, H, I.kept hk, hxv, q i x hx hy⟩
def maxPG : List D → Option D
  | [.lst xs] => (match pairsOf xs with
    | some (a :: r) => some (pairI (maxII a r))
    | _ => none)
  | _ => none
theorem rc_maxP {K : PySem.W.Frag} : RCOk K (rMaxP K) maxPG := by
  intro F H xs as d Q e hx hg q
  unfold maxPG at hg
  split at hg
  · split at hg
    · rename_i ds a r hn
      cases hg
      obtain ⟨x, rfl, hd⟩ := hx.inv_one
      obtain ⟨p, vs, rfl, hp, hr⟩ := hd.inv_lst
      have hds := pairsOf_map hn
      refine ⟨p, vs, a, r, rfl, .inl (.inl (e _ _ hp)), ?_, fun i x hx hm => ?_⟩
      · rw [← toPyL_pairs, ← hds]
        refine dpAll_of hr.len fun i x d ha hb => ((hr.at_ i x d ha hb).mono e).dp ?_
        have : d ∈ (a :: r).map pairI := by rw [← hds]; exact List.mem_of_getElem? hb
        obtain ⟨y, _, rfl⟩ := List.mem_map.mp this
        exact lay_pairs y
      · refine q x H F (.refl e) (hr.at_ i x _ hx ?_)
        rw [hds, List.getElem?_map, hm]
        rfl
    · cases hg
  · cases hg

/-! ### a shop of one's own: a tuple (x, y, list), the list changed -/
structure Box (K : PySem.W.Frag) (a p : Addr) (x y : D) (ds : List D) (H F : Hp) : Prop where
  ex : Ex F H
  tup : ∃ vx vy, F a = some (.tup [vx, vy, .ref p]) ∧ Dt K F vx x ∧ Dt K F vy y
  lst : ∃ xs, H p = some (.lst xs) ∧ DtA K F xs ds
  out : F p = none
section
variable {K : PySem.W.Frag} {a p : Addr} {x y d : D} {ds : List D} {H F H' F' H0 F0 : Hp} {xs : List V} {v : V}
theorem Box.rd (b : Box K a p x y ds H F) : ∃ xs, H p = some (.lst xs) ∧ DtA K F xs ds ∧ Ex F (upd F p (.lst xs)) ∧ Ex (upd F p (.lst xs)) H ∧ Dt K (upd F p (.lst xs)) (.ref a) (.tup [x, y, .lst ds]) := by
  obtain ⟨xs, h1, h2⟩ := b.lst
  obtain ⟨vx, vy, t1, t2, t3⟩ := b.tup
  have e1 : Ex F (upd F p (.lst xs)) := Ex.new b.out
  refine ⟨xs, h1, h2, e1, fun c u hc => ?_, ?_⟩
  · by_cases hcp : c = p
    · subst hcp; rw [upd_same] at hc; cases hc; exact h1
    · rw [upd_ne hcp] at hc; exact b.ex c u hc
  · exact .tup' (e1 _ _ t1) (.cons (t2.mono e1) (.cons (t3.mono e1) (.cons (.lst' upd_same (h2.mono e1)) .nil)))
theorem Box.grow (b : Box K a p x y ds H F) (hx : H p = some (.lst xs)) (g : Grow H (upd F p (.lst xs)) H' F') : Box K a p x y ds H' (drop F' p) ∧ Grow (drop H p) F H' (drop F' p) ∧ H' p = some (.lst xs) := by
  have h1 : Ex F (drop F' p) := fun c u hc => by
    by_cases hcp : c = p
    · subst hcp; rw [b.out] at hc; cases hc
    · rw [drop_ne hcp]; exact g.f c u (by rw [upd_ne hcp]; exact hc)
  have h2 : Ex (drop F' p) H' := fun c u hc => by
    by_cases hcp : c = p
    · subst hcp; rw [drop_same] at hc; cases hc
    · rw [drop_ne hcp] at hc; exact g.fh c u hc
  have h3 : H' p = some (.lst xs) := g.h _ _ hx
  obtain ⟨zs, z1, z2⟩ := b.lst
  obtain ⟨vx, vy, t1, t2, t3⟩ := b.tup
  rw [hx] at z1
  cases z1
  refine ⟨⟨h2, ⟨vx, vy, h1 _ _ t1, t2.mono h1, t3.mono h1⟩, ⟨xs, h3, z2.mono h1⟩, drop_same⟩, ⟨fun c u hc => ?_, h1, h2, fun c hc => ?_⟩, h3⟩
  · by_cases hcp : c = p
    · subst hcp; rw [drop_same] at hc; cases hc
    · rw [drop_ne hcp] at hc; exact g.h c u hc
  · by_cases hcp : c = p
    · subst hcp; rw [drop_same] at hc; exact absurd rfl hc
    · rw [drop_ne hcp] at hc ⊢
      rw [g.fr c hc, upd_ne hcp]
theorem Box.put (b : Box K a p x y ds H F) (hx : H p = some (.lst xs)) (hv : Dt K F v d) (j : Nat) : Box K a p x y (ds.set j d) (upd H p (.lst (xs.set j v))) F ∧ Grow (drop H p) F (upd H p (.lst (xs.set j v))) F := by
  obtain ⟨zs, z1, z2⟩ := b.lst
  rw [hx] at z1
  cases z1
  have h2 : Ex F (upd H p (.lst (xs.set j v))) := fun c u hc => by
    by_cases hcp : c = p
    · subst hcp; rw [b.out] at hc; cases hc
    · rw [upd_ne hcp]; exact b.ex c u hc
  refine ⟨⟨h2, b.tup, ⟨_, upd_same, z2.set j hv⟩, b.out⟩, ⟨fun c u hc => ?_, Ex.refl _, h2, fun _ _ => rfl⟩⟩
  by_cases hcp : c = p
  · subst hcp; rw [drop_same] at hc; cases hc
  · rw [drop_ne hcp] at hc; rw [upd_ne hcp]; exact hc
theorem box_trans {H1 F1 H2 F2 : Hp} (g : Grow (drop H p) F H1 F1) (g2 : Grow (drop H1 p) F1 H2 F2) : Grow (drop H p) F H2 F2 := by
  refine ⟨fun c u hc => ?_, g.f.trans g2.f, g2.fh, fun c hc => ?_⟩
  · by_cases hcp : c = p
    · subst hcp; rw [drop_same] at hc; cases hc
    · exact g2.h c u (by rw [drop_ne hcp]; exact g.h c u hc)
  · by_cases hcp : c = p
    · subst hcp; exact absurd drop_same hc
    · rw [← g.fr c hc]
      refine g2.fr c ?_
      rw [drop_ne hcp]
      cases q : drop H p c with
      | none => exact absurd q hc
      | some o => rw [g.h c o q]; simp
/-- a pair of ints stays a datum without p -/
theorem dt_pair_drop {i j : D} (hv : Dt K F v (.tup [i, j])) (hi : flatD i = true) (hj : flatD j = true) (hp : F p = some (.lst xs)) : Dt K (drop F p) v (.tup [i, j]) := by
  obtain ⟨b, vs, rfl, hb, r⟩ := hv.inv_tup
  have hbp : b ≠ p := by rintro rfl; rw [hp] at hb; cases hb
  obtain ⟨u, w, rfl, hu, hw⟩ := r.inv_two
  exact .tup' (by rw [drop_ne hbp]; exact hb) (.two (hu.flat hi) (hw.flat hj))
/-- the promise of a def that changes the list of a shop of one's own -/
def spB (K : PySem.W.Frag) (n : Nat) (T : D → D → List D → List D → D → List D → Prop) : Sp := fun vs H Q _ => ∃ (a p : Addr) (us : List V) (x y : D) (ds es : List D) (F : Hp) (d : D) (ds' : List D),
  vs = .ref a :: us ∧ us.length + 1 = n ∧ Box K a p x y ds H F ∧ DtA K F us es ∧ T x y ds es d ds' ∧
  ∀ v H' F', Grow (drop H p) F H' F' → Box K a p x y ds' H' F' → Dt K F' v d → Q v H'
end
/-- callable so -/
def ClB (P : Program) (w : World) (K : PySem.W.Frag) (mg : Str → Option Value) (base : Heap) (x : Str) (k n : Nat) (T : D → D → List D → List D → D → List D → Prop) : Prop :=
  ∃ (f : Addr) (fd : FuncData) (ps : List Str), FnOk P w K mg base (L2.CX P w) k f fd ps (spB K n T) ∧ mg x = some (.ref f) ∧ PySem.W.keepIn K (.ref f) = true ∧ L2.Binds K fd ps []
end DL

namespace DL
open PySem PySem.Spec PyProof.Rows L2 Evl
/-! ### errors as data -/
/-- a character of a text -/
def ixSG : D → D → Option D
  | .str z, .int i => if z.length ≤ 100000 then (match atI z.cps.toList i with
    | some c => some (.str ⟨#[c]⟩)
    | none => none) else none
  | _, _ => none
theorem r2_ixS {K : PySem.W.Frag} : R2Ok K rIxS ixSG := by
  intro F H x y a b d Q e hx hy hg q
  unfold ixSG at hg
  split at hg
  · rename_i z i
    split at hg
    · rename_i hz
      split at hg
      · rename_i c hc
        cases hg
        exact ⟨z, i, c, hx.inv_str, hy.inv_int, sz_of hz, hc, q _ H F (.refl e) (.str _)⟩
      · cases hg
    · cases hg
  · cases hg
/-- where the class of that name stands -/
def caOf (mg : Str → Option Value) (c : Str) : Addr := match mg c with
  | some (.ref C) => C
  | _ => 0
def nameOf (es : List Str) (mg : Str → Option Value) (C : Addr) : Option Str := es.find? fun c => caOf mg c == C
theorem caOf_eq {mg : Str → Option Value} {c : Str} {C : Addr} (h : mg c = some (.ref C)) : caOf mg c = C := by unfold caOf; rw [h]
def excN (C : Addr) (fe : DEnv → Option D) : DEnv → Option D := fun env => match fe env with
  | some (.str _) => some (.err C)
  | _ => none
def isXF (es : List Str) (mg : Str → Option Value) (t : Str) (fe : DEnv → Option D) : DEnv → Option D := fun env => match fe env with
  | some (.err C) => (match nameOf es mg C with
    | some c => some (.bl (subN c t))
    | none => none)
  | _ => none
def isVF (es : List Str) (mg : Str → Option Value) (fe : DEnv → Option D) : DEnv → Option D := fun env => match fe env with
  | some (.err C) => (match nameOf es mg C with
    | some c => some (.bl true)
    | none => none)
  | _ => none
theorem nameOf_some {es : List Str} {mg : Str → Option Value} {C : Addr} {c : Str} (h : nameOf es mg C = some c) : c ∈ es ∧ caOf mg c = C := by
  unfold nameOf at h
  exact ⟨List.mem_of_find?_eq_some h, by simpa using List.find?_some h⟩
theorem Dt.inv_err {K : PySem.W.Frag} {F : Hp} {x : V} {C : Addr} (h : Dt K F x (.err C)) : ∃ a, x = .ref a ∧ (F a = some (ExO (.ref C) a) ∨ F a = some (ErrO (.ref C) a)) := by
  cases h with
  | err h => exact ⟨_, rfl, h⟩
/-- isinstance(e, c), e an error that is tracked -/
def rIsX (K : PySem.W.Frag) : List V → Hp → VK → Prop := fun xs H Q => ∃ (a C : Addr) (c : V) (cv : Value) (b : Bool), xs = [.ref a, c] ∧ (H a = some (ExO (.ref C) a) ∨ H a = some (ErrO (.ref C) a)) ∧ ExcC K C ∧ (∀ u, RelV c u → u = cv) ∧ PySem.W.kitOne K (.ref C) cv = some b ∧ Q (.bl b) H
theorem call_isX {X : Cx} : CallR X (.builtin "isinstance") (rIsX X.K) := by
  intro pins s σ H xs us Q I r h
  obtain ⟨a, C, c, cv, b, rfl, hx, hC, hcv, e, q⟩ := h
  have obj : ∃ (oe : Obj) (vs : Array Value), s.heap.get? a = some oe ∧ Zc (.ref C) none oe ∧ oe.data = .fields vs := by
    rcases hx with hx | hx
    · obtain ⟨⟨oe, vs, ho, hz, hd, _⟩, _, _⟩ := I.hok a _ hx
      exact ⟨oe, vs, ho, hz, hd⟩
    · obtain ⟨⟨oe, vs, ho, hz, hd⟩, _, _⟩ := I.hok a _ hx
      exact ⟨oe, vs, ho, hz, hd⟩
  obtain ⟨oe, vs, ho, hz, hd⟩ := obj
  match us, r with
  | [u1, u2], .cons r1 (.cons r2 .nil) =>
    cases r1
    obtain rfl := hcv _ r2
    have J : PySem.W.InstAt s.heap a oe C none := by
      obtain ⟨oc, od, oda, osl⟩ := oe
      obtain ⟨z1, z2⟩ := hz
      dsimp only at z1 z2 hd
      subst z1 z2 hd
      exact ⟨ho, rfl, rfl, trivial⟩
    exact PySem.W.kia_one (PySem.W.handS_kitx_exc hC.hg hC.hk hC.hs hC.hd hC.ha hC.hn hC.ht hC.hm) I.kIn J e (fun z => nomatch z) fun tk => ⟨.bl b, H, I.kept (t' := tk) fun _ _ z => z, rfl, q⟩
section
variable {X : Cx} {e : Expr} {fe : DEnv → Option D} {p p2 pos : Pos} {es : List Str}
theorem de_exc {c : Str} (S : ErrS es X.K X.mg) (hm : c ∈ es) (hg : Gl X c) (he : PE X e (dE X.K fe)) (hs : starEach [e] X.env = (false, eval e X.env) :: starEach [] X.env := by rfl) (hdb : (c == ("__debug__" : Str)) = false := by decide) :
    PE X (.Call (.Name c p) [e] [] pos) (dE X.K (excN (caOf X.mg c) fe)) := by
  obtain ⟨C, gC, hF, _⟩ := S.cls c hm
  rw [caOf_eq gC]
  refine PE.imp (pe_exc1 PySem.F.excBase_ValueError hF.q gC hF.k hg he hs hdb) ?_
  rintro σ H Q ⟨H0, F0, F, env, d, r, hf, q⟩
  unfold excN at hf
  split at hf
  · rename_i z hz
    cases hf
    refine ⟨H0, F0, F, env, _, r, hz, fun v H1 F1 g1 hv a ha => ?_⟩
    exact q _ _ _ (g1.trans (Grow.new g1.fh ha)) (.err (.inl upd_same))
  · cases hf
theorem de_isX {t : Str} (S : ErrS es X.K X.mg) (ht : t ∈ ("HasteError" : Str) :: es) (hg : Gl X "isinstance") (hm : X.mg "isinstance" = none) (hgt : Gl X t) (he : PE X e (dE X.K fe)) (hd : (t == ("__debug__" : Str)) = false := by decide)
    (hs : starEach [e, .Name t p2] X.env = (false, eval e X.env) :: starEach [.Name t p2] X.env := by rfl) (hs2 : starEach [Expr.Name t p2] X.env = (false, eval (.Name t p2) X.env) :: starEach [] X.env := by rfl)
    (hpl : (backTo pos (starEach [Expr.Name t p2] X.env)).any (·.1) = false := by rfl) :
    PE X (.Call (.Name "isinstance" p) [e, .Name t p2] [] pos) (dE X.K (isXF es X.mg t fe)) := by
  obtain ⟨T, gT⟩ := S.at_ t ht
  refine PE.imp (pe_callB call_isX hg hm (by decide +kernel) (pa_cons he (pa_cons (pe_glob (v := .ref T) hgt gT rfl hd) pa_nil hs2) hs) (by decide) (by decide) hs hpl) ?_
  rintro σ H Q ⟨H0, F0, F, env, d, r, hf, q⟩
  unfold isXF at hf
  split at hf
  · rename_i C hC
    split at hf
    · rename_i c hc
      cases hf
      obtain ⟨hce, hca⟩ := nameOf_some hc
      obtain ⟨C', gC, _, hE, _⟩ := S.cls c hce
      have : C' = C := (caOf_eq gC).symm.trans hca
      subst this
      refine ⟨H0, F0, F, env, _, r, hC, fun v H1 F1 g1 hv => ?_⟩
      obtain ⟨a, rfl, ha⟩ := hv.inv_err
      exact ⟨a, C', .ref T, .ref T, subN c t, rfl, ha.imp (g1.fh _ _) (g1.fh _ _), hE, fun u ru => ru, (S.pair c hce t ht C' T gC gT).2, q _ H1 F1 g1 (.bl _)⟩
    · cases hf
  · cases hf
theorem de_isV (S : ErrS es X.K X.mg) (hg : Gl X "isinstance") (hm : X.mg "isinstance" = none) (hgt : Gl X "ValueError") (hmv : X.mg "ValueError" = none) (he : PE X e (dE X.K fe))
    (hs : starEach [e, .Name "ValueError" p2] X.env = (false, eval e X.env) :: starEach [.Name "ValueError" p2] X.env := by rfl) (hs2 : starEach [Expr.Name "ValueError" p2] X.env = (false, eval (.Name "ValueError" p2) X.env) :: starEach [] X.env := by rfl)
    (hpl : (backTo pos (starEach [Expr.Name "ValueError" p2] X.env)).any (·.1) = false := by rfl) :
    PE X (.Call (.Name "isinstance" p) [e, .Name "ValueError" p2] [] pos) (dE X.K (isVF es X.mg fe)) := by
  refine PE.imp (pe_callB call_isX hg hm (by decide +kernel) (pa_cons he (pa_cons (pe_bltn (v := .ty "ValueError") hgt hmv (by decide +kernel) rfl) pa_nil hs2) hs) (by decide) (by decide) hs hpl) ?_
  rintro σ H Q ⟨H0, F0, F, env, d, r, hf, q⟩
  unfold isVF at hf
  split at hf
  · rename_i C hC
    split at hf
    · rename_i c hc
      cases hf
      obtain ⟨hce, hca⟩ := nameOf_some hc
      obtain ⟨C', gC, _, hE, hk⟩ := S.cls c hce
      have : C' = C := (caOf_eq gC).symm.trans hca
      subst this
      refine ⟨H0, F0, F, env, _, r, hC, fun v H1 F1 g1 hv => ?_⟩
      obtain ⟨a, rfl, ha⟩ := hv.inv_err
      exact ⟨a, C', .ty "ValueError", .type "ValueError", true, rfl, ha.imp (g1.fh _ _) (g1.fh _ _), hE, fun u ru => ru, hk, q _ H1 F1 g1 (.bl _)⟩
    · cases hf
  · cases hf
/-! f() -/
section
variable {X : Cx} {x : Str} {p pos : Pos} {k j : Nat} {sf : List D → Option Res}
theorem de_callC0 (c : Cl X.prog X.w X.K X.mg X.base x k 0 sf) (hr : Room j X.A) (hk : k ≤ j) (hg : Gl X x) (hdb : (x == ("__debug__" : Str)) = false := by decide) : PE X (.Call (.Name x p) [] [] pos) (dE X.K (opC (okD sf) (cst0 []))) := by
  obtain ⟨f, fd, ps, G, hm, hkp, hb⟩ := c
  refine PE.imp (pe_call0 (E := fun _ _ _ => False) G (hr.mono hk) hg hm hkp hb .nil passF hdb) ?_
  rintro σ H Q ⟨H0, F0, F, env, d, r, hf, q⟩
  simp only [opC, cst0, okD] at hf
  split at hf
  · rename_i d' hs
    cases hf
    exact ⟨rfl, F, [], _, r.fh, .nil, hs, fun v H' F' g hv => q v H' F' g hv⟩
  · cases hf
end
/-- try: B except h as n: m = n -/
def tryKeep (es : List Str) (mg : Str → Option Value) (B : DEnv → Option Out) (h : Str) (i j : Nat) : DEnv → Option Out := fun env => match B env with
  | some (.ex c e) => if es.contains c then (if subN c h then some (.nx ((e.set j (.val (.err (caOf mg c)))).set i .no)) else some (.ex c e)) else none
  | o => o
theorem ds_try_keep {h n m : Str} {i j : Nat} {body : List Stmt} {np pm pn1 pa pos' : Pos} {Wout : WX} {B : DEnv → Option Out} (S : ErrS es X.K X.mg) (hh : h ∈ ("HasteError" : Str) :: es) (hst : X.stack = X.env :: X.outer) (hfr : X.env.frame = some X.env.locals) (hex : X.ex = []) (hN : X.N.Nodup) (hi : X.N[i]? = some n) (hj : X.N[j]? = some m) (hij : i ≠ j)
    (hln : X.env.kindOf n = some .local) (hg : Gl X h) (tk : Takes X Wout) (hd : (h == ("__debug__" : Str)) = false)
    (hb : ∀ (W : WX) (pn : List (Addr × Obj)) (xe : Value → Shared → Prop), Takes (X.tr pn xe) W → PassesOwn (model X.prog X.w) X.A X.env xe → PSs (X.tr pn xe) body (dS X.K (RW X.mg W) B))
    (hset : ∀ (a : Addr) (oe : Obj) (pn : List (Addr × Obj)), PS (X.suite a ((a, oe) :: pn)) (.Assign [.Name m pm] (.Name n pn1) pa) (tAsg (tVar i) (gName j))) :
    PS X (.Try body [.ExceptHandler (some (.Name h np)) (some n) [.Assign [.Name m pm] (.Name n pn1) pa] pos'] [] [] pos) (dS X.K (RW X.mg Wout) (tryKeep es X.mg B h i j)) := by
  obtain ⟨Ch, gh⟩ := S.at_ h hh
  refine PS.imp (ps_try_keep (c := .ref Ch) (tb := fun W => dS X.K (RW X.mg W) B) (Wout := Wout) hst hfr hex hN hi hln ⟨hg, hd, .inl gh⟩ tk hb hset) ?_
  rintro E σ H ⟨H0, F0, F, env, o, r, hf, po⟩
  unfold tryKeep at hf
  cases hB : B env with
  | none => rw [hB] at hf; cases hf
  | some ob =>
    rw [hB] at hf
    refine ⟨H0, F0, F, env, ob, r, hB, ?_⟩
    cases ob with
    | nx e => cases hf; exact po
    | bk e => cases hf; exact po
    | ct e => cases hf; exact po
    | rt d e => cases hf; exact po
    | ex c e =>
      intro F1 σ1 H1 r1
      simp only at hf
      split at hf
      · rename_i hc
        have hc' : c ∈ es := by simpa using hc
        obtain ⟨C, gC, _, _, _⟩ := S.cls c hc'
        have hx := (S.pair c hc' h hh C Ch gC gh).1
        refine ⟨C, gC, _, hx, fun hbt => ⟨rfl, fun a ha => ?_⟩, fun hbf => ?_⟩
        · rw [if_pos hbt] at hf
          cases hf
          have r2 := (r1.grow (Grow.new (o := ErrO (.ref C) a) r1.fh ha)).setVal (i := j) (d := .err C) (.err (.inr upd_same))
          rw [caOf_eq gC] at po
          refine po _ _ _ (r2.weak (fun k s hk hn => ?_) (by simp [r1.len]))
          by_cases hki : k = i
          · subst hki
            exact absurd (set_eq hk).2 hn
          · refine ⟨(set_ne hki).mp hk, ?_⟩
            rw [List.getElem?_set_ne (Ne.symm hki)]
            simp only [List.getElem?_set, List.length_set, if_neg (Ne.symm hki)]
        · rw [if_neg (by rw [hbf]; exact Bool.false_ne_true)] at hf
          cases hf
          obtain ⟨C', gC', hW⟩ := po F1 σ1 H1 r1
          rw [gC] at gC'
          cases gC'
          exact hW
      · cases hf
end
end DL

namespace LH
open PySem PySem.Spec PyProof.Rows L2 Evl DL

abbrev esX : List Str := ["TooMany", "BadWorker", "BadRank", "BadStart", "BadPlan", "NoWorker"]
def b_begun_f0 (sf_check_worker sf_copied : List D → Option Res) : DEnv → Option Out := (seqS (drpX (borX 1 (opX sf_check_worker (consA (getV 2) (consA (getV 1) (cst0 [])))))) (appS 1 (mE (op2 ixG (getV 2) (cst (.int 0))))))
def b_begun (sf_check_worker sf_copied : List D → Option Res) : DEnv → Option Out := (seqS (ifS (notT (tstB (chn leG leG (cst (.int 1)) (opC lenG (consA (getV 0) (cst0 []))) (cst (.int 8))))) (mkF "TooMany" (consA (jsF ((cst (.str "there are 1 to ")) :: ((op1 fmtG (cst (.int 8))) :: ((cst (.str " workers")) :: []))) Str.empty) (cst0 []))) nxS) (seqS (ownS 1 (ocL (cst0 []))) (seqS (forS (itL (getV 0)) (setG 2) (b_begun_f0 sf_check_worker sf_copied)) (retS (opC mkT (consA (opC (okD sf_copied) (consA (getV 0) (cst0 []))) (consA (cst (.int 0)) (consA (ocE (lcF (itL (getV 0)) (setG 3) (cst0 true) (opC mkT (consA (cst (.int 0)) (consA (cst (.int 0)) (cst0 [])))) [3])) (cst0 [])))))))))
def b_law_cell_at : DEnv → Option Out := (seqS (ifS (tstB (op2 ltG (getV 1) (opC lenG (consA (getV 0) (cst0 []))))) (retS (op2 ixG (getV 0) (getV 1))) nxS) (retS (cst (.int 0))))
def b_law_text_f0 (sf_law_cell_at : List D → Option Res) : DEnv → Option Out := (putS 1 (op2 addG (getV 1) (op2 ixSG (cst (.str "abcdefghijklmnopqrstuvwxyz ")) (op2 modG (op2 addG (op2 mulG (opC (okD sf_law_cell_at) (consA (getV 0) (consA (cst (.int 1)) (cst0 [])))) (op2 addG (getV 2) (cst (.int 1)))) (op2 mulG (getV 2) (getV 2))) (cst (.int 27))))))
def b_law_text (sf_law_cell_at : List D → Option Res) : DEnv → Option Out := (seqS (putS 1 (cst (.str ""))) (seqS (forS (rng1 (consA (op2 modG (opC (okD sf_law_cell_at) (consA (getV 0) (consA (cst (.int 0)) (cst0 [])))) (cst (.int 13))) (cst0 []))) (setG 2) (b_law_text_f0 sf_law_cell_at)) (retS (getV 1))))
def b_law_kinds (mg : Str → Option Value) : DEnv → Option Out := (seqS (putS 1 (opC mkL (consA (isXF esX mg "TooMany" (getV 0)) (consA (isXF esX mg "BadWorker" (getV 0)) (consA (isXF esX mg "BadRank" (getV 0)) (cst0 [])))))) (seqS (putS 1 (op2 addG (getV 1) (opC mkL (consA (isXF esX mg "BadStart" (getV 0)) (consA (isXF esX mg "BadPlan" (getV 0)) (consA (isXF esX mg "NoWorker" (getV 0)) (cst0 []))))))) (retS (op2 addG (getV 1) (opC mkL (consA (isXF esX mg "HasteError" (getV 0)) (consA (isVF esX mg (getV 0)) (cst0 []))))))))
def b_law_met (mg : Str → Option Value) (sf_begun : List D → Option Res) : DEnv → Option Out := (seqS (putS 0 (cst .non)) (seqS (tryKeep esX mg (drpX (opX sf_begun (consA (opC mkL (cst0 [])) (cst0 [])))) "HasteError" 1 0) (retS (getV 0))))
def b_law_f0 (mg : Str → Option Value) (sf_law_text sf_law_kinds sf_law_met : List D → Option Res) : DEnv → Option Out := (ifS (tstB (op2 neG (opC (okD sf_law_kinds) (consA (op2 ixG (getV 2) (getV 3)) (cst0 []))) (op2 addG (ocE (lcF (rng1 (consA (cst (.int 6)) (cst0 []))) (setG 4) (cst0 true) (op2 eqG (getV 4) (getV 3)) [4])) (opC mkL (consA (cst (.bl true)) (consA (cst (.bl true)) (cst0 []))))))) (retS (cst (.bl false))) nxS)
def b_law (mg : Str → Option Value) (sf_law_text sf_law_kinds sf_law_met : List D → Option Res) : DEnv → Option Out := (seqS (putS 1 (opC (okD sf_law_text) (consA (getV 0) (cst0 [])))) (seqS (putS 2 (opC mkL (consA (excN (caOf mg "TooMany") (getV 1)) (consA (excN (caOf mg "BadWorker") (getV 1)) (consA (excN (caOf mg "BadRank") (getV 1)) (consA (excN (caOf mg "BadStart") (getV 1)) (consA (excN (caOf mg "BadPlan") (getV 1)) (consA (excN (caOf mg "NoWorker") (getV 1)) (cst0 []))))))))) (seqS (forS (rng1 (consA (cst (.int 6)) (cst0 []))) (setG 3) (b_law_f0 mg sf_law_text sf_law_kinds sf_law_met)) (retS (op2 eqG (opC (okD sf_law_kinds) (consA (opC (okD sf_law_met) (cst0 [])) (cst0 []))) (opC (okD sf_law_kinds) (consA (op2 ixG (getV 2) (cst (.int 0))) (cst0 []))))))))
end LH

namespace LH
open PySem PySem.Spec PyProof.Rows L2 Evl DL
abbrev n_check_worker : Nat := 2
def sf_check_worker : List D → Option Res := fun _ => none
abbrev n_copied : Nat := 1
def sf_copied : List D → Option Res := fun _ => none
theorem op2_of {g : D → D → Option D} {fa fb : DEnv → Option D} {env : DEnv} {a b d : D} (h1 : fa env = some a) (h2 : fb env = some b) (h3 : g a b = some d) : op2 g fa fb env = some d := by simp only [op2, h1, h2, h3]
/-! ### begun, of no workers -/
abbrev n_begun : Nat := 1
def sf_begun : List D → Option Res
  | [.lst []] => some (.ex "TooMany")
  | _ => none
theorem js_many (env : DEnv) : ∃ z, jsF [cst (.str "there are 1 to "), op1 fmtG (cst (.int 8)), cst (.str " workers")] Str.empty env = some z := ⟨_, js_three env (by decide +kernel) (by decide +kernel) (by decide +kernel) (by decide +kernel)⟩
theorem m_begun (ds : List D) (r : Res) (hl : ds.length = n_begun) (hs : sf_begun ds = some r) : resO (b_begun sf_check_worker sf_copied (startE ds 4)) = some r := by
  unfold sf_begun at hs
  split at hs
  · cases hs
    obtain ⟨z, hz2⟩ := js_many [.val (.lst []), .no, .no, .no]
    simp [b_begun, startE, seqS, ifS, nxS, retS, retNS, drpS, putS, asgS, setG, getV, op2, op1, opC, consA, cst, cst0, tstB, asB, tru, truD, orT, andT, notT, andE, orE, ifE, chn, isiF, isTy, addG, mulG, iiG, eqG_ii, eqG_ss, eqG_bb, neG_ii, neG_ss, neG_bb, isNG, notNG, notG, negG, ixG, ixO, lenG, intG, max2G, min2G, mkT, mkL, okD, opX, drpX, putX, retX, mkF, resO, ownS, ocL, ocE, ocD, frzS, borE, borT, borX, flatD, appS, mE, popM, tup2M, rmvS, setS, tupG, consG, nilG, lstN, lstG, itL, itemsL, atI_0, atI_l1, atI_l2, atI_l3, atI_1, atI_2, atI_3, st_wh, st_wf, st_hw, st_hf, st_fw, st_fh, rng1, rng2, whS, forS, prt, hz2]
  · cases hs
/-! ### _law_cell_at -/
abbrev n_law_cell_at : Nat := 2
def sf_law_cell_at : List D → Option Res
  | [.scr ns, .int k] => if 0 ≤ k then some (.ok (.int (ns.getD k.toNat 0))) else none
  | _ => none
theorem m_law_cell_at (ds : List D) (r : Res) (hl : ds.length = n_law_cell_at) (hs : sf_law_cell_at ds = some r) : resO (b_law_cell_at (startE ds 2)) = some r := by
  unfold sf_law_cell_at at hs
  split at hs
  · rename_i ns k
    split at hs
    · rename_i h
      cases hs
      by_cases h2 : k < ns.length
      · have h3 : k.toNat < ns.length := by omega
        simp [b_law_cell_at, startE, seqS, ifS, nxS, retS, retNS, drpS, putS, asgS, setG, getV, op2, op1, opC, consA, cst, cst0, tstB, asB, tru, truD, orT, andT, notT, andE, orE, ifE, chn, isiF, isTy, addG, mulG, iiG, eqG_ii, eqG_ss, eqG_bb, neG_ii, neG_ss, neG_bb, isNG, notNG, notG, negG, ixG, ixO, lenG, intG, max2G, min2G, mkT, mkL, okD, opX, drpX, putX, retX, mkF, resO, ownS, ocL, ocE, ocD, frzS, borE, borT, borX, flatD, appS, mE, popM, tup2M, rmvS, setS, tupG, consG, nilG, lstN, lstG, itL, itemsL, atI_0, atI_l1, atI_l2, atI_l3, atI_1, atI_2, atI_3, st_wh, st_wf, st_hw, st_hf, st_fw, st_fh, rng1, rng2, whS, forS, prt, ltG, h2, atI_nat0 ns h, h3]
      · have h3 : ns.length ≤ k.toNat := by omega
        simp [b_law_cell_at, startE, seqS, ifS, nxS, retS, retNS, drpS, putS, asgS, setG, getV, op2, op1, opC, consA, cst, cst0, tstB, asB, tru, truD, orT, andT, notT, andE, orE, ifE, chn, isiF, isTy, addG, mulG, iiG, eqG_ii, eqG_ss, eqG_bb, neG_ii, neG_ss, neG_bb, isNG, notNG, notG, negG, ixG, ixO, lenG, intG, max2G, min2G, mkT, mkL, okD, opX, drpX, putX, retX, mkF, resO, ownS, ocL, ocE, ocD, frzS, borE, borT, borX, flatD, appS, mE, popM, tup2M, rmvS, setS, tupG, consG, nilG, lstN, lstG, itL, itemsL, atI_0, atI_l1, atI_l2, atI_l3, atI_1, atI_2, atI_3, st_wh, st_wf, st_hw, st_hf, st_fw, st_fh, rng1, rng2, whS, forS, prt, ltG, h2, h3]
    · cases hs
  · cases hs
/-! ### _law_text -/
abbrev n_law_text : Nat := 1
def sf_law_text (ds : List D) : Option Res := if ds.length = 1 then resO (b_law_text sf_law_cell_at (startE ds 3)) else none
theorem m_law_text (ds : List D) (r : Res) (hl : ds.length = n_law_text) (hs : sf_law_text ds = some r) : resO (b_law_text sf_law_cell_at (startE ds 3)) = some r := by
  unfold sf_law_text at hs
  rwa [if_pos hl] at hs
theorem letter {i : Int} (h0 : 0 ≤ i) (h1 : i < 27) : ∃ c, ixSG (.str "abcdefghijklmnopqrstuvwxyz ") (.int i) = some (.str ⟨#[c]⟩) := by
  have hl : ("abcdefghijklmnopqrstuvwxyz " : Str).cps.toList.length = 27 := by decide +kernel
  have hz : ("abcdefghijklmnopqrstuvwxyz " : Str).length ≤ 100000 := by decide +kernel
  unfold ixSG
  generalize ("abcdefghijklmnopqrstuvwxyz " : Str) = z at *
  simp only [if_pos hz, atI_nat0 _ h0]
  have hi : i.toNat < z.cps.toList.length := by omega
  rw [List.getElem?_eq_getElem hi]
  exact ⟨_, rfl⟩
theorem cat_one {a b : Str} : (a ++ b).length = a.length + b.length := by
  show (Str.append a b).length = _
  simp [Str.append, Str.length]
theorem text_turn (ns : List Int) (t : Str) (k : Nat) (hk : k ≤ 100) (ht : t.length ≤ 1000) : ∃ t' : Str, t'.length = t.length + 1 ∧ b_law_text_f0 sf_law_cell_at [.val (.scr ns), .val (.str t), .val (.int (k : Int))] = some (.nx [.val (.scr ns), .val (.str t'), .val (.int (k : Int))]) := by
  have e1 : sf_law_cell_at [.scr ns, .int 1] = some (.ok (.int (ns.getD 1 0))) := rfl
  generalize ns.getD 1 0 = c at *
  have m1 : mulG (.int c) (.int ((k : Int) + 1)) = some (.int (c * ((k : Int) + 1))) := mul_r (by omega) (by omega)
  have m2 : mulG (.int (k : Int)) (.int (k : Int)) = some (.int ((k : Int) * (k : Int))) := mul_r (by omega) (by omega)
  generalize c * ((k : Int) + 1) = u at *
  generalize (k : Int) * (k : Int) = v at *
  obtain ⟨x, hx⟩ := letter (i := (u + v) % 27) (by omega) (by omega)
  have hl : (⟨#[x]⟩ : Str).length = 1 := rfl
  have ha : addG (.str t) (.str ⟨#[x]⟩) = some (.str (t ++ ⟨#[x]⟩)) := by
    have hz : t.length + (⟨#[x]⟩ : Str).length ≤ 100000 := by rw [hl]; omega
    simp only [addG]
    rw [if_pos hz]
  refine ⟨t ++ ⟨#[x]⟩, by rw [cat_one, hl], ?_⟩
  generalize t ++ ⟨#[x]⟩ = t' at *
  have f1 : opC (okD sf_law_cell_at) (consA (getV 0) (consA (cst (.int 1)) (cst0 []))) [.val (.scr ns), .val (.str t), .val (.int (k : Int))] = some (.int c) := by
    show okD sf_law_cell_at [.scr ns, .int 1] = _
    unfold okD
    rw [e1]
  have f2 := op2_of (g := mulG) (env := [.val (.scr ns), .val (.str t), .val (.int (k : Int))]) f1 (op2_of (g := addG) (fa := getV 2) (fb := cst (.int 1)) rfl rfl rfl) m1
  have f3 := op2_of (g := modG) (op2_of (g := addG) f2 (op2_of (g := mulG) (fa := getV 2) (fb := getV 2) rfl rfl m2) rfl) (show cst (.int 27) [.val (.scr ns), .val (.str t), .val (.int (k : Int))] = _ from rfl) (mod_ii (by omega))
  have f4 := op2_of (g := addG) (show getV 1 [.val (.scr ns), .val (.str t), .val (.int (k : Int))] = _ from rfl) (op2_of (g := ixSG) (fa := cst (.str "abcdefghijklmnopqrstuvwxyz ")) rfl f3 hx) ha
  unfold b_law_text_f0 putS asgS
  rw [f4]
  rfl
theorem text_turns (ns : List Int) : ∀ (n k : Nat) (t : Str) (s2 : Sl), k + n ≤ 100 → t.length ≤ 100 + k → ∃ t' s2', t'.length = t.length + n ∧ forL (setG 2) (b_law_text_f0 sf_law_cell_at) ((List.range' k n).map fun (i : Nat) => D.int (i : Int)) [.val (.scr ns), .val (.str t), s2] = some (.nx [.val (.scr ns), .val (.str t'), s2'])
  | 0, k, t, s2, _, _ => ⟨t, s2, rfl, rfl⟩
  | n + 1, k, t, s2, h, ht => by
    obtain ⟨t1, h1, e⟩ := text_turn ns t k (by omega) (by omega)
    obtain ⟨t2, u2, h2, e2⟩ := text_turns ns n (k + 1) t1 (.val (.int (k : Int))) (by omega) (by omega)
    refine ⟨t2, u2, by omega, ?_⟩
    rw [List.range'_succ, List.map_cons]
    exact (forL_nx rfl e).trans e2
theorem text_ok (ns : List Int) : ∃ t : Str, sf_law_text [.scr ns] = some (.ok (.str t)) := by
  have e1 : sf_law_cell_at [.scr ns, .int 0] = some (.ok (.int (ns.getD 0 0))) := rfl
  generalize ns.getD 0 0 = c at *
  obtain ⟨n, hn, hn13⟩ : ∃ n : Nat, c % 13 = (n : Int) ∧ n ≤ 12 := ⟨(c % 13).toNat, by omega, by omega⟩
  have hz0 : ("" : Str).length = 0 := by decide +kernel
  obtain ⟨t, s2, _, e2⟩ := text_turns ns n 0 "" .no (by omega) (by rw [hz0]; omega)
  have hr : rngD 0 n = (List.range' 0 n).map fun (i : Nat) => D.int (i : Int) := by
    unfold rngD
    rw [List.range_eq_range']
    simp
  have hc : ((n : Nat) : Int) ≤ 100000 ∧ -100000 ≤ ((n : Nat) : Int) := by omega
  refine ⟨t, ?_⟩
  generalize (List.range' 0 n).map (fun (i : Nat) => D.int (i : Int)) = rs at *
  simp [sf_law_text, b_law_text, startE, seqS, ifS, nxS, retS, retNS, drpS, putS, asgS, setG, getV, op2, op1, opC, consA, cst, cst0, tstB, asB, tru, truD, orT, andT, notT, andE, orE, ifE, chn, isiF, isTy, eqG_ii, eqG_ss, eqG_bb, neG_ii, neG_ss, neG_bb, isNG, notNG, notG, negG, ixG, ixO, lenG, intG, max2G, min2G, mkT, mkL, okD, opX, drpX, putX, retX, mkF, resO, ownS, ocL, ocE, ocD, frzS, borE, borT, borX, flatD, appS, mE, popM, tup2M, rmvS, setS, tupG, consG, nilG, lstN, lstG, itL, itemsL, atI_0, atI_l1, atI_l2, atI_l3, atI_1, atI_2, atI_3, st_wh, st_wf, st_hw, st_hf, st_fw, st_fh, rng1, rng2, whS, forS, prt, add_ii, sub_ii, mod_ii, div_ii, lt_ii, le_ii, gt_ii, ge_ii, e1, hn, hc, hr, e2]
/-! ### _law_kinds -/
abbrev n_law_kinds : Nat := 1
def sf_law_kinds (mg : Str → Option Value) (ds : List D) : Option Res := if ds.length = 1 then resO (b_law_kinds mg (startE ds 2)) else none
theorem m_law_kinds (mg : Str → Option Value) (ds : List D) (r : Res) (hl : ds.length = n_law_kinds) (hs : sf_law_kinds mg ds = some r) : resO (b_law_kinds mg (startE ds 2)) = some r := by
  unfold sf_law_kinds at hs
  rwa [if_pos hl] at hs
def kindsD (c : Str) : D := .lst [.bl (subN c "TooMany"), .bl (subN c "BadWorker"), .bl (subN c "BadRank"), .bl (subN c "BadStart"), .bl (subN c "BadPlan"), .bl (subN c "NoWorker"), .bl (subN c "HasteError"), .bl true]
theorem kinds_eq {mg : Str → Option Value} {C : Addr} {c : Str} (h : nameOf esX mg C = some c) : sf_law_kinds mg [.err C] = some (.ok (kindsD c)) := by
  have h3 : ∀ t, isXF esX mg t (getV 0) [.val (.err C), .no] = some (.bl (subN c t)) := fun t => by simp [isXF, getV, h]
  have h4 : ∀ t d, isXF esX mg t (getV 0) [.val (.err C), .val d] = some (.bl (subN c t)) := fun t d => by simp [isXF, getV, h]
  have h5 : ∀ d, isVF esX mg (getV 0) [.val (.err C), .val d] = some (.bl true) := fun d => by simp [isVF, getV, h]
  unfold kindsD
  simp [sf_law_kinds, b_law_kinds, startE, seqS, ifS, nxS, retS, retNS, drpS, putS, asgS, setG, getV, op2, op1, opC, consA, cst, cst0, tstB, asB, tru, truD, orT, andT, notT, andE, orE, ifE, chn, isiF, isTy, addG, mulG, iiG, eqG_ii, eqG_ss, eqG_bb, neG_ii, neG_ss, neG_bb, isNG, notNG, notG, negG, ixG, ixO, lenG, intG, max2G, min2G, mkT, mkL, okD, opX, drpX, putX, retX, mkF, resO, ownS, ocL, ocE, ocD, frzS, borE, borT, borX, flatD, appS, mE, popM, tup2M, rmvS, setS, tupG, consG, nilG, lstN, lstG, itL, itemsL, atI_0, atI_l1, atI_l2, atI_l3, atI_1, atI_2, atI_3, st_wh, st_wf, st_hw, st_hf, st_fw, st_fh, rng1, rng2, whS, forS, prt, h3, h4, h5]
/-! ### _law_met -/
abbrev n_law_met : Nat := 0
def sf_law_met (mg : Str → Option Value) (ds : List D) : Option Res := if ds.length = 0 then resO (b_law_met mg sf_begun (startE ds 2)) else none
theorem m_law_met (mg : Str → Option Value) (ds : List D) (r : Res) (hl : ds.length = n_law_met) (hs : sf_law_met mg ds = some r) : resO (b_law_met mg sf_begun (startE ds 2)) = some r := by
  unfold sf_law_met at hs
  rwa [if_pos hl] at hs
theorem met_eq (mg : Str → Option Value) : sf_law_met mg [] = some (.ok (.err (caOf mg "TooMany"))) := by
  have q1 : (esX).contains ("TooMany" : Str) = true := by decide +kernel
  have q2 : subN "TooMany" "HasteError" = true := by decide +kernel
  simp only [sf_law_met, b_law_met, List.length_nil, startE]
  simp [tryKeep, startE, seqS, ifS, nxS, retS, retNS, drpS, putS, asgS, setG, getV, op2, op1, opC, consA, cst, cst0, tstB, asB, tru, truD, orT, andT, notT, andE, orE, ifE, chn, isiF, isTy, addG, mulG, iiG, eqG_ii, eqG_ss, eqG_bb, neG_ii, neG_ss, neG_bb, isNG, notNG, notG, negG, ixG, ixO, lenG, intG, max2G, min2G, mkT, mkL, okD, opX, drpX, putX, retX, mkF, resO, ownS, ocL, ocE, ocD, frzS, borE, borT, borX, flatD, appS, mE, popM, tup2M, rmvS, setS, tupG, consG, nilG, lstN, lstG, itL, itemsL, atI_0, atI_l1, atI_l2, atI_l3, atI_1, atI_2, atI_3, st_wh, st_wf, st_hw, st_hf, st_fw, st_fh, rng1, rng2, whS, forS, prt, sf_begun, q1, q2]
/-! ### the law -/
abbrev n_law : Nat := 1
def sf_law (mg : Str → Option Value) (ds : List D) : Option Res := if ds.length = 1 then resO (b_law mg sf_law_text (sf_law_kinds mg) (sf_law_met mg) (startE ds 5)) else none
theorem m_law (mg : Str → Option Value) (ds : List D) (r : Res) (hl : ds.length = n_law) (hs : sf_law mg ds = some r) : resO (b_law mg sf_law_text (sf_law_kinds mg) (sf_law_met mg) (startE ds 5)) = some r := by
  unfold sf_law at hs
  rwa [if_pos hl] at hs
theorem named {K : PySem.W.Frag} {mg : Str → Option Value} (S : ErrS esX K mg) {c : Str} (hc : c ∈ esX) : nameOf esX mg (caOf mg c) = some c := by
  obtain ⟨C, gC, _⟩ := S.cls c hc
  rw [caOf_eq gC]
  cases h : nameOf esX mg C with
  | none =>
    unfold nameOf at h
    rw [List.find?_eq_none] at h
    exact absurd (by rw [caOf_eq gC]; exact beq_self_eq_true C) (h c hc)
  | some c' =>
    obtain ⟨h1, h2⟩ := nameOf_some h
    obtain ⟨C', gC', _⟩ := S.cls c' h1
    have e : C' = C := (caOf_eq gC').symm.trans h2
    subst e
    have p1 := (S.pair c hc c' (List.mem_cons_of_mem _ h1) C' C' gC gC').2
    have p2 := (S.pair c' h1 c' (List.mem_cons_of_mem _ h1) C' C' gC' gC').2
    rw [p1] at p2
    have p3 := Option.some.inj p2
    have hn : c' ≠ "HasteError" := fun z => by subst z; revert h1; decide +kernel
    unfold subN at p3
    simp only [hn, decide_false, Bool.false_or, decide_true] at p3
    rw [of_decide_eq_true p3]
def rowB (l : List Bool) : D := .lst (l.map .bl)
theorem sf_law_ok {K : PySem.W.Frag} {mg : Str → Option Value} (S : ErrS esX K mg) (ns : List Int) (hl : ns.length ≤ 63) : sf_law mg [.scr ns] = some (.ok (.bl true)) := by
  obtain ⟨t, e1⟩ := text_ok ns
  have k0 := kinds_eq (named S (c := "TooMany") (by decide +kernel))
  have k1 := kinds_eq (named S (c := "BadWorker") (by decide +kernel))
  have k2 := kinds_eq (named S (c := "BadRank") (by decide +kernel))
  have k3 := kinds_eq (named S (c := "BadStart") (by decide +kernel))
  have k4 := kinds_eq (named S (c := "BadPlan") (by decide +kernel))
  have k5 := kinds_eq (named S (c := "NoWorker") (by decide +kernel))
  have d0 : kindsD "TooMany" = .lst [.bl true, .bl false, .bl false, .bl false, .bl false, .bl false, .bl true, .bl true] := by
    unfold kindsD
    rw [show subN "TooMany" "TooMany" = true by decide +kernel, show subN "TooMany" "BadWorker" = false by decide +kernel, show subN "TooMany" "BadRank" = false by decide +kernel, show subN "TooMany" "BadStart" = false by decide +kernel, show subN "TooMany" "BadPlan" = false by decide +kernel, show subN "TooMany" "NoWorker" = false by decide +kernel, show subN "TooMany" "HasteError" = true by decide +kernel]
  have d1 : kindsD "BadWorker" = .lst [.bl false, .bl true, .bl false, .bl false, .bl false, .bl false, .bl true, .bl true] := by
    unfold kindsD
    rw [show subN "BadWorker" "TooMany" = false by decide +kernel, show subN "BadWorker" "BadWorker" = true by decide +kernel, show subN "BadWorker" "BadRank" = false by decide +kernel, show subN "BadWorker" "BadStart" = false by decide +kernel, show subN "BadWorker" "BadPlan" = false by decide +kernel, show subN "BadWorker" "NoWorker" = false by decide +kernel, show subN "BadWorker" "HasteError" = true by decide +kernel]
  have d2 : kindsD "BadRank" = .lst [.bl false, .bl false, .bl true, .bl false, .bl false, .bl false, .bl true, .bl true] := by
    unfold kindsD
    rw [show subN "BadRank" "TooMany" = false by decide +kernel, show subN "BadRank" "BadWorker" = false by decide +kernel, show subN "BadRank" "BadRank" = true by decide +kernel, show subN "BadRank" "BadStart" = false by decide +kernel, show subN "BadRank" "BadPlan" = false by decide +kernel, show subN "BadRank" "NoWorker" = false by decide +kernel, show subN "BadRank" "HasteError" = true by decide +kernel]
  have d3 : kindsD "BadStart" = .lst [.bl false, .bl false, .bl false, .bl true, .bl false, .bl false, .bl true, .bl true] := by
    unfold kindsD
    rw [show subN "BadStart" "TooMany" = false by decide +kernel, show subN "BadStart" "BadWorker" = false by decide +kernel, show subN "BadStart" "BadRank" = false by decide +kernel, show subN "BadStart" "BadStart" = true by decide +kernel, show subN "BadStart" "BadPlan" = false by decide +kernel, show subN "BadStart" "NoWorker" = false by decide +kernel, show subN "BadStart" "HasteError" = true by decide +kernel]
  have d4 : kindsD "BadPlan" = .lst [.bl false, .bl false, .bl false, .bl false, .bl true, .bl false, .bl true, .bl true] := by
    unfold kindsD
    rw [show subN "BadPlan" "TooMany" = false by decide +kernel, show subN "BadPlan" "BadWorker" = false by decide +kernel, show subN "BadPlan" "BadRank" = false by decide +kernel, show subN "BadPlan" "BadStart" = false by decide +kernel, show subN "BadPlan" "BadPlan" = true by decide +kernel, show subN "BadPlan" "NoWorker" = false by decide +kernel, show subN "BadPlan" "HasteError" = true by decide +kernel]
  have d5 : kindsD "NoWorker" = .lst [.bl false, .bl false, .bl false, .bl false, .bl false, .bl true, .bl true, .bl true] := by
    unfold kindsD
    rw [show subN "NoWorker" "TooMany" = false by decide +kernel, show subN "NoWorker" "BadWorker" = false by decide +kernel, show subN "NoWorker" "BadRank" = false by decide +kernel, show subN "NoWorker" "BadStart" = false by decide +kernel, show subN "NoWorker" "BadPlan" = false by decide +kernel, show subN "NoWorker" "NoWorker" = true by decide +kernel, show subN "NoWorker" "HasteError" = true by decide +kernel]
  rw [d0] at k0
  rw [d1] at k1
  rw [d2] at k2
  rw [d3] at k3
  rw [d4] at k4
  rw [d5] at k5
  have e2 := met_eq mg
  have hr : rngD 0 6 = [.int 0, .int 1, .int 2, .int 3, .int 4, .int 5] := rfl
  have one : ∀ (j : Int) (C : Addr) (row : List D) (M : D) (s4 : Sl), 0 ≤ j → ixG M (.int j) = some (.err C) → sf_law_kinds mg [.err C] = some (.ok (.lst row)) → neG (.lst row) (.lst [.bl (decide (0 = j)), .bl (decide (1 = j)), .bl (decide (2 = j)), .bl (decide (3 = j)), .bl (decide (4 = j)), .bl (decide (5 = j)), .bl true, .bl true]) = some (.bl false) →
      b_law_f0 mg sf_law_text (sf_law_kinds mg) (sf_law_met mg) [.val (.scr ns), .val (.str t), .val M, .val (.int j), s4] = some (.nx [.val (.scr ns), .val (.str t), .val M, .val (.int j), s4]) := fun j C row M s4 hj h1 h2 h3 => by
    have hl : lcF (rng1 (consA (cst (.int 6)) (cst0 []))) (setG 4) (cst0 true) (op2 eqG (getV 4) (getV 3)) [4] [.val (.scr ns), .val (.str t), .val M, .val (.int j), s4] = some (.l [.bl (decide (0 = j)), .bl (decide (1 = j)), .bl (decide (2 = j)), .bl (decide (3 = j)), .bl (decide (4 = j)), .bl (decide (5 = j))]) := by
      simp [lcF, startE, seqS, ifS, nxS, retS, retNS, drpS, putS, asgS, setG, getV, op2, op1, opC, consA, cst, cst0, tstB, asB, tru, truD, orT, andT, notT, andE, orE, ifE, chn, isiF, isTy, addG, mulG, iiG, eqG_ii, eqG_ss, eqG_bb, neG_ii, neG_ss, neG_bb, isNG, notNG, notG, negG, ixG, ixO, lenG, intG, max2G, min2G, mkT, mkL, okD, opX, drpX, putX, retX, mkF, resO, ownS, ocL, ocE, ocD, frzS, borE, borT, borX, flatD, appS, mE, popM, tup2M, rmvS, setS, tupG, consG, nilG, lstN, lstG, itL, itemsL, atI_0, atI_l1, atI_l2, atI_l3, atI_1, atI_2, atI_3, st_wh, st_wf, st_hw, st_hf, st_fw, st_fh, rng1, rng2, whS, forS, prt, hr, wipeE, lcL]
    have h1' : op2 ixG (getV 2) (getV 3) [.val (.scr ns), .val (.str t), .val M, .val (.int j), s4] = some (.err C) := h1
    have ha : op2 addG (ocE (lcF (rng1 (consA (cst (.int 6)) (cst0 []))) (setG 4) (cst0 true) (op2 eqG (getV 4) (getV 3)) [4])) (opC mkL (consA (cst (.bl true)) (consA (cst (.bl true)) (cst0 [])))) [.val (.scr ns), .val (.str t), .val M, .val (.int j), s4] = some (.lst [.bl (decide (0 = j)), .bl (decide (1 = j)), .bl (decide (2 = j)), .bl (decide (3 = j)), .bl (decide (4 = j)), .bl (decide (5 = j)), .bl true, .bl true]) := by
      refine op2_of (a := .lst [.bl (decide (0 = j)), .bl (decide (1 = j)), .bl (decide (2 = j)), .bl (decide (3 = j)), .bl (decide (4 = j)), .bl (decide (5 = j))]) (b := .lst [.bl true, .bl true]) ?_ rfl rfl
      unfold ocE
      rw [hl]
      rfl
    have hk : opC (okD (sf_law_kinds mg)) (consA (op2 ixG (getV 2) (getV 3)) (cst0 [])) [.val (.scr ns), .val (.str t), .val M, .val (.int j), s4] = some (.lst row) := by
      simp only [opC, consA, cst0, h1', okD, h2]
    unfold b_law_f0 ifS tstB
    have hn : op2 neG (opC (okD (sf_law_kinds mg)) (consA (op2 ixG (getV 2) (getV 3)) (cst0 []))) (op2 addG (ocE (lcF (rng1 (consA (cst (.int 6)) (cst0 []))) (setG 4) (cst0 true) (op2 eqG (getV 4) (getV 3)) [4])) (opC mkL (consA (cst (.bl true)) (consA (cst (.bl true)) (cst0 []))))) [.val (.scr ns), .val (.str t), .val M, .val (.int j), s4] = some (.bl false) := by
      exact op2_of hk ha h3
    rw [hn]
    rfl
  let M : D := .lst [.err (caOf mg "TooMany"), .err (caOf mg "BadWorker"), .err (caOf mg "BadRank"), .err (caOf mg "BadStart"), .err (caOf mg "BadPlan"), .err (caOf mg "NoWorker")]
  have t0 := one 0 _ _ M .no (by decide) rfl k0 rfl
  have t1 := one 1 _ _ M .no (by decide) rfl k1 rfl
  have t2 := one 2 _ _ M .no (by decide) rfl k2 rfl
  have t3 := one 3 _ _ M .no (by decide) rfl k3 rfl
  have t4 := one 4 _ _ M .no (by decide) rfl k4 rfl
  have t5 := one 5 _ _ M .no (by decide) rfl k5 rfl
  have loop : forL (setG 3) (b_law_f0 mg sf_law_text (sf_law_kinds mg) (sf_law_met mg)) [.int 0, .int 1, .int 2, .int 3, .int 4, .int 5] [.val (.scr ns), .val (.str t), .val M, .no, .no] = some (.nx [.val (.scr ns), .val (.str t), .val M, .val (.int 5), .no]) :=
    (forL_nx rfl t0).trans ((forL_nx rfl t1).trans ((forL_nx rfl t2).trans ((forL_nx rfl t3).trans ((forL_nx rfl t4).trans ((forL_nx rfl t5).trans rfl)))))
  have s1 : putS 1 (opC (okD sf_law_text) (consA (getV 0) (cst0 []))) (startE [.scr ns] 5) = some (.nx [.val (.scr ns), .val (.str t), .no, .no, .no]) := by
    show putS 1 (opC (okD sf_law_text) (consA (getV 0) (cst0 []))) [.val (.scr ns), .no, .no, .no, .no] = _
    simp [putS, asgS, opC, okD, consA, cst0, getV, e1, setG]
  have s2 : putS 2 (opC mkL (consA (excN (caOf mg "TooMany") (getV 1)) (consA (excN (caOf mg "BadWorker") (getV 1)) (consA (excN (caOf mg "BadRank") (getV 1)) (consA (excN (caOf mg "BadStart") (getV 1)) (consA (excN (caOf mg "BadPlan") (getV 1)) (consA (excN (caOf mg "NoWorker") (getV 1)) (cst0 [])))))))) [.val (.scr ns), .val (.str t), .no, .no, .no] = some (.nx [.val (.scr ns), .val (.str t), .val M, .no, .no]) := rfl
  have s3 : forS (rng1 (consA (cst (.int 6)) (cst0 []))) (setG 3) (b_law_f0 mg sf_law_text (sf_law_kinds mg) (sf_law_met mg)) [.val (.scr ns), .val (.str t), .val M, .no, .no] = some (.nx [.val (.scr ns), .val (.str t), .val M, .val (.int 5), .no]) := by
    have : rng1 (consA (cst (.int 6)) (cst0 [])) [.val (.scr ns), .val (.str t), .val M, .no, .no] = some [.int 0, .int 1, .int 2, .int 3, .int 4, .int 5] := rfl
    unfold forS
    rw [this]
    exact loop
  have f1 : opC (okD (sf_law_kinds mg)) (consA (opC (okD (sf_law_met mg)) (cst0 [])) (cst0 [])) [.val (.scr ns), .val (.str t), .val M, .val (.int 5), .no] = some (.lst [.bl true, .bl false, .bl false, .bl false, .bl false, .bl false, .bl true, .bl true]) := by
    simp only [opC, okD, consA, cst0, e2, k0]
  have f2 : opC (okD (sf_law_kinds mg)) (consA (op2 ixG (getV 2) (cst (.int 0))) (cst0 [])) [.val (.scr ns), .val (.str t), .val M, .val (.int 5), .no] = some (.lst [.bl true, .bl false, .bl false, .bl false, .bl false, .bl false, .bl true, .bl true]) := by
    have : op2 ixG (getV 2) (cst (.int 0)) [.val (.scr ns), .val (.str t), .val M, .val (.int 5), .no] = some (.err (caOf mg "TooMany")) := rfl
    simp only [opC, okD, consA, cst0, this, k0]
  have f3 := op2_of (g := eqG) f1 f2 (show _ = some (D.bl true) from rfl)
  unfold sf_law
  rw [if_pos (by rfl)]
  unfold b_law seqS
  rw [s1]
  simp only
  rw [s2]
  simp only
  rw [s3]
  simp only
  unfold retS
  rw [f3]
  rfl
end LH

namespace LH
open PySem PySem.Spec PyProof.Rows L2 Evl DL

def topS (i : Nat) : Stmt := PySem.Challenge.pw_lenthaste_k15_refusals_made.main.body.getD i (.Pass ⟨0, 0, 0, 0⟩)
abbrev s_check_worker : Stmt := topS 21
def N_check_worker : List Str := ["worker", "ranks", "rank", "start", "plan"]
theorem sc_check_worker : FnScope N_check_worker ["worker", "ranks"] (defScope s_check_worker) := ⟨rfl, rfl, rfl, by decide +kernel, rfl, by decide +kernel, by decide +kernel⟩
abbrev s_copied : Stmt := topS 22
def N_copied : List Str := ["workers", "rank", "start", "plan"]
theorem sc_copied : FnScope N_copied ["workers"] (defScope s_copied) := ⟨rfl, rfl, rfl, by decide +kernel, rfl, by decide +kernel, by decide +kernel⟩
abbrev s_begun : Stmt := topS 23
def N_begun : List Str := ["workers", "ranks", "worker", "_"]
theorem sc_begun : FnScope N_begun ["workers"] (defScope s_begun) := ⟨rfl, rfl, rfl, by decide +kernel, rfl, by decide +kernel, by decide +kernel⟩
abbrev s_law_cell_at : Stmt := topS 25
def N_law_cell_at : List Str := ["_law_script", "_law_k"]
theorem sc_law_cell_at : FnScope N_law_cell_at ["_law_script", "_law_k"] (defScope s_law_cell_at) := ⟨rfl, rfl, rfl, by decide +kernel, rfl, by decide +kernel, by decide +kernel⟩
abbrev s_law_text : Stmt := topS 26
def N_law_text : List Str := ["_law_script", "_law_text_here", "_law_k"]
theorem sc_law_text : FnScope N_law_text ["_law_script"] (defScope s_law_text) := ⟨rfl, rfl, rfl, by decide +kernel, rfl, by decide +kernel, by decide +kernel⟩
abbrev s_law_kinds : Stmt := topS 27
def N_law_kinds : List Str := ["_law_error", "_law_found"]
theorem sc_law_kinds : FnScope N_law_kinds ["_law_error"] (defScope s_law_kinds) := ⟨rfl, rfl, rfl, by decide +kernel, rfl, by decide +kernel, by decide +kernel⟩
abbrev s_law_met : Stmt := topS 28
def N_law_met : List Str := ["_law_met_here", "_law_error"]
theorem sc_law_met : FnScope N_law_met [] (defScope s_law_met) := ⟨rfl, rfl, rfl, by decide +kernel, rfl, by decide +kernel, by decide +kernel⟩
abbrev s_law : Stmt := topS 29
def N_law : List Str := ["_law_script", "_law_text_here", "_law_made", "_law_k", "_law_j"]
theorem sc_law : FnScope N_law ["_law_script"] (defScope s_law) := ⟨rfl, rfl, rfl, by decide +kernel, rfl, by decide +kernel, by decide +kernel⟩
structure Tx (K : PySem.W.Frag) (mg : Str → Option Value) : Prop where
  b_ValueError : mg "ValueError" = none
  b_all : mg "all" = none
  b_bool : mg "bool" = none
  b_enumerate : mg "enumerate" = none
  b_int : mg "int" = none
  b_isinstance : mg "isinstance" = none
  b_len : mg "len" = none
  b_list : mg "list" = none
  b_max : mg "max" = none
  b_range : mg "range" = none
  b_tuple : mg "tuple" = none
  f_check_worker : ∃ f fd, Fun K "check_worker" "check_worker" s_check_worker f fd ∧ mg "check_worker" = some (.ref f)
  f_copied : ∃ f fd, Fun K "copied" "copied" s_copied f fd ∧ mg "copied" = some (.ref f)
  f_begun : ∃ f fd, Fun K "begun" "begun" s_begun f fd ∧ mg "begun" = some (.ref f)
  f_law_cell_at : ∃ f fd, Fun K "_law_cell_at" "_law_cell_at" s_law_cell_at f fd ∧ mg "_law_cell_at" = some (.ref f)
  f_law_text : ∃ f fd, Fun K "_law_text" "_law_text" s_law_text f fd ∧ mg "_law_text" = some (.ref f)
  f_law_kinds : ∃ f fd, Fun K "_law_kinds" "_law_kinds" s_law_kinds f fd ∧ mg "_law_kinds" = some (.ref f)
  f_law_met : ∃ f fd, Fun K "_law_met" "_law_met" s_law_met f fd ∧ mg "_law_met" = some (.ref f)
  f_law : ∃ f fd, Fun K "law" "law" s_law f fd ∧ mg "law" = some (.ref f)
  c_MOST_STEPS : ∃ t, mg "MOST_STEPS" = some (.int 40 t)
  c_MOST_WORK : ∃ t, mg "MOST_WORK" = some (.int 100 t)
  c_MOST_TOOL : ∃ t, mg "MOST_TOOL" = some (.int 9 t)
  c_MOST_WORKERS : ∃ t, mg "MOST_WORKERS" = some (.int 8 t)
  c_MOST_RANK : ∃ t, mg "MOST_RANK" = some (.int 1000000 t)
  c_MOST_START : ∃ t, mg "MOST_START" = some (.int 1000 t)
  errs : ErrS ["TooMany", "BadWorker", "BadRank", "BadStart", "BadPlan", "NoWorker"] K mg
variable {P : Program} {w : World} {K : PySem.W.Frag} {mg : Str → Option Value} {base : Heap}
theorem c_check_worker (T : Tx K mg) : Cl P w K mg base "check_worker" 1 n_check_worker sf_check_worker := by
  obtain ⟨f, fd, F, hm⟩ := T.f_check_worker
  have hb : L2.Binds K fd ["worker", "ranks"] [] := F.binds (ps := ["worker", "ranks"]) fun _ _ _ _ _ _ us hl => match us, hl with | [_, _], _ => rfl
  exact ⟨f, fd, ["worker", "ranks"], fnok_no hb, hm, F.kp, hb⟩
theorem c_copied (T : Tx K mg) : Cl P w K mg base "copied" 1 n_copied sf_copied := by
  obtain ⟨f, fd, F, hm⟩ := T.f_copied
  have hb : L2.Binds K fd ["workers"] [] := F.binds (ps := ["workers"]) fun _ _ _ _ _ _ us hl => match us, hl with | [_], _ => rfl
  exact ⟨f, fd, ["workers"], fnok_no hb, hm, F.kp, hb⟩
theorem c_begun (T : Tx K mg) (c_check_worker : Cl P w K mg base "check_worker" 1 n_check_worker sf_check_worker) (c_copied : Cl P w K mg base "copied" 1 n_copied sf_copied) : Cl P w K mg base "begun" 2 n_begun sf_begun := by
  obtain ⟨f, fd, F, hm⟩ := T.f_begun
  have hb : L2.Binds K fd ["workers"] [] := F.binds (ps := ["workers"]) fun _ _ _ _ _ _ us hl => match us, hl with | [_], _ => rfl
  refine ⟨f, fd, ["workers"], fn_ok (B := (b_begun sf_check_worker sf_copied)) (N := N_begun) F sc_begun rfl (fun cdv A outer s H E hr => ?_) m_begun, hm, F.kp, hb⟩
  exact (ds_cons (ds_if (dt_not (dt_chn op_le r2_le op_le r2_le de_int (de_callB call_len_seq rc_len (by rfl) T.b_len (by decide +kernel) (da_cons (de_var 0) da_nil)) (de_globI2 (by rfl) T.c_MOST_WORKERS))) (ds_one (ds_raiseA T.errs (by decide) rfl (takes_of rfl rfl rfl rfl) (by rfl) (da_cons (de_joined (pj_cons de_str (pj_cons (de_fmt (de_globI2 (by rfl) T.c_MOST_WORKERS)) (pj_cons de_str PJ.nil)))) da_nil) (al_cons al_nil))) ds_nil) (ds_cons (ds_own (i := 1) sc_begun.nd rfl (by first | exact .inl rfl | exact .inr rfl) (dn_lst da_nil)) (ds_cons (ds_for (ws := [2]) (B := (b_begun_f0 sf_check_worker sf_copied)) (passes_of rfl) rfl (di_list (de_var 0)) (dg_name (i := 2) sc_begun.nd rfl (by first | exact .inl rfl | exact .inr rfl) (by decide)) (ds_cons (ds_exprX (dx_bor 1 (dx_callC c_check_worker hr (by decide) (by rfl) (takes_of rfl rfl rfl rfl) (da_cons (de_var 2) (da_cons (de_var 1) da_nil)) (al_cons (al_cons al_nil))))) (ds_one (ds_append (i := 1) (pv 1) (dm_e (de_ix ix_any r2_ix (de_var 2) de_int)))))) (ds_one (ds_ret (de_tup (da_cons (de_callC c_copied hr (by decide) (by rfl) (da_cons (de_var 0) da_nil) (al_cons al_nil)) (da_cons de_int (da_cons (de_new (dn_lc rfl sc_begun.nd (di_list (de_var 0)) (blkOk_by (own := [("_", 3)]) (N := N_begun) (sc := defScope s_begun) (by decide +kernel)) rfl (fun _ _ _ _ _ => (dg_name (i := 3) sc_begun.nd rfl (by first | exact .inl rfl | exact .inr rfl) (by decide))) (fun _ _ _ _ _ => dts_nil) (fun _ _ _ _ _ => (de_tup (da_cons de_int (da_cons de_int da_nil)))))) da_nil)))))))))
theorem c_law_cell_at (T : Tx K mg)  : Cl P w K mg base "_law_cell_at" 1 n_law_cell_at sf_law_cell_at := by
  obtain ⟨f, fd, F, hm⟩ := T.f_law_cell_at
  have hb : L2.Binds K fd ["_law_script", "_law_k"] [] := F.binds (ps := ["_law_script", "_law_k"]) fun _ _ _ _ _ _ us hl => match us, hl with | [_, _], _ => rfl
  refine ⟨f, fd, ["_law_script", "_law_k"], fn_ok (B := b_law_cell_at) (N := N_law_cell_at) F sc_law_cell_at rfl (fun cdv A outer s H E hr => ?_) m_law_cell_at, hm, F.kp, hb⟩
  exact (ds_cons (ds_if (dt_cmp op_lt r2_lt (de_var 1) (de_callB call_len_seq rc_len (by rfl) T.b_len (by decide +kernel) (da_cons (de_var 0) da_nil)) (nomark _)) (ds_one (ds_ret (de_ix ix_any r2_ix (de_var 0) (de_var 1)))) ds_nil) (ds_one (ds_ret de_int)))
theorem c_law_text (T : Tx K mg) (c_law_cell_at : Cl P w K mg base "_law_cell_at" 1 n_law_cell_at sf_law_cell_at) : Cl P w K mg base "_law_text" 2 n_law_text sf_law_text := by
  obtain ⟨f, fd, F, hm⟩ := T.f_law_text
  have hb : L2.Binds K fd ["_law_script"] [] := F.binds (ps := ["_law_script"]) fun _ _ _ _ _ _ us hl => match us, hl with | [_], _ => rfl
  refine ⟨f, fd, ["_law_script"], fn_ok (B := (b_law_text sf_law_cell_at)) (N := N_law_text) F sc_law_text rfl (fun cdv A outer s H E hr => ?_) m_law_text, hm, F.kp, hb⟩
  exact (ds_cons (ds_set (i := 1) sc_law_text.nd rfl (by first | exact .inl rfl | exact .inr rfl) de_str) (ds_cons (ds_for (ws := [2]) (B := (b_law_text_f0 sf_law_cell_at)) (passes_of rfl) rfl (di_rng1 (by rfl) T.b_range (da_cons (de_op op_mod r2_mod (de_callC c_law_cell_at hr (by decide) (by rfl) (da_cons (de_var 0) (da_cons de_int da_nil)) (al_cons (al_cons al_nil))) de_int) da_nil)) (dg_name (i := 2) sc_law_text.nd rfl (by first | exact .inl rfl | exact .inr rfl) (by decide)) (ds_one (ds_set (i := 1) sc_law_text.nd rfl (by first | exact .inl rfl | exact .inr rfl) (de_op op_addA r2_add (de_var 1) (de_ix ix_str r2_ixS de_str (de_op op_mod r2_mod (de_op op_addA r2_add (de_op op_mulA r2_mul (de_callC c_law_cell_at hr (by decide) (by rfl) (da_cons (de_var 0) (da_cons de_int da_nil)) (al_cons (al_cons al_nil))) (de_op op_addA r2_add (de_var 2) de_int)) (de_op op_mulA r2_mul (de_var 2) (de_var 2))) de_int)))))) (ds_one (ds_ret (de_var 1)))))
theorem c_law_kinds (T : Tx K mg)  : Cl P w K mg base "_law_kinds" 1 n_law_kinds (sf_law_kinds mg) := by
  obtain ⟨f, fd, F, hm⟩ := T.f_law_kinds
  have hb : L2.Binds K fd ["_law_error"] [] := F.binds (ps := ["_law_error"]) fun _ _ _ _ _ _ us hl => match us, hl with | [_], _ => rfl
  refine ⟨f, fd, ["_law_error"], fn_ok (B := b_law_kinds mg) (N := N_law_kinds) F sc_law_kinds rfl (fun cdv A outer s H E hr => ?_) (m_law_kinds mg), hm, F.kp, hb⟩
  exact (ds_cons (ds_set (i := 1) sc_law_kinds.nd rfl (by first | exact .inl rfl | exact .inr rfl) (de_lst (da_cons (de_isX T.errs (by decide) (by rfl) T.b_isinstance (by rfl) (de_var 0)) (da_cons (de_isX T.errs (by decide) (by rfl) T.b_isinstance (by rfl) (de_var 0)) (da_cons (de_isX T.errs (by decide) (by rfl) T.b_isinstance (by rfl) (de_var 0)) da_nil))))) (ds_cons (ds_set (i := 1) sc_law_kinds.nd rfl (by first | exact .inl rfl | exact .inr rfl) (de_op op_addA r2_add (de_var 1) (de_lst (da_cons (de_isX T.errs (by decide) (by rfl) T.b_isinstance (by rfl) (de_var 0)) (da_cons (de_isX T.errs (by decide) (by rfl) T.b_isinstance (by rfl) (de_var 0)) (da_cons (de_isX T.errs (by decide) (by rfl) T.b_isinstance (by rfl) (de_var 0)) da_nil)))))) (ds_one (ds_ret (de_op op_addA r2_add (de_var 1) (de_lst (da_cons (de_isX T.errs (by decide) (by rfl) T.b_isinstance (by rfl) (de_var 0)) (da_cons (de_isV T.errs (by rfl) T.b_isinstance (by rfl) T.b_ValueError (de_var 0)) da_nil))))))))
theorem c_law_met (T : Tx K mg) (c_begun : Cl P w K mg base "begun" 2 n_begun sf_begun) : Cl P w K mg base "_law_met" 3 n_law_met (sf_law_met mg) := by
  obtain ⟨f, fd, F, hm⟩ := T.f_law_met
  have hb : L2.Binds K fd [] [] := F.binds (ps := []) fun _ _ _ _ _ _ us hl => match us, hl with | [], _ => rfl
  refine ⟨f, fd, [], fn_ok (B := (b_law_met mg sf_begun)) (N := N_law_met) F sc_law_met rfl (fun cdv A outer s H E hr => ?_) (m_law_met mg), hm, F.kp, hb⟩
  exact (ds_cons (ds_set (i := 0) sc_law_met.nd rfl (by first | exact .inl rfl | exact .inr rfl) de_non) (ds_cons (ds_try_keep (i := 1) (j := 0) T.errs (by decide) rfl rfl rfl sc_law_met.nd rfl rfl (by decide) rfl (by rfl) (takes_of rfl rfl rfl rfl) (by decide) (fun W pn xe tk _ => (ds_one (ds_exprX (dx_callC c_begun hr (by decide) (by rfl) tk (da_cons (de_lst da_nil) da_nil) (al_cons al_nil))))) (fun a oe pn => ps_set sc_law_met.nd rfl (by first | exact .inl rfl | exact .inr rfl) (pv 1))) (ds_one (ds_ret (de_var 0)))))
theorem k_law {f : Addr} {fd : FuncData} (F : Fun K "law" "law" s_law f fd) (T : Tx K mg) (c_law_text : Cl P w K mg base "_law_text" 2 n_law_text sf_law_text) (c_law_kinds : Cl P w K mg base "_law_kinds" 1 n_law_kinds (sf_law_kinds mg)) (c_law_met : Cl P w K mg base "_law_met" 3 n_law_met (sf_law_met mg)) : FnOk P w K mg base (L2.CX P w) 4 f fd ["_law_script"] (spF K mg 1 (sf_law mg)) := by
  refine fn_ok (B := (b_law mg sf_law_text (sf_law_kinds mg) (sf_law_met mg))) (N := N_law) F sc_law rfl (fun cdv A outer s H E hr => ?_) (m_law mg)
  exact (ds_cons (ds_set (i := 1) sc_law.nd rfl (by first | exact .inl rfl | exact .inr rfl) (de_callC c_law_text hr (by decide) (by rfl) (da_cons (de_var 0) da_nil) (al_cons al_nil))) (ds_cons (ds_set (i := 2) sc_law.nd rfl (by first | exact .inl rfl | exact .inr rfl) (de_lst (da_cons (de_exc T.errs (by decide) (by rfl) (de_var 1)) (da_cons (de_exc T.errs (by decide) (by rfl) (de_var 1)) (da_cons (de_exc T.errs (by decide) (by rfl) (de_var 1)) (da_cons (de_exc T.errs (by decide) (by rfl) (de_var 1)) (da_cons (de_exc T.errs (by decide) (by rfl) (de_var 1)) (da_cons (de_exc T.errs (by decide) (by rfl) (de_var 1)) da_nil)))))))) (ds_cons (ds_for (ws := [3]) (B := (b_law_f0 mg sf_law_text (sf_law_kinds mg) (sf_law_met mg))) (passes_of rfl) rfl (di_rng1 (by rfl) T.b_range (da_cons de_int da_nil)) (dg_name (i := 3) sc_law.nd rfl (by first | exact .inl rfl | exact .inr rfl) (by decide)) (ds_one (ds_if (dt_cmp (op_neA hr) r2_ne (de_callC c_law_kinds hr (by decide) (by rfl) (da_cons (de_ix ix_any r2_ix (de_var 2) (de_var 3)) da_nil) (al_cons al_nil)) (de_op op_addA r2_add (de_new (dn_lc rfl sc_law.nd (di_rng1 (by rfl) T.b_range (da_cons de_int da_nil)) (blkOk_by (own := [("_law_j", 4)]) (N := N_law) (sc := defScope s_law) (by decide +kernel)) rfl (fun _ _ _ _ _ => (dg_name (i := 4) sc_law.nd rfl (by first | exact .inl rfl | exact .inr rfl) (by decide))) (fun _ _ _ _ _ => dts_nil) (fun _ _ _ _ _ => (de_cmp (op_eqA hr) r2_eq (de_var 4) (de_var 3) (nomark _))))) (de_lst (da_cons de_bl (da_cons de_bl da_nil)))) (nomark _)) (ds_one (ds_ret de_bl)) ds_nil))) (ds_one (ds_ret (de_cmp (op_eqA hr) r2_eq (de_callC c_law_kinds hr (by decide) (by rfl) (da_cons (de_callC0 c_law_met hr (by decide) (by rfl)) da_nil) (al_cons al_nil)) (de_callC c_law_kinds hr (by decide) (by rfl) (da_cons (de_ix ix_any r2_ix (de_var 2) de_int) da_nil) (al_cons al_nil)) (nomark _)))))))
end LH

namespace LH
open PySem PySem.Spec PyProof.Rows L2 Evl DL

def fns : List He.DefD := [⟨("check_worker", none), "check_worker", "check_worker", defArgs s_check_worker, defBody s_check_worker, defScope s_check_worker, [], []⟩, ⟨("copied", none), "copied", "copied", defArgs s_copied, defBody s_copied, defScope s_copied, [], []⟩, ⟨("begun", none), "begun", "begun", defArgs s_begun, defBody s_begun, defScope s_begun, [], []⟩, ⟨("_law_cell_at", none), "_law_cell_at", "_law_cell_at", defArgs s_law_cell_at, defBody s_law_cell_at, defScope s_law_cell_at, [], []⟩, ⟨("_law_text", none), "_law_text", "_law_text", defArgs s_law_text, defBody s_law_text, defScope s_law_text, [], []⟩, ⟨("_law_kinds", none), "_law_kinds", "_law_kinds", defArgs s_law_kinds, defBody s_law_kinds, defScope s_law_kinds, [], []⟩, ⟨("_law_met", none), "_law_met", "_law_met", defArgs s_law_met, defBody s_law_met, defScope s_law_met, [], []⟩, ⟨("law", none), "law", "law", defArgs s_law, defBody s_law, defScope s_law, [], []⟩]
def facts : List He.Fa := ([.glo "check_worker", .glo "copied", .glo "begun", .glo "_law_cell_at", .glo "_law_text", .glo "_law_kinds", .glo "_law_met", .glo "law", .free "ValueError", .free "all", .free "bool", .free "enumerate", .free "int", .free "isinstance", .free "len", .free "list", .free "max", .free "range", .free "tuple", .int "MOST_STEPS" (40), .int "MOST_WORK" (100), .int "MOST_TOOL" (9), .int "MOST_WORKERS" (8), .int "MOST_RANK" (1000000), .int "MOST_START" (1000), .glo "HasteError", .exc "HasteError", .glo "TooMany", .exc "TooMany", .glo "BadWorker"] : List He.Fa) ++ ([.exc "BadWorker", .glo "BadRank", .exc "BadRank", .glo "BadStart", .exc "BadStart", .glo "BadPlan", .exc "BadPlan", .glo "NoWorker", .exc "NoWorker", .exm "HasteError" "HasteError" true, .exm "HasteError" "TooMany" false, .exm "HasteError" "BadWorker" false, .exm "HasteError" "BadRank" false, .exm "HasteError" "BadStart" false, .exm "HasteError" "BadPlan" false, .exm "HasteError" "NoWorker" false, .exm "TooMany" "HasteError" true, .exm "TooMany" "TooMany" true, .exm "TooMany" "BadWorker" false, .exm "TooMany" "BadRank" false, .exm "TooMany" "BadStart" false, .exm "TooMany" "BadPlan" false, .exm "TooMany" "NoWorker" false, .exm "BadWorker" "HasteError" true, .exm "BadWorker" "TooMany" false, .exm "BadWorker" "BadWorker" true, .exm "BadWorker" "BadRank" false, .exm "BadWorker" "BadStart" false, .exm "BadWorker" "BadPlan" false, .exm "BadWorker" "NoWorker" false] : List He.Fa) ++ ([.exm "BadRank" "HasteError" true, .exm "BadRank" "TooMany" false, .exm "BadRank" "BadWorker" false, .exm "BadRank" "BadRank" true, .exm "BadRank" "BadStart" false, .exm "BadRank" "BadPlan" false, .exm "BadRank" "NoWorker" false, .exm "BadStart" "HasteError" true, .exm "BadStart" "TooMany" false, .exm "BadStart" "BadWorker" false, .exm "BadStart" "BadRank" false, .exm "BadStart" "BadStart" true, .exm "BadStart" "BadPlan" false, .exm "BadStart" "NoWorker" false, .exm "BadPlan" "HasteError" true, .exm "BadPlan" "TooMany" false, .exm "BadPlan" "BadWorker" false, .exm "BadPlan" "BadRank" false, .exm "BadPlan" "BadStart" false, .exm "BadPlan" "BadPlan" true, .exm "BadPlan" "NoWorker" false, .exm "NoWorker" "HasteError" true, .exm "NoWorker" "TooMany" false, .exm "NoWorker" "BadWorker" false, .exm "NoWorker" "BadRank" false, .exm "NoWorker" "BadStart" false, .exm "NoWorker" "BadPlan" false, .exm "NoWorker" "NoWorker" true] : List He.Fa)
abbrev RR : PySem.W.OpenRow := PySem.W.OpenLaw.row PySem.Challenge.rw_lenthaste_k15_refusals_made
def more : PySem.W.Frag → Bool := (errMore ["TooMany", "BadWorker", "BadRank", "BadStart", "BadPlan", "NoWorker"])
abbrev hk : PySem.W.Hook := He.hookX 4 facts fns [] [] more
def ob (s : PySem.W.SharedT) : He.AlX := He.obsX 4 facts fns [] [] more (HandSHeadRun.getT s)
theorem ob_eq (s : PySem.W.SharedT) : ob s = hk.obs s.abs := He.obsX_eq (HandSHeadRun.getT_eq s)
def loose : List PySem.Str := (["HasteError", "TooMany", "BadWorker", "BadRank", "BadStart", "BadPlan", "NoWorker", "MOST_STEPS", "MOST_WORK", "MOST_TOOL", "is_number", "is_step", "held_after", "holds_rightly", "is_plan", "MOST_WORKERS", "MOST_RANK", "MOST_START", "check_worker", "copied"] : List PySem.Str) ++ (["begun", "_law_cell_at", "_law_text", "_law_kinds", "_law_met"] : List PySem.Str)
theorem run (w : World) : HandSHeadRun.RunEq RR (PySem.W.view RR.prog [29]) hk ob 4000 loose w := by
  intro os
  kernel_rfl
theorem tx_of {K : PySem.W.Frag} {mg : Str → Option Value} {h : Heap} (KX : K.In h) (G : h.Ns mainGlobals mg) (c : He.SaysD facts fns K) (em : more K = true) : Tx K mg where
  b_ValueError := He.free_ok KX G (c.fact 8)
  b_all := He.free_ok KX G (c.fact 9)
  b_bool := He.free_ok KX G (c.fact 10)
  b_enumerate := He.free_ok KX G (c.fact 11)
  b_int := He.free_ok KX G (c.fact 12)
  b_isinstance := He.free_ok KX G (c.fact 13)
  b_len := He.free_ok KX G (c.fact 14)
  b_list := He.free_ok KX G (c.fact 15)
  b_max := He.free_ok KX G (c.fact 16)
  b_range := He.free_ok KX G (c.fact 17)
  b_tuple := He.free_ok KX G (c.fact 18)
  f_check_worker := (fun ⟨fd, F⟩ => ⟨_, fd, F, (He.glo_ok KX G (c.fact 0))⟩) (fun_at c 0 (x := "check_worker") rfl)
  f_copied := (fun ⟨fd, F⟩ => ⟨_, fd, F, (He.glo_ok KX G (c.fact 1))⟩) (fun_at c 1 (x := "copied") rfl)
  f_begun := (fun ⟨fd, F⟩ => ⟨_, fd, F, (He.glo_ok KX G (c.fact 2))⟩) (fun_at c 2 (x := "begun") rfl)
  f_law_cell_at := (fun ⟨fd, F⟩ => ⟨_, fd, F, (He.glo_ok KX G (c.fact 3))⟩) (fun_at c 3 (x := "_law_cell_at") rfl)
  f_law_text := (fun ⟨fd, F⟩ => ⟨_, fd, F, (He.glo_ok KX G (c.fact 4))⟩) (fun_at c 4 (x := "_law_text") rfl)
  f_law_kinds := (fun ⟨fd, F⟩ => ⟨_, fd, F, (He.glo_ok KX G (c.fact 5))⟩) (fun_at c 5 (x := "_law_kinds") rfl)
  f_law_met := (fun ⟨fd, F⟩ => ⟨_, fd, F, (He.glo_ok KX G (c.fact 6))⟩) (fun_at c 6 (x := "_law_met") rfl)
  f_law := (fun ⟨fd, F⟩ => ⟨_, fd, F, (He.glo_ok KX G (c.fact 7))⟩) (fun_at c 7 (x := "law") rfl)
  c_MOST_STEPS := He.int_ok KX G (c.fact 19)
  c_MOST_WORK := He.int_ok KX G (c.fact 20)
  c_MOST_TOOL := He.int_ok KX G (c.fact 21)
  c_MOST_WORKERS := He.int_ok KX G (c.fact 22)
  c_MOST_RANK := He.int_ok KX G (c.fact 23)
  c_MOST_START := He.int_ok KX G (c.fact 24)
  errs := errS_of em (fun e he => by
    simp only [List.mem_cons, List.not_mem_nil, or_false] at he
    rcases he with rfl | rfl | rfl | rfl | rfl | rfl | rfl
    · exact (He.glo_ok KX G (c.fact 25))
    · exact (He.glo_ok KX G (c.fact 27))
    · exact (He.glo_ok KX G (c.fact 29))
    · exact (He.glo_ok KX G (c.fact 31))
    · exact (He.glo_ok KX G (c.fact 33))
    · exact (He.glo_ok KX G (c.fact 35))
    · exact (He.glo_ok KX G (c.fact 37))) (fun e he => by
    simp only [List.mem_cons, List.not_mem_nil, or_false] at he
    rcases he with rfl | rfl | rfl | rfl | rfl | rfl
    · exact c.fact 28
    · exact c.fact 30
    · exact c.fact 32
    · exact c.fact 34
    · exact c.fact 36
    · exact c.fact 38)
theorem close {w : World} {mg : Str → Option Value} {fa : Addr} {h : Heap} (Y : hk.says w h) (G : h.Ns mainGlobals mg) (hmg : mg "law" = some (.ref fa)) :
    ∃ (K : PySem.W.Frag) (fd : FuncData) (sp : Sp), K.In h ∧ (∀ (s : Shared) (u : Value), BindsTo s fd ⟨[u], []⟩ [("_law_script", u)]) ∧
      (∀ (H : Hp) (a : Addr) (ns : List Int), ns.length ≤ 63 → Only H → SqL K H a (ns.map V.int) → sp [.ref a] H (fun v _ => v = .bl true) fun _ _ _ => False) ∧
      ∀ base : Heap, K.In base → base.Ns mainGlobals mg → FnOk RR.prog w K mg base (CXa RR.prog) 4 fa fd ["_law_script"] sp := by
  obtain ⟨K, KX, c⟩ := Y
  have T := tx_of KX G c.t.d c.more
  obtain ⟨f, fd, F, hf⟩ := T.f_law
  rw [hmg] at hf
  cases hf
  refine top_of (p := "_law_script") (sf := (sf_law mg)) KX F (fun s u => by
      obtain ⟨_, _, _, _, _, _, _, _, _, rfl, _⟩ := F.ex
      exact .of_eq rfl) (fun base hK hN => ?_) (fun ns hl => sf_law_ok T.errs ns hl)
  have c_check_worker : Cl RR.prog w K mg base "check_worker" 1 n_check_worker sf_check_worker := c_check_worker T
  have c_copied : Cl RR.prog w K mg base "copied" 1 n_copied sf_copied := c_copied T
  have c_begun : Cl RR.prog w K mg base "begun" 2 n_begun sf_begun := c_begun T c_check_worker c_copied
  have c_law_cell_at : Cl RR.prog w K mg base "_law_cell_at" 1 n_law_cell_at sf_law_cell_at := c_law_cell_at T
  have c_law_text : Cl RR.prog w K mg base "_law_text" 2 n_law_text sf_law_text := c_law_text T c_law_cell_at
  have c_law_kinds : Cl RR.prog w K mg base "_law_kinds" 1 n_law_kinds (sf_law_kinds mg) := c_law_kinds T
  have c_law_met : Cl RR.prog w K mg base "_law_met" 3 n_law_met (sf_law_met mg) := c_law_met T c_begun
  exact k_law F T c_law_text c_law_kinds c_law_met
end LH

open PySem PySem.W PySem.Calls PyProof.Rows
theorem PySem.Challenge.cw_lenthaste_k15_refusals_made_holds : PySem.Challenge.rw_lenthaste_k15_refusals_made.Holds := by
  w_on; o_law
  refine HandSHeadRun.head_any (r := OpenLaw.row PySem.Challenge.rw_lenthaste_k15_refusals_made) (q := view (OpenLaw.row PySem.Challenge.rw_lenthaste_k15_refusals_made).prog [29]) (H := LH.hk) (ob := LH.ob) (M := 4000) (loose := LH.loose) (d := HandSHeadRun.topDef (OpenLaw.row PySem.Challenge.rw_lenthaste_k15_refusals_made).prog 29) (kwd := []) LH.ob_eq
    (by kernel_rfl) (fun s => by kernel_rfl) LH.run (by kernel_rfl) (by kernel_rfl) (by kernel_rfl) (by rfl) (by first | assumption | decide +kernel) (by decide +kernel) ⟨rfl, rfl, rfl, rfl, rfl, by decide +kernel⟩ ?hw ?hc
  case hw => w_witness2
  case hc =>
    refine L2.walk_ofE (l := PySem.Challenge.rw_lenthaste_k15_refusals_made) (n := 63) (k := 4) (x := "_law_script") (CX := DL.CXa (PySem.Challenge.rw_lenthaste_k15_refusals_made).prog) rfl (by decide) (by kernel_rfl) ⟨rfl, by decide, by decide⟩ ?F ?C
    case F =>
      intro w mg fa h Y G hmg0
      have hmg : mg ("law" : PySem.Str) = some (.ref fa) := by
        have e : (HandSHeadRun.topDef (OpenLaw.row PySem.Challenge.rw_lenthaste_k15_refusals_made).prog 29).name = ("law" : PySem.Str) := by kernel_rfl
        rw [← e]
        exact hmg0
      exact LH.close Y G hmg
    case C => exact fun _ _ _ _ z => DL.noXa z

