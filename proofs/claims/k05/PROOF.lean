import PyProof.Rows.All
import Wide.All
import OpenK.AllK
import Wide.FinOn
import HandS.ForMost
import HandS.ForExc
import HandS.Walk
import HandS.Zip
import HandS.Star
import HandS.Property
import HandS.ClsMeth
import HandS.ExcInit
import HandS.ExcIs
import HandS.IsInst
import HandS.Lambda
import HandS.TupAny
import HandS.TupMul
import HandS.TupLe
import KE.KOpsOwn
import HandS.Deep
import PyProof.ReprReads
import PyProof.Rows.ReprR
import PyProof.InstEq
import HandS.RaiseMore
import HandS.Conv
import HandS.Small
import HandS.Style
import KE.KExcIs
import KE.GoesMore
import KE.GoesEnum
import HandS.Ends
import HandS.TryOnly
import PyProof.Rows.BitMore
import HandS.Text
import HandS.Head2
import HandS.HeadHook2
import HandS.Codes
import PyProof.Rows.StrCountLaw
import PyProof.StrOps2
import HandS.Dict
import HandS.ExcField
import HandS.EndTab
import KE.GoesZip
import KE.KDflt
import HandS.OwnEq
import PyProof.NeKinds
import PySem.Challenge.RW_markrounds_k05_maps_together
set_option Elab.async false
set_option linter.all false
set_option maxRecDepth 100000
set_option maxHeartbeats 0
section M_R1
namespace RL
open PySem PySem.Spec PyProof.Rows L2

/-! ### plain values -/
inductive PV where
  | non | bl (b : Bool) | int (i : Int) | str (x : Str) | ty (n : String) | gl (c : Nat) | emp
  | tup (xs : List PV) | lst (xs : List PV) | ins (c : Nat) (xs : List PV) | exc (c : Nat) (xs : List PV)
  deriving Inhabited

/-- the state of the draws -/
structure DSt where
  cells : List Int
  great : List Int
  spot : Int
  deriving Inhabited

/-- an exception: its class, its fields -/
inductive PX where
  | own (c : Nat) (xs : List PV) | bi (n : String)

inductive R (α : Type) where
  | ok (a : α) (d : DSt) | ex (e : PX) (d : DSt) | no
def R.bind {α β : Type} : R α → (α → DSt → R β) → R β
  | .ok a d, f => f a d
  | .ex e d, _ => .ex e d
  | .no, _ => .no
@[simp] theorem R.bind_ok {α β : Type} (a : α) (d : DSt) (f : α → DSt → R β) : (R.ok a d).bind f = f a d := rfl
@[simp] theorem R.bind_ex {α β : Type} (e : PX) (d : DSt) (f : α → DSt → R β) : (R.ex e d : R α).bind f = .ex e d := rfl
@[simp] theorem R.bind_no {α β : Type} (f : α → DSt → R β) : (R.no : R α).bind f = .no := rfl

/-- what a call gives -/
inductive O where
  | ok (x : PV) | ex (e : PX) | no
abbrev PFn := List PV → O
def O.r (o : O) (d : DSt) : R PV := match o with
  | .ok x => .ok x d
  | .ex e => .ex e d
  | .no => .no

/-- a slot: nothing known, a value, a list of one's own, an object of one's own under construction, the draws, what may be called -/
inductive Sl where
  | un | val (x : PV) | own (l : List PV) | obj (c : Nat) (xs : List PV) | dr | lam
  deriving Inhabited
def Sl.isOwn : Sl → Bool
  | .own _ => true
  | .obj _ _ => true
  | _ => false
abbrev REnv := List Sl
abbrev EM := REnv → DSt → R PV
inductive RS where
  | nx (ρ : REnv) (d : DSt) | rt (x : PV) (d : DSt) | bk (ρ : REnv) (d : DSt) | ct (ρ : REnv) (d : DSt) | ex (e : PX) (d : DSt) | no
abbrev SM := REnv → DSt → RS

/-! ### values in the heap -/
/-- ad: where the classes and defs stand; fl: a class's fields, in the order in which they are set -/
structure Pl where
  K : PySem.W.Frag
  ad : Nat → Option Addr
  fl : Nat → List Str
  kp : Addr → Option (List Int → List Int) := fun _ => none
  tb : List (Addr × Str) := []

/-- a list: tracked, frozen, or one of the written part's own -/
def SqX (K : PySem.W.Frag) (H : Hp) (a : Addr) (xs : List V) : Prop :=
  Rd H a (.lst xs) ∨ ∃ (its : List Value) (n : Nat), K.lookup a = some { cls := .type "list", data := .seq its.toArray n } ∧ its.length ≤ sizeLine ∧ Vals xs its
theorem SqX.of {K : PySem.W.Frag} {H : Hp} {a : Addr} {xs : List V} (h : H a = some (.lst xs)) : SqX K H a xs := .inl (.inl h)
theorem SqX.seq {K : PySem.W.Frag} {H : Hp} {a : Addr} {xs : List V} (h : SqX K H a xs) : SqL K H a xs := by
  rcases h with h | ⟨its, n, h1, h2, h3⟩
  · exact .inl h
  · exact .inr ⟨_, its.toArray, n, h1, rfl, rfl, rfl, by simpa using h2, by simpa using h3⟩
theorem SqX.mono {K : PySem.W.Frag} {H H' : Hp} {a : Addr} {xs : List V} (e : Same H H') (h : SqX K H a xs) : SqX K H' a xs := by
  rcases h with (h | ⟨o, h⟩) | h
  · exact .inl (.inl (e _ _ h))
  · exact .inl (.inr ⟨o, e _ _ h⟩)
  · exact .inr h
theorem SqX.obj {X : Cx} {pins : List (Addr × Obj)} {σ : L2.St} {H : Hp} {s : Shared} {a : Addr} {xs : List V} (h : SqX X.K H a xs) (I : Inv X pins σ H s) :
    xs.length ≤ sizeLine ∧ ∃ (its : List Value) (n : Nat), Vals xs its ∧ xs.length = its.length ∧ s.heap.get? a = some { cls := .type "list", data := .seq its.toArray n } := by
  rcases h with h | ⟨its, n, h1, h2, h3⟩
  · obtain ⟨z, its, n, r, e⟩ := h.ok I.hok
    exact ⟨z, its, n, r, r.length, e⟩
  · exact ⟨by rw [h3.length]; exact h2, its, n, h3, h3.length, I.kIn a _ h1⟩

/-- an exception that was caught, at a: its class, its dict -/
def ExV (cls : Value) (d : Option Addr) (a : Addr) : HO := .ext fun h => ∃ oe vs, h.get? a = some oe ∧ oe.cls = cls ∧ oe.dict = d ∧ oe.data = .fields vs
mutual
def Rep (C : Pl) (F : Hp) : PV → V → Prop
  | .non, v => v = .non
  | .bl b, v => v = .bl b
  | .int i, v => v = .int i
  | .str x, v => v = .str x
  | .ty n, v => v = .ty n
  | .gl c, v => ∃ a, C.ad c = some a ∧ v = .ref a
  | .emp, v => ∃ a, v = .ref a ∧ F a = some (.dK [])
  | .tup xs, v => ∃ a vs, v = .ref a ∧ SqT C.K F a vs ∧ RepL C F xs vs
  | .lst xs, v => ∃ a vs, v = .ref a ∧ SqX C.K F a vs ∧ RepL C F xs vs
  | .ins c xs, v => ∃ a A dx vs, v = .ref a ∧ C.ad c = some A ∧ F a = some (.ins A dx ((C.fl c).zip vs)) ∧ vs.length = (C.fl c).length ∧ (match C.kp A with
    | none => RepL C F xs vs
    | some g => ∃ (ns : List Int) (w : V), xs = ns.map PV.int ∧ vs = ns.map V.int ++ [w] ∧ (w = .non ∨ ∃ p, w = .ref p ∧ SqT C.K F p ((g ns).map V.int)))
  | .exc c xs, v => ∃ a A d, v = .ref a ∧ C.ad c = some A ∧ F a = some (ExV (.ref A) d a) ∧ ((xs = [] ∧ d = none) ∨ ∃ dd vs, d = some dd ∧ F dd = some (.xd ((C.fl c).zip vs)) ∧ vs.length = (C.fl c).length ∧ RepL C F xs vs)
def RepL (C : Pl) (F : Hp) : List PV → List V → Prop
  | [], vs => vs = []
  | x :: xs, vs => ∃ v r, vs = v :: r ∧ Rep C F x v ∧ RepL C F xs r
end

theorem Same.sqT {K : PySem.W.Frag} {H H' : Hp} {a : Addr} {xs : List V} (e : Same H H') (h : SqT K H a xs) : SqT K H' a xs := by
  rcases h with (h | ⟨o, h⟩) | h
  · exact .inl (.inl (e _ _ h))
  · exact .inl (.inr ⟨o, e _ _ h⟩)
  · exact .inr h

/-- the frozen part goes on: all as it was, but a kept field may have been filled with what it stands for -/
def Sk (C : Pl) (F F' : Hp) : Prop := ∀ a o, F a = some o → F' a = some o ∨ ∃ (A dx : Addr) (fl : List Str) (g : List Int → List Int) (ns : List Int) (w : V) (p : Addr), C.kp A = some g ∧ ns.length + 1 = fl.length ∧
  o = .ins A dx (fl.zip (ns.map V.int ++ [w])) ∧ F' a = some (.ins A dx (fl.zip (ns.map V.int ++ [.ref p]))) ∧ SqT C.K F' p ((g ns).map V.int)
theorem Same.k {C : Pl} {F F' : Hp} (e : Same F F') : Sk C F F' := fun a o h => .inl (e a o h)
theorem Sk.refl (C : Pl) (F : Hp) : Sk C F F := Same.k (Same.refl F)
theorem Sk.lst {C : Pl} {F F' : Hp} (e : Sk C F F') {a : Addr} {xs : List V} (h : F a = some (.lst xs)) : F' a = some (.lst xs) := by
  rcases e a _ h with q | ⟨_, _, _, _, _, _, _, _, _, z, _⟩
  · exact q
  · cases z
theorem Sk.tup {C : Pl} {F F' : Hp} (e : Sk C F F') {a : Addr} {xs : List V} (h : F a = some (.tup xs)) : F' a = some (.tup xs) := by
  rcases e a _ h with q | ⟨_, _, _, _, _, _, _, _, _, z, _⟩
  · exact q
  · cases z
theorem Sk.other {C : Pl} {F F' : Hp} (e : Sk C F F') {a : Addr} {o : HO} (h : F a = some o) (n : ∀ A dx fs, o ≠ .ins A dx fs) : F' a = some o := by
  rcases e a _ h with q | ⟨_, _, _, _, _, _, _, _, _, z, _⟩
  · exact q
  · exact absurd z (n _ _ _)
theorem Sk.some {C : Pl} {F F' : Hp} (e : Sk C F F') {a : Addr} {o : HO} (h : F a = some o) : ∃ o', F' a = some o' := by
  rcases e a _ h with q | ⟨_, _, _, _, _, _, _, _, _, _, z, _⟩
  · exact ⟨_, q⟩
  · exact ⟨_, z⟩
theorem Sk.free {C : Pl} {F F' : Hp} (e : Sk C F F') {a : Addr} (h : F' a = Option.none) : F a = Option.none := by
  cases q : F a with
  | none => rfl
  | some o =>
    obtain ⟨o', z⟩ := e.some q
    rw [h] at z; cases z
theorem Sk.sqT {C : Pl} {H H' : Hp} {a : Addr} {xs : List V} (e : Sk C H H') (h : SqT C.K H a xs) : SqT C.K H' a xs := by
  rcases h with (h | ⟨o, h⟩) | h
  · exact .inl (.inl (e.tup h))
  · exact .inl (.inr ⟨o, e.other h (fun _ _ _ z => by cases z)⟩)
  · exact .inr h
theorem Sk.sqx {C : Pl} {H H' : Hp} {a : Addr} {xs : List V} (e : Sk C H H') (h : SqX C.K H a xs) : SqX C.K H' a xs := by
  rcases h with (h | ⟨o, h⟩) | h
  · exact .inl (.inl (e.lst h))
  · exact .inl (.inr ⟨o, e.other h (fun _ _ _ z => by cases z)⟩)
  · exact .inr h
theorem map_int_inj : ∀ {ns ms : List Int} {w u : V}, ns.map V.int ++ [w] = ms.map V.int ++ [u] → ns = ms ∧ w = u
  | [], [], _, _, h => ⟨rfl, by simpa using h⟩
  | [], m :: ms, _, _, h => by have := congrArg List.length h; simp at this
  | n :: ns, [], _, _, h => by have := congrArg List.length h; simp at this
  | n :: ns, m :: ms, _, _, h => by
    simp only [List.map_cons, List.cons_append, List.cons.injEq, V.int.injEq] at h
    obtain ⟨h1, h2⟩ := h
    obtain ⟨h3, h4⟩ := map_int_inj h2
    exact ⟨by rw [h1, h3], h4⟩
theorem zip_inj {α β : Type} : ∀ {as cs : List α} {bs ds : List β}, as.length = bs.length → cs.length = ds.length → as.zip bs = cs.zip ds → as = cs ∧ bs = ds
  | [], [], [], [], _, _, _ => ⟨rfl, rfl⟩
  | a :: as, c :: cs, b :: bs, d :: ds, h1, h2, h => by
    simp only [List.zip_cons_cons, List.cons.injEq, Prod.mk.injEq] at h
    obtain ⟨⟨e1, e2⟩, e3⟩ := h
    obtain ⟨e4, e5⟩ := zip_inj (by simpa using h1) (by simpa using h2) e3
    exact ⟨by rw [e1, e4], by rw [e2, e5]⟩
  | [], _ :: _, [], _ :: _, _, _, h => by simp at h
  | _ :: _, [], _ :: _, [], _, _, h => by simp at h
  | [], _, _ :: _, _, h1, _, _ => by simp at h1
  | _ :: _, _, [], _, h1, _, _ => by simp at h1
  | _, [], _, _ :: _, _, h2, _ => by simp at h2
  | _, _ :: _, _, [], _, h2, _ => by simp at h2
theorem Sk.trans {C : Pl} {F F1 F2 : Hp} (e : Sk C F F1) (q : Sk C F1 F2) : Sk C F F2 := fun a o h => by
  rcases e a o h with h1 | ⟨A, dx, fl, g, ns, w, p, h2, h3, h4, h5, h6⟩
  · exact q a o h1
  · rcases q a _ h5 with h7 | ⟨A', dx', fl', g', ns', w', p', k2, k3, k4, k5, k6⟩
    · exact .inr ⟨A, dx, fl, g, ns, w, p, h2, h3, h4, h7, q.sqT h6⟩
    · injection k4 with z1 z2 z3
      obtain ⟨z4, z5⟩ := zip_inj (by simp; omega) (by simp; omega) z3
      obtain ⟨z6, _⟩ := map_int_inj z5
      subst z1 z2 z4 z6
      exact .inr ⟨A, dx, fl, g', ns, w, p', k2, h3, h4, k5, k6⟩
mutual
theorem Rep.mono {C : Pl} {F F' : Hp} (e : Sk C F F') : ∀ (x : PV) (v : V), Rep C F x v → Rep C F' x v
  | .non, _, h => h
  | .bl _, _, h => h
  | .int _, _, h => h
  | .str _, _, h => h
  | .ty _, _, h => h
  | .gl _, _, h => h
  | .emp, _, h => by
    obtain ⟨a, h1, h2⟩ := h
    exact ⟨a, h1, e.other h2 (fun _ _ _ z => by cases z)⟩
  | .tup xs, v, h => by
    obtain ⟨a, vs, h1, h2, h3⟩ := h
    exact ⟨a, vs, h1, Sk.sqT e h2, RepL.mono e xs vs h3⟩
  | .lst xs, v, h => by
    obtain ⟨a, vs, h1, h2, h3⟩ := h
    exact ⟨a, vs, h1, Sk.sqx e h2, RepL.mono e xs vs h3⟩
  | .ins c xs, v, h => by
    obtain ⟨a, A, dx, vs, h1, h2, h3, h4, h5⟩ := h
    rcases e _ _ h3 with q | ⟨A', dx', fl, g, ns, w', p, k2, k3, k4, k5, k6⟩
    · refine ⟨a, A, dx, vs, h1, h2, q, h4, ?_⟩
      revert h5
      cases C.kp A with
      | none => exact fun h5 => RepL.mono e xs vs h5
      | some g => exact fun ⟨ns, w, e1, e2, e3⟩ => ⟨ns, w, e1, e2, e3.imp id fun ⟨p, z1, z2⟩ => ⟨p, z1, Sk.sqT e z2⟩⟩
    · injection k4 with z1 z2 z3
      obtain ⟨z4, z5⟩ := zip_inj (by omega) (by simp; omega) z3
      subst z1 z2
      refine ⟨a, A, dx, ns.map V.int ++ [.ref p], h1, h2, by rw [k5, z4], by rw [z4]; simp; omega, ?_⟩
      rw [k2] at h5 ⊢
      obtain ⟨ms, w, e1, e2, e3⟩ := h5
      rw [z5] at e2
      obtain ⟨e4, e5⟩ := map_int_inj e2
      subst e4
      exact ⟨ns, _, e1, rfl, .inr ⟨p, rfl, k6⟩⟩
  | .exc c xs, v, h => by
    obtain ⟨a, A, d, h1, h2, h3, h4⟩ := h
    refine ⟨a, A, d, h1, h2, e.other h3 (fun _ _ _ z => by
      have z' : HO.ext _ = HO.ins _ _ _ := z
      cases z'), h4.imp id fun ⟨dd, vs, q1, q2, q3, q4⟩ => ⟨dd, vs, q1, e.other q2 (fun _ _ _ z => by cases z), q3, RepL.mono e xs vs q4⟩⟩
theorem RepL.mono {C : Pl} {F F' : Hp} (e : Sk C F F') : ∀ (xs : List PV) (vs : List V), RepL C F xs vs → RepL C F' xs vs
  | [], _, h => h
  | x :: xs, _, h => by
    obtain ⟨v, r, h1, h2, h3⟩ := h
    exact ⟨v, r, h1, Rep.mono e x v h2, RepL.mono e xs r h3⟩
end

section
variable {C : Pl} {F F' H H' : Hp}
theorem RepL.length : ∀ {xs : List PV} {vs : List V}, RepL C F xs vs → xs.length = vs.length
  | [], _, h => by cases (show _ = [] from h); rfl
  | x :: xs, _, h => by
    obtain ⟨v, r, rfl, _, h3⟩ := h
    simp [RepL.length h3]
theorem RepL.nil : RepL C F [] [] := rfl
theorem RepL.cons {x : PV} {v : V} {xs : List PV} {vs : List V} (h : Rep C F x v) (t : RepL C F xs vs) : RepL C F (x :: xs) (v :: vs) := ⟨v, vs, rfl, h, t⟩
theorem RepL.append : ∀ {xs ys : List PV} {vs us : List V}, RepL C F xs vs → RepL C F ys us → RepL C F (xs ++ ys) (vs ++ us)
  | [], _, _, _, h, t => by cases (show _ = [] from h); exact t
  | x :: xs, _, _, _, h, t => by
    obtain ⟨v, r, rfl, h2, h3⟩ := h
    exact ⟨v, _, rfl, h2, RepL.append h3 t⟩
theorem RepL.get : ∀ {xs : List PV} {vs : List V} {i : Nat} {x : PV}, RepL C F xs vs → xs[i]? = some x → ∃ v, vs[i]? = some v ∧ Rep C F x v
  | [], _, _, _, _, e => by simp at e
  | x :: xs, _, 0, _, h, e => by
    obtain ⟨v, r, rfl, h2, h3⟩ := h
    simp at e; subst e; exact ⟨v, rfl, h2⟩
  | x :: xs, _, i + 1, _, h, e => by
    obtain ⟨v, r, rfl, h2, h3⟩ := h
    simpa using RepL.get h3 (by simpa using e)
theorem RepL.get' : ∀ {xs : List PV} {vs : List V} {i : Nat} {v : V}, RepL C F xs vs → vs[i]? = some v → ∃ x, xs[i]? = some x ∧ Rep C F x v
  | [], _, _, _, h, e => by cases (show _ = [] from h); simp at e
  | x :: xs, _, 0, _, h, e => by
    obtain ⟨v, r, rfl, h2, h3⟩ := h
    simp at e; subst e; exact ⟨x, rfl, h2⟩
  | x :: xs, _, i + 1, _, h, e => by
    obtain ⟨v, r, rfl, h2, h3⟩ := h
    simpa using RepL.get' h3 (by simpa using e)
theorem RepL.set {x : PV} {v : V} (hx : Rep C F x v) : ∀ {xs : List PV} {vs : List V} (i : Nat), RepL C F xs vs → RepL C F (xs.set i x) (vs.set i v)
  | [], _, _, h => by cases (show _ = [] from h); rfl
  | x :: xs, _, 0, h => by
    obtain ⟨v, r, rfl, h2, h3⟩ := h
    exact ⟨_, _, rfl, hx, h3⟩
  | x :: xs, _, i + 1, h => by
    obtain ⟨v, r, rfl, h2, h3⟩ := h
    exact ⟨_, _, rfl, h2, RepL.set hx i h3⟩
theorem RepL.take : ∀ {xs : List PV} {vs : List V} (n : Nat), RepL C F xs vs → RepL C F (xs.take n) (vs.take n)
  | _, _, 0, _ => by simp [RepL]
  | [], _, n + 1, h => by cases (show _ = [] from h); simp [RepL]
  | x :: xs, _, n + 1, h => by
    obtain ⟨v, r, rfl, h2, h3⟩ := h
    exact ⟨_, _, rfl, h2, RepL.take n h3⟩
theorem RepL.drop : ∀ {xs : List PV} {vs : List V} (n : Nat), RepL C F xs vs → RepL C F (xs.drop n) (vs.drop n)
  | _, _, 0, h => h
  | [], _, n + 1, h => by cases (show _ = [] from h); simp [RepL]
  | x :: xs, _, n + 1, h => by
    obtain ⟨v, r, rfl, h2, h3⟩ := h
    exact RepL.drop n h3
theorem RepL.split : ∀ {xs : List PV} {vs us : List V}, RepL C F xs (vs ++ us) → ∃ xs1 xs2, xs = xs1 ++ xs2 ∧ RepL C F xs1 vs ∧ RepL C F xs2 us
  | xs, [], us, h => ⟨[], xs, rfl, rfl, h⟩
  | [], _ :: _, _, h => by cases (show _ = [] from h)
  | x :: xs, v :: vs, us, h => by
    obtain ⟨v', r, e, h2, h3⟩ := h
    injection e with e1 e2
    subst e1; subst e2
    obtain ⟨x1, x2, e, r1, r2⟩ := RepL.split h3
    exact ⟨x :: x1, x2, by rw [e]; rfl, ⟨_, _, rfl, h2, r1⟩, r2⟩
end

/-- a field of an object, read -/
theorem fld_get {C : Pl} {F : Hp} {A : Addr} {xs : List PV} {vs : List V} {i : Nat} {x : PV} (q : match C.kp A with
    | none => RepL C F xs vs
    | some g => ∃ (ns : List Int) (w : V), xs = ns.map PV.int ∧ vs = ns.map V.int ++ [w] ∧ (w = .non ∨ ∃ p, w = .ref p ∧ SqT C.K F p ((g ns).map V.int))) (e : xs[i]? = some x) : ∃ v, vs[i]? = some v ∧ Rep C F x v := by
  revert q
  cases C.kp A with
  | none => exact fun q => q.get e
  | some g =>
    rintro ⟨ns, w, rfl, rfl, _⟩
    rw [List.getElem?_map] at e
    cases z : ns[i]? with
    | none => rw [z] at e; cases e
    | some n =>
      rw [z] at e
      cases e
      have hl : i < ns.length := (List.getElem?_eq_some_iff.mp z).1
      refine ⟨.int n, ?_, rfl⟩
      rw [List.getElem?_append_left (by simpa using hl), List.getElem?_map, z]; rfl
/-! ### exceptions -/
def ExR (C : Pl) (F : Hp) : PX → Value → Option Addr → Prop
  | .own c xs, cls, d => ∃ A, C.ad c = some A ∧ cls = .ref A ∧ ((xs = [] ∧ d = none) ∨ ∃ dd vs, d = some dd ∧ F dd = some (.xd ((C.fl c).zip vs)) ∧ vs.length = (C.fl c).length ∧ RepL C F xs vs)
  | .bi n, cls, d => cls = .type n ∧ d = none

/-! ### tables of code objects -/
/-- what was there is there; a table may have grown, and tells the same names -/
def Kp (T : List (Addr × Str)) (H H' : Hp) (a : Addr) : HO → Prop
  | .tbl _ => (∃ ps', H' a = some (.tbl ps')) ∧ ∀ q, (a, q) ∈ T → LamX.TabS H a q → LamX.TabS H' a q
  | o => H' a = some o
theorem Kp.of {T : List (Addr × Str)} {H H' : Hp} {a : Addr} {o : HO} (n : ∀ ps, o ≠ .tbl ps) (k : Kp T H H' a o) : H' a = some o := by
  cases o with
  | tbl ps => exact absurd rfl (n ps)
  | _ => exact k
theorem Kp.mk {T : List (Addr × Str)} {H H' : Hp} {a : Addr} {o : HO} (e : H' a = some o) (n : ∀ ps, o ≠ .tbl ps) : Kp T H H' a o := by
  cases o with
  | tbl ps => exact absurd rfl (n ps)
  | _ => exact e
theorem Kp.all {T : List (Addr × Str)} {H H' : Hp} (s : ∀ b o, H b = some o → H' b = some o) {a : Addr} {o : HO} (e : H a = some o) : Kp T H H' a o := by
  cases o with
  | tbl ps => exact ⟨⟨ps, s _ _ e⟩, fun q _ t => t.ext s⟩
  | _ => exact s _ _ e
theorem Kp.ex {T : List (Addr × Str)} {H H' : Hp} {a : Addr} {o : HO} (k : Kp T H H' a o) : ∃ o', H' a = some o' := by
  cases o with
  | tbl ps => obtain ⟨⟨ps', e⟩, _⟩ := k; exact ⟨_, e⟩
  | _ => exact ⟨_, k⟩
theorem Kp.trans {T : List (Addr × Str)} {H H1 H2 : Hp} {a : Addr} {o : HO} (k : Kp T H H1 a o) (q : ∀ o1, H1 a = some o1 → Kp T H1 H2 a o1) : Kp T H H2 a o := by
  cases o with
  | tbl ps =>
    obtain ⟨⟨ps', e⟩, z⟩ := k
    obtain ⟨y, z'⟩ := q _ e
    exact ⟨y, fun n m t => z' n m (z n m t)⟩
  | _ => exact q _ k
/-- the tables stand, and are not frozen -/
def TbOk (C : Pl) (F H : Hp) : Prop := ∀ p ∈ C.tb, F p.1 = none ∧ LamX.TabS H p.1 p.2
/-! ### the draws -/
def DrawAt (K : PySem.W.Frag) (F H : Hp) (a g c : Addr) (d : DSt) : Prop :=
  H a = some (.dK [(.inr "cells", .ref c), (.inr "great", .ref g), (.inr "spot", .int d.spot)]) ∧ H g = some (.lst (d.great.map V.int)) ∧ SqL K F c (d.cells.map V.int) ∧ F a = none ∧ F g = none

/-- what stays fixed in a def's body -/
structure Bp where
  F0 : Hp
  H0 : Hp
  da : Option (Addr × Addr × Addr)
  so : Option Addr
  cl : List Int
def Bp.ds (B : Bp) (a : Addr) : Prop := ∃ p, B.da = some p ∧ (a = p.1 ∨ a = p.2.1)
/-- what may be changed of what stood at the entry -/
def Bp.mu (B : Bp) (a : Addr) : Prop := B.ds a ∨ B.so = some a

/-- the ground: F frozen within H -/
structure BG (C : Pl) (B : Bp) (d : DSt) (F H : Hp) : Prop where
  fh : Same F H
  f0 : Sk C B.F0 F
  nw : ∀ a o, F a = some o → (∃ u, B.F0 a = some u) ∨ B.H0 a = none
  od : ∀ a o, B.F0 a = none → B.H0 a = some o → ¬ B.mu a → Kp C.tb B.H0 H a o
  dr : ∀ a g c, B.da = some (a, g, c) → DrawAt C.K F H a g c d
  ce : B.da ≠ none → d.cells = B.cl
  os : ∀ a, B.so = some a → F a = none ∧ ∃ o, H a = some o
  tb : TbOk C F H
/-- an address of one's own -/
def Own (B : Bp) (F : Hp) (a : Addr) : Prop := F a = none ∧ (B.H0 a = none ∨ B.so = some a) ∧ ¬ B.ds a
def SlR (C : Pl) (B : Bp) (F H : Hp) (a : Addr) : Sl → Option (Option V) → Prop
  | .un, _ => True
  | .val x, o => ∃ v, o = some (some v) ∧ Rep C F x v
  | .own l, o => o = some (some (.ref a)) ∧ Own B F a ∧ ∃ vs, H a = some (.lst vs) ∧ RepL C F l vs
  | .obj c xs, o => o = some (some (.ref a)) ∧ Own B F a ∧ ∃ A dx vs, C.ad c = some A ∧ H a = some (.ins A dx ((C.fl c).zip vs)) ∧ vs.length ≤ (C.fl c).length ∧ RepL C F xs vs ∧ B.so = some a
  | .dr, o => ∃ p, B.da = some p ∧ o = some (some (.ref p.1))
  | .lam, o => B.da = none ∧ ∃ f : Nat, B.cl = [(f : Int)] ∧ o = some (some (.ref f))
structure BR (C : Pl) (B : Bp) (ρ : REnv) (d : DSt) (σ : L2.St) (F H : Hp) : Prop where
  g : BG C B d F H
  len : σ.length = ρ.length
  sl : ∃ ad : Nat → Addr, (∀ i s, ρ[i]? = some s → SlR C B F H (ad i) s σ[i]?) ∧ ∀ i j s t, ρ[i]? = some s → ρ[j]? = some t → s.isOwn = true → t.isOwn = true → ad i = ad j → i = j
/-- what an expression may do: new objects, some of them frozen; the draws; kept fields of frozen objects -/
structure Go (C : Pl) (B : Bp) (F H F' H' : Hp) : Prop where
  s : Sk C F F'
  k : ∀ a o, F a = none → H a = some o → ¬ B.ds a → Kp C.tb H H' a o
  t : ∀ a o, H a = some o → ∃ o', H' a = some o'
  n : ∀ a o, F' a = some o → (∃ u, F a = some u) ∨ H a = none
theorem Go.refl {C : Pl} {B : Bp} {F H : Hp} : Go C B F H F H := ⟨Sk.refl C F, fun _ _ _ h _ => Kp.all (fun _ _ z => z) h, fun _ o h => ⟨o, h⟩, fun _ o h => .inl ⟨o, h⟩⟩
theorem Go.trans {C : Pl} {B : Bp} {F H F1 H1 F2 H2 : Hp} (g : Go C B F H F1 H1) (q : Go C B F1 H1 F2 H2) : Go C B F H F2 H2 where
  s := g.s.trans q.s
  k := fun a o f e n => (g.k a o f e n).trans fun o1 e1 => q.k a o1 (by
    cases z : F1 a with
    | none => rfl
    | some u =>
      rcases g.n a u z with ⟨v, h⟩ | h
      · rw [f] at h; cases h
      · rw [e] at h; cases h) e1 n
  t := fun a o e => let ⟨o', e'⟩ := g.t a o e; q.t a o' e'
  n := fun a o e => by
    rcases q.n a o e with ⟨u, h⟩ | h
    · exact g.n a u h
    · cases e0 : H a with
      | none => exact .inr rfl
      | some u =>
        obtain ⟨o', e'⟩ := g.t a u e0
        rw [h] at e'; cases e'
theorem nn {F F' H : Hp} (n : ∀ a o, F' a = some o → (∃ u, F a = some u) ∨ H a = none) {a : Addr} {o : HO} (f : F a = none) (e : H a = some o) : F' a = none := by
  cases q : F' a with
  | none => rfl
  | some u =>
    rcases n a u q with ⟨v, h⟩ | h
    · rw [f] at h; cases h
    · rw [e] at h; cases h
theorem Sk.seq {C : Pl} {H H' : Hp} {a : Addr} {xs : List V} (e : Sk C H H') (h : SqL C.K H a xs) : SqL C.K H' a xs := by
  rcases h with (h | ⟨o, h⟩) | h
  · exact .inl (.inl (e.lst h))
  · exact .inl (.inr ⟨o, e.other h (fun _ _ _ z => by cases z)⟩)
  · exact .inr h
/-- what is not frozen stays as it is -/
def Uh (C : Pl) (F H H' : Hp) : Prop := ∀ a o, F a = none → H a = some o → Kp C.tb H H' a o
theorem Same.u {C : Pl} {F H H' : Hp} (h : Same H H') : Uh C F H H' := fun a o _ e => Kp.all h e
theorem Go.of {C : Pl} {B : Bp} {F H F' H' : Hp} (fh : Same F H) (s : Sk C F F') (f : Same F' H') (hh : Uh C F H H') (n : ∀ a o, F' a = some o → (∃ u, F a = some u) ∨ H a = none) : Go C B F H F' H' := ⟨s, fun a o z e _ => hh a o z e, fun a o e => by
  cases z : F a with
  | none => exact (hh a o z e).ex
  | some u =>
    obtain ⟨u', q⟩ := s.some z
    exact ⟨u', f _ _ q⟩, n⟩

/-- where an exception goes, by the slots it finds -/
abbrev XS := L2.St → XK
/-- what is wanted of an outcome -/
def tK {α β : Type} (C : Pl) (B : Bp) (E : XK) (Rp : Hp → α → β → Prop) (r : R α) (F H : Hp) (Q : β → Hp → Prop) : Prop := match r with
  | .ok x d' => ∀ F' H' v, BG C B d' F' H' → Go C B F H F' H' → Rp F' x v → Q v H'
  | .ex e d' => ∀ F' H' cls dd, BG C B d' F' H' → Go C B F H F' H' → ExR C F' e cls dd → E cls dd H'
  | .no => False
/-- the reading of an expression (α = PV), of arguments (List PV), of a test (Bool) -/
def tR {α β : Type} (C : Pl) (B : Bp) (E : XS) (Rp : Hp → α → β → Prop) (m : REnv → DSt → R α) : L2.St → Hp → (β → Hp → Prop) → Prop := fun σ H Q => ∃ F ρ d, BR C B ρ d σ F H ∧ tK C B (E σ) Rp (m ρ d) F H Q
abbrev RB : Hp → Bool → Bool → Prop := fun _ b c => b = c
abbrev BM := REnv → DSt → R Bool
abbrev AM := REnv → DSt → R (List PV)
/-- what is wanted of a statement's outcome -/
def tKS (C : Pl) (B : Bp) (E : XS) (r : RS) (F H : Hp) (D : Ends) : Prop := match r with
  | .nx ρ d' => ∀ σ' F' H', BR C B ρ d' σ' F' H' → Sk C F F' → D.nx σ' H'
  | .rt x d' => ∀ ρ σ' F' H' v, BR C B ρ d' σ' F' H' → Sk C F F' → Rep C F' x v → D.rt v H'
  | .bk ρ d' => ∀ σ' F' H', BR C B ρ d' σ' F' H' → Sk C F F' → D.bk σ' H'
  | .ct ρ d' => ∀ σ' F' H', BR C B ρ d' σ' F' H' → Sk C F F' → D.ct σ' H'
  | .ex e d' => ∀ σ' F' H' cls dd, BG C B d' F' H' → ExR C F' e cls dd → E σ' cls dd H'
  | .no => False
def tS (C : Pl) (B : Bp) (E : XS) (m : SM) : TS := fun D σ H => ∃ F ρ d, BR C B ρ d σ F H ∧ tKS C B E (m ρ d) F H D

section
variable {C : Pl} {B : Bp} {E : XK} {Es : XS} {ρ : REnv} {d : DSt} {σ : L2.St} {F F' H H' : Hp} {Q : VK}
/-- the first part of a sequence -/
theorem tK.bind {α β γ δ : Type} {Rp : Hp → α → β → Prop} {Rq : Hp → γ → δ → Prop} {r : R α} {k : α → DSt → R γ} {Q : δ → Hp → Prop} (h : tK C B E Rq (r.bind k) F H Q) :
    tK C B E Rp r F H fun v H1 => ∃ F1 d1 x, BG C B d1 F1 H1 ∧ Go C B F H F1 H1 ∧ Rp F1 x v ∧ tK C B E Rq (k x d1) F1 H1 Q := by
  cases r with
  | ok x d1 =>
    intro F1 H1 v b g rp
    refine ⟨F1, d1, x, b, g, rp, ?_⟩
    have h' : tK C B E Rq (k x d1) F H Q := h
    generalize k x d1 = r2 at h'
    cases r2 with
    | ok y d2 => exact fun F2 H2 u b2 g2 rp2 => h' F2 H2 u b2 (g.trans g2) rp2
    | ex e d2 => exact fun F2 H2 cls dd b2 g2 r => h' F2 H2 cls dd b2 (g.trans g2) r
    | no => exact h'
  | ex e d1 => exact h
  | no => exact h
theorem tK.imp {α β : Type} {Rp : Hp → α → β → Prop} {r : R α} {Q Q' : β → Hp → Prop} (h : tK C B E Rp r F H Q) (hq : ∀ v H', Q v H' → Q' v H') : tK C B E Rp r F H Q' := by
  cases r with
  | ok x d' => exact fun F' H' v b g rp => hq v H' (h F' H' v b g rp)
  | ex e d' => exact h
  | no => exact h
/-- at a later point -/
theorem tK.back {α β : Type} {Rp : Hp → α → β → Prop} {r : R α} {Q : β → Hp → Prop} {F1 H1 : Hp} (g : Go C B F H F1 H1) (h : tK C B E Rp r F H Q) : tK C B E Rp r F1 H1 Q := by
  cases r with
  | ok x d' => exact fun F' H' v b g' rp => h F' H' v b (g.trans g') rp
  | ex e d' => exact fun F' H' cls dd b g' r => h F' H' cls dd b (g.trans g') r
  | no => exact h
/-- here and now -/
theorem tK.here {α β : Type} {Rp : Hp → α → β → Prop} {x : α} {v : β} {Q : β → Hp → Prop} (b : BG C B d F H) (h : tK C B E Rp (.ok x d) F H Q) (rp : Rp F x v) : Q v H := h F H v b Go.refl rp
theorem tKS.back {r : RS} {D : Ends} {F1 H1 : Hp} (s : Sk C F F1) (h : tKS C B Es r F H D) : tKS C B Es r F1 H1 D := by
  cases r with
  | nx ρ d' => exact fun σ' F' H' b s' => h σ' F' H' b (s.trans s')
  | rt x d' => exact fun ρ σ' F' H' v b s' rp => h ρ σ' F' H' v b (s.trans s') rp
  | bk ρ d' => exact fun σ' F' H' b s' => h σ' F' H' b (s.trans s')
  | ct ρ d' => exact fun σ' F' H' b s' => h σ' F' H' b (s.trans s')
  | ex e d' => exact h
  | no => exact h
theorem BG.there (h : BG C B d F H) {a : Addr} (m : B.mu a) : ∃ o, H a = some o := by
  rcases m with ⟨⟨p, g, c⟩, hp, hx⟩ | hx
  · obtain ⟨h1, h2, _⟩ := h.dr p g c hp
    rcases hx with rfl | rfl
    · exact ⟨_, h1⟩
    · exact ⟨_, h2⟩
  · exact (h.os a hx).2
/-- what is not there now was not there at the entry -/
theorem BG.H0_none (h : BG C B d F H) {a : Addr} (e : H a = none) : B.H0 a = none := by
  cases q0 : B.H0 a with
  | none => rfl
  | some u =>
    by_cases hm : B.mu a
    · obtain ⟨o, q⟩ := h.there hm
      rw [e] at q; cases q
    · cases z : B.F0 a with
      | none =>
        obtain ⟨o', z'⟩ := (h.od a u z q0 hm).ex
        rw [z'] at e; cases e
      | some w =>
        obtain ⟨w', z'⟩ := h.f0.some z
        rw [h.fh _ _ z'] at e; cases e
/-- where the heap only grows, and what is new is frozen -/
theorem BG.grow (h : BG C B d F H) (s : Sk C F F') (f : Same F' H') (hh : Uh C F H H') (n : ∀ a o, F' a = some o → (∃ u, F a = some u) ∨ H a = none) : BG C B d F' H' where
  fh := f
  f0 := h.f0.trans s
  nw := fun a o e => by
    rcases n a o e with ⟨u, q⟩ | q
    · exact h.nw a u q
    · exact .inr (h.H0_none q)
  od := fun a o z e m => (h.od a o z e m).trans fun o1 e1 => hh a o1 (nn h.nw z e) e1
  dr := fun a g c e => by
    obtain ⟨h1, h2, h3, h4, h5⟩ := h.dr a g c e
    exact ⟨hh _ _ h4 h1, hh _ _ h5 h2, s.seq h3, nn n h4 h1, nn n h5 h2⟩
  ce := h.ce
  os := fun a e => by
    obtain ⟨h1, o, h2⟩ := h.os a e
    exact ⟨nn n h1 h2, (hh _ _ h1 h2).ex⟩
  tb := fun p hp => by
    obtain ⟨h1, h2⟩ := h.tb p hp
    obtain ⟨ps, e, _⟩ := id h2
    exact ⟨nn n h1 e, (hh _ _ h1 e).2 _ hp h2⟩
theorem same_upd {H : Hp} {p : Addr} {o : HO} (hp : H p = none) : Same H (upd H p o) := fun b u e => by rw [upd_ne (ne_of_none e hp)]; exact e
/-- where an expression has gone on, the slots are as they were -/
theorem BR.go {d' : DSt} (h : BR C B ρ d σ F H) (b : BG C B d' F' H') (g : Go C B F H F' H') : BR C B ρ d' σ F' H' where
  g := b
  len := h.len
  sl := by
    obtain ⟨ad, h1, h2⟩ := h.sl
    refine ⟨ad, fun i sl e => ?_, h2⟩
    have q := h1 i sl e
    have ow : ∀ {a u}, H a = some u → Own B F a → Own B F' a ∧ Kp C.tb H H' a u := fun {a u} hu w => by
      obtain ⟨w1, w2, w3⟩ := w
      exact ⟨⟨nn g.n w1 hu, w2, w3⟩, g.k a u w1 hu w3⟩
    cases sl with
    | un => trivial
    | val x => obtain ⟨v, e, r⟩ := q; exact ⟨v, e, r.mono g.s⟩
    | own l => obtain ⟨e, w, vs, k1, k2⟩ := q; exact ⟨e, (ow k1 w).1, vs, (ow k1 w).2, k2.mono g.s⟩
    | obj c xs => obtain ⟨e, w, A, dx, vs, k0, k1, kl, k2, k3⟩ := q; exact ⟨e, (ow k1 w).1, A, dx, vs, k0, (ow k1 w).2, kl, k2.mono g.s, k3⟩
    | dr => exact q
    | lam => exact q
/-- a new object, left as it is -/
theorem BG.junk (h : BG C B d F H) {p : Addr} {o : HO} (hp : H p = none) : BG C B d F (upd H p o) :=
  h.grow (Sk.refl C F) (h.fh.trans (same_upd hp)) (Same.u (same_upd hp)) fun a u e => .inl ⟨u, e⟩
theorem Go.junk (h : Same F H) {p : Addr} {o : HO} (hp : H p = none) : Go C B F H F (upd H p o) := .of h (Sk.refl C F) (h.trans (same_upd hp)) (Same.u (same_upd hp)) fun _ u e => .inl ⟨u, e⟩
/-- a new object, frozen -/
theorem BG.new (h : BG C B d F H) {p : Addr} {o : HO} (hp : H p = none) : BG C B d (upd F p o) (upd H p o) ∧ Go C B F H (upd F p o) (upd H p o) := by
  have fp : F p = none := h.fh.free hp
  have n : ∀ a u, upd F p o a = some u → (∃ u, F a = some u) ∨ H a = none := fun a u e => by
    by_cases hb : a = p
    · subst hb; exact .inr hp
    · rw [upd_ne hb] at e; exact .inl ⟨u, e⟩
  have f : Same (upd F p o) (upd H p o) := fun b u e => by
    by_cases hb : b = p
    · subst hb; rw [upd_same] at e ⊢; exact e
    · rw [upd_ne hb] at e ⊢; exact h.fh b u e
  exact ⟨h.grow (Same.k (same_upd fp)) f (Same.u (same_upd hp)) n, .of h.fh (Same.k (same_upd fp)) f (Same.u (same_upd hp)) n⟩
theorem BG.F_none (h : BG C B d F H) {p : Addr} (hp : H p = none) : F p = none := h.fh.free hp
theorem tK.new {α β : Type} {Rp : Hp → α → β → Prop} {x : α} {v : β} {Q : β → Hp → Prop} {p : Addr} {o : HO} (b : BG C B d F H) (h : tK C B E Rp (.ok x d) F H Q) (hp : H p = none) (rp : Rp (upd F p o) x v) : Q v (upd H p o) :=
  h _ _ v (b.new hp).1 (b.new hp).2 rp
/-- two stages -/
theorem tR.bind {α β γ δ : Type} {Rp : Hp → α → β → Prop} {Rq : Hp → γ → δ → Prop} {ma : REnv → DSt → R α} {k : REnv → α → DSt → R γ} {Q : δ → Hp → Prop} (h : tR C B Es Rq (fun ρ d => (ma ρ d).bind (k ρ)) σ H Q) :
    tR C B Es Rp ma σ H fun v H1 => ∃ F1 ρ d1 x, BR C B ρ d1 σ F1 H1 ∧ Rp F1 x v ∧ tK C B (Es σ) Rq (k ρ x d1) F1 H1 Q := by
  obtain ⟨F, ρ, d, b, h⟩ := h
  refine ⟨F, ρ, d, b, (tK.bind (Rp := Rp) h).imp fun v H1 q => ?_⟩
  obtain ⟨F1, d1, x, b1, g1, r1, k1⟩ := q
  exact ⟨F1, ρ, d1, x, b.go b1 g1, r1, k1⟩
end
end RL
end M_R1
section M_R2
namespace RL
open PySem PySem.Spec PyProof.Rows L2

theorem PE.weak {X : Cx} {e : Expr} {t t' : TE} (h : PE X e t) (w : ∀ σ H Q, t' σ H Q → t σ H Q) : PE X e t' := ⟨fun pins s σ H Q I q => h.run pins s σ H Q I (w σ H Q q)⟩
theorem PT.weak {X : Cx} {e : Expr} {t t' : TT} (h : PT X e t) (w : ∀ σ H Q, t' σ H Q → t σ H Q) : PT X e t' := ⟨fun pins s σ H Q I q => h.run pins s σ H Q I (w σ H Q q)⟩
theorem PW.weak {X : Cx} {e : Expr} {t t' : TT} (h : PW X e t) (w : ∀ σ H Q, t' σ H Q → t σ H Q) : PW X e t' := ⟨fun wh pins s σ H Q I q => h.run wh pins s σ H Q I (w σ H Q q)⟩
theorem PA.weak {X : Cx} {es : List Expr} {t t' : TA} (h : PA X es t) (w : ∀ σ H Q, t' σ H Q → t σ H Q) : PA X es t' := ⟨fun pos pins s σ H Q I q => h.run pos pins s σ H Q I (w σ H Q q)⟩
theorem PS.weak {X : Cx} {st : Stmt} {t t' : TS} (h : PS X st t) (w : ∀ D σ H, t' D σ H → t D σ H) : PS X st t' := ⟨fun pins s σ H D I q => h.run pins s σ H D I (w D σ H q)⟩
theorem PSs.weak {X : Cx} {st : List Stmt} {t t' : TS} (h : PSs X st t) (w : ∀ D σ H, t' D σ H → t D σ H) : PSs X st t' := ⟨fun pins s σ H D I q => h.run pins s σ H D I (w D σ H q)⟩

abbrev RE (X : Cx) (C : Pl) (B : Bp) (E : XS) (e : Expr) (m : EM) : Prop := PE X e (tR C B E (Rep C) m)
abbrev RT (X : Cx) (C : Pl) (B : Bp) (E : XS) (e : Expr) (m : BM) : Prop := PT X e (tR C B E RB m)
abbrev RW (X : Cx) (C : Pl) (B : Bp) (E : XS) (e : Expr) (m : BM) : Prop := PW X e (tR C B E RB m)
abbrev RA (X : Cx) (C : Pl) (B : Bp) (E : XS) (es : List Expr) (m : AM) : Prop := PA X es (tR C B E (RepL C) m)
abbrev RSt (X : Cx) (C : Pl) (B : Bp) (E : XS) (st : Stmt) (m : SM) : Prop := PS X st (tS C B E m)
abbrev RSs (X : Cx) (C : Pl) (B : Bp) (E : XS) (st : List Stmt) (m : SM) : Prop := PSs X st (tS C B E m)
abbrev Tk (X : Cx) (E : XS) : Prop := Takes X (fun cls d σ H => E σ cls d H)

/-! ### what a def promises -/
structure Grow (C : Pl) (F H F' H' : Hp) : Prop where
  s : Sk C F F'
  f : Same F' H'
  h : Uh C F H H'
  n : ∀ a o, F' a = some o → (∃ u, F a = some u) ∨ H a = none
def spX (C : Pl) (fn : PFn) : Sp := fun vs H Q E => ∃ F xs, Same F H ∧ TbOk C F H ∧ RepL C F xs vs ∧ match fn xs with
  | .ok y => ∀ F' H' v, Grow C F H F' H' → Rep C F' y v → Q v H'
  | .ex e => ∀ F' H' cls d, Grow C F H F' H' → ExR C F' e cls d → E cls d H'
  | .no => False

/-- room, and no text of an object is being made -/
structure RmG (k : Nat) (A : Around) : Prop where
  r : Room k A
  g : A.guards = some []
theorem RmG.mono {j k : Nat} {A : Around} (h : RmG k A) (l : j ≤ k) : RmG j A := ⟨h.r.mono l, h.g⟩
theorem RmG.deeper {k : Nat} {A : Around} (h : RmG (k + 1) A) (env : Env) : RmG k (A.deeper env) := ⟨h.r.deeper env, h.g⟩
theorem RmG.in1 {k : Nat} {A : Around} (h : RmG (k + 1) A) : RmG k A.in1 := ⟨h.r.in1, h.g⟩
theorem RmG.make {k : Nat} {A : Around} (h : RmG (k + 1) A) (c : Addr) (us : List Value) (kw : List (Str × Value)) : RmG k (A.under (.builtin "type.__call__" ⟨.ref c :: us, kw⟩)) :=
  ⟨h.r.make c us kw, by
    have e : (A.under (.builtin "type.__call__" ⟨.ref c :: us, kw⟩)).guards = A.guards := by
      first | rfl | simp [Around.under, Code.guards, Code.isGuard, guardIds, pushGuards]
    rw [e]; exact h.g⟩
/-- a promise by positional values, where there is such room -/
def FnG (P : Program) (w : World) (K : PySem.W.Frag) (mg : Str → Option Value) (base : Heap) (k : Nat) (f : Addr) (sp : Sp) : Prop :=
  ∀ (A : Around) (outer : List Env) (s : Shared) (H : Hp) (us : List Value) (vs : List V) (Q : VK) (E : XK), RmG k A → Env0 P w K mg base A outer s H → Vals vs us → sp vs H Q E →
    codeAny (model P w) A (.call (.ref f) ⟨us, []⟩) (CR (L2.CX P w) outer P w H s Q E) s
section
variable {P : Program} {w : World} {K : PySem.W.Frag} {mg : Str → Option Value} {base : Heap} {j k : Nat} {f : Addr} {sp sp' : Sp}
theorem FnG.mono (G : FnG P w K mg base j f sp) (h : j ≤ k) : FnG P w K mg base k f sp := fun A outer s H us vs Q E hr => G A outer s H us vs Q E (hr.mono h)
theorem FnG.imp (G : FnG P w K mg base k f sp) (h : ∀ vs H Q E, sp' vs H Q E → sp vs H Q E) : FnG P w K mg base k f sp' := fun A outer s H us vs Q E hr e0 r q => G A outer s H us vs Q E hr e0 r (h _ _ _ _ q)
end
section
variable {X : Cx} {C : Pl} {B : Bp} {E : XS} {d : DSt} {σ : L2.St} {F H : Hp} {pins : List (Addr × Obj)} {s : Shared} {Q : VK} {k : Nat} {f : Addr} {fn : PFn} {us : List Value} {vs : List V} {xs : List PV}
/-- what a code's end is, seen from the caller's body -/
def Aft (X : Cx) (pins : List (Addr × Obj)) (σ : L2.St) (Q : VK) (r : Result) (s' : Shared) : Prop := match r with
  | .ok (.ret v) => EP X pins σ Q v s'
  | .ok _ => False
  | .error e => X.xe e s'
theorem after_call (tk : Tk X E) (I : Inv X pins σ H s) {r : Result} {s' : Shared} (h : CR (L2.CX X.prog X.w) X.stack X.prog X.w H s Q (E σ) r s') : Aft X pins σ Q r s' := by
  cases r with
  | error e => exact tk e s' (XE.of_call I (fun _ _ _ h => h) h)
  | ok fl => cases fl <;> first | exact h.elim | exact I.after h
theorem sp_tK {B : Bp} {E : XK} {Q : VK} (b : BG C B d F H) (rp : RepL C F xs vs) (h : tK C B E (Rep C) ((fn xs).r d) F H Q) : spX C fn vs H Q E := by
  refine ⟨F, xs, b.fh, b.tb, rp, ?_⟩
  revert h
  cases fn xs with
  | ok y => exact fun h F' H' v g rv => h F' H' v (b.grow g.s g.f g.h g.n) (.of b.fh g.s g.f g.h g.n) rv
  | ex e => exact fun h F' H' cls dd g rv => h F' H' cls dd (b.grow g.s g.f g.h g.n) (.of b.fh g.s g.f g.h g.n) rv
  | no => exact fun h => h
/-- a call of a def that keeps such a promise -/
theorem run_spc (G : FnG X.prog X.w X.K X.mg X.base k f (spX C fn)) (hr : RmG k X.A) (tk : Tk X E) (I : Inv X pins σ H s) (r : Vals vs us)
    (b : BG C B d F H) (rp : RepL C F xs vs) (h : tK C B (E σ) (Rep C) ((fn xs).r d) F H Q) : codeAny (model X.prog X.w) X.A (.call (.ref f) ⟨us, []⟩) (Aft X pins σ Q) s :=
  codeAny_mono (G X.A X.stack s H us vs Q (E σ) hr I.env0 r (sp_tK b rp h)) fun _ _ hq => after_call tk I hq
theorem run_sp (G : FnG X.prog X.w X.K X.mg X.base k f (spX C fn)) (hr : RmG k X.A) (tk : Tk X E) (I : Inv X pins σ H s) (r : Vals vs us)
    (b : BG C B d F H) (rp : RepL C F xs vs) (h : tK C B (E σ) (Rep C) ((fn xs).r d) F H Q) : wpAny (model X.prog X.w) X.A (call (.ref f) us) (EP X pins σ Q) X.xe s := wpAny_call (run_spc G hr tk I r b rp h)
end

/-! ### a def's body -/
def start0 (n nn : Nat) (xs : List PV) : REnv := xs.map .val ++ List.replicate (nn - n) .un
def RS.o : RS → O
  | .rt x _ => .ok x
  | .nx _ _ => .ok .non
  | .ex e _ => .ex e
  | _ => .no
def runP (n nn : Nat) (m : SM) : PFn := fun xs => if xs.length = n then (m (start0 n nn xs) default).o else .no
theorem BR.start {C : Pl} {F H : Hp} {N : List Str} {n : Nat} {xs : List PV} {vs : List V} (fh : Same F H) (tb : TbOk C F H) (rp : RepL C F xs vs) (hl : xs.length = n) (hn : n ≤ N.length) : BR C ⟨F, H, none, none, []⟩ (start0 n N.length xs) default (start N vs) F H where
  g := ⟨fh, Sk.refl C F, fun a o e => .inl ⟨o, e⟩, fun a o _ e _ => Kp.all (fun _ _ z => z) e, fun a g c e => (nomatch e), fun z => absurd rfl z, fun a e => (nomatch e), tb⟩
  len := by simp [L2.start, start0, ← rp.length, hl]
  sl := by
    have hl2 := rp.length
    refine ⟨fun _ => 0, fun i sl e => ?_, fun i j s t e1 e2 o1 o2 _ => ?_⟩
    · by_cases hi : i < xs.length
      · unfold start0 at e
        rw [List.getElem?_append_left (by simpa using hi), List.getElem?_map] at e
        cases q : xs[i]? with
        | none => rw [q] at e; cases e
        | some x =>
          rw [q] at e; cases e
          obtain ⟨v, hv, r⟩ := rp.get q
          refine ⟨v, ?_, r⟩
          unfold L2.start
          rw [List.getElem?_append_left (by simp; omega), List.getElem?_map, hv]; rfl
      · unfold start0 at e
        rw [List.getElem?_append_right (by simpa using hi), List.getElem?_replicate] at e
        split at e
        · cases e; trivial
        · cases e
    · exfalso
      unfold start0 at e1
      by_cases hi : i < xs.length
      · rw [List.getElem?_append_left (by simpa using hi), List.getElem?_map] at e1
        cases q : xs[i]? with
        | none => rw [q] at e1; cases e1
        | some x => rw [q] at e1; cases e1; cases o1
      · rw [List.getElem?_append_right (by simpa using hi), List.getElem?_replicate] at e1
        split at e1
        · cases e1; cases o1
        · cases e1
theorem BR.end_ {C : Pl} {F0 H0 F H : Hp} {ρ : REnv} {d : DSt} {σ : L2.St} (b : BG C ⟨F0, H0, none, none, []⟩ d F H) : Grow C F0 H0 F H :=
  ⟨b.f0, b.fh, fun a o z e => b.od a o z e (by
    intro m
    rcases m with ⟨p, hp, _⟩ | hp
    · cases hp
    · cases hp), b.nw⟩
section
variable {P : Program} {w : World} {K : PySem.W.Frag} {mg : Str → Option Value} {base : Heap} {C : Pl}
theorem def_ok {x qual : Str} {st : Stmt} {f : Addr} {fd : FuncData} {N ps : List Str} {k : Nat} {m : SM} {ds : List Value} {dvs : List V} {dpv : List PV} (F : Fun K x qual st f fd) (S : FnScope N ps (defScope st)) (bd : Binds K fd ps ds) (hd : Vals dvs ds) (hp : ∀ G, RepL C G dpv dvs)
    (hb : ∀ (cdv : Value) (A : Around) (outer : List Env) (s : Shared) (H : Hp) (E : XK) (F0 : Hp), RmG k (A.deeper (envOfC qual (defScope st) s.heap.objs.size f cdv)) →
      RSs (cxOf (L2.CX P w) P w K mg base N qual (defScope st) f cdv A outer s H E) C ⟨F0, H, none, none, []⟩ (fun _ => E) (defBody st) m) :
    FnG P w K mg base (k + 1) f (spX C fun xs => runP ps.length N.length m (xs ++ dpv)) := by
  have hpl : ps.length ≤ N.length := by have := congrArg List.length S.pre; rw [List.length_take] at this; omega
  obtain ⟨oc, od, kV, doc, pm, an, cdv, ct, osl, rfl, lk, hcd⟩ := F.ex
  intro A outer s H us vs Q E hr e0 r h
  obtain ⟨F0, xs, fh, tb, rp, h⟩ := h
  have rp2 : RepL C F0 (xs ++ dpv) (vs ++ dvs) := rp.append (hp F0)
  have hl : (xs ++ dpv).length = ps.length := by
    by_cases hl : (xs ++ dpv).length = ps.length
    · exact hl
    · unfold runP at h
      dsimp only at h
      rw [if_neg hl] at h
      exact h.elim
  have r2 : Vals (vs ++ dvs) (us ++ ds) := r.append hd
  have hl3 : (us ++ ds).length = ps.length := by rw [← r2.length, ← rp2.length]; exact hl
  refine StX.run_bnd lk hcd S hr.r e0 (G := fun ws H2 => ws = vs ++ dvs ∧ H2 = H) (fun A' Ex Q' hq => ?_) fun s2 H2 ws ⟨e1, e2⟩ hr2 => ?_
  · exact bd s us (e0.mod.kin.keeps fun b o e => (e0.bs b o e).1) hl3 _ _ _ _ (hq s H (vs ++ dvs) (us ++ ds) e0 Un.refl rfl (fun _ _ z => z) r2 (by rw [← rp2.length]; exact hl) ⟨rfl, rfl⟩)
  · subst e1 e2
    refine ⟨_, hb cdv A outer s2 H2 E F0 ⟨hr2, hr.g⟩, F0, _, default, BR.start fh tb rp2 hl hpl, ?_⟩
    unfold runP at h
    dsimp only at h
    rw [if_pos hl] at h
    revert h
    cases m (start0 ps.length N.length (xs ++ dpv)) default with
    | nx ρ' d' => exact fun h σ' F' H' b s' => h F' H' .non (BR.end_ (ρ := ρ') (σ := σ') b.g) rfl
    | rt x d' => exact fun h ρ' σ' F' H' v b s' r => h F' H' v (BR.end_ (ρ := ρ') (σ := σ') b.g) r
    | bk ρ' d' => exact fun h => h.elim
    | ct ρ' d' => exact fun h => h.elim
    | ex e d' => exact fun h _ F' H' cls dd b r => h F' H' cls dd (BR.end_ (ρ := []) (σ := []) b) r
    | no => exact fun h => h
end

/-! ### simple expressions -/
def eVar (i : Nat) : EM := fun ρ d => match ρ[i]? with
  | some (.val x) => .ok x d
  | _ => .no
def eC (x : PV) : EM := fun _ d => .ok x d
section
variable {X : Cx} {C : Pl} {B : Bp} {E : XS} {pos : Pos}
theorem re_var (i : Nat) {x : Str} (hN : X.N[i]? = some x := by rfl) (hv : Vis X.env.scope x := by first | exact Or.inl rfl | exact Or.inr (Or.inl rfl) | exact Or.inr (Or.inr rfl)) (hd : (x == ("__debug__" : Str)) = false := by decide)
    (hcd : (x == ("__classdict__" : Str)) = false := by decide) : RE X C B E (.Name x pos) (eVar i) := by
  refine PE.weak (pe_var hN hv hd hcd) fun σ H Q h => ?_
  obtain ⟨F, ρ, d, b, h⟩ := h
  unfold eVar at h
  split at h
  · rename_i x e
    obtain ⟨ad, h1, _⟩ := b.sl
    obtain ⟨v, ev, r⟩ := h1 i _ e
    exact ⟨v, ev, tK.here b.g h r⟩
  · exact h.elim
theorem re_c {e : Expr} {v : V} {x : PV} (h : PE X e (tC v)) (hr : ∀ F, Rep C F x v) : RE X C B E e (eC x) := by
  refine PE.weak h fun σ H Q h => ?_
  obtain ⟨F, ρ, d, b, h⟩ := h
  exact tK.here b.g h (hr F)
theorem re_int {i j} : RE X C B E (.Constant (.int i) j pos) (eC (.int i)) := re_c pe_int fun _ => rfl
theorem re_bl {b j} : RE X C B E (.Constant (.bool b) j pos) (eC (.bl b)) := re_c pe_bl fun _ => rfl
theorem re_non {j} : RE X C B E (.Constant .none j pos) (eC .non) := re_c pe_non fun _ => rfl
theorem re_str {x j} : RE X C B E (.Constant (.str x) j pos) (eC (.str x)) := re_c pe_str fun _ => rfl
/-- a class, a def of the module as a value -/
theorem re_gl {x : Str} {c : Nat} {a : Addr} (hg : Gl X x) (hm : X.mg x = some (.ref a)) (ha : C.ad c = some a) (hd : (x == ("__debug__" : Str)) = false := by decide) : RE X C B E (.Name x pos) (eC (.gl c)) :=
  re_c (pe_glob hg hm (v := .ref a) rfl hd) fun _ => ⟨a, ha, rfl⟩
/-- a built-in type as a value -/
theorem re_ty {x : Str} {n : String} (hg : Gl X x) (hm : X.mg x = none) (hv : bootBuiltins x = some (.type n)) (hn : x ≠ "__name__" := by decide) (hd : (x == ("__debug__" : Str)) = false := by decide) : RE X C B E (.Name x pos) (eC (.ty n)) :=
  re_c (pe_bltn hg hm hv (v := .ty n) rfl hn hd) fun _ => rfl
end

/-! ### two-place operations -/
/-- a two-place operation on values, at the slots σ -/
def OpS (X : Cx) (f : Value → Value → Sem Value) (r : L2.St → R2) : Prop :=
  ∀ (pins : List (Addr × Obj)) (s : Shared) (σ : L2.St) (H : Hp) (x y : V) (v u : Value) (Q : VK), Inv X pins σ H s → RelV x v → RelV y u → r σ x y H Q →
    wpAny (model X.prog X.w) X.A (f v u) (EP X pins σ Q) X.xe s
theorem OpR.s {X : Cx} {f : Value → Value → Sem Value} {r : R2} (h : OpR X f r) : OpS X f fun _ => r := fun pins s σ H x y v u Q I r1 r2 q => h pins s σ H x y v u Q I r1 r2 q
def tOpS (r : L2.St → R2) (ta tb : TE) : TE := fun σ H Q => ta σ H fun x H1 => tb σ H1 fun y H2 => r σ x y H2 Q
theorem pe_opS {X : Cx} {a b : Expr} {ta tb : TE} {pos : Pos} {op : Operator} {r : L2.St → R2} (ho : OpS X (binaryOp op) r) (ha : PE X a ta) (hb : PE X b tb) : PE X (.BinOp a op b pos) (tOpS r ta tb) := by
  refine ⟨fun pins s σ H Q I h => ?_⟩
  exact wpAny_BinOp (binT ha hb I h fun v u s2 x y H2 I2 rx ry q => ho pins s2 σ H2 x y v u Q I2 rx ry q)
theorem pe_cmpS {X : Cx} {a b : Expr} {ta tb : TE} {pos : Pos} {op : CmpOp} {r : L2.St → R2} (ho : OpS X (compareOp op) r) (ha : PE X a ta) (hb : PE X b tb) (hm : behindInMarks op b = false) : PE X (.Compare a [op] [b] pos) (tOpS r ta tb) := by
  refine ⟨fun pins s σ H Q I h => ?_⟩
  exact wpAny_Compare1 (binT ha hb I h fun v u s2 x y H2 I2 rx ry q => ho pins s2 σ H2 x y v u Q I2 rx ry q) hm
def tChainS (r r' : L2.St → R2) (ta tb tc : TE) : TE := fun σ H Q => ta σ H fun x H1 => tb σ H1 fun y H2 => r σ x y H2 fun z H3 => ∃ k, z = .bl k ∧
  (if k = true then tc σ H3 fun w' H4 => r' σ y w' H4 Q else Q (.bl false) H3)
theorem pe_chainS {X : Cx} {a b c : Expr} {ta tb tc : TE} {pos : Pos} {op op' : CmpOp} {r r' : L2.St → R2} (ho : OpS X (compareOp op) r) (ho' : OpS X (compareOp op') r') (ha : PE X a ta) (hb : PE X b tb) (hc : PE X c tc)
    (hm : lastMarks [op, op'] [b, c] = false := by with_unfolding_all rfl) : PE X (.Compare a [op, op'] [b, c] pos) (tChainS r r' ta tb tc) := by
  refine ⟨fun pins s σ H Q I h => ?_⟩
  refine Compare_chain (thn (ha.run pins s σ H _ I h) fun v s1 ⟨x, H1, I1, r1, q1⟩ => chain_link (thn (hb.run pins s1 σ H1 _ I1 q1) fun u s2 ⟨y, H2, I2, r2, q2⟩ =>
    thn (ho pins s2 σ H2 x y v u _ I2 r1 r2 q2) fun d s3 ⟨z, H3, I3, r3, k, e, q3⟩ => ?_)) hm
  subst e
  cases r3
  refine wpAny_truthy_bool ?_
  cases k with
  | false => exact ite_ff ⟨.bl false, H3, I3, rfl, q3⟩
  | true => exact ite_tt (chain_last (thn (hc.run pins s3 σ H3 _ I3 q3) fun w' s4 ⟨z', H4, I4, r4, q4⟩ => ho' pins s4 σ H4 y z' u w' Q I4 r2 r4 q4))
theorem pt_cmpS {X : Cx} {a b : Expr} {ta tb : TE} {pos : Pos} {op : CmpOp} {r : L2.St → R2} (ho : OpS X (compareOp op) r) (ha : PE X a ta) (hb : PE X b tb) (hm : behindInMarks op b = false) : PT X (.Compare a [op] [b] pos) (tTest (tOpS r ta tb)) := by
  refine ⟨fun pins s σ H Q I h => ?_⟩
  refine wpAny_isTrue_Compare1 (thn (ha.run pins s σ H _ I h) fun v s1 ⟨x, H1, I1, r1, q1⟩ => thn (hb.run pins s1 σ H1 _ I1 q1) fun u s2 ⟨y, H2, I2, r2, q2⟩ =>
    thn (ho pins s2 σ H2 x y v u _ I2 r1 r2 q2) fun c s3 ⟨z, H3, I3, r3, k, e, q3⟩ => ?_) hm
  subst e
  cases r3
  exact wpAny_truthy_bool ⟨H3, I3, q3⟩
theorem pt_chainS {X : Cx} {a b c : Expr} {ta tb tc : TE} {pos : Pos} {op op' : CmpOp} {r r' : L2.St → R2} (ho : OpS X (compareOp op) r) (ho' : OpS X (compareOp op') r') (ha : PE X a ta) (hb : PE X b tb) (hc : PE X c tc)
    (hm : lastMarks [op, op'] [b, c] = false := by with_unfolding_all rfl) : PT X (.Compare a [op, op'] [b, c] pos) (tTest (tChainS r r' ta tb tc)) := by
  refine ⟨fun pins s σ H Q I h => ?_⟩
  refine isTrue_chain (thn (ha.run pins s σ H _ I h) fun v s1 ⟨x, H1, I1, r1, q1⟩ => test_link (thn (hb.run pins s1 σ H1 _ I1 q1) fun u s2 ⟨y, H2, I2, r2, q2⟩ =>
    thn (ho pins s2 σ H2 x y v u _ I2 r1 r2 q2) fun d s3 ⟨z, H3, I3, r3, k, e, q3⟩ => ?_)) hm
  subst e
  cases r3
  refine wpAny_truthy_bool ?_
  cases k with
  | false =>
    obtain ⟨k', e', q'⟩ := q3
    cases e'
    exact ite_ff ⟨H3, I3, q'⟩
  | true =>
    refine ite_tt (test_last (thn (hc.run pins s3 σ H3 _ I3 q3) fun w' s4 ⟨z', H4, I4, r4, q4⟩ => thn (ho' pins s4 σ H4 y z' u w' _ I4 r2 r4 q4) fun d' s5 ⟨z2, H5, I5, r5, k2, e2, q5⟩ => ?_))
    subst e2
    cases r5
    exact wpAny_truthy_bool ⟨H5, I5, q5⟩
def rO (C : Pl) (B : Bp) (E : XS) (g : PV → PV → O) : L2.St → R2 := fun σ x y H Q => ∃ F d px py, BG C B d F H ∧ Rep C F px x ∧ Rep C F py y ∧ tK C B (E σ) (Rep C) ((g px py).r d) F H Q
def Op2 (X : Cx) (C : Pl) (E : XS) (f : Value → Value → Sem Value) (g : PV → PV → O) : Prop := ∀ B, OpS X f (rO C B E g)
def eBin (g : PV → PV → O) (ma mb : EM) : EM := fun ρ d => (ma ρ d).bind fun x d1 => (mb ρ d1).bind fun y d2 => (g x y).r d2
section
variable {X : Cx} {C : Pl} {B : Bp} {E : XS} {pos : Pos} {a b c : Expr} {ma mb mc : EM} {g g' : PV → PV → O}
/-- two expressions in a row -/
theorem tR.two {k : PV → PV → DSt → R PV} {σ : L2.St} {H : Hp} {Q : VK} (h : tR C B E (Rep C) (fun ρ d => (ma ρ d).bind fun x d1 => (mb ρ d1).bind fun y d2 => k x y d2) σ H Q) :
    tR C B E (Rep C) ma σ H fun v H1 => tR C B E (Rep C) mb σ H1 fun u H2 => ∃ F ρ d x y, BR C B ρ d σ F H2 ∧ Rep C F x v ∧ Rep C F y u ∧ tK C B (E σ) (Rep C) (k x y d) F H2 Q := by
  obtain ⟨F, ρ, d, b, h⟩ := h
  refine ⟨F, ρ, d, b, (tK.bind (Rp := Rep C) h).imp fun v H1 q => ?_⟩
  obtain ⟨F1, d1, x, b1, g1, r1, k1⟩ := q
  refine ⟨F1, ρ, d1, b.go b1 g1, (tK.bind (Rp := Rep C) k1).imp fun u H2 q => ?_⟩
  obtain ⟨F2, d2, y, b2, g2, r2, k2⟩ := q
  exact ⟨F2, ρ, d2, x, y, (b.go b1 g1).go b2 g2, r1.mono g2.s, r2, k2⟩
theorem tR.bin {σ : L2.St} {H : Hp} {Q : VK} (h : tR C B E (Rep C) (eBin g ma mb) σ H Q) : tOpS (rO C B E g) (tR C B E (Rep C) ma) (tR C B E (Rep C) mb) σ H Q := by
  obtain ⟨F, ρ, d, b, q⟩ := h.two
  refine ⟨F, ρ, d, b, q.imp fun v H1 q => ?_⟩
  obtain ⟨F, ρ, d, b, q⟩ := q
  refine ⟨F, ρ, d, b, q.imp fun v H1 q => ?_⟩
  obtain ⟨F, ρ, d, x, y, b, r1, r2, q⟩ := q
  exact ⟨F, d, x, y, b.g, r1, r2, q⟩
theorem re_op {op : Operator} (ho : Op2 X C E (binaryOp op) g) (ha : RE X C B E a ma) (hb : RE X C B E b mb) : RE X C B E (.BinOp a op b pos) (eBin g ma mb) :=
  PE.weak (pe_opS (ho B) ha hb) fun _ _ _ h => h.bin
theorem re_cmp {op : CmpOp} (ho : Op2 X C E (compareOp op) g) (ha : RE X C B E a ma) (hb : RE X C B E b mb) (hm : behindInMarks op b = false) : RE X C B E (.Compare a [op] [b] pos) (eBin g ma mb) :=
  PE.weak (pe_cmpS (ho B) ha hb hm) fun _ _ _ h => h.bin
/-- a op1 b op2 c -/
def eChain (g g' : PV → PV → O) (ma mb mc : EM) : EM := fun ρ d => (ma ρ d).bind fun x d1 => (mb ρ d1).bind fun y d2 => ((g x y).r d2).bind fun z d3 => match z with
  | .bl true => (mc ρ d3).bind fun w d4 => (g' y w).r d4
  | .bl false => .ok (.bl false) d3
  | _ => .no
theorem re_chain {op op' : CmpOp} (ho : Op2 X C E (compareOp op) g) (ho' : Op2 X C E (compareOp op') g') (ha : RE X C B E a ma) (hb : RE X C B E b mb) (hc : RE X C B E c mc)
    (hm : lastMarks [op, op'] [b, c] = false := by with_unfolding_all rfl) : RE X C B E (.Compare a [op, op'] [b, c] pos) (eChain g g' ma mb mc) := by
  refine PE.weak (pe_chainS (ho B) (ho' B) ha hb hc hm) fun σ H Q h => ?_
  obtain ⟨F, ρ, d, b0, h⟩ := h
  refine ⟨F, ρ, d, b0, (tK.bind (Rp := Rep C) h).imp fun v H1 q => ?_⟩
  obtain ⟨F1, d1, x, b1, g1, r1, k1⟩ := q
  have B1 := b0.go b1 g1
  refine ⟨F1, ρ, d1, B1, (tK.bind (Rp := Rep C) k1).imp fun u H2 q => ?_⟩
  obtain ⟨F2, d2, y, b2, g2, r2, k2⟩ := q
  have B2 := B1.go b2 g2
  refine ⟨F2, d2, x, y, b2, r1.mono g2.s, r2, (tK.bind (Rp := Rep C) k2).imp fun t H3 q => ?_⟩
  obtain ⟨F3, d3, z, b3, g3, r3, k3⟩ := q
  have B3 := B2.go b3 g3
  split at k3
  · refine ⟨true, r3, ?_⟩
    rw [if_pos rfl]
    refine ⟨F3, ρ, d3, B3, (tK.bind (Rp := Rep C) k3).imp fun t4 H4 q => ?_⟩
    obtain ⟨F4, d4, w, b4, g4, r4, k4⟩ := q
    exact ⟨F4, d4, y, w, b4, (r2.mono g3.s).mono g4.s, r4, k4⟩
  · refine ⟨false, r3, ?_⟩
    rw [if_neg (by decide)]
    exact k3.here b3 rfl
  · exact k3.elim
end
end RL
end M_R2
section M_R3
namespace RL
open PySem PySem.Spec PyProof.Rows L2

/-- a bound on lengths that is far below the line of the sizes -/
def LIM : Nat := 100000
theorem LIM_le : LIM ≤ sizeLine := by rw [sizeLine_eq]; decide
theorem lim_le {n : Nat} (h : n < LIM) : n ≤ sizeLine := Nat.le_trans (Nat.le_of_lt h) LIM_le

/-! ### truth -/
def tru : PV → Option Bool
  | .non => some false
  | .bl b => some b
  | .int i => some (i != 0)
  | .str y => if y.length < LIM then some ((y.length : Int) != 0) else none
  | .tup xs => some !xs.isEmpty
  | .lst xs => some !xs.isEmpty
  | .emp => some false
  | _ => none
def bTru (m : EM) : BM := fun ρ d => (m ρ d).bind fun x d' => match tru x with
  | some b => .ok b d'
  | none => .no
theorem isEmpty_repL {C : Pl} {F : Hp} {xs : List PV} {vs : List V} (r : RepL C F xs vs) : xs.isEmpty = vs.isEmpty := by
  have := r.length
  cases xs <;> cases vs <;> simp_all
theorem tru_V {C : Pl} {F H : Hp} (fh : Same F H) : ∀ {x : PV} {v : V} {b : Bool}, Rep C F x v → tru x = some b → TruV C.K v H b
  | .non, _, _, h, e => by cases h; cases e; rfl
  | .bl _, _, _, h, e => by cases h; cases e; rfl
  | .int _, _, _, h, e => by cases h; cases e; rfl
  | .str y, _, _, h, e => by
    cases h
    by_cases hl : y.length < LIM
    · have e' : (if y.length < LIM then some ((y.length : Int) != 0) else none) = some _ := e
      rw [if_pos hl] at e'
      cases e'
      exact ⟨lim_le hl, rfl⟩
    · have e' : (if y.length < LIM then some ((y.length : Int) != 0) else none) = some _ := e
      rw [if_neg hl] at e'
      cases e'
  | .tup xs, _, _, h, e => by
    obtain ⟨a, vs, rfl, h2, h3⟩ := h
    cases e
    exact .inr (.inl ⟨vs, Same.sqT fh h2, by rw [isEmpty_repL h3]⟩)
  | .lst xs, _, _, h, e => by
    obtain ⟨a, vs, rfl, h2, h3⟩ := h
    cases e
    exact .inl ⟨vs, (SqX.mono fh h2).seq, by rw [isEmpty_repL h3]⟩
  | .emp, _, _, h, e => by
    obtain ⟨a, rfl, h2⟩ := h
    cases e
    exact .inr (.inr ⟨[], fh _ _ h2, rfl⟩)
  | .ty _, _, _, _, e => by cases e
  | .gl _, _, _, _, e => by cases e
  | .ins _ _, _, _, _, e => by cases e
  | .exc _ _, _, _, _, e => by cases e

section
variable {X : Cx} {C : Pl} {B : Bp} {E : XS} {pos : Pos} {a b c : Expr} {ma mb mc : EM} {ba bb bc : BM} {g g' : PV → PV → O} {rest : List Expr}
theorem rt_val (hK : X.K = C.K) (ha : RE X C B E a ma) (he : ∀ whole, isTrue a X.env whole = (do let v ← whole; standAt a.pos; holding [v] (truthy v)) := by intro _; rfl) : RT X C B E a (bTru ma) := by
  refine PT.weak (pt_truth ha he) fun σ H Q h => ?_
  obtain ⟨F, ρ, d, b0, h⟩ := h
  refine ⟨F, ρ, d, b0, (tK.bind (Rp := Rep C) h).imp fun v H1 q => ?_⟩
  obtain ⟨F1, d1, x, b1, g1, r1, k1⟩ := q
  split at k1
  · rename_i b e
    exact ⟨b, hK ▸ tru_V b1.fh r1 e, k1.here b1 rfl⟩
  · exact k1.elim
/-- a comparison's outcome as a test -/
def bBool (m : EM) : BM := fun ρ d => (m ρ d).bind fun x d' => match x with
  | .bl b => .ok b d'
  | _ => .no
theorem tR.tst {m : EM} {t : TE} {σ : L2.St} {H : Hp} {Q : Bool → Hp → Prop} (w : ∀ Q', tR C B E (Rep C) m σ H Q' → t σ H Q') (h : tR C B E RB (bBool m) σ H Q) : tTest t σ H Q := by
  refine w _ ?_
  obtain ⟨F, ρ, d, b0, h⟩ := h
  refine ⟨F, ρ, d, b0, (tK.bind (Rp := Rep C) h).imp fun v H1 q => ?_⟩
  obtain ⟨F1, d1, x, b1, g1, r1, k1⟩ := q
  split at k1
  · exact ⟨_, r1, k1.here b1 rfl⟩
  · exact k1.elim
theorem rt_cmp {op : CmpOp} (ho : Op2 X C E (compareOp op) g) (ha : RE X C B E a ma) (hb : RE X C B E b mb) (hm : behindInMarks op b = false) : RT X C B E (.Compare a [op] [b] pos) (bBool (eBin g ma mb)) :=
  PT.weak (pt_cmpS (ho B) ha hb hm) fun _ _ _ h => tR.tst (fun _ h => h.bin) h
theorem tR.chain {σ : L2.St} {H : Hp} {Q : VK} (h : tR C B E (Rep C) (eChain g g' ma mb mc) σ H Q) : tChainS (rO C B E g) (rO C B E g') (tR C B E (Rep C) ma) (tR C B E (Rep C) mb) (tR C B E (Rep C) mc) σ H Q := by
  obtain ⟨F, ρ, d, b0, h⟩ := h
  refine ⟨F, ρ, d, b0, (tK.bind (Rp := Rep C) h).imp fun v H1 q => ?_⟩
  obtain ⟨F1, d1, x, b1, g1, r1, k1⟩ := q
  have B1 := b0.go b1 g1
  refine ⟨F1, ρ, d1, B1, (tK.bind (Rp := Rep C) k1).imp fun u H2 q => ?_⟩
  obtain ⟨F2, d2, y, b2, g2, r2, k2⟩ := q
  have B2 := B1.go b2 g2
  refine ⟨F2, d2, x, y, b2, r1.mono g2.s, r2, (tK.bind (Rp := Rep C) k2).imp fun t H3 q => ?_⟩
  obtain ⟨F3, d3, z, b3, g3, r3, k3⟩ := q
  have B3 := B2.go b3 g3
  split at k3
  · refine ⟨true, r3, ?_⟩
    rw [if_pos rfl]
    refine ⟨F3, ρ, d3, B3, (tK.bind (Rp := Rep C) k3).imp fun t4 H4 q => ?_⟩
    obtain ⟨F4, d4, w, b4, g4, r4, k4⟩ := q
    exact ⟨F4, d4, y, w, b4, (r2.mono g3.s).mono g4.s, r4, k4⟩
  · refine ⟨false, r3, ?_⟩
    rw [if_neg (by decide)]
    exact k3.here b3 rfl
  · exact k3.elim
theorem rt_chain {op op' : CmpOp} (ho : Op2 X C E (compareOp op) g) (ho' : Op2 X C E (compareOp op') g') (ha : RE X C B E a ma) (hb : RE X C B E b mb) (hc : RE X C B E c mc)
    (hm : lastMarks [op, op'] [b, c] = false := by with_unfolding_all rfl) : RT X C B E (.Compare a [op, op'] [b, c] pos) (bBool (eChain g g' ma mb mc)) :=
  PT.weak (pt_chainS (ho B) (ho' B) ha hb hc hm) fun _ _ _ h => tR.tst (fun _ h => h.chain) h
/-- two tests in a row -/
theorem tR.bind2 {β : Type} {Rq : Hp → β → β → Prop} {k : REnv → Bool → DSt → R β} {σ : L2.St} {H : Hp} {Q : β → Hp → Prop} (h : tR C B E Rq (fun ρ d => (ba ρ d).bind (k ρ)) σ H Q) :
    tR C B E RB ba σ H fun c H1 => ∃ F ρ d, BR C B ρ d σ F H1 ∧ tK C B (E σ) Rq (k ρ c d) F H1 Q := by
  obtain ⟨F, ρ, d, b, h⟩ := h
  refine ⟨F, ρ, d, b, (tK.bind (Rp := RB) h).imp fun v H1 q => ?_⟩
  obtain ⟨F1, d1, x, b1, g1, r1, k1⟩ := q
  cases r1
  exact ⟨F1, ρ, d1, b.go b1 g1, k1⟩
def bAnd (a b : BM) : BM := fun ρ d => (a ρ d).bind fun c d1 => if c then b ρ d1 else .ok false d1
def bOr (a b : BM) : BM := fun ρ d => (a ρ d).bind fun c d1 => if c then .ok true d1 else b ρ d1
def bNot (a : BM) : BM := fun ρ d => (a ρ d).bind fun c d1 => .ok (!c) d1
theorem rw_and1 (ha : RT X C B E a ba) : RW X C B E (.BoolOp .And [a] pos) ba := pw_and1 ha
theorem rw_or1 (ha : RT X C B E a ba) : RW X C B E (.BoolOp .Or [a] pos) ba := pw_or1 ha
theorem rw_and (ha : RT X C B E a ba) (hb : RW X C B E (.BoolOp .And (b :: rest) pos) bb) : RW X C B E (.BoolOp .And (a :: b :: rest) pos) (bAnd ba bb) := by
  refine PW.weak (pw_and ha hb) fun σ H Q h => ?_
  refine (tR.bind2 h : _) |> fun z => ?_
  obtain ⟨F, ρ, d, b0, z⟩ := z
  refine ⟨F, ρ, d, b0, z.imp fun c H1 q => ?_⟩
  obtain ⟨F1, ρ1, d1, b1, k1⟩ := q
  cases c with
  | true => exact ⟨F1, ρ1, d1, b1, k1⟩
  | false => exact k1.here b1.g rfl
theorem rw_or (ha : RT X C B E a ba) (hb : RW X C B E (.BoolOp .Or (b :: rest) pos) bb) : RW X C B E (.BoolOp .Or (a :: b :: rest) pos) (bOr ba bb) := by
  refine PW.weak (pw_or ha hb) fun σ H Q h => ?_
  refine (tR.bind2 h : _) |> fun z => ?_
  obtain ⟨F, ρ, d, b0, z⟩ := z
  refine ⟨F, ρ, d, b0, z.imp fun c H1 q => ?_⟩
  obtain ⟨F1, ρ1, d1, b1, k1⟩ := q
  cases c with
  | false => exact ⟨F1, ρ1, d1, b1, k1⟩
  | true => exact k1.here b1.g rfl
theorem rt_w (h : RW X C B E a ba) : RT X C B E a ba := h.pt
theorem rt_not (ha : RT X C B E a ba) : RT X C B E (.UnaryOp .Not a pos) (bNot ba) := by
  refine PT.weak (pt_not ha) fun σ H Q h => ?_
  refine (tR.bind2 h : _) |> fun z => ?_
  obtain ⟨F, ρ, d, b0, z⟩ := z
  refine ⟨F, ρ, d, b0, z.imp fun c H1 q => ?_⟩
  obtain ⟨F1, ρ1, d1, b1, k1⟩ := q
  exact k1.here b1.g rfl
/-- the same as values (bools) -/
def eB (m : BM) : EM := fun ρ d => (m ρ d).bind fun c d1 => .ok (.bl c) d1
def eAnd (a b : EM) : EM := fun ρ d => (a ρ d).bind fun x d1 => match x with
  | .bl true => b ρ d1
  | .bl false => .ok (.bl false) d1
  | _ => .no
def eOr (a b : EM) : EM := fun ρ d => (a ρ d).bind fun x d1 => match x with
  | .bl true => .ok (.bl true) d1
  | .bl false => b ρ d1
  | _ => .no
def eNot (a : EM) : EM := fun ρ d => (a ρ d).bind fun x d1 => match x with
  | .bl c => .ok (.bl !c) d1
  | _ => .no
theorem re_one {op} (ha : RE X C B E a ma) : RE X C B E (.BoolOp op [a] pos) ma := pe_one ha
theorem re_and (ha : RE X C B E a ma) (hb : RE X C B E (.BoolOp .And (b :: rest) pos) mb) : RE X C B E (.BoolOp .And (a :: b :: rest) pos) (eAnd ma mb) := by
  refine PE.weak (pe_and ha hb) fun σ H Q h => ?_
  obtain ⟨F, ρ, d, b0, h⟩ := h
  refine ⟨F, ρ, d, b0, (tK.bind (Rp := Rep C) h).imp fun v H1 q => ?_⟩
  obtain ⟨F1, d1, x, b1, g1, r1, k1⟩ := q
  split at k1
  · exact ⟨true, r1, by rw [if_pos rfl]; exact ⟨F1, ρ, d1, b0.go b1 g1, k1⟩⟩
  · exact ⟨false, r1, by rw [if_neg (by decide)]; exact k1.here b1 rfl⟩
  · exact k1.elim
theorem re_or (ha : RE X C B E a ma) (hb : RE X C B E (.BoolOp .Or (b :: rest) pos) mb) : RE X C B E (.BoolOp .Or (a :: b :: rest) pos) (eOr ma mb) := by
  refine PE.weak (pe_or ha hb) fun σ H Q h => ?_
  obtain ⟨F, ρ, d, b0, h⟩ := h
  refine ⟨F, ρ, d, b0, (tK.bind (Rp := Rep C) h).imp fun v H1 q => ?_⟩
  obtain ⟨F1, d1, x, b1, g1, r1, k1⟩ := q
  split at k1
  · exact ⟨true, r1, by rw [if_pos rfl]; exact k1.here b1 rfl⟩
  · exact ⟨false, r1, by rw [if_neg (by decide)]; exact ⟨F1, ρ, d1, b0.go b1 g1, k1⟩⟩
  · exact k1.elim
theorem re_not (ha : RE X C B E a ma) : RE X C B E (.UnaryOp .Not a pos) (eNot ma) := by
  refine PE.weak (pe_not ha) fun σ H Q h => ?_
  obtain ⟨F, ρ, d, b0, h⟩ := h
  refine ⟨F, ρ, d, b0, (tK.bind (Rp := Rep C) h).imp fun v H1 q => ?_⟩
  obtain ⟨F1, d1, x, b1, g1, r1, k1⟩ := q
  split at k1
  · exact ⟨_, r1, k1.here b1 rfl⟩
  · exact k1.elim
def eIf (t : BM) (a b : EM) : EM := fun ρ d => (t ρ d).bind fun c d1 => if c then a ρ d1 else b ρ d1
theorem re_if (hc : RT X C B E c bc) (ha : RE X C B E a ma) (hb : RE X C B E b mb) : RE X C B E (.IfExp c a b pos) (eIf bc ma mb) := by
  refine PE.weak (pe_ifExp hc ha hb) fun σ H Q h => ?_
  obtain ⟨F, ρ, d, b0, h⟩ := h
  refine ⟨F, ρ, d, b0, (tK.bind (Rp := RB) h).imp fun v H1 q => ?_⟩
  obtain ⟨F1, d1, x, b1, g1, r1, k1⟩ := q
  have e : x = v := r1
  subst e
  cases x with
  | true => rw [if_pos rfl]; exact ⟨F1, ρ, d1, b0.go b1 g1, k1⟩
  | false => rw [if_neg (by decide)]; exact ⟨F1, ρ, d1, b0.go b1 g1, k1⟩

/-! ### argument lists, displays -/
def aNil : AM := fun _ d => .ok [] d
def aCons (m : EM) (ms : AM) : AM := fun ρ d => (m ρ d).bind fun x d1 => (ms ρ d1).bind fun xs d2 => .ok (x :: xs) d2
variable {es : List Expr} {ms : AM}
theorem ra_nil : RA X C B E [] aNil := PA.weak pa_nil fun σ H Q h => by
  obtain ⟨F, ρ, d, b0, h⟩ := h
  exact tK.here b0.g h rfl
theorem ra_cons (ha : RE X C B E a ma) (hr : RA X C B E es ms) (hs : starEach (a :: es) X.env = (false, eval a X.env) :: starEach es X.env := by rfl) : RA X C B E (a :: es) (aCons ma ms) := by
  refine PA.weak (pa_cons ha hr hs) fun σ H Q h => ?_
  obtain ⟨F, ρ, d, b0, h⟩ := h
  refine ⟨F, ρ, d, b0, (tK.bind (Rp := Rep C) h).imp fun v H1 q => ?_⟩
  obtain ⟨F1, d1, x, b1, g1, r1, k1⟩ := q
  refine ⟨F1, ρ, d1, b0.go b1 g1, (tK.bind (Rp := RepL C) k1).imp fun vs H2 q => ?_⟩
  obtain ⟨F2, d2, xs, b2, g2, r2, k2⟩ := q
  exact k2.here b2 ⟨_, _, rfl, r1.mono g2.s, r2⟩
/-- *e -/
theorem ra_star (hK : X.K = C.K) {p : Pos} (ha : RE X C B E a ma) (hr : RA X C B E es ms) (hs : starEach (.Starred a p :: es) X.env = (true, eval a X.env) :: starEach es X.env := by rfl) :
    RA X C B E (.Starred a p :: es) (fun ρ d => (ma ρ d).bind fun x d1 => match x with
      | .tup xs => (ms ρ d1).bind fun ys d2 => .ok (xs ++ ys) d2
      | .lst xs => (ms ρ d1).bind fun ys d2 => .ok (xs ++ ys) d2
      | _ => .no) := by
  refine PA.weak (StX.pa_star ha hr hs) fun σ H Q h => ?_
  obtain ⟨F, ρ, d, b0, h⟩ := h
  refine ⟨F, ρ, d, b0, (tK.bind (Rp := Rep C) h).imp fun v H1 q => ?_⟩
  obtain ⟨F1, d1, x, b1, g1, r1, k1⟩ := q
  split at k1
  · rename_i xs
    obtain ⟨p, vs, rfl, h2, h3⟩ := r1
    refine ⟨p, vs, rfl, .inl (by rw [hK]; exact Same.sqT b1.fh h2), F1, ρ, d1, b0.go b1 g1, (tK.bind (Rp := RepL C) k1).imp fun us H2 q => ?_⟩
    obtain ⟨F2, d2, ys, b2, g2, r2, k2⟩ := q
    exact k2.here b2 ((h3.mono g2.s).append r2)
  · rename_i xs
    obtain ⟨p, vs, rfl, h2, h3⟩ := r1
    refine ⟨p, vs, rfl, .inr (by rw [hK]; exact (SqX.mono b1.fh h2).seq), F1, ρ, d1, b0.go b1 g1, (tK.bind (Rp := RepL C) k1).imp fun us H2 q => ?_⟩
    obtain ⟨F2, d2, ys, b2, g2, r2, k2⟩ := q
    exact k2.here b2 ((h3.mono g2.s).append r2)
  · exact k1.elim
def eTup (ms : AM) : EM := fun ρ d => (ms ρ d).bind fun xs d1 => if xs.length < LIM then .ok (.tup xs) d1 else .no
def eLst (ms : AM) : EM := fun ρ d => (ms ρ d).bind fun xs d1 => if xs.length < LIM then .ok (.lst xs) d1 else .no
theorem rep_tup {F : Hp} {p : Addr} {xs : List PV} {vs : List V} (hp : F p = none) (r : RepL C F xs vs) : Rep C (upd F p (.tup vs)) (.tup xs) (.ref p) :=
  ⟨p, vs, rfl, SqT.of upd_same, r.mono (Same.k (same_upd hp))⟩
theorem rep_lst {F : Hp} {p : Addr} {xs : List PV} {vs : List V} (hp : F p = none) (r : RepL C F xs vs) : Rep C (upd F p (.lst vs)) (.lst xs) (.ref p) :=
  ⟨p, vs, rfl, SqX.of upd_same, r.mono (Same.k (same_upd hp))⟩
theorem re_tup {x1} (ha : RA X C B E es ms) : RE X C B E (.Tuple es x1 pos) (eTup ms) := by
  refine PE.weak (pe_tup ha) fun σ H Q h => ?_
  obtain ⟨F, ρ, d, b0, h⟩ := h
  refine ⟨F, ρ, d, b0, (tK.bind (Rp := RepL C) h).imp fun vs H1 q => ?_⟩
  obtain ⟨F1, d1, xs, b1, g1, r1, k1⟩ := q
  split at k1
  · rename_i hl
    exact ⟨by rw [← r1.length]; exact lim_le hl, fun p hp => k1.new b1 hp (rep_tup (b1.F_none hp) r1)⟩
  · exact k1.elim
theorem re_lst (ha : RA X C B E es ms) : RE X C B E (.List es pos) (eLst ms) := by
  refine PE.weak (pe_lst ha) fun σ H Q h => ?_
  obtain ⟨F, ρ, d, b0, h⟩ := h
  refine ⟨F, ρ, d, b0, (tK.bind (Rp := RepL C) h).imp fun vs H1 q => ?_⟩
  obtain ⟨F1, d1, xs, b1, g1, r1, k1⟩ := q
  split at k1
  · rename_i hl
    exact ⟨by rw [← r1.length]; exact lim_le hl, fun p hp => k1.new b1 hp (rep_lst (b1.F_none hp) r1)⟩
  · exact k1.elim

/-! ### built-ins, types called -/
/-- a call of a value that is known, at the slots σ -/
def CallS (X : Cx) (f : Value) (r : L2.St → List V → Hp → VK → Prop) : Prop :=
  ∀ (pins : List (Addr × Obj)) (s : Shared) (σ : L2.St) (H : Hp) (xs : List V) (us : List Value) (Q : VK), Inv X pins σ H s → Vals xs us → r σ xs H Q →
    wpAny (model X.prog X.w) X.A (call f us) (EP X pins σ Q) X.xe s
theorem CallR.s {X : Cx} {f : Value} {r : List V → Hp → VK → Prop} (h : CallR X f r) : CallS X f fun _ => r := fun pins s σ H x v Q I r1 q => h pins s σ H x v Q I r1 q
def tCBS (r : L2.St → List V → Hp → VK → Prop) (t : TA) : TE := fun σ H Q => t σ H fun xs H1 => r σ xs H1 Q
def rC (C : Pl) (B : Bp) (E : XS) (g : PFn) : L2.St → List V → Hp → VK → Prop := fun σ vs H Q => ∃ F d xs, BG C B d F H ∧ RepL C F xs vs ∧ tK C B (E σ) (Rep C) ((g xs).r d) F H Q
def BltR (X : Cx) (C : Pl) (E : XS) (f : Value) (g : PFn) : Prop := ∀ B, CallS X f (rC C B E g)
def eCall (g : PFn) (ms : AM) : EM := fun ρ d => (ms ρ d).bind fun xs d1 => (g xs).r d1
theorem tR.call {g : PFn} {σ : L2.St} {H : Hp} {Q : VK} (h : tR C B E (Rep C) (eCall g ms) σ H Q) : tR C B E (RepL C) ms σ H fun vs H1 => rC C B E g σ vs H1 Q := by
  obtain ⟨F, ρ, d, b0, h⟩ := h
  refine ⟨F, ρ, d, b0, (tK.bind (Rp := RepL C) h).imp fun vs H1 q => ?_⟩
  obtain ⟨F1, d1, xs, b1, g1, r1, k1⟩ := q
  exact ⟨F1, d1, xs, b1, r1, k1⟩
theorem pe_callBS {X : Cx} {id : String} {r : L2.St → List V → Hp → VK → Prop} {x : Str} {p pos : Pos} {e : Expr} {es : List Expr} {t : TA} (hc : CallS X (.builtin id) r) (hg : Gl X x) (hm : X.mg x = none) (hv : bootBuiltins x = some (.builtin id)) (ha : PA X (e :: es) t) (hn : x ≠ "__name__" := by decide) (hdb : (x == ("__debug__" : Str)) = false := by decide)
    (he : starEach (e :: es) X.env = (false, eval e X.env) :: starEach es X.env := by rfl) (hpl : (backTo pos (starEach es X.env)).any (·.1) = false := by rfl) : PE X (.Call (.Name x p) (e :: es) [] pos) (tCBS r t) := by
  refine ⟨fun pins s σ H Q I h => ?_⟩
  refine wpAny_Call_Name_kw (ld_blt I hg hm hv ?_ hn hdb)
  exact PyProof.Rows.callWith_builtin1 (thn (ha.run pos pins s σ H _ I h) fun us s1 ⟨vs, H1, I1, r1, q1⟩ => hc pins s1 σ H1 vs us Q I1 r1 q1) he hpl
theorem pe_callTyS {X : Cx} {T : String} {r : L2.St → List V → Hp → VK → Prop} {x : Str} {p pos : Pos} {e : Expr} {es : List Expr} {t : TA} (hc : CallS X (.type T) r) (hg : Gl X x) (hm : X.mg x = none) (hv : bootBuiltins x = some (.type T)) (ha : PA X (e :: es) t) (hn : x ≠ "__name__" := by decide) (hdb : (x == ("__debug__" : Str)) = false := by decide)
    (he : starEach (e :: es) X.env = (false, eval e X.env) :: starEach es X.env := by rfl) (hpl : (backTo pos (starEach es X.env)).any (·.1) = false := by rfl) : PE X (.Call (.Name x p) (e :: es) [] pos) (tCBS r t) := by
  refine ⟨fun pins s σ H Q I h => ?_⟩
  refine wpAny_Call_Name_kw (ld_blt I hg hm hv ?_ hn hdb)
  exact PyProof.Rows.callWith_type1 (thn (ha.run pos pins s σ H _ I h) fun us s1 ⟨vs, H1, I1, r1, q1⟩ => hc pins s1 σ H1 vs us Q I1 r1 q1) he hpl
theorem re_blt {g : PFn} {x : Str} {id : String} {p : Pos} (hc : BltR X C E (.builtin id) g) (hg : Gl X x) (hm : X.mg x = none) (hv : bootBuiltins x = some (.builtin id)) (ha : RA X C B E (a :: es) ms) (hn : x ≠ "__name__" := by decide) (hdb : (x == ("__debug__" : Str)) = false := by decide)
    (he : starEach (a :: es) X.env = (false, eval a X.env) :: starEach es X.env := by rfl) (hpl : (backTo pos (starEach es X.env)).any (·.1) = false := by rfl) : RE X C B E (.Call (.Name x p) (a :: es) [] pos) (eCall g ms) :=
  PE.weak (pe_callBS (hc B) hg hm hv ha hn hdb he hpl) fun _ _ _ h => h.call
theorem re_tyc {g : PFn} {x : Str} {T : String} {p : Pos} (hc : BltR X C E (.type T) g) (hg : Gl X x) (hm : X.mg x = none) (hv : bootBuiltins x = some (.type T)) (ha : RA X C B E (a :: es) ms) (hn : x ≠ "__name__" := by decide) (hdb : (x == ("__debug__" : Str)) = false := by decide)
    (he : starEach (a :: es) X.env = (false, eval a X.env) :: starEach es X.env := by rfl) (hpl : (backTo pos (starEach es X.env)).any (·.1) = false := by rfl) : RE X C B E (.Call (.Name x p) (a :: es) [] pos) (eCall g ms) :=
  PE.weak (pe_callTyS (hc B) hg hm hv ha hn hdb he hpl) fun _ _ _ h => h.call
/-! ### a def of the module called -/
theorem re_call {fn : PFn} {x : Str} {k : Nat} {f : Addr} {p : Pos} (G : FnG X.prog X.w X.K X.mg X.base k f (spX C fn)) (hr : RmG k X.A) (tk : Tk X E) (hg : Gl X x) (hm : X.mg x = some (.ref f)) (hk : PySem.W.keepIn X.K (.ref f) = true)
    (ha : RA X C B E (a :: es) ms) (hdb : (x == ("__debug__" : Str)) = false := by decide) (he : starEach (a :: es) X.env = (false, eval a X.env) :: starEach es X.env := by rfl) (hpl : (backTo pos (starEach es X.env)).any (·.1) = false := by rfl) :
    RE X C B E (.Call (.Name x p) (a :: es) [] pos) (eCall fn ms) := by
  refine ⟨fun pins s σ H Q I h => ?_⟩
  refine wpAny_Call_Name_kw (ld_glob I hg hm ?_ hdb)
  refine PySem.W.callWith_K (h₀ := X.base) I.ok.mod.kin hk (thn (ha.run pos pins s σ H _ I h.call) fun us s1 ⟨vs, H1, I1, r, q⟩ => ⟨I1.kIn, ?_⟩) he hpl
  obtain ⟨F1, d1, xs, b1, r1, k1⟩ := q
  exact run_sp G hr tk I1 r b1 r1 k1
end
end RL
end M_R3
section M_R4
namespace RL
open PySem PySem.Spec PyProof.Rows L2

section
variable {C : Pl} {B : Bp} {E : XS} {ρ : REnv} {d : DSt} {σ : L2.St} {F F' H H' : Hp}
theorem getElem_set {α : Type} {l : List α} {i j : Nat} {x y : α} (h : (l.set i x)[j]? = some y) : (j = i ∧ y = x ∧ i < l.length) ∨ (j ≠ i ∧ l[j]? = some y) := by
  by_cases hj : j = i
  · subst hj
    by_cases hl : j < l.length
    · rw [List.getElem?_set_self hl] at h; cases h; exact .inl ⟨rfl, rfl, hl⟩
    · rw [List.getElem?_eq_none (by simpa using hl)] at h; cases h
  · rw [List.getElem?_set_ne (Ne.symm hj)] at h
    exact .inr ⟨hj, h⟩
/-- a slot is stored -/
theorem BR.set (h : BR C B ρ d σ F H) {i : Nat} {x : PV} {v : V} (r : Rep C F x v) : BR C B (ρ.set i (.val x)) d (σ.set i (some v)) F H where
  g := h.g
  len := by simp [h.len]
  sl := by
    obtain ⟨ad, h1, h2⟩ := h.sl
    refine ⟨ad, fun j s e => ?_, fun j k s t e1 e2 o1 o2 ea => ?_⟩
    · rcases getElem_set e with ⟨rfl, rfl, hl⟩ | ⟨hj, e⟩
      · exact ⟨v, by rw [List.getElem?_set_self (by rw [h.len]; exact hl)], r⟩
      · rw [List.getElem?_set_ne (Ne.symm hj)]
        exact h1 j s e
    · rcases getElem_set e1 with ⟨_, rfl, _⟩ | ⟨_, e1⟩
      · cases o1
      · rcases getElem_set e2 with ⟨_, rfl, _⟩ | ⟨_, e2⟩
        · cases o2
        · exact h2 j k s t e1 e2 o1 o2 ea
/-- a slot is forgotten -/
theorem BR.un (h : BR C B ρ d σ F H) {i : Nat} {o : Option V} : BR C B (ρ.set i .un) d (σ.set i o) F H where
  g := h.g
  len := by simp [h.len]
  sl := by
    obtain ⟨ad, h1, h2⟩ := h.sl
    refine ⟨ad, fun j s e => ?_, fun j k s t e1 e2 o1 o2 ea => ?_⟩
    · rcases getElem_set e with ⟨rfl, rfl, hl⟩ | ⟨hj, e⟩
      · trivial
      · rw [List.getElem?_set_ne (Ne.symm hj)]
        exact h1 j s e
    · rcases getElem_set e1 with ⟨_, rfl, _⟩ | ⟨_, e1⟩
      · cases o1
      · rcases getElem_set e2 with ⟨_, rfl, _⟩ | ⟨_, e2⟩
        · cases o2
        · exact h2 j k s t e1 e2 o1 o2 ea
theorem SlR.at {a b : Addr} {sl : Sl} {o : Option (Option V)} (hn : sl.isOwn = false) (h : SlR C B F H a sl o) : SlR C B F H b sl o := by
  cases sl <;> first | exact h | cases hn
/-- the addresses of the own slots, chosen anew at one place -/
theorem BR.own_at (h : BR C B ρ d σ F H) {i : Nat} {l : List PV} (e : ρ[i]? = some (.own l)) : ∃ a vs, σ[i]? = some (some (.ref a)) ∧ Own B F a ∧ H a = some (.lst vs) ∧ RepL C F l vs ∧
    ∀ (F' H' : Hp) (s : Sl) (o : Option V), BG C B d F' H' → Sk C F F' → (∀ b u, b ≠ a → H b = some u → H' b = some u) → (∀ b u, F' b = some u → F b = some u ∨ b = a) →
      (s.isOwn = true → SlR C B F' H' a s (some o)) → (s.isOwn = false → ∀ b, SlR C B F' H' b s (some o)) → BR C B (ρ.set i s) d (σ.set i o) F' H' := by
  obtain ⟨ad, h1, h2⟩ := h.sl
  obtain ⟨q1, q2, vs, q3, q4⟩ := h1 i _ e
  refine ⟨ad i, vs, q1, q2, q3, q4, fun F' H' s o b sf kh kf ho hn => ⟨b, by simp [h.len], ad, fun j t et => ?_, fun j k t u e1 e2 o1 o2 ea => ?_⟩⟩
  · rcases getElem_set et with ⟨rfl, rfl, hl⟩ | ⟨hj, et⟩
    · rw [List.getElem?_set_self (by rw [h.len]; exact hl)]
      cases q : t.isOwn with
      | true => exact ho q
      | false => exact hn q _
    · rw [List.getElem?_set_ne (Ne.symm hj)]
      have z := h1 j t et
      have other : t.isOwn = true → ad j ≠ ad i := fun o1 ea => hj (h2 j i t _ et e o1 rfl ea)
      have ow : ∀ {c}, c ≠ ad i → Own B F c → Own B F' c := fun {c} hc w => by
        obtain ⟨w1, w2, w3⟩ := w
        refine ⟨?_, w2, w3⟩
        cases q : F' c with
        | none => rfl
        | some o =>
          rcases kf c o q with q | q
          · rw [w1] at q; cases q
          · exact absurd q hc
      cases t with
      | un => trivial
      | val x => obtain ⟨v, e, r⟩ := z; exact ⟨v, e, r.mono sf⟩
      | own l' => obtain ⟨e, w, vs', k1, k2⟩ := z; exact ⟨e, ow (other rfl) w, vs', kh _ _ (other rfl) k1, k2.mono sf⟩
      | obj c xs => obtain ⟨e, w, A, dx, vs', k0, k1, kl, k2, k3⟩ := z; exact ⟨e, ow (other rfl) w, A, dx, vs', k0, kh _ _ (other rfl) k1, kl, k2.mono sf, k3⟩
      | dr => exact z
      | lam => exact z
  · rcases getElem_set e1 with ⟨z1, _, _⟩ | ⟨hj, f1⟩
    · rcases getElem_set e2 with ⟨z2, _, _⟩ | ⟨hk, f2⟩
      · rw [z1, z2]
      · rw [z1] at ea
        exact (hk (h2 k i u _ f2 e o2 rfl ea.symm)).elim
    · rcases getElem_set e2 with ⟨z2, _, _⟩ | ⟨hk, f2⟩
      · rw [z2] at ea
        exact (hj (h2 j i t _ f1 e o1 rfl ea)).elim
      · exact h2 j k t u f1 f2 o1 o2 ea
/-- neither a table nor a told object -/
def NX (u : HO) : Prop := (∀ ps, u ≠ .tbl ps) ∧ ∀ φ, u ≠ .ext φ
theorem nx_lst {l : List V} : NX (.lst l) := ⟨fun _ z => (nomatch z), fun _ z => (nomatch z)⟩
theorem nx_ins {A dx : Addr} {l : List (Str × V)} : NX (.ins A dx l) := ⟨fun _ z => (nomatch z), fun _ z => (nomatch z)⟩
theorem nx_dK {l : List (Key × V)} : NX (.dK l) := ⟨fun _ z => (nomatch z), fun _ z => (nomatch z)⟩
theorem NX.at {H : Hp} {a : Addr} {u0 : HO} (n : NX u0) (e : H a = some u0) : ∀ u, H a = some u → NX u := fun u z => by
  cases e.symm.trans z; exact n
theorem NX.no {H : Hp} {a : Addr} (e : H a = none) : ∀ u, H a = some u → NX u := fun u z => by
  rw [e] at z; cases z
theorem tabS_upd {H : Hp} {P a : Addr} {q : Str} {o : HO} (t : LamX.TabS H P q) (n : ∀ u, H a = some u → NX u) : LamX.TabS (upd H a o) P q := by
  obtain ⟨ps, h1, h2, h3⟩ := t
  refine ⟨ps, ?_, h2, fun pos cv hc => ?_⟩
  · rw [upd_ne (fun z => (n _ (by rw [← z]; exact h1)).1 _ rfl)]; exact h1
  · obtain ⟨c, e1, e2⟩ := h3 pos cv hc
    exact ⟨c, e1, by rw [upd_ne (fun z => (n _ (by rw [← z]; exact e2)).2 _ rfl)]; exact e2⟩
theorem Kp.upd {T : List (Addr × Str)} {H0 H : Hp} {a b : Addr} {u o : HO} (k : Kp T H0 H b u) (nb : b ≠ a) (n : ∀ u, H a = some u → NX u) : Kp T H0 (upd H a o) b u := by
  cases u with
  | tbl ps =>
    obtain ⟨⟨ps', e⟩, z⟩ := k
    exact ⟨⟨ps', by rw [upd_ne nb]; exact e⟩, fun q m t => tabS_upd (z q m t) n⟩
  | _ => exact (show L2.upd H a o b = some _ from (upd_ne nb).trans k)
/-- an own address is written -/
theorem BG.write (h : BG C B d F H) {a : Addr} {o : HO} (w : Own B F a) (nx : ∀ u, H a = some u → NX u) : BG C B d F (upd H a o) where
  fh := fun b u e => by rw [upd_ne (ne_of_none e w.1)]; exact h.fh b u e
  f0 := h.f0
  nw := h.nw
  od := fun b u z0 e m => by
    have nb : b ≠ a := fun z => by
      subst z
      rcases w.2.1 with q | q
      · rw [q] at e; cases e
      · exact m (.inr q)
    exact (h.od b u z0 e m).upd nb nx
  dr := fun p g c e => by
    obtain ⟨h1, h2, h3, h4, h5⟩ := h.dr p g c e
    have n1 : p ≠ a := fun z => w.2.2 ⟨_, e, .inl z.symm⟩
    have n2 : g ≠ a := fun z => w.2.2 ⟨_, e, .inr z.symm⟩
    exact ⟨by rw [upd_ne n1]; exact h1, by rw [upd_ne n2]; exact h2, h3, h4, h5⟩
  ce := h.ce
  os := fun b e => by
    obtain ⟨h1, u, h2⟩ := h.os b e
    by_cases hb : b = a
    · subst hb; exact ⟨h1, _, upd_same⟩
    · exact ⟨h1, u, by rw [upd_ne hb]; exact h2⟩
  tb := fun p hp => ⟨(h.tb p hp).1, tabS_upd (h.tb p hp).2 nx⟩
/-- an own address is frozen -/
theorem BG.freeze (h : BG C B d F H) {a : Addr} {o : HO} (w : Own B F a) (hs : B.so ≠ some a) (e : H a = some o) (no : ∀ ps, o ≠ .tbl ps := by intro _ z; cases z) : BG C B d (upd F a o) H ∧ Sk C F (upd F a o) := by
  have sf : Same F (upd F a o) := same_upd w.1
  refine ⟨⟨fun b u q => ?_, h.f0.trans (Same.k sf), fun b u q => ?_, h.od, fun p g c q => ?_, h.ce, fun b q => ?_, fun p hp => ?_⟩, Same.k sf⟩
  · by_cases hb : b = a
    · subst hb; rw [upd_same] at q; cases q; exact e
    · rw [upd_ne hb] at q; exact h.fh b u q
  · by_cases hb : b = a
    · subst hb
      rcases w.2.1 with z | z
      · exact .inr z
      · exact absurd z hs
    · rw [upd_ne hb] at q; exact h.nw b u q
  · obtain ⟨h1, h2, h3, h4, h5⟩ := h.dr p g c q
    have n1 : p ≠ a := fun z => w.2.2 ⟨_, q, .inl z.symm⟩
    have n2 : g ≠ a := fun z => w.2.2 ⟨_, q, .inr z.symm⟩
    exact ⟨h1, h2, sf.seq h3, by rw [upd_ne n1]; exact h4, by rw [upd_ne n2]; exact h5⟩
  · obtain ⟨h1, u, h2⟩ := h.os b q
    exact ⟨by rw [upd_ne (fun z => hs (by rw [← z]; exact q))]; exact h1, u, h2⟩
  · obtain ⟨t1, t2⟩ := h.tb p hp
    obtain ⟨ps, e1, _⟩ := id t2
    exact ⟨by rw [upd_ne (fun z => by rw [z, e] at e1; cases e1; exact no _ rfl)]; exact t1, t2⟩
end

/-! ### statements -/
def sSeq (a b : SM) : SM := fun ρ d => match a ρ d with
  | .nx ρ' d' => b ρ' d'
  | r => r
def sNx : SM := fun ρ d => .nx ρ d
def sE (m : EM) (k : PV → REnv → DSt → RS) : SM := fun ρ d => match m ρ d with
  | .ok x d' => k x ρ d'
  | .ex e d' => .ex e d'
  | .no => .no
def sSet (i : Nat) (m : EM) : SM := sE m fun x ρ d => .nx (ρ.set i (.val x)) d
def sRet (m : EM) : SM := sE m fun x _ d => .rt x d
def sRetN : SM := fun _ d => .rt .non d
def sDo (m : EM) : SM := sE m fun _ ρ d => .nx ρ d
def sIf (t : BM) (a b : SM) : SM := fun ρ d => match t ρ d with
  | .ok true d' => a ρ d'
  | .ok false d' => b ρ d'
  | .ex e d' => .ex e d'
  | .no => .no
def sBrk : SM := fun ρ d => .bk ρ d
def sCnt : SM := fun ρ d => .ct ρ d
section
variable {X : Cx} {C : Pl} {B : Bp} {E : XS} {pos : Pos} {a e : Expr} {m : EM} {t : BM} {sa sb : SM} {st : Stmt} {rest s1 s2 : List Stmt}
theorem rss_nil : RSs X C B E [] sNx := PSs.weak pss_nil fun D σ H h => by
  obtain ⟨F, ρ, d, b, h⟩ := h
  exact h σ F H b (Sk.refl C F)
theorem rss_cons (h1 : RSt X C B E st sa) (h2 : RSs X C B E rest sb) : RSs X C B E (st :: rest) (sSeq sa sb) := by
  refine PSs.weak (pss_cons h1 h2) fun D σ H h => ?_
  obtain ⟨F, ρ, d, b, h⟩ := h
  refine ⟨F, ρ, d, b, ?_⟩
  unfold sSeq at h
  revert h
  cases sa ρ d with
  | nx ρ' d' => exact fun h σ' F' H' b' s' => ⟨F', ρ', d', b', tKS.back s' h⟩
  | rt x d' => exact fun h => h
  | bk ρ' d' => exact fun h => h
  | ct ρ' d' => exact fun h => h
  | ex x d' => exact fun h => h
  | no => exact fun h => h
theorem rss_one (h1 : RSt X C B E st sa) : RSs X C B E [st] sa := pss_one h1
/-- an expression's outcome, then a statement's end -/
theorem tS.ev {k : PV → REnv → DSt → RS} {D : Ends} {σ : L2.St} {H : Hp} (h : tS C B E (sE m k) D σ H) :
    tR C B E (Rep C) m σ H fun v H1 => ∃ F ρ d x, BR C B ρ d σ F H1 ∧ Rep C F x v ∧ tKS C B E (k x ρ d) F H1 D := by
  obtain ⟨F, ρ, d, b, h⟩ := h
  refine ⟨F, ρ, d, b, ?_⟩
  unfold sE at h
  revert h
  cases m ρ d with
  | ok x d' => exact fun h F' H' v b' g r => ⟨F', ρ, d', x, b.go b' g, r, tKS.back g.s h⟩
  | ex x d' => exact fun h _ _ _ _ b _ r => h _ _ _ _ _ b r
  | no => exact fun h => h
theorem rs_set (i : Nat) {x : Str} {pos' : Pos} (hN : X.N.Nodup) (hi : X.N[i]? = some x) (hx : Loc X.env.scope x) (he : RE X C B E e m) (hs : swapsWith e (some (.Name x pos')) pos.line X.env = pure false := by rfl)
    (hf : X.fn x = true ∨ X.env.scope.names.lookup x = some .local := by first | exact .inl rfl | exact .inr rfl | assumption) : RSt X C B E (.Assign [.Name x pos'] e pos) (sSet i m) := by
  refine PS.weak (ps_set hN hi hx he hs hf) fun D σ H h => ?_
  obtain ⟨F, ρ, d, b, q⟩ := h.ev
  refine ⟨F, ρ, d, b, q.imp fun v H1 q => ?_⟩
  obtain ⟨F1, ρ1, d1, x, b1, r1, k1⟩ := q
  exact k1 _ _ _ (b1.set r1) (Sk.refl _ _)
theorem rs_ret (he : RE X C B E e m) : RSt X C B E (.Return (some e) pos) (sRet m) := by
  refine PS.weak (ps_ret he) fun D σ H h => ?_
  obtain ⟨F, ρ, d, b, q⟩ := h.ev
  refine ⟨F, ρ, d, b, q.imp fun v H1 q => ?_⟩
  obtain ⟨F1, ρ1, d1, x, b1, r1, k1⟩ := q
  exact k1 _ _ _ _ v b1 (Sk.refl _ _) r1
theorem rs_retN : RSt X C B E (.Return none pos) sRetN := PS.weak ps_retN fun D σ H h => by
  obtain ⟨F, ρ, d, b, h⟩ := h
  exact h ρ σ F H .non b (Sk.refl C F) rfl
theorem rs_do (he : RE X C B E e m) (hs : swapsWith e none pos.line X.env = pure false := by rfl) : RSt X C B E (.Expr e pos) (sDo m) := by
  refine PS.weak (ps_expr he hs) fun D σ H h => ?_
  obtain ⟨F, ρ, d, b, q⟩ := h.ev
  refine ⟨F, ρ, d, b, q.imp fun v H1 q => ?_⟩
  obtain ⟨F1, ρ1, d1, x, b1, r1, k1⟩ := q
  exact k1 _ _ _ b1 (Sk.refl _ _)
theorem rs_pass : RSt X C B E (.Pass pos) sNx := PS.weak ps_pass fun D σ H h => by
  obtain ⟨F, ρ, d, b, h⟩ := h
  exact h σ F H b (Sk.refl C F)
theorem rs_break : RSt X C B E (.Break pos) sBrk := PS.weak ps_break fun D σ H h => by
  obtain ⟨F, ρ, d, b, h⟩ := h
  exact h σ F H b (Sk.refl C F)
theorem rs_continue : RSt X C B E (.Continue pos) sCnt := PS.weak ps_continue fun D σ H h => by
  obtain ⟨F, ρ, d, b, h⟩ := h
  exact h σ F H b (Sk.refl C F)
theorem rs_if {c : Expr} (hc : RT X C B E c t) (ha : RSs X C B E s1 sa) (hb : RSs X C B E s2 sb) : RSt X C B E (.If c s1 s2 pos) (sIf t sa sb) := by
  refine PS.weak (ps_if hc ha hb) fun D σ H h => ?_
  obtain ⟨F, ρ, d, b, h⟩ := h
  refine ⟨F, ρ, d, b, ?_⟩
  unfold sIf at h
  revert h
  cases t ρ d with
  | ok c d' =>
    cases c with
    | true =>
      refine fun h F' H' v b' g r => ?_
      cases r
      exact ⟨F', ρ, d', b.go b' g, tKS.back g.s h⟩
    | false =>
      refine fun h F' H' v b' g r => ?_
      cases r
      exact ⟨F', ρ, d', b.go b' g, tKS.back g.s h⟩
  | ex x d' => exact fun h _ _ _ _ b _ r => h _ _ _ _ _ b r
  | no => exact fun h => h
/-- code that is never come to -/
def sNo : SM := fun _ _ => .no
theorem rs_no : RSt X C B E st sNo := PS.weak (t := tNever) ps_never fun D σ H h => by
  obtain ⟨F, ρ, d, b, h⟩ := h
  exact h
theorem rss_no : RSs X C B E rest sNo := PSs.weak (t := tNever) pss_never fun D σ H h => by
  obtain ⟨F, ρ, d, b, h⟩ := h
  exact h

/-! ### what is walked -/
structure WalkR (C : Pl) (F : Hp) (xs : List PV) (J : It) : Prop where
  ex : ∃ (n : Nat) (G : Hp → Prop) (Y : Nat → Hp → V → Hp → Prop), n = xs.length ∧ Walk J n G Y ∧ (∀ F2 H2, Sk C F F2 → Same F2 H2 → G H2) ∧
    ∀ i F2 H2 v H3, i < n → Sk C F F2 → Same F2 H2 → Y i H2 v H3 → ∃ F3 x, xs[i]? = some x ∧ Grow C F2 H2 F3 H3 ∧ Rep C F3 x v
abbrev RI (X : Cx) (C : Pl) (B : Bp) (E : XS) (tg iter : Expr) (m : AM) : Prop := PI X tg iter (tR C B E (WalkR C) m)
theorem PI.weak {tg iter : Expr} {t t' : TI} (h : PI X tg iter t) (w : ∀ σ H R, t' σ H R → t σ H R) : PI X tg iter t' := ⟨fun pins s σ H R I q => h.run pins s σ H R I (w σ H R q)⟩
theorem Grow.refl {F H : Hp} (h : Same F H) : Grow C F H F H := ⟨Sk.refl C F, h, Same.u (Same.refl H), fun _ u e => .inl ⟨u, e⟩⟩
theorem WalkR.list {F : Hp} {K : PySem.W.Frag} (hK : K = C.K) {a : Addr} {xs : List PV} {vs : List V} (h : SqL C.K F a vs) (r : RepL C F xs vs) : WalkR C F xs (Itl K a) := by
  subst hK
  refine ⟨vs.length, _, _, r.length.symm, walk_list (xs := vs), fun F2 H2 s1 s2 => Same.seq s2 (s1.seq h), fun i F2 H2 v H3 hi s1 s2 y => ?_⟩
  obtain ⟨rfl, e⟩ := y
  obtain ⟨x, ex, rx⟩ := r.get' e
  exact ⟨F2, x, ex, .refl s2, rx.mono s1⟩
theorem WalkR.tup {F : Hp} {K : PySem.W.Frag} (hK : K = C.K) {a : Addr} {xs : List PV} {vs : List V} (h : SqT C.K F a vs) (r : RepL C F xs vs) : WalkR C F xs (Itt K a) := by
  subst hK
  refine ⟨vs.length, _, _, r.length.symm, walk_tup (xs := vs), fun F2 H2 s1 s2 => Same.sqT s2 (s1.sqT h), fun i F2 H2 v H3 hi s1 s2 y => ?_⟩
  obtain ⟨rfl, e⟩ := y
  obtain ⟨x, ex, rx⟩ := r.get' e
  exact ⟨F2, x, ex, .refl s2, rx.mono s1⟩
/-- a list or a tuple, walked -/
def iAny (K : PySem.W.Frag) (tl : TE) : TI := fun σ H R => tl σ H fun x H1 => ∃ a, x = .ref a ∧ (((∃ xs, SqL K H1 a xs) ∧ R (Itl K a) H1) ∨ ((∃ xs, SqT K H1 a xs) ∧ R (Itt K a) H1))
theorem pi_any {tg l : Expr} {tl : TE} (hl : PE X l tl) : PI X tg l (iAny X.K tl) := by
  refine ⟨fun pins s σ H R I h => ?_⟩
  refine thn (hl.run pins s σ H _ I h) fun v s1 ⟨x, H1, I1, r1, q1⟩ => ?_
  obtain ⟨a, e, q | q⟩ := q1
  · obtain ⟨⟨xs, hq⟩, q⟩ := q
    subst e
    cases r1
    obtain ⟨its, rv, p, hz⟩ := I1.list hq
    refine wpAny_pyIter_list p.isList ?_
    refine ⟨s1.heap.objs.size, [s1.heap.objs.size], _, _, H1, rfl, I1.kept (t' := s1.toks) fun b o e => Heap.get?_push_of_some _ e, turn_list a _, ⟨_, Heap.get?_push_size _ rfl, rfl, rfl⟩, fun b hb => ?_, q⟩
    have e : b = s1.heap.objs.size := by simpa using hb
    subst e
    exact I1.fpOk (Nat.le_refl _) (I1.hok.fresh (Nat.le_refl _))
  · obtain ⟨⟨xs, hq⟩, q⟩ := q
    subst e
    cases r1
    obtain ⟨its, rv, p, hz⟩ := I1.tuple hq
    refine wpAny_pyIter_tuple (show s1.heap.IsTuple a its.toArray from p) ?_
    refine ⟨s1.heap.objs.size, [s1.heap.objs.size], _, _, H1, rfl, I1.kept (t' := s1.toks) fun b o e => Heap.get?_push_of_some _ e, turn_tuple a _, ⟨_, Heap.get?_push_size _ rfl, rfl, rfl⟩, fun b hb => ?_, q⟩
    have e : b = s1.heap.objs.size := by simpa using hb
    subst e
    exact I1.fpOk (Nat.le_refl _) (I1.hok.fresh (Nat.le_refl _))
def iSeq (m : EM) : AM := fun ρ d => (m ρ d).bind fun x d1 => match x with
  | .lst xs => .ok xs d1
  | .tup xs => .ok xs d1
  | _ => .no
theorem ri_seq {tg : Expr} (hK : X.K = C.K) (he : RE X C B E e m) : RI X C B E tg e (iSeq m) := by
  refine PI.weak (pi_any he) fun σ H R h => ?_
  obtain ⟨F, ρ, d, b, h⟩ := h
  refine ⟨F, ρ, d, b, (tK.bind (Rp := Rep C) h).imp fun v H1 q => ?_⟩
  obtain ⟨F1, d1, x, b1, g1, r1, k1⟩ := q
  split at k1
  · obtain ⟨a, vs, rfl, h2, h3⟩ := r1
    exact ⟨a, rfl, .inl ⟨⟨vs, by rw [hK]; exact (SqX.mono b1.fh h2).seq⟩, k1.here b1 (WalkR.list hK h2.seq h3)⟩⟩
  · obtain ⟨a, vs, rfl, h2, h3⟩ := r1
    exact ⟨a, rfl, .inr ⟨⟨vs, by rw [hK]; exact Same.sqT b1.fh h2⟩, k1.here b1 (WalkR.tup hK h2 h3)⟩⟩
  · exact k1.elim
/-! range -/
def rng (lo : Int) (n : Nat) : List PV := (List.range n).map fun (i : Nat) => PV.int (lo + i)
theorem WalkR.range {F : Hp} {lo : Int} {n : Nat} : WalkR C F (rng lo n) (Itr lo n) := by
  refine ⟨n, _, _, by simp [rng], walk_range, fun _ _ _ _ => trivial, fun i F2 H2 v H3 hi s1 s2 y => ?_⟩
  obtain ⟨rfl, rfl⟩ := y
  exact ⟨F2, .int (lo + i), by simp [rng, hi], .refl s2, rfl⟩
def iRange1 (ms : AM) : AM := fun ρ d => (ms ρ d).bind fun xs d1 => match xs with
  | [.int j] => if -4000 < j ∧ j < 4000 then .ok (rng 0 j.toNat) d1 else .no
  | _ => .no
def iRange2 (ms : AM) : AM := fun ρ d => (ms ρ d).bind fun xs d1 => match xs with
  | [.int i, .int j] => if (-4000 < i ∧ i < 4000) ∧ -4000 < j ∧ j < 4000 then .ok (rng i (j - i).toNat) d1 else .no
  | _ => .no
variable {ms : AM}
theorem ri_range1 {tg : Expr} {p : Pos} (hg : Gl X "range") (hm : X.mg "range" = none) (ha : RA X C B E [a] ms) (hs : starEach [a] X.env = [(false, eval a X.env)] := by rfl) : RI X C B E tg (.Call (.Name "range" p) [a] [] pos) (iRange1 ms) := by
  refine PI.weak (pi_range1 hg hm ha hs) fun σ H R h => ?_
  obtain ⟨F, ρ, d, b, h⟩ := h
  refine ⟨F, ρ, d, b, (tK.bind (Rp := RepL C) h).imp fun vs H1 q => ?_⟩
  obtain ⟨F1, d1, xs, b1, g1, r1, k1⟩ := q
  split at k1
  · rename_i j
    obtain ⟨v, r, rfl, hv, hr⟩ := r1
    cases (show r = [] from hr)
    cases (show v = V.int j from hv)
    split at k1
    · rename_i hj
      refine ⟨j, rfl, by omega, by omega, ?_⟩
      exact k1.here b1 WalkR.range
    · exact k1.elim
  · exact k1.elim
theorem ri_range2 {tg b : Expr} {p : Pos} (hg : Gl X "range") (hm : X.mg "range" = none) (ha : RA X C B E [a, b] ms) (hs : starEach [a, b] X.env = [(false, eval a X.env), (false, eval b X.env)] := by rfl) (hs2 : starEach [b] X.env = [(false, eval b X.env)] := by rfl) :
    RI X C B E tg (.Call (.Name "range" p) [a, b] [] pos) (iRange2 ms) := by
  refine PI.weak (pi_range2 hg hm ha hs hs2) fun σ H R h => ?_
  obtain ⟨F, ρ, d, b, h⟩ := h
  refine ⟨F, ρ, d, b, (tK.bind (Rp := RepL C) h).imp fun vs H1 q => ?_⟩
  obtain ⟨F1, d1, xs, b1, g1, r1, k1⟩ := q
  split at k1
  · rename_i i j
    obtain ⟨v, r, rfl, hv, v2, r2, rfl, hv2, hr⟩ := r1
    cases (show r2 = [] from hr)
    cases (show v = V.int i from hv)
    cases (show v2 = V.int j from hv2)
    split at k1
    · rename_i hj
      refine ⟨i, j, rfl, ⟨by omega, by omega, by omega, by omega⟩, ?_⟩
      exact k1.here b1 WalkR.range
    · exact k1.elim
  · exact k1.elim

/-! ### targets -/
inductive Tg where
  | n (i : Nat) | t (l : List Tg)
mutual
def Tg.set : Tg → PV → REnv → Option REnv
  | .n i, x, ρ => some (ρ.set i (.val x))
  | .t l, .tup xs, ρ => Tg.sets l xs ρ
  | .t _, _, _ => none
def Tg.sets : List Tg → List PV → REnv → Option REnv
  | [], [], ρ => some ρ
  | t :: l, x :: xs, ρ => match Tg.set t x ρ with
    | some ρ' => Tg.sets l xs ρ'
    | none => none
  | _, _, _ => none
end
mutual
def Tg.ix : Tg → List Nat
  | .n i => [i]
  | .t l => Tg.ixs l
def Tg.ixs : List Tg → List Nat
  | [] => []
  | t :: l => Tg.ix t ++ Tg.ixs l
end
/-- the same but for some slots -/
def EqBut (ix : List Nat) (σ σ' : L2.St) : Prop := σ'.length = σ.length ∧ ∀ i, i ∉ ix → σ'[i]? = σ[i]?
theorem EqBut.refl {ix : List Nat} {σ : L2.St} : EqBut ix σ σ := ⟨rfl, fun _ _ => rfl⟩
def tG (C : Pl) (B : Bp) (t : Tg) : TG := fun v σ H Q => ∃ F ρ d x ρ', BR C B ρ d σ F H ∧ Rep C F x v ∧ t.set x ρ = some ρ' ∧ ∀ σ', BR C B ρ' d σ' F H → EqBut t.ix σ σ' → Q σ' H
def tGs (C : Pl) (B : Bp) (ts : List Tg) : TGs := fun vs σ H Q => ∃ F ρ d xs ρ', BR C B ρ d σ F H ∧ RepL C F xs vs ∧ Tg.sets ts xs ρ = some ρ' ∧ ∀ σ', BR C B ρ' d σ' F H → EqBut (Tg.ixs ts) σ σ' → Q σ' H
theorem PG.weak {tg : Expr} {t t' : TG} (h : PG X tg t) (w : ∀ v σ H Q, t' v σ H Q → t v σ H Q) : PG X tg t' := ⟨fun pins s σ H v u Q I r q => h.run pins s σ H v u Q I r (w v σ H Q q)⟩
theorem PGs.weak {tg : List Expr} {t t' : TGs} (h : PGs X tg t) (w : ∀ v σ H Q, t' v σ H Q → t v σ H Q) : PGs X tg t' := ⟨fun pins s σ H v u Q I r q => h.run pins s σ H v u Q I r (w v σ H Q q)⟩
abbrev RG (X : Cx) (C : Pl) (B : Bp) (tg : Expr) (t : Tg) : Prop := PG X tg (tG C B t)
abbrev RGs (X : Cx) (C : Pl) (B : Bp) (tg : List Expr) (t : List Tg) : Prop := PGs X tg (tGs C B t)
theorem rg_name (i : Nat) {x : Str} (hN : X.N.Nodup) (hi : X.N[i]? = some x) (hx : Loc X.env.scope x) (hf : X.fn x = true ∨ X.env.scope.names.lookup x = some .local := by first | exact .inl rfl | exact .inr rfl | assumption) : RG X C B (.Name x pos) (.n i) :=
  PG.weak (pg_name hN hi hx hf) fun v σ H Q h => by
    obtain ⟨F, ρ, d, x, ρ', b, r, e, k⟩ := h
    cases e
    exact k _ (b.set r) ⟨by simp, fun j hj => List.getElem?_set_ne (fun z => hj (by simp [Tg.ix, z]))⟩
theorem rgs_nil : RGs X C B [] [] := PGs.weak pgs_nil fun v σ H Q h => by
  obtain ⟨F, ρ, d, xs, ρ', b, r, e, k⟩ := h
  cases xs with
  | nil => cases e; cases (show v = [] from r); exact ⟨rfl, k _ b .refl⟩
  | cons x xs => cases e
theorem rgs_cons {g : Expr} {gs : List Expr} {t : Tg} {ts : List Tg} (h1 : RG X C B g t) (h2 : RGs X C B gs ts) (hs : (assignEach (g :: gs) X.env).map (·.2) = assign g X.env :: (assignEach gs X.env).map (·.2) := by rfl) : RGs X C B (g :: gs) (t :: ts) := PGs.weak (pgs_cons h1 h2 hs) fun v σ H Q h => by
  obtain ⟨F, ρ, d, xs, ρ', b, r, e, k⟩ := h
  cases xs with
  | nil => cases e
  | cons x xs =>
    obtain ⟨v1, vr, rfl, r1, r2⟩ := r
    have e' : (match Tg.set t x ρ with | some ρ' => Tg.sets ts xs ρ' | none => none) = some ρ' := e
    split at e'
    · rename_i ρ1 e1
      refine ⟨v1, vr, rfl, F, ρ, d, x, ρ1, b, r1, e1, fun σ1 b1 q1 => ⟨F, ρ1, d, xs, ρ', b1, r2, e', fun σ2 b2 q2 => k σ2 b2 ⟨q2.1.trans q1.1, fun i hi => ?_⟩⟩⟩
      have hi' : i ∉ Tg.ix t ∧ i ∉ Tg.ixs ts := by simpa [Tg.ixs] using hi
      exact (q2.2 i hi'.2).trans (q1.2 i hi'.1)
    · cases e'
theorem Tg.sets_len : ∀ {ts : List Tg} {xs : List PV} {ρ ρ' : REnv}, Tg.sets ts xs ρ = some ρ' → ts.length = xs.length
  | [], [], _, _, _ => rfl
  | [], _ :: _, _, _, h => by simp [Tg.sets] at h
  | _ :: _, [], _, _, h => by simp [Tg.sets] at h
  | tt :: ts, x :: xs, ρ, ρ', h => by
    have e' : (match Tg.set tt x ρ with | some ρ' => Tg.sets ts xs ρ' | none => none) = some ρ' := h
    split at e'
    · simp [Tg.sets_len e']
    · cases e'
theorem rg_tup {es : List Expr} {k : Nat} {ts : List Tg} {n : Nat} (hK : X.K = C.K) (hc : X.calm = true) (h : RGs X C B es ts) (hl : ts.length = n) (hn : (assignEach es X.env).length = n := by rfl) (hst : (assignEach es X.env).findIdx? (·.1) = none := by rfl) : RG X C B (.Tuple es k pos) (.t ts) :=
  PG.weak (pg_tup hc h hn hst) fun v σ H Q h => by
    obtain ⟨F, ρ, d, x, ρ', b, r, e, k⟩ := h
    cases x with
    | tup xs =>
      obtain ⟨a, vs, rfl, h2, h3⟩ := r
      have e' : Tg.sets ts xs ρ = some ρ' := e
      exact ⟨a, vs, rfl, by rw [hK]; exact Same.sqT b.g.fh h2, by rw [← h3.length, ← Tg.sets_len e', hl], F, ρ, d, xs, ρ', b, h3, e', k⟩
    | _ => cases e

/-! ### for -/
def sLoop (t : Tg) (body : SM) : List PV → SM
  | [], ρ, d => .nx ρ d
  | x :: xs, ρ, d => match t.set x ρ with
    | none => .no
    | some ρ1 => match body ρ1 d with
      | .nx ρ2 d2 => sLoop t body xs ρ2 d2
      | .ct ρ2 d2 => sLoop t body xs ρ2 d2
      | .bk ρ2 d2 => .nx ρ2 d2
      | .rt y d2 => .rt y d2
      | .ex e d2 => .ex e d2
      | .no => .no
def sFor (m : AM) (t : Tg) (body : SM) : SM := fun ρ d => match m ρ d with
  | .ok xs d' => sLoop t body xs ρ d'
  | .ex e d' => .ex e d'
  | .no => .no
theorem Grow.go {B : Bp} {F H F' H' : Hp} (fh : Same F H) (g : Grow C F H F' H') : Go C B F H F' H' := .of fh g.s g.f g.h g.n
theorem rs_for {tg iter : Expr} {body : List Stmt} {m : AM} {t : Tg} {sb : SM} (hp : PassesOwn (model X.prog X.w) X.A X.env X.xe) (hc : X.calm = true) (hi : RI X C B E tg iter m) (hg : RG X C B tg t) (hb : RSs X C B E body sb)
    (hs : ∀ x, foldedSetIterable iter X.env x = pure x := by intro _; rfl) : RSt X C B E (.For tg iter body [] pos) (sFor m t sb) := by
  refine PS.weak (ps_for hp hc hi hg hb hs) fun D σ H h => ?_
  obtain ⟨F, ρ, d, b, h⟩ := h
  refine ⟨F, ρ, d, b, ?_⟩
  unfold sFor at h
  revert h
  cases m ρ d with
  | ex e d' => exact fun h _ _ _ _ b _ r => h _ _ _ _ _ b r
  | no => exact fun h => h
  | ok xs d' =>
    intro h F1 H1 J b1 g1 w
    have h : tKS C B E (sLoop t sb xs ρ d') F1 H1 D := tKS.back (H := H) g1.s h
    have B1 := b.go b1 g1
    obtain ⟨n, G, Y, hn, wk, hG, hY⟩ := w.ex
    refine for_it wk (fun i σ H => ∃ F ρ d, BR C B ρ d σ F H ∧ Sk C F1 F ∧ tKS C B E (sLoop t sb (xs.drop i) ρ d) F H D) ⟨F1, ρ, d', B1, Sk.refl _ _, h⟩ (fun i σ H hi q => ?_) (fun i v σ H H' hi q y => ?_) (fun σ H q => ?_)
    · obtain ⟨F2, _, _, b2, s2, _⟩ := q
      exact hG F2 H s2 b2.g.fh
    · obtain ⟨F2, ρ2, d2, b2, s2, k2⟩ := q
      obtain ⟨F3, x, ex, gr, rx⟩ := hY i F2 H v H' hi s2 b2.g.fh y
      have b3 : BR C B ρ2 d2 σ F3 H' := b2.go (b2.g.grow gr.s gr.f gr.h gr.n) (gr.go b2.g.fh)
      have e : xs.drop i = x :: xs.drop (i + 1) := by
        rw [List.drop_eq_getElem_cons (by omega)]
        congr
        have := List.getElem?_eq_some_iff.mp ex
        exact this.2
      rw [e] at k2
      unfold sLoop at k2
      split at k2
      · exact k2.elim
      · rename_i ρ4 e4
        refine ⟨F3, ρ2, d2, x, ρ4, b3, rx, e4, fun σ4 b4 _ => ⟨F3, ρ4, d2, b4, ?_⟩⟩
        have k2 := tKS.back (H := H) (H1 := H') gr.s k2
        revert k2
        cases sb ρ4 d2 with
        | nx ρ5 d5 => exact fun k σ5 F5 H5 b5 s5 => ⟨F5, ρ5, d5, b5, (s2.trans gr.s).trans s5, tKS.back (H := H') (H1 := H5) s5 k⟩
        | ct ρ5 d5 => exact fun k σ5 F5 H5 b5 s5 => ⟨F5, ρ5, d5, b5, (s2.trans gr.s).trans s5, tKS.back (H := H') (H1 := H5) s5 k⟩
        | bk ρ5 d5 => exact fun k => k
        | rt y d5 => exact fun k => k
        | ex e d5 => exact fun k => k
        | no => exact fun k => k
    · obtain ⟨F2, ρ2, d2, b2, s2, k2⟩ := q
      rw [List.drop_eq_nil_of_le (by omega)] at k2
      exact k2 σ F2 H b2 (Sk.refl _ _)
end
end RL
end M_R4
section M_R5
namespace RL
open PySem PySem.Spec PyProof.Rows L2

/-! ### slots wiped -/
def wipeR (ρ : REnv) : List Nat → REnv
  | [] => ρ
  | v :: vs => (wipeR ρ vs).set v .un
theorem wipe_ext {σ σ' : L2.St} : ∀ {vs : List Nat}, EqBut vs σ σ' → wipe σ' vs = wipe σ vs := fun {vs} h => by
  have inn : ∀ (σ : L2.St) (vs : List Nat) (i : Nat), i ∈ vs → (wipe σ vs)[i]? = if i < σ.length then some none else none := by
    intro σ vs
    induction vs with
    | nil => intro i hi; cases hi
    | cons v vs ih =>
      intro i hi
      unfold wipe
      by_cases e : v = i
      · subst e
        by_cases hl : v < σ.length
        · rw [List.getElem?_set_self (by rw [wipe_length]; exact hl), if_pos hl]
        · rw [List.getElem?_eq_none (by rw [List.length_set, wipe_length]; omega), if_neg hl]
      · rw [List.getElem?_set_ne e]
        exact ih i (by rcases List.mem_cons.mp hi with z | z; exact absurd z.symm e; exact z)
  apply List.ext_getElem?
  intro i
  by_cases hi : i ∈ vs
  · rw [inn _ _ _ hi, inn _ _ _ hi, h.1]
  · rw [wipe_out hi, wipe_out hi, h.2 i hi]
theorem wipe_eqBut {σ : L2.St} {vs : List Nat} : EqBut vs σ (wipe σ vs) := ⟨wipe_length σ vs, fun _ hi => wipe_out hi⟩
section
variable {C : Pl} {B : Bp} {E : XS} {ρ : REnv} {d : DSt} {σ : L2.St} {F F' H H' : Hp}
theorem BR.wipe (h : BR C B ρ d σ F H) : ∀ vs : List Nat, BR C B (wipeR ρ vs) d (L2.wipe σ vs) F H
  | [] => h
  | v :: vs => (BR.wipe h vs).un
end
theorem EqBut.mono {ix jx : List Nat} {σ σ' : L2.St} (h : EqBut ix σ σ') (s : ∀ i ∈ ix, i ∈ jx) : EqBut jx σ σ' := ⟨h.1, fun i hi => h.2 i fun z => hi (s i z)⟩
theorem EqBut.trans {ix : List Nat} {σ σ1 σ2 : L2.St} (h : EqBut ix σ σ1) (k : EqBut ix σ1 σ2) : EqBut ix σ σ2 := ⟨k.1.trans h.1, fun i hi => (k.2 i hi).trans (h.2 i hi)⟩

/-! ### a new list -/
def tKF (C : Pl) (B : Bp) (E : XK) (r : R (List PV)) (F H : Hp) (Q : VK) : Prop := match r with
  | .ok xs d' => ∀ F' H' p vs, BG C B d' F' H' → Go C B F H F' H' → H p = none → H' p = some (.lst vs) → F' p = none → RepL C F' xs vs → Q (.ref p) H'
  | .ex e d' => ∀ F' H' cls dd, BG C B d' F' H' → Go C B F H F' H' → ExR C F' e cls dd → E cls dd H'
  | .no => False
def tFr (C : Pl) (B : Bp) (E : XS) (m : AM) : TE := fun σ H Q => ∃ F ρ d, BR C B ρ d σ F H ∧ tKF C B (E σ) (m ρ d) F H Q
abbrev RFr (X : Cx) (C : Pl) (B : Bp) (E : XS) (e : Expr) (m : AM) : Prop := PE X e (tFr C B E m)
def eL (m : AM) : EM := fun ρ d => (m ρ d).bind fun xs d1 => .ok (.lst xs) d1
section
variable {X : Cx} {C : Pl} {B : Bp} {E : XS} {pos : Pos} {a e : Expr} {m : AM} {es : List Expr} {ms : AM}
theorem BG.own {d : DSt} {F H : Hp} (h : BG C B d F H) {p : Addr} {F' : Hp} (hp : H p = none) (f : F' p = none) : Own B F' p :=
  ⟨f, .inl (h.H0_none hp), fun z => by
    obtain ⟨o, e⟩ := h.there (.inl z)
    rw [hp] at e; cases e⟩
theorem BG.not_so {d : DSt} {F H : Hp} (h : BG C B d F H) {p : Addr} (hp : H p = none) : B.so ≠ some p := fun z => by
  obtain ⟨o, e⟩ := h.there (.inr z)
  rw [hp] at e; cases e
/-- frozen at once -/
theorem re_fr (h : RFr X C B E e m) : RE X C B E e (eL m) := by
  refine PE.weak h fun σ H Q h => ?_
  obtain ⟨F, ρ, d, b, h⟩ := h
  refine ⟨F, ρ, d, b, ?_⟩
  unfold eL at h
  revert h
  cases m ρ d with
  | ok xs d' =>
    intro h F' H' p vs b' g hp e f r
    obtain ⟨b2, s2⟩ := b'.freeze (b.g.own hp f) (b.g.not_so hp) e
    refine h (upd F' p (.lst vs)) H' (.ref p) b2 ⟨g.s.trans s2, g.k, g.t, fun a o q => ?_⟩ (rep_lst f r)
    by_cases ha : a = p
    · subst ha; exact .inr hp
    · rw [upd_ne ha] at q; exact g.n a o q
  | ex e d' => exact fun h => h
  | no => exact fun h => h
def aLim (ms : AM) : AM := fun ρ d => (ms ρ d).bind fun xs d1 => if xs.length < LIM then .ok xs d1 else .no
theorem rf_lst (ha : RA X C B E es ms) : RFr X C B E (.List es pos) (aLim ms) := by
  refine PE.weak (pe_lst ha) fun σ H Q h => ?_
  obtain ⟨F, ρ, d, b, h⟩ := h
  refine ⟨F, ρ, d, b, ?_⟩
  unfold aLim at h
  revert h
  cases ms ρ d with
  | ok xs d' =>
    intro h F' H' vs b' g r
    have h' : tKF C B (E σ) (if xs.length < LIM then R.ok xs d' else .no) F H Q := h
    split at h'
    · rename_i hl
      refine ⟨by rw [← r.length]; exact lim_le hl, fun p hp => ?_⟩
      refine h' F' (upd H' p (.lst vs)) p vs (b'.junk hp) (g.trans (Go.junk b'.fh hp)) ?_ upd_same (b'.F_none hp) r
      cases q : H p with
      | none => rfl
      | some o =>
        obtain ⟨o', e'⟩ := g.t p o q
        rw [hp] at e'; cases e'
    · exact h'.elim
  | ex e d' => exact fun h => h
  | no => exact fun h => h

/-! ### list comprehensions -/
def R.nx {α : Type} : R α → R α
  | .ex _ _ => .no
  | r => r
def lcGo (ρ : REnv) (t : Tg) (bc : BM) (me : EM) : List PV → DSt → R (List PV)
  | [], d => .ok [] d
  | x :: xs, d => match t.set x ρ with
    | none => .no
    | some ρ1 => (bc ρ1 d).nx.bind fun c d1 => if c then (me ρ1 d1).nx.bind fun y d2 => (lcGo ρ t bc me xs d2).bind fun ys d3 => .ok (y :: ys) d3 else lcGo ρ t bc me xs d1
theorem lcGo_noex {ρ : REnv} {t : Tg} {bc : BM} {me : EM} : ∀ {xs : List PV} {d : DSt} {e : PX} {d' : DSt}, lcGo ρ t bc me xs d ≠ .ex e d'
  | [], _, _, _, h => by cases h
  | x :: xs, d, e, d', h => by
    unfold lcGo at h
    split at h
    · cases h
    · rename_i ρ1 _
      revert h
      cases bc ρ1 d with
      | ex _ _ => exact fun h => nomatch h
      | no => exact fun h => nomatch h
      | ok c d1 =>
        cases c with
        | false => exact fun h => lcGo_noex h
        | true =>
          show (me ρ1 d1).nx.bind _ = _ → False
          cases me ρ1 d1 with
          | ex _ _ => exact fun h => nomatch h
          | no => exact fun h => nomatch h
          | ok y d2 =>
            show (lcGo ρ t bc me xs d2).bind _ = _ → False
            cases q : lcGo ρ t bc me xs d2 with
            | ex _ _ => exact (lcGo_noex q).elim
            | no => exact fun h => nomatch h
            | ok _ _ => exact fun h => nomatch h
def aLc (mi : AM) (vs : List Nat) (t : Tg) (bc : BM) (me : EM) : AM := fun ρ d => (mi ρ d).bind fun xs d1 => if xs.length < LIM then lcGo (wipeR ρ vs) t bc me xs d1 else .no
def bYes : BM := fun _ d => .ok true d
abbrev EF : XS := fun _ _ _ _ => False
theorem rts_nil {X : Cx} : PTs X [] (tR C B EF RB bYes) := ⟨fun pins s σ H Q I h => pts_nil.run pins s σ H Q I (by
  obtain ⟨F, ρ, d, b, h⟩ := h
  exact tK.here b.g h rfl)⟩
theorem rts_one {X : Cx} {c : Expr} {bc : BM} (h : RT X C B EF c bc) : PTs X [c] (tR C B EF RB bc) := pts_one h
theorem tFr.lc {wi : AM} {t : Tg} {bc : BM} {me : EM} {vs : List Nat} {σ : L2.St} {H : Hp} {Q : VK} (hix : ∀ i ∈ t.ix, i ∈ vs) (h : tFr C B E (aLc wi vs t bc me) σ H Q) :
    tLc (tR C B E (WalkR C) wi) (tG C B t) (tR C B EF RB bc) (tR C B EF (Rep C) me) vs σ H Q := by
  obtain ⟨F, ρ, d, b, h⟩ := h
  refine ⟨F, ρ, d, b, ?_⟩
  unfold aLc at h
  revert h
  cases wi ρ d with
  | ex e d' => exact fun h => h
  | no => exact fun h => h
  | ok xs d1 =>
    intro h F1 H1 J b1 g1 w D hD
    have h' : tKF C B (E σ) (if xs.length < LIM then lcGo (wipeR ρ vs) t bc me xs d1 else .no) F H Q := h
    split at h'
    · rename_i hlim
      cases q0 : lcGo (wipeR ρ vs) t bc me xs d1 with
      | ex e d' => exact (lcGo_noex q0).elim
      | no => rw [q0] at h'; exact h'.elim
      | ok ys dz =>
        rw [q0] at h'
        have HD : H D = none := by
          cases q : H D with
          | none => rfl
          | some o =>
            obtain ⟨o', e'⟩ := g1.t D o q
            rw [hD] at e'; cases e'
        have B1 := (b.go b1 g1).wipe vs
        have nds : ¬ B.ds D := (b1.own (F' := F1) hD (b1.F_none hD)).2.2
        obtain ⟨n, G, Y, hn, wk, hG, hY⟩ := w.ex
        refine lc_it wk (fun i H => ∃ F d acc vs2 rest, BG C B d F H ∧ Go C B F1 H1 F H ∧ H D = some (.lst vs2) ∧ F D = none ∧ RepL C F acc vs2 ∧ lcGo (wipeR ρ vs) t bc me (xs.drop i) d = .ok rest dz ∧ acc ++ rest = ys ∧ acc.length ≤ i)
          ⟨F1, d1, [], [], ys, b1.junk hD, Go.junk b1.fh hD, upd_same, b1.F_none hD, rfl, q0, rfl, Nat.le_refl _⟩ (fun i H hi q => ?_) (fun i v H2 H3 hi q y => ?_) (fun H2 q => ?_)
        · obtain ⟨F2, _, _, _, _, b2, g2, _⟩ := q
          exact hG F2 H g2.s b2.fh
        · obtain ⟨F2, d2, acc, vs2, rest, b2, g2, hD2, fD2, ra, q2, qa, ha⟩ := q
          obtain ⟨F3, x, ex, gr, rx⟩ := hY i F2 H2 v H3 hi g2.s b2.fh y
          have b3 : BG C B d2 F3 H3 := b2.grow gr.s gr.f gr.h gr.n
          have g3 : Go C B F1 H1 F3 H3 := g2.trans (gr.go b2.fh)
          have B3 := B1.go b3 g3
          have hD3 : H3 D = some (.lst vs2) := gr.h _ _ fD2 hD2
          have fD3 : F3 D = none := nn gr.n fD2 hD2
          have e : xs.drop i = x :: xs.drop (i + 1) := by
            rw [List.drop_eq_getElem_cons (by omega)]
            congr
            have := List.getElem?_eq_some_iff.mp ex
            exact this.2
          rw [e] at q2
          unfold lcGo at q2
          split at q2
          · cases q2
          · rename_i ρ4 e4
            refine ⟨F3, wipeR ρ vs, d2, x, ρ4, B3, rx, e4, fun σ4 b4 eb => ⟨(wipe_ext (eb.mono hix)).trans (wipe_ext wipe_eqBut), F3, ρ4, d2, b4, ?_⟩⟩
            revert q2
            cases bc ρ4 d2 with
            | ex _ _ => exact fun z => nomatch z
            | no => exact fun z => nomatch z
            | ok c d5 =>
              intro q2 F5 H5 v5 b5 g5 r5
              cases r5
              have hD5 : H5 D = some (.lst vs2) := g5.k _ _ fD3 hD3 nds
              have fD5 : F5 D = none := nn g5.n fD3 hD3
              have ra5 := ra.mono (gr.s.trans g5.s)
              cases c with
              | false =>
                rw [if_neg (by decide)]
                exact ⟨F5, d5, acc, vs2, rest, b5, g3.trans g5, hD5, fD5, ra5, q2, qa, by omega⟩
              | true =>
                rw [if_pos rfl]
                have q2 : (me ρ4 d5).nx.bind (fun y d2 => (lcGo (wipeR ρ vs) t bc me (xs.drop (i + 1)) d2).bind fun ys d3 => .ok (y :: ys) d3) = .ok rest dz := q2
                refine ⟨F5, ρ4, d5, b4.go b5 g5, ?_⟩
                revert q2
                cases me ρ4 d5 with
                | ex _ _ => exact fun z => nomatch z
                | no => exact fun z => nomatch z
                | ok y d6 =>
                  intro q2 F6 H6 v6 b6 g6 r6
                  have q2 : (lcGo (wipeR ρ vs) t bc me (xs.drop (i + 1)) d6).bind (fun ys d3 => .ok (y :: ys) d3) = .ok rest dz := q2
                  have hD6 : H6 D = some (.lst vs2) := g6.k _ _ fD5 hD5 nds
                  have fD6 : F6 D = none := nn g6.n fD5 hD5
                  cases q7 : lcGo (wipeR ρ vs) t bc me (xs.drop (i + 1)) d6 with
                  | ex _ _ => exact (lcGo_noex q7).elim
                  | no => rw [q7] at q2; cases q2
                  | ok r7 d7 =>
                    rw [q7] at q2
                    cases q2
                    have ra6 := ra5.mono g6.s
                    refine ⟨vs2, hD6, ?_, F6, d6, acc ++ [y], vs2 ++ [v6], r7, b6.write (b1.own hD fD6) (nx_lst.at hD6), ?_, upd_same, fD6, ra6.append ⟨_, _, rfl, r6, rfl⟩, q7, by simpa using qa, by simp; omega⟩
                    · rw [← ra6.length]
                      have := LIM_le
                      omega
                    · have g := (g3.trans g5).trans g6
                      refine ⟨g.s, fun a o zf z m => ?_, fun a o z => ?_, g.n⟩
                      · exact (g.k a o zf z m).upd (ne_of_none z hD) (nx_lst.at hD6)
                      · rw [upd_ne (ne_of_none z hD)]; exact g.t a o z
        · obtain ⟨F2, d2, acc, vs2, rest, b2, g2, hD2, fD2, ra, q2, qa, ha⟩ := q
          rw [List.drop_eq_nil_of_le (by omega)] at q2
          cases q2
          rw [List.append_nil] at qa
          subst qa
          exact h' F2 H2 D vs2 b2 (g1.trans g2) HD hD2 fD2 ra
    · exact h'.elim
theorem rf_lc {elt tg iter : Expr} {ifs : List Expr} {scope : Scope} {own : List (Str × Nat)} {mi : AM} {t : Tg} {bc : BM} {me : EM} (hc : X.calm = true) (hN : X.N.Nodup) (hi : RI X C B E tg iter mi) (ok : BlkOk X.N X.env.scope scope own) (hix : ∀ i ∈ t.ix, i ∈ own.map (·.2))
    (hg : ∀ (s : Shared) (H : Hp) (A : Addr) (cl : List (Str × Addr)) (fp : List Addr), RG (X.blk s H scope (compEnvC scope cl A X.env) fp) C B tg t) (ht : ∀ (s : Shared) (H : Hp) (A : Addr) (cl : List (Str × Addr)) (fp : List Addr), PTs (X.blk s H scope (compEnvC scope cl A X.env) fp) ifs (tR C B EF RB bc))
    (he : ∀ (s : Shared) (H : Hp) (A : Addr) (cl : List (Str × Addr)) (fp : List Addr), RE (X.blk s H scope (compEnvC scope cl A X.env) fp) C B EF elt me) (hs : ∀ x, foldedSetIterable iter X.env x = pure x := by intro _; rfl) :
    RFr X C B E (.ListComp elt [⟨tg, iter, ifs, 0⟩] scope pos) (aLc mi (own.map (·.2)) t bc me) :=
  PE.weak (pe_lc hc hN hi ok hg ht he hs) fun _ _ _ h => tFr.lc hix h
end

/-! ### a list of one's own -/
def sA (m : AM) (k : List PV → REnv → DSt → RS) : SM := fun ρ d => match m ρ d with
  | .ok x d' => k x ρ d'
  | .ex e d' => .ex e d'
  | .no => .no
def sOwn (i : Nat) (m : AM) : SM := sA m fun xs ρ d => .nx (ρ.set i (.own xs)) d
def sSetL (i : Nat) (m : AM) : SM := sA m fun xs ρ d => .nx (ρ.set i (.val (.lst xs))) d
section
variable {C : Pl} {B : Bp} {E : XS} {ρ : REnv} {d : DSt} {σ : L2.St} {F F' H H' : Hp}
theorem BR.own_new (h : BR C B ρ d σ F H) {i : Nat} {p : Addr} {xs : List PV} {vs : List V} (w : Own B F p) (e : H p = some (.lst vs)) (r : RepL C F xs vs) (hn : ∀ (j : Nat) (s : Sl), ρ[j]? = some s → s.isOwn = true → σ[j]? ≠ some (some (V.ref p))) :
    BR C B (ρ.set i (.own xs)) d (σ.set i (some (.ref p))) F H where
  g := h.g
  len := by simp [h.len]
  sl := by
    obtain ⟨ad, h1, h2⟩ := h.sl
    have hne : ∀ (j : Nat) (s : Sl), ρ[j]? = some s → s.isOwn = true → ad j ≠ p := fun j s e o z => by
      have q := h1 j s e
      refine hn j s e o ?_
      cases s with
      | own l => rw [q.1, z]
      | obj c xs => rw [q.1, z]
      | _ => cases o
    refine ⟨fun j => if j = i then p else ad j, fun j s e' => ?_, fun j k s t e1 e2 o1 o2 ea => ?_⟩
    · rcases getElem_set e' with ⟨rfl, rfl, hl⟩ | ⟨hj, e'⟩
      · dsimp only
        rw [if_pos rfl]
        exact ⟨by rw [List.getElem?_set_self (by rw [h.len]; exact hl)], w, vs, e, r⟩
      · dsimp only
        rw [if_neg hj, List.getElem?_set_ne (Ne.symm hj)]
        exact h1 j s e'
    · rcases getElem_set e1 with ⟨z1, _, _⟩ | ⟨hj, f1⟩
      · rcases getElem_set e2 with ⟨z2, _, _⟩ | ⟨hk, f2⟩
        · rw [z1, z2]
        · have ea : (if j = i then p else ad j) = (if k = i then p else ad k) := ea
          rw [if_pos z1, if_neg hk] at ea
          exact (hne k t f2 o2 ea.symm).elim
      · rcases getElem_set e2 with ⟨z2, _, _⟩ | ⟨hk, f2⟩
        · have ea : (if j = i then p else ad j) = (if k = i then p else ad k) := ea
          rw [if_neg hj, if_pos z2] at ea
          exact (hne j s f1 o1 ea).elim
        · have ea : (if j = i then p else ad j) = (if k = i then p else ad k) := ea
          rw [if_neg hj, if_neg hk] at ea
          exact h2 j k s t f1 f2 o1 o2 ea
/-- what stands in an own slot was there before -/
theorem BR.own_there (h : BR C B ρ d σ F H) {j : Nat} {s : Sl} (e : ρ[j]? = some s) (o : s.isOwn = true) : ∃ a u, σ[j]? = some (some (.ref a)) ∧ H a = some u := by
  obtain ⟨ad, h1, _⟩ := h.sl
  have q := h1 j s e
  cases s with
  | own l => obtain ⟨q1, _, vs, q2, _⟩ := q; exact ⟨_, _, q1, q2⟩
  | obj c xs => obtain ⟨q1, _, _, _, _, _, q2, _⟩ := q; exact ⟨_, _, q1, q2⟩
  | _ => cases o
end
section
variable {X : Cx} {C : Pl} {B : Bp} {E : XS} {pos : Pos} {a e : Expr} {m : AM} {es : List Expr} {ms : AM}
theorem tS.fr {k : List PV → REnv → DSt → RS} {D : Ends} {σ : L2.St} {H : Hp} (h : tS C B E (sA m k) D σ H) :
    tFr C B E m σ H fun v H1 => ∃ F ρ d xs p vs, v = .ref p ∧ BR C B ρ d σ F H1 ∧ Own B F p ∧ B.so ≠ some p ∧ H1 p = some (.lst vs) ∧ RepL C F xs vs ∧ (∀ (j : Nat) (s : Sl), ρ[j]? = some s → s.isOwn = true → σ[j]? ≠ some (some (V.ref p))) ∧ tKS C B E (k xs ρ d) F H1 D := by
  obtain ⟨F, ρ, d, b, h⟩ := h
  refine ⟨F, ρ, d, b, ?_⟩
  unfold sA at h
  revert h
  cases m ρ d with
  | ok xs d' =>
    refine fun h F' H' p vs b' g hp e f r => ⟨F', ρ, d', xs, p, vs, rfl, b.go b' g, b.g.own hp f, b.g.not_so hp, e, r, fun j s ej o z => ?_, tKS.back (H := H) (H1 := H') g.s h⟩
    obtain ⟨a, u, q1, q2⟩ := b.own_there ej o
    rw [q1] at z
    cases z
    rw [hp] at q2; cases q2
  | ex e d' => exact fun h _ _ _ _ b _ r => h _ _ _ _ _ b r
  | no => exact fun h => h
theorem own_asg {i : Nat} {D : Ends} {σ : L2.St} {H : Hp} (h : tS C B E (sOwn i m) D σ H) : tAsg (tFr C B E m) (gName i) D σ H := by
  obtain ⟨F, ρ, d, b, q⟩ := h.fr
  refine ⟨F, ρ, d, b, ?_⟩
  revert q
  cases m ρ d with
  | ok xs d' =>
    intro q F' H' p vs b' g hp e f r
    obtain ⟨F1, ρ1, d1, xs1, p1, vs1, e1, b1, w1, n1, k1, r1, hn, kk⟩ := q F' H' p vs b' g hp e f r
    cases e1
    exact kk _ _ _ (b1.own_new w1 k1 r1 hn) (Sk.refl _ _)
  | ex e d' => exact fun h => h
  | no => exact fun h => h
theorem val_asg {i : Nat} {D : Ends} {σ : L2.St} {H : Hp} (h : tS C B E (sSetL i m) D σ H) : tAsg (tFr C B E m) (gName i) D σ H := by
  obtain ⟨F, ρ, d, b, q⟩ := h.fr
  refine ⟨F, ρ, d, b, ?_⟩
  revert q
  cases m ρ d with
  | ok xs d' =>
    intro q F' H' p vs b' g hp e f r
    obtain ⟨F1, ρ1, d1, xs1, p1, vs1, e1, b1, w1, n1, k1, r1, hn, kk⟩ := q F' H' p vs b' g hp e f r
    cases e1
    obtain ⟨b2, s2⟩ := b1.g.freeze w1 n1 k1
    have B2 : BR C B ρ1 d1 σ (upd F1 p (.lst vs1)) H' := by
      refine ⟨b2, b1.len, ?_⟩
      obtain ⟨ad, h1, h2⟩ := b1.sl
      refine ⟨ad, fun j s ej => ?_, h2⟩
      have z := h1 j s ej
      have ow : ∀ {c}, c ≠ p → Own B F1 c → Own B (upd F1 p (.lst vs1)) c := fun {c} hc w => ⟨by rw [upd_ne hc]; exact w.1, w.2⟩
      cases s with
      | un => trivial
      | val x => obtain ⟨v, e, r⟩ := z; exact ⟨v, e, r.mono s2⟩
      | own l' => obtain ⟨e, w, vs', k1, k2⟩ := z; exact ⟨e, ow (fun z => hn j _ ej rfl (by rw [e, z])) w, vs', k1, k2.mono s2⟩
      | obj c xs => obtain ⟨e, w, A, dx, vs', k0, k1, kl, k2, k3⟩ := z; exact ⟨e, ow (fun z => hn j _ ej rfl (by rw [e, z])) w, A, dx, vs', k0, k1, kl, k2.mono s2, k3⟩
      | dr => exact z
      | lam => exact z
    exact kk _ _ _ (B2.set (rep_lst w1.1 r1)) s2
  | ex e d' => exact fun h => h
  | no => exact fun h => h
/-- x = a new list, of one's own -/
theorem rs_own (i : Nat) {x : Str} {pos' : Pos} (hN : X.N.Nodup) (hi : X.N[i]? = some x) (hx : Loc X.env.scope x) (he : RFr X C B E e m) (hs : swapsWith e (some (.Name x pos')) pos.line X.env = pure false := by rfl)
    (hf : X.fn x = true ∨ X.env.scope.names.lookup x = some .local := by first | exact .inl rfl | exact .inr rfl | assumption) : RSt X C B E (.Assign [.Name x pos'] e pos) (sOwn i m) :=
  PS.weak (ps_set hN hi hx he hs hf) fun _ _ _ h => own_asg h
/-- x = [..] on one line, x a local -/
theorem rs_lc_own (i : Nat) {y : Str} {py : Pos} {elt tg iter : Expr} {ifs : List Expr} {scope : Scope} {own : List (Str × Nat)} {spos : Pos} {mi : AM} {t : Tg} {bc : BM} {me : EM} (hc : X.calm = true) (hN : X.N.Nodup) (hy : X.N[i]? = some y) (hyl : X.env.scope.names.lookup y = some .local)
    (hsw : swapsWith (.ListComp elt [⟨tg, iter, ifs, 0⟩] scope pos) (some (.Name y py)) spos.line X.env = pure true) (hi : RI X C B E tg iter mi) (ok : BlkOk X.N X.env.scope scope own) (hix : ∀ i ∈ t.ix, i ∈ own.map (·.2))
    (hg : ∀ (s : Shared) (H : Hp) (A : Addr) (cl : List (Str × Addr)) (fp : List Addr), RG (X.blk s H scope (compEnvC scope cl A X.env) fp) C B tg t) (ht : ∀ (s : Shared) (H : Hp) (A : Addr) (cl : List (Str × Addr)) (fp : List Addr), PTs (X.blk s H scope (compEnvC scope cl A X.env) fp) ifs (tR C B EF RB bc))
    (he : ∀ (s : Shared) (H : Hp) (A : Addr) (cl : List (Str × Addr)) (fp : List Addr), RE (X.blk s H scope (compEnvC scope cl A X.env) fp) C B EF elt me) (hs : ∀ x, foldedSetIterable iter X.env x = pure x := by intro _; rfl) :
    RSt X C B E (.Assign [.Name y py] (.ListComp elt [⟨tg, iter, ifs, 0⟩] scope pos) spos) (sOwn i (aLc mi (own.map (·.2)) t bc me)) :=
  PS.weak (ps_setLc hc hN hy hyl hsw hi ok hg ht he hs) fun D σ H h => tFr.lc hix (own_asg h)
theorem rs_lc_set (i : Nat) {y : Str} {py : Pos} {elt tg iter : Expr} {ifs : List Expr} {scope : Scope} {own : List (Str × Nat)} {spos : Pos} {mi : AM} {t : Tg} {bc : BM} {me : EM} (hc : X.calm = true) (hN : X.N.Nodup) (hy : X.N[i]? = some y) (hyl : X.env.scope.names.lookup y = some .local)
    (hsw : swapsWith (.ListComp elt [⟨tg, iter, ifs, 0⟩] scope pos) (some (.Name y py)) spos.line X.env = pure true) (hi : RI X C B E tg iter mi) (ok : BlkOk X.N X.env.scope scope own) (hix : ∀ i ∈ t.ix, i ∈ own.map (·.2))
    (hg : ∀ (s : Shared) (H : Hp) (A : Addr) (cl : List (Str × Addr)) (fp : List Addr), RG (X.blk s H scope (compEnvC scope cl A X.env) fp) C B tg t) (ht : ∀ (s : Shared) (H : Hp) (A : Addr) (cl : List (Str × Addr)) (fp : List Addr), PTs (X.blk s H scope (compEnvC scope cl A X.env) fp) ifs (tR C B EF RB bc))
    (he : ∀ (s : Shared) (H : Hp) (A : Addr) (cl : List (Str × Addr)) (fp : List Addr), RE (X.blk s H scope (compEnvC scope cl A X.env) fp) C B EF elt me) (hs : ∀ x, foldedSetIterable iter X.env x = pure x := by intro _; rfl) :
    RSt X C B E (.Assign [.Name y py] (.ListComp elt [⟨tg, iter, ifs, 0⟩] scope pos) spos) (sSetL i (aLc mi (own.map (·.2)) t bc me)) :=
  PS.weak (ps_setLc hc hN hy hyl hsw hi ok hg ht he hs) fun D σ H h => tFr.lc hix (val_asg h)
end
end RL
end M_R5
section M_R6
namespace RL
open PySem PySem.Spec PyProof.Rows L2

section
variable {C : Pl} {B : Bp} {E : XS} {ρ : REnv} {d : DSt} {σ : L2.St} {F F' H H' : Hp}
/-- freezing an own list -/
theorem BR.frz (h : BR C B ρ d σ F H) {i : Nat} {l : List PV} (e : ρ[i]? = some (.own l)) : ∃ a vs, F a = none ∧ Own B F a ∧ H a = some (.lst vs) ∧ (B.so ≠ some a → BR C B (ρ.set i (.val (.lst l))) d σ (upd F a (.lst vs)) H ∧ Sk C F (upd F a (.lst vs))) := by
  obtain ⟨a, vs, e1, w, e2, r, k⟩ := h.own_at e
  refine ⟨a, vs, w.1, w, e2, fun hs => ?_⟩
  obtain ⟨b2, s2⟩ := h.g.freeze w hs e2
  have z := k (upd F a (.lst vs)) H (.val (.lst l)) (some (.ref a)) b2 s2 (fun b u _ q => q) (fun b u q => ?_) (fun q => nomatch q) (fun _ b => ⟨.ref a, rfl, rep_lst w.1 r⟩)
  · have es : σ.set i (some (.ref a)) = σ := by
      apply List.ext_getElem?
      intro j
      by_cases hj : i = j
      · subst hj
        obtain ⟨hl, _⟩ := List.getElem?_eq_some_iff.mp e1
        rw [List.getElem?_set_self hl, e1]
      · rw [List.getElem?_set_ne hj]
    rw [es] at z
    exact ⟨z, s2⟩
  · by_cases hb : b = a
    · exact .inr hb
    · rw [upd_ne hb] at q; exact .inl q
end
/-- where the ground of self is not at issue -/
def frzR (i : Nat) (ρ : REnv) : Option REnv := match ρ[i]? with
  | some (.own l) => some (ρ.set i (.val (.lst l)))
  | _ => none
def sFrz (i : Nat) (s : SM) : SM := fun ρ d => match frzR i ρ with
  | some ρ' => s ρ' d
  | none => .no
/-- a flat value: nothing of the heap -/
def flat : PV → Bool
  | .non => true | .bl _ => true | .int _ => true | .str _ => true | .ty _ => true | .gl _ => true | _ => false
theorem flat_rep {C : Pl} {F F' : Hp} : ∀ {x : PV} {v : V}, flat x = true → Rep C F x v → Rep C F' x v
  | .non, _, _, h => h | .bl _, _, _, h => h | .int _, _, _, h => h | .str _, _, _, h => h | .ty _, _, _, h => h | .gl _, _, _, h => h
  | .emp, _, e, _ => by cases e
  | .tup _, _, e, _ => by cases e
  | .lst _, _, e, _ => by cases e
  | .ins _ _, _, e, _ => by cases e
  | .exc _ _, _, e, _ => by cases e
def ePeek (i : Nat) (m : EM) : EM := fun ρ d => match frzR i ρ with
  | some ρ' => (m ρ' d).bind fun x d' => if flat x then .ok x d' else .no
  | none => .no
def bPeek (i : Nat) (m : BM) : BM := fun ρ d => match frzR i ρ with
  | some ρ' => m ρ' d
  | none => .no
section
variable {X : Cx} {C : Pl} {B : Bp} {E : XS} {pos : Pos} {a e : Expr} {m : EM} {bm : BM} {st : List Stmt} {s : SM}
theorem rss_frz (i : Nat) (hso : B.so = none) (h : RSs X C B E st s) : RSs X C B E st (sFrz i s) := by
  refine PSs.weak h fun D σ H h => ?_
  obtain ⟨F, ρ, d, b, h⟩ := h
  unfold sFrz frzR at h
  split at h
  · rename_i ρ' eq
    split at eq
    · rename_i l el
      cases eq
      obtain ⟨a, vs, fa, w, e2, k⟩ := b.frz el
      obtain ⟨b2, s2⟩ := k (by rw [hso]; exact fun z => nomatch z)
      exact ⟨_, _, d, b2, tKS.back (H := H) (H1 := H) s2 h⟩
    · cases eq
  · exact h.elim
/-- the frozen part without one address -/
def cutH (F : Hp) (a : Addr) : Hp := fun b => if b = a then none else F b
theorem tK.cut {α β : Type} {Rp : Hp → α → β → Prop} {r : R α} {F H : Hp} {Q : β → Hp → Prop} {d : DSt} {a : Addr} {ws : List V} (b : BG C B d F H) (w : Own B F a) (eH : H a = some (.lst ws))
    (h : tK C B (E σ) Rp r F H Q) (hx : ∀ x v F1 F2 d', r = .ok x d' → Rp F1 x v → Rp F2 x v) (he : ∀ e d', r ≠ .ex e d') : tK C B (E σ) Rp r (upd F a (.lst ws)) H Q := by
  cases r with
  | ok x d' =>
    intro F' H' v b' g rp
    have fa : F' a = some (.lst ws) := g.s.lst upd_same
    have sc : Same (cutH F' a) F' := fun c u q => by
      unfold cutH at q
      split at q
      · cases q
      · exact q
    have cu : ∀ {c u}, c ≠ a → F' c = some u → cutH F' a c = some u := fun {c u} nc q => by unfold cutH; rw [if_neg nc]; exact q
    have sf : Sk C F (cutH F' a) := fun c u q => by
      have nc : c ≠ a := ne_of_none q w.1
      rcases g.s c u (by rw [upd_ne nc]; exact q) with z | ⟨A, dx, fl, gg, ns, w', p, k2, k3, k4, k5, k6⟩
      · exact .inl (cu nc z)
      · refine .inr ⟨A, dx, fl, gg, ns, w', p, k2, k3, k4, cu nc k5, ?_⟩
        rcases k6 with (k6 | ⟨o, k6⟩) | k6
        · exact .inl (.inl (cu (fun z => by rw [z, fa] at k6; cases k6) k6))
        · exact .inl (.inr ⟨o, cu (fun z => by rw [z, fa] at k6; cases k6) k6⟩)
        · exact .inr k6
    refine h (cutH F' a) H' v ⟨sc.trans b'.fh, b.f0.trans sf, fun c u q => b'.nw c u (sc c u q), b'.od, fun p g' c q => ?_, b'.ce, fun c q => ?_, fun p hp => ⟨by unfold cutH; split <;> first | rfl | exact (b'.tb p hp).1, (b'.tb p hp).2⟩⟩ ⟨sf, fun c u zf q m => ?_, g.t, fun c u q => ?_⟩ (hx x v _ _ d' rfl rp)
    · obtain ⟨h1, h2, h3, h4, h5⟩ := b'.dr p g' c q
      obtain ⟨_, _, k3, _, _⟩ := b.dr p g' c q
      have nn : B.da ≠ none := by rw [q]; exact fun z => nomatch z
      refine ⟨h1, h2, ?_, ?_, ?_⟩
      · rw [b'.ce nn, ← b.ce nn]
        exact sf.seq k3
      · unfold cutH; split <;> first | rfl | exact h4
      · unfold cutH; split <;> first | rfl | exact h5
    · obtain ⟨h1, u, h2⟩ := b'.os c q
      exact ⟨by unfold cutH; split <;> first | rfl | exact h1, u, h2⟩
    · by_cases nc : c = a
      · rw [nc] at q ⊢
        rw [eH] at q; cases q
        exact b'.fh _ _ fa
      · exact g.k c u (by rw [upd_ne nc]; exact zf) q m
    · have nc : c ≠ a := fun z => by unfold cutH at q; rw [if_pos z] at q; cases q
      have q' := sc c u q
      rcases g.n c u q' with ⟨u', z⟩ | z
      · rw [upd_ne nc] at z; exact .inl ⟨u', z⟩
      · exact .inr z
  | ex e d' => exact (he e d' rfl).elim
  | no => exact h
/-- no error comes out of what is peeked at -/
def R.quiet {α : Type} : R α → Bool
  | .ex _ _ => false
  | _ => true
theorem R.quiet_ne {α : Type} {r : R α} (h : r.quiet = true) {e : PX} {d : DSt} : r ≠ .ex e d := fun z => by rw [z] at h; cases h
/-- an own list read within an expression whose value holds nothing of it -/
theorem re_peek (i : Nat) (hso : B.so = none) (h : RE X C B E e m) : RE X C B E e (fun ρ d => (ePeek i m ρ d).nx) := by
  refine PE.weak h fun σ H Q h => ?_
  obtain ⟨F, ρ, d, b, h⟩ := h
  unfold ePeek frzR at h
  dsimp only at h
  split at h
  · rename_i ρ' eq
    split at eq
    · rename_i l el
      cases eq
      obtain ⟨a, vs, fa, w, e2, k⟩ := b.frz el
      obtain ⟨b2, s2⟩ := k (by rw [hso]; exact fun z => nomatch z)
      refine ⟨_, _, d, b2, ?_⟩
      revert h
      cases m (ρ.set i (.val (.lst l))) d with
      | ok x d' =>
        intro h
        have h' : tK C B (E σ) (Rep C) (R.nx (if flat x = true then .ok x d' else .no)) F H Q := h
        split at h'
        · rename_i hf
          exact tK.cut (r := .ok x d') b.g w e2 h' (fun x' v F1 F2 d' e r => by cases e; exact flat_rep hf r) fun e d' z => nomatch z
        · exact h'.elim
      | ex e d' => exact fun h => h.elim
      | no => exact fun h => h
    · cases eq
  · exact h.elim
theorem rt_peek (i : Nat) (hso : B.so = none) (h : RT X C B E e bm) : RT X C B E e (fun ρ d => (bPeek i bm ρ d).nx) := by
  refine PT.weak h fun σ H Q h => ?_
  obtain ⟨F, ρ, d, b, h⟩ := h
  unfold bPeek frzR at h
  dsimp only at h
  split at h
  · rename_i ρ' eq
    split at eq
    · rename_i l el
      cases eq
      obtain ⟨a, vs, fa, w, e2, k⟩ := b.frz el
      obtain ⟨b2, s2⟩ := k (by rw [hso]; exact fun z => nomatch z)
      refine ⟨_, _, d, b2, ?_⟩
      revert h
      cases bm (ρ.set i (.val (.lst l))) d with
      | ok x d' => exact fun h => tK.cut (r := .ok x d') b.g w e2 h (fun x' v F1 F2 d' e r => r) fun e d' z => nomatch z
      | ex e d' => exact fun h => h.elim
      | no => exact fun h => h
    · cases eq
  · exact h.elim
theorem BR.put {ρ : REnv} {d : DSt} {σ : L2.St} {F H : Hp} (b : BR C B ρ d σ F H) {i : Nat} {l : List PV} (e : ρ[i]? = some (.own l)) : ∃ a vs, σ[i]? = some (some (.ref a)) ∧ H a = some (.lst vs) ∧ RepL C F l vs ∧ ∀ l' vs', RepL C F l' vs' → BR C B (ρ.set i (.own l')) d σ F (upd H a (.lst vs')) := by
  obtain ⟨a, vs, e1, w, e2, r, k⟩ := b.own_at e
  refine ⟨a, vs, e1, e2, r, fun l' vs' r' => ?_⟩
  have z := k F (upd H a (.lst vs')) (.own l') (some (.ref a)) (b.g.write w (nx_lst.at e2)) (Sk.refl C F) (fun c u n q => by rw [upd_ne n]; exact q) (fun c u q => .inl q)
    (fun _ => ⟨rfl, w, vs', upd_same, r'⟩) (fun q => nomatch q)
  have es : σ.set i (some (.ref a)) = σ := by
    apply List.ext_getElem?
    intro j
    by_cases hj : i = j
    · subst hj
      obtain ⟨hl, _⟩ := List.getElem?_eq_some_iff.mp e1
      rw [List.getElem?_set_self hl, e1]
    · rw [List.getElem?_set_ne hj]
  rw [es] at z
  exact z
/-- an own list at a later point of an expression -/
theorem BR.own_later {ρ : REnv} {d d' : DSt} {σ : L2.St} {F H F' H' : Hp} (b : BR C B ρ d σ F H) (b' : BG C B d' F' H') (g : Go C B F H F' H') {i : Nat} {l : List PV} (e : ρ[i]? = some (.own l)) {a : Addr} (ea : σ[i]? = some (some (.ref a))) :
    ∃ vs, H' a = some (.lst vs) ∧ RepL C F' l vs ∧ ∀ l' vs', RepL C F' l' vs' → BR C B (ρ.set i (.own l')) d' σ F' (upd H' a (.lst vs')) := by
  obtain ⟨a', vs, e1, e2, r, k⟩ := (b.go b' g).put e
  rw [ea] at e1
  cases e1
  exact ⟨vs, e2, r, k⟩
/-- x.append(e) -/
def sApp (i : Nat) (m : EM) : SM := fun ρ d => match ρ[i]? with
  | some (.own l) => match m ρ d with
    | .ok y d' => if l.length < LIM then .nx (ρ.set i (.own (l ++ [y]))) d' else .no
    | .ex e d' => .ex e d'
    | .no => .no
  | _ => .no
theorem rs_app (i : Nat) {x : Str} {p1 p2 p3 : Pos} (hN : X.N[i]? = some x) (hv : Vis X.env.scope x) (he : RE X C B E e m)
    (hbase : attributeBase (.Name x p1) "append" X.env (eval (.Name x p1) X.env) = eval (.Name x p1) X.env := by rfl)
    (hfew : ((backTo p3 (starEach (e :: []) X.env)).all (fun x => !x.1) && (backToKw p3 (keywordEach [] X.env)).all (fun x => x.1.isSome)
      && decide ((e :: ([] : List Expr)).length + ([] : List Keyword).length + (if ([] : List Keyword).isEmpty then 0 else 1) < 30)) = true := by rfl)
    (hline : (p2.endLine == p3.line) = true := by rfl) (hs : starEach (e :: []) X.env = (false, eval e X.env) :: starEach [] X.env := by rfl) (hplain : (backTo p3 (starEach [] X.env)).any (·.1) = false := by rfl)
    (hd : (x == ("__debug__" : Str)) = false := by decide) (hcd : (x == ("__classdict__" : Str)) = false := by decide)
    (hsw : swapsWith (.Call (.Attribute (.Name x p1) "append" p2) [e] [] p3) none pos.line X.env = pure false := by rfl) :
    RSt X C B E (.Expr (.Call (.Attribute (.Name x p1) "append" p2) [e] [] p3) pos) (sApp i m) := by
  refine PS.weak (ps_expr (pe_bm PySem.F.plainAttrs_list PySem.F.slot_list_append PySem.F.type_list_append mt_append (pe_var hN hv hd hcd) (pa_cons he pa_nil hs) hbase hfew hline hs hplain) hsw) fun D σ H h => ?_
  obtain ⟨F, ρ, d, b, h⟩ := h
  unfold sApp at h
  split at h
  · rename_i l el
    obtain ⟨a, vs, e1, e2, r, k⟩ := b.put el
    refine ⟨.ref a, e1, .inl ⟨rfl, vs, SqL.of e2⟩, F, ρ, d, b, ?_⟩
    revert h
    cases m ρ d with
    | ok y d' =>
      intro h F' H' v b' g rv
      have h' : tKS C B E (if l.length < LIM then .nx (ρ.set i (.own (l ++ [y]))) d' else .no) F H D := h
      split at h'
      · rename_i hl
        obtain ⟨vs', e3, r3, k3⟩ := b.own_later b' g el e1
        refine ⟨a, vs', v, rfl, rfl, e3, ?_, h' σ F' _ (k3 _ _ (r3.append ⟨_, _, rfl, rv, rfl⟩)) g.s⟩
        rw [← r3.length]
        have := LIM_le
        omega
      · exact h'.elim
    | ex e d' => exact fun h _ _ _ _ b _ r => h _ _ _ _ _ b r
    | no => exact fun h => h
  · exact h.elim
/-- the place that x[k] means -/
def ixP (n : Nat) (k : Int) : Option Nat := ixN n k
/-- x[i] = e -/
def sPut (i : Nat) (mi m : EM) : SM := fun ρ d => match m ρ d with
  | .ok y d1 => match mi ρ d1 with
    | .ok (.int k) d2 => match ρ[i]? with
      | some (.own l) => match ixN l.length k with
        | some j => .nx (ρ.set i (.own (l.set j y))) d2
        | none => .no
      | _ => .no
    | _ => .no
  | .ex e d1 => .ex e d1
  | .no => .no
theorem rs_put (i : Nat) {x : Str} {ix : Expr} {mi : EM} {p1 p2 : Pos} (hN : X.N[i]? = some x) (hv : Vis X.env.scope x) (hi : RE X C B E ix mi) (he : RE X C B E e m)
    (hg : PG X (.Subscript (.Name x p1) ix p2) (gSub (tVar i) (tR C B E (Rep C) mi) rSetL))
    (hs : swapsWithSole [.Subscript (.Name x p1) ix p2] e pos.line X.env = pure false := by rfl) (hw : swappedStores [.Subscript (.Name x p1) ix p2] e X.env = pure none := by rfl) :
    RSt X C B E (.Assign [.Subscript (.Name x p1) ix p2] e pos) (sPut i mi m) := by
  refine PS.weak (ps_asg he hg hs hw) fun D σ H h => ?_
  obtain ⟨F, ρ, d, b, h⟩ := h
  refine ⟨F, ρ, d, b, ?_⟩
  unfold sPut at h
  revert h
  cases m ρ d with
  | ok y d1 =>
    intro h F1 H1 v b1 g1 r1
    have B1 := b.go b1 g1
    revert h
    show tKS C B E (match mi ρ d1 with
      | .ok (.int k) d2 => match ρ[i]? with
        | some (.own l) => match ixN l.length k with
          | some j => .nx (ρ.set i (.own (l.set j y))) d2
          | none => .no
        | _ => .no
      | _ => .no) F H D → _
    cases q : mi ρ d1 with
    | ok z d2 =>
      intro h
      cases z with
      | int k =>
        have h' : tKS C B E (match ρ[i]? with
          | some (.own l) => match ixN l.length k with
            | some j => .nx (ρ.set i (.own (l.set j y))) d2
            | none => .no
          | _ => .no) F H D := h
        split at h'
        · rename_i l el
          split at h'
          · rename_i j ej
            obtain ⟨a, vs, e1, e2, r, kk⟩ := B1.put el
            refine ⟨.ref a, e1, F1, ρ, d1, B1, ?_⟩
            rw [q]
            intro F2 H2 u b2 g2 r2
            cases r2
            obtain ⟨vs', e3, r3, k3⟩ := B1.own_later b2 g2 el e1
            exact ⟨a, vs', k, j, rfl, rfl, e3, by rw [← r3.length]; exact ej, h' σ F2 _ (k3 _ _ (r3.set (r1.mono g2.s) j)) (g1.s.trans g2.s)⟩
          · exact h'.elim
        · exact h'.elim
      | _ => exact h.elim
    | ex e d2 => exact fun h => h.elim
    | no => exact fun h => h.elim
  | ex e d1 => exact fun h _ _ _ _ b _ r => h _ _ _ _ _ b r
  | no => exact fun h => h
end
end RL
end M_R6
section M_R7
namespace RL
open PySem PySem.Spec PyProof.Rows L2

/-! ### operators of one's own classes -/
abbrev OT := Nat → Option PFn
def OT0 : OT := fun _ => none
def own (t : OT) (c : Nat) (xs : List PV) : O := match t c with
  | some fn => fn xs
  | none => .no
structure OwnT (X : Cx) (C : Pl) (k : Nat) (name : Str) (t : OT) : Prop where
  at_ : ∀ c fn, t c = some fn → ∃ A f, C.ad c = some A ∧ PySem.W.findIn X.K (.ref A) name = some (some (.ref f)) ∧ PySem.W.isFn X.K (.ref f) = true ∧ PySem.W.fnIn X.K f = true ∧ PySem.W.selfFirst X.K A = true ∧ PySem.W.noSeq X.K A = true ∧ Cls X.K A ∧
    FnG X.prog X.w X.K X.mg X.base k f (spX C fn)
/-- two classes of one table: neither stands above the other -/
structure TwoT (X : Cx) (C : Pl) (t : OT) : Prop where
  two : ∀ c c' fn fn', t c = some fn → t c' = some fn' → c ≠ c' → ∃ A A', C.ad c = some A ∧ C.ad c' = some A' ∧ PySem.W.subIn X.K (.ref A') (.ref A) = some false
/-- no reflected method -/
structure TwoR (X : Cx) (C : Pl) (nm : String) (t : OT) : Prop where
  rn : ∀ c fn, t c = some fn → ∃ A, C.ad c = some A ∧ PySem.W.findIn X.K (.ref A) (dunderR nm) = some none
theorem twoT_none {X : Cx} {C : Pl} : TwoT X C OT0 := ⟨fun _ _ _ _ e => nomatch e⟩
theorem twoR_none {X : Cx} {C : Pl} {nm : String} : TwoR X C nm OT0 := ⟨fun _ _ e => nomatch e⟩
def own2 (t : OT) (c c' : Nat) (xs : List PV) : O := if c = c' ∨ (t c').isSome = true then own t c xs else .no
open PySem.W in
/-- an operator of two instances whose classes are no kin -/
theorem binop_K2 {prog : Program} {w : World} {A : Around} {E : Value → Shared → Prop} {s : Shared} {K : Frag} {x C D L f f2 : Addr} {h₀ : Heap} {m : Str → Option Value} {ox : Obj} {od : Option Obj} {op : Operator} {b : Value} {Q : Value → Shared → Prop}
    (F : Fr h₀ L s.heap m) (X₀ : K.In h₀) (I : InstAt s.heap x ox C od) (hb : Looks (model prog w) s.heap (typeOf b) (.ref D)) (hne : C ≠ D) (hc : selfFirst K C = true) (hd : selfFirst K D = true)
    (hs : findIn K (.ref C) (PySem.dunder op.info.2) = some (some (.ref f))) (hf : isFn K (.ref f) = true) (hr : findIn K (.ref C) (dunderR op.info.2) = some none)
    (hs2 : findIn K (.ref D) (PySem.dunder op.info.2) = some (some (.ref f2))) (hr2 : findIn K (.ref D) (dunderR op.info.2) = some none) (hsub : subIn K (.ref D) (.ref C) = some false)
    (h : wpAny (model prog w) A (call (.ref f) [.ref x, b]) (PySem.W.CmpBack Q) E s) : wpAny (model prog w) A (binaryOp op (.ref x) b) Q E s := by
  have X := X₀.keeps F.keep
  obtain ⟨cd, rest, hcd, hm⟩ := ksp_first hc
  obtain ⟨cd2, rest2, hcd2, hm2⟩ := ksp_first hd
  rcases hi : op.info with ⟨sym, nm'⟩
  rw [hi] at hs hr hs2 hr2
  dsimp only at hs hr hs2 hr2
  have one := ksp_try X I hs hf h
  obtain ⟨hh, g, d, tt, os⟩ := s
  have L1 : Looks (model prog w) hh (typeOf (.ref x)) (.ref C) := I.type
  have L2 : Looks (model prog w) hh (typeOf b) (.ref D) := hb
  have L3 : Looks (model prog w) hh (fillsNumberSlot (.ref C) nm') true := fills_K X hcd hm hs
  have L4 : Looks (model prog w) hh (fillsNumberSlot (.ref D) nm') true := fills_K X hcd2 hm2 hs2
  have L5 : Looks (model prog w) hh (isSubtype (.ref D) (.ref C)) false := looks_subIn X hsub
  have L6 : Looks (model prog w) hh (numberSlotInPython (.ref C) nm') true := ksp_inPy X hs hr (.inl rfl)
  have L7 : Looks (model prog w) hh (numberSlotInPython (.ref D) nm') true := ksp_inPy X hs2 hr2 (.inl rfl)
  have hne' : (Value.ref C == Value.ref D) = false := Bool.eq_false_iff.mpr fun q => by
    have := beq_iff_eq.mp q
    injection this with z
    exact hne z
  simp only [binaryOp, hi]
  refine wpAny_holding (wpAny_bind ?_)
  unfold binaryOp1
  refine wpAny_bind (L1.at (wpAny_bind (L2.at (wpAny_bind (L3.at ?_)))))
  simp only [hne', Bool.false_eq_true, if_false]
  ksp_lk
  refine wpAny_mono one (fun r s' hr' => ?_) fun _ _ e => e
  obtain ⟨v, rfl, hq⟩ := hr'
  ksp_lk
  exact hq
theorem ownT_none {X : Cx} {C : Pl} {k : Nat} {name : Str} : OwnT X C k name OT0 := ⟨fun _ _ e => nomatch e⟩
section
variable {X : Cx} {C : Pl} {B : Bp} {E : XS} {d : DSt} {σ : L2.St} {F H : Hp} {pins : List (Addr × Obj)} {s : Shared} {Q : VK} {k : Nat} {t : OT} {c : Nat} {xs ys : List PV} {x y : V} {v u : Value}
theorem inst_at (I : Inv X pins σ H s) {a A dx : Addr} {fs : List (Str × V)} (e : H a = some (.ins A dx fs)) : ∃ od, PySem.W.InstAt s.heap a (PySem.W.instObj A dx) A (some od) ∧ ∀ n, PySem.W.lookIn n od = some none ∨ fs.lookup n ≠ none := by
  obtain ⟨mA, J, rr, _, _, _⟩ := ins_get I.hok e
  obtain ⟨od, J', hl⟩ := J.look
  refine ⟨od, J', fun n => ?_⟩
  cases q : fs.lookup n with
  | some z => exact .inr (fun z => nomatch z)
  | none =>
    have hn : mA n = none := RelO.none_of (by rw [← q]; exact rr n)
    exact .inl (by rw [hl n, hn])
theorem cmpBack_of {u : Value} {s' : Shared} {P : Value → Shared → Prop} (rv : RelV x u) (h : P u s') : PySem.W.CmpBack P u s' := by
  cases x with
  | non => cases rv; exact h
  | bl _ => cases rv; exact h
  | int _ => obtain ⟨t, rfl⟩ := rv; exact h
  | str _ => obtain ⟨t, rfl⟩ := rv; exact h
  | byt _ => obtain ⟨t, rfl⟩ := rv; exact h
  | flt _ => obtain ⟨t, rfl⟩ := rv; exact h
  | ref _ => cases rv; exact h
  | ty _ => cases rv; exact h
/-- under another around with the same frames -/
theorem run_spA {A' : Around} {f : Addr} {fn : PFn} {us : List Value} {vs : List V} (G : FnG X.prog X.w X.K X.mg X.base k f (spX C fn)) (hr : RmG k A') (e0 : Env0 X.prog X.w X.K X.mg X.base A' X.stack s H) (tk : Tk X E) (I : Inv X pins σ H s) (r : Vals vs us)
    (b : BG C B d F H) (rp : RepL C F xs vs) (h : tK C B (E σ) (Rep C) ((fn xs).r d) F H Q) : wpAny (model X.prog X.w) A' (call (.ref f) us) (EP X pins σ Q) X.xe s :=
  wpAny_call (codeAny_mono (G A' X.stack s H us vs Q (E σ) hr e0 r (sp_tK b rp h)) fun r s' hq => by
    have z := after_call tk I hq
    cases r with
    | error e => exact z
    | ok fl => cases fl <;> exact z)
theorem own_get {n : Str} (O : OwnT X C k n t) (h : tK C B (E σ) (Rep C) ((own t c xs).r d) F H Q) : ∃ fn, t c = some fn ∧ tK C B (E σ) (Rep C) ((fn xs).r d) F H Q := by
  unfold own at h
  split at h
  · rename_i fn e; exact ⟨fn, e, h⟩
  · exact h.elim
theorem own_bin {op : Operator} (O : OwnT X C k (PySem.dunder op.info.2) t) (hr : RmG k X.A) (tk : Tk X E) (I : Inv X pins σ H s) (b : BG C B d F H) (r1 : Rep C F (.ins c xs) x) (r2 : Rep C F (.ins c ys) y) (rx : RelV x v) (ry : RelV y u)
    (h : tK C B (E σ) (Rep C) ((own t c [.ins c xs, .ins c ys]).r d) F H Q) : wpAny (model X.prog X.w) X.A (binaryOp op v u) (EP X pins σ Q) X.xe s := by
  obtain ⟨fn, ef, h⟩ := own_get O h
  obtain ⟨A, f, eA, e1, e2, e3, e4, e5, e6, G⟩ := O.at_ c fn ef
  obtain ⟨a1, A1, dx1, vs1, rfl, z1, f1, l1, q1⟩ := id r1
  obtain ⟨a2, A2, dx2, vs2, rfl, z2, f2, l2, q2⟩ := id r2
  rw [eA] at z1 z2; cases z1; cases z2
  cases rx; cases ry
  obtain ⟨od, J, _⟩ := inst_at I (b.fh _ _ f1)
  obtain ⟨od2, J2, _⟩ := inst_at I (b.fh _ _ f2)
  obtain ⟨m, fr⟩ := I.fr
  refine PySem.W.binop_K fr I.ok.mod.kin J J2.type e4 e1 e2 ?_
  refine thn (run_sp (vs := [.ref a1, .ref a2]) G hr tk I (.cons rfl (.cons rfl .nil)) b (RepL.cons r1 (RepL.cons r2 RepL.nil)) h) fun u s' q => ?_
  obtain ⟨z, H', I', rz, q⟩ := q
  exact cmpBack_of rz ⟨z, H', I', rz, q⟩
theorem own_bin2 {op : Operator} {c' : Nat} (O : OwnT X C k (PySem.dunder op.info.2) t) (W : TwoT X C t) (WR : TwoR X C op.info.2 t) (hr : RmG k X.A) (tk : Tk X E) (I : Inv X pins σ H s) (b : BG C B d F H) (r1 : Rep C F (.ins c xs) x) (r2 : Rep C F (.ins c' ys) y) (rx : RelV x v) (ry : RelV y u)
    (h : tK C B (E σ) (Rep C) ((own2 t c c' [.ins c xs, .ins c' ys]).r d) F H Q) : wpAny (model X.prog X.w) X.A (binaryOp op v u) (EP X pins σ Q) X.xe s := by
  unfold own2 at h
  split at h
  · rename_i hc
    by_cases q : c = c'
    · subst q; exact own_bin O hr tk I b r1 r2 rx ry h
    · have hs := hc.resolve_left q
      cases ef2 : t c' with
      | none => rw [ef2] at hs; cases hs
      | some fn2 =>
        obtain ⟨fn, ef, h⟩ := own_get O h
        obtain ⟨A, f, eA, e1, e2, e3, e4, e5, e6, G⟩ := O.at_ c fn ef
        obtain ⟨A2, f2, eA2, g1, g2, g3, g4, g5, g6, G2⟩ := O.at_ c' fn2 ef2
        obtain ⟨A', A2', w1, w2, w3⟩ := W.two c c' fn fn2 ef ef2 q
        rw [eA] at w1; cases w1
        rw [eA2] at w2; cases w2
        obtain ⟨B1, v1, v2⟩ := WR.rn c fn ef
        rw [eA] at v1; cases v1
        obtain ⟨B2, v3, v4⟩ := WR.rn c' fn2 ef2
        rw [eA2] at v3; cases v3
        obtain ⟨a1, A1, dx1, vs1, rfl, z1, f1, l1, q1⟩ := id r1
        obtain ⟨a2, A3, dx2, vs2, rfl, z2, f2', l2, q2⟩ := id r2
        rw [eA] at z1; cases z1
        rw [eA2] at z2; cases z2
        cases rx; cases ry
        obtain ⟨od, J, _⟩ := inst_at I (b.fh _ _ f1)
        obtain ⟨od2, J2, _⟩ := inst_at I (b.fh _ _ f2')
        obtain ⟨m, fr⟩ := I.fr
        have run : wpAny (model X.prog X.w) X.A (call (.ref f) [.ref a1, .ref a2]) (PySem.W.CmpBack (EP X pins σ Q)) X.xe s := by
          refine thn (run_sp (vs := [.ref a1, .ref a2]) G hr tk I (.cons rfl (.cons rfl .nil)) b (RepL.cons r1 (RepL.cons r2 RepL.nil)) h) fun u s' q => ?_
          obtain ⟨z, H', I', rz, q⟩ := q
          exact cmpBack_of rz ⟨z, H', I', rz, q⟩
        by_cases hA : A = A2
        · subst hA
          exact PySem.W.binop_K fr I.ok.mod.kin J J2.type e4 e1 e2 run
        · exact binop_K2 fr I.ok.mod.kin J J2.type hA e4 g4 e1 e2 v2 g1 v4 w3 run
  · exact h.elim
/-- a comparison by one's own method; the right side of the same class -/
theorem own_cmp {op : CmpOp} (O : OwnT X C k (cmpInfo op).2.1 t) (hr : RmG k X.A) (tk : Tk X E) (I : Inv X pins σ H s) (b : BG C B d F H) (r1 : Rep C F (.ins c xs) x) (r2 : Rep C F (.ins c ys) y) (rx : RelV x v) (ry : RelV y u)
    (h : tK C B (E σ) (Rep C) ((own t c [.ins c xs, .ins c ys]).r d) F H Q) : wpAny (model X.prog X.w) X.A (richCompare op v u) (EP X pins σ Q) X.xe s := by
  obtain ⟨fn, ef, h⟩ := own_get O h
  obtain ⟨A, f, eA, e1, e2, e3, e4, e5, e6, G⟩ := O.at_ c fn ef
  obtain ⟨a1, A1, dx1, vs1, rfl, z1, f1, l1, q1⟩ := id r1
  obtain ⟨a2, A2, dx2, vs2, rfl, z2, f2, l2, q2⟩ := id r2
  rw [eA] at z1 z2; cases z1; cases z2
  cases rx; cases ry
  obtain ⟨od, J, _⟩ := inst_at I (b.fh _ _ f1)
  obtain ⟨od2, J2, _⟩ := inst_at I (b.fh _ _ f2)
  obtain ⟨m, fr⟩ := I.fr
  refine PySem.W.cmp_K (tb := .ref A) hr.r.units0 fr I.ok.mod.kin J J2.type (by simp [PySem.W.notFirst]) e1 e2 ?_
  refine thn (run_sp (vs := [.ref a1, .ref a2]) G hr tk I (.cons rfl (.cons rfl .nil)) b (RepL.cons r1 (RepL.cons r2 RepL.nil)) h) fun u s' q => ?_
  obtain ⟨z, H', I', rz, q⟩ := q
  exact cmpBack_of rz ⟨z, H', I', rz, q⟩
theorem own_cmp2 {op : CmpOp} {c' : Nat} (O : OwnT X C k (cmpInfo op).2.1 t) (W : TwoT X C t) (hr : RmG k X.A) (tk : Tk X E) (I : Inv X pins σ H s) (b : BG C B d F H) (r1 : Rep C F (.ins c xs) x) (r2 : Rep C F (.ins c' ys) y) (rx : RelV x v) (ry : RelV y u)
    (h : tK C B (E σ) (Rep C) ((own2 t c c' [.ins c xs, .ins c' ys]).r d) F H Q) : wpAny (model X.prog X.w) X.A (richCompare op v u) (EP X pins σ Q) X.xe s := by
  unfold own2 at h
  split at h
  · rename_i hc
    by_cases q : c = c'
    · subst q; exact own_cmp O hr tk I b r1 r2 rx ry h
    · have hs := hc.resolve_left q
      cases ef2 : t c' with
      | none => rw [ef2] at hs; cases hs
      | some fn2 =>
        obtain ⟨fn, ef, h⟩ := own_get O h
        obtain ⟨A, f, eA, e1, e2, e3, e4, e5, e6, G⟩ := O.at_ c fn ef
        obtain ⟨A', A2, w1, w2, w3⟩ := W.two c c' fn fn2 ef ef2 q
        rw [eA] at w1; cases w1
        obtain ⟨a1, A1, dx1, vs1, rfl, z1, f1, l1, q1⟩ := id r1
        obtain ⟨a2, A3, dx2, vs2, rfl, z2, f2', l2, q2⟩ := id r2
        rw [eA] at z1; cases z1
        rw [w2] at z2; cases z2
        cases rx; cases ry
        obtain ⟨od, J, _⟩ := inst_at I (b.fh _ _ f1)
        obtain ⟨od2, J2, _⟩ := inst_at I (b.fh _ _ f2')
        obtain ⟨m, fr⟩ := I.fr
        refine PySem.W.cmp_K (tb := .ref A2) hr.r.units0 fr I.ok.mod.kin J J2.type (by simp [PySem.W.notFirst, w3]) e1 e2 ?_
        refine thn (run_sp (vs := [.ref a1, .ref a2]) G hr tk I (.cons rfl (.cons rfl .nil)) b (RepL.cons r1 (RepL.cons r2 RepL.nil)) h) fun u s' q => ?_
        obtain ⟨z, H', I', rz, q⟩ := q
        exact cmpBack_of rz ⟨z, H', I', rz, q⟩
  · exact h.elim
end

/-! ### arithmetic -/
def oAdd (t : OT) : PV → PV → O
  | .int i, .int j => .ok (.int (i + j))
  | .lst xs, .lst ys => if xs.length + ys.length < LIM then .ok (.lst (xs ++ ys)) else .no
  | .tup xs, .tup ys => if xs.length + ys.length < LIM then .ok (.tup (xs ++ ys)) else .no
  | .str x, .str y => if x.length + y.length < LIM then .ok (.str (x ++ y)) else .no
  | .ins c xs, .ins c' ys => own2 t c c' [.ins c xs, .ins c' ys]
  | _, _ => .no
def oSub (t : OT) : PV → PV → O
  | .int i, .int j => .ok (.int (i - j))
  | .ins c xs, .ins c' ys => if c = c' then own t c [.ins c xs, .ins c' ys] else .no
  | _, _ => .no
def SM64 (i : Int) : Prop := -(2 ^ 64) < i ∧ i < 2 ^ 64
instance (i : Int) : Decidable (SM64 i) := by unfold SM64; exact inferInstance
def repL (k : Int) (xs : List PV) : List PV := (List.replicate k.toNat xs).flatten
def oMul : PV → PV → O
  | .int i, .int j => if SM64 i ∨ SM64 j then .ok (.int (i * j)) else .no
  | .tup xs, .int k => if xs ≠ [] ∧ 2 ≤ k ∧ k < 1000 ∧ xs.length < 1000 then .ok (.tup (repL k xs)) else .no
  | _, _ => .no
def oMod : PV → PV → O
  | .int i, .int j => if 0 < j then .ok (.int (i % j)) else .no
  | _, _ => .no
def oDiv : PV → PV → O
  | .int i, .int j => if 0 < j ∧ j < 1073741824 then .ok (.int (i / j)) else .no
  | _, _ => .no
def oPow : PV → PV → O
  | .int i, .int j => if 0 ≤ j ∧ j ≤ 1000 ∧ i.natAbs < 1000000 then .ok (.int (i ^ j.toNat)) else .no
  | _, _ => .no
def oOwn (t : OT) : PV → PV → O
  | .ins c xs, .ins c' ys => if c = c' then own t c [.ins c xs, .ins c' ys] else .no
  | _, _ => .no
theorem repL_rep {C : Pl} {F : Hp} {xs : List PV} {vs : List V} (r : RepL C F xs vs) (n : Nat) : RepL C F (List.replicate n xs).flatten (List.replicate n vs).flatten := by
  induction n with
  | zero => exact rfl
  | succ n ih => rw [List.replicate_succ, List.replicate_succ, List.flatten_cons, List.flatten_cons]; exact r.append ih
section
variable {X : Cx} {C : Pl} {E : XS} {k : Nat} {t : OT}
theorem catX {pins : List (Addr × Obj)} {s : Shared} {σ : L2.St} {H : Hp} {l b : Addr} {xs zs : List V} {Q : VK} (I : Inv X pins σ H s) (hl : SqX X.K H l xs) (hb : SqX X.K H b zs) (hz : xs.length + zs.length ≤ sizeLine) (h : ∀ p, H p = none → Q (.ref p) (upd H p (.lst (xs ++ zs)))) :
    wpAny (model X.prog X.w) X.A (binaryOp .Add (.ref l) (.ref b)) (EP X pins σ Q) X.xe s := by
  obtain ⟨_, u, n, ru, lu, eu⟩ := hl.obj I
  obtain ⟨_, w, m, rw', lw, ew⟩ := hb.obj I
  refine PySem.P.add_list eu ew ?_ (by simp; omega)
  have e : u.toArray ++ w.toArray = (u ++ w).toArray := by simp
  rw [e]
  exact ⟨.ref _, _, I.lnew (t' := s.toks) (ru.append rw') (by simp; omega), rfl, h _ I.fresh⟩
theorem op2_add (hK : X.K = C.K) (hr : RmG k X.A) (tk : Tk X E) (O : OwnT X C k (PySem.dunder (Operator.info .Add).2) t) (W : TwoT X C t) (WR : TwoR X C (Operator.info .Add).2 t) : Op2 X C E (binaryOp .Add) (oAdd t) := by
  intro B pins s σ H x y v u Q I rx ry h
  obtain ⟨F, d, px, py, b, r1, r2, h⟩ := h
  unfold oAdd at h
  split at h
  · exact op_add pins s σ H x y v u Q I rx ry ⟨_, _, r1, r2, h.here b rfl⟩
  · rename_i xs ys
    split at h
    · rename_i hl
      obtain ⟨a1, vs1, rfl, f1, q1⟩ := r1
      obtain ⟨a2, vs2, rfl, f2, q2⟩ := r2
      cases rx; cases ry
      exact catX I (by rw [hK]; exact SqX.mono b.fh f1) (by rw [hK]; exact SqX.mono b.fh f2) (by rw [← q1.length, ← q2.length]; exact lim_le hl) (fun p hp => h.new b hp (rep_lst (b.F_none hp) (q1.append q2)))
    · exact h.elim
  · rename_i xs ys
    split at h
    · rename_i hl
      obtain ⟨a1, vs1, rfl, f1, q1⟩ := r1
      obtain ⟨a2, vs2, rfl, f2, q2⟩ := r2
      refine op_catA pins s σ H _ _ v u Q I rx ry ⟨a1, a2, vs1, vs2, rfl, rfl, by rw [hK]; exact Same.sqT b.fh f1, by rw [hK]; exact Same.sqT b.fh f2, by rw [← q1.length, ← q2.length]; exact lim_le hl, fun e => ?_, fun _ e => ?_, fun _ _ p hp => h.new b hp (rep_tup (b.F_none hp) (q1.append q2))⟩
      · subst e
        have e1 : xs = [] := List.length_eq_zero_iff.mp q1.length
        subst e1
        exact h.here b ⟨a2, vs2, rfl, f2, q2⟩
      · subst e
        have e1 : ys = [] := List.length_eq_zero_iff.mp q2.length
        subst e1
        exact h.here b ⟨a1, vs1, rfl, f1, by rw [List.append_nil]; exact q1⟩
    · exact h.elim
  · split at h
    · rename_i hl
      exact op_add_str pins s σ H x y v u Q I rx ry ⟨_, _, r1, r2, lim_le hl, h.here b rfl⟩
    · exact h.elim
  · exact own_bin2 O W WR hr tk I b r1 r2 rx ry h
  · exact h.elim
theorem op2_sub (hr : RmG k X.A) (tk : Tk X E) (O : OwnT X C k (PySem.dunder (Operator.info .Sub).2) t) : Op2 X C E (binaryOp .Sub) (oSub t) := by
  intro B pins s σ H x y v u Q I rx ry h
  obtain ⟨F, d, px, py, b, r1, r2, h⟩ := h
  unfold oSub at h
  split at h
  · exact op_sub pins s σ H x y v u Q I rx ry ⟨_, _, r1, r2, h.here b rfl⟩
  · split at h
    · rename_i e
      subst e
      exact own_bin O hr tk I b r1 r2 rx ry h
    · exact h.elim
  · exact h.elim
theorem op2_own {op : Operator} (hr : RmG k X.A) (tk : Tk X E) (O : OwnT X C k (PySem.dunder op.info.2) t) : Op2 X C E (binaryOp op) (oOwn t) := by
  intro B pins s σ H x y v u Q I rx ry h
  obtain ⟨F, d, px, py, b, r1, r2, h⟩ := h
  unfold oOwn at h
  split at h
  · split at h
    · rename_i e
      subst e
      exact own_bin O hr tk I b r1 r2 rx ry h
    · exact h.elim
  · exact h.elim
theorem op2_mul (hK : X.K = C.K) : Op2 X C E (binaryOp .Mult) oMul := by
  intro B pins s σ H x y v u Q I rx ry h
  obtain ⟨F, d, px, py, b, r1, r2, h⟩ := h
  unfold oMul at h
  split at h
  · split at h
    · rename_i e
      exact op_mul pins s σ H x y v u Q I rx ry ⟨_, _, r1, r2, e, h.here b rfl⟩
    · exact h.elim
  · rename_i xs n
    split at h
    · rename_i e
      obtain ⟨a1, vs1, rfl, f1, q1⟩ := r1
      have hl := q1.length
      refine op_repT pins s σ H _ _ v u Q I rx ry ⟨a1, n, vs1, rfl, r2, by rw [hK]; exact Same.sqT b.fh f1, fun z => e.1 (List.length_eq_zero_iff.mp (by rw [hl, z]; rfl)), by omega, by omega, by omega, fun p hp => h.new b hp (rep_tup (b.F_none hp) (repL_rep q1 _))⟩
    · exact h.elim
  · exact h.elim
theorem op2_mod : Op2 X C E (binaryOp .Mod) oMod := by
  intro B pins s σ H x y v u Q I rx ry h
  obtain ⟨F, d, px, py, b, r1, r2, h⟩ := h
  unfold oMod at h
  split at h
  · split at h
    · rename_i e
      exact op_mod pins s σ H x y v u Q I rx ry ⟨_, _, r1, r2, e, h.here b rfl⟩
    · exact h.elim
  · exact h.elim
theorem op2_div : Op2 X C E (binaryOp .FloorDiv) oDiv := by
  intro B pins s σ H x y v u Q I rx ry h
  obtain ⟨F, d, px, py, b, r1, r2, h⟩ := h
  unfold oDiv at h
  split at h
  · split at h
    · rename_i e
      exact op_fdiv pins s σ H x y v u Q I rx ry ⟨_, _, r1, r2, e, h.here b rfl⟩
    · exact h.elim
  · exact h.elim
theorem op2_pow : Op2 X C E (binaryOp .Pow) oPow := by
  intro B pins s σ H x y v u Q I rx ry h
  obtain ⟨F, d, px, py, b, r1, r2, h⟩ := h
  unfold oPow at h
  split at h
  · split at h
    · rename_i e
      exact op_pow pins s σ H x y v u Q I rx ry ⟨_, _, r1, r2, ⟨e.1, by omega, by omega⟩, h.here b rfl⟩
    · exact h.elim
  · exact h.elim
/-! ### one-place -/
/-- a one-place operation, at the slots σ -/
def UnS (X : Cx) (f : Value → Sem Value) (r : L2.St → V → Hp → VK → Prop) : Prop :=
  ∀ (pins : List (Addr × Obj)) (s : Shared) (σ : L2.St) (H : Hp) (x : V) (v : Value) (Q : VK), Inv X pins σ H s → RelV x v → r σ x H Q →
    wpAny (model X.prog X.w) X.A (f v) (EP X pins σ Q) X.xe s
def tUnS (r : L2.St → V → Hp → VK → Prop) (ta : TE) : TE := fun σ H Q => ta σ H fun x H1 => r σ x H1 Q
theorem pe_unS {X : Cx} {a : Expr} {ta : TE} {pos : Pos} {op : UnaryOp} {r : L2.St → V → Hp → VK → Prop} (ho : UnS X (unaryOp op) r) (ha : PE X a ta) : PE X (.UnaryOp op a pos) (tUnS r ta) := by
  refine ⟨fun pins s σ H Q I h => ?_⟩
  exact UnaryOp_ (thn (ha.run pins s σ H _ I h) fun v s1 ⟨x, H1, I1, r1, q1⟩ => ho pins s1 σ H1 x v Q I1 r1 q1)
def rU1 (C : Pl) (B : Bp) (E : XS) (g : PV → O) : L2.St → V → Hp → VK → Prop := fun σ x H Q => ∃ F d px, BG C B d F H ∧ Rep C F px x ∧ tK C B (E σ) (Rep C) ((g px).r d) F H Q
def Op1 (X : Cx) (C : Pl) (E : XS) (f : Value → Sem Value) (g : PV → O) : Prop := ∀ B, UnS X f (rU1 C B E g)
def eUn (g : PV → O) (m : EM) : EM := fun ρ d => (m ρ d).bind fun x d1 => (g x).r d1
theorem re_un {B : Bp} {pos : Pos} {a : Expr} {ma : EM} {op : UnaryOp} {g : PV → O} (ho : Op1 X C E (unaryOp op) g) (ha : RE X C B E a ma) : RE X C B E (.UnaryOp op a pos) (eUn g ma) := by
  refine PE.weak (pe_unS (ho B) ha) fun σ H Q h => ?_
  obtain ⟨F, ρ, d, b, h⟩ := h
  refine ⟨F, ρ, d, b, (tK.bind (Rp := Rep C) h).imp fun v H1 q => ?_⟩
  obtain ⟨F1, d1, x, b1, g1, r1, k1⟩ := q
  exact ⟨F1, d1, x, b1, r1, k1⟩
def oNeg (t : OT) : PV → O
  | .int i => .ok (.int (-i))
  | .ins c xs => own t c [.ins c xs]
  | _ => .no
theorem op1_neg (hr : RmG k X.A) (tk : Tk X E) (O : OwnT X C k "__neg__" t) : Op1 X C E (unaryOp .USub) (oNeg t) := by
  intro B pins s σ H x v Q I rx h
  obtain ⟨F, d, px, b, r1, h⟩ := h
  unfold oNeg at h
  split at h
  · exact un_neg pins s σ H x v Q I rx ⟨_, r1, h.here b rfl⟩
  · obtain ⟨fn, ef, h⟩ := own_get O h
    obtain ⟨A, f, eA, e1, e2, e3, e4, e5, e6, G⟩ := O.at_ _ fn ef
    obtain ⟨a1, A1, dx1, vs1, rfl, z1, f1, l1, q1⟩ := id r1
    rw [eA] at z1; cases z1
    cases rx
    obtain ⟨od, J, _⟩ := inst_at I (b.fh _ _ f1)
    obtain ⟨m, fr⟩ := I.fr
    exact PySem.W.ksp_neg fr I.ok.mod.kin J e1 e2 (run_sp (vs := [.ref a1]) G hr tk I (.cons rfl .nil) b (RepL.cons r1 RepL.nil) h)
  · exact h.elim

/-! ### comparisons of order -/
def oCmp (p : Int → Int → Bool) (t : OT) : PV → PV → O
  | .int i, .int j => .ok (.bl (p i j))
  | .ins c xs, .ins c' ys => if c = c' then own t c [.ins c xs, .ins c' ys] else .no
  | _, _ => .no
abbrev oLt := oCmp fun i j => decide (i < j)
abbrev oLe := oCmp fun i j => decide (i ≤ j)
abbrev oGt := oCmp fun i j => decide (j < i)
abbrev oGe := oCmp fun i j => decide (j ≤ i)
theorem op2_cmp {op : CmpOp} {p : Int → Int → Bool} (hf : OpR X (compareOp op) (rI0 fun i j => .bl (p i j))) (hc : compareOp op = richCompare op) (hr : RmG k X.A) (tk : Tk X E) (O : OwnT X C k (cmpInfo op).2.1 t) : Op2 X C E (compareOp op) (oCmp p t) := by
  intro B pins s σ H x y v u Q I rx ry h
  obtain ⟨F, d, px, py, b, r1, r2, h⟩ := h
  unfold oCmp at h
  split at h
  · exact hf pins s σ H x y v u Q I rx ry ⟨_, _, r1, r2, h.here b rfl⟩
  · split at h
    · rename_i e
      subst e
      rw [hc]
      exact own_cmp O hr tk I b r1 r2 rx ry h
    · exact h.elim
  · exact h.elim
theorem op2_lt (hr : RmG k X.A) (tk : Tk X E) (O : OwnT X C k (cmpInfo .Lt).2.1 t) : Op2 X C E (compareOp .Lt) (oLt t) := op2_cmp op_lt rfl hr tk O
theorem op2_le (hr : RmG k X.A) (tk : Tk X E) (O : OwnT X C k (cmpInfo .LtE).2.1 t) : Op2 X C E (compareOp .LtE) (oLe t) := op2_cmp op_le rfl hr tk O
theorem op2_gt (hr : RmG k X.A) (tk : Tk X E) (O : OwnT X C k (cmpInfo .Gt).2.1 t) : Op2 X C E (compareOp .Gt) (oGt t) := op2_cmp op_gt rfl hr tk O
theorem op2_ge (hr : RmG k X.A) (tk : Tk X E) (O : OwnT X C k (cmpInfo .GtE).2.1 t) : Op2 X C E (compareOp .GtE) (oGe t) := op2_cmp op_ge rfl hr tk O

/-! ### data -/
mutual
def toD : PV → Option PyData
  | .non => some .none
  | .bl b => some (.bool b)
  | .int i => some (.int i)
  | .str x => some (.str x)
  | .lst xs => (toDs xs).map .list
  | .tup xs => (toDs xs).map .tuple
  | _ => none
def toDs : List PV → Option (List PyData)
  | [] => some []
  | x :: xs => match toD x, toDs xs with
    | some d, some ds => some (d :: ds)
    | _, _ => none
end
end
mutual
theorem rep_dp {C : Pl} {F H : Hp} (fh : Same F H) : ∀ (x : PV) (v : V) (d : PyData), Rep C F x v → toD x = some d → Dp C.K H v d
  | .non, _, _, r, e => by cases r; cases e; exact .non
  | .bl b, _, _, r, e => by cases r; cases e; exact .bl b
  | .int i, _, _, r, e => by cases r; cases e; exact .int i
  | .str x, _, _, r, e => by cases r; cases e; exact .str x
  | .lst xs, _, _, r, e => by
    obtain ⟨a, vs, rfl, f, q⟩ := r
    have e' : (toDs xs).map PyData.list = some _ := e
    cases z : toDs xs with
    | none => rw [z] at e'; cases e'
    | some ds => rw [z] at e'; cases e'; exact .lst (SqX.mono fh f).seq (rep_dps fh xs vs ds q z)
  | .tup xs, _, _, r, e => by
    obtain ⟨a, vs, rfl, f, q⟩ := r
    have e' : (toDs xs).map PyData.tuple = some _ := e
    cases z : toDs xs with
    | none => rw [z] at e'; cases e'
    | some ds => rw [z] at e'; cases e'; exact .tup (Same.sqT fh f) (rep_dps fh xs vs ds q z)
  | .ty _, _, _, _, e => by cases e
  | .gl _, _, _, _, e => by cases e
  | .emp, _, _, _, e => by cases e
  | .ins _ _, _, _, _, e => by cases e
  | .exc _ _, _, _, _, e => by cases e
theorem rep_dps {C : Pl} {F H : Hp} (fh : Same F H) : ∀ (xs : List PV) (vs : List V) (ds : List PyData), RepL C F xs vs → toDs xs = some ds → DpAll C.K H vs ds
  | [], _, _, r, e => by cases (show _ = [] from r); cases e; exact .nil
  | x :: xs, _, _, r, e => by
    obtain ⟨v, vs, rfl, r1, r2⟩ := r
    have e' : (match toD x, toDs xs with | some d, some ds => some (d :: ds) | _, _ => none) = some _ := e
    split at e'
    · rename_i d ds e1 e2
      cases e'
      exact .cons (rep_dp fh x v d r1 e1) (rep_dps fh xs vs ds r2 e2)
    · cases e'
end
section
variable {X : Cx} {C : Pl} {E : XS} {k : Nat} {t : OT}
/-- == of data; of an object by its own method -/
def oEqD (neg : Bool) (x y : PV) : O := match toD x, toD y with
  | some a, some b => if SeqAt.shaped a = true ∧ SeqAt.shaped b = true then .ok (.bl (xor neg (PyData.eqv a b))) else .no
  | _, _ => .no
def oEq (t : OT) : PV → PV → O
  | .ins c xs, .ins c' ys => own2 t c c' [.ins c xs, .ins c' ys]
  | x, y => oEqD false x y
theorem eqD_ok (hK : X.K = C.K) (hu : X.A.units + 64 < cLine) {B : Bp} {pins : List (Addr × Obj)} {s : Shared} {σ : L2.St} {F H : Hp} {d : DSt} {px py : PV} {x y : V} {v u : Value} {Q : VK} (I : Inv X pins σ H s) (b : BG C B d F H) (r1 : Rep C F px x) (r2 : Rep C F py y) (rx : RelV x v) (ry : RelV y u)
    (h : tK C B (E σ) (Rep C) ((oEqD false px py).r d) F H Q) : wpAny (model X.prog X.w) X.A (compareOp .Eq v u) (EP X pins σ Q) X.xe s := by
  unfold oEqD at h
  split at h
  · rename_i a c e1 e2
    split at h
    · rename_i sh
      exact op_eqD hu pins s σ H x y v u Q I rx ry ⟨a, c, hK ▸ rep_dp b.fh px x a r1 e1, hK ▸ rep_dp b.fh py y c r2 e2, sh.1, sh.2, by have z := h.here b rfl; simpa using z⟩
    · exact h.elim
  · exact h.elim
theorem neD_ok (hK : X.K = C.K) (hu : X.A.units + 64 < cLine) {B : Bp} {pins : List (Addr × Obj)} {s : Shared} {σ : L2.St} {F H : Hp} {d : DSt} {px py : PV} {x y : V} {v u : Value} {Q : VK} (I : Inv X pins σ H s) (b : BG C B d F H) (r1 : Rep C F px x) (r2 : Rep C F py y) (rx : RelV x v) (ry : RelV y u)
    (h : tK C B (E σ) (Rep C) ((oEqD true px py).r d) F H Q) : wpAny (model X.prog X.w) X.A (compareOp .NotEq v u) (EP X pins σ Q) X.xe s := by
  unfold oEqD at h
  split at h
  · rename_i a c e1 e2
    split at h
    · rename_i sh
      exact op_neD hu pins s σ H x y v u Q I rx ry ⟨a, c, hK ▸ rep_dp b.fh px x a r1 e1, hK ▸ rep_dp b.fh py y c r2 e2, sh.1, sh.2, by have z := h.here b rfl; simpa using z⟩
    · exact h.elim
  · exact h.elim
theorem op2_eq (hK : X.K = C.K) (hr : RmG k X.A) (tk : Tk X E) (O : OwnT X C k (cmpInfo .Eq).2.1 t) (W : TwoT X C t) : Op2 X C E (compareOp .Eq) (oEq t) := by
  intro B pins s σ H x y v u Q I rx ry h
  obtain ⟨F, d, px, py, b, r1, r2, h⟩ := h
  unfold oEq at h
  split at h
  · exact own_cmp2 (op := .Eq) O W hr tk I b r1 r2 rx ry h
  · exact eqD_ok hK hr.r.units I b r1 r2 rx ry h
theorem op2_ne (hK : X.K = C.K) (hr : RmG k X.A) : Op2 X C E (compareOp .NotEq) (oEqD true) := by
  intro B pins s σ H x y v u Q I rx ry h
  obtain ⟨F, d, px, py, b, r1, r2, h⟩ := h
  exact neD_ok hK hr.r.units I b r1 r2 rx ry h
/-! ### in, is -/
def oInD (neg : Bool) (x y : PV) : O := match toD x, toD y with
  | some a, some (.list bs) => if SeqAt.shaped a = true ∧ SeqAt.shaped (.list bs) = true then .ok (.bl (xor neg (bs.any fun z => PyData.eqv z a))) else .no
  | _, _ => .no
end
end RL
end M_R7
section M_R8a
namespace RL
open PySem PySem.Spec PyProof.Rows L2
open PySem.W in
theorem ne_own {prog : Program} {w : World} {A : Around} {E : Value → Shared → Prop} {s : Shared} {K : Frag} {x C L f : Addr} {h₀ : Heap} {m : Str → Option Value} {ox : Obj} {od : Option Obj} {b tb : Value} {Q : Value → Shared → Prop}
    (hu : A.units < cLine) (hu1 : A.in1.units < cLine) (F : Fr h₀ L s.heap m) (X₀ : K.In h₀) (I : InstAt s.heap x ox C od) (hb : Looks (model prog w) s.heap (typeOf b) tb) (hn : notFirst K C tb = true)
    (hne : findIn K (.ref C) "__ne__" = some (some (.builtin "object.__ne__"))) (hs : findIn K (.ref C) "__eq__" = some (some (.ref f))) (hf : isFn K (.ref f) = true) (hm : mroIn K C (.type "object") = some true)
    (h : wpAny (model prog w) A.in1 (call (.ref f) [.ref x, b]) (fun v s' => ∃ k, v = .bool k ∧ Q (.bool (!k)) s') E s) : wpAny (model prog w) A (richCompare .NotEq (.ref x) b) Q E s := by
  have X := X₀.keeps F.keep
  have sub : Looks (model prog w) s.heap (isInstance (.ref x) (.type "object")) true := I.type.andThen (looks_mroIn X hm)
  have inner : wpAny (model prog w) A (call (.builtin "object.__ne__") [.ref x, b]) (fun v s' => ∃ k, v = .bool k ∧ Q (.bool k) s') E s := by
    refine wpAny_call (codeAny_call_builtin PySem.F.cmp_object.ne.plain PySem.F.cmpEntry_ne (check_slot PySem.F.cmpKind_ne PySem.F.cmpSplit_ne sub (PySem.F.cmpArgs_ne _ _) ?_))
    unfold Builtin.«object.__ne__»
    refine wpAny_bind (wpAny_of_eq (a := ((Value.ref x : Value), [b])) (by first | rfl | (simp only [Builtin.slotArgs]; rfl)) ?_)
    refine wpAny_bind (wpAny_cRoomFor hu1 ?_)
    refine wpAny_bind (ifBound_K X I hs hf (wpAny_mono h (fun v s' hv => ?_) fun _ _ z => z))
    obtain ⟨k, rfl, q⟩ := hv
    refine wpAny_bind (wpAny_truthy_bool ?_)
    exact wpAny_pure ⟨_, rfl, q⟩
  have one : wpAny (model prog w) A (tryCompare (.ref x) "__ne__" b) (fun r s' => ∃ v, r = some v ∧ Q v s') E s := by
    unfold tryCompare
    have back : wpAny (model prog w) A (call (.builtin "object.__ne__") [.ref x, b]) (fun v s' => ∃ k, v = .bool k ∧ Q (.bool k) s') E s := inner
    have bd := PySem.F.cmp_object.ne.bind (.ref x)
    simp only [callSpecialIfBound?, bindSpecialIfBound?]
    refine wpAny_bind (wpAny_holding (wpAny_bind (wpAny_bind (wpAny_bind (I.type.here ((looks_findIn X hne).here ?_))))))
    simp only [bd]
    refine wpAny_bind (wpAny_askSetting (wpAny_ite ?_))
    split
    · refine wpAny_bind (wpAny_pure (wpAny_pure ?_))
      refine wpAny_bind (m := call (.builtin "object.__ne__") ([.ref x] ++ [b])) (wpAny_mono back (fun v s' q => ?_) fun _ _ z => z)
      obtain ⟨k, rfl, q⟩ := q
      exact wpAny_pure (wpAny_pure ⟨_, rfl, q⟩)
    · refine wpAny_tryCatch (wpAny_bind (wpAny_pure (wpAny_pure ?_)))
      refine wpAny_bind (m := call (.builtin "object.__ne__") ([.ref x] ++ [b])) (wpAny_mono back (fun v s' q => ?_) fun _ _ z => z)
      obtain ⟨k, rfl, q⟩ := q
      exact wpAny_pure (wpAny_pure ⟨_, rfl, q⟩)
  unfold richCompare
  simp only [oneThing_ref]
  refine wpAny_holding (wpAny_bind (wpAny_cRoomFor hu ?_))
  refine wpAny_bind (I.type.here (wpAny_bind (hb.here ?_)))
  split
  · rename_i q
    have e : subIn K tb (.ref C) = some false := by
      rcases Bool.or_eq_true_iff.mp hn with e | e
      · rw [beq_iff_eq.mp e] at q; simp at q
      · exact beq_iff_eq.mp e
    refine wpAny_bind ((looks_subIn X e).here ?_)
    simp only [Bool.false_eq_true, if_false]
    refine wpAny_bind (wpAny_mono one (fun r s' z => ?_) fun _ _ e => e)
    obtain ⟨v, rfl, hq⟩ := z
    exact wpAny_pure hq
  · refine wpAny_bind (wpAny_pure ?_)
    simp only [Bool.false_eq_true, if_false]
    refine wpAny_bind (wpAny_mono one (fun r s' z => ?_) fun _ _ e => e)
    obtain ⟨v, rfl, hq⟩ := z
    exact wpAny_pure hq
end RL
end M_R8a
section M_R8
namespace RL
open PySem PySem.Spec PyProof.Rows L2

section
variable {X : Cx} {C : Pl} {B : Bp} {E : XS} {k : Nat} {t : OT} {pos : Pos}
/-- != of an object: by its == -/
structure OwnNe (X : Cx) (C : Pl) (t : OT) : Prop where
  at_ : ∀ c fn, t c = some fn → ∀ A, C.ad c = some A → PySem.W.findIn X.K (.ref A) "__ne__" = some (some (.builtin "object.__ne__")) ∧ PySem.W.mroIn X.K A (.type "object") = some true
def oBl (f : Bool → Bool) : O → O
  | .ok (.bl b) => .ok (.bl (f b))
  | .ex e => .ex e
  | _ => .no
theorem tK.bl {F H : Hp} {d : DSt} {Q : VK} {f : Bool → Bool} {o : O} (h : tK C B (E σ) (Rep C) ((oBl f o).r d) F H Q) : tK C B (E σ) (Rep C) (o.r d) F H fun v H' => ∃ z, v = .bl z ∧ Q (.bl (f z)) H' := by
  cases o with
  | ok w =>
    cases w with
    | bl z => exact fun F' H' v b' g r => ⟨z, r, h F' H' (.bl (f z)) b' g rfl⟩
    | _ => exact h.elim
  | ex e => exact h
  | no => exact h
/-- a length -/
def oLn : O → O
  | .ok (.int n) => if 0 ≤ n ∧ n < 1000000 then .ok (.int n) else .no
  | .ex e => .ex e
  | _ => .no
theorem tK.ln {F H : Hp} {d : DSt} {Q : VK} {o : O} (h : tK C B (E σ) (Rep C) ((oLn o).r d) F H Q) : tK C B (E σ) (Rep C) (o.r d) F H fun v H' => ∃ n, v = .int n ∧ 0 ≤ n ∧ n < 1000000 ∧ Q (.int n) H' := by
  cases o with
  | ok w =>
    cases w with
    | int n =>
      have h' : tK C B (E σ) (Rep C) (O.r (if 0 ≤ n ∧ n < 1000000 then .ok (.int n) else .no) d) F H Q := h
      split at h'
      · rename_i hn
        exact fun F' H' v b' g r => ⟨n, r, hn.1, hn.2, h' F' H' (.int n) b' g rfl⟩
      · exact h'.elim
    | _ => exact h.elim
  | ex e => exact h
  | no => exact h
def oNe (t : OT) : PV → PV → O
  | .ins c xs, .ins c' ys => oBl not (own2 t c c' [.ins c xs, .ins c' ys])
  | x, y => oEqD true x y
theorem in1_units {A : Around} {k : Nat} (hr : Room k A) : A.in1.units < cLine := by
  have := hr.units
  show A.units + 1 < cLine
  omega
theorem op2_neO (hK : X.K = C.K) (hr : RmG (k + 1) X.A) (tk : Tk X E) (O : OwnT X C k (cmpInfo .Eq).2.1 t) (W : TwoT X C t) (N : OwnNe X C t) : Op2 X C E (compareOp .NotEq) (oNe t) := by
  intro B pins s σ H x y v u Q I rx ry h
  obtain ⟨F, d, px, py, b, r1, r2, h⟩ := h
  unfold oNe at h
  split at h
  · rename_i c xs c' ys
    unfold own2 at h
    split at h
    · rename_i hc
      unfold own at h
      cases ef : t c with
      | none => rw [ef] at h; exact h.elim
      | some fn =>
        rw [ef] at h
        obtain ⟨A, f, eA, e1, e2, e3, e4, e5, e6, G⟩ := O.at_ c fn ef
        obtain ⟨n1, n2⟩ := N.at_ c fn ef A eA
        obtain ⟨a1, A1, dx1, vs1, rfl, z1, f1, l1, q1⟩ := id r1
        obtain ⟨a2, A2, dx2, vs2, rfl, z2, f2, l2, q2⟩ := id r2
        rw [eA] at z1; cases z1
        have nf : PySem.W.notFirst X.K A (.ref A2) = true := by
          by_cases q : c = c'
          · subst q
            rw [eA] at z2; cases z2
            simp [PySem.W.notFirst]
          · have hs := hc.resolve_left q
            cases ef2 : t c' with
            | none => rw [ef2] at hs; cases hs
            | some fn2 =>
              obtain ⟨A', A2', w1, w2, w3⟩ := W.two c c' fn fn2 ef ef2 q
              rw [eA] at w1; cases w1
              rw [w2] at z2; cases z2
              simp [PySem.W.notFirst, w3]
        cases rx; cases ry
        obtain ⟨od, J, _⟩ := inst_at I (b.fh _ _ f1)
        obtain ⟨od2, J2, _⟩ := inst_at I (b.fh _ _ f2)
        obtain ⟨m, fr⟩ := I.fr
        show wpAny _ _ (richCompare .NotEq _ _) _ _ _
        refine ne_own (tb := .ref A2) hr.r.units0 (in1_units hr.r) fr I.ok.mod.kin J J2.type nf n1 e1 e2 n2 ?_
        have h2 : tK C B (E σ) (Rep C) ((fn [.ins c xs, .ins c' ys]).r d) F H (fun v H' => ∃ z, v = .bl z ∧ Q (.bl (!z)) H') := tK.bl h
        refine thn (run_spA (vs := [.ref a1, .ref a2]) G hr.in1 I.env0.in1 tk I (.cons rfl (.cons rfl .nil)) b (RepL.cons r1 (RepL.cons r2 RepL.nil)) h2) fun u s' q => ?_
        obtain ⟨z, H', I', rz, w, ez, q⟩ := q
        subst ez
        cases rz
        exact ⟨w, rfl, .bl (!w), H', I', rfl, q⟩
    · exact h.elim
  · exact neD_ok hK hr.r.units I b r1 r2 rx ry h

/-! ### in -/
def oIn (neg : Bool) (t : OT) : PV → PV → O
  | x, .ins c xs => oBl (xor neg) (own t c [.ins c xs, x])
  | .str x, .str y => .no
  | x, y => match toD x, toD y with
    | some a, some (.list bs) => if SeqAt.shaped a = true ∧ SeqAt.shaped (.list bs) = true then .ok (.bl (xor neg (bs.any fun z => PyData.eqv z a))) else .no
    | some a, some (.tuple bs) => if flatD a = true ∧ bs.all flatD = true then .ok (.bl (xor neg (bs.any fun z => PyData.eqv z a))) else .no
    | _, _ => .no
where flatD : PyData → Bool
  | .none => true | .bool _ => true | .int _ => true | .str _ => true | _ => false
def toV : PyData → V
  | .none => .non | .bool b => .bl b | .int i => .int i | .str x => .str x | _ => .non
theorem dp_toV {K : PySem.W.Frag} {H : Hp} {v : V} {d : PyData} (h : Dp K H v d) (f : oIn.flatD d = true) : v = toV d := by
  cases h <;> first | rfl | cases f
theorem dps_toV {K : PySem.W.Frag} {H : Hp} : ∀ {vs : List V} {ds : List PyData}, DpAll K H vs ds → ds.all oIn.flatD = true → vs = ds.map toV
  | _, _, .nil, _ => rfl
  | _, _, .cons h t, f => by
    rw [List.all_cons, Bool.and_eq_true] at f
    rw [List.map_cons, ← dp_toV h f.1, ← dps_toV t f.2]
theorem flatV_toV {d : PyData} (f : oIn.flatD d = true) : flatV (toV d) = true := by
  cases d <;> first | rfl | cases f
theorem eqV_toV {d e : PyData} (f : oIn.flatD d = true) (g : oIn.flatD e = true) : eqV (toV d) (toV e) = PyData.eqv d e := by
  cases d <;> cases e <;> first | rfl | exact absurd (show false = true from f) Bool.false_ne_true | exact absurd (show false = true from g) Bool.false_ne_true | (simp [eqV, toV, PyData.eqv])
theorem inV_toV {a : PyData} (f : oIn.flatD a = true) : ∀ {bs : List PyData}, bs.all oIn.flatD = true → inV (toV a) (bs.map toV) = bs.any fun z => PyData.eqv z a
  | [], _ => rfl
  | b :: bs, g => by
    rw [List.all_cons, Bool.and_eq_true] at g
    have ih := inV_toV f g.2
    unfold inV at ih ⊢
    rw [List.map_cons, List.any_cons, List.any_cons, eqV_toV g.1 f, ih]
theorem all_flatV {bs : List PyData} (g : bs.all oIn.flatD = true) : (bs.map toV).all flatV = true := by
  rw [List.all_map]
  rw [List.all_eq_true] at g ⊢
  exact fun x hx => flatV_toV (g x hx)
theorem in_ok (hK : X.K = C.K) (hr : RmG k X.A) (tk : Tk X E) (O : OwnT X C k "__contains__" t) {neg : Bool} {op : CmpOp} (ho : op = if neg then .NotIn else .In) : Op2 X C E (compareOp op) (oIn neg t) := by
  intro B pins s σ H x y v u Q I rx ry h
  obtain ⟨F, d, px, py, b, r1, r2, h⟩ := h
  have hu65 : X.A.units + 65 < cLine := by have := hr.r.un; omega
  unfold oIn at h
  split at h
  · rename_i c xs
    unfold own at h
    cases ef : t c with
    | none => rw [ef] at h; exact h.elim
    | some fn =>
      rw [ef] at h
      obtain ⟨A, f, eA, e1, e2, e3, e4, e5, e6, G⟩ := O.at_ c fn ef
      obtain ⟨a2, A2, dx2, vs2, rfl, z2, f2, l2, q2⟩ := id r2
      rw [eA] at z2; cases z2
      cases ry
      obtain ⟨od2, J2, _⟩ := inst_at I (b.fh _ _ f2)
      obtain ⟨m, fr⟩ := I.fr
      have h2 : tK C B (E σ) (Rep C) ((fn [.ins c xs, px]).r d) F H (fun v H' => ∃ z, v = .bl z ∧ Q (.bl (xor neg z)) H') := tK.bl h
      have run := run_sp (vs := [.ref a2, x]) G hr tk I (.cons rfl (.cons rx .nil)) b (RepL.cons r2 (RepL.cons r1 RepL.nil)) h2
      cases neg with
      | false =>
        have eo : op = .In := ho
        subst eo
        refine PySem.W.in_K fr I.ok.mod.kin J2 e1 e2 (thn run fun u s' q => ?_)
        obtain ⟨z, H', I', rz, w, ez, q⟩ := q
        subst ez
        cases rz
        exact wpAny_truthy_bool ⟨.bl w, H', I', rfl, by simpa using q⟩
      | true =>
        have eo : op = .NotIn := ho
        subst eo
        refine PySem.W.notIn_K fr I.ok.mod.kin J2 e1 e2 (thn run fun u s' q => ?_)
        obtain ⟨z, H', I', rz, w, ez, q⟩ := q
        subst ez
        cases rz
        exact wpAny_truthy_bool ⟨.bl (!w), H', I', rfl, by simpa using q⟩
  · exact h.elim
  · split at h
    · rename_i px' py' _ _ a bs e1 e2
      split at h
      · rename_i sh
        have d1 := rep_dp b.fh _ _ _ r1 e1
        have d2 := rep_dp b.fh _ _ _ r2 e2
        cases neg with
        | false =>
          have eo : op = .In := ho
          subst eo
          exact op_inD hu65 pins s σ H x y v u Q I rx ry ⟨a, bs, hK ▸ d1, hK ▸ d2, sh.1, sh.2, by simpa using h.here b rfl⟩
        | true =>
          have eo : op = .NotIn := ho
          subst eo
          exact op_notInD hu65 pins s σ H x y v u Q I rx ry ⟨a, bs, hK ▸ d1, hK ▸ d2, sh.1, sh.2, by simpa using h.here b rfl⟩
      · exact h.elim
    · rename_i px' py' _ _ a bs e1 e2
      split at h
      · rename_i sh
        have d1 := rep_dp b.fh _ _ _ r1 e1
        have d2 := rep_dp b.fh _ _ _ r2 e2
        have ex := dp_toV d1 sh.1
        cases d2 with
        | tup hs ha =>
          rename_i p ws
          have ew := dps_toV ha sh.2
          subst ex ew
          cases neg with
          | false =>
            have eo : op = .In := ho
            subst eo
            exact op_in_seq pins s σ H _ _ v u Q I rx ry ⟨p, _, rfl, .inr (hK ▸ hs), flatV_toV sh.1, all_flatV sh.2, by rw [inV_toV sh.1 sh.2]; simpa using h.here b rfl⟩
          | true =>
            have eo : op = .NotIn := ho
            subst eo
            exact op_notIn_seq pins s σ H _ _ v u Q I rx ry ⟨p, _, rfl, .inr (hK ▸ hs), flatV_toV sh.1, all_flatV sh.2, by rw [inV_toV sh.1 sh.2]; simpa using h.here b rfl⟩
      · exact h.elim
    · exact h.elim
theorem op2_in (hK : X.K = C.K) (hr : RmG k X.A) (tk : Tk X E) (O : OwnT X C k "__contains__" t) : Op2 X C E (compareOp .In) (oIn false t) := in_ok hK hr tk O rfl
theorem op2_notIn (hK : X.K = C.K) (hr : RmG k X.A) (tk : Tk X E) (O : OwnT X C k "__contains__" t) : Op2 X C E (compareOp .NotIn) (oIn true t) := in_ok hK hr tk O rfl

/-! ### is -/
def oIs (neg : Bool) : PV → PV → O
  | x, .non => match x with
    | .non => .ok (.bl (!neg))
    | _ => .ok (.bl neg)
  | .bl a, .bl b => .ok (.bl (xor neg (a == b)))
  | .ty a, .ty b => if neg then .no else .ok (.bl (decide (a = b)))
  | _, _ => .no
theorem rep_non {C : Pl} {F : Hp} : ∀ {x : PV} {v : V}, Rep C F x v → x ≠ .non → decide (v = .non) = false
  | .non, _, _, h => absurd rfl h
  | .bl _, _, r, _ => by cases r; rfl
  | .int _, _, r, _ => by cases r; rfl
  | .str _, _, r, _ => by cases r; rfl
  | .ty _, _, r, _ => by cases r; rfl
  | .gl _, _, r, _ => by obtain ⟨a, _, rfl⟩ := r; rfl
  | .emp, _, r, _ => by obtain ⟨a, rfl, _⟩ := r; rfl
  | .tup _, _, r, _ => by obtain ⟨a, vs, rfl, _⟩ := r; rfl
  | .lst _, _, r, _ => by obtain ⟨a, vs, rfl, _⟩ := r; rfl
  | .ins _ _, _, r, _ => by obtain ⟨a, A, dx, vs, rfl, _⟩ := r; rfl
  | .exc _ _, _, r, _ => by obtain ⟨a, A, d, rfl, _⟩ := r; rfl
theorem op2_is : Op2 X C E (compareOp .Is) (oIs false) := by
  intro B pins s σ H x y v u Q I rx ry h
  obtain ⟨F, d, px, py, b, r1, r2, h⟩ := h
  unfold oIs at h
  split at h
  · split at h
    · cases r1; cases r2
      exact op_isN pins s σ H _ _ v u Q I rx ry ⟨rfl, by simpa using h.here b rfl⟩
    · rename_i hne
      cases r2
      exact op_isN pins s σ H _ _ v u Q I rx ry ⟨rfl, by rw [rep_non r1 hne]; exact h.here b rfl⟩
  · cases r1; cases r2
    exact op_is_bl pins s σ H _ _ v u Q I rx ry ⟨_, _, rfl, rfl, by have z := h.here b rfl; simpa [Bool.beq_eq_decide_eq] using z⟩
  · cases r1; cases r2
    rw [if_neg (by decide)] at h
    exact op_isTyB pins s σ H _ _ v u Q I rx ry ⟨_, _, rfl, rfl, h.here b rfl⟩
  · exact h.elim
theorem op2_isNot : Op2 X C E (compareOp .IsNot) (oIs true) := by
  intro B pins s σ H x y v u Q I rx ry h
  obtain ⟨F, d, px, py, b, r1, r2, h⟩ := h
  unfold oIs at h
  split at h
  · split at h
    · cases r1; cases r2
      exact op_notN pins s σ H _ _ v u Q I rx ry ⟨rfl, by simpa using h.here b rfl⟩
    · rename_i hne
      cases r2
      exact op_notN pins s σ H _ _ v u Q I rx ry ⟨rfl, by rw [rep_non r1 hne]; exact h.here b rfl⟩
  · cases r1; cases r2
    exact op_isnot_bl pins s σ H _ _ v u Q I rx ry ⟨_, _, rfl, rfl, by have z := h.here b rfl; simpa [Bool.beq_eq_decide_eq] using z⟩
  · rw [if_pos rfl] at h
    exact h.elim
  · exact h.elim

/-! ### built-ins -/
theorem bltR_of {f : Value} {g : PFn} (h : ∀ (B : Bp) (pins : List (Addr × Obj)) (s : Shared) (σ : L2.St) (F H : Hp) (d : DSt) (xs : List PV) (vs : List V) (us : List Value) (Q : VK), Inv X pins σ H s → Vals vs us → BG C B d F H → RepL C F xs vs → tK C B (E σ) (Rep C) ((g xs).r d) F H Q →
    wpAny (model X.prog X.w) X.A (call f us) (EP X pins σ Q) X.xe s) : BltR X C E f g := by
  intro B pins s σ H vs us Q I r h'
  obtain ⟨F, d, xs, b, rp, q⟩ := h'
  exact h B pins s σ F H d xs vs us Q I r b rp q
def fLen (t : OT) : PFn
  | [.str y] => if y.length < LIM then .ok (.int y.length) else .no
  | [.lst xs] => .ok (.int xs.length)
  | [.tup xs] => .ok (.int xs.length)
  | [.ins c xs] => oLn (own t c [.ins c xs])
  | _ => .no
theorem blt_len (hK : X.K = C.K) (hr : RmG (k + 1) X.A) (tk : Tk X E) (O : OwnT X C k "__len__" t) : BltR X C E (.builtin "len") (fLen t) := bltR_of fun B pins s σ F H d xs vs us Q I r b rp h => by
  unfold fLen at h
  split at h
  · obtain ⟨v, w, rfl, r1, r2⟩ := rp
    cases (show w = [] from r2)
    split at h
    · rename_i hl
      exact call_len pins s σ H _ us Q I r ⟨_, _, rfl, (by rw [show v = V.str _ from r1]; exact ⟨lim_le hl, rfl⟩), h.here b rfl⟩
    · exact h.elim
  · obtain ⟨v, w, rfl, ⟨a, ws, rfl, f1, q1⟩, r2⟩ := rp
    cases (show w = [] from r2)
    exact call_len pins s σ H _ us Q I r ⟨_, _, rfl, .inl ⟨ws, by rw [hK]; exact (SqX.mono b.fh f1).seq, q1.length⟩, h.here b rfl⟩
  · obtain ⟨v, w, rfl, ⟨a, ws, rfl, f1, q1⟩, r2⟩ := rp
    cases (show w = [] from r2)
    exact call_len pins s σ H _ us Q I r ⟨_, _, rfl, .inr ⟨ws, hK ▸ Same.sqT b.fh f1, q1.length⟩, h.here b rfl⟩
  · rename_i c xs
    obtain ⟨v, w, rfl, r1, r2⟩ := rp
    cases (show w = [] from r2)
    unfold own at h
    cases ef : t c with
    | none => rw [ef] at h; exact h.elim
    | some fn =>
      rw [ef] at h
      obtain ⟨A, f, eA, e1, e2, e3, e4, e5, e6, G⟩ := O.at_ c fn ef
      obtain ⟨a2, A2, dx2, vs2, rfl, z2, f2, l2, q2⟩ := id r1
      rw [eA] at z2; cases z2
      obtain ⟨u0, rfl, ru⟩ := vals1 r
      cases ru
      obtain ⟨od2, J2, _⟩ := inst_at I (b.fh _ _ f2)
      obtain ⟨m, fr⟩ := I.fr
      have h2 := tK.ln h
      refine PySem.W.len_K fr I.ok.mod.kin J2 e1 e2 (thn (run_spA (vs := [.ref a2]) G hr.in1 I.env0.in1 tk I (.cons rfl .nil) b (RepL.cons r1 RepL.nil) h2) fun u s' q => ?_)
      obtain ⟨z, H', I', rz, n, ez, h0, h1, q⟩ := q
      subst ez
      obtain ⟨tt, rfl⟩ := rz
      exact ⟨⟨h0, by omega⟩, .int n, H', I'.tok _, ⟨_, rfl⟩, q⟩
  · exact h.elim
def fMax : PFn
  | [.int i, .int j] => .ok (.int (if j > i then j else i))
  | _ => .no
def fMin : PFn
  | [.int i, .int j] => .ok (.int (if j < i then j else i))
  | _ => .no
def fInt : PFn
  | [.int i] => .ok (.int i)
  | [.bl b] => .ok (.int (if b then 1 else 0))
  | _ => .no
def fAbs : PFn
  | [.int i] => .ok (.int (if i < 0 then -i else i))
  | _ => .no
theorem blt_max (hc : X.calm = true) : BltR X C E (.builtin "max") fMax := bltR_of fun B pins s σ F H d xs vs us Q I r b rp h => by
  unfold fMax at h
  split at h
  · obtain ⟨v, w, rfl, r1, v2, w2, rfl, r2, r3⟩ := rp
    cases (show w2 = [] from r3)
    exact call_max2 hc pins s σ H _ us Q I r ⟨_, _, by rw [show v = V.int _ from r1, show v2 = V.int _ from r2], h.here b rfl⟩
  · exact h.elim
theorem blt_min (hc : X.calm = true) : BltR X C E (.builtin "min") fMin := bltR_of fun B pins s σ F H d xs vs us Q I r b rp h => by
  unfold fMin at h
  split at h
  · obtain ⟨v, w, rfl, r1, v2, w2, rfl, r2, r3⟩ := rp
    cases (show w2 = [] from r3)
    exact call_min2 hc pins s σ H _ us Q I r ⟨_, _, by rw [show v = V.int _ from r1, show v2 = V.int _ from r2], h.here b rfl⟩
  · exact h.elim
theorem blt_abs : BltR X C E (.builtin "abs") fAbs := bltR_of fun B pins s σ F H d xs vs us Q I r b rp h => by
  unfold fAbs at h
  split at h
  · obtain ⟨v, w, rfl, r1, r2⟩ := rp
    cases (show w = [] from r2)
    exact call_abs pins s σ H _ us Q I r ⟨_, by rw [show v = V.int _ from r1], h.here b rfl⟩
  · exact h.elim
theorem blt_int : BltR X C E (.type "int") fInt := bltR_of fun B pins s σ F H d xs vs us Q I r b rp h => by
  unfold fInt at h
  split at h
  · obtain ⟨v, w, rfl, r1, r2⟩ := rp
    cases (show w = [] from r2)
    exact call_int1 pins s σ H _ us Q I r (.inl ⟨_, by rw [show v = V.int _ from r1], h.here b rfl⟩)
  · obtain ⟨v, w, rfl, r1, r2⟩ := rp
    cases (show w = [] from r2)
    exact call_int1 pins s σ H _ us Q I r (.inr ⟨_, by rw [show v = V.bl _ from r1], h.here b rfl⟩)
  · exact h.elim
def fTuple : PFn
  | [.lst xs] => .ok (.tup xs)
  | [.tup xs] => .ok (.tup xs)
  | _ => .no
def fList : PFn
  | [.lst xs] => .ok (.lst xs)
  | [.tup xs] => .ok (.lst xs)
  | _ => .no
theorem blt_tuple (hK : X.K = C.K) : BltR X C E (.type "tuple") fTuple := bltR_of fun B pins s σ F H d xs vs us Q I r b rp h => by
  unfold fTuple at h
  split at h
  · obtain ⟨v, w, rfl, ⟨a, ws, rfl, f1, q1⟩, r2⟩ := rp
    cases (show w = [] from r2)
    exact call_tuple_of pins s σ H _ us Q I r ⟨a, ws, rfl, .inl ⟨by rw [hK]; exact (SqX.mono b.fh f1).seq, fun p hp => h.new b hp (rep_tup (b.F_none hp) q1)⟩⟩
  · obtain ⟨v, w, rfl, ⟨a, ws, rfl, f1, q1⟩, r2⟩ := rp
    cases (show w = [] from r2)
    exact call_tuple_of pins s σ H _ us Q I r ⟨a, ws, rfl, .inr ⟨hK ▸ Same.sqT b.fh f1, h.here b ⟨a, ws, rfl, f1, q1⟩⟩⟩
  · exact h.elim
theorem blt_list (hK : X.K = C.K) : BltR X C E (.type "list") fList := bltR_of fun B pins s σ F H d xs vs us Q I r b rp h => by
  unfold fList at h
  split at h
  · obtain ⟨v, w, rfl, ⟨a, ws, rfl, f1, q1⟩, r2⟩ := rp
    cases (show w = [] from r2)
    exact call_list_of pins s σ H _ us Q I r ⟨a, ws, rfl, .inl (by rw [hK]; exact (SqX.mono b.fh f1).seq), fun p hp => h.new b hp (rep_lst (b.F_none hp) q1)⟩
  · obtain ⟨v, w, rfl, ⟨a, ws, rfl, f1, q1⟩, r2⟩ := rp
    cases (show w = [] from r2)
    exact call_list_of pins s σ H _ us Q I r ⟨a, ws, rfl, .inr (hK ▸ Same.sqT b.fh f1), fun p hp => h.new b hp (rep_lst (b.F_none hp) q1)⟩
  · exact h.elim
/-- the truth values of a list -/
def bls : List PV → Option (List Bool)
  | [] => some []
  | .bl b :: xs => (bls xs).map (b :: ·)
  | _ => none
theorem bls_rep {C : Pl} {F : Hp} : ∀ {xs : List PV} {vs : List V} {bs : List Bool}, RepL C F xs vs → bls xs = some bs → vs = bs.map V.bl
  | [], _, _, r, e => by cases e; exact r
  | x :: xs, _, _, r, e => by
    obtain ⟨v, w, rfl, r1, r2⟩ := r
    cases x with
    | bl b =>
      have e' : (bls xs).map (b :: ·) = some _ := e
      cases q : bls xs with
      | none => rw [q] at e'; cases e'
      | some cs => rw [q] at e'; cases e'; rw [bls_rep r2 q]; cases r1; rfl
    | _ => cases e
def fAll : PFn
  | [.lst xs] => match bls xs with
    | some bs => .ok (.bl (bs.all id))
    | none => .no
  | _ => .no
def fAny : PFn
  | [.lst xs] => match bls xs with
    | some bs => .ok (.bl (bs.any id))
    | none => .no
  | _ => .no
theorem blt_all (hK : X.K = C.K) (hc : X.calm = true) : BltR X C E (.builtin "all") fAll := bltR_of fun B pins s σ F H d xs vs us Q I r b rp h => by
  unfold fAll at h
  split at h
  · obtain ⟨v, w, rfl, ⟨a, ws, rfl, f1, q1⟩, r2⟩ := rp
    cases (show w = [] from r2)
    split at h
    · rename_i bs e
      have ew := bls_rep q1 e
      subst ew
      exact cr_all hc pins s σ H _ us Q I r ⟨a, bs, rfl, by rw [hK]; exact (SqX.mono b.fh f1).seq, h.here b rfl⟩
    · exact h.elim
  · exact h.elim
theorem blt_any (hK : X.K = C.K) (hc : X.calm = true) : BltR X C E (.builtin "any") fAny := bltR_of fun B pins s σ F H d xs vs us Q I r b rp h => by
  unfold fAny at h
  split at h
  · obtain ⟨v, w, rfl, ⟨a, ws, rfl, f1, q1⟩, r2⟩ := rp
    cases (show w = [] from r2)
    split at h
    · rename_i bs e
      have ew := bls_rep q1 e
      subst ew
      exact cr_any hc pins s σ H _ us Q I r ⟨a, bs, rfl, by rw [hK]; exact (SqX.mono b.fh f1).seq, h.here b rfl⟩
    · exact h.elim
  · exact h.elim
/-- repr of data -/
def fRepr : PFn
  | [x] => match toD x with
    | some d => match d with
      | .list ds => if reprOk (.list ds) then .ok (.str (PyData.list ds).shown) else .no
      | .tuple ds => if reprOk (.tuple ds) then .ok (.str (PyData.tuple ds).shown) else .no
      | .int i => if i.natAbs < 1000000 then .ok (.str (toString i : String)) else .no
      | _ => .no
    | none => .no
  | _ => .no
where reprOk (d : PyData) : Bool := d.showable && decide (d.depth ≤ 60) && decide (d.shown.length < LIM)
mutual
theorem toD_noDict : ∀ (x : PV) (d : PyData), toD x = some d → d.hasDict = false
  | .non, _, e => by cases e; rfl
  | .bl b, _, e => by cases e; rfl
  | .int i, _, e => by cases e; rfl
  | .str x, _, e => by cases e; rfl
  | .lst xs, _, e => by
    have e' : (toDs xs).map PyData.list = some _ := e
    cases z : toDs xs with
    | none => rw [z] at e'; cases e'
    | some ds => rw [z] at e'; cases e'; exact toDs_noDict xs ds z
  | .tup xs, _, e => by
    have e' : (toDs xs).map PyData.tuple = some _ := e
    cases z : toDs xs with
    | none => rw [z] at e'; cases e'
    | some ds => rw [z] at e'; cases e'; exact toDs_noDict xs ds z
  | .ty _, _, e => by cases e
  | .gl _, _, e => by cases e
  | .emp, _, e => by cases e
  | .ins _ _, _, e => by cases e
  | .exc _ _, _, e => by cases e
theorem toDs_noDict : ∀ (xs : List PV) (ds : List PyData), toDs xs = some ds → PyData.hasDictAll ds = false
  | [], _, e => by cases e; rfl
  | x :: xs, _, e => by
    have e' : (match toD x, toDs xs with | some d, some ds => some (d :: ds) | _, _ => none) = some _ := e
    split at e'
    · rename_i d ds e1 e2
      cases e'
      show (d.hasDict || PyData.hasDictAll ds) = false
      rw [toD_noDict x d e1, toDs_noDict xs ds e2]; rfl
    · cases e'
end
theorem blt_repr (hK : X.K = C.K) (hr : RmG k X.A) : BltR X C E (.builtin "repr") fRepr := bltR_of fun B pins s σ F H d xs vs us Q I r b rp h => by
  have go : ∀ (x : PV) (v : V) (dd : PyData), toD x = some dd → (∃ a, v = .ref a) → fRepr.reprOk dd = true → vs = [v] → Rep C F x v → tK C B (E σ) (Rep C) (.ok (.str dd.shown) d) F H Q → wpAny (model X.prog X.w) X.A (call (.builtin "repr") us) (EP X pins σ Q) X.xe s := by
    intro x v dd e hv ok ev rx h
    subst ev
    obtain ⟨a, rfl⟩ := hv
    obtain ⟨u, rfl, ru⟩ := vals1 r
    have dp : Dp X.K H (.ref a) dd := hK ▸ rep_dp b.fh x _ dd rx e
    obtain ⟨as, rd⟩ := Dp.reads I dd _ u dp ru
    cases ru
    have ok' : (dd.showable = true ∧ dd.depth ≤ 60) ∧ dd.shown.length < LIM := by simpa [fRepr.reprOk, Bool.and_eq_true] using ok
    have hun := hr.r.un
    refine repr_of_reads' rd ok'.1.1 (PyData.noDict_hsm (toD_noDict x dd e)) hr.g (by have := ok'.1.2; omega) (fun _ _ q => q) (fun h' u tk hk => ?_) (lim_le ok'.2)
    exact ⟨.str dd.shown, H, I.kept hk, ⟨_, rfl⟩, h.here b rfl⟩
  unfold fRepr at h
  split at h
  · rename_i x
    obtain ⟨v, w, ev, r1, r2⟩ := rp
    cases (show w = [] from r2)
    split at h
    · rename_i dd e
      split at h
      · rename_i ds
        split at h
        · rename_i ok
          exact go x v _ e (by
            cases x <;> first | (obtain ⟨a, vs, rfl, _⟩ := r1; exact ⟨a, rfl⟩) | (cases e) | (simp [toD] at e)) ok ev r1 h
        · exact h.elim
      · rename_i ds
        split at h
        · rename_i ok
          exact go x v _ e (by
            cases x <;> first | (obtain ⟨a, vs, rfl, _⟩ := r1; exact ⟨a, rfl⟩) | (cases e) | (simp [toD] at e)) ok ev r1 h
        · exact h.elim
      · rename_i i
        split at h
        · rename_i hi
          have ex : x = .int i := by
            cases x <;> first | (cases e; rfl) | (cases e) | (simp [toD] at e)
          subst ex
          cases r1
          obtain ⟨u, rfl, ru⟩ := vals1 (by rw [ev] at r; exact r)
          have lg : i.natAbs.log2 < 1920 := by
            by_cases z : i.natAbs = 0
            · rw [z]; decide
            · exact Nat.lt_of_lt_of_le ((Nat.log2_lt z).mpr (Nat.lt_trans hi (by decide : 1000000 < 2 ^ 20))) (by decide)
          obtain ⟨t, rfl⟩ := ru
          exact PySem.P.repr_of_int lg ⟨.str _, H, I.tok _, ⟨_, rfl⟩, h.here b rfl⟩
        · exact h.elim
      · exact h.elim
    · exact h.elim
  · exact h.elim
end
end RL
end M_R8
section M_R9
namespace RL
open PySem PySem.Spec PyProof.Rows L2

section
variable {X : Cx} {C : Pl} {B : Bp} {E : XS} {k : Nat} {t : OT} {pos : Pos} {a e : Expr} {ma mi : EM}
/-! ### x[i] -/
def oIx (t : OT) : PV → PV → O
  | .lst xs, .int i => match (ixN xs.length i).bind fun j => xs[j]? with
    | some x => .ok x
    | none => .no
  | .tup xs, .int i => match (ixN xs.length i).bind fun j => xs[j]? with
    | some x => .ok x
    | none => .no
  | .str z, .int i => if z.length < LIM then (match atI z.cps.toList i with
    | some c => .ok (.str ⟨#[c]⟩)
    | none => .no) else .no
  | .ins c xs, y => own t c [.ins c xs, y]
  | _, _ => .no
theorem atI_rep {F : Hp} {xs : List PV} {vs : List V} {i : Int} {x : PV} (r : RepL C F xs vs) (e : (ixN xs.length i).bind (fun j => xs[j]?) = some x) : ∃ v, atI vs i = some v ∧ Rep C F x v := by
  rw [Option.bind_eq_some_iff] at e
  obtain ⟨j, e1, e2⟩ := e
  obtain ⟨v, e3, rv⟩ := r.get e2
  refine ⟨v, ?_, rv⟩
  unfold atI
  rw [← r.length, e1]
  exact e3
theorem re_ix (hK : X.K = C.K) (hr : RmG (k + 1) X.A) (tk : Tk X E) (O : OwnT X C k "__getitem__" t) (ha : RE X C B E a ma) (hi : RE X C B E e mi) (hp : PlainIx e)
    (hsl : ∀ v u, subscripted e true v u = runValue (.builtin "lifetime.subscript" ⟨[v, u], []⟩) := by intro _ _; with_unfolding_all rfl) : RE X C B E (.Subscript a e pos) (eBin (oIx t) ma mi) := by
  refine ⟨fun pins s σ H Q I h => ?_⟩
  obtain ⟨F, ρ, d, b, q⟩ := h.two
  refine Subscript_ (thn (ha.run pins s σ H _ I ⟨F, ρ, d, b, q⟩) fun v s1 ⟨x, H1, I1, r1, q1⟩ => ?_)
  refine thn (hi.run pins s1 σ H1 _ I1 q1) fun u s2 ⟨y, H2, I2, r2, q2⟩ => ?_
  obtain ⟨F2, ρ2, d2, px, py, b2, rx, ry, h2⟩ := q2
  have b2 := b2.g
  unfold oIx at h2
  split at h2
  · obtain ⟨p, vs, rfl, f1, q1⟩ := rx
    split at h2
    · rename_i x ex
      obtain ⟨w, ew, rw'⟩ := atI_rep q1 ex
      exact ix_list _ _ pins s2 σ H2 _ _ v u Q I2 r1 r2 ⟨p, vs, _, w, rfl, ry, by rw [hK]; exact (SqX.mono b2.fh f1).seq, ew, h2.here b2 rw'⟩ (hp _ _)
    · exact h2.elim
  · obtain ⟨p, vs, rfl, f1, q1⟩ := rx
    split at h2
    · rename_i x ex
      obtain ⟨w, ew, rw'⟩ := atI_rep q1 ex
      exact ix_tup _ _ pins s2 σ H2 _ _ v u Q I2 r1 r2 ⟨p, vs, _, w, rfl, ry, hK ▸ Same.sqT b2.fh f1, ew, h2.here b2 rw'⟩ (hp _ _)
    · exact h2.elim
  · split at h2
    · rename_i hl
      split at h2
      · rename_i c ec
        exact ix_str _ _ pins s2 σ H2 _ _ v u Q I2 r1 r2 ⟨_, _, c, rx, ry, lim_le hl, ec, h2.here b2 rfl⟩ (hp _ _)
      · exact h2.elim
    · exact h2.elim
  · obtain ⟨fn, ef, h2⟩ := own_get O h2
    obtain ⟨A, f, eA, e1, e2, e3, e4, e5, e6, G⟩ := O.at_ _ fn ef
    obtain ⟨p, A1, dx1, vs1, rfl, z1, f1, l1, q1⟩ := id rx
    rw [eA] at z1; cases z1
    cases r1
    obtain ⟨od, J, _⟩ := inst_at I2 (b2.fh _ _ f1)
    obtain ⟨m, fr⟩ := I2.fr
    exact PySem.W.sub_K fr I2.ok.mod.kin J e1 e3 e2 (run_spA (vs := [.ref p, y]) G hr.in1 I2.env0.in1 tk I2 (.cons rfl (.cons r2 .nil)) b2 (RepL.cons rx (RepL.cons ry RepL.nil)) h2) (hsl _ _)
  · exact h2.elim

/-! ### x[lo:hi] -/
abbrev PM := REnv → DSt → R (Option Int)
abbrev ROp (X : Cx) (C : Pl) (B : Bp) (E : XS) (e : Option Expr) (m : PM) : Prop := PO X e (tR C B E (fun _ (x y : Option Int) => x = y) m)
theorem PO.weak {e : Option Expr} {t t' : TO} (h : PO X e t) (w : ∀ σ H Q, t' σ H Q → t σ H Q) : PO X e t' := ⟨fun pins s σ H Q I q => h.run pins s σ H Q I (w σ H Q q)⟩
def pNone : PM := fun _ d => .ok none d
def pSome (m : EM) : PM := fun ρ d => (m ρ d).bind fun x d1 => match x with
  | .int i => .ok (some i) d1
  | _ => .no
theorem ro_none : ROp X C B E none pNone := PO.weak po_none fun σ H Q h => by
  obtain ⟨F, ρ, d, b, h⟩ := h
  exact tK.here b.g h rfl
theorem ro_some (ha : RE X C B E a ma) : ROp X C B E (some a) (pSome ma) := PO.weak (po_some ha) fun σ H Q h => by
  obtain ⟨F, ρ, d, b, h⟩ := h
  refine ⟨F, ρ, d, b, (tK.bind (Rp := Rep C) h).imp fun v H1 q => ?_⟩
  obtain ⟨F1, d1, x, b1, g1, r1, k1⟩ := q
  split at k1
  · exact ⟨_, r1, k1.here b1 rfl⟩
  · exact k1.elim
def cutP {α : Type} (xs : List α) (lo hi : Option Int) : List α := (xs.drop (HT.sIx xs.length 0 lo)).take (HT.sIx xs.length xs.length hi - HT.sIx xs.length 0 lo)
def oSl (lo hi : Option Int) : PV → O
  | .lst xs => .ok (.lst (cutP xs lo hi))
  | .tup xs => .ok (.tup (cutP xs lo hi))
  | _ => .no
def eSl (m : EM) (l h : PM) : EM := fun ρ d => (m ρ d).bind fun x d1 => (l ρ d1).bind fun lo d2 => (h ρ d2).bind fun hi d3 => (oSl lo hi x).r d3
theorem cutP_all {α : Type} {xs : List α} {lo hi : Option Int} (h : HT.sIx xs.length 0 lo = 0 ∧ HT.sIx xs.length xs.length hi = xs.length) : cutP xs lo hi = xs := by
  unfold cutP; rw [h.1, h.2]; simp
theorem cutP_rep {F : Hp} {xs : List PV} {vs : List V} {lo hi : Option Int} (r : RepL C F xs vs) : RepL C F (cutP xs lo hi) (cutV vs lo hi) := by
  unfold cutP cutV
  rw [r.length]
  exact (r.drop _).take _
theorem re_sl {lo hi : Option Expr} {ml mh : PM} {p2 : Pos} (hK : X.K = C.K) (ha : RE X C B E a ma) (hl : ROp X C B E lo ml) (hh : ROp X C B E hi mh) : RE X C B E (.Subscript a (.Slice lo hi none p2) pos) (eSl ma ml mh) := by
  refine PE.weak (pe_slice (sl_list.or sl_tupA) ha hl hh) fun σ H Q h => ?_
  obtain ⟨F, ρ, d, b0, h⟩ := h
  refine ⟨F, ρ, d, b0, (tK.bind (Rp := Rep C) h).imp fun v H1 q => ?_⟩
  obtain ⟨F1, d1, x, b1, g1, r1, k1⟩ := q
  refine ⟨F1, ρ, d1, b0.go b1 g1, (tK.bind (Rp := fun _ (x y : Option Int) => x = y) k1).imp fun l H2 q => ?_⟩
  obtain ⟨F2, d2, lo', b2, g2, r2, k2⟩ := q
  subst r2
  refine ⟨F2, ρ, d2, (b0.go b1 g1).go b2 g2, (tK.bind (Rp := fun _ (x y : Option Int) => x = y) k2).imp fun l2 H3 q => ?_⟩
  obtain ⟨F3, d3, hi', b3, g3, r3, k3⟩ := q
  subst r3
  have r1 := (r1.mono g2.s).mono g3.s
  unfold oSl at k3
  split at k3
  · obtain ⟨p, vs, rfl, f1, q1⟩ := r1
    exact .inl ⟨p, vs, rfl, by rw [hK]; exact (SqX.mono b3.fh f1).seq, fun q hq => k3.new b3 hq (rep_lst (b3.F_none hq) (cutP_rep q1))⟩
  · rename_i xs
    obtain ⟨p, vs, rfl, f1, q1⟩ := r1
    refine .inr ⟨p, vs, rfl, hK ▸ Same.sqT b3.fh f1, fun z => ?_, fun _ q hq => k3.new b3 hq (rep_tup (b3.F_none hq) (cutP_rep q1))⟩
    rw [← q1.length] at z
    rw [cutP_all z] at k3
    exact k3.here b3 ⟨p, vs, rfl, f1, q1⟩
  · exact k3.elim
/-! x[::-1] of a list -/
theorem rep_reverse {F : Hp} : ∀ {xs : List PV} {vs : List V}, RepL C F xs vs → RepL C F xs.reverse vs.reverse
  | [], _, r => by cases (show _ = [] from r); exact RepL.nil
  | x :: xs, _, r => by
    obtain ⟨v, w, rfl, r1, r2⟩ := r
    rw [List.reverse_cons, List.reverse_cons]
    exact (rep_reverse r2).append (RepL.cons r1 RepL.nil)

/-! ### range as an argument -/
theorem rng_rep {F : Hp} {a b : Int} : RepL C F (rng a (b - a).toNat) (rgV a b) := by
  unfold rng rgV
  have : ∀ l : List Nat, RepL C F (l.map fun (i : Nat) => PV.int (a + i)) (l.map fun (i : Nat) => V.int (a + i)) := by
    intro l
    induction l with
    | nil => exact RepL.nil
    | cons x l ih => exact RepL.cons rfl ih
  exact this _
def eRg1 (mk : List PV → PV) (m : EM) : EM := fun ρ d => (m ρ d).bind fun x d1 => match x with
  | .int n => if -4000 < n ∧ n < 4000 then .ok (mk (rng 0 (n - 0).toNat)) d1 else .no
  | _ => .no
def eRg2 (mk : List PV → PV) (m mb : EM) : EM := fun ρ d => (m ρ d).bind fun x d1 => (mb ρ d1).bind fun y d2 => match x, y with
  | .int i, .int j => if (-4000 < i ∧ i < 4000) ∧ -4000 < j ∧ j < 4000 ∧ (j - i).toNat < 4000 then .ok (mk (rng i (j - i).toNat)) d2 else .no
  | _, _ => .no
theorem re_tupRg1 {p p' pos' : Pos} (hc : X.calm = true) (ht : Gl X "tuple") (hmt : X.mg "tuple" = none) (hg : Gl X "range") (hm : X.mg "range" = none) (ha : RE X C B E a ma) (na : starEach [a] X.env = (false, eval a X.env) :: starEach [] X.env := by rfl)
    (na2 : starEach [.Call (.Name "range" p) [a] [] pos] X.env = (false, eval (.Call (.Name "range" p) [a] [] pos) X.env) :: starEach [] X.env := by rfl) : RE X C B E (.Call (.Name "tuple" p') [.Call (.Name "range" p) [a] [] pos] [] pos') (eRg1 .tup ma) := by
  refine PE.weak (pe_tupRg hc ht hmt (prg_1 hg hm ha na) na2) fun σ H Q h => ?_
  obtain ⟨F, ρ, d, b0, h⟩ := h
  refine ⟨F, ρ, d, b0, (tK.bind (Rp := Rep C) h).imp fun v H1 q => ?_⟩
  obtain ⟨F1, d1, x, b1, g1, r1, k1⟩ := q
  split at k1
  · rename_i n
    split at k1
    · rename_i hn
      exact ⟨n, r1, ⟨by omega, by omega, by omega, by omega, by omega⟩, fun q hq => k1.new b1 hq (rep_tup (b1.F_none hq) rng_rep)⟩
    · exact k1.elim
  · exact k1.elim
theorem re_lstRg1 {p p' pos' : Pos} (hc : X.calm = true) (ht : Gl X "list") (hmt : X.mg "list" = none) (hg : Gl X "range") (hm : X.mg "range" = none) (ha : RE X C B E a ma) (na : starEach [a] X.env = (false, eval a X.env) :: starEach [] X.env := by rfl)
    (na2 : starEach [.Call (.Name "range" p) [a] [] pos] X.env = (false, eval (.Call (.Name "range" p) [a] [] pos) X.env) :: starEach [] X.env := by rfl) : RE X C B E (.Call (.Name "list" p') [.Call (.Name "range" p) [a] [] pos] [] pos') (eRg1 .lst ma) := by
  refine PE.weak (pe_listRg hc ht hmt (prg_1 hg hm ha na) na2) fun σ H Q h => ?_
  obtain ⟨F, ρ, d, b0, h⟩ := h
  refine ⟨F, ρ, d, b0, (tK.bind (Rp := Rep C) h).imp fun v H1 q => ?_⟩
  obtain ⟨F1, d1, x, b1, g1, r1, k1⟩ := q
  split at k1
  · rename_i n
    split at k1
    · rename_i hn
      exact ⟨n, r1, ⟨by omega, by omega, by omega, by omega, by omega⟩, fun q hq => k1.new b1 hq (rep_lst (b1.F_none hq) rng_rep)⟩
    · exact k1.elim
  · exact k1.elim

/-! ### attributes -/
inductive AK where
  | prop (fn : PFn) | fld (i : Nat) | con (v : PV)
structure AttrT (X : Cx) (C : Pl) (k : Nat) (f : Str) (tb : Nat → Option AK) : Prop where
  prop : ∀ c fn, tb c = some (.prop fn) → ∃ A p g, C.ad c = some A ∧ Cls X.K A ∧ PropOf X.K A f p g ∧ FnG X.prog X.w X.K X.mg X.base k g (spX C fn)
  fld : ∀ c i, tb c = some (.fld i) → ∃ A, C.ad c = some A ∧ Cls X.K A ∧ NoAttr X.K A f ∧ (C.fl c)[i]? = some f ∧ (C.fl c).Nodup
  con : ∀ c v, tb c = some (.con v) → ∃ A w u, C.ad c = some A ∧ Cls X.K A ∧ Con X.K A f w u ∧ (∀ F, Rep C F v w) ∧ f ∉ C.fl c
def oAttr (tb : Nat → Option AK) : PV → O
  | .ins c xs => match tb c with
    | some (.prop fn) => match fn [.ins c xs] with
      | .ok y => .ok y
      | _ => .no
    | some (.fld i) => match xs[i]? with
      | some y => .ok y
      | none => .no
    | some (.con v) => .ok v
    | none => .no
  | _ => .no
theorem lookup_zip {N : List Str} {vs : List V} (hN : N.Nodup) : ∀ {i : Nat} {f : Str} {v : V}, N[i]? = some f → vs[i]? = some v → (N.zip vs).lookup f = some v := by
  induction N generalizing vs with
  | nil => intro i f v e; simp at e
  | cons n N ih =>
    intro i f v e1 e2
    cases vs with
    | nil => simp at e2
    | cons w vs =>
      cases i with
      | zero => simp at e1 e2; subst e1; subst e2; simp [List.zip_cons_cons, List.lookup]
      | succ i =>
        simp at e1 e2
        have hn := List.nodup_cons.mp hN
        have ne : (f == n) = false := beq_eq_false_iff_ne.mpr fun z => hn.1 (z ▸ List.mem_of_getElem? e1)
        rw [List.zip_cons_cons, List.lookup, ne]
        exact ih hn.2 e1 e2
theorem lookup_zip_none {N : List Str} {vs : List V} {f : Str} (h : f ∉ N) : (N.zip vs).lookup f = none := by
  induction N generalizing vs with
  | nil => simp [List.zip]
  | cons n N ih =>
    cases vs with
    | nil => simp [List.zip]
    | cons w vs =>
      have hn : f ≠ n ∧ f ∉ N := by simpa [List.mem_cons, not_or] using h
      have ne : (f == n) = false := beq_eq_false_iff_ne.mpr hn.1
      rw [List.zip_cons_cons, List.lookup, ne]
      exact ih hn.2
theorem re_attr {f : Str} {tb : Nat → Option AK} (hr : RmG (k + 1) X.A) (tk : Tk X E) (T : AttrT X C k f tb) (ha : RE X C B E a ma) (hb : attributeBase a f X.env (eval a X.env) = eval a X.env) : RE X C B E (.Attribute a f pos) (eUn (oAttr tb) ma) := by
  refine ⟨fun pins s σ H Q I h => ?_⟩
  obtain ⟨F, ρ, d, b0, h⟩ := h
  refine attr_of hb (thn (ha.run pins s σ H _ I ⟨F, ρ, d, b0, tK.bind (Rp := Rep C) h⟩) fun u s1 q => ?_)
  obtain ⟨x, H1, I1, rx, F1, d1, px, b1, g1, r1, k1⟩ := q
  unfold oAttr at k1
  split at k1
  · rename_i c xs
    obtain ⟨p, A, dx, vs, rfl, eA, f1, l1, q1⟩ := id r1
    cases rx
    have fH := b1.fh _ _ f1
    split at k1
    · rename_i fn ef
      obtain ⟨A', pp, g, eA', cl, hp, G⟩ := T.prop c fn ef
      rw [eA] at eA'; cases eA'
      obtain ⟨od, J, _⟩ := inst_at I1 fH
      obtain ⟨rest, hrec⟩ := hp.rec_
      have I2 := I1.tok (s1.toks + 1)
      have hcl : (PySem.W.clsIn X.K A).isSome = true := by
        obtain ⟨cd, hc, _⟩ := PySem.W.any_some cl.hd
        rw [hc]; rfl
      have k2 : tK C B (fun _ _ _ => False) (Rep C) ((fn [.ins c xs]).r d1) F1 H1 Q := by
        revert k1
        cases fn [.ins c xs] with
        | ok y => exact fun z => z
        | ex e => exact fun z => z.elim
        | no => exact fun z => z
      refine PySem.W.get_bind I1.kIn J (PySem.W.plainGet_of (cl.get f)).1 (PySem.W.findObj_data hcl hp.at_ hp.get hp.tak) (PySem.W.plainGet_of (cl.get f)).2 (wpAny_call (PySem.W.prop_get (s := { s1 with toks := s1.toks + 1 }) I1.kIn hrec ?_))
      have run := G X.A.in1 X.stack { s1 with toks := s1.toks + 1 } H1 [.ref p] [.ref p] Q (fun _ _ _ => False) hr.in1 I2.env0.in1 (.cons rfl .nil) (sp_tK b1 (RepL.cons r1 RepL.nil) k2)
      refine codeAny_mono run fun r s' hq => ?_
      cases r with
      | error er =>
        have z : False := by
          obtain ⟨_, _, _, _, _, _, _, _, _, _, _, _, z⟩ := hq
          exact z
        exact z.elim
      | ok fl =>
        cases fl with
        | ret u =>
          obtain ⟨v, H', I3, rv, q3⟩ := I2.after hq
          show wpAny _ _ (handedOut u) _ _ _
          rw [PySem.W.handedOut_of (handed_of rv)]
          exact wpAny_pure ⟨v, H', I3, rv, q3⟩
        | next => exact hq.elim
        | brk => exact hq.elim
        | cont => exact hq.elim
    · rename_i i ef
      obtain ⟨A', eA', cl, na, ei, nd⟩ := T.fld c i ef
      rw [eA] at eA'; cases eA'
      split at k1
      · rename_i y ey
        obtain ⟨v, ev, rv⟩ := fld_get q1 ey
        exact getattr_ok I1 fH cl na (lookup_zip nd ei ev) fun u' s2 I2 ru => ⟨v, H1, I2, ru, k1.here b1 rv⟩
      · exact k1.elim
    · rename_i v ef
      obtain ⟨A', w, u0, eA', cl, cn, rv, nf⟩ := T.con c v ef
      rw [eA] at eA'; cases eA'
      exact getcon_ok I1 fH cl cn (lookup_zip_none nf) fun s2 I2 => ⟨w, H1, I2, cn.rel, k1.here b1 (rv F1)⟩
    · exact k1.elim
  · exact k1.elim

/-! ### methods -/
structure MethT (X : Cx) (C : Pl) (k : Nat) (m : Str) (t : OT) : Prop where
  at_ : ∀ c fn, t c = some fn → ∃ A f, C.ad c = some A ∧ Cls X.K A ∧ Meth X.K A m f ∧ m ∉ C.fl c ∧ FnG X.prog X.w X.K X.mg X.base k f (spX C fn)
def eMeth (t : OT) (m : EM) (ms : AM) : EM := fun ρ d => (m ρ d).bind fun x d1 => match x with
  | .ins c ys => (match t c with
    | some fn => (ms ρ d1).bind fun xs d2 => (fn (.ins c ys :: xs)).r d2
    | none => .no)
  | _ => .no
theorem re_meth {pl : Sem Bool} {m : Str} {o : Expr} {es : List Expr} {ms : AM} {apos : Pos} (hr : RmG k X.A) (tk : Tk X E) (T : MethT X C k m t) (ho : RE X C B E o ma) (hs : RA X C B E (e :: es) ms)
    (hst : starEach (e :: es) X.env = (false, eval e X.env) :: starEach es X.env := by rfl) (hpl : (backTo pos (starEach es X.env)).any (·.1) = false := by rfl)
    (ht : eval (.Call (.Attribute o m apos) (e :: es) [] pos) X.env = (do
      let ov ← eval o X.env
      standAt apos.atName
      let (f, first) ← holding [ov] (getMethod ov m pl)
      callWith pos f first (backTo pos (starEach (e :: es) X.env)) (backToKw pos (keywordEach [] X.env))) := by rfl) :
    RE X C B E (.Call (.Attribute o m apos) (e :: es) [] pos) (eMeth t ma ms) := by
  refine ⟨fun pins s σ H Q I h => ?_⟩
  obtain ⟨F, ρ, d, b0, h⟩ := h
  refine PySem.W.methodCall_KW (pl := pl) (thn (ho.run pins s σ H _ I ⟨F, ρ, d, b0, tK.bind (Rp := Rep C) h⟩) fun u s1 q => ?_) ht
  obtain ⟨x, H1, I1, rx, F1, d1, px, b1, g1, r1, k1⟩ := q
  cases px with
  | ins c ys =>
    cases ef : t c with
    | none => simp only [ef] at k1; exact k1.elim
    | some fn =>
      simp only [ef] at k1
      obtain ⟨A, f, eA, cl, me, nf, G⟩ := T.at_ c fn ef
      obtain ⟨p, A', dx, vs, rfl, eA', f1, l1, q1⟩ := id r1
      rw [eA] at eA'; cases eA'
      cases rx
      refine getmeth_ok I1 (b1.fh _ _ f1) cl me (lookup_zip_none nf) ?_
      refine PySem.W.callWith_K (first := [.ref p]) (h₀ := X.base) I.ok.mod.kin me.kp (thn (hs.run pos pins s1 σ H1 _ I1 ⟨F1, ρ, d1, b0.go b1 g1, tK.bind (Rp := RepL C) k1⟩) fun us s2 q => ?_) hst hpl
      obtain ⟨ws, H2, I2, rw', F2, d2, xs, b2, g2, r2, k2⟩ := q
      refine ⟨I2.kIn, ?_⟩
      exact run_sp (vs := .ref p :: ws) G hr tk I2 (.cons rfl rw') b2 (RepL.cons (r1.mono g2.s) r2) k2
  | _ => exact k1.elim
end
end RL
end M_R9
section M_R10
namespace RL
open PySem PySem.Spec PyProof.Rows L2

/-! ### how a def binds -/
inductive Bk where
  | pl (dvs : List V) | st (n : Nat)
def Bk.G (b : Bk) (vs : List V) (H : Hp) (ws : List V) (H2 : Hp) : Prop := match b with
  | .pl dvs => ws = vs ++ dvs ∧ H2 = H
  | .st n => ∃ p, H p = none ∧ ws = vs.take n ++ [V.ref p] ∧ H2 = upd H p (.tup (vs.drop n))
def Bk.c (b : Bk) (np k : Nat) : Prop := match b with
  | .pl dvs => k + dvs.length = np
  | .st n => np = n + 1 ∧ n ≤ k ∧ k ≤ sizeLine
def BdOk (K : PySem.W.Frag) (fd : FuncData) (ps : List Str) (b : Bk) : Prop := ∀ {P : Program} {w : World} {mg : Str → Option Value} {base : Heap} {A : Around} {outer : List Env} {s : Shared} {H : Hp} {us : List Value} {vs : List V} {E : XK},
  Env0 P w K mg base A outer s H → Vals vs us → b.c ps.length vs.length → StX.Bnd (L2.CX P w) P w K mg base fd ⟨us, []⟩ ps A outer s H E (b.G vs H)
theorem bd_pl {K : PySem.W.Frag} {fd : FuncData} {ps : List Str} {ds : List Value} {dvs : List V} (bd : Binds K fd ps ds) (hd : Vals dvs ds) : BdOk K fd ps (.pl dvs) := by
  intro P w mg base A outer s H us vs E e0 r hc A' Ex Q' hq
  have r2 : Vals (vs ++ dvs) (us ++ ds) := r.append hd
  have hl : (vs ++ dvs).length = ps.length := by rw [List.length_append]; exact hc
  exact bd s us (e0.mod.kin.keeps fun b o e => (e0.bs b o e).1) (by rw [← r2.length]; exact hl) _ _ _ _ (hq s H (vs ++ dvs) (us ++ ds) e0 Un.refl rfl (fun _ _ z => z) r2 hl ⟨rfl, rfl⟩)
theorem bd_st {K : PySem.W.Frag} {fd : FuncData} {ps : List Str} {pv : Str}
    (hb : ∀ us rest : List Value, us.length = ps.length → bindArgs fd ⟨us ++ rest, []⟩ = (newTuple rest >>= fun t => pure (ps.zip us ++ [(pv, t)]))) : BdOk K fd (ps ++ [pv]) (.st ps.length) := by
  intro P w mg base A outer s H us vs E e0 r hc A' Ex Q' hq
  obtain ⟨_, h1, h2⟩ := hc
  have ev : vs = vs.take ps.length ++ vs.drop ps.length := (List.take_append_drop _ _).symm
  rw [ev] at r
  obtain ⟨u1, u2, rfl, r1, r2⟩ := StX.vals_split r
  have hn : H s.heap.objs.size = Option.none := e0.hok.fresh (Nat.le_refl _)
  have hl1 : u1.length = ps.length := by rw [← r1.length, List.length_take]; omega
  have hz : (vs.drop ps.length).length ≤ sizeLine := by rw [List.length_drop]; omega
  have hl2 : u2.length ≤ sizeLine := by rw [← r2.length]; exact hz
  rw [hb u1 u2 hl1]
  refine wpAny_bind (wpAny_newTuple (wpAny_pure ?_) hl2)
  have new : ObjOk P w (upd H s.heap.objs.size (.tup (vs.drop ps.length))) (s.heap.push ({ cls := .type "tuple", data := .seq u2.toArray } : Obj)) s.heap.objs.size (.tup (vs.drop ps.length)) := ⟨hz, u2, r2, ⟨_, Heap.get?_push_size _ rfl, rfl, _, rfl⟩⟩
  have un := StX.un_laid (fs := frs outer) (s := s) (o := ({ cls := .type "tuple", data := .seq u2.toArray } : Obj)) (u := .tup (vs.drop ps.length)) hn
  have z := hq _ _ (vs.take ps.length ++ [V.ref s.heap.objs.size]) (u1 ++ [Value.ref s.heap.objs.size]) (StX.env0_laid e0 new) un rfl (fun e s' => StX.cxUp outer s H _ _ E e s' un (fun b o q => Heap.get?_push_of_some _ q) rfl) (r1.append (.cons rfl .nil))
    (by rw [List.length_append, List.length_append, r1.length, hl1] <;> rfl) ⟨_, hn, rfl, rfl⟩
  rw [List.zip_append hl1.symm] at z
  exact z

/-- the same of plain values -/
inductive BkP where
  | pl (d : List PV) | st (n : Nat)
def BkP.b (b : BkP) (np : Nat) (xs : List PV) : Option (List PV) := match b with
  | .pl d => if xs.length + d.length = np then some (xs ++ d) else none
  | .st n => if np = n + 1 ∧ n ≤ xs.length ∧ xs.length < LIM then some (xs.take n ++ [.tup (xs.drop n)]) else none
/-- .. where the first one is the object that is being made -/
def BkP.bI (b : BkP) (np : Nat) (xs : List PV) : Option (List PV) := match b with
  | .pl d => if xs.length + 1 + d.length = np then some (xs ++ d) else none
  | .st n => if np = n + 1 ∧ 1 ≤ n ∧ n ≤ xs.length + 1 ∧ xs.length + 1 < LIM then some (xs.take (n - 1) ++ [.tup (xs.drop (n - 1))]) else none
def BkR (C : Pl) : Bk → BkP → Prop
  | .pl dvs, .pl dpv => ∀ F, RepL C F dpv dvs
  | .st n, .st m => n = m
  | _, _ => False
/-! ### a def by its body -/
def startG (ρ : List Sl) (nn : Nat) : REnv := ρ ++ List.replicate (nn - ρ.length) .un
def runB (nn : Nat) (m : SM) (ys : List PV) : O := (m (startG (ys.map .val) nn) default).o
def fnP (b : BkP) (np nn : Nat) (m : SM) : PFn := fun xs => match b.b np xs with
  | some ys => runB nn m ys
  | none => .no
def endI (c len : Nat) (ρ : REnv) : O := match (ρ[0]? : Option Sl) with
  | some (.obj c' zs) => if c' = c ∧ zs.length = len then .ok (.ins c zs) else .no
  | _ => .no
theorem endI_ok {c len : Nat} {ρ : REnv} {y : PV} (h : endI c len ρ = .ok y) : ∃ zs, ρ[0]? = some (.obj c zs) ∧ zs.length = len ∧ y = .ins c zs := by
  unfold endI at h
  split at h
  · rename_i c' zs e
    split at h
    · rename_i k
      cases h
      obtain ⟨rfl, k⟩ := k
      exact ⟨zs, e, k, rfl⟩
    · cases h
  · cases h
theorem endI_ex {c len : Nat} {ρ : REnv} {e : PX} (h : endI c len ρ = .ex e) : False := by
  unfold endI at h
  split at h
  · split at h <;> cases h
  · cases h
def runI (c : Nat) (len nn : Nat) (m : SM) (ys : List PV) : O := match m (startG (.obj c [] :: ys.map .val) nn) default with
  | .nx ρ _ => endI c len ρ
  | .ex e _ => .ex e
  | _ => .no
def fnI (b : BkP) (c len np nn : Nat) (m : SM) : PFn := fun xs => match b.bI np xs with
  | some ys => runI c len nn m ys
  | none => .no
/-- what the binding leaves: the ground of the values -/
theorem bk_rep {C : Pl} {F H : Hp} {b : Bk} {bp : BkP} {np : Nat} {xs ys : List PV} {vs ws : List V} {H2 : Hp} (hR : BkR C b bp) (fh : Same F H) (rp : RepL C F xs vs) (e : bp.b np xs = some ys) (g : b.G vs H ws H2) :
    b.c np vs.length ∧ ys.length = np ∧ ∃ F2, Grow C F H F2 H2 ∧ RepL C F2 ys ws := by
  have hl := rp.length
  cases b with
  | pl dvs => cases bp with
    | pl d =>
      simp only [BkP.b] at e; split at e
      · rename_i hc; cases e
        obtain ⟨rfl, rfl⟩ := g
        have hd := (hR F).length
        exact ⟨by show _ + _ = _; rw [← hl, ← hd]; exact hc, by rw [List.length_append]; exact hc, F, ⟨Sk.refl _ _, fh, Same.u (Same.refl _), fun a o q => .inl ⟨o, q⟩⟩, rp.append (hR F)⟩
      · cases e
    | st n => exact hR.elim
  | st n => cases bp with
    | pl d => exact hR.elim
    | st m =>
      cases hR
      simp only [BkP.b] at e; split at e
      · rename_i hc; cases e
        obtain ⟨p, hp, rfl, rfl⟩ := g
        have fp := fh.free hp
        refine ⟨⟨hc.1, by omega, by have := lim_le hc.2.2; omega⟩, by simp; omega, upd F p (.tup (vs.drop n)), ⟨Same.k (same_upd fp), fun b u e => ?_, Same.u (same_upd hp), fun a u e => ?_⟩, ((rp.take n).mono (Same.k (same_upd fp))).append ⟨_, _, rfl, rep_tup fp (rp.drop n), rfl⟩⟩
        · by_cases hb : b = p
          · subst hb; rw [upd_same] at e ⊢; exact e
          · rw [upd_ne hb] at e ⊢; exact fh _ _ e
        · by_cases hb : a = p
          · subst hb; exact .inr hp
          · rw [upd_ne hb] at e; exact .inl ⟨u, e⟩
      · cases e

theorem Grow.trans {C : Pl} {F H F1 H1 F2 H2 : Hp} (fh : Same F H) (g : Grow C F H F1 H1) (q : Grow C F1 H1 F2 H2) : Grow C F H F2 H2 :=
  ⟨g.s.trans q.s, q.f, fun a o f e => (g.h a o f e).trans fun o1 e1 => q.h a o1 (nn g.n f e) e1, fun a o e => by
    rcases q.n a o e with ⟨u, h⟩ | h
    · exact g.n a u h
    · cases e0 : H a with
      | none => exact .inr rfl
      | some u =>
        obtain ⟨o', e'⟩ := (Go.of (B := ⟨F, H, none, none, []⟩) fh g.s g.f g.h g.n).t a u e0
        rw [e'] at h; cases h⟩
theorem Grow.tb {C : Pl} {F H F' H' : Hp} (g : Grow C F H F' H') (t : TbOk C F H) : TbOk C F' H' := fun p hp => by
  obtain ⟨h1, h2⟩ := t p hp
  obtain ⟨ps, e, _⟩ := id h2
  exact ⟨nn g.n h1 e, (g.h _ _ h1 e).2 _ hp h2⟩
theorem start_len {ρ : List Sl} {nn : Nat} (h : ρ.length ≤ nn) : (startG ρ nn).length = nn := by simp [startG]; omega
theorem start_un {ρ : List Sl} {nn i : Nat} {sl : Sl} (hi : ρ.length ≤ i) (e : (startG ρ nn)[i]? = some sl) : sl = .un := by
  unfold startG at e
  rw [List.getElem?_append_right hi, List.getElem?_replicate] at e
  split at e
  · cases e; rfl
  · cases e
theorem BR.startV {C : Pl} {F H : Hp} {N : List Str} {xs : List PV} {vs : List V} (fh : Same F H) (tb : TbOk C F H) (rp : RepL C F xs vs) (hn : xs.length ≤ N.length) : BR C ⟨F, H, none, none, []⟩ (startG (xs.map .val) N.length) default (L2.start N vs) F H := by
  have z := BR.start (N := N) fh tb rp rfl hn
  have e : RL.startG (xs.map .val) N.length = start0 xs.length N.length xs := by simp [RL.startG, start0]
  rw [e]; exact z
section
variable {P : Program} {w : World} {K : PySem.W.Frag} {mg : Str → Option Value} {base : Heap} {C : Pl}
theorem def_fnC {x qual : Str} {st : Stmt} {f : Addr} {fd : FuncData} {N ps : List Str} {k : Nat} {m : SM} {b : Bk} {bp : BkP} (F : Fun K x qual st f fd) (S : FnScope N ps (defScope st)) (bd : BdOk K fd ps b) (hR : BkR C b bp)
    (hb : ∀ (cdv : Value), fd.code = cdv → ∀ (A : Around) (outer : List Env) (s : Shared) (H : Hp) (E : XK) (F0 : Hp), RmG k (A.deeper (envOfC qual (defScope st) s.heap.objs.size f cdv)) →
      RSs (cxOf (L2.CX P w) P w K mg base N qual (defScope st) f cdv A outer s H E) C ⟨F0, H, none, none, []⟩ (fun _ => E) (defBody st) m) :
    FnG P w K mg base (k + 1) f (spX C (fnP bp ps.length N.length m)) := by
  have hpl : ps.length ≤ N.length := by have := congrArg List.length S.pre; rw [List.length_take] at this; omega
  obtain ⟨oc, od, kV, doc, pm, an, cdv, ct, osl, rfl, lk, hcd⟩ := F.ex
  intro A outer s H us vs Q E hr e0 r h
  obtain ⟨F0, xs, fh, tb, rp, h⟩ := h
  cases eb : bp.b ps.length xs with
  | none => unfold fnP at h; simp only [eb] at h
  | some ys =>
    have hc : b.c ps.length vs.length := by
      cases b with
      | pl dvs => cases bp with
        | pl d =>
          simp only [BkP.b] at eb; split at eb
          · rename_i hc
            show _ + _ = _
            rw [← rp.length, ← (hR F0).length]; exact hc
          · cases eb
        | st n => exact hR.elim
      | st n => cases bp with
        | pl d => exact hR.elim
        | st m' =>
          cases hR
          simp only [BkP.b] at eb; split at eb
          · rename_i hc
            have := rp.length
            exact ⟨hc.1, by omega, by have := lim_le hc.2.2; omega⟩
          · cases eb
    refine StX.run_bnd lk hcd S hr.r e0 (bd e0 r hc) fun s2 H2 ws g hr2 => ?_
    obtain ⟨_, hl, F2, gr, r2⟩ := bk_rep hR fh rp eb g
    have hn : ys.length ≤ N.length := by omega
    refine ⟨_, hb cdv rfl A outer s2 H2 E F2 ⟨hr2, hr.g⟩, F2, _, default, BR.startV gr.f (gr.tb tb) r2 hn, ?_⟩
    unfold fnP runB at h
    simp only [eb] at h
    revert h
    cases m (startG (ys.map .val) N.length) default with
    | nx ρ' d' => exact fun h σ' F' H' b s' => h F' H' .non (gr.trans fh (BR.end_ (ρ := ρ') (σ := σ') b.g)) rfl
    | rt x d' => exact fun h ρ' σ' F' H' v b s' r => h F' H' v (gr.trans fh (BR.end_ (ρ := ρ') (σ := σ') b.g)) r
    | bk ρ' d' => exact fun h => h.elim
    | ct ρ' d' => exact fun h => h.elim
    | ex e d' => exact fun h _ F' H' cls dd b r => h F' H' cls dd (gr.trans fh (BR.end_ (ρ := []) (σ := []) b)) r
    | no => exact fun h => h

/-! ### the making of an object -/
structure GrowI (C : Pl) (x : Addr) (F H F' H' : Hp) : Prop where
  s : Sk C F F'
  f : Same F' H'
  h : ∀ a o, a ≠ x → F a = none → H a = some o → Kp C.tb H H' a o
  n : ∀ a o, F' a = some o → (∃ u, F a = some u) ∨ H a = none ∨ a = x
def spI (C : Pl) (c : Nat) (fn : PFn) : Sp := fun ws H Q E => ∃ x A dx vs F xs, ws = V.ref x :: vs ∧ C.ad c = some A ∧ H x = some (.ins A dx []) ∧ F x = none ∧ Same F H ∧ TbOk C F H ∧ RepL C F xs vs ∧ match fn xs with
  | .ok y => ∀ F' H', GrowI C x F H F' H' → Rep C F' y (.ref x) → Q .non H'
  | .ex e => ∀ F' H' cls d, GrowI C x F H F' H' → ExR C F' e cls d → E cls d H'
  | .no => False
theorem GrowI.pre {C : Pl} {x : Addr} {F H F1 H1 F2 H2 : Hp} (fh : Same F H) (g : Grow C F H F1 H1) (q : GrowI C x F1 H1 F2 H2) : GrowI C x F H F2 H2 :=
  ⟨g.s.trans q.s, q.f, fun a o n f e => (g.h a o f e).trans fun o1 e1 => q.h a o1 n (nn g.n f e) e1, fun a o e => by
    rcases q.n a o e with ⟨u, h⟩ | h | h
    · rcases g.n a u h with h | h
      · exact .inl h
      · exact .inr (.inl h)
    · cases e0 : H a with
      | none => exact .inr (.inl rfl)
      | some u =>
        obtain ⟨o', e'⟩ := (Go.of (B := ⟨F, H, none, none, []⟩) fh g.s g.f g.h g.n).t a u e0
        rw [e'] at h; cases h
    · exact .inr (.inr h)⟩
theorem BR.startI {F H : Hp} {N : List Str} {c : Nat} {x A dx : Addr} {ys : List PV} {ws : List V} (fh : Same F H) (tb : TbOk C F H) (rp : RepL C F ys ws) (hn : ys.length + 1 ≤ N.length) (ha : C.ad c = some A) (hx : H x = some (.ins A dx [])) (fx : F x = none) :
    BR C ⟨F, H, none, some x, []⟩ (startG (.obj c [] :: ys.map .val) N.length) default (L2.start N (.ref x :: ws)) F H where
  g := ⟨fh, Sk.refl C F, fun a o e => .inl ⟨o, e⟩, fun a o _ e _ => Kp.all (fun _ _ z => z) e, fun a g c e => (nomatch e), fun z => absurd rfl z, fun a e => by cases e; exact ⟨fx, _, hx⟩, tb⟩
  len := by
    have := rp.length
    simp [L2.start, RL.startG]; omega
  sl := by
    have hl2 := rp.length
    have hun : ∀ i sl, ys.length + 1 ≤ i → (startG (.obj c [] :: ys.map .val) N.length)[i]? = some sl → sl = .un := fun i sl hi e => start_un (by simpa using hi) e
    refine ⟨fun _ => x, fun i sl e => ?_, fun i j s t e1 e2 o1 o2 _ => ?_⟩
    · by_cases hi : ys.length + 1 ≤ i
      · cases hun i sl hi e; trivial
      · unfold RL.startG at e
        rw [List.getElem?_append_left (by simp; omega)] at e
        cases i with
        | zero =>
          cases e
          refine ⟨rfl, ⟨fx, .inr rfl, ?_⟩, A, dx, [], ha, ?_, by simp, rfl, rfl⟩
          · rintro ⟨p, hp, _⟩; cases hp
          · rw [List.zip_nil_right]; exact hx
        | succ j =>
          rw [List.getElem?_cons_succ, List.getElem?_map] at e
          cases q : ys[j]? with
          | none => rw [q] at e; cases e
          | some y =>
            rw [q] at e; cases e
            obtain ⟨v, hv, r⟩ := rp.get q
            refine ⟨v, ?_, r⟩
            unfold L2.start
            rw [List.getElem?_append_left (by simp; omega), List.getElem?_map, List.getElem?_cons_succ, hv]; rfl
    · have z : ∀ i (s : Sl), (startG (.obj c [] :: ys.map .val) N.length)[i]? = some s → s.isOwn = true → i = 0 := fun i s e o => by
        by_cases hi : ys.length + 1 ≤ i
        · cases hun i s hi e; cases o
        · unfold RL.startG at e
          rw [List.getElem?_append_left (by simp; omega)] at e
          cases i with
          | zero => rfl
          | succ j =>
            rw [List.getElem?_cons_succ, List.getElem?_map] at e
            cases q : ys[j]? with
            | none => rw [q] at e; cases e
            | some y => rw [q] at e; cases e; cases o
      rw [z i s e1 o1, z j t e2 o2]
theorem BG.endI {F0 H0 F H : Hp} {x : Addr} {d : DSt} (b : BG C ⟨F0, H0, none, some x, []⟩ d F H) : GrowI C x F0 H0 F H :=
  ⟨b.f0, b.fh, fun a o n z e => b.od a o z e (by
    intro m
    rcases m with ⟨p, hp, _⟩ | hp
    · cases hp
    · cases hp; exact n rfl), fun a o e => by
      rcases b.nw a o e with h | h
      · exact .inl h
      · exact .inr (.inl h)⟩
/-- the object is made: from now on it is a value -/
theorem BR.endI {F0 H0 F H : Hp} {x : Addr} {d : DSt} {ρ : REnv} {σ : L2.St} {c : Nat} {zs : List PV} (b : BR C ⟨F0, H0, none, some x, []⟩ ρ d σ F H) (hk : ∀ A, C.ad c = some A → C.kp A = none) (e : ρ[0]? = some (.obj c zs)) (hl : zs.length = (C.fl c).length) :
    ∃ F', GrowI C x F0 H0 F' H ∧ Rep C F' (.ins c zs) (.ref x) := by
  obtain ⟨ad, h1, _⟩ := b.sl
  obtain ⟨_, w, A, dx, vs, k0, k1, kl, k2, k3⟩ := h1 0 _ e
  cases k3
  have fx : F (ad 0) = none := w.1
  have s : Sk C F (upd F (ad 0) (.ins A dx ((C.fl c).zip vs))) := Same.k (same_upd fx)
  refine ⟨upd F (ad 0) (.ins A dx ((C.fl c).zip vs)), ⟨b.g.f0.trans s, fun a u q => ?_, b.g.endI.h, fun a u q => ?_⟩, ad 0, A, dx, vs, rfl, k0, upd_same, by rw [← k2.length]; exact hl, by rw [hk A k0]; exact k2.mono s⟩
  · by_cases hb : a = ad 0
    · subst hb; rw [upd_same] at q; rw [k1]; exact q
    · rw [upd_ne hb] at q; exact b.g.fh _ _ q
  · by_cases hb : a = ad 0
    · exact .inr (.inr hb)
    · rw [upd_ne hb] at q; exact b.g.endI.n a u q
theorem def_ini {x qual : Str} {st : Stmt} {f : Addr} {fd : FuncData} {N ps : List Str} {k c : Nat} {m : SM} {b : Bk} {bp : BkP} (F : Fun K x qual st f fd) (S : FnScope N ps (defScope st)) (bd : BdOk K fd ps b) (hR : BkR C b bp) (hk : ∀ A, C.ad c = some A → C.kp A = none)
    (hb : ∀ (cdv : Value) (A : Around) (outer : List Env) (s : Shared) (H : Hp) (E : XK) (F0 : Hp) (x : Addr), RmG k (A.deeper (envOfC qual (defScope st) s.heap.objs.size f cdv)) →
      RSs (cxOf (L2.CX P w) P w K mg base N qual (defScope st) f cdv A outer s H E) C ⟨F0, H, none, some x, []⟩ (fun _ => E) (defBody st) m) :
    FnG P w K mg base (k + 1) f (spI C c (fnI bp c (C.fl c).length ps.length N.length m)) := by
  have hpl : ps.length ≤ N.length := by have := congrArg List.length S.pre; rw [List.length_take] at this; omega
  obtain ⟨oc, od, kV, doc, pm, an, cdv, ct, osl, rfl, lk, hcd⟩ := F.ex
  intro A outer s H us vs0 Q E hr e0 r h
  obtain ⟨x, A', dx, vs, F0, xs, rfl, ha, hx, fx, fh, tb, rp, h⟩ := h
  cases eb : bp.bI ps.length xs with
  | none => unfold fnI at h; simp only [eb] at h
  | some ys =>
    have hxs := rp.length
    have hl : ys.length + 1 = ps.length ∧ b.c ps.length (V.ref x :: vs).length ∧ ∀ ws H2, b.G (V.ref x :: vs) H ws H2 → ∃ ws', ws = .ref x :: ws' ∧ ∃ F2, Grow C F0 H F2 H2 ∧ F2 x = none ∧ RepL C F2 ys ws' := by
      cases b with
      | pl dvs => cases bp with
        | pl d =>
          simp only [BkP.bI] at eb; split at eb
          · rename_i hc
            cases eb
            have hd := (hR F0).length
            refine ⟨by rw [List.length_append]; omega, by show _ + _ = _; rw [← hd, List.length_cons, ← hxs]; exact hc, fun ws H2 g => ?_⟩
            obtain ⟨rfl, rfl⟩ := g
            exact ⟨vs ++ dvs, rfl, F0, ⟨Sk.refl _ _, fh, Same.u (Same.refl _), fun a o q => .inl ⟨o, q⟩⟩, fx, rp.append (hR F0)⟩
          · cases eb
        | st n => exact hR.elim
      | st n => cases bp with
        | pl d => exact hR.elim
        | st m' =>
          cases hR
          simp only [BkP.bI] at eb; split at eb
          · rename_i hc
            cases eb
            obtain ⟨n, rfl⟩ : ∃ j, n = j + 1 := ⟨n - 1, by omega⟩
            refine ⟨by simp; omega, ⟨hc.1, by rw [List.length_cons, ← hxs]; exact hc.2.2.1, by have := lim_le hc.2.2.2; rw [List.length_cons, ← hxs]; omega⟩, fun ws H2 g => ?_⟩
            obtain ⟨p, hp, rfl, rfl⟩ := g
            have fp := fh.free hp
            have hpx : x ≠ p := fun z => by subst z; rw [hx] at hp; cases hp
            simp only [Nat.add_sub_cancel]
            refine ⟨vs.take n ++ [.ref p], rfl, upd F0 p (.tup (vs.drop n)), ⟨Same.k (same_upd fp), fun b u e => ?_, Same.u (same_upd hp), fun a u e => ?_⟩, by rw [upd_ne hpx]; exact fx, ((rp.take n).mono (Same.k (same_upd fp))).append ⟨_, _, rfl, rep_tup fp (rp.drop n), rfl⟩⟩
            · by_cases hb : b = p
              · subst hb; rw [upd_same] at e; simp only [List.drop_succ_cons]; rw [upd_same]; exact e
              · rw [upd_ne hb] at e ⊢; exact fh _ _ e
            · by_cases hb : a = p
              · subst hb; exact .inr hp
              · rw [upd_ne hb] at e; exact .inl ⟨u, e⟩
          · cases eb
    obtain ⟨hl, hc, hg⟩ := hl
    refine StX.run_bnd lk hcd S hr.r e0 (bd e0 r hc) fun s2 H2 ws g hr2 => ?_
    obtain ⟨ws', rfl, F2, gr, fx2, r2⟩ := hg ws H2 g
    have hn : ys.length + 1 ≤ N.length := by omega
    refine ⟨_, hb cdv A outer s2 H2 E F2 x ⟨hr2, hr.g⟩, F2, _, default, BR.startI gr.f (gr.tb tb) r2 hn ha (gr.h _ _ fx hx) fx2, ?_⟩
    unfold fnI runI at h
    simp only [eb] at h
    revert h
    cases m (startG (.obj c [] :: ys.map .val) N.length) default with
    | nx ρ' d' =>
      cases q : endI c (C.fl c).length ρ' with
      | ok y =>
        obtain ⟨zs, ez, hz, rfl⟩ := endI_ok q
        simp only [q]
        exact fun h σ' F' H' b s' => by
          obtain ⟨F3, g3, r3⟩ := b.endI hk ez hz
          exact h F3 H' (g3.pre fh gr) r3
      | ex e => exact (endI_ex q).elim
      | no => simp only [q]; exact fun h => h.elim
    | rt x d' => exact fun h => h.elim
    | bk ρ' d' => exact fun h => h.elim
    | ct ρ' d' => exact fun h => h.elim
    | ex e d' => exact fun h _ F' H' cls dd b r => h F' H' cls dd (b.endI.pre fh gr) r
    | no => exact fun h => h
theorem def_fn {x qual : Str} {st : Stmt} {f : Addr} {fd : FuncData} {N ps : List Str} {k : Nat} {m : SM} {b : Bk} {bp : BkP} (F : Fun K x qual st f fd) (S : FnScope N ps (defScope st)) (bd : BdOk K fd ps b) (hR : BkR C b bp)
    (hb : ∀ (cdv : Value) (A : Around) (outer : List Env) (s : Shared) (H : Hp) (E : XK) (F0 : Hp), RmG k (A.deeper (envOfC qual (defScope st) s.heap.objs.size f cdv)) →
      RSs (cxOf (L2.CX P w) P w K mg base N qual (defScope st) f cdv A outer s H E) C ⟨F0, H, none, none, []⟩ (fun _ => E) (defBody st) m) :
    FnG P w K mg base (k + 1) f (spX C (fnP bp ps.length N.length m)) :=
  def_fnC F S bd hR fun cdv _ => hb cdv
end
end RL
end M_R10
section M_R11
namespace RL
open PySem PySem.Spec PyProof.Rows L2

/-! ### what a value does when it is called -/
def RunC (X : Cx) (C : Pl) (E : XS) (v : Value) (fn : PFn) : Prop := ∀ {B : Bp} {d : DSt} {σ : L2.St} {F H : Hp} {pins : List (Addr × Obj)} {s : Shared} {Q : VK} {us : List Value} {vs : List V} {xs : List PV},
  Inv X pins σ H s → Vals vs us → BG C B d F H → RepL C F xs vs → tK C B (E σ) (Rep C) ((fn xs).r d) F H Q → wpAny (model X.prog X.w) X.A (call v us) (EP X pins σ Q) X.xe s
section
variable {X : Cx} {C : Pl} {E : XS} {k c : Nat} {f A : Addr} {fn : PFn}
theorem runC_def (G : FnG X.prog X.w X.K X.mg X.base k f (spX C fn)) (hr : RmG k X.A) (tk : Tk X E) : RunC X C E (.ref f) fn := fun I r b rp h => run_sp G hr tk I r b rp h
theorem runC_mk (M : Mk X.K A f) (ha : C.ad c = some A) (G : FnG X.prog X.w X.K X.mg X.base k f (spI C c fn)) (hr : RmG (k + 1) X.A) (tk : Tk X E) : RunC X C E (.ref A) fn := by
  intro B d σ F H pins s Q us vs xs I r b rp h
  have n1 : H (s.heap.objs.size + 1) = Option.none := I.hok.fresh (Nat.le_succ _)
  have n2 : H s.heap.objs.size = Option.none := I.hok.fresh (Nat.le_refl _)
  have ne : s.heap.objs.size ≠ s.heap.objs.size + 1 := Nat.ne_of_lt (Nat.lt_succ_self _)
  have I2 := Inv.made (C := A) I
  have r2 : Vals (V.ref (s.heap.objs.size + 1) :: vs) (Value.ref (s.heap.objs.size + 1) :: us) := .cons rfl r
  have keep : ∀ a o, H a = some o → a ≠ s.heap.objs.size + 1 ∧ (upd (upd H s.heap.objs.size (.own (s.heap.objs.size + 1))) (s.heap.objs.size + 1) (.ins A s.heap.objs.size [])) a = some o := fun a o e => by
    have h1 : a ≠ s.heap.objs.size + 1 := fun z => by rw [z, n1] at e; cases e
    have h2 : a ≠ s.heap.objs.size := fun z => by rw [z, n2] at e; cases e
    exact ⟨h1, by rw [upd_ne h1, upd_ne h2]; exact e⟩
  have gr : ∀ {F' H' : Hp}, GrowI C (s.heap.objs.size + 1) F (upd (upd H s.heap.objs.size (.own (s.heap.objs.size + 1))) (s.heap.objs.size + 1) (.ins A s.heap.objs.size [])) F' H' → Grow C F H F' H' := fun {F' H'} g => ⟨g.s, g.f, fun a o f e => (Kp.all (fun c u z => (keep c u z).2) e).trans fun o1 e1 => g.h a o1 (keep a o e).1 f e1, fun a o e => by
    rcases g.n a o e with q | q | q
    · exact .inl q
    · cases e0 : H a with
      | none => exact .inr rfl
      | some u => rw [(keep a u e0).2] at q; cases q
    · subst q; exact .inr n1⟩
  have hq : spI C c fn (V.ref (s.heap.objs.size + 1) :: vs) (upd (upd H s.heap.objs.size (.own (s.heap.objs.size + 1))) (s.heap.objs.size + 1) (.ins A s.heap.objs.size [])) (fun v H2 => v = .non ∧ Q (.ref (s.heap.objs.size + 1)) H2) (E σ) := by
    refine ⟨_, A, s.heap.objs.size, vs, F, xs, rfl, ha, upd_same, b.fh.free n1, fun a o e => (keep a o (b.fh a o e)).2, fun p hp => ⟨(b.tb p hp).1, (b.tb p hp).2.ext fun c u z => (keep c u z).2⟩, rp, ?_⟩
    revert h
    cases fn xs with
    | ok y => exact fun h F' H' g rv => ⟨rfl, h F' H' _ (b.grow (gr g).s (gr g).f (gr g).h (gr g).n) (.of b.fh (gr g).s (gr g).f (gr g).h (gr g).n) rv⟩
    | ex e => exact fun h F' H' cls dd g rv => h F' H' cls dd (b.grow (gr g).s (gr g).f (gr g).h (gr g).n) (.of b.fh (gr g).s (gr g).f (gr g).h (gr g).n) rv
    | no => exact fun h => h
  refine wpAny_call (make_map (f := f) I.kIn M.makes M.init (beq_iff_eq.mp M.fn) (codeAny_mono (G _ X.stack _ _ (Value.ref (s.heap.objs.size + 1) :: us) _ _ (E σ) (hr.make A us []) (I2.env0.make A us []) r2 hq) fun r s' hq' => ?_))
  cases r with
  | error e => exact tk e s' (XE.of_call I2 (fun _ _ _ h => h) hq')
  | ok fl =>
    cases fl with
    | ret u =>
      obtain ⟨v, H', I3, rv, ev, q3⟩ := I2.after hq'
      subst ev
      exact ⟨rv, ⟨V.ref (s.heap.objs.size + 1), H', I3, rfl, q3⟩⟩
    | next => exact False.elim hq'
    | brk => exact False.elim hq'
    | cont => exact False.elim hq'
end
/-- the classes that a value may be, called -/
structure GlT (X : Cx) (C : Pl) (E : XS) (t : OT) : Prop where
  at_ : ∀ c fn, t c = some fn → ∃ a, C.ad c = some a ∧ PySem.W.keepIn X.K (.ref a) = true ∧ RunC X C E (.ref a) fn
/-- the classes whose instances may be called -/
structure CalT (X : Cx) (C : Pl) (k : Nat) (t : OT) : Prop where
  at_ : ∀ c fn, t c = some fn → ∃ A g, C.ad c = some A ∧ StX.CallO X.K A g ∧ FnG X.prog X.w X.K X.mg X.base k g (spX C fn)
section
variable {X : Cx} {C : Pl} {B : Bp} {E : XS} {k : Nat} {pos apos p sp_ : Pos} {e o fe : Expr} {es : List Expr} {me mf mo : EM} {ms : AM} {fn : PFn} {f : Addr} {x m : Str} {t tg ti : OT}
/-! ### calls of what a global name means -/
theorem re_g1 (hc : RunC X C E (.ref f) fn) (hg : Gl X x) (hm : X.mg x = some (.ref f)) (hk : PySem.W.keepIn X.K (.ref f) = true)
    (ha : RA X C B E (e :: es) ms) (hdb : (x == ("__debug__" : Str)) = false := by decide) (he : starEach (e :: es) X.env = (false, eval e X.env) :: starEach es X.env := by rfl) (hpl : (backTo pos (starEach es X.env)).any (·.1) = false := by rfl) :
    RE X C B E (.Call (.Name x p) (e :: es) [] pos) (eCall fn ms) := by
  refine ⟨fun pins s σ H Q I h => ?_⟩
  refine wpAny_Call_Name_kw (ld_glob I hg hm ?_ hdb)
  refine PySem.W.callWith_K (h₀ := X.base) I.ok.mod.kin hk (thn (ha.run pos pins s σ H _ I h.call) fun us s1 ⟨vs, H1, I1, r, q⟩ => ⟨I1.kIn, ?_⟩) he hpl
  obtain ⟨F1, d1, xs, b1, r1, k1⟩ := q
  exact hc I1 r b1 r1 k1
theorem re_g0 (hc : RunC X C E (.ref f) fn) (hg : Gl X x) (hm : X.mg x = some (.ref f)) (hk : PySem.W.keepIn X.K (.ref f) = true) (hdb : (x == ("__debug__" : Str)) = false := by decide) :
    RE X C B E (.Call (.Name x p) [] [] pos) (eCall fn aNil) := by
  refine ⟨fun pins s σ H Q I h => ?_⟩
  refine wpAny_Call_Name_kw (ld_glob I hg hm ?_ hdb)
  obtain ⟨F, ρ, d, b0, h⟩ := h
  exact PySem.W.callWith_K0 I.kIn hk (hc (us := []) I .nil b0.g RepL.nil h)
/-- f(e, .., *y) -/
theorem re_gS2 (hc : RunC X C E (.ref f) fn) (hg : Gl X x) (hm : X.mg x = some (.ref f)) (hk : PySem.W.keepIn X.K (.ref f) = true)
    (ha : RA X C B E (e :: es) ms) (hdb : (x == ("__debug__" : Str)) = false := by decide) (he : starEach (e :: es) X.env = (false, eval e X.env) :: starEach es X.env := by rfl) (hst : (backTo pos (starEach es X.env)).any (·.1) = true := by rfl) :
    RE X C B E (.Call (.Name x p) (e :: es) [] pos) (eCall fn ms) := by
  refine ⟨fun pins s σ H Q I h => ?_⟩
  refine wpAny_Call_Name_kw (ld_glob I hg hm ?_ hdb)
  refine PySem.W.callWith_S2 (h₀ := X.base) I.ok.mod.kin hk (thn (ha.run pos pins s σ H _ I h.call) fun us s1 ⟨vs, H1, I1, r, q⟩ => ⟨I1.kIn, ?_⟩) he hst
  obtain ⟨F1, d1, xs, b1, r1, k1⟩ := q
  exact hc I1 r b1 r1 k1
/-- the items of a tuple or a list, as arguments -/
def aItems (m : EM) : AM := fun ρ d => (m ρ d).bind fun x d1 => match x with
  | .tup xs => .ok xs d1
  | .lst xs => .ok xs d1
  | _ => .no
theorem tK.items (hK : X.K = C.K) {F : Hp} {H : Hp} {d : DSt} {ρ : REnv} {Q : List V → Hp → Prop} (h : tK C B (E σ) (RepL C) (aItems me ρ d) F H Q) :
    tK C B (E σ) (Rep C) (me ρ d) F H fun v H1 => ∃ a vs, v = V.ref a ∧ (SqT X.K H1 a vs ∨ SqL X.K H1 a vs) ∧ Q vs H1 := by
  refine (tK.bind (Rp := Rep C) h).imp fun v H1 q => ?_
  obtain ⟨F1, d1, x, b1, g1, r1, k1⟩ := q
  cases x with
  | tup xs =>
    obtain ⟨a, vs, rfl, h1, h2⟩ := r1
    exact ⟨a, vs, rfl, .inl (by rw [hK]; exact Same.sqT b1.fh h1), k1.here b1 h2⟩
  | lst xs =>
    obtain ⟨a, vs, rfl, h1, h2⟩ := r1
    exact ⟨a, vs, rfl, .inr (by rw [hK]; exact (SqX.mono b1.fh h1).seq), k1.here b1 h2⟩
  | _ => exact k1.elim
/-- f(*y) -/
theorem re_gS (hK : X.K = C.K) (hc : RunC X C E (.ref f) fn) (hg : Gl X x) (hm : X.mg x = some (.ref f)) (hk : PySem.W.keepIn X.K (.ref f) = true)
    (ha : RE X C B E e me) (hdb : (x == ("__debug__" : Str)) = false := by decide) (hst : starEach [.Starred e sp_] X.env = [(true, eval e X.env)] := by rfl) :
    RE X C B E (.Call (.Name x p) [.Starred e sp_] [] pos) (eCall fn (aItems me)) := by
  refine ⟨fun pins s σ H Q I h => ?_⟩
  obtain ⟨F, ρ, d, b0, h⟩ := h.call
  refine wpAny_Call_Name_kw (ld_glob I hg hm ?_ hdb)
  refine PySem.W.callWith_S (h₀ := X.base) I.ok.mod.kin hk (thn (ha.run pins s σ H _ I ⟨F, ρ, d, b0, h.items hK⟩) fun v s1 ⟨y, H1, I1, ry, a, vs, ey, hxs, q⟩ => ?_) hst
  subst ey
  obtain rfl : v = Value.ref a := ry
  refine StX.star_any I1 hxs fun us s2 I2 rv => ⟨I2.kIn, ?_⟩
  obtain ⟨F1, d1, xs, b1, r1, k1⟩ := q
  exact hc I2 rv b1 r1 k1
/-! ### calls of what an expression gives: a class, an instance -/
def eVal (tg ti : OT) (me : EM) (ms : AM) : EM := fun ρ d => (me ρ d).bind fun x d1 => match x with
  | .gl c => (match tg c with
    | some fn => (ms ρ d1).bind fun xs d2 => (fn xs).r d2
    | none => .no)
  | .ins c ys => (match ti c with
    | some fn => (ms ρ d1).bind fun xs d2 => (fn (.ins c ys :: xs)).r d2
    | none => .no)
  | _ => .no
theorem re_val (hr : RmG k X.A) (tk : Tk X E) (Tg : GlT X C E tg) (Ti : CalT X C k ti) (hf : RE X C B E fe mf) (ha : RA X C B E (e :: es) ms)
    (ht : eval (.Call fe (e :: es) [] pos) X.env = (do callWith pos (← eval fe X.env) [] (backTo pos (starEach (e :: es) X.env)) (backToKw pos (keywordEach [] X.env))) := by rfl)
    (he : starEach (e :: es) X.env = (false, eval e X.env) :: starEach es X.env := by rfl) (hpl : (backTo pos (starEach es X.env)).any (·.1) = false := by rfl) : RE X C B E (.Call fe (e :: es) [] pos) (eVal tg ti mf ms) := by
  refine ⟨fun pins s σ H Q I h => ?_⟩
  obtain ⟨F, ρ, d, b0, h⟩ := h
  refine Call_ (thn (hf.run pins s σ H _ I ⟨F, ρ, d, b0, tK.bind (Rp := Rep C) h⟩) fun u s1 q => ?_) ht
  obtain ⟨y, H1, I1, ry, F1, d1, x, b1, g1, r1, k1⟩ := q
  cases x with
  | gl c =>
    cases ef : tg c with
    | none => simp only [ef] at k1; exact k1.elim
    | some fn =>
      simp only [ef] at k1
      obtain ⟨a, ea, hk, hc⟩ := Tg.at_ c fn ef
      obtain ⟨a', ea', rfl⟩ := r1
      rw [ea] at ea'; cases ea'
      cases ry
      refine PySem.W.callWith_K (h₀ := X.base) I1.ok.mod.kin hk (thn (ha.run pos pins s1 σ H1 _ I1 ⟨F1, ρ, d1, b0.go b1 g1, tK.bind (Rp := RepL C) k1⟩) fun us s2 q => ?_) he hpl
      obtain ⟨vs, H2, I2, r, F2, d2, xs, b2, g2, r2, k2⟩ := q
      exact ⟨I2.kIn, hc I2 r b2 r2 k2⟩
  | ins c ys =>
    cases ef : ti c with
    | none => simp only [ef] at k1; exact k1.elim
    | some fn =>
      simp only [ef] at k1
      obtain ⟨A, g, eA, co, G⟩ := Ti.at_ c fn ef
      obtain ⟨q0, A', dx, vs, rfl, eA', f1, l1, q1⟩ := id r1
      rw [eA] at eA'; cases eA'
      cases ry
      refine StX.callO_with (thn (ha.run pos pins s1 σ H1 _ I1 ⟨F1, ρ, d1, b0.go b1 g1, tK.bind (Rp := RepL C) k1⟩) fun us s2 q => ?_) he hpl
      obtain ⟨ws, H2, I2, rw', F2, d2, xs, b2, g2, r2, k2⟩ := q
      obtain ⟨q1', A1, dx1, vs1, eq1, eA1, f2, _⟩ := r1.mono g2.s
      cases eq1
      rw [eA] at eA1; cases eA1
      have hi : H2 q0 = some (.ins A dx1 ((C.fl c).zip vs1)) := b2.fh _ _ f2
      obtain ⟨ox, od, J, hd⟩ := StX.insC_at I2 (.inr ⟨dx1, _, hi⟩)
      refine ⟨⟨A, ox, od, J, hd⟩, ?_⟩
      exact wpAny_call (PySem.W.kco_code I2.kIn J hd co.at_ co.fn co.fi (run_spc (us := .ref q0 :: us) (vs := .ref q0 :: ws) G hr tk I2 (.cons rfl rw') b2 (RepL.cons (r1.mono g2.s) r2) k2))
  | _ => exact k1.elim
/-- c(*y), c a class that an expression gives -/
def eValC (tg : OT) (me : EM) (ms : AM) : EM := fun ρ d => (me ρ d).bind fun x d1 => match x with
  | .gl c => (match tg c with
    | some fn => (ms ρ d1).bind fun xs d2 => (fn xs).r d2
    | none => .no)
  | _ => .no
theorem re_valS (hK : X.K = C.K) (Tg : GlT X C E tg) (hf : RE X C B E fe mf) (ha : RE X C B E e me)
    (ht : eval (.Call fe [.Starred e sp_] [] pos) X.env = (do callWith pos (← eval fe X.env) [] (backTo pos (starEach [.Starred e sp_] X.env)) (backToKw pos (keywordEach [] X.env))) := by rfl)
    (hst : starEach [.Starred e sp_] X.env = [(true, eval e X.env)] := by rfl) : RE X C B E (.Call fe [.Starred e sp_] [] pos) (eValC tg mf (aItems me)) := by
  refine ⟨fun pins s σ H Q I h => ?_⟩
  obtain ⟨F, ρ, d, b0, h⟩ := h
  refine Call_ (thn (hf.run pins s σ H _ I ⟨F, ρ, d, b0, tK.bind (Rp := Rep C) h⟩) fun u s1 q => ?_) ht
  obtain ⟨y, H1, I1, ry, F1, d1, x, b1, g1, r1, k1⟩ := q
  cases x with
  | gl c =>
    cases ef : tg c with
    | none => simp only [ef] at k1; exact k1.elim
    | some fn =>
      simp only [ef] at k1
      obtain ⟨a, ea, hk, hc⟩ := Tg.at_ c fn ef
      obtain ⟨a', ea', rfl⟩ := r1
      rw [ea] at ea'; cases ea'
      cases ry
      refine PySem.W.callWith_S (h₀ := X.base) I1.ok.mod.kin hk (thn (ha.run pins s1 σ H1 _ I1 ⟨F1, ρ, d1, b0.go b1 g1, (tK.bind (Rp := RepL C) k1).items hK⟩) fun v s2 ⟨y, H2, I2, ry, a, vs, ey, hxs, q⟩ => ?_) hst
      subst ey
      obtain rfl : v = Value.ref a := ry
      refine StX.star_any I2 hxs fun us s3 I3 rv => ⟨I3.kIn, ?_⟩
      obtain ⟨F2, d2, xs, b2, g2, r2, k2⟩ := q
      exact hc I3 rv b2 r2 k2
  | _ => exact k1.elim
theorem re_valS2 (Tg : GlT X C E tg) (hf : RE X C B E fe mf) (ha : RA X C B E (e :: es) ms)
    (ht : eval (.Call fe (e :: es) [] pos) X.env = (do callWith pos (← eval fe X.env) [] (backTo pos (starEach (e :: es) X.env)) (backToKw pos (keywordEach [] X.env))) := by rfl)
    (he : starEach (e :: es) X.env = (false, eval e X.env) :: starEach es X.env := by rfl) (hst : (backTo pos (starEach es X.env)).any (·.1) = true := by rfl) : RE X C B E (.Call fe (e :: es) [] pos) (eValC tg mf ms) := by
  refine ⟨fun pins s σ H Q I h => ?_⟩
  obtain ⟨F, ρ, d, b0, h⟩ := h
  refine Call_ (thn (hf.run pins s σ H _ I ⟨F, ρ, d, b0, tK.bind (Rp := Rep C) h⟩) fun u s1 q => ?_) ht
  obtain ⟨y, H1, I1, ry, F1, d1, x, b1, g1, r1, k1⟩ := q
  cases x with
  | gl c =>
    cases ef : tg c with
    | none => simp only [ef] at k1; exact k1.elim
    | some fn =>
      simp only [ef] at k1
      obtain ⟨a, ea, hk, hc⟩ := Tg.at_ c fn ef
      obtain ⟨a', ea', rfl⟩ := r1
      rw [ea] at ea'; cases ea'
      cases ry
      refine PySem.W.callWith_S2 (h₀ := X.base) I1.ok.mod.kin hk (thn (ha.run pos pins s1 σ H1 _ I1 ⟨F1, ρ, d1, b0.go b1 g1, tK.bind (Rp := RepL C) k1⟩) fun us s2 q => ?_) he hst
      obtain ⟨vs, H2, I2, r, F2, d2, xs, b2, g2, r2, k2⟩ := q
      exact ⟨I2.kIn, hc I2 r b2 r2 k2⟩
  | _ => exact k1.elim
/-! ### methods without arguments, classmethods, constants of a class -/
theorem re_meth0 {pl : Sem Bool} (hr : RmG k X.A) (tk : Tk X E) (T : MethT X C k m t) (ho : RE X C B E o mo)
    (ht : eval (.Call (.Attribute o m apos) [] [] pos) X.env = (do
      let ov ← eval o X.env
      standAt apos.atName
      let (f, first) ← holding [ov] (getMethod ov m pl)
      callWith pos f first (backTo pos (starEach [] X.env)) (backToKw pos (keywordEach [] X.env))) := by rfl) :
    RE X C B E (.Call (.Attribute o m apos) [] [] pos) (eMeth t mo aNil) := by
  refine ⟨fun pins s σ H Q I h => ?_⟩
  obtain ⟨F, ρ, d, b0, h⟩ := h
  refine PySem.W.methodCall_KW (pl := pl) (thn (ho.run pins s σ H _ I ⟨F, ρ, d, b0, tK.bind (Rp := Rep C) h⟩) fun u s1 q => ?_) ht
  obtain ⟨x, H1, I1, rx, F1, d1, px, b1, g1, r1, k1⟩ := q
  cases px with
  | ins c ys =>
    cases ef : t c with
    | none => simp only [ef] at k1; exact k1.elim
    | some fn =>
      simp only [ef] at k1
      obtain ⟨A, f, eA, cl, me, nf, G⟩ := T.at_ c fn ef
      obtain ⟨p, A', dx, vs, rfl, eA', f1, l1, q1⟩ := id r1
      rw [eA] at eA'; cases eA'
      cases rx
      refine getmeth_ok I1 (b1.fh _ _ f1) cl me (lookup_zip_none nf) ?_
      exact PySem.W.callWith_K0 (first := [.ref p]) I1.kIn me.kp (run_sp (us := [.ref p]) (vs := [.ref p]) G hr tk I1 (.cons rfl .nil) b1 (RepL.cons r1 RepL.nil) k1)
  | _ => exact k1.elim
/-- classmethods, read off the class -/
structure CmT (X : Cx) (C : Pl) (k : Nat) (m : Str) (t : OT) : Prop where
  at_ : ∀ c fn, t c = some fn → ∃ A mc p g, C.ad c = some A ∧ ClX.CRead X.K A mc ∧ ClX.CMet X.K A mc m p g ∧ FnG X.prog X.w X.K X.mg X.base k g (spX C fn)
def eCm (t : OT) (m : EM) (ms : AM) : EM := fun ρ d => (m ρ d).bind fun x d1 => match x with
  | .gl c => (match t c with
    | some fn => (ms ρ d1).bind fun xs d2 => (fn (.gl c :: xs)).r d2
    | none => .no)
  | _ => .no
theorem re_cm {pl : Sem Bool} (hr : RmG k X.A) (tk : Tk X E) (T : CmT X C k m t) (ho : RE X C B E o mo) (hs : RA X C B E (e :: es) ms)
    (hst : starEach (e :: es) X.env = (false, eval e X.env) :: starEach es X.env := by rfl) (hpl : (backTo pos (starEach es X.env)).any (·.1) = false := by rfl)
    (ht : eval (.Call (.Attribute o m apos) (e :: es) [] pos) X.env = (do
      let ov ← eval o X.env
      standAt apos.atName
      let (f, first) ← holding [ov] (getMethod ov m pl)
      callWith pos f first (backTo pos (starEach (e :: es) X.env)) (backToKw pos (keywordEach [] X.env))) := by rfl) :
    RE X C B E (.Call (.Attribute o m apos) (e :: es) [] pos) (eCm t mo ms) := by
  refine ⟨fun pins s σ H Q I h => ?_⟩
  obtain ⟨F, ρ, d, b0, h⟩ := h
  refine PySem.W.methodCall_KW (pl := pl) (thn (ho.run pins s σ H _ I ⟨F, ρ, d, b0, tK.bind (Rp := Rep C) h⟩) fun u s1 q => ?_) ht
  obtain ⟨x, H1, I1, rx, F1, d1, px, b1, g1, r1, k1⟩ := q
  cases px with
  | gl c =>
    cases ef : t c with
    | none => simp only [ef] at k1; exact k1.elim
    | some fn =>
      simp only [ef] at k1
      obtain ⟨A, mc, q0, g, eA, cr, cm, G⟩ := T.at_ c fn ef
      obtain ⟨A', eA', rfl⟩ := id r1
      rw [eA] at eA'; cases eA'
      cases rx
      refine ClX.getmethcm_ok I1 cr cm fun s2 I2 => ?_
      refine ClX.callwith_cm I2 (ClX.base_none I1 (Nat.le_refl _)) cm.fi (thn (hs.run pos _ s2 σ H1 _ I2 ⟨F1, ρ, d1, b0.go b1 g1, tK.bind (Rp := RepL C) k1⟩) fun us s3 q => ?_) hst hpl
      obtain ⟨vs, H2, I3, rv, F2, d2, xs, b2, g2, r2, k2⟩ := q
      refine ⟨⟨ClX.pin_at I3, I3.kIn⟩, ?_⟩
      have z : wpAny (model X.prog X.w) X.A (call (.ref s1.heap.objs.size) us) (EP X ((s1.heap.objs.size, PySem.W.methodObj (.ref g) (.ref A)) :: pins) σ Q) X.xe s3 :=
        wpAny_call (PySem.W.method_call (ClX.pin_at I3) (run_spc (us := .ref A :: us) (vs := .ref A :: vs) G hr tk I3 (.cons rfl rv) b2 (RepL.cons (r1.mono g2.s) r2) k2))
      exact thn z fun _ _ y => ClX.unpinE y
  | _ => exact k1.elim
/-- .. read off an instance of the class -/
structure CiT (X : Cx) (C : Pl) (k : Nat) (m : Str) (t : OT) : Prop where
  at_ : ∀ c fn, t c = some fn → ∃ A p g, C.ad c = some A ∧ ClX.CInst X.K A m p g ∧ m ∉ C.fl c ∧ FnG X.prog X.w X.K X.mg X.base k g (spX C fn)
/-- a constant of a class -/
structure CcT (X : Cx) (C : Pl) (f : Str) (t : Nat → Option PV) : Prop where
  at_ : ∀ c y, t c = some y → ∃ A mc v u, C.ad c = some A ∧ ClX.CRead X.K A mc ∧ ClX.CVal X.K A mc f v u ∧ ∀ F, Rep C F y v
def eCc (t : Nat → Option PV) (m : EM) : EM := fun ρ d => (m ρ d).bind fun x d1 => match x with
  | .gl c => (match t c with
    | some y => .ok y d1
    | none => .no)
  | _ => .no
theorem re_cc {f : Str} {t : Nat → Option PV} (T : CcT X C f t) (ho : RE X C B E o mo) (hb : attributeBase o f X.env (eval o X.env) = eval o X.env := by rfl) : RE X C B E (.Attribute o f pos) (eCc t mo) := by
  refine ⟨fun pins s σ H Q I h => ?_⟩
  obtain ⟨F, ρ, d, b0, h⟩ := h
  refine attr_of hb (thn (ho.run pins s σ H _ I ⟨F, ρ, d, b0, tK.bind (Rp := Rep C) h⟩) fun u s1 q => ?_)
  obtain ⟨x, H1, I1, rx, F1, d1, px, b1, g1, r1, k1⟩ := q
  cases px with
  | gl c =>
    cases ef : t c with
    | none => simp only [ef] at k1; exact k1.elim
    | some y =>
      simp only [ef] at k1
      obtain ⟨A, mc, v, w, eA, cr, cv, rv⟩ := T.at_ c y ef
      obtain ⟨A', eA', rfl⟩ := id r1
      rw [eA] at eA'; cases eA'
      cases rx
      exact ClX.getcval_ok I1 cr cv fun s2 I2 => ⟨v, H1, I2, cv.rel, k1.here b1 (rv F1)⟩
  | _ => exact k1.elim
end
end RL
end M_R11
section M_R12
namespace RL
open PySem PySem.Spec PyProof.Rows L2

section
variable {X : Cx} {C : Pl} {B : Bp} {E : XS} {k : Nat} {t : OT}
/-! ### type(x) -/
/-- what stands at a global address: a class, a def -/
structure GkT (X : Cx) (C : Pl) (gk : Nat → Option String) : Prop where
  at_ : ∀ c n, gk c = some n → ∃ a o, C.ad c = some a ∧ X.K.lookup a = some o ∧ o.cls = .type n ∧ (n == "type" || n == "function") = true
def fType (gk : Nat → Option String) : PFn
  | [.non] => .ok (.ty "NoneType")
  | [.bl _] => .ok (.ty "bool")
  | [.int _] => .ok (.ty "int")
  | [.str _] => .ok (.ty "str")
  | [.tup _] => .ok (.ty "tuple")
  | [.lst _] => .ok (.ty "list")
  | [.emp] => .ok (.ty "dict")
  | [.ins c _] => .ok (.gl c)
  | [.gl c] => (match gk c with
    | some n => .ok (.ty n)
    | none => .no)
  | _ => .no
theorem type_at {pins : List (Addr × Obj)} {σ : L2.St} {H : Hp} {s : Shared} {a : Addr} {o : Obj} {Q : Value → Shared → Prop} (he : s.heap.get? a = some o) (hnb : (o.cls == .type "builtin_function_or_method") = false) (h : Q o.cls s) :
    wpAny (model X.prog X.w) X.A (call (.type "type") [.ref a]) Q X.xe s := by
  obtain ⟨hh, g, d, tt, os⟩ := s
  exact PyProof.Rows.call_type_obj he hnb h
theorem blt_type (hK : X.K = C.K) {gk : Nat → Option String} (T : GkT X C gk) : BltR X C E (.type "type") (fType gk) := bltR_of fun B pins s σ F H d xs vs us Q I r b rp h => by
  unfold fType at h
  split at h
  · obtain ⟨v, w, rfl, r1, r2⟩ := rp
    cases (show w = [] from r2); cases r1
    obtain ⟨u, rfl, ru⟩ := vals1 r
    cases ru
    exact call_type_of (typeIs_none s) (by decide +kernel) ⟨.ty _, H, I, rfl, h.here b rfl⟩
  · obtain ⟨v, w, rfl, r1, r2⟩ := rp
    cases (show w = [] from r2); cases r1
    obtain ⟨u, rfl, ru⟩ := vals1 r
    cases ru
    exact call_type_of (PySem.typeIs_bool s _) (by decide +kernel) ⟨.ty _, H, I, rfl, h.here b rfl⟩
  · obtain ⟨v, w, rfl, r1, r2⟩ := rp
    cases (show w = [] from r2); cases r1
    obtain ⟨u, rfl, ru⟩ := vals1 r
    obtain ⟨tt, rfl⟩ := ru
    exact call_type_of (typeIs_int s _ _) (by decide +kernel) ⟨.ty _, H, I, rfl, h.here b rfl⟩
  · obtain ⟨v, w, rfl, r1, r2⟩ := rp
    cases (show w = [] from r2); cases r1
    obtain ⟨u, rfl, ru⟩ := vals1 r
    obtain ⟨tt, rfl⟩ := ru
    exact call_type_of (typeIs_str s _ _) (by decide +kernel) ⟨.ty _, H, I, rfl, h.here b rfl⟩
  · obtain ⟨v, w, rfl, ⟨a, ws, rfl, f1, q1⟩, r2⟩ := rp
    cases (show w = [] from r2)
    obtain ⟨u, rfl, ru⟩ := vals1 r
    cases ru
    obtain ⟨its, rv, ⟨o, h1, h2, _⟩, hz⟩ := I.tuple (hK ▸ Same.sqT b.fh f1)
    exact call_type_of ⟨o, h1, h2⟩ (by decide +kernel) ⟨.ty _, H, I, rfl, h.here b rfl⟩
  · obtain ⟨v, w, rfl, ⟨a, ws, rfl, f1, q1⟩, r2⟩ := rp
    cases (show w = [] from r2)
    obtain ⟨u, rfl, ru⟩ := vals1 r
    cases ru
    obtain ⟨its, rv, p, _⟩ := I.list (by rw [hK]; exact (SqX.mono b.fh f1).seq)
    exact call_type_of p.isList.typeIs (by decide +kernel) ⟨.ty _, H, I, rfl, h.here b rfl⟩
  · obtain ⟨v, w, rfl, ⟨a, rfl, f1⟩, r2⟩ := rp
    cases (show w = [] from r2)
    obtain ⟨u, rfl, ru⟩ := vals1 r
    cases ru
    obtain ⟨_, _, vs, _, p⟩ := (show ObjOk X.prog X.w H s.heap a (.dK []) from I.hok a _ (b.fh _ _ f1))
    exact call_type_of p.typeIs (by decide +kernel) ⟨.ty _, H, I, rfl, h.here b rfl⟩
  · obtain ⟨v, w, rfl, ⟨a, A, dx, vs, rfl, eA, f1, l1, q1⟩, r2⟩ := rp
    cases (show w = [] from r2)
    obtain ⟨u, rfl, ru⟩ := vals1 r
    cases ru
    obtain ⟨od, J, _⟩ := inst_at I (b.fh _ _ f1)
    refine type_at (pins := pins) (σ := σ) (H := H) J.at_ (by rw [J.cls]; rfl) ⟨.ref A, H, I, ?_, h.here b ⟨A, eA, rfl⟩⟩
    rw [J.cls]; exact rfl
  · split at h
    · rename_i c n ef
      obtain ⟨v, w, rfl, ⟨a, eA, rfl⟩, r2⟩ := rp
      cases (show w = [] from r2)
      obtain ⟨u, rfl, ru⟩ := vals1 r
      cases ru
      obtain ⟨a', o, eA', lk, ec, hn⟩ := T.at_ _ _ ef
      rw [eA] at eA'; cases eA'
      refine type_at (pins := pins) (σ := σ) (H := H) (I.kIn a o lk) ?_ ⟨.ty n, H, I, ?_, h.here b rfl⟩
      · rw [ec]
        rw [ty_beq]
        simp only [Bool.or_eq_true, beq_iff_eq] at hn
        rcases hn with rfl | rfl <;> decide
      · rw [ec]; exact rfl
    · exact h.elim
  · exact h.elim
/-! ### is -/
def oIs2 (neg : Bool) : PV → PV → O
  | .ty a, .ty b => .ok (.bl (xor neg (decide (a = b))))
  | .gl _, .ty _ => .ok (.bl neg)
  | x, y => oIs neg x y
theorem op2_is2 : Op2 X C E (compareOp .Is) (oIs2 false) := by
  intro B pins s σ H x y v u Q I rx ry h
  obtain ⟨F, d, px, py, b, r1, r2, h⟩ := h
  unfold oIs2 at h
  split at h
  · cases r1; cases r2
    exact op_isTyB pins s σ H _ _ v u Q I rx ry ⟨_, _, rfl, rfl, by have z := h.here b rfl; simpa using z⟩
  · obtain ⟨a, _, rfl⟩ := r1
    cases r2; cases rx; cases ry
    exact wpAny_is_other rfl (fun z => nomatch z) ⟨.bl false, H, I, rfl, h.here b rfl⟩
  · exact op2_is B pins s σ H x y v u Q I rx ry ⟨F, d, _, _, b, r1, r2, h⟩
theorem op2_isNot2 : Op2 X C E (compareOp .IsNot) (oIs2 true) := by
  intro B pins s σ H x y v u Q I rx ry h
  obtain ⟨F, d, px, py, b, r1, r2, h⟩ := h
  unfold oIs2 at h
  split at h
  · cases r1; cases r2
    exact op_isNotTy pins s σ H _ _ v u Q I rx ry ⟨_, _, rfl, rfl, by have z := h.here b rfl; simpa using z⟩
  · obtain ⟨a, _, rfl⟩ := r1
    cases r2; cases rx; cases ry
    exact wpAny_isNot_other rfl (fun z => nomatch z) ⟨.bl true, H, I, rfl, h.here b rfl⟩
  · exact op2_isNot B pins s σ H x y v u Q I rx ry ⟨F, d, _, _, b, r1, r2, h⟩

/-! ### isinstance -/
inductive PT where
  | bi (n : String) | own (c : Nat) | exo (c : Nat)
def pty : PV → Option PT
  | .non => some (.bi "NoneType") | .bl _ => some (.bi "bool") | .int _ => some (.bi "int") | .str _ => some (.bi "str")
  | .tup _ => some (.bi "tuple") | .lst _ => some (.bi "list") | .emp => some (.bi "dict") | .ins c _ => some (.own c) | .exc c _ => some (.exo c) | _ => none
structure IsiT (X : Cx) (C : Pl) (ib : PT → Nat → Option Bool) : Prop where
  at_ : ∀ p c b, ib p c = some b → ∃ A, C.ad c = some A ∧ match p with
    | .bi n => PySem.W.kitOne X.K (.type n) (.ref A) = some b
    | .own c' => ∃ A', C.ad c' = some A' ∧ PySem.W.kitOne X.K (.ref A') (.ref A) = some b ∧ Cls X.K A' ∧ PySem.W.findIn X.K (.ref A') "__class__" = some (some (.builtin "object.__class__")) ∧
      PySem.W.specialIn X.K (.builtin "object.__class__") "__get__" = some (some (.builtin "getset_descriptor.__get__")) ∧ PySem.W.takesIn X.K (.builtin "object.__class__") = some true ∧ PySem.W.mroIn X.K A' (.type "object") = some true
    | .exo c' => ∃ A', C.ad c' = some A' ∧ PySem.W.kitOne X.K (.ref A') (.ref A) = some b ∧ ExcC X.K A'
/-- two built-in types: whether the first is within the second -/
def kitT (a b : String) : Option Bool := if a = b then (if b = "tuple" ∨ b = "list" ∨ b = "int" ∨ b = "str" ∨ b = "bool" ∨ b = "dict" then some true else none)
  else if a = "bool" ∧ b = "int" then some true
  else if (a = "NoneType" ∨ a = "bool" ∨ a = "int" ∨ a = "str" ∨ a = "tuple" ∨ a = "list" ∨ a = "dict") ∧ (b = "tuple" ∨ b = "list" ∨ b = "int" ∨ b = "str" ∨ b = "bool" ∨ b = "dict") then some false else none
theorem kitT_ok {a b : String} {r : Bool} (h : kitT a b = some r) : kitB a b = some r := by
  unfold kitT at h
  split at h
  · rename_i e
    subst e
    split at h
    · rename_i e
      cases h
      rcases e with rfl | rfl | rfl | rfl | rfl | rfl <;> decide +kernel
    · cases h
  · rename_i ne
    split at h
    · rename_i e
      obtain ⟨rfl, rfl⟩ := e
      cases h
      decide +kernel
    · split at h
      · rename_i n2 e
        cases h
        obtain ⟨e1, e2⟩ := e
        rcases e1 with rfl | rfl | rfl | rfl | rfl | rfl | rfl <;> rcases e2 with rfl | rfl | rfl | rfl | rfl | rfl <;> first | exact absurd rfl ne | exact absurd ⟨rfl, rfl⟩ n2 | decide +kernel
      · cases h
def fIsi (ib : PT → Nat → Option Bool) : PFn
  | [x, .gl c] => (match pty x with
    | some p => (match ib p c with
      | some b => .ok (.bl b)
      | none => .no)
    | none => .no)
  | [x, .ty n] => (match pty x with
    | some (.bi m) => (match kitT m n with
      | some b => .ok (.bl b)
      | none => .no)
    | _ => .no)
  | _ => .no
/-- isinstance(x, T) for a built-in type -/
theorem tyX_of (hK : X.K = C.K) {F H : Hp} (fh : Same F H) : ∀ {x : PV} {v : V} {n : String}, Rep C F x v → pty x = some (.bi n) → TyX X.K H v (.type n)
  | .non, _, _, r, e => by cases r; cases e; exact .base .non
  | .bl _, _, _, r, e => by cases r; cases e; exact .base (.bl _)
  | .int _, _, _, r, e => by cases r; cases e; exact .base (.int _)
  | .str _, _, _, r, e => by cases r; cases e; exact .base (.str _)
  | .ty _, _, _, r, e => by cases e
  | .gl _, _, _, r, e => by cases e
  | .ins _ _, _, _, r, e => by cases e
  | .exc _ _, _, _, r, e => by cases e
  | .emp, _, _, r, e => by
    cases e
    obtain ⟨a, rfl, f⟩ := r
    exact .base (.dK (fh _ _ f))
  | .lst _, _, _, r, e => by
    cases e
    obtain ⟨a, vs, rfl, f, _⟩ := r
    rcases SqX.mono fh f with (h | ⟨o, h⟩) | ⟨its, n, h, _⟩
    · exact .base (.lst h)
    · exact .base (.frz h)
    · exact .kList (by rw [hK]; exact h) rfl
  | .tup _, _, _, r, e => by
    cases e
    obtain ⟨a, vs, rfl, f, _⟩ := r
    rcases Same.sqT fh f with (h | ⟨o, h⟩) | h
    · exact .base (.tup h)
    · exact .fTuple h
    · obtain ⟨o, its, n, h1, h2, _⟩ := h
      exact .kTuple (by rw [hK]; exact h1) h2
/-- isinstance(e, C) of an exception that was caught -/
theorem isi_exc {pins : List (Addr × Obj)} {σ : L2.St} {H : Hp} {s : Shared} {a A D : Addr} {dd : Option Addr} {us : List Value} {bb : Bool} {Q : VK} (I : Inv X pins σ H s) (r : Vals [.ref a, .ref A] us) (ha : H a = some (ExV (.ref D) dd a))
    (hd : dd = none ∨ ∃ dx fs, dd = some dx ∧ H dx = some (.xd fs)) (ec : ExcC X.K D) (hk : PySem.W.kitOne X.K (.ref D) (.ref A) = some bb) (q : Q (.bl bb) H) : wpAny (model X.prog X.w) X.A (call (.builtin "isinstance") us) (EP X pins σ Q) X.xe s := by
  obtain ⟨u1, u2, rfl, r1, r2⟩ := vals2 r
  cases r1
  cases r2
  obtain ⟨⟨oe, vs, ho, hc, he, hv⟩, _⟩ := I.hok a _ ha
  have cl : (PySem.W.clsIn X.K D).isSome = true := by
    obtain ⟨cd, z, _⟩ := PySem.W.any_some ec.hd
    rw [z]; rfl
  have nc : PySem.W.notCls oe = true := by unfold PySem.W.notCls; rw [hv] <;> rfl
  rcases hd with rfl | ⟨dx, fs, rfl, hx⟩
  · have J : PySem.W.InstAt s.heap a oe D none := ⟨ho, hc, nc, by rw [he]; trivial⟩
    exact PySem.W.kia_one (PySem.W.kitx_exc cl ec.hg ec.hk ec.hs ec.ha ec.hn ec.ht ec.hm) I.kIn J hk (fun z => nomatch z) fun tk => ⟨.bl bb, H, I.tok tk, rfl, q⟩
  · have hx2 : ObjOk X.prog X.w H s.heap dx (.xd fs) := I.hok dx _ hx
    obtain ⟨mA, hns, _⟩ := hx2
    obtain ⟨od, hod, _⟩ := lookIn_ns hns
    have J : PySem.W.InstAt s.heap a oe D (some od) := ⟨ho, hc, nc, by rw [he]; exact hod⟩
    exact PySem.W.kia_one (PySem.W.kitx_exc cl ec.hg ec.hk ec.hs ec.ha ec.hn ec.ht ec.hm) I.kIn J hk (fun z => nomatch z) fun tk => ⟨.bl bb, H, I.tok tk, rfl, q⟩
theorem blt_isi (hK : X.K = C.K) {ib : PT → Nat → Option Bool} (T : IsiT X C ib) : BltR X C E (.builtin "isinstance") (fIsi ib) := bltR_of fun B pins s σ F H d xs vs us Q I r b rp h => by
  unfold fIsi at h
  split at h
  · rename_i x c
    split at h
    · rename_i p ep
      split at h
      · rename_i bb eb
        obtain ⟨v, w, rfl, r1, v2, w2, rfl, ⟨A, eA, rfl⟩, r3⟩ := rp
        cases (show w2 = [] from r3)
        obtain ⟨A', eA', hk⟩ := T.at_ _ _ _ eb
        rw [eA] at eA'; cases eA'
        cases p with
        | bi n => exact call_isi pins s σ H _ us Q I r ⟨v, _, _, _, bb, rfl, .own A, tyX_of hK b.fh r1 ep, hk, h.here b rfl⟩
        | own c' =>
          cases x with
          | ins c2 ys =>
            cases ep
            obtain ⟨A2, eA2, hk, cl, k1, k2, k3, k4⟩ := hk
            obtain ⟨a, A3, dx, vs, rfl, eA3, f1, l1, q1⟩ := r1
            rw [eA2] at eA3; cases eA3
            exact call_isi pins s σ H _ us Q I r ⟨_, _, _, _, bb, rfl, .own A, .base (.ins (b.fh _ _ f1) cl k1 k2 k3 k4), hk, h.here b rfl⟩
          | _ => cases ep
        | exo c' =>
          cases x with
          | exc c2 ys =>
            cases ep
            obtain ⟨A2, eA2, hk, ec⟩ := hk
            obtain ⟨a, A3, dd, rfl, eA3, fa, alt⟩ := r1
            cases eA2.symm.trans eA3
            exact isi_exc I r (b.fh _ _ fa) (alt.imp (fun z => z.2) fun ⟨dx, vs, z1, z2, _⟩ => ⟨dx, _, z1, b.fh _ _ z2⟩) ec hk (h.here b rfl)
          | _ => cases ep
      · exact h.elim
    · exact h.elim
  · rename_i x n
    split at h
    · rename_i m ep
      split at h
      · rename_i bb eb
        obtain ⟨v, w, rfl, r1, v2, w2, rfl, rfl, r3⟩ := rp
        cases (show w2 = [] from r3)
        exact call_isi pins s σ H _ us Q I r ⟨v, _, _, _, bb, rfl, .ty n, tyX_of hK b.fh r1 ep, kit_ty (kitT_ok eb), h.here b rfl⟩
      · exact h.elim
    · exact h.elim
  · exact h.elim
/-! ### bool(x) -/
theorem bool_own {a A f : Addr} {ox od : Obj} {h₀ : Heap} {L : Addr} {mm : Str → Option Value} {K : PySem.W.Frag} {prog : Program} {w : World} {A0 : Around} {E0 : Value → Shared → Prop} {s : Shared} {Q : Value → Shared → Prop} (fr : Fr h₀ L s.heap mm) (X₀ : K.In h₀) (I : PySem.W.InstAt s.heap a ox A (some od))
    (hs : PySem.W.findIn K (.ref A) "__bool__" = some (some (.ref f))) (hf : PySem.W.isFn K (.ref f) = true)
    (h : wpAny (model prog w) A0.in1.in1 (call (.ref f) [.ref a]) (PySem.W.BoolBack fun b s' => Q (.bool b) s') E0 s) : wpAny (model prog w) A0 (call (.type "bool") [.ref a]) Q E0 s := by
  have g : MeetsIn prog w (Builtin.«bool.__new__» ⟨[.type "bool", .ref a], []⟩) (fun A R s => wpAny (model prog w) A.in1 (truthy (.ref a)) (fun b s' => R (.ok (.ret (.bool b))) s') (fun e s' => R (.error e) s') s) := .of_wp fun A R s hs => by
    obtain ⟨hp, g, d, tk, os⟩ := s
    have f1 := PySem.F.conv_sub_bool
    repeat (any_goals (first | assumption | (with_reducible refine wpAny_mono hs ?_ (fun _ _ x => x)) | wp_step))
    intro b s' hb
    exact wpAny_pure ⟨_, rfl, hb⟩
  refine callType_newIn PySem.F.called_bool PySem.F.newNe_bool (PySem.F.typeCall_bool_1 _) (PySem.F.newCall_bool_1 _) (fun obj => PySem.F.args_object_init_2 obj _) PySem.F.entry_bool_new g ?_
  refine PySem.W.truthy_K fr X₀ I hs hf (wpAny_mono h (fun r s' hr => ?_) fun _ _ y => y)
  cases r <;> first | exact hr.elim | exact ⟨PySem.typeIs_bool s' _, hr⟩
def fBool (t : OT) : PFn
  | [.bl x] => .ok (.bl x)
  | [.int i] => .ok (.bl (i != 0))
  | [.lst xs] => .ok (.bl (!xs.isEmpty))
  | [.ins c xs] => oBl (fun z => z) (own t c [.ins c xs])
  | _ => .no
theorem blt_bool (hK : X.K = C.K) (hr : RmG (k + 2) X.A) (tk : Tk X E) (O : OwnT X C k "__bool__" t) : BltR X C E (.type "bool") (fBool t) := bltR_of fun B pins s σ F H d xs vs us Q I r b rp h => by
  unfold fBool at h
  split at h
  · obtain ⟨v, w, rfl, r1, r2⟩ := rp
    cases (show w = [] from r2); cases r1
    obtain ⟨u, rfl, ru⟩ := vals1 r
    cases ru
    exact call_bool_bool ⟨.bl _, H, I, rfl, h.here b rfl⟩
  · obtain ⟨v, w, rfl, r1, r2⟩ := rp
    cases (show w = [] from r2); cases r1
    obtain ⟨u, rfl, ru⟩ := vals1 r
    obtain ⟨tt, rfl⟩ := ru
    exact call_bool_int ⟨.bl _, H, I, rfl, h.here b rfl⟩
  · rename_i l
    obtain ⟨v, w, rfl, ⟨a, ws, rfl, f1, q1⟩, r2⟩ := rp
    cases (show w = [] from r2)
    exact call_boolL pins s σ H _ us Q I r ⟨a, ws, rfl, by rw [hK]; exact (SqX.mono b.fh f1).seq, by rw [← isEmpty_repL q1]; exact h.here b rfl⟩
  · rename_i c xs
    obtain ⟨v, w, rfl, r1, r2⟩ := rp
    cases (show w = [] from r2)
    unfold own at h
    cases ef : t c with
    | none => rw [ef] at h; exact h.elim
    | some fn =>
      rw [ef] at h
      obtain ⟨A, f, eA, e1, e2, e3, e4, e5, e6, G⟩ := O.at_ c fn ef
      obtain ⟨a2, A2, dx2, vs2, rfl, z2, f2, l2, q2⟩ := id r1
      rw [eA] at z2; cases z2
      obtain ⟨u0, rfl, ru⟩ := vals1 r
      cases ru
      obtain ⟨od2, J2, _⟩ := inst_at I (b.fh _ _ f2)
      obtain ⟨m, fr⟩ := I.fr
      have h2 := tK.bl h
      refine bool_own fr I.ok.mod.kin J2 e1 e2 (thn (run_spA (vs := [.ref a2]) G hr.in1.in1 I.env0.in1.in1 tk I (.cons rfl .nil) b (RepL.cons r1 RepL.nil) h2) fun u s' q => ?_)
      obtain ⟨z, H', I', rz, n, ez, q⟩ := q
      subst ez
      cases rz
      exact ⟨.bl n, H', I', rfl, q⟩
  · exact h.elim
end
end RL
end M_R12
section M_R13e
/-! enumerate over a tuple -/
namespace RL
open PySem PySem.Spec PyProof.Rows L2

theorem fld_tupit : ∀ {a b : String}, a ≠ b → (Value.type a : Value) ≠ .type b := fun h z => h (Value.type.inj z)
set_option maxHeartbeats 1000000 in
theorem meets_enum1 {v : Value} {o : Obj} {H : Heap → Prop} (B : Begins v o H) :
    Meets (Builtin.«enumerate.__new__» ⟨[.type "enumerate", v], []⟩) (fun _ R s => H s.heap ∧
      R (.ok (.ret (.ref (s.heap.push o).objs.size))) { s with heap := (s.heap.push o).push { cls := .type "enumerate", data := .fields #[.none, .bool false, .ref s.heap.objs.size, rawInt 0, .none, .none] } }) :=
  .of_wp fun prog w A R s h => by
    obtain ⟨hp, g, d, tk, os⟩ := s; obtain ⟨h1, h⟩ := h
    have hsub := sub_enumerate
    have q1 : ∀ {A' : Around} {E : Value → Shared → Prop} {Q : Value → Shared → Prop}, Q (.ref hp.objs.size) ⟨hp.push o, g, d, tk, os⟩ → wpAny (model prog w) A' (pyIter v) Q E ⟨hp, g, d, tk, os⟩ :=
      fun q => B.iter prog w _ _ ⟨hp, g, d, tk, os⟩ _ h1 q
    wp_walk using q1
    refine wpAny_stack_any fun st => wpAny_pure ?_
    split
    · rename_i c _ _ _ _ _
      cases (c == Value.type "enumerate")
      · wp_walk using q1
        exact ⟨_, rfl, h⟩
      · wp_walk using q1
        exact ⟨_, rfl, h⟩
    · wp_walk using q1
      exact ⟨_, rfl, h⟩
theorem call_enum1 {prog : Program} {w : World} {A : Around} {E : Value → Shared → Prop} {s : Shared} {v : Value} {o : Obj} {H : Heap → Prop} {Q : Value → Shared → Prop} (B : Begins v o H) (h1 : H s.heap)
    (h : ∀ h', IsEnum h' (s.heap.objs.size + 1) s.heap.objs.size 0 .none → h'.get? s.heap.objs.size = some o → h'.objs.size = s.heap.objs.size + 2 →
      (∀ b o, s.heap.get? b = some o → h'.get? b = some o) → Q (.ref (s.heap.objs.size + 1)) { s with heap := h' }) :
    wpAny (model prog w) A (call (.type "enumerate") [v]) Q E s := by
  refine callType_new PySem.F.called_enumerate (by decide) (PySem.F.typeCall_enumerate_1 _) (PySem.F.newCall_enumerate_1 _) (fun obj => PySem.F.args_object_init_2 obj _) PySem.F.entry_enumerate_new (meets_enum1 B) ⟨h1, ?_⟩
  have hz : (s.heap.push o).objs.size = s.heap.objs.size + 1 := Heap.size_push ..
  show _ ∧ _
  rw [hz]
  have he : IsEnum ((s.heap.push o).push { cls := .type "enumerate", data := .fields #[.none, .bool false, .ref s.heap.objs.size, rawInt 0, .none, .none] }) (s.heap.objs.size + 1) s.heap.objs.size 0 .none := by
    have := Heap.get?_push_size (s.heap.push o) (o := { cls := .type "enumerate", data := .fields #[.none, .bool false, .ref s.heap.objs.size, rawInt 0, .none, .none] }) rfl
    rw [hz] at this; exact this
  refine ⟨⟨_, he, rfl⟩, h _ he (Heap.get?_push_of_some _ (Heap.get?_push_size _ B.free)) (by rw [Heap.size_push, hz]) fun b o x => Heap.get?_push_of_some _ (Heap.get?_push_of_some _ x)⟩

/-- the tuple at a as it stands at each turn, each item in a new pair -/
def IteT (K : PySem.W.Frag) (a : Addr) : It :=
  ⟨fun i H => ∃ (xs : List V) (x : V), SqT K H a xs ∧ xs[i]? = some x, fun i H v H' => ∃ T x, v = .ref T ∧ H T = none ∧ H' = upd H T (.tup [.int (i : Nat), x]) ∧ ∀ xs, SqT K H a xs → xs[i]? = some x, fun i H => ∃ xs : List V, SqT K H a xs ∧ xs.length = i⟩
theorem turn_enumT {P : Program} {w : World} {K : PySem.W.Frag} {elts : List Expr} {kk : Nat} {tpos : Pos} (a e it : Addr) :
    Turn P w K (.Tuple elts kk tpos) (IteT K a) [e, it] e (fun i h => (∃ old, IsEnum h e it ((i : Nat) : Int) old) ∧ h.IsTupleIter it a i ∧ e ≠ it) where
  mem := by simp
  obj := fun i h st b hb => by
    obtain ⟨⟨old, he⟩, ⟨o, ho, hc, hd⟩, _⟩ := st
    have e' : b = e ∨ b = it := by simpa using hb
    rcases e' with z | z
    · rw [z]; exact ⟨_, he, fun v q => nomatch q⟩
    · rw [z]; exact ⟨o, ho, fun v q => by rw [hd] at q; cases q⟩
  keep := fun i h h' st k => let ⟨⟨old, he⟩, hi, hne⟩ := st; ⟨⟨old, k e (by simp) _ he⟩, hi.at fun o q => k it (by simp) o q, hne⟩
  item := by
    intro X hP hw hK hc i pins s σ H E I hf st hg
    subst hP hw hK
    obtain ⟨⟨old, he⟩, hit, hne⟩ := st
    obtain ⟨xs, x, hq, hx⟩ := hg
    obtain ⟨its, rv, p, hz⟩ := I.tuple hq
    obtain ⟨u, hu, ru⟩ := rv.get hx
    have hel : e < s.heap.objs.size := Heap.lt_size he
    have hil : it < s.heap.objs.size := by obtain ⟨_, q, _⟩ := hit; exact Heap.lt_size q
    have hpt : s.heap.IsTuple a its.toArray := p
    have hat : a ≠ it := fun z => by
      obtain ⟨o, ho, hc1, _⟩ := hit
      obtain ⟨o2, ho2, hc2, _⟩ := hpt
      rw [z, ho] at ho2; cases ho2
      rw [hc1] at hc2
      exact absurd (Value.type.inj hc2) (by decide)
    have hae : e ≠ a := fun z => by
      obtain ⟨o2, ho2, hc2, _⟩ := hpt
      rw [← z, he] at ho2; cases ho2
      exact absurd (Value.type.inj hc2) (by decide)
    have hlt : i < its.toArray.size := by
      obtain ⟨hlt, _⟩ := List.getElem?_eq_some_iff.mp hu
      simpa using hlt
    refine wpAny_pyNext_enum_itemD (Draws.tuple (A := X.A.in1) (I.ok.hd hc) it a hat its.toArray) he ⟨hit, hpt⟩ hlt hne (by simp [hne, hae]) fun u' h' tk hu' ho hst' hT hsz hk => ?_
    have eu : u' = u := by
      have hu3 : its[i]? = some u' := by simpa using hu'
      rw [hu] at hu3
      exact (Option.some.inj hu3).symm
    subst eu
    obtain ⟨hit', _⟩ := hst'
    refine ⟨_, rfl, wpAny_letOwnedTupleGo_enum (s := { s with heap := h', toks := tk + 1 }) ho fun h'' he' sb => ?_⟩
    have hT2 : h''.get? s.heap.objs.size = some { cls := .type "tuple", data := .seq #[.int i tk, u'] } := (sb.2 _ (Nat.ne_of_gt hel)).trans hT
    have new : ObjOk X.prog X.w (upd H s.heap.objs.size (.tup [.int (i : Nat), x])) h'' s.heap.objs.size (.tup [.int (i : Nat), x]) :=
      ⟨by show 2 ≤ sizeLine; decide, [.int i tk, u'], .cons ⟨_, rfl⟩ (.cons ru .nil), ⟨_, hT2, rfl, _, rfl⟩⟩
    have I1 : Inv X pins σ (upd H s.heap.objs.size (.tup [.int (i : Nat), x])) { s with heap := h'', toks := tk + 1 } :=
      I.turnedNew (ch := [e, it]) (fun b ob hb q => (sb.2 b (fun z => hb (by simp [z]))).trans (hk b ob (fun z => hb (by simp [z])) (fun z => hb (by simp [z])) q)) hf (Nat.le_refl _) new
    refine ⟨.ref s.heap.objs.size, _, I1, rfl, ⟨_, x, rfl, I.hok.fresh (Nat.le_refl _), rfl, fun ys hy => by rw [I.tuple_inj hy hq]; exact hx⟩, ⟨⟨u', ?_⟩, hit'.at fun o q => (sb.2 it (Ne.symm hne)).trans q, hne⟩, fun b hb => ?_⟩
    · have e1 : ((i + 1 : Nat) : Int) = (i : Int) + 1 := by omega
      rw [e1]; exact he'
    · have hb' : b < s.heap.objs.size := by
        have e' : b = e ∨ b = it := by simpa using hb
        rcases e' with z | z
        · rw [z]; exact hel
        · rw [z]; exact hil
      rw [upd_ne (Nat.ne_of_lt hb')]
      exact (hf b hb).1
  done := by
    intro X hP hw hK hc i pins s σ H E I hf st hg
    subst hP hw hK
    obtain ⟨⟨old, he⟩, hit, hne⟩ := st
    obtain ⟨xs, hq, hx⟩ := hg
    obtain ⟨its, rv, p, hz⟩ := I.tuple hq
    obtain ⟨f0, f1, f2, f3, f4, f5⟩ := hf it (by simp)
    have hl := rv.length
    have hpt : s.heap.IsTuple a its.toArray := p
    have hat : a ≠ it := fun z => by
      obtain ⟨o, ho, hc1, _⟩ := hit
      obtain ⟨o2, ho2, hc2, _⟩ := hpt
      rw [z, ho] at ho2; cases ho2
      rw [hc1] at hc2
      exact absurd (Value.type.inj hc2) (by decide)
    have hi : i = its.toArray.size := by simp; omega
    subst hi
    exact wpAny_pyNext_enum_endD (Draws.tuple (A := X.A.in1) (I.ok.hd hc) it a hat its.toArray) he ⟨hit, hpt⟩ fun h' eb => ⟨rfl, I.turned (t' := s.toks) (fun b o hb q => eb b o hb q) f0 f1 f3 f4 f5⟩
  self := fun A i s Q E st h => let ⟨⟨_, he⟩, _⟩ := st; wpAny_pyIter_enum he h
def iEnumT (K : PySem.W.Frag) (ta : TA) : TI := fun σ H R => ta σ H fun vs H1 => ∃ a xs, vs = [.ref a] ∧ ((SqL K H1 a xs ∧ R (Ite K a) H1) ∨ (SqT K H1 a xs ∧ R (IteT K a) H1))
theorem pi_enumA {X : Cx} {e : Expr} {ta : TA} {p pos tpos : Pos} {elts : List Expr} {kk : Nat} (hg : Gl X "enumerate") (hm : X.mg "enumerate" = none) (ha : PA X [e] ta) (hs : starEach [e] X.env = [(false, eval e X.env)] := by rfl) :
    PI X (.Tuple elts kk tpos) (.Call (.Name "enumerate" p) [e] [] pos) (iEnumT X.K ta) := by
  refine ⟨fun pins s σ H R I h => ?_⟩
  refine Call_ (ld_blt I hg hm boot_enumerate (PyProof.Rows.callWith_type1 (thn (ha.run pos pins s σ H _ I h) fun us s1 ⟨vs, H1, I1, r1, q1⟩ => ?_) hs rfl))
  obtain ⟨a, xs, ex, q1⟩ := q1
  subst ex
  cases r1 with
  | cons r rr =>
    cases rr
    cases r
    have fresh2 : ∀ b, b ∈ [s1.heap.objs.size + 1, s1.heap.objs.size] → FpOk X pins H1 b := fun b hb => by
      have e' : b = s1.heap.objs.size + 1 ∨ b = s1.heap.objs.size := by simpa using hb
      have hle : s1.heap.objs.size ≤ b := by
        rcases e' with z | z
        · rw [z]; exact Nat.le_add_right _ _
        · rw [z]; exact Nat.le_refl _
      exact I1.fpOk hle (I1.hok.fresh hle)
    rcases q1 with ⟨hq, q⟩ | ⟨hq, q⟩
    · obtain ⟨its, rv, p', hz⟩ := I1.list hq
      refine call_enumerate_list p'.isList fun h' he hit hsz hk => wpAny_pyIter_enum he ?_
      have I2 : Inv X pins σ H1 { s1 with heap := h' } := I1.kept (t' := s1.toks) hk
      exact ⟨s1.heap.objs.size + 1, [s1.heap.objs.size + 1, s1.heap.objs.size], _, _, H1, rfl, I2, turn_enum a (s1.heap.objs.size + 1) s1.heap.objs.size, ⟨⟨.none, he⟩, hit, Nat.succ_ne_self _⟩, fresh2, q⟩
    · obtain ⟨its, rv, p', hz⟩ := I1.tuple hq
      refine call_enum1 (begins_tuple a its.toArray) (show s1.heap.IsTuple a its.toArray from p') fun h' he hit hsz hk => wpAny_pyIter_enum he ?_
      have I2 : Inv X pins σ H1 { s1 with heap := h' } := I1.kept (t' := s1.toks) hk
      exact ⟨s1.heap.objs.size + 1, [s1.heap.objs.size + 1, s1.heap.objs.size], _, _, H1, rfl, I2, turn_enumT a (s1.heap.objs.size + 1) s1.heap.objs.size, ⟨⟨.none, he⟩, ⟨_, hit, rfl, rfl⟩, Nat.succ_ne_self _⟩, fresh2, q⟩
end RL
end M_R13e
section M_R13
namespace RL
open PySem PySem.Spec PyProof.Rows L2

/-! ### enumerate, zip -/
def enumP (xs : List PV) : List PV := (List.range xs.length).zipWith (fun (i : Nat) x => .tup [.int (i : Nat), x]) xs
def zipP (xs ys : List PV) : List PV := xs.zipWith (fun x y => .tup [x, y]) ys
theorem enumP_get {xs : List PV} {i : Nat} {x : PV} (e : xs[i]? = some x) : (enumP xs)[i]? = some (.tup [.int (i : Nat), x]) := by
  obtain ⟨hl, hx⟩ := List.getElem?_eq_some_iff.mp e
  simp [enumP, List.getElem?_zipWith, e, List.getElem?_range, hl, hx]
theorem enumP_len {xs : List PV} : (enumP xs).length = xs.length := by simp [enumP]
theorem zipP_get {xs ys : List PV} {i : Nat} {x y : PV} (e : xs[i]? = some x) (f : ys[i]? = some y) : (zipP xs ys)[i]? = some (.tup [x, y]) := by simp [zipP, List.getElem?_zipWith, e, f]
theorem zipP_len {xs ys : List PV} : (zipP xs ys).length = min xs.length ys.length := by simp [zipP]
section
variable {C : Pl} {F : Hp} {K : PySem.W.Frag} {a b : Addr} {xs ys : List PV} {vs us : List V}
theorem pair_new {F2 H2 : Hp} {T : Addr} {x y : PV} {v w : V} (s2 : Same F2 H2) (hT : H2 T = none) (rx : Rep C F2 x v) (ry : Rep C F2 y w) :
    Grow C F2 H2 (upd F2 T (.tup [v, w])) (upd H2 T (.tup [v, w])) ∧ Rep C (upd F2 T (.tup [v, w])) (.tup [x, y]) (.ref T) := by
  have fT : F2 T = none := s2.free hT
  refine ⟨⟨Same.k (same_upd fT), fun c u q => ?_, Same.u (same_upd hT), fun c u q => ?_⟩, rep_tup fT (.cons rx (.cons ry .nil))⟩
  · by_cases hb : c = T
    · subst hb; rw [upd_same] at q ⊢; exact q
    · rw [upd_ne hb] at q ⊢; exact s2 _ _ q
  · by_cases hb : c = T
    · subst hb; exact .inr hT
    · rw [upd_ne hb] at q; exact .inl ⟨u, q⟩
theorem walk_enumT {vs : List V} : Walk (IteT K a) vs.length (fun H => SqT K H a vs) (YPair (fun i => some (.int (i : Nat))) (fun i => vs[i]?)) := by
  refine ⟨fun i _ hi q => ⟨vs, vs[i], q, by simp [hi]⟩, fun _ q => ⟨vs, q, rfl⟩, fun i H v H' _ q y => ?_⟩
  obtain ⟨T, x, h1, h2, h3, h4⟩ := y
  exact ⟨T, .int (i : Nat), x, h1, h2, h3, rfl, h4 vs q⟩
theorem walk_zipT {vs us : List V} {n : Nat} (hn : n = min vs.length us.length) : Walk (RZ.ItzT K a b) n (fun H => SqT K H a vs ∧ SqT K H b us) (YPair (fun i => vs[i]?) (fun i => us[i]?)) := by
  subst hn
  refine ⟨fun i _ hi q => ?_, fun _ q => ⟨vs, us, q.1, q.2, by omega⟩, fun i H v H' _ q y => ?_⟩
  · have h1 : i < vs.length := by omega
    have h2 : i < us.length := by omega
    exact ⟨vs, us, vs[i], us[i], q.1, q.2, by simp [h1], by simp [h2]⟩
  · obtain ⟨T, x, z, h1, h2, h3, h4, h5⟩ := y
    exact ⟨T, x, z, h1, h2, h3, h4 vs q.1, h5 us q.2⟩
theorem WalkR.enumL (hK : K = C.K) (h : SqL C.K F a vs) (r : RepL C F xs vs) : WalkR C F (enumP xs) (Ite K a) := by
  subst hK
  refine ⟨vs.length, _, _, by rw [enumP_len]; exact r.length.symm, walk_enum (xs := vs), fun F2 H2 s1 s2 => Same.seq s2 (s1.seq h), fun i F2 H2 v H3 hi s1 s2 y => ?_⟩
  obtain ⟨T, x, z, rfl, hT, rfl, e1, e2⟩ := y
  cases e1
  obtain ⟨y, ey, ry⟩ := r.get' e2
  obtain ⟨g, rp⟩ := pair_new (x := .int (i : Nat)) (y := y) s2 hT rfl (ry.mono s1)
  exact ⟨_, _, enumP_get ey, g, rp⟩
theorem WalkR.enumT (hK : K = C.K) (h : SqT C.K F a vs) (r : RepL C F xs vs) : WalkR C F (enumP xs) (IteT K a) := by
  subst hK
  refine ⟨vs.length, _, _, by rw [enumP_len]; exact r.length.symm, walk_enumT (vs := vs), fun F2 H2 s1 s2 => Same.sqT s2 (s1.sqT h), fun i F2 H2 v H3 hi s1 s2 y => ?_⟩
  obtain ⟨T, x, z, rfl, hT, rfl, e1, e2⟩ := y
  cases e1
  obtain ⟨y, ey, ry⟩ := r.get' e2
  obtain ⟨g, rp⟩ := pair_new (x := .int (i : Nat)) (y := y) s2 hT rfl (ry.mono s1)
  exact ⟨_, _, enumP_get ey, g, rp⟩
theorem WalkR.zipL (hK : K = C.K) (h : SqL C.K F a vs) (r : RepL C F xs vs) (h' : SqL C.K F b us) (r' : RepL C F ys us) : WalkR C F (zipP xs ys) (Itz K a b) := by
  subst hK
  refine ⟨min vs.length us.length, _, _, by rw [zipP_len, r.length, r'.length], walk_zip (xs := vs) (ys := us) rfl, fun F2 H2 s1 s2 => ⟨Same.seq s2 (s1.seq h), Same.seq s2 (s1.seq h')⟩, fun i F2 H2 v H3 hi s1 s2 y => ?_⟩
  obtain ⟨T, x, z, rfl, hT, rfl, e1, e2⟩ := y
  obtain ⟨x', ex, rx⟩ := r.get' e1
  obtain ⟨y', ey, ry⟩ := r'.get' e2
  obtain ⟨g, rp⟩ := pair_new s2 hT (rx.mono s1) (ry.mono s1)
  exact ⟨_, _, zipP_get ex ey, g, rp⟩
theorem WalkR.zipT (hK : K = C.K) (h : SqT C.K F a vs) (r : RepL C F xs vs) (h' : SqT C.K F b us) (r' : RepL C F ys us) : WalkR C F (zipP xs ys) (RZ.ItzT K a b) := by
  subst hK
  refine ⟨min vs.length us.length, _, _, by rw [zipP_len, r.length, r'.length], walk_zipT (vs := vs) (us := us) rfl, fun F2 H2 s1 s2 => ⟨Same.sqT s2 (s1.sqT h), Same.sqT s2 (s1.sqT h')⟩, fun i F2 H2 v H3 hi s1 s2 y => ?_⟩
  obtain ⟨T, x, z, rfl, hT, rfl, e1, e2⟩ := y
  obtain ⟨x', ex, rx⟩ := r.get' e1
  obtain ⟨y', ey, ry⟩ := r'.get' e2
  obtain ⟨g, rp⟩ := pair_new s2 hT (rx.mono s1) (ry.mono s1)
  exact ⟨_, _, zipP_get ex ey, g, rp⟩
end
def iEnum' (ms : AM) : AM := fun ρ d => (ms ρ d).bind fun xs d1 => match xs with
  | [.lst xs] => .ok (enumP xs) d1
  | [.tup xs] => .ok (enumP xs) d1
  | _ => .no
def iZip' (ms : AM) : AM := fun ρ d => (ms ρ d).bind fun xs d1 => match xs with
  | [.lst xs, .lst ys] => .ok (zipP xs ys) d1
  | [.tup xs, .tup ys] => .ok (zipP xs ys) d1
  | _ => .no
section
variable {X : Cx} {C : Pl} {B : Bp} {E : XS} {pos p tpos : Pos} {a b e : Expr} {m : EM} {ms : AM} {elts : List Expr} {kk : Nat}
theorem ri_enum (hK : X.K = C.K) (hg : Gl X "enumerate") (hm : X.mg "enumerate" = none) (ha : RA X C B E [a] ms) (hs : starEach [a] X.env = [(false, eval a X.env)] := by rfl) :
    RI X C B E (.Tuple elts kk tpos) (.Call (.Name "enumerate" p) [a] [] pos) (iEnum' ms) := by
  refine PI.weak (pi_enumA hg hm ha hs) fun σ H R h => ?_
  obtain ⟨F, ρ, d, b, h⟩ := h
  refine ⟨F, ρ, d, b, (tK.bind (Rp := RepL C) h).imp fun vs H1 q => ?_⟩
  obtain ⟨F1, d1, xs, b1, g1, r1, k1⟩ := q
  split at k1
  · obtain ⟨v, r, rfl, ⟨a, vs, rfl, h2, h3⟩, hr⟩ := r1
    cases (show r = [] from hr)
    exact ⟨a, vs, rfl, .inl ⟨by rw [hK]; exact (SqX.mono b1.fh h2).seq, k1.here b1 (WalkR.enumL hK h2.seq h3)⟩⟩
  · obtain ⟨v, r, rfl, ⟨a, vs, rfl, h2, h3⟩, hr⟩ := r1
    cases (show r = [] from hr)
    exact ⟨a, vs, rfl, .inr ⟨by rw [hK]; exact Same.sqT b1.fh h2, k1.here b1 (WalkR.enumT hK h2 h3)⟩⟩
  · exact k1.elim
theorem ri_zip (hK : X.K = C.K) (hg : Gl X "zip") (hm : X.mg "zip" = none) (ha : RA X C B E [a, b] ms)
    (hs : starEach [a, b] X.env = (false, eval a X.env) :: starEach [b] X.env := by rfl) (hpl : (backTo pos (starEach [b] X.env)).any (·.1) = false := by rfl) :
    RI X C B E (.Tuple elts kk tpos) (.Call (.Name "zip" p) [a, b] [] pos) (iZip' ms) := by
  refine PI.weak (RZ.pi_zipA hg hm ha hs hpl) fun σ H R h => ?_
  obtain ⟨F, ρ, d, b, h⟩ := h
  refine ⟨F, ρ, d, b, (tK.bind (Rp := RepL C) h).imp fun vs H1 q => ?_⟩
  obtain ⟨F1, d1, xs, b1, g1, r1, k1⟩ := q
  split at k1
  · obtain ⟨v, r, rfl, ⟨a, vs, rfl, h2, h3⟩, v', r', rfl, ⟨a', vs', rfl, h2', h3'⟩, hr⟩ := r1
    cases (show r' = [] from hr)
    exact ⟨a, a', vs, vs', rfl, .inl ⟨by rw [hK]; exact (SqX.mono b1.fh h2).seq, by rw [hK]; exact (SqX.mono b1.fh h2').seq, k1.here b1 (WalkR.zipL hK h2.seq h3 h2'.seq h3')⟩⟩
  · obtain ⟨v, r, rfl, ⟨a, vs, rfl, h2, h3⟩, v', r', rfl, ⟨a', vs', rfl, h2', h3'⟩, hr⟩ := r1
    cases (show r' = [] from hr)
    exact ⟨a, a', vs, vs', rfl, .inr ⟨by rw [hK]; exact Same.sqT b1.fh h2, by rw [hK]; exact Same.sqT b1.fh h2', k1.here b1 (WalkR.zipT hK h2 h3 h2' h3')⟩⟩
  · exact k1.elim
end
/-! ### slots behind the slots -/
section
variable {C : Pl} {B : Bp} {ρ acc : REnv} {d : DSt} {σ accV : L2.St} {F H : Hp}
theorem BR.sub (h : BR C B (ρ ++ acc) d (σ ++ accV) F H) (hl : σ.length = ρ.length) : BR C B ρ d σ F H where
  g := h.g
  len := hl
  sl := by
    obtain ⟨ad, h1, h2⟩ := h.sl
    have up : ∀ i s, ρ[i]? = some s → (ρ ++ acc)[i]? = some s := fun i s e => by
      obtain ⟨hi, _⟩ := List.getElem?_eq_some_iff.mp e
      rw [List.getElem?_append_left hi]; exact e
    refine ⟨ad, fun i s e => ?_, fun i j s t e1 e2 => h2 i j s t (up _ _ e1) (up _ _ e2)⟩
    have z := h1 i s (up _ _ e)
    obtain ⟨hi, _⟩ := List.getElem?_eq_some_iff.mp e
    rw [List.getElem?_append_left (by omega)] at z
    exact z
theorem BR.pushU (h : BR C B ρ d σ F H) (o : Option V) : BR C B (ρ ++ [.un]) d (σ ++ [o]) F H where
  g := h.g
  len := by simp [h.len]
  sl := by
    obtain ⟨ad, h1, h2⟩ := h.sl
    have dn : ∀ i s, (ρ ++ [.un])[i]? = some s → (ρ[i]? = some s ∧ i < ρ.length) ∨ s = .un := fun i s e => by
      by_cases hi : i < ρ.length
      · rw [List.getElem?_append_left hi] at e; exact .inl ⟨e, hi⟩
      · rw [List.getElem?_append_right (by omega)] at e
        have : i - ρ.length = 0 ∨ 0 < i - ρ.length := by omega
        rcases this with z | z
        · rw [z] at e; cases e; exact .inr rfl
        · rw [List.getElem?_eq_none (by simp only [List.length_singleton]; omega)] at e; cases e
    refine ⟨ad, fun i s e => ?_, fun i j s t e1 e2 o1 o2 => ?_⟩
    · rcases dn i s e with ⟨e, hi⟩ | rfl
      · have z := h1 i s e
        rw [List.getElem?_append_left (by rw [h.len]; exact hi)]
        exact z
      · trivial
    · rcases dn i s e1 with ⟨e1, _⟩ | rfl
      · rcases dn j t e2 with ⟨e2, _⟩ | rfl
        · exact h2 i j s t e1 e2 o1 o2
        · cases o2
      · cases o1
theorem set_last {α : Type} {xs : List α} {x y : α} {n : Nat} (hn : n = xs.length) : (xs ++ [x]).set n y = xs ++ [y] := by
  subst hn
  simp [List.set_append]
theorem BR.push (h : BR C B ρ d σ F H) {x : PV} {v : V} (r : Rep C F x v) : BR C B (ρ ++ [.val x]) d (σ ++ [some v]) F H := by
  have z := (h.pushU none).set (i := ρ.length) r
  rw [set_last rfl, set_last h.len.symm] at z
  exact z
theorem BR.pushO (h : BR C B ρ d σ F H) {p : Addr} {xs : List PV} {vs : List V} (w : Own B F p) (e : H p = some (.lst vs)) (r : RepL C F xs vs) (hn : ∀ (j : Nat) (s : Sl), ρ[j]? = some s → s.isOwn = true → σ[j]? ≠ some (some (V.ref p))) :
    BR C B (ρ ++ [.own xs]) d (σ ++ [some (.ref p)]) F H := by
  have z := (h.pushU none).own_new (i := ρ.length) w e r fun j s ej o => by
    by_cases hj : j < ρ.length
    · rw [List.getElem?_append_left hj] at ej
      rw [List.getElem?_append_left (by rw [h.len]; exact hj)]
      exact hn j s ej o
    · rw [List.getElem?_append_right (by omega)] at ej
      have : j - ρ.length = 0 ∨ 0 < j - ρ.length := by omega
      rcases this with q | q
      · rw [q] at ej; cases ej; cases o
      · rw [List.getElem?_eq_none (by simp only [List.length_singleton]; omega)] at ej; cases ej
  rw [set_last rfl, set_last h.len.symm] at z
  exact z
/-- the last one is stored at i -/
theorem BR.mv {s : Sl} {o : Option V} (h : BR C B (ρ ++ [s]) d (σ ++ [o]) F H) (hl : σ.length = ρ.length) (i : Nat) : BR C B (ρ.set i s) d (σ.set i o) F H where
  g := h.g
  len := by simp [hl]
  sl := by
    obtain ⟨ad, h1, h2⟩ := h.sl
    have lst : (ρ ++ [s])[ρ.length]? = some s := by simp
    have lstV : (σ ++ [o])[ρ.length]? = some o := by rw [← hl]; simp
    have up : ∀ j t, ρ[j]? = some t → (ρ ++ [s])[j]? = some t ∧ (σ ++ [o])[j]? = σ[j]? ∧ j < ρ.length := fun j t e => by
      obtain ⟨hj, _⟩ := List.getElem?_eq_some_iff.mp e
      refine ⟨by rw [List.getElem?_append_left hj]; exact e, by rw [List.getElem?_append_left (by omega)], hj⟩
    refine ⟨fun j => if j = i then ad ρ.length else ad j, fun j t e => ?_, fun j k t u e1 e2 o1 o2 ea => ?_⟩
    · rcases getElem_set e with ⟨rfl, rfl, hj⟩ | ⟨hj, e⟩
      · dsimp only
        rw [if_pos rfl, List.getElem?_set_self (by omega)]
        have z := h1 _ _ lst
        rw [lstV] at z
        exact z
      · dsimp only
        rw [if_neg hj, List.getElem?_set_ne (Ne.symm hj)]
        obtain ⟨u1, u2, _⟩ := up j t e
        have z := h1 j t u1
        rw [u2] at z
        exact z
    · rcases getElem_set e1 with ⟨z1, w1, _⟩ | ⟨hj, f1⟩
      · rcases getElem_set e2 with ⟨z2, _, _⟩ | ⟨hk, f2⟩
        · rw [z1, z2]
        · have ea : (if j = i then ad ρ.length else ad j) = (if k = i then ad ρ.length else ad k) := ea
          rw [if_pos z1, if_neg hk] at ea
          obtain ⟨u1, _, u3⟩ := up k u f2
          subst w1
          have := h2 _ _ _ _ lst u1 o1 o2 ea
          omega
      · rcases getElem_set e2 with ⟨z2, w2, _⟩ | ⟨hk, f2⟩
        · have ea : (if j = i then ad ρ.length else ad j) = (if k = i then ad ρ.length else ad k) := ea
          rw [if_neg hj, if_pos z2] at ea
          obtain ⟨u1, _, u3⟩ := up j t f1
          subst w2
          have := h2 _ _ _ _ u1 lst o1 o2 ea
          omega
        · have ea : (if j = i then ad ρ.length else ad j) = (if k = i then ad ρ.length else ad k) := ea
          rw [if_neg hj, if_neg hk] at ea
          exact h2 j k t u (up j t f1).1 (up k u f2).1 o1 o2 ea
end
end RL
end M_R13
section M_R14
namespace RL
open PySem PySem.Spec PyProof.Rows L2

/-! ### a, b = x, y -/
inductive MI where
  | v (m : EM) | f (m : AM)
def mixR : List MI → REnv → DSt → R (List Sl)
  | [], _, d => .ok [] d
  | .v m :: r, ρ, d => (m ρ d).bind fun x d1 => (mixR r ρ d1).bind fun ss d2 => .ok (.val x :: ss) d2
  | .f m :: r, ρ, d => (m ρ d).bind fun x d1 => (mixR r ρ d1).bind fun ss d2 => .ok (.own x :: ss) d2
def tMx (C : Pl) (B : Bp) (E : XS) (r : R (List Sl)) (ρ acc : REnv) (σ accV : L2.St) (F H : Hp) (Q : List V → Hp → Prop) : Prop := match r with
  | .ok ss d' => ∀ F' H' vs, BR C B (ρ ++ acc ++ ss) d' (σ ++ accV ++ vs.map some) F' H' → Sk C F F' → vs.length = ss.length → Q vs H'
  | .ex e d' => ∀ F' H' cls dd, BG C B d' F' H' → ExR C F' e cls dd → E σ cls dd H'
  | .no => False
def tAM (C : Pl) (B : Bp) (E : XS) (is : List MI) : TA := fun σ H Q => ∃ F ρ d acc accV, σ.length = ρ.length ∧ BR C B (ρ ++ acc) d (σ ++ accV) F H ∧ tMx C B E (mixR is ρ d) ρ acc σ accV F H Q
abbrev RM (X : Cx) (C : Pl) (B : Bp) (E : XS) (es : List Expr) (is : List MI) : Prop := PA X es (tAM C B E is)
def setAll : REnv → List Nat → List Sl → REnv
  | ρ, i :: is, s :: ss => setAll (ρ.set i s) is ss
  | ρ, _, _ => ρ
def sPar (ix : List Nat) (is : List MI) : SM := fun ρ d => if ix.all (· < ρ.length) then match mixR is ρ d with
  | .ok ss d' => .nx (setAll ρ ix ss) d'
  | .ex e d' => .ex e d'
  | .no => .no
  else .no
theorem mixR_len : ∀ {is : List MI} {ρ : REnv} {d d' : DSt} {ss : List Sl}, mixR is ρ d = .ok ss d' → ss.length = is.length
  | [], _, _, _, _, h => by cases h; rfl
  | .v m :: r, ρ, d, d', ss, h => by
    unfold mixR at h
    cases q : m ρ d with
    | ok x d1 =>
      rw [q] at h
      cases q2 : mixR r ρ d1 with
      | ok s2 d2 => simp only [R.bind_ok, q2] at h; cases h; simp [mixR_len q2]
      | ex e d2 => simp only [R.bind_ok, q2, R.bind_ex] at h; cases h
      | no => simp only [R.bind_ok, q2, R.bind_no] at h; cases h
    | ex e d1 => rw [q] at h; cases h
    | no => rw [q] at h; cases h
  | .f m :: r, ρ, d, d', ss, h => by
    unfold mixR at h
    cases q : m ρ d with
    | ok x d1 =>
      rw [q] at h
      cases q2 : mixR r ρ d1 with
      | ok s2 d2 => simp only [R.bind_ok, q2] at h; cases h; simp [mixR_len q2]
      | ex e d2 => simp only [R.bind_ok, q2, R.bind_ex] at h; cases h
      | no => simp only [R.bind_ok, q2, R.bind_no] at h; cases h
    | ex e d1 => rw [q] at h; cases h
    | no => rw [q] at h; cases h
section
variable {X : Cx} {C : Pl} {B : Bp} {E : XS} {pos : Pos} {a b c e : Expr} {m : EM} {es : List Expr} {is : List MI} {ms : AM}
theorem rm_nil : RM X C B E [] [] := PA.weak pa_nil fun σ H Q h => by
  obtain ⟨F, ρ, d, acc, accV, hl, b0, h⟩ := h
  exact h F H [] (by simpa using b0) (Sk.refl C F) rfl
theorem rm_v (ha : RE X C B E a m) (hr : RM X C B E es is) (hs : starEach (a :: es) X.env = (false, eval a X.env) :: starEach es X.env := by rfl) : RM X C B E (a :: es) (.v m :: is) := by
  refine PA.weak (pa_cons ha hr hs) fun σ H Q h => ?_
  obtain ⟨F, ρ, d, acc, accV, hl, b0, h⟩ := h
  refine ⟨F, ρ, d, b0.sub hl, ?_⟩
  unfold mixR at h
  revert h
  cases m ρ d with
  | ok x d1 =>
    intro h F1 H1 v b1 g1 r1
    refine ⟨F1, ρ, d1, acc ++ [.val x], accV ++ [some v], hl, ?_, ?_⟩
    · rw [← List.append_assoc, ← List.append_assoc]
      exact (b0.go b1 g1).push r1
    · revert h
      rw [R.bind_ok]
      cases mixR is ρ d1 with
      | ok ss d2 => exact fun h F2 H2 vs b2 s2 l2 => h F2 H2 (v :: vs) (by simpa using b2) (g1.s.trans s2) (by simp [l2])
      | ex e d2 => exact fun h => h
      | no => exact fun h => h
  | ex e d1 => exact fun h _ _ _ _ b _ r => h _ _ _ _ b r
  | no => exact fun h => h
theorem rm_f (ha : RFr X C B E a ms) (hr : RM X C B E es is) (hs : starEach (a :: es) X.env = (false, eval a X.env) :: starEach es X.env := by rfl) : RM X C B E (a :: es) (.f ms :: is) := by
  refine PA.weak (pa_cons ha hr hs) fun σ H Q h => ?_
  obtain ⟨F, ρ, d, acc, accV, hl, b0, h⟩ := h
  refine ⟨F, ρ, d, b0.sub hl, ?_⟩
  unfold mixR at h
  revert h
  cases ms ρ d with
  | ok x d1 =>
    intro h F1 H1 p vs b1 g1 hp e1 f1 r1
    refine ⟨F1, ρ, d1, acc ++ [.own x], accV ++ [some (.ref p)], hl, ?_, ?_⟩
    · rw [← List.append_assoc, ← List.append_assoc]
      refine (b0.go b1 g1).pushO (b0.g.own hp f1) e1 r1 fun j s ej o z => ?_
      obtain ⟨a, u, q1, q2⟩ := b0.own_there ej o
      rw [q1] at z
      cases z
      rw [hp] at q2; cases q2
    · revert h
      rw [R.bind_ok]
      cases mixR is ρ d1 with
      | ok ss d2 => exact fun h F2 H2 vs b2 s2 l2 => h F2 H2 (.ref p :: vs) (by simpa using b2) (g1.s.trans s2) (by simp [l2])
      | ex e d2 => exact fun h => h
      | no => exact fun h => h
  | ex e d1 => exact fun h _ _ _ _ b _ r => h _ _ _ _ b r
  | no => exact fun h => h
theorem set_left {α : Type} {xs : List α} {y z : α} {j : Nat} (h : j < xs.length) : (xs ++ [y]).set j z = xs.set j z ++ [y] := List.set_append_left _ _ h
theorem BR.mv2 {ρ : REnv} {σ : L2.St} {d : DSt} {F H : Hp} {s t : Sl} {v w : V} {i j : Nat} (h : BR C B (ρ ++ [s, t]) d (σ ++ [some v, some w]) F H) (hl : σ.length = ρ.length) (hi : i < ρ.length) (hj : j < ρ.length) (hij : i ≠ j) :
    BR C B ((ρ.set i s).set j t) d ((σ.set i (some v)).set j (some w)) F H := by
  have e1 : ρ ++ [s, t] = (ρ ++ [s]) ++ [t] := by simp
  have e2 : σ ++ [some v, some w] = (σ ++ [some v]) ++ [some w] := by simp
  rw [e1, e2] at h
  have z := h.mv (by simp [hl]) j
  rw [set_left hj, set_left (by omega)] at z
  have z2 := z.mv (by simp [hl]) i
  rw [List.set_comm _ _ (Ne.symm hij), List.set_comm _ _ (Ne.symm hij)] at z2
  exact z2
theorem BR.mv3 {ρ : REnv} {σ : L2.St} {d : DSt} {F H : Hp} {s t r : Sl} {u v w : V} {i j l : Nat} (h : BR C B (ρ ++ [s, t, r]) d (σ ++ [some u, some v, some w]) F H) (hl : σ.length = ρ.length) (hi : i < ρ.length) (hj : j < ρ.length) (hk : l < ρ.length) (hij : i ≠ j) (hil : i ≠ l) (hjl : j ≠ l) :
    BR C B (((ρ.set i s).set j t).set l r) d (((σ.set i (some u)).set j (some v)).set l (some w)) F H := by
  have e1 : ρ ++ [s, t, r] = (ρ ++ [s, t]) ++ [r] := by simp
  have e2 : σ ++ [some u, some v, some w] = (σ ++ [some u, some v]) ++ [some w] := by simp
  rw [e1, e2] at h
  have z := h.mv (by simp [hl]) l
  rw [List.set_append_left _ _ hk, List.set_append_left _ _ (by omega)] at z
  have z2 := z.mv2 (i := i) (j := j) (by simp [hl]) (by simpa using hi) (by simpa using hj) hij
  rw [List.set_comm _ _ (Ne.symm hil), List.set_comm _ _ (Ne.symm hil), List.set_comm _ _ (Ne.symm hjl), List.set_comm _ _ (Ne.symm hjl)] at z2
  exact z2
theorem rs_par2 {i j : Nat} {x y : Str} {px py pt : Pos} {kt k2 pt2} (hc : X.calm = true) (hN : X.N.Nodup) (hi : X.N[i]? = some x) (hj : X.N[j]? = some y) (hij : i ≠ j)
    (hx : X.env.scope.names.lookup x = some .local) (hy : X.env.scope.names.lookup y = some .local) (ha : RM X C B E [a, b] is)
    (hw : swappedStores [.Tuple [.Name x px, .Name y py] kt pt] (.Tuple [a, b] k2 pt2) X.env = pure (some [x, y]))
    (hs : swapsWithSole [.Tuple [.Name x px, .Name y py] kt pt] (.Tuple [a, b] k2 pt2) pos.line X.env = pure false := by rfl) (hi2 : is.length = 2 := by rfl) :
    RSt X C B E (.Assign [.Tuple [.Name x px, .Name y py] kt pt] (.Tuple [a, b] k2 pt2) pos) (sPar [i, j] is) := by
  refine PS.weak (ps_par hc hN hi hj hij hx hy ha hw hs) fun D σ H h => ?_
  obtain ⟨F, ρ, d, b0, h⟩ := h
  refine ⟨F, ρ, d, [], [], b0.len, by simpa using b0, ?_⟩
  unfold sPar at h
  split at h
  · rename_i hall
    simp only [List.all_cons, List.all_nil, Bool.and_true, Bool.and_eq_true, decide_eq_true_eq] at hall
    revert h
    cases q : mixR is ρ d with
    | ok ss d' =>
      have hlen := mixR_len q
      rw [hi2] at hlen
      intro h F' H' vs b1 s1 l1
      match ss, vs, hlen, l1 with
      | [s, t], [v, w], _, _ =>
        refine ⟨v, w, rfl, h _ F' H' ?_ s1⟩
        simp only [List.append_nil, List.map_cons, List.map_nil] at b1
        exact b1.mv2 b0.len hall.1 hall.2 hij
    | ex e d' => exact fun h => h _
    | no => exact fun h => h
  · exact h.elim
theorem rs_par3 {i j l : Nat} {x y z : Str} {px py pz pt : Pos} {kt k2 pt2} (hc : X.calm = true) (hN : X.N.Nodup) (hi : X.N[i]? = some x) (hj : X.N[j]? = some y) (hl : X.N[l]? = some z) (hij : i ≠ j) (hil : i ≠ l) (hjl : j ≠ l)
    (hx : X.env.scope.names.lookup x = some .local) (hy : X.env.scope.names.lookup y = some .local) (hz : X.env.scope.names.lookup z = some .local) (ha : RM X C B E [a, b, c] is)
    (hw : swappedStores [.Tuple [.Name x px, .Name y py, .Name z pz] kt pt] (.Tuple [a, b, c] k2 pt2) X.env = pure (some [x, y, z]))
    (hs : swapsWithSole [.Tuple [.Name x px, .Name y py, .Name z pz] kt pt] (.Tuple [a, b, c] k2 pt2) pos.line X.env = pure false := by rfl) (hi2 : is.length = 3 := by rfl) :
    RSt X C B E (.Assign [.Tuple [.Name x px, .Name y py, .Name z pz] kt pt] (.Tuple [a, b, c] k2 pt2) pos) (sPar [i, j, l] is) := by
  refine PS.weak (ps_par3 hc hN hi hj hl hij hil hjl hx hy hz ha hw hs) fun D σ H h => ?_
  obtain ⟨F, ρ, d, b0, h⟩ := h
  refine ⟨F, ρ, d, [], [], b0.len, by simpa using b0, ?_⟩
  unfold sPar at h
  split at h
  · rename_i hall
    simp only [List.all_cons, List.all_nil, Bool.and_true, Bool.and_eq_true, decide_eq_true_eq] at hall
    revert h
    cases q : mixR is ρ d with
    | ok ss d' =>
      have hlen := mixR_len q
      rw [hi2] at hlen
      intro h F' H' vs b1 s1 l1
      match ss, vs, hlen, l1 with
      | [s, t, r], [u, v, w], _, _ =>
        refine ⟨u, v, w, rfl, h _ F' H' ?_ s1⟩
        simp only [List.append_nil, List.map_cons, List.map_nil] at b1
        exact b1.mv3 b0.len hall.1 hall.2.1 hall.2.2 hij hil hjl
    | ex e d' => exact fun h => h _
    | no => exact fun h => h
  · exact h.elim
/-! ### target = e -/
def sAsg (t : Tg) (m : EM) : SM := sE m fun x ρ d => match t.set x ρ with
  | some ρ' => .nx ρ' d
  | none => .no
theorem rs_asg {tg : Expr} {t : Tg} (he : RE X C B E e m) (hg : RG X C B tg t) (hs : swapsWithSole [tg] e pos.line X.env = pure false := by rfl) (hw : swappedStores [tg] e X.env = pure none := by rfl)
    (h1 : (assignEach [tg] X.env).map (·.2) = [assign tg X.env] := by rfl) : RSt X C B E (.Assign [tg] e pos) (sAsg t m) := by
  refine PS.weak (ps_asg he hg hs hw h1) fun D σ H h => ?_
  obtain ⟨F, ρ, d, b, q⟩ := h.ev
  refine ⟨F, ρ, d, b, q.imp fun v H1 q => ?_⟩
  obtain ⟨F1, ρ1, d1, x, b1, r1, k1⟩ := q
  split at k1
  · rename_i ρ' e'
    exact ⟨F1, ρ1, d1, x, ρ', b1, r1, e', fun σ' b' _ => k1 σ' F1 H1 b' (Sk.refl _ _)⟩
  · exact k1.elim
end
end RL
end M_R14
section M_R15
namespace RL
open PySem PySem.Spec PyProof.Rows L2

/-! ### self.f = e while the object is made -/
section
variable {C : Pl} {B : Bp} {ρ : REnv} {d : DSt} {σ : L2.St} {F H : Hp}
theorem BR.own_any (h : BR C B ρ d σ F H) {i : Nat} {s0 : Sl} (e : ρ[i]? = some s0) (o0 : s0.isOwn = true) : ∃ a, SlR C B F H a s0 σ[i]? ∧
    ∀ (F' H' : Hp) (s : Sl) (o : Option V), BG C B d F' H' → Sk C F F' → (∀ b u, b ≠ a → H b = some u → H' b = some u) → (∀ b u, F' b = some u → F b = some u ∨ b = a) →
      (s.isOwn = true → SlR C B F' H' a s (some o)) → (s.isOwn = false → ∀ b, SlR C B F' H' b s (some o)) → BR C B (ρ.set i s) d (σ.set i o) F' H' := by
  obtain ⟨ad, h1, h2⟩ := h.sl
  refine ⟨ad i, h1 i _ e, fun F' H' s o b sf kh kf ho hn => ⟨b, by simp [h.len], ad, fun j t et => ?_, fun j k t u e1 e2 o1 o2 ea => ?_⟩⟩
  · rcases getElem_set et with ⟨rfl, rfl, hl⟩ | ⟨hj, et⟩
    · rw [List.getElem?_set_self (by rw [h.len]; exact hl)]
      cases q : t.isOwn with
      | true => exact ho q
      | false => exact hn q _
    · rw [List.getElem?_set_ne (Ne.symm hj)]
      have z := h1 j t et
      have other : t.isOwn = true → ad j ≠ ad i := fun o1 ea => hj (h2 j i t _ et e o1 o0 ea)
      have ow : ∀ {c}, c ≠ ad i → Own B F c → Own B F' c := fun {c} hc w => by
        obtain ⟨w1, w2, w3⟩ := w
        refine ⟨?_, w2, w3⟩
        cases q : F' c with
        | none => rfl
        | some o =>
          rcases kf c o q with q | q
          · rw [w1] at q; cases q
          · exact absurd q hc
      cases t with
      | un => trivial
      | val x => obtain ⟨v, e, r⟩ := z; exact ⟨v, e, r.mono sf⟩
      | own l' => obtain ⟨e, w, vs', k1, k2⟩ := z; exact ⟨e, ow (other rfl) w, vs', kh _ _ (other rfl) k1, k2.mono sf⟩
      | obj c xs => obtain ⟨e, w, A, dx, vs', k0, k1, kl, k2, k3⟩ := z; exact ⟨e, ow (other rfl) w, A, dx, vs', k0, kh _ _ (other rfl) k1, kl, k2.mono sf, k3⟩
      | dr => exact z
      | lam => exact z
  · rcases getElem_set e1 with ⟨z1, _, _⟩ | ⟨hj, f1⟩
    · rcases getElem_set e2 with ⟨z2, _, _⟩ | ⟨hk, f2⟩
      · rw [z1, z2]
      · rw [z1] at ea
        exact (hk (h2 k i u _ f2 e o2 o0 ea.symm)).elim
    · rcases getElem_set e2 with ⟨z2, _, _⟩ | ⟨hk, f2⟩
      · rw [z2] at ea
        exact (hj (h2 j i t _ f1 e o1 o0 ea)).elim
      · exact h2 j k t u f1 f2 o1 o2 ea
theorem set_id {α : Type} {xs : List α} {i : Nat} {x : α} (e : xs[i]? = some x) : xs.set i x = xs := by
  apply List.ext_getElem?
  intro j
  by_cases hj : i = j
  · subst hj
    obtain ⟨hl, _⟩ := List.getElem?_eq_some_iff.mp e
    rw [List.getElem?_set_self hl, e]
  · rw [List.getElem?_set_ne hj]
theorem putF_zip {f : Str} {y : V} : ∀ {N : List Str} {vs : List V}, N.Nodup → N[vs.length]? = some f → putF f y (N.zip vs) = N.zip (vs ++ [y])
  | [], _, _, e => by simp at e
  | n :: N, [], _, e => by
    simp at e; subst e
    simp [putF]
  | n :: N, v :: vs, hN, e => by
    rw [List.nodup_cons] at hN
    have e' : N[vs.length]? = some f := by simpa using e
    have hne : n ≠ f := fun z => by
      subst z
      exact hN.1 (List.mem_of_getElem? e')
    show (if n = f then _ else _) = _
    rw [if_neg hne]
    have z := putF_zip (f := f) (y := y) hN.2 e'
    show (n, v) :: putF f y (N.zip vs) = _
    rw [z]
    rfl
end
/-- a field of a class, set -/
structure FldT (X : Cx) (C : Pl) (c : Nat) (n : Nat) (f : Str) : Prop where
  at_ : ∃ A, C.ad c = some A ∧ Cls X.K A ∧ NoAttr X.K A f
  nd : (C.fl c).Nodup
  ix : (C.fl c)[n]? = some f
  le : (C.fl c).length < 1000
def sFld (i c n : Nat) (m : EM) : SM := sE m fun x ρ d => match (ρ[i]? : Option Sl) with
  | some (.obj c' xs) => if c' = c ∧ xs.length = n then .nx (ρ.set i (.obj c (xs ++ [x]))) d else .no
  | _ => .no
section
variable {X : Cx} {C : Pl} {B : Bp} {E : XS} {pos pos' p : Pos} {e : Expr} {m : EM}
theorem rs_fld (i : Nat) {c n : Nat} {x f : Str} (hN : X.N[i]? = some x) (hv : Vis X.env.scope x) (T : FldT X C c n f) (he : RE X C B E e m)
    (hs : swapsWith e (some (.Attribute (.Name x p) f pos')) pos.line X.env = pure false := by rfl) (hd : (x == ("__debug__" : Str)) = false := by decide) (hcd : (x == ("__classdict__" : Str)) = false := by decide) :
    RSt X C B E (.Assign [.Attribute (.Name x p) f pos'] e pos) (sFld i c n m) := by
  refine PS.weak (ps_fld (pe_var hN hv hd hcd) he hs) fun D σ H h => ?_
  obtain ⟨F, ρ, d, b, q⟩ := h.ev
  refine ⟨F, ρ, d, b, q.imp fun v H1 q => ?_⟩
  obtain ⟨F1, ρ1, d1, y, b1, r1, k1⟩ := q
  split at k1
  · rename_i c' xs ez
    split at k1
    · rename_i hc
      obtain ⟨rfl, hn⟩ := hc
      obtain ⟨a, q1, q2⟩ := b1.own_any ez rfl
      obtain ⟨eσ, w, A, dx, vs, eA, eH, lv, rv, so⟩ := q1
      obtain ⟨A', eA', cl, na⟩ := T.at_
      rw [eA] at eA'; cases eA'
      have hlen := rv.length
      have hlt : n < (C.fl c').length := (List.getElem?_eq_some_iff.mp T.ix).1
      refine ⟨_, eσ, a, A, dx, _, rfl, eH, cl, na, ?_, ?_⟩
      · rw [List.length_zip]
        have := T.le
        omega
      · refine k1 _ F1 _ ?_ (Sk.refl _ _)
        have z := q2 F1 (upd H1 a (.ins A dx (putF f v ((C.fl c').zip vs)))) (.obj c' (xs ++ [y])) (some (.ref a)) (b1.g.write w (nx_ins.at eH)) (Sk.refl _ _) (fun b u hb q => by rw [upd_ne hb]; exact q) (fun b u q => .inl q)
          (fun _ => ⟨rfl, w, A, dx, vs ++ [v], eA, ?_, ?_, rv.append (.cons r1 .nil), so⟩) (fun q => nomatch q)
        · rw [set_id eσ] at z
          exact z
        · rw [upd_same, putF_zip T.nd (by rw [← hlen, hn]; exact T.ix)]
        · rw [List.length_append, List.length_singleton, ← hlen]; omega
    · exact k1.elim
  · exact k1.elim
end
end RL
end M_R15
section M_R16
namespace RL
open PySem PySem.Spec PyProof.Rows L2

/-! ### the draws -/
def dkv (g c : Addr) (n : Int) : List (Key × V) := [(.inr "cells", .ref c), (.inr "great", .ref g), (.inr "spot", .int n)]
theorem key1 : ¬ ((.inr "cells" : Key) = .inr "great") := by decide
theorem key2 : ¬ ((.inr "cells" : Key) = .inr "spot") := by decide
theorem key3 : ¬ ((.inr "great" : Key) = .inr "spot") := by decide
theorem valV_cells {g c : Addr} {n : Int} : valV (dkv g c n) (.inr "cells") = some (.ref c) := valV_pos rfl
theorem valV_great {g c : Addr} {n : Int} : valV (dkv g c n) (.inr "great") = some (.ref g) := (valV_neg key1).trans (valV_pos rfl)
theorem valV_spot {g c : Addr} {n : Int} : valV (dkv g c n) (.inr "spot") = some (.int n) := (valV_neg key2).trans ((valV_neg key3).trans (valV_pos rfl))
theorem putK_spot {g c : Addr} {n m : Int} : putK (dkv g c n) (.inr "spot") (.int m) = dkv g c m := by
  have h1 : ¬ Str.ofString "cells" = Str.ofString "spot" := by decide
  have h2 : ¬ Str.ofString "great" = Str.ofString "spot" := by decide
  simp [putK, dkv, h1, h2]
section
variable {C : Pl} {B : Bp} {ρ : REnv} {d d' : DSt} {σ : L2.St} {F H H' : Hp} {a g c : Addr}
theorem BR.dr_at (b : BR C B ρ d σ F H) {i : Nat} (e : (ρ[i]? : Option Sl) = some .dr) : ∃ a g c, B.da = some (a, g, c) ∧ σ[i]? = some (some (.ref a)) ∧ DrawAt C.K F H a g c d := by
  obtain ⟨ad, h1, _⟩ := b.sl
  obtain ⟨p, hp, eσ⟩ := h1 i _ e
  obtain ⟨a, g, c⟩ := p
  exact ⟨a, g, c, hp, eσ, b.g.dr a g c hp⟩
theorem DrawAt.ne (D : DrawAt C.K F H a g c d) : a ≠ g := fun z => by
  obtain ⟨h1, h2, _⟩ := D
  rw [z, h2] at h1; cases h1
theorem Kp.same {T : List (Addr × Str)} {H0 H H' : Hp} {x : Addr} {o : HO} (k : Kp T H0 H x o) (e : H' x = H x) (tt : ∀ P q, LamX.TabS H P q → LamX.TabS H' P q) : Kp T H0 H' x o := by
  cases o with
  | tbl ps =>
    obtain ⟨⟨ps', z⟩, y⟩ := k
    exact ⟨⟨ps', by rw [e]; exact z⟩, fun q m t => tt _ q (y q m t)⟩
  | _ => exact e.trans k
/-- the draws have gone on -/
theorem BG.drew (b : BG C B d F H) (e : B.da = some (a, g, c)) (hc : d'.cells = d.cells) (hk : ∀ x, x ≠ a → x ≠ g → H' x = H x) (D : DrawAt C.K F H' a g c d') : BG C B d' F H' ∧ Go C B F H F H' := by
  obtain ⟨h1, h2, h3, h4, h5⟩ := b.dr a g c e
  have there : ∀ x o, H x = some o → ∃ o', H' x = some o' := fun x o q => by
    by_cases z : x = a
    · subst z; exact ⟨_, D.1⟩
    · by_cases z2 : x = g
      · subst z2; exact ⟨_, D.2.1⟩
      · exact ⟨o, by rw [hk x z z2]; exact q⟩
  have tt : ∀ P q, LamX.TabS H P q → LamX.TabS H' P q := fun P q t => by
    have off : ∀ {x : Addr} {o : HO}, H x = some o → ¬ NX o → x ≠ a ∧ x ≠ g := fun {x o} q n => ⟨fun z => n (nx_dK.at h1 _ (by rw [← z]; exact q)), fun z => n (nx_lst.at h2 _ (by rw [← z]; exact q))⟩
    obtain ⟨ps, t1, t2, t3⟩ := t
    obtain ⟨n1, n2⟩ := off t1 (fun z => z.1 _ rfl)
    refine ⟨ps, by rw [hk _ n1 n2]; exact t1, t2, fun pos cv hc => ?_⟩
    obtain ⟨c0, e1, e2⟩ := t3 pos cv hc
    obtain ⟨n3, n4⟩ := off e2 (fun z => z.2 _ rfl)
    exact ⟨c0, e1, by rw [hk _ n3 n4]; exact e2⟩
  refine ⟨⟨fun x o q => ?_, b.f0, b.nw, fun x o z0 q m => ?_, fun a' g' c' e' => ?_, fun n => by rw [hc]; exact b.ce n, fun x q => ?_, fun p hp => ⟨(b.tb p hp).1, tt _ _ (b.tb p hp).2⟩⟩, ⟨Sk.refl C F, fun x o _ q m => ?_, there, fun x o q => .inl ⟨o, q⟩⟩⟩
  · rw [hk x (fun z => by rw [z, h4] at q; cases q) (fun z => by rw [z, h5] at q; cases q)]
    exact b.fh x o q
  · exact (b.od x o z0 q m).same (hk x (fun z => m (.inl ⟨_, e, .inl z⟩)) (fun z => m (.inl ⟨_, e, .inr z⟩))) tt
  · rw [e] at e'; cases e'; exact D
  · obtain ⟨q1, o, q2⟩ := b.os x q
    exact ⟨q1, there x o q2⟩
  · exact (Kp.all (fun _ _ z => z) q).same (hk x (fun z => m ⟨_, e, .inl z⟩) (fun z => m ⟨_, e, .inr z⟩)) tt
theorem DrawAt.spot (D : DrawAt C.K F H a g c d) (n : Int) : DrawAt C.K F (upd H a (.dK (dkv g c n))) a g c { d with spot := n } := by
  obtain ⟨h1, h2, h3, h4, h5⟩ := id D
  exact ⟨upd_same, by rw [upd_ne (Ne.symm D.ne)]; exact h2, h3, h4, h5⟩
theorem DrawAt.put (D : DrawAt C.K F H a g c d) (l : List Int) : DrawAt C.K F (upd H g (.lst (l.map V.int))) a g c { d with great := l } := by
  obtain ⟨h1, h2, h3, h4, h5⟩ := id D
  exact ⟨by rw [upd_ne D.ne]; exact h1, upd_same, h3, h4, h5⟩
end
def eSpot (i : Nat) : EM := fun ρ d => match (ρ[i]? : Option Sl) with
  | some .dr => .ok (.int d.spot) d
  | _ => .no
def sSpot (i : Nat) (m : EM) : SM := sE m fun x ρ d => match x, (ρ[i]? : Option Sl) with
  | .int n, some .dr => .nx ρ { d with spot := n }
  | _, _ => .no
def eCellIx (i : Nat) (m : EM) : EM := fun ρ d => match (ρ[i]? : Option Sl) with
  | some .dr => (m ρ d).bind fun y d1 => match y with
    | .int k => (match (ixN d.cells.length k).bind (fun j => d.cells[j]?) with
      | some v => .ok (.int v) d1
      | none => .no)
    | _ => .no
  | _ => .no
def eGrIx (i : Nat) (m : EM) : EM := fun ρ d => match (ρ[i]? : Option Sl) with
  | some .dr => (m ρ d).bind fun y d1 => match y with
    | .int k => (match (ixN d1.great.length k).bind (fun j => d1.great[j]?) with
      | some v => .ok (.int v) d1
      | none => .no)
    | _ => .no
  | _ => .no
def eGrLen (i : Nat) : EM := fun ρ d => match (ρ[i]? : Option Sl) with
  | some .dr => .ok (.int d.great.length) d
  | _ => .no
def bGr (i : Nat) : BM := fun ρ d => match (ρ[i]? : Option Sl) with
  | some .dr => if SeqAt.shaped (.list (d.great.map PyData.int)) = true then .ok (!PyData.eqv (.list (d.great.map PyData.int)) (.list [])) d else .no
  | _ => .no
def sGr (i : Nat) (mi m : EM) : SM := fun ρ d => match (ρ[i]? : Option Sl) with
  | some .dr => (match m ρ d with
    | .ok (.int v) d1 => (match mi ρ d1 with
      | .ok (.int k) d2 => (match ixN d2.great.length k with
        | some j => .nx ρ { d2 with great := d2.great.set j v }
        | none => .no)
      | _ => .no)
    | .ok _ _ => .no
    | .ex e d1 => .ex e d1
    | .no => .no)
  | _ => .no
theorem map_atI {xs : List Int} {k v : Int} (e : (ixN xs.length k).bind (fun j => xs[j]?) = some v) : atI (xs.map V.int) k = some (V.int v) := by
  unfold atI
  rw [List.length_map]
  cases q : ixN xs.length k with
  | none => rw [q] at e; cases e
  | some j =>
    rw [q] at e
    have e' : xs[j]? = some v := e
    show (xs.map V.int)[j]? = _
    rw [List.getElem?_map, e']; rfl
theorem dpAll_ints {K : PySem.W.Frag} {H : Hp} : ∀ l : List Int, DpAll K H (l.map V.int) (l.map PyData.int)
  | [] => .nil
  | i :: l => .cons (.int i) (dpAll_ints l)
section
variable {X : Cx} {C : Pl} {B : Bp} {E : XS} {pos p1 p2 p3 p4 : Pos} {j : Nat} {e ix : Expr} {m mi : EM} {x : Str}
theorem pe_key (i : Nat) {key : Str} (hu : X.A.units + 1 < cLine) (hN : X.N[i]? = some x) (hv : Vis X.env.scope x) (hd : (x == ("__debug__" : Str)) = false) (hcd : (x == ("__classdict__" : Str)) = false) :
    PE X (.Subscript (.Name x p1) (.Constant (.str key) j p2) pos) (tDGet (tVar i) (tC (.str key))) := pe_dget hu (pe_var hN hv hd hcd) pe_str (fun _ _ => rfl)
theorem re_spot (i : Nat) (hu : X.A.units + 1 < cLine) (hN : X.N[i]? = some x) (hv : Vis X.env.scope x) (hd : (x == ("__debug__" : Str)) = false := by decide) (hcd : (x == ("__classdict__" : Str)) = false := by decide) :
    RE X C B E (.Subscript (.Name x p1) (.Constant (.str "spot") j p2) pos) (eSpot i) := by
  refine PE.weak (pe_key i hu hN hv hd hcd) fun σ H Q h => ?_
  obtain ⟨F, ρ, d, b, h⟩ := h
  unfold eSpot at h
  split at h
  · rename_i ei
    obtain ⟨a, g, c, e, eσ, D⟩ := b.dr_at ei
    exact ⟨.ref a, eσ, a, .int d.spot, rfl, .inl ⟨_, .inr "spot", .inl D.1, rfl, valV_spot.symm⟩, h.here b.g rfl⟩
  · exact h.elim
theorem rs_spot (i : Nat) (hu : X.A.units + 1 < cLine) (hN : X.N[i]? = some x) (hv : Vis X.env.scope x) (he : RE X C B E e m) (hs : swapsWith e (some (.Subscript (.Name x p1) (.Constant (.str "spot") j p2) p3)) pos.line X.env = pure false := by rfl)
    (hd : (x == ("__debug__" : Str)) = false := by decide) (hcd : (x == ("__classdict__" : Str)) = false := by decide) :
    RSt X C B E (.Assign [.Subscript (.Name x p1) (.Constant (.str "spot") j p2) p3] e pos) (sSpot i m) := by
  refine PS.weak (ps_dput hu (pe_var hN hv hd hcd) pe_str he hs) fun D σ H h => ?_
  obtain ⟨F, ρ, d, b, q⟩ := h.ev
  refine ⟨F, ρ, d, b, q.imp fun v H1 q => ?_⟩
  obtain ⟨F1, ρ1, d1, y, b1, r1, k1⟩ := q
  split at k1
  · rename_i n ei
    obtain ⟨a, g, c, e, eσ, Dr⟩ := b1.dr_at ei
    cases r1
    refine ⟨.ref a, eσ, a, _, rfl, .inl ⟨_, .inr "spot", Dr.1, rfl, by show 3 < sizeLine; rw [sizeLine_eq]; decide, rfl⟩, ?_⟩
    obtain ⟨b2, g2⟩ := b1.g.drew (d' := { d1 with spot := n }) (H' := upd H1 a (.dK (dkv g c n))) e rfl (fun x z z2 => upd_ne z) (Dr.spot n)
    have z := k1 σ F1 _ (b1.go b2 g2) (Sk.refl _ _)
    rw [← putK_spot (m := n) (n := d1.spot)] at z
    exact z
  · exact k1.elim
theorem re_cellIx (i : Nat) (hK : X.K = C.K) (hu : X.A.units + 1 < cLine) (hN : X.N[i]? = some x) (hv : Vis X.env.scope x) (hi : RE X C B E ix mi) (hp : PlainIx ix) (hd : (x == ("__debug__" : Str)) = false := by decide) (hcd : (x == ("__classdict__" : Str)) = false := by decide) :
    RE X C B E (.Subscript (.Subscript (.Name x p1) (.Constant (.str "cells") j p2) p3) ix pos) (eCellIx i mi) := by
  refine PE.weak (pe_ix ix_list (pe_key i hu hN hv hd hcd) hi hp) fun σ H Q h => ?_
  obtain ⟨F, ρ, d, b, h⟩ := h
  unfold eCellIx at h
  split at h
  · rename_i ei
    obtain ⟨a, g, c, e, eσ, D⟩ := b.dr_at ei
    refine ⟨.ref a, eσ, a, .ref c, rfl, .inl ⟨_, .inr "cells", .inl D.1, rfl, valV_cells.symm⟩, F, ρ, d, b, (tK.bind (Rp := Rep C) h).imp fun y H1 q => ?_⟩
    obtain ⟨F1, d1, py, b1, g1, r1, k1⟩ := q
    split at k1
    · split at k1
      · rename_i v ev
        cases r1
        exact ⟨c, _, _, _, rfl, rfl, by rw [hK]; exact Same.seq b1.fh (g1.s.seq D.2.2.1), map_atI ev, k1.here b1 rfl⟩
      · exact k1.elim
    · exact k1.elim
  · exact h.elim
theorem re_grIx (i : Nat) (hu : X.A.units + 1 < cLine) (hN : X.N[i]? = some x) (hv : Vis X.env.scope x) (hi : RE X C B E ix mi) (hp : PlainIx ix) (hd : (x == ("__debug__" : Str)) = false := by decide) (hcd : (x == ("__classdict__" : Str)) = false := by decide) :
    RE X C B E (.Subscript (.Subscript (.Name x p1) (.Constant (.str "great") j p2) p3) ix pos) (eGrIx i mi) := by
  refine PE.weak (pe_ix ix_list (pe_key i hu hN hv hd hcd) hi hp) fun σ H Q h => ?_
  obtain ⟨F, ρ, d, b, h⟩ := h
  unfold eGrIx at h
  split at h
  · rename_i ei
    obtain ⟨a, g, c, e, eσ, D⟩ := b.dr_at ei
    refine ⟨.ref a, eσ, a, .ref g, rfl, .inl ⟨_, .inr "great", .inl D.1, rfl, valV_great.symm⟩, F, ρ, d, b, (tK.bind (Rp := Rep C) h).imp fun y H1 q => ?_⟩
    obtain ⟨F1, d1, py, b1, g1, r1, k1⟩ := q
    split at k1
    · split at k1
      · rename_i v ev
        cases r1
        obtain ⟨_, h2, _⟩ := b1.dr a g c e
        exact ⟨g, _, _, _, rfl, rfl, SqL.of h2, map_atI ev, k1.here b1 rfl⟩
      · exact k1.elim
    · exact k1.elim
  · exact h.elim
theorem re_grLen (i : Nat) (hu : X.A.units + 1 < cLine) (hN : X.N[i]? = some x) (hv : Vis X.env.scope x) (hg : Gl X "len") (hm : X.mg "len" = none)
    (he : starEach [.Subscript (.Name x p1) (.Constant (.str "great") j p2) p3] X.env = (false, eval (.Subscript (.Name x p1) (.Constant (.str "great") j p2) p3) X.env) :: starEach [] X.env := by rfl)
    (hd : (x == ("__debug__" : Str)) = false := by decide) (hcd : (x == ("__classdict__" : Str)) = false := by decide) :
    RE X C B E (.Call (.Name "len" p4) [.Subscript (.Name x p1) (.Constant (.str "great") j p2) p3] [] pos) (eGrLen i) := by
  refine PE.weak (pe_callB call_len hg hm rfl (pa_cons (pe_key i hu hN hv hd hcd) pa_nil he) (by decide) (by decide) he rfl) fun σ H Q h => ?_
  obtain ⟨F, ρ, d, b, h⟩ := h
  unfold eGrLen at h
  split at h
  · rename_i ei
    obtain ⟨a, g, c, e, eσ, D⟩ := b.dr_at ei
    refine ⟨.ref a, eσ, a, .ref g, rfl, .inl ⟨_, .inr "great", .inl D.1, rfl, valV_great.symm⟩, _, _, rfl, .inl ⟨_, SqL.of D.2.1, rfl⟩, h.here b.g ?_⟩
    rw [List.length_map]; exact rfl
  · exact h.elim
theorem rt_gr (i : Nat) (hu : X.A.units + 64 < cLine) (hN : X.N[i]? = some x) (hv : Vis X.env.scope x) (hm : behindInMarks .NotEq (.List [] p4) = false := by rfl) (hd : (x == ("__debug__" : Str)) = false := by decide) (hcd : (x == ("__classdict__" : Str)) = false := by decide) :
    RT X C B E (.Compare (.Subscript (.Name x p1) (.Constant (.str "great") j p2) p3) [.NotEq] [.List [] p4] pos) (bGr i) := by
  refine PT.weak (pt_cmpR (op_neD hu) (pe_key i (by omega) hN hv hd hcd) (pe_lst pa_nil) hm) fun σ H Q h => ?_
  obtain ⟨F, ρ, d, b, h⟩ := h
  unfold bGr at h
  split at h
  · rename_i ei
    split at h
    · rename_i hsh
      obtain ⟨a, g, c, e, eσ, D⟩ := b.dr_at ei
      refine ⟨.ref a, eσ, a, .ref g, rfl, .inl ⟨_, .inr "great", .inl D.1, rfl, valV_great.symm⟩, Nat.zero_le _, fun p hp => ⟨_, _, .lst (SqL.of ?_) (dpAll_ints _), .lst (SqL.of upd_same) .nil, hsh, rfl, _, rfl, ?_⟩⟩
      · rw [upd_ne (fun z => by rw [← z, D.2.1] at hp; cases hp)]
        exact D.2.1
      · exact h F _ _ (b.g.junk hp) (Go.junk b.g.fh hp) rfl
    · exact h.elim
  · exact h.elim
theorem rs_gr (i : Nat) (hu : X.A.units + 1 < cLine) (hN : X.N[i]? = some x) (hv : Vis X.env.scope x) (hi : RE X C B E ix mi) (he : RE X C B E e m)
    (ha : ∀ v, assign (.Subscript (.Subscript (.Name x p1) (.Constant (.str "great") j p2) p3) ix p4) X.env v = (do
      let ov ← holding [v] (eval (.Subscript (.Name x p1) (.Constant (.str "great") j p2) p3) X.env)
      let iv ← holding [v, ov] (eval ix X.env)
      standAt p4
      holding [v, ov, iv] (setItem ov iv v)
      release [v, ov, iv] []) := by intro _; rfl)
    (hs : swapsWithSole [.Subscript (.Subscript (.Name x p1) (.Constant (.str "great") j p2) p3) ix p4] e pos.line X.env = pure false := by rfl) (hw : swappedStores [.Subscript (.Subscript (.Name x p1) (.Constant (.str "great") j p2) p3) ix p4] e X.env = pure none := by rfl)
    (h1 : (assignEach [.Subscript (.Subscript (.Name x p1) (.Constant (.str "great") j p2) p3) ix p4] X.env).map (·.2) = [assign (.Subscript (.Subscript (.Name x p1) (.Constant (.str "great") j p2) p3) ix p4) X.env] := by rfl)
    (hd : (x == ("__debug__" : Str)) = false := by decide) (hcd : (x == ("__classdict__" : Str)) = false := by decide) :
    RSt X C B E (.Assign [.Subscript (.Subscript (.Name x p1) (.Constant (.str "great") j p2) p3) ix p4] e pos) (sGr i mi m) := by
  refine PS.weak (ps_asg he (pg_sub (pe_key i hu hN hv hd hcd) hi set_list ha) hs hw h1) fun D σ H h => ?_
  obtain ⟨F, ρ, d, b, h⟩ := h
  unfold sGr at h
  split at h
  · rename_i ei
    refine ⟨F, ρ, d, b, ?_⟩
    revert h
    cases q : m ρ d with
    | ok y d1 =>
      intro h F1 H1 v b1 g1 r1
      cases y with
      | int n =>
        cases r1
        have B1 := b.go b1 g1
        obtain ⟨a, g, c, e', eσ, Dr⟩ := B1.dr_at ei
        refine ⟨.ref a, eσ, a, .ref g, rfl, .inl ⟨_, .inr "great", .inl Dr.1, rfl, valV_great.symm⟩, F1, ρ, d1, B1, ?_⟩
        revert h
        dsimp only
        cases q2 : mi ρ d1 with
        | ok z d2 =>
          intro h F2 H2 u b2 g2 r2
          cases z with
          | int k =>
            dsimp only at h
            split at h
            · rename_i jj ej
              cases r2
              have B2 := B1.go b2 g2
              obtain ⟨h1', h2', h3', h4', h5'⟩ := b2.dr a g c e'
              refine ⟨g, _, k, jj, rfl, rfl, h2', by rw [List.length_map]; exact ej, ?_⟩
              obtain ⟨b3, g3⟩ := b2.drew (d' := { d2 with great := d2.great.set jj n }) (H' := upd H2 g (.lst ((d2.great.set jj n).map V.int))) e' rfl (fun x z z2 => upd_ne z2) (DrawAt.put ⟨h1', h2', h3', h4', h5'⟩ _)
              rw [← List.map_set]
              exact h σ F2 _ (B2.go b3 g3) (g1.s.trans g2.s)
            · exact h.elim
          | _ => exact h.elim
        | ex e d2 => exact fun h => h.elim
        | no => exact fun h => h.elim
      | _ => exact h.elim
    | ex e d1 => exact fun h _ _ _ _ b _ r => h _ _ _ _ _ b r
    | no => exact fun h => h
  · exact h.elim
end
end RL
end M_R16
section M_R17
namespace RL
open PySem PySem.Spec PyProof.Rows L2

/-! ### defs that draw: the draws are their first parameter -/
structure GrowD (C : Pl) (a g : Addr) (F H F' H' : Hp) : Prop where
  s : Sk C F F'
  f : Same F' H'
  h : ∀ b o, b ≠ a → b ≠ g → F b = none → H b = some o → Kp C.tb H H' b o
  n : ∀ b o, F' b = some o → (∃ u, F b = some u) ∨ H b = none
abbrev MFn := List PV → DSt → R PV
def spM (C : Pl) (fn : MFn) : Sp := fun vs H Q E => ∃ F xs ws a g c d, vs = V.ref a :: ws ∧ Same F H ∧ TbOk C F H ∧ RepL C F xs ws ∧ DrawAt C.K F H a g c d ∧ match fn xs d with
  | .ok y d' => ∀ F' H' v, GrowD C a g F H F' H' → DrawAt C.K F' H' a g c d' → d'.cells = d.cells → Rep C F' y v → Q v H'
  | .ex e d' => ∀ F' H' cls dd, GrowD C a g F H F' H' → DrawAt C.K F' H' a g c d' → d'.cells = d.cells → ExR C F' e cls dd → E cls dd H'
  | .no => False
def RS.om : RS → R PV
  | .rt x d => .ok x d
  | .nx _ d => .ok .non d
  | .ex e d => .ex e d
  | _ => .no
def runM (np nn : Nat) (m : SM) : MFn := fun xs d => if xs.length + 1 = np then (m (startG (.dr :: xs.map .val) nn) d).om else .no
theorem BR.startM {C : Pl} {F H : Hp} {N : List Str} {a g c : Addr} {d : DSt} {ys : List PV} {ws : List V} (fh : Same F H) (tb : TbOk C F H) (rp : RepL C F ys ws) (hn : ys.length + 1 ≤ N.length) (D : DrawAt C.K F H a g c d) :
    BR C ⟨F, H, some (a, g, c), none, d.cells⟩ (startG (.dr :: ys.map .val) N.length) d (L2.start N (.ref a :: ws)) F H where
  g := ⟨fh, Sk.refl C F, fun a o e => .inl ⟨o, e⟩, fun a o _ e _ => Kp.all (fun _ _ z => z) e, fun a' g' c' e => by cases e; exact D, fun _ => rfl, fun a e => (nomatch e), tb⟩
  len := by
    have := rp.length
    simp [L2.start, RL.startG]; omega
  sl := by
    have hl2 := rp.length
    have hun : ∀ i sl, ys.length + 1 ≤ i → (startG (.dr :: ys.map .val) N.length)[i]? = some sl → sl = .un := fun i sl hi e => start_un (by simpa using hi) e
    have at_ : ∀ i sl, i < ys.length + 1 → (startG (.dr :: ys.map .val) N.length)[i]? = some sl → (i = 0 ∧ sl = .dr) ∨ ∃ j y, i = j + 1 ∧ ys[j]? = some y ∧ sl = .val y := fun i sl hi e => by
      unfold RL.startG at e
      rw [List.getElem?_append_left (by simp; omega)] at e
      cases i with
      | zero => cases e; exact .inl ⟨rfl, rfl⟩
      | succ j =>
        rw [List.getElem?_cons_succ, List.getElem?_map] at e
        cases q : ys[j]? with
        | none => rw [q] at e; cases e
        | some y => rw [q] at e; cases e; exact .inr ⟨j, y, rfl, q, rfl⟩
    refine ⟨fun _ => a, fun i sl e => ?_, fun i j s t e1 e2 o1 o2 _ => ?_⟩
    · by_cases hi : ys.length + 1 ≤ i
      · cases hun i sl hi e; trivial
      · rcases at_ i sl (by omega) e with ⟨rfl, rfl⟩ | ⟨j, y, rfl, q, rfl⟩
        · exact ⟨_, rfl, rfl⟩
        · obtain ⟨v, hv, r⟩ := rp.get q
          refine ⟨v, ?_, r⟩
          unfold L2.start
          rw [List.getElem?_append_left (by simp; omega), List.getElem?_map, List.getElem?_cons_succ, hv]; rfl
    · exfalso
      by_cases hi : ys.length + 1 ≤ i
      · cases hun i s hi e1; cases o1
      · rcases at_ i s (by omega) e1 with ⟨_, rfl⟩ | ⟨_, _, _, _, rfl⟩ <;> cases o1
theorem BG.endM {C : Pl} {F0 H0 F H : Hp} {a g c : Addr} {cl : List Int} {d : DSt} (b : BG C ⟨F0, H0, some (a, g, c), none, cl⟩ d F H) : GrowD C a g F0 H0 F H ∧ DrawAt C.K F H a g c d ∧ d.cells = cl :=
  ⟨⟨b.f0, b.fh, fun x o n1 n2 z e => b.od x o z e (by
    intro m
    rcases m with ⟨p, hp, q⟩ | hp
    · cases hp
      rcases q with q | q
      · exact n1 q
      · exact n2 q
    · cases hp), b.nw⟩, b.dr a g c rfl, b.ce (by simp)⟩
section
variable {P : Program} {w : World} {K : PySem.W.Frag} {mg : Str → Option Value} {base : Heap} {C : Pl}
theorem def_fnMC {x qual : Str} {st : Stmt} {f : Addr} {fd : FuncData} {N ps : List Str} {k : Nat} {m : SM} (F : Fun K x qual st f fd) (S : FnScope N ps (defScope st)) (bd : BdOk K fd ps (.pl []))
    (hb : ∀ (cdv : Value), fd.code = cdv → ∀ (A : Around) (outer : List Env) (s : Shared) (H : Hp) (E : XK) (F0 : Hp) (p : Addr × Addr × Addr) (cl : List Int), RmG k (A.deeper (envOfC qual (defScope st) s.heap.objs.size f cdv)) →
      RSs (cxOf (L2.CX P w) P w K mg base N qual (defScope st) f cdv A outer s H E) C ⟨F0, H, some p, none, cl⟩ (fun _ => E) (defBody st) m) :
    FnG P w K mg base (k + 1) f (spM C (runM ps.length N.length m)) := by
  have hpl : ps.length ≤ N.length := by have := congrArg List.length S.pre; rw [List.length_take] at this; omega
  obtain ⟨oc, od, kV, doc, pm, an, cdv, ct, osl, rfl, lk, hcd⟩ := F.ex
  intro A outer s H us vs0 Q E hr e0 r h
  obtain ⟨F0, xs, vs, a, g, c, d, rfl, fh, tb, rp, D, h⟩ := h
  unfold runM at h
  by_cases hl : xs.length + 1 = ps.length
  · rw [if_pos hl] at h
    have hxs := rp.length
    refine StX.run_bnd lk hcd S hr.r e0 (bd e0 r (by show _ + _ = _; simp; omega)) fun s2 H2 ws g2 hr2 => ?_
    obtain ⟨rfl, rfl⟩ := g2
    rw [List.append_nil]
    have hn : xs.length + 1 ≤ N.length := by omega
    refine ⟨_, hb cdv rfl A outer s2 H2 E F0 (a, g, c) d.cells ⟨hr2, hr.g⟩, F0, _, d, BR.startM fh tb rp hn D, ?_⟩
    revert h
    cases m (startG (.dr :: xs.map .val) N.length) d with
    | nx ρ' d' => exact fun h σ' F' H' b s' => let ⟨e1, e2, e3⟩ := b.g.endM; h F' H' .non e1 e2 e3 rfl
    | rt x d' => exact fun h ρ' σ' F' H' v b s' r => let ⟨e1, e2, e3⟩ := b.g.endM; h F' H' v e1 e2 e3 r
    | bk ρ' d' => exact fun h => h.elim
    | ct ρ' d' => exact fun h => h.elim
    | ex e d' => exact fun h _ F' H' cls dd b r => let ⟨e1, e2, e3⟩ := b.endM; h F' H' cls dd e1 e2 e3 r
    | no => exact fun h => h
  · rw [if_neg hl] at h
    exact h.elim
theorem def_fnM {x qual : Str} {st : Stmt} {f : Addr} {fd : FuncData} {N ps : List Str} {k : Nat} {m : SM} (F : Fun K x qual st f fd) (S : FnScope N ps (defScope st)) (bd : BdOk K fd ps (.pl []))
    (hb : ∀ (cdv : Value) (A : Around) (outer : List Env) (s : Shared) (H : Hp) (E : XK) (F0 : Hp) (p : Addr × Addr × Addr) (cl : List Int), RmG k (A.deeper (envOfC qual (defScope st) s.heap.objs.size f cdv)) →
      RSs (cxOf (L2.CX P w) P w K mg base N qual (defScope st) f cdv A outer s H E) C ⟨F0, H, some p, none, cl⟩ (fun _ => E) (defBody st) m) :
    FnG P w K mg base (k + 1) f (spM C (runM ps.length N.length m)) :=
  def_fnMC F S bd fun cdv _ => hb cdv
end
/-- f(m, e, ..), m the draws -/
def eCallM (i : Nat) (fn : MFn) (ms : AM) : EM := fun ρ d => match (ρ[i]? : Option Sl) with
  | some .dr => (ms ρ d).bind fun xs d1 => fn xs d1
  | _ => .no
section
variable {X : Cx} {C : Pl} {B : Bp} {E : XS} {k : Nat} {f : Addr} {fn : MFn} {x y : Str} {pos p py : Pos} {es : List Expr} {ms : AM}
theorem BG.growD {d d' : DSt} {F H F' H' : Hp} {a g c : Addr} (b : BG C B d F H) (e : B.da = some (a, g, c)) (gr : GrowD C a g F H F' H') (D : DrawAt C.K F' H' a g c d') (hc : d'.cells = d.cells) : BG C B d' F' H' ∧ Go C B F H F' H' := by
  have there : ∀ x o, H x = some o → ∃ o', H' x = some o' := fun x o q => by
    by_cases z : x = a
    · subst z; exact ⟨_, D.1⟩
    · by_cases z2 : x = g
      · subst z2; exact ⟨_, D.2.1⟩
      · cases z3 : F x with
        | none => exact (gr.h x o z z2 z3 q).ex
        | some u =>
          obtain ⟨u', q'⟩ := gr.s.some z3
          exact ⟨u', gr.f _ _ q'⟩
  refine ⟨⟨gr.f, b.f0.trans gr.s, fun x o q => ?_, fun x o z0 q m => (b.od x o z0 q m).trans fun o1 e1 => gr.h x o1 (fun z => m (.inl ⟨_, e, .inl z⟩)) (fun z => m (.inl ⟨_, e, .inr z⟩)) (nn b.nw z0 q) e1, fun a' g' c' e' => ?_, fun n => by rw [hc]; exact b.ce n, fun x q => ?_, fun p hp => ?_⟩,
    ⟨gr.s, fun x o z0 q m => gr.h x o (fun z => m ⟨_, e, .inl z⟩) (fun z => m ⟨_, e, .inr z⟩) z0 q, there, gr.n⟩⟩
  · rcases gr.n x o q with ⟨u, q⟩ | q
    · exact b.nw x u q
    · exact .inr (b.H0_none q)
  · rw [e] at e'; cases e'; exact D
  · obtain ⟨q1, o, q2⟩ := b.os x q
    exact ⟨nn gr.n q1 q2, there x o q2⟩
  · obtain ⟨t1, t2⟩ := b.tb p hp
    obtain ⟨ps, e1, _⟩ := id t2
    have D0 := b.dr a g c e
    refine ⟨nn gr.n t1 e1, (gr.h p.1 _ (fun z => ?_) (fun z => ?_) t1 e1).2 _ hp t2⟩
    · rw [z, D0.1] at e1; cases e1
    · rw [z, D0.2.1] at e1; cases e1
theorem re_callM (i : Nat) (G : FnG X.prog X.w X.K X.mg X.base k f (spM C fn)) (hr : RmG k X.A) (tk : Tk X E) (hg : Gl X x) (hm : X.mg x = some (.ref f)) (hk : PySem.W.keepIn X.K (.ref f) = true) (hN : X.N[i]? = some y) (hv : Vis X.env.scope y) (ha : RA X C B E es ms)
    (hs : starEach (.Name y py :: es) X.env = (false, eval (.Name y py) X.env) :: starEach es X.env := by rfl) (hpl : (backTo pos (starEach es X.env)).any (·.1) = false := by rfl)
    (hdb : (x == ("__debug__" : Str)) = false := by decide) (hd : (y == ("__debug__" : Str)) = false := by decide) (hcd : (y == ("__classdict__" : Str)) = false := by decide) :
    RE X C B E (.Call (.Name x p) (.Name y py :: es) [] pos) (eCallM i fn ms) := by
  have hA := pa_cons (pe_var (pos := py) hN hv hd hcd) ha hs
  refine ⟨fun pins s σ H Q I h => ?_⟩
  obtain ⟨F, ρ, d, b, h⟩ := h
  unfold eCallM at h
  split at h
  · rename_i ei
    obtain ⟨a, g, c, e, eσ, D⟩ := b.dr_at ei
    refine wpAny_Call_Name_kw (ld_glob I hg hm ?_ hdb)
    refine PySem.W.callWith_K (h₀ := X.base) I.ok.mod.kin hk (thn (hA.run pos pins s σ H (fun vs H1 => ∃ ws, vs = V.ref a :: ws ∧ ∃ F1 d1 xs, BG C B d1 F1 H1 ∧ Go C B F H F1 H1 ∧ RepL C F1 xs ws ∧ tK C B (E σ) (Rep C) (fn xs d1) F1 H1 Q) I ⟨.ref a, eσ, F, ρ, d, b, (tK.bind (Rp := RepL C) h).imp fun ws H1 q => ?_⟩) fun us s1 q => ?_) hs hpl
    · obtain ⟨F1, d1, xs, b1, g1, r1, k1⟩ := q
      exact ⟨ws, rfl, F1, d1, xs, b1, g1, r1, k1⟩
    · obtain ⟨vs, H1, I1, r, ws, rfl, F1, d1, xs, b1, g1, r1, k1⟩ := q
      refine ⟨I1.kIn, wpAny_call (codeAny_mono (G X.A X.stack s1 H1 us _ Q (E σ) hr I1.env0 r ⟨F1, xs, ws, a, g, c, d1, rfl, b1.fh, b1.tb, r1, b1.dr a g c e, ?_⟩) fun rr s' hq => ?_)⟩
      · revert k1
        cases fn xs d1 with
        | ok y d' => exact fun k1 F' H' v gr D' hc rv => let ⟨b2, g2⟩ := b1.growD e gr D' hc; k1 F' H' v b2 g2 rv
        | ex e' d' => exact fun k1 F' H' cls dd gr D' hc rv => let ⟨b2, g2⟩ := b1.growD e gr D' hc; k1 F' H' cls dd b2 g2 rv
        | no => exact fun k1 => k1
      · have z := after_call tk I1 hq
        cases rr with
        | error er => exact z
        | ok fl => cases fl <;> exact z
  · exact h.elim
/-! ### xs.count(k), [x, ..] * n -/
def intsP : List PV → Option (List Int)
  | [] => some []
  | .int i :: r => (intsP r).map (i :: ·)
  | _ => none
theorem intsP_rep {F : Hp} : ∀ {xs : List PV} {vs : List V} {ns : List Int}, RepL C F xs vs → intsP xs = some ns → vs = ns.map V.int
  | [], _, _, r, e => by cases (show _ = [] from r); cases e; rfl
  | x :: xs, _, ns, r, e => by
    obtain ⟨v, r', rfl, r1, r2⟩ := r
    cases x with
    | int i =>
      have e' : (intsP xs).map (i :: ·) = some ns := e
      cases q : intsP xs with
      | none => rw [q] at e'; cases e'
      | some ms => rw [q] at e'; cases e'; cases r1; rw [intsP_rep r2 q]; rfl
    | _ => cases e
def eCnt (m : EM) (mi : EM) : EM := fun ρ d => (m ρ d).bind fun x d1 => match x with
  | .lst xs => (mi ρ d1).bind fun y d2 => match y, intsP xs with
    | .int k, some ns => .ok (.int (ns.count k)) d2
    | _, _ => .no
  | _ => .no
theorem mt_count : MtR X "list.count" (fun x vs H Q => ∃ (l : Addr) (ns : List Int) (k : Int), x = .ref l ∧ vs = [.int k] ∧ SqL X.K H l (ns.map V.int) ∧ Q (.int (ns.count k : Nat)) H) := by
  intro pins s σ H x vs v us Q I rx rv h
  obtain ⟨l, ns, k, rfl, rfl, hl, q⟩ := h
  cases rx
  obtain ⟨u, rfl, ru⟩ := vals1 rv
  obtain ⟨t, rfl⟩ := ru
  obtain ⟨its, r, p, hz⟩ := I.list hl
  exact PyProof.Rows.count_list_ints p.isList (ints_vals r) ⟨.int (ns.count k : Nat), H, I.tok _, ⟨_, rfl⟩, q⟩
variable {o e : Expr} {m mi : EM} {apos cpos : Pos}
theorem re_cnt (hK : X.K = C.K) (ho : RE X C B E o m) (he : RE X C B E e mi)
    (hbase : attributeBase o "count" X.env (eval o X.env) = eval o X.env := by rfl)
    (hfew : ((backTo cpos (starEach (e :: []) X.env)).all (fun x => !x.1) && (backToKw cpos (keywordEach [] X.env)).all (fun x => x.1.isSome)
      && decide ((e :: ([] : List Expr)).length + ([] : List Keyword).length + (if ([] : List Keyword).isEmpty then 0 else 1) < 30)) = true := by rfl)
    (hline : (apos.endLine == cpos.line) = true := by rfl) (hs : starEach (e :: []) X.env = (false, eval e X.env) :: starEach [] X.env := by rfl) (hplain : (backTo cpos (starEach [] X.env)).any (·.1) = false := by rfl) :
    RE X C B E (.Call (.Attribute o "count" apos) [e] [] cpos) (eCnt m mi) := by
  refine PE.weak (pe_bm PySem.F.plainAttrs_list PySem.F.slot_list_count PySem.F.type_list_count mt_count ho (pa_cons he pa_nil hs) hbase hfew hline hs hplain) fun σ H Q h => ?_
  obtain ⟨F, ρ, d, b, h⟩ := h
  refine ⟨F, ρ, d, b, (tK.bind (Rp := Rep C) h).imp fun v H1 q => ?_⟩
  obtain ⟨F1, d1, x, b1, g1, r1, k1⟩ := q
  cases x with
  | lst xs =>
    obtain ⟨a, vs, rfl, f1, q1⟩ := r1
    refine ⟨.inl ⟨rfl, vs, by rw [hK]; exact (SqX.mono b1.fh f1).seq⟩, F1, ρ, d1, b.go b1 g1, (tK.bind (Rp := Rep C) k1).imp fun w H2 q => ?_⟩
    obtain ⟨F2, d2, y, b2, g2, r2, k2⟩ := q
    split at k2
    · rename_i k ns en
      cases r2
      have hv := intsP_rep q1 en
      refine ⟨a, ns, k, rfl, rfl, ?_, k2.here b2 rfl⟩
      rw [← hv, hK]
      exact (SqX.mono b2.fh (g2.s.sqx f1)).seq
    · exact k2.elim
  | _ => exact k1.elim
/-- [x, ..] * n: a new list -/
def aMulF (ms : AM) (mi : EM) : AM := fun ρ d => (ms ρ d).bind fun xs d1 => (mi ρ d1).bind fun y d2 => match y with
  | .int k => if -1000000 < k ∧ k < 1000 ∧ xs.length < 1000 then .ok (repL k xs) d2 else .no
  | _ => .no
theorem rf_mulF {a : Expr} (ha : RFr X C B E a ms) (he : RE X C B E e mi) : RFr X C B E (.BinOp a .Mult e pos) (aMulF ms mi) := by
  refine PE.weak (pe_op op_rep ha he) fun σ H Q h => ?_
  obtain ⟨F, ρ, d, b, h⟩ := h
  refine ⟨F, ρ, d, b, ?_⟩
  unfold aMulF at h
  revert h
  cases ms ρ d with
  | ok xs d1 =>
    intro h F1 H1 p vs b1 g1 hp ep fp r1
    have B1 := b.go b1 g1
    refine ⟨F1, ρ, d1, B1, ?_⟩
    revert h
    rw [R.bind_ok]
    cases mi ρ d1 with
    | ok y d2 =>
      intro h F2 H2 u b2 g2 r2
      rw [R.bind_ok] at h
      split at h
      · rename_i k
        split at h
        · rename_i hk
          cases r2
          have hpd : ¬ B.ds p := fun z => by
            obtain ⟨o, e'⟩ := b.g.there (.inl z)
            rw [hp] at e'; cases e'
          have hlen := r1.length
          refine ⟨p, k, vs, rfl, rfl, (g2.k p _ fp ep hpd).of (fun _ z => (nomatch z)), by omega, by omega, ?_, fun q hq => ?_⟩
          · have h1 : vs.length * k.toNat ≤ 1000 * 1000 := Nat.mul_le_mul (by omega) (by omega)
            have h2 : (1000 * 1000 : Nat) ≤ sizeLine := by rw [sizeLine_eq]; decide
            omega
          · have hq0 : H q = none := by
              cases z : H q with
              | none => rfl
              | some o =>
                obtain ⟨o', e'⟩ := (g1.trans g2).t q o z
                rw [hq] at e'; cases e'
            exact h F2 _ q _ (b2.junk hq) ((g1.trans g2).trans (Go.junk b2.fh hq)) hq0 upd_same (b2.F_none hq) (repL_rep (r1.mono g2.s) _)
        · exact h.elim
      · exact h.elim
    | ex e' d2 => exact fun h F2 H2 cls dd b2 g2 r => h F2 H2 cls dd b2 (g1.trans g2) r
    | no => exact fun h => h
  | ex e' d1 => exact fun h => h
  | no => exact fun h => h
end
end RL
end M_R17
section M_R18
namespace RL
open PySem PySem.Spec PyProof.Rows L2

/-! ### the law's own call -/
/-- what a law's def promises: True for every script -/
def spL (C : Pl) (n : Nat) : Sp := fun vs H Q _ => ∃ (F : Hp) (a : Addr) (ns : List Int), vs = [V.ref a] ∧ ns.length ≤ n ∧ Same F H ∧ TbOk C F H ∧ SqX C.K F a (ns.map V.int) ∧ ∀ H', Q (.bl true) H'
section
variable {P : Program} {w : World} {K : PySem.W.Frag} {mg mb : Str → Option Value} {k n : Nat} {fa a : Addr} {s : Shared} {vs : List Value} {ns : List Int} {C : Pl} {H : Hp}
theorem law_coreG (KX : K.In s.heap) (hns : s.heap.Ns mainGlobals mg) (hb : s.heap.Ns builtinsNs mb) (hbb : ∀ x : Str, x ≠ "__name__" → mb x = bootBuiltins x) (hlim : s.heap.NoLimit) (hg : s.gens = #[]) (hr : RmG k callerA) (hC : C.K = K) (hT : C.tb = [])
    (G : ∀ base : Heap, K.In base → base.Ns mainGlobals mg → FnG P w K mg base k fa (spL C n)) (hl : ns.length ≤ n)
    (ha : ∀ o, s.heap.get? a = some o → ∀ es ep, o.data ≠ .dict es ep) (hA : ∀ b, H b ≠ none → b = a) (hK : H a ≠ none → K.lookup a = none) (hF : ∀ b u, H b = some u → ∃ o y, u = .frz o y) (hok : HOk P w H s.heap) (hS : SqX K H a (ns.map V.int)) :
    codeAny (model P w) callerA (.call (.ref fa) ⟨[.ref a], []⟩) (fun r s' => r = .ok (.ret (.bool true)) ∧ OldK s.heap s'.heap ∧ s'.os = s.os ∧ AllBare s'.gens) s := by
  have at_a : ∀ {b u}, H b = some u → b = a := fun {b u} e => hA b (by rw [e]; simp)
  have keepN : ∀ {b : Addr} {m : Str → Option Value}, s.heap.Ns b m → (hidT s.heap H).Ns b m := by
    intro b m x
    obtain ⟨o, es, ep, e, dd, rest⟩ := x
    have hn : H b = none := by
      cases q : H b with
      | none => rfl
      | some u =>
        cases at_a q
        exact absurd dd (ha o e es ep)
    exact ⟨o, es, ep, hidT_get e hn, dd, rest⟩
  have KB : K.In (hidT s.heap H) := by
    intro b o e
    refine hidT_get (KX b o e) ?_
    cases q : H b with
    | none => rfl
    | some u =>
      cases at_a q
      rw [hK (by rw [q]; simp)] at e; cases e
  obtain ⟨mc, l1, l2⟩ := hlim
  have e0 : Env0 P w K mg (hidT s.heap H) callerA [] s H :=
    ⟨rfl, ⟨KB, keepN hns, ⟨mb, keepN hb, hbb⟩, ⟨mc, keepN l1, l2⟩⟩, fun b o e => of_hidT e, Nat.le_of_eq (hidT_size _ _), trivial, fun b m => absurd (show b ∈ ([] : List Addr) from m) (by simp), hok, .of_eq hg⟩
  refine codeAny_mono (G _ KB (keepN hns) callerA [] s H [.ref a] [.ref a] (fun v _ => v = .bl true) (fun _ _ _ => False) hr e0 (.cons rfl .nil) ⟨H, a, ns, rfl, hl, Same.refl H, (fun p hp => by rw [hT] at hp; cases hp), by rw [hC]; exact hS, fun _ => rfl⟩) fun r s' hq => ?_
  cases r with
  | error e =>
    exfalso
    obtain ⟨_, _, _, _, _, _, _, _, _, _, _, _, z⟩ := hq
    exact z
  | ok fl =>
    cases fl with
    | ret u =>
      obtain ⟨v, H', os, bare, un, hok', rv, q⟩ := hq
      cases (show v = .bl true from q)
      cases (show u = Value.bool true from rv)
      refine ⟨rfl, OldK.of_keep fun b o e => ?_, os, bare⟩
      cases q : H b with
      | none => exact un.keep b o e q (by intro z; cases z) (by simp)
      | some u =>
        obtain ⟨ob, y, rfl⟩ := hF b u q
        obtain ⟨h1, _⟩ := hok b _ q
        obtain ⟨h2, _⟩ := hok' b _ (un.frzs b ob y q)
        rw [e] at h1; cases h1
        exact h2
    | next => exact hq.elim
    | brk => exact hq.elim
    | cont => exact hq.elim
theorem law_callG (KX : K.In s.heap) (hns : s.heap.Ns mainGlobals mg) (hb : s.heap.Ns builtinsNs mb) (hbb : ∀ x : Str, x ≠ "__name__" → mb x = bootBuiltins x) (hlim : s.heap.NoLimit) (hg : s.gens = #[]) (hr : RmG k callerA) (hC : C.K = K) (hT : C.tb = [])
    (G : ∀ base : Heap, K.In base → base.Ns mainGlobals mg → FnG P w K mg base k fa (spL C n)) (hl : ns.length ≤ n) (hn : n ≤ sizeLine) (ha : s.heap.get? a = some { cls := .type "list", data := .seq vs.toArray }) (hi : IntsAre vs ns) :
    codeAny (model P w) callerA (.call (.ref fa) ⟨[.ref a], []⟩) (fun r s' => r = .ok (.ret (.bool true)) ∧ OldK s.heap s'.heap ∧ s'.os = s.os ∧ AllBare s'.gens) s := by
  have rv := vals_ints hi
  have lv := hi.length
  have hd : ∀ o, s.heap.get? a = some o → ∀ es ep, o.data ≠ .dict es ep := fun o e es ep z => by
    rw [ha] at e; cases e; cases z
  cases hk : K.lookup a with
  | some o =>
    have e := KX a o hk
    rw [ha] at e; cases e
    exact law_coreG (H := fun _ => none) KX hns hb hbb hlim hg hr hC hT G hl hd (fun b z => absurd rfl z) (fun z => absurd rfl z) (fun b u z => by cases z) (fun b u z => by cases z) (.inr ⟨vs, _, hk, by omega, rv⟩)
  | none =>
    refine law_coreG (H := upd (fun _ => none) a (.frz { cls := .type "list", data := .seq vs.toArray } (.lst (ns.map V.int)))) KX hns hb hbb hlim hg hr hC hT G hl hd (fun b z => ?_) (fun _ => hk) (fun b u z => ?_) (fun b u z => ?_) (.inl (.inr ⟨_, upd_same⟩))
    · by_cases hb : b = a
      · exact hb
      · rw [upd_ne hb] at z; exact absurd rfl z
    · by_cases hb : b = a
      · subst hb; rw [upd_same] at z; cases z; exact ⟨_, _, rfl⟩
      · rw [upd_ne hb] at z; cases z
    · by_cases hb : b = a
      · subst hb
        rw [upd_same] at z; cases z
        exact ⟨ha, by rw [List.length_map]; omega, vs, _, rv, ha⟩
      · rw [upd_ne hb] at z; cases z
theorem walk_ofG {l : PySem.W.OpenLaw} {n k : Nat} {q : Program} {loose : List Str} {XP : (Str → Option Value) → Heap → Prop} {YP : World → Heap → Prop} {d : DefRec} {K : Params → PySem.W.Frag} {C : World → Pl}
    (hn : l.most = some n) (hn2 : n ≤ sizeLine) (hdf : d.params.defaults = []) (hr : RmG k callerA) (hC : ∀ w, (C w).K = K w.params) (hT : ∀ w, (C w).tb = []) (hY : ∀ (w : World) (h : Heap), YP w h → (K w.params).In h)
    (G : ∀ (w : World) (mg : Str → Option Value) (fa : Addr) (h : Heap), (K w.params).In h → h.Ns mainGlobals mg → mg d.name = some (.ref fa) → ∀ base : Heap, (K w.params).In base → base.Ns mainGlobals mg → FnG l.prog w (K w.params) mg base k fa (spL (C w) n)) :
    PySem.W.WalkO q loose XP YP l.row.toRowW d [] (fun f vs => PySem.call f vs) := by
  refine Att.attach_call hn hdf fun w s₀ s₁ mg mb fa o pm cd doc a vs ns Gr Y ho hd hcd hmg hobj hints hlen hg => ?_
  have KX := hY w _ Y
  exact law_callG KX Gr.T.g Gr.T.b Gr.T.builtins Gr.T.nolimit hg hr (hC w) (hT w) (G w mg fa _ KX Gr.T.g hmg) hlen hn2 hobj hints
end
end RL
end M_R18
section M_R19
namespace RL
open PySem PySem.Spec PyProof.Rows L2

/-! ### the draws begin -/
theorem putK_great {g g' c : Addr} {n : Int} : putK (dkv g c n) (.inr "great") (.ref g') = dkv g' c n := by
  have h1 : ¬ Str.ofString "cells" = Str.ofString "great" := by decide
  have h2 : ¬ Str.ofString "spot" = Str.ofString "great" := by decide
  simp [putK, dkv, h1, h2]
theorem merge_dkv {g c : Addr} {n : Int} : mergeK [] (dkv g c n) = dkv g c n := by
  have h1 : ¬ Str.ofString "cells" = Str.ofString "great" := by decide
  have h2 : ¬ Str.ofString "cells" = Str.ofString "spot" := by decide
  have h3 : ¬ Str.ofString "great" = Str.ofString "spot" := by decide
  simp [mergeK, putK, dkv, h1, h2, h3]
/-- the state that _law_begun leaves -/
def begP (i : Nat) (m1 : EM) (ml : AM) (ρ : REnv) (d : DSt) : Option DSt := match m1 ρ d with
  | .ok (.lst xs) d1 => (match ml (ρ.set i .un) d1 with
    | .ok ys _ => (match intsP xs, intsP ys with
      | some cs, some gs => some ⟨cs, gs, 0⟩
      | _, _ => none)
    | _ => none)
  | _ => none
def tBeg (C : Pl) (B : Bp) (i : Nat) (m1 : EM) (ml : AM) : TS := fun D σ H => ∃ F ρ d d0, BR C B ρ d σ F H ∧ i < ρ.length ∧ begP i m1 ml ρ d = some d0 ∧
  ∀ F' H' a g c, Go C B F H F' H' → Same F' H' → H a = none → DrawAt C.K F' H' a g c d0 → D.rt (.ref a) H'
section
variable {X : Cx} {C : Pl} {B : Bp} {E : XS} {q1 q2 q3 q4 q5 q6 q7 q8 q9 q10 q11 q12 q13 q14 : Pos} {j1 j2 j3 j4 j5 : Nat} {e1 e2 : Expr} {m1 : EM} {ml : AM} {x : Str}
theorem rss_begun (i : Nat) (hu : X.A.units + 1 < cLine) (hN : X.N.Nodup) (hi : X.N[i]? = some x) (hx : Loc X.env.scope x) (hv : Vis X.env.scope x) (h1 : RE X C B E e1 m1) (h2 : RFr X C B E e2 ml)
    (hs1 : swapsWith (.Dict [some (.Constant (.str "cells") j1 q1), some (.Constant (.str "great") j2 q2), some (.Constant (.str "spot") j3 q3)] [e1, .List [] q4, .Constant (.int 0) j4 q5] q6) (some (.Name x q7)) q8.line X.env = pure false)
    (hs2 : swapsWith e2 (some (.Subscript (.Name x q9) (.Constant (.str "great") j5 q10) q11)) q12.line X.env = pure false)
    (hf : X.fn x = true ∨ X.env.scope.names.lookup x = some .local) (hd : (x == ("__debug__" : Str)) = false) (hcd : (x == ("__classdict__" : Str)) = false) :
    PSs X [.Assign [.Name x q7] (.Dict [some (.Constant (.str "cells") j1 q1), some (.Constant (.str "great") j2 q2), some (.Constant (.str "spot") j3 q3)] [e1, .List [] q4, .Constant (.int 0) j4 q5] q6) q8,
      .Assign [.Subscript (.Name x q9) (.Constant (.str "great") j5 q10) q11] e2 q12, .Return (some (.Name x q13)) q14] (tBeg C B i m1 ml) := by
  have hdisp : PE X (.Dict [some (.Constant (.str "cells") j1 q1), some (.Constant (.str "great") j2 q2), some (.Constant (.str "spot") j3 q3)] [e1, .List [] q4, .Constant (.int 0) j4 q5] q6) _ :=
    pe_disp (pps_cons pe_str h1 (pps_cons pe_str (pe_lst pa_nil) (pps_cons pe_str pe_int pps_nil))) rfl rfl (by simp) (by simp)
  refine PSs.weak (pss_cons (ps_set hN hi hx hdisp hs1 hf) (pss_cons (ps_dput hu (pe_var hi hv hd hcd) pe_str h2 hs2) (pss_one (ps_ret (pe_var hi hv hd hcd))))) fun D σ H h => ?_
  obtain ⟨F, ρ, d, d0, b, hil, hb, hq⟩ := h
  unfold begP at hb
  split at hb
  · rename_i xs d1 em
    split at hb
    · rename_i ys d2 el
      split at hb
      · rename_i cs gs ec eg
        cases hb
        intro p hp
        have fp : F p = none := b.g.fh.free hp
        have nds : ¬ B.ds p := (b.g.own hp fp).2.2
        have H0p : B.H0 p = none := b.g.H0_none hp
        refine ⟨F, ρ, d, b.go (b.g.junk hp) (Go.junk b.g.fh hp), ?_⟩
        rw [em]
        intro F1 H1 v b1 g1 r1
        obtain ⟨c, vs, rfl, f1, rl1⟩ := r1
        have hp1 : H1 p = some (.dK []) := (g1.k p _ fp upd_same nds).of (fun _ z => (nomatch z))
        have fp1 : F1 p = none := nn g1.n fp upd_same
        refine ⟨Nat.zero_le _, fun g hg => ?_⟩
        have fg1 : F1 g = none := b1.fh.free hg
        have hgp : p ≠ g := fun z => by rw [z, hg] at hp1; cases hp1
        refine ⟨by rw [upd_ne hgp]; exact hp1, dkv g c 0, rfl, by simp [dkv], ?_⟩
        rw [merge_dkv]
        have hbw : BG C B d1 F1 (upd (upd H1 g (.lst [])) p (.dK (dkv g c 0))) := (b1.junk hg).write ⟨fp1, .inl H0p, nds⟩ (nx_dK.at (by rw [upd_ne hgp]; exact hp1))
        have goA : Go C B F H F1 (upd (upd H1 g (.lst [])) p (.dK (dkv g c 0))) := by
          have up : ∀ a o, H a = some o → a ≠ p := fun a o e z => by rw [z, hp] at e; cases e
          refine ⟨g1.s, fun a o z0 e m => ?_, fun a o e => ?_, fun a o e => ?_⟩
          · have z := (Kp.all (fun a o e => by rw [upd_ne (up a o e)]; exact e) e : Kp C.tb H (upd H p (.dK [])) a o).trans fun o1 e1 => g1.k a o1 z0 e1 m
            exact Kp.upd (Kp.upd z (fun z2 => by obtain ⟨o', z'⟩ := z.ex; rw [z2, hg] at z'; cases z') (NX.no hg)) (up a o e) (nx_dK.at (by rw [upd_ne hgp]; exact hp1))
          · obtain ⟨o', z⟩ := g1.t a o (by rw [upd_ne (up a o e)]; exact e)
            exact ⟨o', by rw [upd_ne (up a o e), upd_ne (fun z2 => by rw [← z2, z] at hg; cases hg)]; exact z⟩
          · rcases g1.n a o e with w | w
            · exact .inl w
            · refine .inr ?_
              by_cases hap : a = p
              · rw [hap]; exact hp
              · rwa [upd_ne hap] at w
        have B2 : BR C B (ρ.set i .un) d1 (σ.set i (some (.ref p))) F1 (upd (upd H1 g (.lst [])) p (.dK (dkv g c 0))) := (b.go hbw goA).un
        refine ⟨F1, ρ.set i .un, d1, B2, ?_⟩
        rw [el]
        intro F5 H5 g' vs' b5 g5 hg' eg' fg' rl'
        have eσ : (σ.set i (some (V.ref p)))[i]? = some (some (V.ref p)) := List.getElem?_set_self (by rw [b.len]; exact hil)
        have hp5 : H5 p = some (.dK (dkv g c 0)) := (g5.k p _ fp1 upd_same nds).of (fun _ z => (nomatch z))
        have hgp' : g' ≠ p := fun z => by rw [z, upd_same] at hg'; cases hg'
        refine ⟨.ref p, eσ, p, upd H5 p (.dK (dkv g' c 0)), rfl, .inl ⟨_, .inr "great", hp5, rfl, by show 3 < sizeLine; rw [sizeLine_eq]; decide, by rw [putK_great]⟩, .ref p, eσ, ?_⟩
        have fp5 : F5 p = none := nn g5.n fp1 upd_same
        have hcs := intsP_rep rl1 ec
        have hgs := intsP_rep rl' eg
        have goB := goA.trans g5
        refine hq F5 _ p g' c ⟨goB.s, fun a o z0 e m => ?_, fun a o e => ?_, goB.n⟩ (fun a u e => ?_) hp ⟨upd_same, ?_, ?_, fp5, fg'⟩
        · exact (goB.k a o z0 e m).upd (fun z => by rw [z, hp] at e; cases e) (nx_dK.at hp5)
        · obtain ⟨o', z⟩ := goB.t a o e
          exact ⟨o', by rw [upd_ne (fun z => by rw [z, hp] at e; cases e)]; exact z⟩
        · rw [upd_ne (fun z => by rw [z, fp5] at e; cases e)]
          exact b5.fh a u e
        · rw [upd_ne hgp', eg', hgs]
        · rw [← hcs]
          exact (g5.s.sqx f1).seq
      · cases hb
    · cases hb
  · cases hb
end
/-- what _law_begun promises -/
def spB (C : Pl) (fn : List PV → Option DSt) : Sp := fun vs H Q _ => ∃ F xs d0, Same F H ∧ TbOk C F H ∧ RepL C F xs vs ∧ fn xs = some d0 ∧ ∀ F' H' a g c, Sk C F F' → Same F' H' → (∀ x o, F' x = some o → (∃ u, F x = some u) ∨ H x = none) → Uh C F H H' → H a = none → DrawAt C.K F' H' a g c d0 → Q (.ref a) H'
def fnB (nn i : Nat) (m1 : EM) (ml : AM) : List PV → Option DSt := fun xs => if xs.length = 1 ∧ i < nn then begP i m1 ml (startG (xs.map .val) nn) default else none
section
variable {P : Program} {w : World} {K : PySem.W.Frag} {mg : Str → Option Value} {base : Heap} {C : Pl}
theorem def_fnB {x qual y : Str} {st : Stmt} {f : Addr} {fd : FuncData} {N : List Str} {k i : Nat} {m1 : EM} {ml : AM} (F : Fun K x qual st f fd) (S : FnScope N [y] (defScope st)) (bd : BdOk K fd [y] (.pl []))
    (hb : ∀ (cdv : Value) (A : Around) (outer : List Env) (s : Shared) (H : Hp) (F0 : Hp), RmG k (A.deeper (envOfC qual (defScope st) s.heap.objs.size f cdv)) → ∀ E : XK,
      PSs (cxOf (L2.CX P w) P w K mg base N qual (defScope st) f cdv A outer s H E) (defBody st) (tBeg C ⟨F0, H, none, none, []⟩ i m1 ml)) :
    FnG P w K mg base (k + 1) f (spB C (fnB N.length i m1 ml)) := by
  obtain ⟨oc, od, kV, doc, pm, an, cdv, ct, osl, rfl, lk, hcd⟩ := F.ex
  intro A outer s H us vs Q E hr e0 r h
  obtain ⟨F0, xs, d0, fh, tb, rp, h0, h⟩ := h
  unfold fnB at h0
  by_cases hl : xs.length = 1 ∧ i < N.length
  · rw [if_pos hl] at h0
    have hxs := rp.length
    refine StX.run_bnd lk hcd S hr.r e0 (bd e0 r (by show _ + _ = _; simp; omega)) fun s2 H2 ws g2 hr2 => ?_
    obtain ⟨rfl, rfl⟩ := g2
    rw [List.append_nil]
    have hn : xs.length ≤ N.length := by omega
    refine ⟨_, hb cdv A outer s2 H2 F0 ⟨hr2, hr.g⟩ E, F0, _, default, d0, BR.startV fh tb rp hn, by rw [start_len (by simpa using hn)]; exact hl.2, h0, fun F' H' a g c go s' ha D => h F' H' a g c go.s s' go.n (fun x o z e => go.k x o z e ?_) ha D⟩
    rintro ⟨p, z, _⟩
    cases z
  · rw [if_neg hl] at h0; cases h0
end
end RL
end M_R19
section M_R20
namespace RL
open PySem PySem.Spec PyProof.Rows L2

/-! ### the law's def -/
def tBegC (C : Pl) (fnb : List PV → Option DSt) (j : Nat) : TE := fun σ H Q => ∃ F sc v d0, σ[j]? = some (some v) ∧ Same F H ∧ TbOk C F H ∧ Rep C F sc v ∧ fnb [sc] = some d0 ∧
  ∀ F' H' a g c, Sk C F F' → Same F' H' → (∀ x o, F' x = some o → (∃ u, F x = some u) ∨ H x = none) → Uh C F H H' → H a = none → DrawAt C.K F' H' a g c d0 → Q (.ref a) H'
section
variable {X : Cx} {C : Pl} {E : XS} {k j : Nat} {f : Addr} {fnb : List PV → Option DSt} {x y : Str} {pos p py : Pos}
theorem pe_begun (G : FnG X.prog X.w X.K X.mg X.base k f (spB C fnb)) (hr : RmG k X.A) (tk : Tk X E) (hg : Gl X x) (hm : X.mg x = some (.ref f)) (hk : PySem.W.keepIn X.K (.ref f) = true) (hN : X.N[j]? = some y) (hv : Vis X.env.scope y)
    (hs : starEach [.Name y py] X.env = (false, eval (.Name y py) X.env) :: starEach [] X.env := by rfl) (hpl : (backTo pos (starEach [] X.env)).any (·.1) = false := by rfl)
    (hdb : (x == ("__debug__" : Str)) = false := by decide) (hd : (y == ("__debug__" : Str)) = false := by decide) (hcd : (y == ("__classdict__" : Str)) = false := by decide) :
    PE X (.Call (.Name x p) [.Name y py] [] pos) (tBegC C fnb j) := by
  refine ⟨fun pins s σ H Q I h => ?_⟩
  obtain ⟨F, sc, v, d0, ev, fh, tb, rv, h0, h⟩ := h
  refine wpAny_Call_Name_kw (ld_glob I hg hm ?_ hdb)
  refine PySem.W.callWith_K (h₀ := X.base) I.ok.mod.kin hk (thn ((pa_cons (pe_var (pos := py) hN hv hd hcd) pa_nil hs).run pos pins s σ H (fun vs H1 => vs = [v] ∧ H1 = H) I ⟨v, ev, rfl, rfl⟩) fun us s1 q => ?_) hs hpl
  obtain ⟨vs, H1, I1, r, rfl, rfl⟩ := q
  refine ⟨I1.kIn, wpAny_call (codeAny_mono (G X.A X.stack s1 H1 us _ Q (E σ) hr I1.env0 r ⟨F, [sc], d0, fh, tb, .cons rv .nil, h0, h⟩) fun rr s' hq => ?_)⟩
  have z := after_call tk I1 hq
  cases rr with
  | error er => exact z
  | ok fl => cases fl <;> exact z
end
theorem BR.law {C : Pl} {F H : Hp} {N : List Str} {sc : PV} {v : V} {a g c : Addr} {d : DSt} {i : Nat} (fh : Same F H) (tb : TbOk C F H) (rp : Rep C F sc v) (hn : 1 ≤ N.length) (hi : i < N.length) (D : DrawAt C.K F H a g c d) :
    BR C ⟨F, H, some (a, g, c), none, d.cells⟩ ((startG [.val sc] N.length).set i .dr) d ((L2.start N [v]).set i (some (.ref a))) F H where
  g := ⟨fh, Sk.refl C F, fun a o e => .inl ⟨o, e⟩, fun a o _ e _ => Kp.all (fun _ _ z => z) e, fun a' g' c' e => by cases e; exact D, fun _ => rfl, fun a e => (nomatch e), tb⟩
  len := by simp [L2.start, RL.startG]
  sl := by
    have hlen : (startG [.val sc] N.length).length = N.length := start_len (by simpa using hn)
    have hno : ∀ (j : Nat) (s : Sl), ((startG [.val sc] N.length).set i .dr)[j]? = some s → s.isOwn = false := fun j s e => by
      rcases getElem_set e with ⟨_, rfl, _⟩ | ⟨hj, e⟩
      · rfl
      · cases j with
        | zero => cases e; rfl
        | succ n => rw [start_un (by simp) e]; rfl
    refine ⟨fun _ => a, fun j s e => ?_, fun j l s t e1 e2 o1 o2 _ => by rw [hno j s e1] at o1; cases o1⟩
    rcases getElem_set e with ⟨rfl, rfl, hl⟩ | ⟨hj, e⟩
    · refine ⟨_, rfl, ?_⟩
      rw [List.getElem?_set_self (by simp [L2.start]; omega)]
    · rw [List.getElem?_set_ne (Ne.symm hj)]
      cases j with
      | zero => cases e; exact ⟨v, rfl, rp⟩
      | succ n => rw [start_un (by simp) e]; trivial
section
variable {P : Program} {w : World} {K : PySem.W.Frag} {mg : Str → Option Value} {base : Heap} {C : Pl}
theorem def_lawC {x qual y : Str} {st st1 : Stmt} {rest : List Stmt} {f : Addr} {fd : FuncData} {N : List Str} {k i n : Nat} {m : SM} {fnb : List PV → Option DSt} (F : Fun K x qual st f fd) (S : FnScope N [y] (defScope st)) (bd : BdOk K fd [y] (.pl []))
    (hi : i < N.length) (hst : defBody st = st1 :: rest)
    (hb1 : ∀ (cdv : Value), fd.code = cdv → ∀ (A : Around) (outer : List Env) (s : Shared) (H : Hp), RmG k (A.deeper (envOfC qual (defScope st) s.heap.objs.size f cdv)) → ∀ E : XK,
      PS (cxOf (L2.CX P w) P w K mg base N qual (defScope st) f cdv A outer s H E) st1 (tAsg (tBegC C fnb 0) (gName i)))
    (hb2 : ∀ (cdv : Value), fd.code = cdv → ∀ (A : Around) (outer : List Env) (s : Shared) (H : Hp) (E : XK) (F1 H1 : Hp) (p : Addr × Addr × Addr) (cl : List Int), RmG k (A.deeper (envOfC qual (defScope st) s.heap.objs.size f cdv)) →
      RSs (cxOf (L2.CX P w) P w K mg base N qual (defScope st) f cdv A outer s H E) C ⟨F1, H1, some p, none, cl⟩ (fun _ => E) rest m)
    (hf : ∀ ns : List Int, ns.length ≤ n → ∃ d0 d', fnb [.lst (ns.map PV.int)] = some d0 ∧ m ((startG [.val (.lst (ns.map PV.int))] N.length).set i .dr) d0 = .rt (.bl true) d') :
    FnG P w K mg base (k + 1) f (spL C n) := by
  have hpl : 1 ≤ N.length := by have := congrArg List.length S.pre; rw [List.length_take] at this; simp at this; omega
  obtain ⟨oc, od, kV, doc, pm, an, cdv, ct, osl, rfl, lk, hcd⟩ := F.ex
  intro A outer s H us vs Q E hr e0 r h
  obtain ⟨F0, a, ns, rfl, hns, fh, tb, hS, h⟩ := h
  obtain ⟨d0, d', h0, h1⟩ := hf ns hns
  refine StX.run_bnd lk hcd S hr.r e0 (bd e0 r rfl) fun s2 H2 ws g2 hr2 => ?_
  obtain ⟨rfl, rfl⟩ := g2
  have hr3 : RmG k (A.deeper (envOfC qual (defScope st) s2.heap.objs.size f cdv)) := ⟨hr2, hr.g⟩
  have body : PSs (cxOf (L2.CX P w) P w K mg base N qual (defScope st) f cdv A outer s2 H2 E) (defBody st) (tSeq (tAsg (tBegC C fnb 0) (gName i)) (fun D σ H => ∃ F1 H1 p cl, tS C ⟨F1, H1, some p, none, cl⟩ (fun _ => E) m D σ H)) := by
    rw [hst]
    refine pss_cons (hb1 cdv rfl A outer s2 H2 hr3 E) ⟨fun pins s σ H D I h => ?_⟩
    obtain ⟨F1, H1, p, cl, h⟩ := h
    exact (hb2 cdv rfl A outer s2 H2 E F1 H1 p cl hr3).run pins s σ H D I h
  refine ⟨_, body, F0, .lst (ns.map PV.int), .ref a, d0, rfl, fh, tb, ⟨a, _, rfl, hS, ?_⟩, h0, fun F' H' b g c s1 s2' n1 s3 hb D => ?_⟩
  · clear h0 h1 h hns hS
    induction ns with
    | nil => rfl
    | cons z zs ih => exact ⟨_, _, rfl, rfl, ih⟩
  · refine ⟨F', H', (b, g, c), d0.cells, F', _, d0, BR.law (sc := .lst (ns.map PV.int)) s2' (fun p hp => ?_) ⟨a, _, rfl, s1.sqx hS, ?_⟩ hpl hi D, ?_⟩
    · obtain ⟨t1, t2⟩ := tb p hp
      obtain ⟨ps, e1, _⟩ := id t2
      exact ⟨nn n1 t1 e1, (s3 _ _ t1 e1).2 _ hp t2⟩
    · clear h0 h1 h hns hS
      induction ns with
      | nil => rfl
      | cons z zs ih => exact ⟨_, _, rfl, rfl, ih⟩
    · rw [h1]
      intro ρ σ' F2 H2 v b2 s4 r
      cases r
      exact h H2
theorem def_law {x qual y : Str} {st st1 : Stmt} {rest : List Stmt} {f : Addr} {fd : FuncData} {N : List Str} {k i n : Nat} {m : SM} {fnb : List PV → Option DSt} (F : Fun K x qual st f fd) (S : FnScope N [y] (defScope st)) (bd : BdOk K fd [y] (.pl []))
    (hi : i < N.length) (hst : defBody st = st1 :: rest)
    (hb1 : ∀ (cdv : Value) (A : Around) (outer : List Env) (s : Shared) (H : Hp), RmG k (A.deeper (envOfC qual (defScope st) s.heap.objs.size f cdv)) → ∀ E : XK,
      PS (cxOf (L2.CX P w) P w K mg base N qual (defScope st) f cdv A outer s H E) st1 (tAsg (tBegC C fnb 0) (gName i)))
    (hb2 : ∀ (cdv : Value) (A : Around) (outer : List Env) (s : Shared) (H : Hp) (E : XK) (F1 H1 : Hp) (p : Addr × Addr × Addr) (cl : List Int), RmG k (A.deeper (envOfC qual (defScope st) s.heap.objs.size f cdv)) →
      RSs (cxOf (L2.CX P w) P w K mg base N qual (defScope st) f cdv A outer s H E) C ⟨F1, H1, some p, none, cl⟩ (fun _ => E) rest m)
    (hf : ∀ ns : List Int, ns.length ≤ n → ∃ d0 d', fnb [.lst (ns.map PV.int)] = some d0 ∧ m ((startG [.val (.lst (ns.map PV.int))] N.length).set i .dr) d0 = .rt (.bl true) d') :
    FnG P w K mg base (k + 1) f (spL C n) :=
  def_lawC F S bd hi hst (fun cdv _ => hb1 cdv) (fun cdv _ => hb2 cdv) hf
end
end RL
end M_R20
section M_R21
namespace RL
open PySem PySem.Spec PyProof.Rows L2

/-! ### x[e], x an own list -/
def eOix (i : Nat) (m : EM) : EM := fun ρ d => match (ρ[i]? : Option Sl) with
  | some (.own l) => (m ρ d).bind fun y d1 => match y with
    | .int k => (match (ixN l.length k).bind (fun j => l[j]?) with
      | some v => .ok v d1
      | none => .no)
    | _ => .no
  | _ => .no
/-- a, b, .. = e, a list -/
def sAsgL (ts : List Tg) (m : EM) : SM := sE m fun x ρ d => match x with
  | .lst xs => (match Tg.sets ts xs ρ with
    | some ρ' => .nx ρ' d
    | none => .no)
  | _ => .no
section
variable {X : Cx} {C : Pl} {B : Bp} {E : XS} {pos p1 p2 : Pos} {e : Expr} {m : EM} {x : Str}
theorem re_oix (i : Nat) (hN : X.N[i]? = some x) (hv : Vis X.env.scope x) (he : RE X C B E e m) (hp : PlainIx e) (hd : (x == ("__debug__" : Str)) = false := by decide) (hcd : (x == ("__classdict__" : Str)) = false := by decide) :
    RE X C B E (.Subscript (.Name x p1) e pos) (eOix i m) := by
  refine PE.weak (pe_ix ix_list (pe_var hN hv hd hcd) he hp) fun σ H Q h => ?_
  obtain ⟨F, ρ, d, b, h⟩ := h
  unfold eOix at h
  split at h
  · rename_i l ei
    obtain ⟨a, vs, eσ, w, eH, rl, _⟩ := b.own_at ei
    refine ⟨.ref a, eσ, F, ρ, d, b, (tK.bind (Rp := Rep C) h).imp fun y H1 q => ?_⟩
    obtain ⟨F1, d1, py, b1, g1, r1, k1⟩ := q
    split at k1
    · split at k1
      · rename_i v ev
        cases r1
        obtain ⟨u, eu, ru⟩ := atI_rep rl ev
        exact ⟨a, vs, _, u, rfl, rfl, SqL.of (g1.k a _ w.1 eH w.2.2), eu, k1.here b1 (ru.mono g1.s)⟩
      · exact k1.elim
    · exact k1.elim
  · exact h.elim
theorem rs_asgL {es : List Expr} {k : Nat} {ts : List Tg} {n : Nat} (hK : X.K = C.K) (hc : X.calm = true) (he : RE X C B E e m) (h : RGs X C B es ts) (hl : ts.length = n) (hn : (assignEach es X.env).length = n := by rfl) (hst : (assignEach es X.env).findIdx? (·.1) = none := by rfl)
    (hs : swapsWithSole [.Tuple es k p1] e pos.line X.env = pure false := by rfl) (hw : swappedStores [.Tuple es k p1] e X.env = pure none := by rfl)
    (h1 : (assignEach [.Tuple es k p1] X.env).map (·.2) = [assign (.Tuple es k p1) X.env] := by rfl) : RSt X C B E (.Assign [.Tuple es k p1] e pos) (sAsgL ts m) := by
  refine PS.weak (ps_asg he (pg_lst hc h hn hst) hs hw h1) fun D σ H h => ?_
  obtain ⟨F, ρ, d, b, q⟩ := h.ev
  refine ⟨F, ρ, d, b, q.imp fun v H1 q => ?_⟩
  obtain ⟨F1, ρ1, d1, x, b1, r1, k1⟩ := q
  split at k1
  · rename_i xs
    split at k1
    · rename_i ρ' e'
      obtain ⟨a, vs, rfl, f, rl⟩ := r1
      exact ⟨a, vs, rfl, by rw [hK]; exact (SqX.mono b1.g.fh f).seq, by rw [← rl.length, ← Tg.sets_len e', hl], F1, ρ1, d1, xs, ρ', b1, rl, e', fun σ' b' _ => k1 σ' F1 H1 b' (Sk.refl _ _)⟩
    · exact k1.elim
  · exact k1.elim
end
end RL
end M_R21
section M_R22
namespace RL
open PySem PySem.Spec PyProof.Rows L2

/-- BlkOk, asked of the text -/
def blkB (N : List Str) (sc scope : Scope) (own : List (Str × Nat)) : Bool :=
  decide (scope.kind = .function) && scope.names.all (fun y => decide (scope.names.lookup y.1 = some y.2)) && own.all (fun p => decide (N[p.2]? = some p.1)) &&
    scope.names.all (fun y => !decide (y.2 = .free) || decide (sc.names.lookup y.1 = some .cell) || decide (sc.names.lookup y.1 = some .free)) &&
    scope.names.all (fun y => !(decide (y.2 = .local) || decide (y.2 = .cell)) || decide (y.1 ∈ own.map (·.1)) || decide (y.1 ∉ N))
theorem blk_of {N : List Str} {sc scope : Scope} {own : List (Str × Nat)} (h : blkB N sc scope own = true) : BlkOk N sc scope own := by
  unfold blkB at h
  simp only [Bool.and_eq_true, List.all_eq_true, decide_eq_true_eq, Bool.or_eq_true, Bool.not_eq_true', decide_eq_false_iff_not, Bool.or_eq_false_iff] at h
  obtain ⟨⟨⟨⟨h1, h2⟩, h3⟩, h4⟩, h5⟩ := h
  refine ⟨h1, h2, h3, fun y hy e => ?_, fun y hy e => ?_⟩
  · rcases h4 y hy with (q | q) | q
    · exact absurd e q
    · exact .inl q
    · exact .inr q
  · rcases h5 y hy with (q | q) | q
    · rcases e with e | e
      · exact absurd e q.1
      · exact absurd e q.2
    · exact .inl q
    · exact .inr q
end RL
end M_R22
section M_R23
/-! what the mirrors give: of plain values only -/
namespace RL
open PySem

theorem lay_ints : ∀ l : List Int, PyData.canLayAll0 (l.map PyData.int) = true
  | [] => by simp [PyData.canLayAll0]
  | i :: l => by simp only [List.map_cons, PyData.canLayAll0, PyData.canLay0, lay_ints l, Bool.and_self]
theorem depth_ints : ∀ l : List Int, PyData.depthAll (l.map PyData.int) = 0
  | [] => by simp [PyData.depthAll]
  | i :: l => by simp [PyData.depthAll, PyData.depth, depth_ints l]
theorem shaped_ints (l : List Int) : SeqAt.shaped (.list (l.map PyData.int)) = true := by
  unfold SeqAt.shaped
  simp [PyData.canLay0, lay_ints, PyData.depth, depth_ints]
theorem eqvAll_nil (l : List Int) : PyData.eqv (.list (l.map PyData.int)) (.list []) = l.isEmpty := by
  cases l <;> simp [PyData.eqv, PyData.eqvAll]
theorem eqvAll_ints : ∀ l r : List Int, PyData.eqvAll (l.map PyData.int) (r.map PyData.int) = decide (l = r)
  | [], [] => by simp [PyData.eqvAll]
  | [], _ :: _ => by simp [PyData.eqvAll]
  | _ :: _, [] => by simp [PyData.eqvAll]
  | i :: l, j :: r => by
    simp only [List.map_cons, PyData.eqvAll, PyData.eqv, eqvAll_ints l r]
    by_cases h : i = j
    · subst h; simp
    · simp [h]
theorem toDs_ints : ∀ l : List Int, toDs (l.map PV.int) = some (l.map PyData.int)
  | [] => rfl
  | i :: l => by
    show (match toD (.int i), toDs (l.map PV.int) with | some d, some ds => some (d :: ds) | _, _ => none) = _
    rw [toDs_ints l]; rfl
theorem intsP_ints : ∀ l : List Int, intsP (l.map PV.int) = some l
  | [] => rfl
  | i :: l => by
    show (intsP (l.map PV.int)).map (i :: ·) = _
    rw [intsP_ints l]; rfl
/-- a list comprehension whose parts are plain -/
theorem lcGo_map {ρ : REnv} {t : Tg} {me : EM} {d : DSt} {g : PV → PV} : ∀ {xs : List PV}, (∀ x ∈ xs, ∃ ρ1, t.set x ρ = some ρ1 ∧ me ρ1 d = .ok (g x) d) → lcGo ρ t bYes me xs d = .ok (xs.map g) d
  | [], _ => rfl
  | x :: xs, h => by
    obtain ⟨ρ1, e1, e2⟩ := h x List.mem_cons_self
    unfold lcGo
    simp only [e1, bYes, R.nx, R.bind_ok, e2, if_true]
    rw [lcGo_map fun y hy => h y (List.mem_cons_of_mem _ hy)]
    rfl
theorem lcGo_filter {ρ : REnv} {t : Tg} {bc : BM} {me : EM} {d : DSt} {g : PV → PV} {p : PV → Bool} : ∀ {xs : List PV}, (∀ x ∈ xs, ∃ ρ1, t.set x ρ = some ρ1 ∧ bc ρ1 d = .ok (p x) d ∧ (p x = true → me ρ1 d = .ok (g x) d)) → lcGo ρ t bc me xs d = .ok ((xs.filter p).map g) d
  | [], _ => rfl
  | x :: xs, h => by
    obtain ⟨ρ1, e1, e2, e3⟩ := h x List.mem_cons_self
    have ih := lcGo_filter (fun y hy => h y (List.mem_cons_of_mem _ hy))
    unfold lcGo
    simp only [e1, e2, R.nx, R.bind_ok]
    cases q : p x with
    | false =>
      simp only [Bool.false_eq_true, if_false, List.filter_cons, q]
      exact ih
    | true =>
      simp only [if_true, e3 q, R.nx, R.bind_ok, List.filter_cons, q]
      rw [ih]
      rfl
/-- .. whose body draws: a state relation that goes on -/
theorem lcGo_inv {ρ : REnv} {t : Tg} {me : EM} {I : Nat → DSt → Prop} {P : PV → Prop} : ∀ {xs : List PV} {d : DSt} {n : Nat}, I n d → (∀ x ∈ xs, ∀ n d, I n d → ∃ ρ1 y d', t.set x ρ = some ρ1 ∧ me ρ1 d = .ok y d' ∧ P y ∧ I (n + 1) d') →
    ∃ ys d', lcGo ρ t bYes me xs d = .ok ys d' ∧ ys.length = xs.length ∧ (∀ y ∈ ys, P y) ∧ I (n + xs.length) d'
  | [], d, n, hI, _ => ⟨[], d, rfl, rfl, fun y hy => (nomatch hy), hI⟩
  | x :: xs, d, n, hI, h => by
    obtain ⟨ρ1, y, d1, e1, e2, hy, hI1⟩ := h x List.mem_cons_self n d hI
    obtain ⟨ys, d2, e3, hl, hp, hI2⟩ := lcGo_inv hI1 (fun z hz => h z (List.mem_cons_of_mem _ hz))
    refine ⟨y :: ys, d2, ?_, by simp [hl], fun z hz => ?_, by rw [List.length_cons, show n + (xs.length + 1) = n + 1 + xs.length by omega]; exact hI2⟩
    · unfold lcGo
      simp only [e1, bYes, R.nx, R.bind_ok, e2, if_true]
      rw [e3]
      rfl
    · rcases List.mem_cons.mp hz with rfl | hz
      · exact hy
      · exact hp z hz
/-- a loop that runs to its end -/
theorem sLoop_inv {t : Tg} {body : SM} {I : Nat → REnv → DSt → Prop} {xs : List PV} (h : ∀ i x ρ d, xs[i]? = some x → I i ρ d → ∃ ρ1 ρ2 d2, t.set x ρ = some ρ1 ∧ body ρ1 d = .nx ρ2 d2 ∧ I (i + 1) ρ2 d2) :
    ∀ (m n : Nat) (ρ : REnv) (d : DSt), m + n = xs.length → I n ρ d → ∃ ρ' d', sLoop t body (xs.drop n) ρ d = .nx ρ' d' ∧ I xs.length ρ' d'
  | 0, n, ρ, d, e, hI => by
    have : n = xs.length := by omega
    subst this
    rw [List.drop_length]
    exact ⟨ρ, d, rfl, hI⟩
  | m + 1, n, ρ, d, e, hI => by
    have hn : n < xs.length := by omega
    obtain ⟨ρ1, ρ2, d2, e1, e2, h2⟩ := h n xs[n] ρ d (by simp [hn]) hI
    obtain ⟨ρ', d', e3, h3⟩ := sLoop_inv h m (n + 1) ρ2 d2 (by omega) h2
    refine ⟨ρ', d', ?_, h3⟩
    rw [List.drop_eq_getElem_cons hn]
    unfold sLoop
    simp only [e1, e2]
    exact e3
theorem sLoop_run {t : Tg} {body : SM} {I : Nat → REnv → DSt → Prop} {xs : List PV} {ρ : REnv} {d : DSt} (h0 : I 0 ρ d) (h : ∀ i x ρ d, xs[i]? = some x → I i ρ d → ∃ ρ1 ρ2 d2, t.set x ρ = some ρ1 ∧ body ρ1 d = .nx ρ2 d2 ∧ I (i + 1) ρ2 d2) :
    ∃ ρ' d', sLoop t body xs ρ d = .nx ρ' d' ∧ I xs.length ρ' d' := by
  have z := sLoop_inv h xs.length 0 ρ d (by omega) h0
  rwa [List.drop_zero] at z
theorem enumP_get' {xs : List PV} {i : Nat} {z : PV} (e : (enumP xs)[i]? = some z) : ∃ x, xs[i]? = some x ∧ z = .tup [.int (i : Nat), x] := by
  have hl : i < xs.length := by
    have := (List.getElem?_eq_some_iff.mp e).1
    rwa [enumP_len] at this
  refine ⟨xs[i], by simp [hl], ?_⟩
  rw [enumP_get (x := xs[i]) (by simp [hl])] at e
  exact (Option.some.inj e).symm
theorem zipP_ints (l r : List Int) : zipP (l.map PV.int) (r.map PV.int) = (l.zip r).map fun p => .tup [.int p.1, .int p.2] := by
  induction l generalizing r with
  | nil => rfl
  | cons x l ih => cases r with
    | nil => rfl
    | cons y r => simp only [List.map_cons, List.zip_cons_cons]; rw [← ih]; rfl
section
variable {m : EM} {ml : AM} {ρ : REnv} {d : DSt} {i c n : Nat} {ts : List Tg}
theorem sRet_a : sRet m ρ d = (match m ρ d with | .ok x d' => .rt x d' | .ex e d' => .ex e d' | .no => .no) := rfl
theorem sSet_a : sSet i m ρ d = (match m ρ d with | .ok x d' => .nx (ρ.set i (.val x)) d' | .ex e d' => .ex e d' | .no => .no) := rfl
theorem sDo_a : sDo m ρ d = (match m ρ d with | .ok _ d' => .nx ρ d' | .ex e d' => .ex e d' | .no => .no) := rfl
theorem sOwn_a : sOwn i ml ρ d = (match ml ρ d with | .ok x d' => .nx (ρ.set i (.own x)) d' | .ex e d' => .ex e d' | .no => .no) := rfl
theorem sSetL_a : sSetL i ml ρ d = (match ml ρ d with | .ok x d' => .nx (ρ.set i (.val (.lst x))) d' | .ex e d' => .ex e d' | .no => .no) := rfl
theorem sFld_a : sFld i c n m ρ d = (match m ρ d with
  | .ok x d' => (match (ρ[i]? : Option Sl) with
    | some (.obj c' xs) => if c' = c ∧ xs.length = n then .nx (ρ.set i (.obj c (xs ++ [x]))) d' else .no
    | _ => .no)
  | .ex e d' => .ex e d' | .no => .no) := rfl
theorem sAsgL_a : sAsgL ts m ρ d = (match m ρ d with
  | .ok x d' => (match x with
    | .lst xs => (match Tg.sets ts xs ρ with
      | some ρ' => .nx ρ' d'
      | none => .no)
    | _ => .no)
  | .ex e d' => .ex e d' | .no => .no) := rfl
end
/-- with a variable number: a cast inside would be unrolled -/
theorem range1_j {ms : AM} {ρ : REnv} {d d1 : DSt} {j : Int} (e : ms ρ d = .ok [.int j] d1) (h : (-4000 : Int) < j ∧ j < 4000) : iRange1 ms ρ d = .ok (rng 0 j.toNat) d1 := by
  unfold iRange1
  rw [e]
  simp only [R.bind]
  exact if_pos h
theorem rg1_j {mkl : List PV → PV} {m : EM} {ρ : REnv} {d d1 : DSt} {j : Int} (e : m ρ d = .ok (.int j) d1) (h : (-4000 : Int) < j ∧ j < 4000) : eRg1 mkl m ρ d = .ok (mkl (rng 0 (j - 0).toNat)) d1 := by
  unfold eRg1
  rw [e]
  simp only [R.bind]
  exact if_pos h
end RL
end M_R23
section M_R24
/-! what repr gives: its length -/
namespace RL
open PySem PyProof.Rows
theorem piled_bound {m : Nat} : ∀ {ts : List Str}, (∀ t ∈ ts, t.length ≤ m) → piled ts ≤ ts.length * (m + 2)
  | [], _ => by simp [piled]
  | t :: ts, h => by
    have a := h t List.mem_cons_self
    have b := piled_bound (fun t ht => h t (List.mem_cons_of_mem _ ht))
    rw [piled_cons, List.length_cons, Nat.succ_mul]
    omega
theorem textFrom_bound : ∀ (ts : List Str) (k : Nat) (acc : Str), (textFrom k acc ts).length ≤ acc.length + piled ts
  | [], k, acc => by simp [textFrom, piled]
  | t :: ts, k, acc => by
    have ih := textFrom_bound ts (k + 1) (acc ++ (if k > 0 then ", " else "" : String) ++ t)
    rw [strLen_append, strLen_append] at ih
    have : ((if k > 0 then ", " else "" : String) : Str).length ≤ 2 := by split <;> decide
    rw [piled_cons]
    show (textFrom (k + 1) (acc ++ (if k > 0 then ", " else "" : String) ++ t) ts).length ≤ _
    omega
theorem listText_bound {ts : List Str} {m : Nat} (h : ∀ t ∈ ts, t.length ≤ m) : (listText ts).length ≤ 2 + ts.length * (m + 2) := by
  unfold listText
  rw [strLen_append]
  have a := textFrom_bound ts 0 "["
  have b := piled_bound h
  have e1 : (("[" : String) : Str).length = 1 := rfl
  have e2 : (("]" : String) : Str).length = 1 := rfl
  rw [e2]
  rw [e1] at a
  omega
theorem tupleText_bound {ts : List Str} {m : Nat} (h : ∀ t ∈ ts, t.length ≤ m) : (tupleText ts).length ≤ 4 + ts.length * (m + 2) := by
  unfold tupleText
  rw [strLen_append, strLen_append]
  have b := piled_bound h
  have e1 : ((("(" : String) : Str)).length = 1 := rfl
  have e3 : (((if ts.length == 1 then ",)" else ")" : String) : Str)).length ≤ 2 := by split <;> decide
  rw [e1]
  by_cases q : ts = []
  · subst q
    have : (Str.join ", " ([] : List Str)).length = 0 := rfl
    omega
  · have := join_length_add ts q
    omega
theorem shownAll_len : ∀ l : List PyData, (PyData.shownAll l).length = l.length
  | [] => by simp [PyData.shownAll]
  | x :: l => by simp [PyData.shownAll, shownAll_len l]
theorem shownAll_mem {m : Nat} : ∀ {l : List PyData}, (∀ x ∈ l, x.shown.length ≤ m) → ∀ t ∈ PyData.shownAll l, t.length ≤ m
  | [], _, t, ht => by simp [PyData.shownAll] at ht
  | x :: l, h, t, ht => by
    simp only [PyData.shownAll, List.mem_cons] at ht
    rcases ht with rfl | ht
    · exact h x List.mem_cons_self
    · exact shownAll_mem (fun y hy => h y (List.mem_cons_of_mem _ hy)) t ht
theorem strOk_append (x y : Str) : PyData.strOk (x ++ y) = (PyData.strOk x && PyData.strOk y) := by
  show (x.cps ++ y.cps).all (· < 0x110000) = _
  rw [Array.all_append]
  rfl
theorem strOk_of (s : String) : PyData.strOk (Str.ofString s) = true := by
  unfold PyData.strOk
  rw [Str.ofString_eq_toList, Array.all_eq_true']
  intro c hc
  obtain ⟨ch, _, rfl⟩ : ∃ ch ∈ s.toList, ch.toNat = c := by
    simpa using hc
  have := ch.valid
  have h2 : ch.toNat < 0x110000 := by
    rcases this with q | q
    · show ch.val.toNat < _; omega
    · show ch.val.toNat < _; omega
  simp [h2]
theorem textFrom_strOk : ∀ (ts : List Str) (k : Nat) (acc : Str), PyData.strOk acc = true → (∀ t ∈ ts, PyData.strOk t = true) → PyData.strOk (textFrom k acc ts) = true
  | [], k, acc, h, _ => h
  | t :: ts, k, acc, h, g => textFrom_strOk ts (k + 1) _ (by
      rw [strOk_append, strOk_append, h, g t List.mem_cons_self]
      simp [strOk_of]) fun y hy => g y (List.mem_cons_of_mem _ hy)
theorem join_strOk {sep : Str} (hs : PyData.strOk sep = true) : ∀ (ts : List Str), (∀ t ∈ ts, PyData.strOk t = true) → PyData.strOk (Str.join sep ts) = true
  | [], _ => by unfold Str.join; simp [PyData.strOk, Str.empty]
  | [x], h => h x List.mem_cons_self
  | x :: y :: r, h => by
    show PyData.strOk (x ++ sep ++ Str.join sep (y :: r)) = true
    rw [strOk_append, strOk_append, h x List.mem_cons_self, hs, join_strOk hs (y :: r) fun t ht => h t (List.mem_cons_of_mem _ ht)]
    rfl
theorem listText_strOk {ts : List Str} (h : ∀ t ∈ ts, PyData.strOk t = true) : PyData.strOk (listText ts) = true := by
  unfold listText
  rw [strOk_append, textFrom_strOk ts 0 "[" (strOk_of _) h]
  exact strOk_of _
theorem tupleText_strOk {ts : List Str} (h : ∀ t ∈ ts, PyData.strOk t = true) : PyData.strOk (tupleText ts) = true := by
  unfold tupleText
  rw [strOk_append, strOk_append, join_strOk (strOk_of _) ts h, strOk_of, strOk_of]
  rfl
theorem shownAll_p {p : Str → Prop} : ∀ {l : List PyData}, (∀ x ∈ l, p x.shown) → ∀ t ∈ PyData.shownAll l, p t
  | [], _, t, ht => by simp [PyData.shownAll] at ht
  | x :: l, h, t, ht => by
    simp only [PyData.shownAll, List.mem_cons] at ht
    rcases ht with rfl | ht
    · exact h x List.mem_cons_self
    · exact shownAll_p (fun y hy => h y (List.mem_cons_of_mem _ hy)) t ht
/-- may be shown: no deeper than d, in at most m signs -/
structure Shw (d m : Nat) (x : PyData) : Prop where
  s : x.showable = true
  d : x.depth ≤ d
  l : x.shown.length ≤ m
  o : PyData.strOk x.shown = true
theorem shw_int {i : Int} (h0 : 0 ≤ i) (h1 : i < 10 ^ 10) (d : Nat) : Shw d 10 (.int i) := by
  refine ⟨?_, by simp [PyData.depth], ?_, ?_⟩
  · have : i.natAbs.log2 < 1920 := by
      have h2 : i.natAbs < 2 ^ 40 := by
        have : (2 : Nat) ^ 40 = 1099511627776 := by decide
        have h3 : ((10 : Int) ^ 10) = 10000000000 := by decide
        omega
      by_cases q : i.natAbs = 0
      · rw [q]; decide
      · have := (Nat.log2_lt q).mpr h2
        omega
    simp [PyData.showable, this]
  · simp only [PyData.shown]
    exact toString_length_le h0 (by decide) h1
  · simp only [PyData.shown]
    exact strOk_of _
theorem shw_bool (b : Bool) (d : Nat) : Shw d 5 (.bool b) := by
  refine ⟨by simp [PyData.showable], by simp [PyData.depth], ?_, ?_⟩
  · simp only [PyData.shown]
    cases b <;> decide
  · simp only [PyData.shown]
    cases b <;> exact strOk_of _
theorem showableAll_of : ∀ {l : List PyData}, (∀ x ∈ l, x.showable = true) → PyData.showableAll l = true
  | [], _ => by simp [PyData.showableAll]
  | x :: l, h => by simp [PyData.showableAll, h x List.mem_cons_self, showableAll_of fun y hy => h y (List.mem_cons_of_mem _ hy)]
theorem depthAll_of {d : Nat} : ∀ {l : List PyData}, (∀ x ∈ l, x.depth ≤ d) → PyData.depthAll l ≤ d
  | [], _ => by simp [PyData.depthAll]
  | x :: l, h => by
    have a := h x List.mem_cons_self
    have b := depthAll_of fun y hy => h y (List.mem_cons_of_mem _ hy)
    simp only [PyData.depthAll]
    omega
theorem shw_list {d m : Nat} {l : List PyData} (h : ∀ x ∈ l, Shw d m x) : Shw (d + 1) (4 + l.length * (m + 2)) (.list l) := by
  refine ⟨by simp only [PyData.showable]; exact showableAll_of fun x hx => (h x hx).s, by simp only [PyData.depth]; have := depthAll_of fun x hx => (h x hx).d; omega, ?_, ?_⟩
  · simp only [PyData.shown]
    have := listText_bound (shownAll_mem fun x hx => (h x hx).l)
    rw [shownAll_len] at this
    omega
  · simp only [PyData.shown]
    exact listText_strOk (shownAll_p fun x hx => (h x hx).o)
theorem shw_tup {d m : Nat} {l : List PyData} (h : ∀ x ∈ l, Shw d m x) : Shw (d + 1) (4 + l.length * (m + 2)) (.tuple l) := by
  refine ⟨by simp only [PyData.showable]; exact showableAll_of fun x hx => (h x hx).s, by simp only [PyData.depth]; have := depthAll_of fun x hx => (h x hx).d; omega, ?_, ?_⟩
  · simp only [PyData.shown]
    have := tupleText_bound (shownAll_mem fun x hx => (h x hx).l)
    rw [shownAll_len] at this
    omega
  · simp only [PyData.shown]
    exact tupleText_strOk (shownAll_p fun x hx => (h x hx).o)
theorem Shw.mono {d d' m m' : Nat} {x : PyData} (h : Shw d m x) (a : d ≤ d') (b : m ≤ m') : Shw d' m' x := ⟨h.s, Nat.le_trans h.d a, Nat.le_trans h.l b, h.o⟩
theorem Shw.ok {d m : Nat} {x : PyData} (h : Shw d m x) (a : d ≤ 60) (b : m < LIM) : fRepr.reprOk x = true := by
  unfold fRepr.reprOk
  rw [h.s, decide_eq_true (Nat.le_trans h.d a), decide_eq_true (Nat.lt_of_le_of_lt h.l b)]
  rfl
theorem repr_list {d m : Nat} {l : List PyData} {x : PV} (e : toD x = some (.list l)) (h : Shw d m (.list l)) (a : d ≤ 60) (b : m < LIM) : fRepr [x] = .ok (.str (PyData.list l).shown) := by
  simp only [fRepr, e, h.ok a b, if_true]
theorem repr_tup {d m : Nat} {l : List PyData} {x : PV} (e : toD x = some (.tuple l)) (h : Shw d m (.tuple l)) (a : d ≤ 60) (b : m < LIM) : fRepr [x] = .ok (.str (PyData.tuple l).shown) := by
  simp only [fRepr, e, h.ok a b, if_true]
theorem oEqD_str_self (b : Bool) {s : Str} (h : PyData.strOk s = true) : oEqD b (.str s) (.str s) = .ok (.bl (!b)) := by
  simp [oEqD, toD, SeqAt.shaped, PyData.canLay0, PyData.depth, PyData.eqv, h]
end RL
end M_R24
section M_R25
/-! comprehensions over numbers -/
namespace RL
open PySem
theorem aLc_map {mi : AM} {vs : List Nat} {t : Tg} {me : EM} {ρ : REnv} {d d1 : DSt} {xs : List PV} {g : PV → PV} (hi : mi ρ d = .ok xs d1) (hl : xs.length < LIM)
    (hb : ∀ x ∈ xs, ∃ ρ1, t.set x (wipeR ρ vs) = some ρ1 ∧ me ρ1 d1 = .ok (g x) d1) : aLc mi vs t bYes me ρ d = .ok (xs.map g) d1 := by
  unfold aLc
  rw [hi]
  simp only [R.bind]
  rw [if_pos hl]
  exact lcGo_map hb
theorem aLc_ints {mi : AM} {vs : List Nat} {i : Nat} {me : EM} {ρ : REnv} {d d1 : DSt} {l : List Int} {f : Int → PV} (hi : mi ρ d = .ok (l.map PV.int) d1) (hl : l.length < LIM)
    (hb : ∀ x ∈ l, me ((wipeR ρ vs).set i (.val (.int x))) d1 = .ok (f x) d1) : aLc mi vs (.n i) bYes me ρ d = .ok (l.map f) d1 := by
  have z := aLc_map (t := .n i) (me := me) (vs := vs) (g := fun z => match z with | .int x => f x | _ => .non) hi (by simpa using hl) fun x hx => by
    obtain ⟨v, hv, rfl⟩ := List.mem_map.mp hx
    exact ⟨_, rfl, hb v hv⟩
  rw [z, List.map_map]
  rfl
theorem aLc_intsF {mi : AM} {vs : List Nat} {i : Nat} {bc : BM} {me : EM} {ρ : REnv} {d d1 : DSt} {l : List Int} {p : Int → Bool} {f : Int → PV} (hi : mi ρ d = .ok (l.map PV.int) d1) (hl : l.length < LIM)
    (hc : ∀ x ∈ l, bc ((wipeR ρ vs).set i (.val (.int x))) d1 = .ok (p x) d1)
    (hb : ∀ x ∈ l, p x = true → me ((wipeR ρ vs).set i (.val (.int x))) d1 = .ok (f x) d1) : aLc mi vs (.n i) bc me ρ d = .ok ((l.filter p).map f) d1 := by
  unfold aLc
  rw [hi]
  simp only [R.bind]
  rw [if_pos (by simpa using hl)]
  rw [lcGo_filter (t := .n i) (g := fun z => match z with | .int x => f x | _ => .non) (p := fun z => match z with | .int x => p x | _ => false) fun x hx => by
    obtain ⟨v, hv, rfl⟩ := List.mem_map.mp hx
    exact ⟨_, rfl, hc v hv, hb v hv⟩]
  rw [List.filter_map, List.map_map]
  rfl
theorem aLc_zip {mi : AM} {vs : List Nat} {i j : Nat} {me : EM} {ρ : REnv} {d d1 : DSt} {l r : List Int} {f : Int → Int → PV} (hi : mi ρ d = .ok (zipP (l.map PV.int) (r.map PV.int)) d1) (hl : l.length < LIM)
    (hb : ∀ x ∈ l, ∀ y ∈ r, me (((wipeR ρ vs).set i (.val (.int x))).set j (.val (.int y))) d1 = .ok (f x y) d1) : aLc mi vs (.t [.n i, .n j]) bYes me ρ d = .ok (l.zipWith f r) d1 := by
  have z := aLc_map (t := .t [.n i, .n j]) (me := me) (vs := vs) (g := fun z => match z with | .tup [.int x, .int y] => f x y | _ => .non) hi (by rw [zipP_len]; simp; omega) fun x hx => by
    rw [zipP_ints] at hx
    obtain ⟨⟨a, b⟩, hv, rfl⟩ := List.mem_map.mp hx
    have hm := List.of_mem_zip hv
    exact ⟨_, rfl, hb a hm.1 b hm.2⟩
  have q : ∀ (l r : List Int), (l.zip r).map (fun p => f p.1 p.2) = l.zipWith f r := by
    intro l
    induction l with
    | nil => intro r; rfl
    | cons x l ih => intro r; cases r with
      | nil => rfl
      | cons y r => simp [ih]
  rw [z, zipP_ints, List.map_map, ← q]
  rfl
/-- a body that draws -/
theorem aLc_intsI {mi : AM} {vs : List Nat} {i : Nat} {me : EM} {ρ : REnv} {d d1 : DSt} {l : List Int} {I : Nat → DSt → Prop} {P : PV → Prop} {n : Nat} (hi : mi ρ d = .ok (l.map PV.int) d1) (hl : l.length < LIM) (h0 : I n d1)
    (hb : ∀ x ∈ l, ∀ k d, I k d → k < n + l.length → ∃ y d', me ((wipeR ρ vs).set i (.val (.int x))) d = .ok y d' ∧ P y ∧ I (k + 1) d') :
    ∃ ys d', aLc mi vs (.n i) bYes me ρ d = .ok ys d' ∧ ys.length = l.length ∧ (∀ y ∈ ys, P y) ∧ I (n + l.length) d' := by
  unfold aLc
  rw [hi]
  simp only [R.bind]
  rw [if_pos (by simpa using hl)]
  suffices z : ∀ (l : List Int) (n m : Nat) (d : DSt), I n d → n + l.length ≤ m → (∀ x ∈ l, ∀ k d, I k d → k < m → ∃ y d', me ((wipeR ρ vs).set i (.val (.int x))) d = .ok y d' ∧ P y ∧ I (k + 1) d') →
      ∃ ys d', lcGo (wipeR ρ vs) (.n i) bYes me (l.map PV.int) d = .ok ys d' ∧ ys.length = l.length ∧ (∀ y ∈ ys, P y) ∧ I (n + l.length) d' from z l n _ d1 h0 (Nat.le_refl _) hb
  intro l
  induction l with
  | nil => exact fun n m d h _ _ => ⟨[], d, rfl, rfl, fun y hy => (nomatch hy), h⟩
  | cons x l ih =>
    intro n m d h hm hb
    rw [List.length_cons] at hm
    obtain ⟨y, d2, e1, py, h2⟩ := hb x List.mem_cons_self n d h (by omega)
    obtain ⟨ys, d3, e2, e3, py', h3⟩ := ih (n + 1) m d2 h2 (by omega) fun x hx => hb x (List.mem_cons_of_mem _ hx)
    refine ⟨y :: ys, d3, ?_, by simp [e3], fun z hz => ?_, by rw [List.length_cons, show n + (l.length + 1) = n + 1 + l.length by omega]; exact h3⟩
    · rw [List.map_cons]
      unfold lcGo
      simp only [Tg.set, bYes, R.nx, R.bind_ok, e1, if_true, e2]
    · rcases List.mem_cons.mp hz with rfl | hz
      · exact py
      · exact py' z hz
theorem ints_of {l : List PV} {p : Int → Prop} : (∀ y ∈ l, ∃ x, y = PV.int x ∧ p x) → ∃ r : List Int, l = r.map PV.int ∧ ∀ x ∈ r, p x := by
  induction l with
  | nil => exact fun _ => ⟨[], rfl, fun x hx => (nomatch hx)⟩
  | cons y l ih =>
    intro h
    obtain ⟨x, rfl, hx⟩ := h y List.mem_cons_self
    obtain ⟨r, rfl, hr⟩ := ih fun z hz => h z (List.mem_cons_of_mem _ hz)
    exact ⟨x :: r, rfl, fun z hz => by rcases List.mem_cons.mp hz with rfl | hz; exact hx; exact hr z hz⟩
end RL
end M_R25
section M_R26
/-! the mirrors, applied: simp works them out -/
namespace RL
open PySem L2
@[simp] theorem eVar_x (i : Nat) (ρ : REnv) (d : DSt) : eVar i ρ d = ( match ρ[i]? with
  | some (.val x) => .ok x d
  | _ => .no) := rfl
@[simp] theorem eC_x (x : PV) (ρ : REnv) (d : DSt) : eC x ρ d = ( .ok x d) := rfl
@[simp] theorem eBin_x (g : PV → PV → O) (ma mb : EM) (ρ : REnv) (d : DSt) : eBin g ma mb ρ d = ( (ma ρ d).bind fun x d1 => (mb ρ d1).bind fun y d2 => (g x y).r d2) := rfl
@[simp] theorem eChain_x (g g' : PV → PV → O) (ma mb mc : EM) (ρ : REnv) (d : DSt) : eChain g g' ma mb mc ρ d = ( (ma ρ d).bind fun x d1 => (mb ρ d1).bind fun y d2 => ((g x y).r d2).bind fun z d3 => match z with
  | .bl true => (mc ρ d3).bind fun w d4 => (g' y w).r d4
  | .bl false => .ok (.bl false) d3
  | _ => .no) := rfl
@[simp] theorem eOix_x (i : Nat) (m : EM) (ρ : REnv) (d : DSt) : eOix i m ρ d = ( match (ρ[i]? : Option Sl) with
  | some (.own l) => (m ρ d).bind fun y d1 => match y with
    | .int k => (match (ixN l.length k).bind (fun j => l[j]?) with
      | some v => .ok v d1
      | none => .no)
    | _ => .no
  | _ => .no) := rfl
@[simp] theorem bTru_x (m : EM) (ρ : REnv) (d : DSt) : bTru m ρ d = ( (m ρ d).bind fun x d' => match tru x with
  | some b => .ok b d'
  | none => .no) := rfl
@[simp] theorem bBool_x (m : EM) (ρ : REnv) (d : DSt) : bBool m ρ d = ( (m ρ d).bind fun x d' => match x with
  | .bl b => .ok b d'
  | _ => .no) := rfl
@[simp] theorem bAnd_x (a b : BM) (ρ : REnv) (d : DSt) : bAnd a b ρ d = ( (a ρ d).bind fun c d1 => if c then b ρ d1 else .ok false d1) := rfl
@[simp] theorem bOr_x (a b : BM) (ρ : REnv) (d : DSt) : bOr a b ρ d = ( (a ρ d).bind fun c d1 => if c then .ok true d1 else b ρ d1) := rfl
@[simp] theorem bNot_x (a : BM) (ρ : REnv) (d : DSt) : bNot a ρ d = ( (a ρ d).bind fun c d1 => .ok (!c) d1) := rfl
@[simp] theorem eAnd_x (a b : EM) (ρ : REnv) (d : DSt) : eAnd a b ρ d = ( (a ρ d).bind fun x d1 => match x with
  | .bl true => b ρ d1
  | .bl false => .ok (.bl false) d1
  | _ => .no) := rfl
@[simp] theorem eOr_x (a b : EM) (ρ : REnv) (d : DSt) : eOr a b ρ d = ( (a ρ d).bind fun x d1 => match x with
  | .bl true => .ok (.bl true) d1
  | .bl false => b ρ d1
  | _ => .no) := rfl
@[simp] theorem eNot_x (a : EM) (ρ : REnv) (d : DSt) : eNot a ρ d = ( (a ρ d).bind fun x d1 => match x with
  | .bl c => .ok (.bl !c) d1
  | _ => .no) := rfl
@[simp] theorem eIf_x (t : BM) (a b : EM) (ρ : REnv) (d : DSt) : eIf t a b ρ d = ( (t ρ d).bind fun c d1 => if c then a ρ d1 else b ρ d1) := rfl
@[simp] theorem aNil_x  (ρ : REnv) (d : DSt) : aNil ρ d = ( .ok [] d) := rfl
@[simp] theorem aCons_x (m : EM) (ms : AM) (ρ : REnv) (d : DSt) : aCons m ms ρ d = ( (m ρ d).bind fun x d1 => (ms ρ d1).bind fun xs d2 => .ok (x :: xs) d2) := rfl
@[simp] theorem eTup_x (ms : AM) (ρ : REnv) (d : DSt) : eTup ms ρ d = ( (ms ρ d).bind fun xs d1 => if xs.length < LIM then .ok (.tup xs) d1 else .no) := rfl
@[simp] theorem eLst_x (ms : AM) (ρ : REnv) (d : DSt) : eLst ms ρ d = ( (ms ρ d).bind fun xs d1 => if xs.length < LIM then .ok (.lst xs) d1 else .no) := rfl
@[simp] theorem eCall_x (g : PFn) (ms : AM) (ρ : REnv) (d : DSt) : eCall g ms ρ d = ( (ms ρ d).bind fun xs d1 => (g xs).r d1) := rfl
@[simp] theorem sSeq_x (a b : SM) (ρ : REnv) (d : DSt) : sSeq a b ρ d = ( match a ρ d with
  | .nx ρ' d' => b ρ' d'
  | r => r) := rfl
@[simp] theorem sNx_x  (ρ : REnv) (d : DSt) : sNx ρ d = ( .nx ρ d) := rfl
@[simp] theorem sRetN_x  (ρ : REnv) (d : DSt) : sRetN ρ d = ( .rt .non d) := rfl
@[simp] theorem sIf_x (t : BM) (a b : SM) (ρ : REnv) (d : DSt) : sIf t a b ρ d = ( match t ρ d with
  | .ok true d' => a ρ d'
  | .ok false d' => b ρ d'
  | .ex e d' => .ex e d'
  | .no => .no) := rfl
@[simp] theorem sBrk_x  (ρ : REnv) (d : DSt) : sBrk ρ d = ( .bk ρ d) := rfl
@[simp] theorem sCnt_x  (ρ : REnv) (d : DSt) : sCnt ρ d = ( .ct ρ d) := rfl
@[simp] theorem sNo_x  (ρ : REnv) (d : DSt) : sNo ρ d = ( .no) := rfl
@[simp] theorem iSeq_x (m : EM) (ρ : REnv) (d : DSt) : iSeq m ρ d = ( (m ρ d).bind fun x d1 => match x with
  | .lst xs => .ok xs d1
  | .tup xs => .ok xs d1
  | _ => .no) := rfl
@[simp] theorem eL_x (m : AM) (ρ : REnv) (d : DSt) : eL m ρ d = ( (m ρ d).bind fun xs d1 => .ok (.lst xs) d1) := rfl
@[simp] theorem aLim_x (ms : AM) (ρ : REnv) (d : DSt) : aLim ms ρ d = ( (ms ρ d).bind fun xs d1 => if xs.length < LIM then .ok xs d1 else .no) := rfl
@[simp] theorem bYes_x  (ρ : REnv) (d : DSt) : bYes ρ d = ( .ok true d) := rfl
@[simp] theorem sFrz_x (i : Nat) (s : SM) (ρ : REnv) (d : DSt) : sFrz i s ρ d = ( match frzR i ρ with
  | some ρ' => s ρ' d
  | none => .no) := rfl
@[simp] theorem sApp_x (i : Nat) (m : EM) (ρ : REnv) (d : DSt) : sApp i m ρ d = ( match ρ[i]? with
  | some (.own l) => match m ρ d with
    | .ok y d' => if l.length < LIM then .nx (ρ.set i (.own (l ++ [y]))) d' else .no
    | .ex e d' => .ex e d'
    | .no => .no
  | _ => .no) := rfl
@[simp] theorem sPut_x (i : Nat) (mi m : EM) (ρ : REnv) (d : DSt) : sPut i mi m ρ d = ( match m ρ d with
  | .ok y d1 => match mi ρ d1 with
    | .ok (.int k) d2 => match ρ[i]? with
      | some (.own l) => match ixN l.length k with
        | some j => .nx (ρ.set i (.own (l.set j y))) d2
        | none => .no
      | _ => .no
    | _ => .no
  | .ex e d1 => .ex e d1
  | .no => .no) := rfl
@[simp] theorem eUn_x (g : PV → O) (m : EM) (ρ : REnv) (d : DSt) : eUn g m ρ d = ( (m ρ d).bind fun x d1 => (g x).r d1) := rfl
@[simp] theorem eVal_x (tg ti : OT) (me : EM) (ms : AM) (ρ : REnv) (d : DSt) : eVal tg ti me ms ρ d = ( (me ρ d).bind fun x d1 => match x with
  | .gl c => (match tg c with
    | some fn => (ms ρ d1).bind fun xs d2 => (fn xs).r d2
    | none => .no)
  | .ins c ys => (match ti c with
    | some fn => (ms ρ d1).bind fun xs d2 => (fn (.ins c ys :: xs)).r d2
    | none => .no)
  | _ => .no) := rfl
@[simp] theorem eValC_x (tg : OT) (me : EM) (ms : AM) (ρ : REnv) (d : DSt) : eValC tg me ms ρ d = ( (me ρ d).bind fun x d1 => match x with
  | .gl c => (match tg c with
    | some fn => (ms ρ d1).bind fun xs d2 => (fn xs).r d2
    | none => .no)
  | _ => .no) := rfl
@[simp] theorem eCm_x (t : OT) (m : EM) (ms : AM) (ρ : REnv) (d : DSt) : eCm t m ms ρ d = ( (m ρ d).bind fun x d1 => match x with
  | .gl c => (match t c with
    | some fn => (ms ρ d1).bind fun xs d2 => (fn (.gl c :: xs)).r d2
    | none => .no)
  | _ => .no) := rfl
@[simp] theorem eCc_x (t : Nat → Option PV) (m : EM) (ρ : REnv) (d : DSt) : eCc t m ρ d = ( (m ρ d).bind fun x d1 => match x with
  | .gl c => (match t c with
    | some y => .ok y d1
    | none => .no)
  | _ => .no) := rfl
@[simp] theorem aItems_x (m : EM) (ρ : REnv) (d : DSt) : aItems m ρ d = ( (m ρ d).bind fun x d1 => match x with
  | .tup xs => .ok xs d1
  | .lst xs => .ok xs d1
  | _ => .no) := rfl
@[simp] theorem iEnump_x (ms : AM) (ρ : REnv) (d : DSt) : iEnum' ms ρ d = ( (ms ρ d).bind fun xs d1 => match xs with
  | [.lst xs] => .ok (enumP xs) d1
  | [.tup xs] => .ok (enumP xs) d1
  | _ => .no) := rfl
@[simp] theorem iZipp_x (ms : AM) (ρ : REnv) (d : DSt) : iZip' ms ρ d = ( (ms ρ d).bind fun xs d1 => match xs with
  | [.lst xs, .lst ys] => .ok (zipP xs ys) d1
  | [.tup xs, .tup ys] => .ok (zipP xs ys) d1
  | _ => .no) := rfl
@[simp] theorem sPar_x (ix : List Nat) (is : List MI) (ρ : REnv) (d : DSt) : sPar ix is ρ d = ( if ix.all (· < ρ.length) then match mixR is ρ d with
  | .ok ss d' => .nx (setAll ρ ix ss) d'
  | .ex e d' => .ex e d'
  | .no => .no
  else .no) := rfl
@[simp] theorem eSpot_x (i : Nat) (ρ : REnv) (d : DSt) : eSpot i ρ d = ( match (ρ[i]? : Option Sl) with
  | some .dr => .ok (.int d.spot) d
  | _ => .no) := rfl
@[simp] theorem bGr_x (i : Nat) (ρ : REnv) (d : DSt) : bGr i ρ d = ( match (ρ[i]? : Option Sl) with
  | some .dr => if SeqAt.shaped (.list (d.great.map PyData.int)) = true then .ok (!PyData.eqv (.list (d.great.map PyData.int)) (.list [])) d else .no
  | _ => .no) := rfl
@[simp] theorem eCallM_x (i : Nat) (fn : MFn) (ms : AM) (ρ : REnv) (d : DSt) : eCallM i fn ms ρ d = ( match (ρ[i]? : Option Sl) with
  | some .dr => (ms ρ d).bind fun xs d1 => fn xs d1
  | _ => .no) := rfl
@[simp] theorem eCnt_x (m : EM) (mi : EM) (ρ : REnv) (d : DSt) : eCnt m mi ρ d = ( (m ρ d).bind fun x d1 => match x with
  | .lst xs => (mi ρ d1).bind fun y d2 => match y, intsP xs with
    | .int k, some ns => .ok (.int (ns.count k)) d2
    | _, _ => .no
  | _ => .no) := rfl
@[simp] theorem eSl_x (m : EM) (l h : PM) (ρ : REnv) (d : DSt) : eSl m l h ρ d = ( (m ρ d).bind fun x d1 => (l ρ d1).bind fun lo d2 => (h ρ d2).bind fun hi d3 => (oSl lo hi x).r d3) := rfl
@[simp] theorem eMeth_x (t : OT) (m : EM) (ms : AM) (ρ : REnv) (d : DSt) : eMeth t m ms ρ d = ( (m ρ d).bind fun x d1 => match x with
  | .ins c ys => (match t c with
    | some fn => (ms ρ d1).bind fun xs d2 => (fn (.ins c ys :: xs)).r d2
    | none => .no)
  | _ => .no) := rfl
@[simp] theorem eGrIx_x (i : Nat) (m : EM) (ρ : REnv) (d : DSt) : eGrIx i m ρ d = ( match (ρ[i]? : Option Sl) with
  | some .dr => (m ρ d).bind fun y d1 => match y with
    | .int k => (match (ixN d1.great.length k).bind (fun j => d1.great[j]?) with
      | some v => .ok (.int v) d1
      | none => .no)
    | _ => .no
  | _ => .no) := rfl
@[simp] theorem eCellIx_x (i : Nat) (m : EM) (ρ : REnv) (d : DSt) : eCellIx i m ρ d = ( match (ρ[i]? : Option Sl) with
  | some .dr => (m ρ d).bind fun y d1 => match y with
    | .int k => (match (ixN d.cells.length k).bind (fun j => d.cells[j]?) with
      | some v => .ok (.int v) d1
      | none => .no)
    | _ => .no
  | _ => .no) := rfl
@[simp] theorem eGrLen_x (i : Nat) (ρ : REnv) (d : DSt) : eGrLen i ρ d = ( match (ρ[i]? : Option Sl) with
  | some .dr => .ok (.int d.great.length) d
  | _ => .no) := rfl
@[simp] theorem sE_x (m : EM) (k : PV → REnv → DSt → RS) (ρ : REnv) (d : DSt) : sE m k ρ d = (match m ρ d with | .ok x d' => k x ρ d' | .ex e d' => .ex e d' | .no => .no) := rfl
@[simp] theorem sRet_x (m : EM) (ρ : REnv) (d : DSt) : sRet m ρ d = (match m ρ d with | .ok x d' => .rt x d' | .ex e d' => .ex e d' | .no => .no) := rfl
@[simp] theorem sSet_x (i : Nat) (m : EM) (ρ : REnv) (d : DSt) : sSet i m ρ d = (match m ρ d with | .ok x d' => .nx (ρ.set i (.val x)) d' | .ex e d' => .ex e d' | .no => .no) := rfl
@[simp] theorem sDo_x (m : EM) (ρ : REnv) (d : DSt) : sDo m ρ d = (match m ρ d with | .ok _ d' => .nx ρ d' | .ex e d' => .ex e d' | .no => .no) := rfl
@[simp] theorem sOwn_x (i : Nat) (ml : AM) (ρ : REnv) (d : DSt) : sOwn i ml ρ d = (match ml ρ d with | .ok x d' => .nx (ρ.set i (.own x)) d' | .ex e d' => .ex e d' | .no => .no) := rfl
@[simp] theorem sSetL_x (i : Nat) (ml : AM) (ρ : REnv) (d : DSt) : sSetL i ml ρ d = (match ml ρ d with | .ok x d' => .nx (ρ.set i (.val (.lst x))) d' | .ex e d' => .ex e d' | .no => .no) := rfl
@[simp] theorem sAsg_x (t : Tg) (m : EM) (ρ : REnv) (d : DSt) : sAsg t m ρ d = (match m ρ d with | .ok x d' => (match t.set x ρ with | some ρ' => .nx ρ' d' | none => .no) | .ex e d' => .ex e d' | .no => .no) := rfl
@[simp] theorem sAsgL_x (ts : List Tg) (m : EM) (ρ : REnv) (d : DSt) : sAsgL ts m ρ d = (match m ρ d with
  | .ok x d' => (match x with
    | .lst xs => (match Tg.sets ts xs ρ with
      | some ρ' => .nx ρ' d'
      | none => .no)
    | _ => .no)
  | .ex e d' => .ex e d' | .no => .no) := rfl
@[simp] theorem O_r_ok (x : PV) (d : DSt) : (O.ok x).r d = .ok x d := rfl
@[simp] theorem O_r_ex (e : PX) (d : DSt) : (O.ex e).r d = .ex e d := rfl
@[simp] theorem O_r_no (d : DSt) : (O.no).r d = .no := rfl
@[simp] theorem RS_o_rt (x : PV) (d : DSt) : (RS.rt x d).o = .ok x := rfl
@[simp] theorem RS_o_nx (ρ : REnv) (d : DSt) : (RS.nx ρ d).o = .ok .non := rfl
@[simp] theorem RS_o_ex (e : PX) (d : DSt) : (RS.ex e d).o = .ex e := rfl
@[simp] theorem RS_om_rt (x : PV) (d : DSt) : (RS.rt x d).om = .ok x d := rfl
@[simp] theorem RS_om_nx (ρ : REnv) (d : DSt) : (RS.nx ρ d).om = .ok .non d := rfl
@[simp] theorem wipeR_nil (ρ : REnv) : wipeR ρ [] = ρ := rfl
@[simp] theorem wipeR_cons (ρ : REnv) (v : Nat) (vs : List Nat) : wipeR ρ (v :: vs) = (wipeR ρ vs).set v .un := rfl
@[simp] theorem setAll_nil (ρ : REnv) (ss : List Sl) : setAll ρ [] ss = ρ := by cases ss <;> rfl
@[simp] theorem setAll_cons (ρ : REnv) (i : Nat) (is : List Nat) (s : Sl) (ss : List Sl) : setAll ρ (i :: is) (s :: ss) = setAll (ρ.set i s) is ss := rfl
@[simp] theorem mixR_nil (ρ : REnv) (d : DSt) : mixR [] ρ d = .ok [] d := rfl
@[simp] theorem mixR_v (m : EM) (r : List MI) (ρ : REnv) (d : DSt) : mixR (.v m :: r) ρ d = (m ρ d).bind fun x d1 => (mixR r ρ d1).bind fun ss d2 => .ok (.val x :: ss) d2 := rfl
@[simp] theorem mixR_f (m : AM) (r : List MI) (ρ : REnv) (d : DSt) : mixR (.f m :: r) ρ d = (m ρ d).bind fun x d1 => (mixR r ρ d1).bind fun ss d2 => .ok (.own x :: ss) d2 := rfl
@[simp] theorem tgset_n (i : Nat) (x : PV) (ρ : REnv) : Tg.set (.n i) x ρ = some (ρ.set i (.val x)) := rfl
@[simp] theorem tgset_t (l : List Tg) (xs : List PV) (ρ : REnv) : Tg.set (.t l) (.tup xs) ρ = Tg.sets l xs ρ := rfl
@[simp] theorem frzR_x (i : Nat) (ρ : REnv) : frzR i ρ = (match ρ[i]? with | some (.own l) => some (ρ.set i (.val (.lst l))) | _ => none) := rfl
@[simp] theorem fTuple_l (xs : List PV) : fTuple [.lst xs] = .ok (.tup xs) := rfl
@[simp] theorem fTuple_t (xs : List PV) : fTuple [.tup xs] = .ok (.tup xs) := rfl
@[simp] theorem fList_l (xs : List PV) : fList [.lst xs] = .ok (.lst xs) := rfl
@[simp] theorem fList_t (xs : List PV) : fList [.tup xs] = .ok (.lst xs) := rfl
@[simp] theorem oAdd_i (t : OT) (i j : Int) : oAdd t (.int i) (.int j) = .ok (.int (i + j)) := rfl
@[simp] theorem oSub_i (t : OT) (i j : Int) : oSub t (.int i) (.int j) = .ok (.int (i - j)) := rfl
@[simp] theorem oCmp_i (p : Int → Int → Bool) (t : OT) (i j : Int) : oCmp p t (.int i) (.int j) = .ok (.bl (p i j)) := rfl
@[simp] theorem fLen_l (t : OT) (xs : List PV) : fLen t [.lst xs] = .ok (.int xs.length) := rfl
@[simp] theorem fLen_t (t : OT) (xs : List PV) : fLen t [.tup xs] = .ok (.int xs.length) := rfl
@[simp] theorem tru_bl (b : Bool) : tru (.bl b) = some b := rfl
@[simp] theorem fInt_i (i : Int) : fInt [.int i] = .ok (.int i) := rfl
theorem fMax_i (i j : Int) : fMax [.int i, .int j] = .ok (.int (if j > i then j else i)) := rfl
theorem fMin_i (i j : Int) : fMin [.int i, .int j] = .ok (.int (if j < i then j else i)) := rfl
@[simp] theorem oEq_d (t : OT) (x y : PV) (h : ∀ c xs c' ys, ¬ (x = .ins c xs ∧ y = .ins c' ys)) : oEq t x y = oEqD false x y := by
  unfold oEq
  split
  · exact absurd ⟨rfl, rfl⟩ (h _ _ _ _)
  · rfl
@[simp] theorem oNe_d (t : OT) (x y : PV) (h : ∀ c xs c' ys, ¬ (x = .ins c xs ∧ y = .ins c' ys)) : oNe t x y = oEqD true x y := by
  unfold oNe
  split
  · exact absurd ⟨rfl, rfl⟩ (h _ _ _ _)
  · rfl
theorem shaped_int (i : Int) : SeqAt.shaped (.int i) = true := by simp [SeqAt.shaped, PyData.canLay0, PyData.depth]
theorem shaped_bool (i : Bool) : SeqAt.shaped (.bool i) = true := by simp [SeqAt.shaped, PyData.canLay0, PyData.depth]
theorem shaped_tup (l : List Int) : SeqAt.shaped (.tuple (l.map PyData.int)) = true := by
  unfold SeqAt.shaped
  simp [PyData.canLay0, lay_ints, PyData.depth, depth_ints]
@[simp] theorem eqD_tup (b : Bool) (t u : List Int) : oEqD b (.tup (t.map PV.int)) (.tup (u.map PV.int)) = .ok (.bl (xor b (decide (t = u)))) := by
  simp [oEqD, toD, toDs_ints, shaped_tup, PyData.eqv, eqvAll_ints]
@[simp] theorem eqD_lst (b : Bool) (t u : List Int) : oEqD b (.lst (t.map PV.int)) (.lst (u.map PV.int)) = .ok (.bl (xor b (decide (t = u)))) := by
  simp [oEqD, toD, toDs_ints, shaped_ints, PyData.eqv, eqvAll_ints]
@[simp] theorem eqD_int (b : Bool) (i j : Int) : oEqD b (.int i) (.int j) = .ok (.bl (xor b (decide (i = j)))) := by
  simp [oEqD, toD, shaped_int, PyData.eqv]
  rfl
@[simp] theorem eqD_bl (b : Bool) (i j : Bool) : oEqD b (.bl i) (.bl j) = .ok (.bl (xor b (decide (i = j)))) := by
  simp [oEqD, toD, shaped_bool, PyData.eqv]
  cases i <;> cases j <;> rfl
theorem toDs_bls : ∀ l : List Bool, toDs (l.map PV.bl) = some (l.map PyData.bool)
  | [] => rfl
  | i :: l => by
    show (match toD (.bl i), toDs (l.map PV.bl) with | some d, some ds => some (d :: ds) | _, _ => none) = _
    rw [toDs_bls l]; rfl
theorem eqvAll_bls : ∀ l r : List Bool, PyData.eqvAll (l.map PyData.bool) (r.map PyData.bool) = decide (l = r)
  | [], [] => by simp [PyData.eqvAll]
  | [], _ :: _ => by simp [PyData.eqvAll]
  | _ :: _, [] => by simp [PyData.eqvAll]
  | i :: l, j :: r => by
    simp only [List.map_cons, PyData.eqvAll, PyData.eqv, eqvAll_bls l r]
    by_cases h : i = j
    · subst h; simp
    · simp [h]
theorem shaped_bls (l : List Bool) : SeqAt.shaped (.list (l.map PyData.bool)) = true := by
  have a : ∀ l : List Bool, PyData.canLayAll0 (l.map PyData.bool) = true := by
    intro l
    induction l with
    | nil => simp [PyData.canLayAll0]
    | cons i l ih => simp only [List.map_cons, PyData.canLayAll0, PyData.canLay0, ih, Bool.and_self]
  have b : ∀ l : List Bool, PyData.depthAll (l.map PyData.bool) = 0 := by
    intro l
    induction l with
    | nil => simp [PyData.depthAll]
    | cons i l ih => simp [PyData.depthAll, PyData.depth, ih]
  unfold SeqAt.shaped
  simp [PyData.canLay0, a, PyData.depth, b]
theorem eqD_bls (b : Bool) (t u : List Bool) : oEqD b (.lst (t.map PV.bl)) (.lst (u.map PV.bl)) = .ok (.bl (xor b (decide (t = u)))) := by
  simp [oEqD, toD, toDs_bls, shaped_bls, PyData.eqv, eqvAll_bls]
end RL
end M_R26
section M_R27
/-! walks, as functions that simp can look into -/
namespace RL
open PySem L2
def idl (n : Nat) : List Int := (List.range n).map fun (i : Nat) => (i : Int)
theorem rng0 (n : Nat) : rng 0 n = (idl n).map PV.int := by simp [rng, idl]
@[simp] theorem len_idl (n : Nat) : (idl n).length = n := by simp [idl]
theorem mem_idl {n : Nat} {x : Int} : x ∈ idl n ↔ 0 ≤ x ∧ x < n := by
  simp only [idl, List.mem_map, List.mem_range]
  constructor
  · rintro ⟨i, h, rfl⟩; omega
  · rintro ⟨h0, h1⟩; exact ⟨x.toNat, by omega, by omega⟩
theorem idl_get {n i : Nat} (h : i < n) : (idl n)[i]? = some (i : Int) := by simp [idl, h]
theorem idl_succ (n : Nat) : idl (n + 1) = idl n ++ [(n : Int)] := by simp [idl, List.range_succ]
@[simp] theorem LIM_0 : 0 < LIM := by decide
@[simp] theorem LIM_1 : 1 < LIM := by decide
@[simp] theorem LIM_2 : 2 < LIM := by decide
@[simp] theorem LIM_3 : 3 < LIM := by decide
@[simp] theorem LIM_4 : 4 < LIM := by decide
@[simp] theorem LIM_5 : 5 < LIM := by decide
@[simp] theorem LIM_6 : 6 < LIM := by decide
@[simp] theorem LIM_7 : 7 < LIM := by decide
@[simp] theorem LIM_8 : 8 < LIM := by decide
@[simp] theorem LIM_9 : 9 < LIM := by decide
@[simp] theorem LIM_10 : 10 < LIM := by decide
@[simp] theorem LIM_11 : 11 < LIM := by decide
@[simp] theorem LIM_12 : 12 < LIM := by decide
@[simp] theorem sets_nil (ρ : REnv) : Tg.sets [] [] ρ = some ρ := rfl
@[simp] theorem sets_n (i : Nat) (ts : List Tg) (x : PV) (xs : List PV) (ρ : REnv) : Tg.sets (.n i :: ts) (x :: xs) ρ = Tg.sets ts xs (ρ.set i (.val x)) := rfl
theorem oLn_i {n : Int} (h0 : 0 ≤ n) (h1 : n < 1000000) : oLn (.ok (.int n)) = .ok (.int n) := if_pos ⟨h0, h1⟩
/-! ranges -/
def rngR : List PV → DSt → R (List PV) := fun xs d => match xs with
  | [.int j] => if -4000 < j ∧ j < 4000 then .ok (rng 0 j.toNat) d else .no
  | _ => .no
@[simp] theorem iRange1_x (ms : AM) (ρ : REnv) (d : DSt) : iRange1 ms ρ d = (ms ρ d).bind rngR := rfl
theorem rngR_int {k : Int} {n : Nat} {d : DSt} (h : k = n) (hn : n < 4000) : rngR [.int k] d = .ok ((idl n).map PV.int) d := by
  have : k.toNat = n := by omega
  rw [← rng0, ← this]
  exact if_pos ⟨by omega, by omega⟩
theorem rngR_n {n : Nat} {d : DSt} (hn : n < 4000) : rngR [.int (n : Int)] d = .ok ((idl n).map PV.int) d := rngR_int rfl hn
theorem rngR_n1 {n : Nat} {d : DSt} (hn : n + 1 < 4000) : rngR [.int ((n : Int) + 1)] d = .ok ((idl (n + 1)).map PV.int) d := rngR_int (by omega) hn
def rng2R : List PV → DSt → R (List PV) := fun xs d => match xs with
  | [.int i, .int j] => if (-4000 < i ∧ i < 4000) ∧ -4000 < j ∧ j < 4000 then .ok (rng i (j - i).toNat) d else .no
  | _ => .no
@[simp] theorem iRange2_x (ms : AM) (ρ : REnv) (d : DSt) : iRange2 ms ρ d = (ms ρ d).bind rng2R := rfl
def mk1 (mk : List PV → PV) : PV → DSt → R PV := fun x d => match x with
  | .int i => if -4000 < i ∧ i < 4000 then .ok (mk (rng 0 (i - 0).toNat)) d else .no
  | _ => .no
@[simp] theorem eRg1_x (mk : List PV → PV) (m : EM) (ρ : REnv) (d : DSt) : eRg1 mk m ρ d = (m ρ d).bind (mk1 mk) := rfl
theorem mk1_int {mk : List PV → PV} {k : Int} {n : Nat} {d : DSt} (h : k = n) (hn : n < 4000) : mk1 mk (.int k) d = .ok (mk ((idl n).map PV.int)) d := by
  have : (k - 0).toNat = n := by omega
  rw [← rng0, ← this]
  exact if_pos ⟨by omega, by omega⟩
theorem mk1_n {mk : List PV → PV} {n : Nat} {d : DSt} (hn : n < 4000) : mk1 mk (.int (n : Int)) d = .ok (mk ((idl n).map PV.int)) d := mk1_int rfl hn
theorem mk1_n1 {mk : List PV → PV} {n : Nat} {d : DSt} (hn : n + 1 < 4000) : mk1 mk (.int ((n : Int) + 1)) d = .ok (mk ((idl (n + 1)).map PV.int)) d := mk1_int (by omega) hn
/-! times -/
def mulR (xs : List PV) : PV → DSt → R (List PV) := fun y d => match y with
  | .int k => if -1000000 < k ∧ k < 1000 ∧ xs.length < 1000 then .ok (repL k xs) d else .no
  | _ => .no
@[simp] theorem aMulF_x (ms : AM) (mi : EM) (ρ : REnv) (d : DSt) : aMulF ms mi ρ d = (ms ρ d).bind fun xs d1 => (mi ρ d1).bind (mulR xs) := rfl
theorem repL_one (n : Nat) (v : PV) : repL (n : Int) [v] = List.replicate n v := by
  unfold repL
  rw [Int.toNat_natCast]
  induction n with
  | zero => rfl
  | succ n ih => rw [List.replicate_succ', List.flatten_append, ih, List.replicate_succ']; rfl
theorem mulR_one {k : Int} {n : Nat} {v : Int} {d : DSt} (h : k = n) (hn : n < 1000) : mulR [.int v] (.int k) d = .ok ((List.replicate n v).map PV.int) d := by
  have e : mulR [.int v] (.int k) d = .ok (repL k [.int v]) d := if_pos ⟨by omega, by omega, by simp⟩
  rw [e]
  subst h
  rw [repL_one, List.map_replicate]
/-! comprehensions -/
def mapR {α : Type} : List α → (α → DSt → R PV) → DSt → R (List PV)
  | [], _, d => .ok [] d
  | x :: xs, f, d => (f x d).nx.bind fun y d2 => (mapR xs f d2).bind fun ys d3 => .ok (y :: ys) d3
theorem mapR_congr {α : Type} {l l' : List α} {f g : α → DSt → R PV} (e : l = l') (h : ∀ x ∈ l', ∀ d, f x d = g x d) : mapR l f = mapR l' g := by
  subst e
  replace h : ∀ x ∈ l, f x = g x := fun x hx => funext (h x hx)
  induction l with
  | nil => rfl
  | cons x l ih =>
    funext d
    unfold mapR
    rw [h x List.mem_cons_self, ih fun y hy => h y (List.mem_cons_of_mem _ hy)]
@[simp] theorem mapR_pure {α : Type} (l : List α) (f : α → PV) (d : DSt) : mapR l (fun x d => .ok (f x) d) d = .ok (l.map f) d := by
  induction l with
  | nil => rfl
  | cons x l ih => simp [mapR, R.nx, ih]
def filR {α : Type} : List α → (α → DSt → R Bool) → (α → DSt → R PV) → DSt → R (List PV)
  | [], _, _, d => .ok [] d
  | x :: xs, p, f, d => (p x d).nx.bind fun c d1 => if c then (f x d1).nx.bind fun y d2 => (filR xs p f d2).bind fun ys d3 => .ok (y :: ys) d3 else filR xs p f d1
theorem filR_congr {α : Type} {l l' : List α} {p q : α → DSt → R Bool} {f g : α → DSt → R PV} (e : l = l') (k : ∀ x ∈ l', ∀ d, p x d = q x d) (h : ∀ x ∈ l', ∀ d, f x d = g x d) : filR l p f = filR l' q g := by
  subst e
  replace h : ∀ x ∈ l, f x = g x := fun x hx => funext (h x hx)
  replace k : ∀ x ∈ l, p x = q x := fun x hx => funext (k x hx)
  induction l with
  | nil => rfl
  | cons x l ih =>
    funext d
    unfold filR
    rw [h x List.mem_cons_self, k x List.mem_cons_self, ih (fun y hy => h y (List.mem_cons_of_mem _ hy)) fun y hy => k y (List.mem_cons_of_mem _ hy)]
@[simp] theorem filR_pure {α : Type} (l : List α) (p : α → Bool) (f : α → PV) (d : DSt) : filR l (fun x d => .ok (p x) d) (fun x d => .ok (f x) d) d = .ok ((l.filter p).map f) d := by
  induction l with
  | nil => rfl
  | cons x l ih =>
    simp only [filR, R.nx, R.bind_ok, ih]
    cases q : p x <;> simp [List.filter_cons, q]
/-- a body that is asked only where the test holds -/
theorem filR_pure' {α : Type} {l : List α} {p : α → Bool} {g : α → DSt → R PV} {f : α → PV} {d : DSt} (h : ∀ x ∈ l, p x = true → g x d = .ok (f x) d) : filR l (fun x d => .ok (p x) d) g d = .ok ((l.filter p).map f) d := by
  induction l with
  | nil => rfl
  | cons x l ih =>
    have e := ih fun y hy => h y (List.mem_cons_of_mem _ hy)
    simp only [filR, R.nx, R.bind_ok, e]
    cases q : p x
    · simp [List.filter_cons, q]
    · simp [List.filter_cons, q, h x List.mem_cons_self q, e]
def lcR (ρ : REnv) (t : Tg) (bc : BM) (me : EM) (xs : List PV) (d : DSt) : R (List PV) := if xs.length < LIM then lcGo ρ t bc me xs d else .no
@[simp] theorem aLc_x (mi : AM) (vs : List Nat) (t : Tg) (bc : BM) (me : EM) (ρ : REnv) (d : DSt) : aLc mi vs t bc me ρ d = (mi ρ d).bind (lcR (wipeR ρ vs) t bc me) := rfl
theorem lcGo_mapR {ρ : REnv} {i : Nat} {me : EM} : ∀ (xs : List PV) (d : DSt), lcGo ρ (.n i) bYes me xs d = mapR xs (fun x => me (ρ.set i (.val x))) d
  | [], _ => rfl
  | x :: xs, d => by
    unfold lcGo mapR
    simp only [tgset_n, bYes, R.nx, R.bind_ok, if_true]
    congr 1
    funext y d2
    rw [lcGo_mapR xs d2]
theorem lcGo_filR {ρ : REnv} {i : Nat} {bc : BM} {me : EM} : ∀ (xs : List PV) (d : DSt), lcGo ρ (.n i) bc me xs d = filR xs (fun x => bc (ρ.set i (.val x))) (fun x => me (ρ.set i (.val x))) d
  | [], _ => rfl
  | x :: xs, d => by
    unfold lcGo filR
    simp only [tgset_n]
    congr 1
    funext c d2
    rw [lcGo_filR xs d2]
    congr 1
    congr 1
    funext y d3
    rw [lcGo_filR xs d3]
theorem mapR_map {α β : Type} (g : α → β) (l : List α) (f : β → DSt → R PV) (d : DSt) : mapR (l.map g) f d = mapR l (fun x => f (g x)) d := by
  induction l generalizing d with
  | nil => rfl
  | cons x l ih =>
    simp only [List.map_cons, mapR]
    congr 1
    funext y d2
    rw [ih]
theorem filR_map {α β : Type} (g : α → β) (l : List α) (p : β → DSt → R Bool) (f : β → DSt → R PV) (d : DSt) : filR (l.map g) p f d = filR l (fun x => p (g x)) (fun x => f (g x)) d := by
  induction l generalizing d with
  | nil => rfl
  | cons x l ih =>
    simp only [List.map_cons, filR]
    congr 1
    funext c d2
    rw [ih]
    congr 1
    congr 1
    funext y d3
    rw [ih]
theorem lcR_ints {ρ : REnv} {i : Nat} {me : EM} {l : List Int} {d : DSt} (h : l.length < LIM) : lcR ρ (.n i) bYes me (l.map PV.int) d = mapR l (fun x d => me (ρ.set i (.val (.int x))) d) d := by
  unfold lcR
  rw [if_pos (by simpa using h), lcGo_mapR, mapR_map]
theorem lcR_intsF {ρ : REnv} {i : Nat} {bc : BM} {me : EM} {l : List Int} {d : DSt} (h : l.length < LIM) : lcR ρ (.n i) bc me (l.map PV.int) d = filR l (fun x d => bc (ρ.set i (.val (.int x))) d) (fun x d => me (ρ.set i (.val (.int x))) d) d := by
  unfold lcR
  rw [if_pos (by simpa using h), lcGo_filR, filR_map]
def map2R : List Int → List Int → (Int → Int → DSt → R PV) → DSt → R (List PV)
  | x :: xs, y :: ys, f, d => (f x y d).nx.bind fun z d2 => (map2R xs ys f d2).bind fun zs d3 => .ok (z :: zs) d3
  | _, _, _, d => .ok [] d
theorem map2R_congr {l l' r r' : List Int} {f g : Int → Int → DSt → R PV} (e1 : l = l') (e2 : r = r') (h : ∀ x ∈ l', ∀ y ∈ r', ∀ d, f x y d = g x y d) : map2R l r f = map2R l' r' g := by
  subst e1; subst e2
  replace h : ∀ x ∈ l, ∀ y ∈ r, f x y = g x y := fun x hx y hy => funext (h x hx y hy)
  induction l generalizing r with
  | nil => rfl
  | cons x l ih => cases r with
    | nil => rfl
    | cons y r =>
      funext d
      unfold map2R
      rw [h x List.mem_cons_self y List.mem_cons_self, ih fun a ha b hb => h a (List.mem_cons_of_mem _ ha) b (List.mem_cons_of_mem _ hb)]
@[simp] theorem map2R_pure (l r : List Int) (f : Int → Int → PV) (d : DSt) : map2R l r (fun x y d => .ok (f x y) d) d = .ok (l.zipWith f r) d := by
  induction l generalizing r with
  | nil => rfl
  | cons x l ih => cases r with
    | nil => rfl
    | cons y r => simp [map2R, R.nx, ih]
theorem lcR_zip {ρ : REnv} {i j : Nat} {me : EM} {l r : List Int} {d : DSt} (h : l.length < LIM) : lcR ρ (.t [.n i, .n j]) bYes me (zipP (l.map PV.int) (r.map PV.int)) d = map2R l r (fun x y d => me ((ρ.set i (.val (.int x))).set j (.val (.int y))) d) d := by
  unfold lcR
  rw [if_pos (by rw [zipP_len]; simp; omega), zipP_ints]
  clear h
  induction l generalizing r d with
  | nil => rfl
  | cons x l ih => cases r with
    | nil => rfl
    | cons y r =>
      simp only [List.zip_cons_cons, List.map_cons]
      unfold lcGo map2R
      simp only [tgset_t, Tg.sets, tgset_n, bYes, R.nx, R.bind_ok, if_true]
      congr 1
      funext y d2
      rw [ih]
theorem enumP_zip (t : List Int) : enumP (t.map PV.int) = zipP ((idl t.length).map PV.int) (t.map PV.int) := by
  simp [enumP, zipP, idl, List.zipWith_map_left]
/-- .. whose body draws -/
theorem mapR_inv {α : Type} {f : α → DSt → R PV} {I : Nat → DSt → Prop} {P : PV → Prop} : ∀ {l : List α} {n m : Nat} {d : DSt}, I n d → n + l.length ≤ m → (∀ x ∈ l, ∀ k d, I k d → k < m → ∃ y d', f x d = .ok y d' ∧ P y ∧ I (k + 1) d') →
    ∃ ys d', mapR l f d = .ok ys d' ∧ ys.length = l.length ∧ (∀ y ∈ ys, P y) ∧ I (n + l.length) d'
  | [], n, m, d, h, _, _ => ⟨[], d, rfl, rfl, fun y hy => (nomatch hy), h⟩
  | x :: l, n, m, d, h, hm, hb => by
    rw [List.length_cons] at hm
    obtain ⟨y, d2, e1, py, h2⟩ := hb x List.mem_cons_self n d h (by omega)
    obtain ⟨ys, d3, e2, e3, py', h3⟩ := mapR_inv h2 (by omega : n + 1 + l.length ≤ m) fun x hx => hb x (List.mem_cons_of_mem _ hx)
    refine ⟨y :: ys, d3, ?_, by simp [e3], fun z hz => ?_, by rw [List.length_cons, show n + (l.length + 1) = n + 1 + l.length by omega]; exact h3⟩
    · unfold mapR
      rw [e1]
      simp only [R.nx, R.bind_ok, e2]
    · rcases List.mem_cons.mp hz with rfl | hz
      · exact py
      · exact py' z hz
theorem R_ite {α : Type} {c : Prop} [Decidable c] (x y : α) (d : DSt) : (if c then R.ok x d else R.ok y d) = R.ok (if c then x else y) d := by split <;> rfl
theorem R_or {c : Prop} [Decidable c] (b : Bool) (d : DSt) : (if c then R.ok true d else R.ok b d) = R.ok (decide c || b) d := by
  by_cases h : c <;> simp [h]
theorem R_and {c : Prop} [Decidable c] (b : Bool) (d : DSt) : (if c then R.ok b d else R.ok false d) = R.ok (decide c && b) d := by
  by_cases h : c <;> simp [h]
theorem int_ite {c : Prop} [Decidable c] (x y : Int) : (if c then PV.int x else PV.int y) = PV.int (if c then x else y) := by split <;> rfl
theorem mapR_ok {α : Type} {l : List α} {f : α → DSt → R PV} {d : DSt} (g : α → PV) (h : ∀ x ∈ l, f x d = .ok (g x) d) : mapR l f d = .ok (l.map g) d := by
  induction l with
  | nil => rfl
  | cons x l ih =>
    unfold mapR
    rw [h x List.mem_cons_self]
    simp only [R.nx, R.bind_ok]
    rw [ih fun y hy => h y (List.mem_cons_of_mem _ hy)]
    rfl
theorem filR_ok {α : Type} {l : List α} {c : α → DSt → R Bool} {f : α → DSt → R PV} {d : DSt} (p : α → Bool) (g : α → PV) (k : ∀ x ∈ l, c x d = .ok (p x) d) (h : ∀ x ∈ l, p x = true → f x d = .ok (g x) d) : filR l c f d = .ok ((l.filter p).map g) d := by
  induction l with
  | nil => rfl
  | cons x l ih =>
    have e := ih (fun y hy => k y (List.mem_cons_of_mem _ hy)) fun y hy => h y (List.mem_cons_of_mem _ hy)
    unfold filR
    rw [k x List.mem_cons_self]
    cases q : p x
    · simp [List.filter_cons, q, R.nx, e]
    · simp [List.filter_cons, q, R.nx, h x List.mem_cons_self q, e]
theorem map2R_ok {l r : List Int} {f : Int → Int → DSt → R PV} {d : DSt} (g : Int → Int → PV) (h : ∀ x ∈ l, ∀ y ∈ r, f x y d = .ok (g x y) d) : map2R l r f d = .ok (l.zipWith g r) d := by
  induction l generalizing r with
  | nil => rfl
  | cons x l ih => cases r with
    | nil => rfl
    | cons y r =>
      unfold map2R
      rw [h x List.mem_cons_self y List.mem_cons_self]
      simp only [R.nx, R.bind_ok]
      rw [ih fun a ha b hb => h a (List.mem_cons_of_mem _ ha) b (List.mem_cons_of_mem _ hb)]
      rfl
/-! loops -/
@[simp] theorem sFor_x (m : AM) (t : Tg) (body : SM) (ρ : REnv) (d : DSt) : sFor m t body ρ d = (match m ρ d with
  | .ok xs d' => sLoop t body xs ρ d'
  | .ex e d' => .ex e d'
  | .no => .no) := rfl
theorem sLoop_runE {t : Tg} {body : SM} {xs : List PV} {ρ : REnv} {d : DSt} {out : RS} (hs : sLoop t body xs ρ d = out) (I : Nat → REnv → DSt → Prop) (h0 : I 0 ρ d)
    (h : ∀ i x ρ d, xs[i]? = some x → I i ρ d → ∃ ρ1 ρ2 d2, t.set x ρ = some ρ1 ∧ body ρ1 d = .nx ρ2 d2 ∧ I (i + 1) ρ2 d2) : ∃ ρ' d', out = .nx ρ' d' ∧ I xs.length ρ' d' := by
  subst hs
  exact sLoop_run h0 h
theorem sLoop_runN {i : Nat} {body : SM} {xs : List PV} {ρ : REnv} {d : DSt} {out : RS} (hs : sLoop (.n i) body xs ρ d = out) (I : Nat → REnv → DSt → Prop) (h0 : I 0 ρ d)
    (h : ∀ j x ρ d o, xs[j]? = some x → I j ρ d → body (ρ.set i (.val x)) d = o → ∃ ρ2 d2, o = .nx ρ2 d2 ∧ I (j + 1) ρ2 d2) : ∃ ρ' d', out = .nx ρ' d' ∧ I xs.length ρ' d' := by
  subst hs
  refine sLoop_run h0 fun j x ρ d e hI => ?_
  obtain ⟨ρ2, d2, e1, h2⟩ := h j x ρ d _ e hI rfl
  exact ⟨_, ρ2, d2, rfl, e1, h2⟩
end RL
end M_R27
section M_R28
namespace RL
open PySem PySem.Spec PyProof.Rows L2
/-! ### while: at most n turns -/
def sWhl : Nat → BM → SM → SM
  | 0, _, _ => fun _ _ => .no
  | n + 1, c, b => fun ρ d => match c ρ d with
    | .ok x d1 => if x then (match b ρ d1 with
      | .nx ρ2 d2 => sWhl n c b ρ2 d2
      | .ct ρ2 d2 => sWhl n c b ρ2 d2
      | .bk ρ2 d2 => .nx ρ2 d2
      | .rt y d2 => .rt y d2
      | .ex e d2 => .ex e d2
      | .no => .no) else .nx ρ d1
    | .ex e d1 => .ex e d1
    | .no => .no
section
variable {X : Cx} {C : Pl} {B : Bp} {E : XS} {pos : Pos}
theorem rs_whl (n : Nat) {c : Expr} {body : List Stmt} {bc : BM} {sb : SM} (hp : PassesOwn (model X.prog X.w) X.A X.env X.xe) (hc : RT X C B E c bc) (hb : RSs X C B E body sb) : RSt X C B E (.While c body [] pos) (sWhl n bc sb) := by
  refine PS.weak (ps_while hp hc hb) fun D σ H h => ?_
  obtain ⟨F, ρ, d, b, h⟩ := h
  refine ⟨fun m σ H => ∃ F' ρ d, BR C B ρ d σ F' H ∧ Sk C F F' ∧ tKS C B E (sWhl m bc sb ρ d) F' H D, ⟨n, F, ρ, d, b, Sk.refl _ _, h⟩, fun m σ1 H1 q => ?_⟩
  obtain ⟨F1, ρ1, d1, b1, s1, k1⟩ := q
  cases m with
  | zero => exact k1.elim
  | succ m =>
    refine ⟨F1, ρ1, d1, b1, ?_⟩
    unfold sWhl at k1
    revert k1
    cases bc ρ1 d1 with
    | ex e d' => exact fun h _ _ _ _ b _ r => h _ _ _ _ _ b r
    | no => exact fun h => h
    | ok x d' =>
      intro k1 F2 H2 v J g w
      cases (show x = v from w)
      have k1 := tKS.back (H := H1) (H1 := H2) g.s k1
      have B2 := b1.go J g
      cases x with
      | false => exact k1 σ1 F2 H2 B2 (Sk.refl _ _)
      | true =>
        refine ⟨fun σ' H' => ∃ F' ρ d, BR C B ρ d σ' F' H' ∧ Sk C F F' ∧ tKS C B E (sWhl m bc sb ρ d) F' H' D, fun σ' H' q => ⟨m, Nat.lt_succ_self m, q⟩, F2, ρ1, d', B2, ?_⟩
        simp only [if_true] at k1
        revert k1
        cases sb ρ1 d' with
        | nx ρ5 d5 => exact fun k σ5 F5 H5 b5 s5 => ⟨F5, ρ5, d5, b5, (s1.trans g.s).trans s5, tKS.back (H := H2) (H1 := H5) s5 k⟩
        | ct ρ5 d5 => exact fun k σ5 F5 H5 b5 s5 => ⟨F5, ρ5, d5, b5, (s1.trans g.s).trans s5, tKS.back (H := H2) (H1 := H5) s5 k⟩
        | bk ρ5 d5 => exact fun k => k
        | rt y d5 => exact fun k => k
        | ex e d5 => exact fun k => k
        | no => exact fun k => k
end
end RL
end M_R28
section M_R29
/-! t[::-1] of a tuple -/
namespace RL.HR
open PySem PySem.Spec PyProof.Rows L2 HT
variable {prog : Program} {w : World} {A : Around} {E : Value → Shared → Prop} {s : Shared}
theorem adjust_rev (n : Nat) : Builtin.Slice.sliceAdjust none none (-1) (n : Int) = ((n : Int) - 1, -1) := by
  unfold Builtin.Slice.sliceAdjust
  simp
theorem places_rev (n : Nat) : Builtin.Slice.slicePlaces ((n : Int) - 1) (-1) (-1) = n := by
  unfold Builtin.Slice.slicePlaces
  simp
  try omega
theorem sliceApplied_rev {sl : Addr} {t : Tok} {n : Nat} {Q : Int × Int × Nat → Shared → Prop} (hs : s.heap.IsSliceOf sl .none .none (.int (-1) t))
    (h : Q ((n : Int) - 1, -1, n) s) : wpAny (model prog w) A (Builtin.Slice.sliceApplied (.ref sl) (pure (n : Int))) Q E s := by
  obtain ⟨os, hos, hcs, hds⟩ := id hs
  unfold Builtin.Slice.sliceApplied Builtin.Slice.sliceFields
  refine wpAny_bind (wpAny_bind (wpAny_field hos hds (x := .none) rfl (wpAny_bind (wpAny_field hos hds (x := .none) rfl (wpAny_bind (wpAny_field hos hds (x := .int (-1) t) rfl (wpAny_pure ?_)))))))
  refine wpAny_bind (slicePart_int ?_)
  show wpAny _ _ (if ((-1 : Int) == 0) = true then _ else _) _ _ s
  rw [if_neg (by decide)]
  refine wpAny_bind (slicePart_none (wpAny_bind (slicePart_none (wpAny_bind (wpAny_pure ?_)))))
  show wpAny _ _ (match Builtin.Slice.sliceAdjust none none (-1) (n : Int) with | (lo, hi) => pure (lo, (-1 : Int), Builtin.Slice.slicePlaces lo hi (-1))) _ _ s
  rw [adjust_rev n]
  show wpAny _ _ (pure ((n : Int) - 1, (-1 : Int), Builtin.Slice.slicePlaces ((n : Int) - 1) (-1) (-1))) _ _ s
  rw [places_rev]
  exact wpAny_pure h
theorem fm_congr {α β : Type} {f g : α → Option β} : ∀ l : List α, (∀ x, x ∈ l → f x = g x) → l.filterMap f = l.filterMap g
  | [], _ => rfl
  | x :: l, h => by
    rw [List.filterMap_cons, List.filterMap_cons, h x List.mem_cons_self, fm_congr l fun y hy => h y (List.mem_cons_of_mem _ hy)]
theorem pick_rev (xs : Array Value) : ((List.range xs.size).filterMap fun (m : Nat) => xs[(((xs.size : Int) - 1) + (m : Int) * (-1)).toNat]?).toArray = xs.toList.reverse.toArray := by
  congr 1
  have e : ∀ m, m ∈ List.range xs.size → xs[(((xs.size : Int) - 1) + (m : Int) * (-1)).toNat]? = xs.toList.reverse[m]? := by
    intro m hm
    have hm := List.mem_range.mp hm
    rw [List.getElem?_reverse (by simpa using hm)]
    have : (((xs.size : Int) - 1) + (m : Int) * (-1)).toNat = xs.size - 1 - m := by omega
    rw [this]
    simp
  have f : ((List.range xs.size).filterMap fun (m : Nat) => xs[(((xs.size : Int) - 1) + (m : Int) * (-1)).toNat]?) = (List.range xs.size).filterMap fun m => xs.toList.reverse[m]? := by
    exact fm_congr _ e
  rw [f]
  have g : ∀ (l : List Value), ((List.range l.length).filterMap fun m => l[m]?) = l := by
    intro l
    induction l with
    | nil => rfl
    | cons a l ih =>
      rw [List.length_cons, List.range_succ_eq_map, List.filterMap_cons]
      simp only [List.getElem?_cons_zero, List.filterMap_map]
      congr 1
  have h := g xs.toList.reverse
  rwa [List.length_reverse, Array.length_toList] at h
theorem getItem_tuple_rev {t sl : Addr} {u : Tok} {items : Array Value} {Q : Value → Shared → Prop} (ht : IsTup s.heap t items) (hs : s.heap.IsSliceOf sl .none .none (.int (-1) u))
    (h : Q (.ref s.heap.objs.size) { s with heap := s.heap.push { cls := .type "tuple", data := .seq items.toList.reverse.toArray } })
    (hsz : items.size ≤ sizeLine) : wpAny (model prog w) A (getItem (.ref t) (.ref sl)) Q E s := by
  have htake : sizeOk (.seq items.toList.reverse.toArray) := by
    show items.toList.reverse.toArray.size ≤ sizeLine
    rw [List.size_toArray, List.length_reverse, Array.length_toList]
    exact hsz
  obtain ⟨os, hos, hcs, hds⟩ := id hs
  have hTs : s.TypeIs (.ref sl) "slice" := ⟨os, hos, hcs⟩
  unfold getItem
  try with_reducible refine wpAny_holding ?_
  first | refine wpAny_bind (wpAny_pure ?_) | skip
  refine wpAny_bind (wpAny_sequenceKey ht.typeIs (by decide) ?_)
  refine wpAny_bind (wpAny_callSpecial?_slot (name := Str.ofString "__getitem__") ht.typeIs PyProof.Rows.slot_tuple_getitem
    (wpAny_call_entry PyProof.Rows.slot_tuple_getitem ht.typeIs entry_tuple_getitem ?_ (args_tuple_getitem _ _)))
  show wpAny _ _ (Builtin.Tuple.tupleItemsOf (.ref t) >>= _) _ _ s
  refine wpAny_bind (tupleItemsOf_ ht ?_)
  refine wpAny_bind (wpAny_typeOf hTs ?_)
  rw [if_pos (by decide)]
  refine wpAny_bind (sliceApplied_rev hs ?_)
  have hno : ¬ ((((items.size : Int) - 1) == 0 && (-1 : Int) == 1 && items.size == items.size) = true) := by
    intro q
    rw [Bool.and_eq_true, Bool.and_eq_true] at q
    exact absurd q.1.2 (by decide)
  show wpAny _ _ (if (((items.size : Int) - 1) == 0 && (-1 : Int) == 1 && items.size == items.size) = true then _ else _) _ _ s
  rw [if_neg hno, pick_rev]
  first
    | exact wpAny_bind (m := Builtin.Tuple.tupleExact _) (wpAny_newObj_type (wpAny_pure ⟨_, rfl, wpAny_pure h⟩) htake)
    | exact wpAny_bind (m := Builtin.Tuple.tupleExact _) (wpAny_newObj_type (wpAny_bind (wpAny_pure (wpAny_pure ⟨_, rfl, wpAny_pure h⟩))) htake)
    | exact wpAny_bind (wpAny_bind (m := Builtin.Tuple.tupleExact _) (wpAny_newObj_type (wpAny_pure (wpAny_pure ⟨_, rfl, wpAny_pure h⟩)) htake))
    | exact wpAny_bind (wpAny_bind (m := Builtin.Tuple.tupleExact _) (wpAny_newObj_type (wpAny_pure ⟨_, rfl, wpAny_pure h⟩) htake))
section
variable {X : Cx}
def tRevX (K : PySem.W.Frag) (te : TE) : TE := fun σ H Q => te σ H fun x H1 => ∃ a xs, x = .ref a ∧ ((SqL K H1 a xs ∧ ∀ p, H1 p = none → Q (.ref p) (upd H1 p (.lst xs.reverse))) ∨ (SqT K H1 a xs ∧ ∀ p, H1 p = none → Q (.ref p) (upd H1 p (.tup xs.reverse))))
theorem pe_revX {e : Expr} {te : TE} {k : Nat} {p1 p2 p3 pos : Pos} (he : PE X e te) : PE X (.Subscript e (.Slice none none (some (.UnaryOp .USub (.Constant (.int 1) k p1) p2)) p3) pos) (tRevX X.K te) := by
  refine ⟨fun pins s σ H Q I h => ?_⟩
  refine Subscript_ (thn (he.run pins s σ H _ I h) fun v s1 ⟨x, H1, I1, r1, q1⟩ => ?_)
  obtain ⟨a, xs, ex, hx⟩ := q1
  subst ex
  cases r1
  have hst : PO X (some (.UnaryOp .USub (.Constant (.int 1) k p1) p2)) (tPart (tUn (rU fun i => .int (-i)) (tC (.int 1)))) := po_some (pe_un un_neg pe_int)
  refine wpAny_Slice (thn (po_none.run pins s1 σ H1 (fun o H2 => o = none ∧ H2 = H1) I1 ⟨rfl, rfl⟩) fun vl s2 ⟨l, H2, I2, pl, el, e2⟩ => ?_)
  subst el e2
  refine thn (po_none.run pins s2 σ H2 (fun o H3 => o = none ∧ H3 = H2) I2 ⟨rfl, rfl⟩) fun vu s3 ⟨u, H3, I3, pu, eu, e3⟩ => ?_
  subst eu e3
  refine thn (hst.run pins s3 σ H3 (fun o H4 => o = some (-1) ∧ H4 = H3) I3 ⟨1, rfl, -1, rfl, rfl, rfl⟩) fun vs s4 ⟨o, H4, I4, ps, eo, e4⟩ => ?_
  subst eo e4
  have I5 : Inv X pins σ H4 { s4 with heap := s4.heap.push { cls := .type "slice", data := .fields #[vl, vu, vs] } } := I4.kept (t' := s4.toks) fun b ob q => Heap.get?_push_of_some _ q
  rcases hx with ⟨hx, q⟩ | ⟨hx, q⟩
  · obtain ⟨its, r, ht, hz⟩ := I5.list hx
    have hlen := r.length
    show wpAny (model X.prog X.w) X.A (subscriptTail e (.Slice none none (some (.UnaryOp .USub (.Constant (.int 1) k p1) p2)) p3) (.ref a) (.ref s4.heap.objs.size)) (EP X pins σ Q) X.xe { s4 with heap := s4.heap.push { cls := .type "slice", data := .fields #[vl, vu, vs] } }
    refine tail_any (ops := [.ref a, .ref s4.heap.objs.size]) ht.isList.typeIs (PySem.slot_list_getitem.lookup) ?_ (by with_unfolding_all rfl)
    refine wpAny_getItem_list_slice ht.isList (Heap.IsSliceOf.new _ vl vu vs) pl pu ps (by decide) ?_ (by rw [List.size_toArray]; omega)
    rw [PySem.W.krv_pick]
    refine ⟨.ref _, _, I5.laid (t' := s4.toks) (o := .lst xs.reverse) (fun b ob q => Heap.get?_push_of_some _ q) (Nat.le_refl _) ?_, rfl, q _ (I5.hok.fresh (Nat.le_refl _))⟩
    exact ⟨by rw [List.length_reverse]; exact hz, _, 0, r.reverse, Heap.get?_push_size _ rfl⟩
  · obtain ⟨its, r, ht, hz⟩ := I5.tuple hx
    have hlen := r.length
    cases pl
    cases pu
    cases ps
    show wpAny (model X.prog X.w) X.A (subscriptTail e (.Slice none none (some (.UnaryOp .USub (.Constant (.int 1) k p1) p2)) p3) (.ref a) (.ref s4.heap.objs.size)) (EP X pins σ Q) X.xe _
    refine tail_any (ops := [.ref a, .ref s4.heap.objs.size]) ht.typeIs (PyProof.Rows.slot_tuple_getitem.lookup) ?_ (by with_unfolding_all rfl)
    refine getItem_tuple_rev ht (Heap.IsSliceOf.new _ _ _ _) ?_ (by rw [List.size_toArray]; omega)
    refine ⟨.ref _, _, I5.laid (t' := s4.toks) (o := .tup xs.reverse) (fun b ob q => Heap.get?_push_of_some _ q) (Nat.le_refl _) ?_, rfl, q _ (I5.hok.fresh (Nat.le_refl _))⟩
    exact ⟨by rw [List.length_reverse]; exact hz, _, r.reverse, IsTup.new _ _⟩
end
end RL.HR
namespace RL
open PySem PySem.Spec PyProof.Rows L2
def oRev : PV → O
  | .lst xs => .ok (.lst xs.reverse)
  | .tup xs => .ok (.tup xs.reverse)
  | _ => .no
section
variable {X : Cx} {C : Pl} {B : Bp} {E : XS} {a : Expr} {ma : EM} {k : Nat} {p1 p2 p3 pos : Pos}
theorem re_rev (hK : X.K = C.K) (ha : RE X C B E a ma) : RE X C B E (.Subscript a (.Slice none none (some (.UnaryOp .USub (.Constant (.int 1) k p1) p2)) p3) pos) (eUn oRev ma) := by
  refine PE.weak (HR.pe_revX ha) fun σ H Q h => ?_
  obtain ⟨F, ρ, d, b0, h⟩ := h
  refine ⟨F, ρ, d, b0, (tK.bind (Rp := Rep C) h).imp fun v H1 q => ?_⟩
  obtain ⟨F1, d1, x, b1, g1, r1, k1⟩ := q
  unfold oRev at k1
  split at k1
  · obtain ⟨p, vs, rfl, f1, q1⟩ := r1
    exact ⟨p, vs, rfl, .inl ⟨by rw [hK]; exact (SqX.mono b1.fh f1).seq, fun q hq => k1.new b1 hq (rep_lst (b1.F_none hq) (rep_reverse q1))⟩⟩
  · obtain ⟨p, vs, rfl, f1, q1⟩ := r1
    exact ⟨p, vs, rfl, .inr ⟨hK ▸ Same.sqT b1.fh f1, fun q hq => k1.new b1 hq (rep_tup (b1.F_none hq) (rep_reverse q1))⟩⟩
  · exact k1.elim
@[simp] theorem oRev_l (xs : List PV) : oRev (.lst xs) = .ok (.lst xs.reverse) := rfl
@[simp] theorem oRev_t (xs : List PV) : oRev (.tup xs) = .ok (.tup xs.reverse) := rfl
end
end RL
end M_R29
section M_R30
/-! x += e of whole numbers -/
namespace RL
open PySem PySem.Spec PyProof.Rows L2
def sAug (i : Nat) (f : Int → Int → Int) (m : EM) : SM := fun ρ d => match (ρ[i]? : Option Sl) with
  | some (.val (.int a)) => (match m ρ d with
    | .ok (.int b) d' => .nx (ρ.set i (.val (.int (f a b)))) d'
    | .ok _ _ => .no
    | .ex e d' => .ex e d'
    | .no => .no)
  | _ => .no
section
variable {X : Cx} {C : Pl} {B : Bp} {E : XS} {e : Expr} {m : EM} {pos : Pos}
theorem rs_aug (i : Nat) {x : Str} {op : Operator} {f : Int → Int → Int} {pos' : Pos} (hN : X.N.Nodup) (hi : X.N[i]? = some x) (hx : Loc X.env.scope x) (he : RE X C B E e m) (ho : PIp X op (ipI f))
    (hf : X.fn x = true ∨ X.env.scope.names.lookup x = some .local := by first | exact .inl rfl | exact .inr rfl | assumption) : RSt X C B E (.AugAssign (.Name x pos') op e pos) (sAug i f m) := by
  refine PS.weak (ps_aug hN hi hx he ho hf) fun D σ H h => ?_
  obtain ⟨F, ρ, d, b, h⟩ := h
  unfold sAug at h
  split at h
  · rename_i a ea
    obtain ⟨ad, sl, _⟩ := b.sl
    obtain ⟨v, ev, rv⟩ := sl i _ ea
    cases (show v = .int a from rv)
    refine ⟨.int a, ev, F, ρ, d, b, ?_⟩
    revert h
    cases m ρ d with
    | ex e d' => exact fun h _ _ _ _ b _ r => h _ _ _ _ _ b r
    | no => exact fun h => h
    | ok y d' =>
      intro h F1 H1 v J g w
      cases y with
      | int k =>
        cases (show v = .int k from w)
        have h : tKS C B E (.nx (ρ.set i (.val (.int (f a k)))) d') F H D := h
        exact ⟨a, k, rfl, rfl, h _ F1 H1 ((b.go J g).set (show Rep C F1 (.int (f a k)) (.int (f a k)) from rfl)) g.s⟩
      | _ => exact (show False from h).elim
  · exact h.elim
@[simp] theorem sAug_x (i : Nat) (f : Int → Int → Int) (m : EM) (ρ : REnv) (d : DSt) : sAug i f m ρ d = (match (ρ[i]? : Option Sl) with
  | some (.val (.int a)) => (match m ρ d with
    | .ok (.int b) d' => .nx (ρ.set i (.val (.int (f a b)))) d'
    | .ok _ _ => .no
    | .ex e d' => .ex e d'
    | .no => .no)
  | _ => .no) := rfl
end
end RL
end M_R30
section M_R31
/-! a star in a display -/
namespace RL
open PySem PySem.Spec PyProof.Rows L2
def aStar (m : EM) (ms : AM) : AM := fun ρ d => (aItems m ρ d).bind fun xs d1 => (ms ρ d1).bind fun ys d2 => .ok (xs ++ ys) d2
section
variable {X : Cx} {C : Pl} {B : Bp} {E : XS} {e : Expr} {m : EM} {es : List Expr} {ms : AM} {p : Pos}
theorem ra_starI (hK : X.K = C.K) (he : RE X C B E e m) (hr : RA X C B E es ms) (hs : starEach (.Starred e p :: es) X.env = (true, eval e X.env) :: starEach es X.env := by rfl) : RA X C B E (.Starred e p :: es) (aStar m ms) := by
  refine PA.weak (StX.pa_star he hr hs) fun σ H Q h => ?_
  obtain ⟨F, ρ, d, b, h⟩ := h
  refine ⟨F, ρ, d, b, (tK.items hK (tK.bind (Rp := RepL C) h)).imp fun v H1 q => ?_⟩
  obtain ⟨a, vs, rfl, hs, F1, d1, xs, b1, g1, r1, k1⟩ := q
  refine ⟨a, vs, rfl, hs, F1, ρ, d1, b.go b1 g1, (tK.bind (Rp := RepL C) k1).imp fun ys H2 q => ?_⟩
  obtain ⟨F2, d2, zs, b2, g2, r2, k2⟩ := q
  exact k2.here b2 (RepL.append (r1.mono g2.s) r2)
@[simp] theorem aStar_x (m : EM) (ms : AM) (ρ : REnv) (d : DSt) : aStar m ms ρ d = (aItems m ρ d).bind fun xs d1 => (ms ρ d1).bind fun ys d2 => .ok (xs ++ ys) d2 := rfl
end
end RL
end M_R31
section M_R32
/-! calls with keywords alone -/
namespace RL
open PySem PySem.Spec PyProof.Rows L2
def pick {α : Type} (perm : List Nat) (l : List α) : List α := perm.filterMap fun i => l[i]?
theorem RepL.pick {C : Pl} {F : Hp} {xs : List PV} {vs : List V} (h : RepL C F xs vs) : ∀ perm : List Nat, RepL C F (pick perm xs) (pick perm vs)
  | [] => RepL.nil
  | i :: perm => by
    have ih := RepL.pick h perm
    unfold RL.pick at ih ⊢
    rw [List.filterMap_cons, List.filterMap_cons]
    cases e : xs[i]? with
    | none =>
      have : vs[i]? = none := by
        rw [List.getElem?_eq_none_iff] at e ⊢
        rw [← h.length]; exact e
      rw [this]; exact ih
    | some x =>
      obtain ⟨v, ev, rv⟩ := h.get e
      rw [ev]; exact RepL.cons rv ih
theorem vals_get : ∀ {vs : List V} {us : List Value} (i : Nat), Vals vs us → (vs[i]? = none ∧ us[i]? = none) ∨ ∃ v u, vs[i]? = some v ∧ us[i]? = some u ∧ RelV v u
  | _, _, _, .nil => .inl ⟨by simp, by simp⟩
  | _, _, 0, .cons r _ => .inr ⟨_, _, rfl, rfl, r⟩
  | _, _, i + 1, .cons _ t => by simpa using vals_get i t
theorem vals_pick {vs : List V} {us : List Value} (h : Vals vs us) : ∀ perm : List Nat, Vals (pick perm vs) (pick perm us)
  | [] => .nil
  | i :: perm => by
    have ih := vals_pick h perm
    unfold pick at ih ⊢
    rw [List.filterMap_cons, List.filterMap_cons]
    rcases vals_get i h with ⟨a, b⟩ | ⟨v, u, a, b, r⟩
    · rw [a, b]; exact ih
    · rw [a, b]; exact .cons r ih
/-- a def's promise for a call with keywords: n arguments by position, the others by the names ks; perm puts them in the parameters' order -/
def FnGK (P : Program) (w : World) (K : PySem.W.Frag) (mg : Str → Option Value) (base : Heap) (k : Nat) (f : Addr) (n : Nat) (ks : List Str) (perm : List Nat) (sp : Sp) : Prop :=
  ∀ (A : Around) (outer : List Env) (s : Shared) (H : Hp) (us ws : List Value) (vs zs : List V) (Q : VK) (E : XK), RmG k A → Env0 P w K mg base A outer s H → Vals vs us → Vals zs ws → us.length = n → ws.length = ks.length → sp (pick perm (vs ++ zs)) H Q E →
    codeAny (model P w) A (.call (.ref f) ⟨us, ks.zip ws⟩) (CR (L2.CX P w) outer P w H s Q E) s
theorem FnGK.mono {P : Program} {w : World} {K : PySem.W.Frag} {mg : Str → Option Value} {base : Heap} {j k n : Nat} {f : Addr} {ks : List Str} {perm : List Nat} {sp : Sp} (G : FnGK P w K mg base j f n ks perm sp) (h : j ≤ k) : FnGK P w K mg base k f n ks perm sp :=
  fun A outer s H us ws vs zs Q E hr => G A outer s H us ws vs zs Q E (hr.mono h)
section
variable {P : Program} {w : World} {K : PySem.W.Frag} {mg : Str → Option Value} {base : Heap} {C : Pl}
theorem def_fnK {x qual : Str} {st : Stmt} {f : Addr} {fd : FuncData} {N ps ks : List Str} {perm : List Nat} {k n : Nat} {m : SM} (F : Fun K x qual st f fd) (S : FnScope N ps (defScope st))
    (hbd : ∀ (kV doc pm : Value) (an : Option Addr) (cdv ct : Value) (us ws : List Value), us.length = n → ws.length = ks.length → bindArgs (PySem.W.fnOf x qual (defArgs st) (defBody st) (defScope st) .none kV doc pm an cdv ct) ⟨us, ks.zip ws⟩ = pure (ps.zip (pick perm (us ++ ws))))
    (hb : ∀ (cdv : Value) (A : Around) (outer : List Env) (s : Shared) (H : Hp) (E : XK) (F0 : Hp), RmG k (A.deeper (envOfC qual (defScope st) s.heap.objs.size f cdv)) →
      RSs (cxOf (L2.CX P w) P w K mg base N qual (defScope st) f cdv A outer s H E) C ⟨F0, H, none, none, []⟩ (fun _ => E) (defBody st) m) :
    FnGK P w K mg base (k + 1) f n ks perm (spX C (fnP (.pl []) ps.length N.length m)) := by
  have hpl : ps.length ≤ N.length := by have := congrArg List.length S.pre; rw [List.length_take] at this; omega
  obtain ⟨oc, od, kV, doc, pm, an, cdv, ct, osl, rfl, lk, hcd⟩ := F.ex
  intro A outer s H us ws vs zs Q E hr e0 r rz hn hk h
  obtain ⟨F0, xs, fh, tb, rp, h⟩ := h
  have hbd := hbd kV doc pm an cdv ct us ws hn hk
  have r2 := vals_pick (r.append rz) perm
  by_cases hl : xs.length = ps.length
  · have ef : fnP (.pl []) ps.length N.length m xs = runB N.length m xs := by simp [fnP, BkP.b, hl]
    rw [ef] at h
    · have hlv : (pick perm (vs ++ zs)).length = ps.length := by rw [← rp.length]; exact hl
      refine StX.run_bnd (G := fun ws' H2 => ws' = pick perm (vs ++ zs) ∧ H2 = H) lk hcd S hr.r e0 (fun A' Ex Q' hq => ?_) fun s2 H2 ws' g hr2 => ?_
      · rw [hbd]
        exact wpAny_pure (hq s H _ _ e0 Un.refl rfl (fun _ _ z => z) r2 hlv ⟨rfl, rfl⟩)
      · obtain ⟨rfl, rfl⟩ := g
        have hnn : xs.length ≤ N.length := by omega
        refine ⟨_, hb cdv A outer s2 H2 E F0 ⟨hr2, hr.g⟩, F0, _, default, BR.startV fh tb rp hnn, ?_⟩
        unfold runB at h
        have gr : Grow C F0 H2 F0 H2 := ⟨Sk.refl _ _, fh, Same.u (Same.refl _), fun a o q => .inl ⟨o, q⟩⟩
        revert h
        cases m (startG (xs.map .val) N.length) default with
        | nx ρ' d' => exact fun h σ' F' H' b s' => h F' H' .non (gr.trans fh (BR.end_ (ρ := ρ') (σ := σ') b.g)) rfl
        | rt x d' => exact fun h ρ' σ' F' H' v b s' r => h F' H' v (gr.trans fh (BR.end_ (ρ := ρ') (σ := σ') b.g)) r
        | bk ρ' d' => exact fun h => h.elim
        | ct ρ' d' => exact fun h => h.elim
        | ex e d' => exact fun h _ F' H' cls dd b r => h F' H' cls dd (gr.trans fh (BR.end_ (ρ := []) (σ := []) b)) r
        | no => exact fun h => h
  · have ef : fnP (.pl []) ps.length N.length m xs = .no := by simp [fnP, BkP.b, hl]
    rw [ef] at h
    exact h.elim
end
end RL
end M_R32
section M_R33
namespace RL
open PySem PySem.Spec PyProof.Rows L2
abbrev RKw (X : Cx) (C : Pl) (B : Bp) (E : XS) (kws : List Keyword) (m : AM) : Prop := PK X kws (tR C B E (RepL C) m)
section
variable {X : Cx} {C : Pl} {B : Bp} {E : XS} {e : Expr} {me : EM} {ms : AM} {kws : List Keyword} {kpos pos p apos : Pos} {nm : Option Str} {k n : Nat} {ks : List Str} {perm : List Nat}
theorem PK.weak {t t' : TA} (h : PK X kws t) (w : ∀ σ H Q, t' σ H Q → t σ H Q) : PK X kws t' := ⟨fun pos pins s σ H Q I q => h.run pos pins s σ H Q I (w σ H Q q)⟩
theorem rk_nil : RKw X C B E [] aNil := PK.weak pk_nil fun σ H Q h => by
  obtain ⟨F, ρ, d, b0, h⟩ := h
  exact tK.here b0.g h rfl
theorem rk_cons (ha : RE X C B E e me) (hr : RKw X C B E kws ms) : RKw X C B E (⟨nm, e, kpos⟩ :: kws) (aCons me ms) := by
  refine PK.weak (pk_cons ha hr) fun σ H Q h => ?_
  obtain ⟨F, ρ, d, b0, h⟩ := h
  refine ⟨F, ρ, d, b0, (tK.bind (Rp := Rep C) h).imp fun v H1 q => ?_⟩
  obtain ⟨F1, d1, x, b1, g1, r1, k1⟩ := q
  refine ⟨F1, ρ, d1, b0.go b1 g1, (tK.bind (Rp := RepL C) k1).imp fun vs H2 q => ?_⟩
  obtain ⟨F2, d2, xs, b2, g2, r2, k2⟩ := q
  exact k2.here b2 ⟨_, _, rfl, r1.mono g2.s, r2⟩
theorem run_spk {pins : List (Addr × Obj)} {σ : L2.St} {F H : Hp} {s : Shared} {d : DSt} {Q : VK} {f : Addr} {fn : PFn} {us ws : List Value} {vs zs : List V} {xs ys : List PV} (G : FnGK X.prog X.w X.K X.mg X.base k f n ks perm (spX C fn)) (hr : RmG k X.A) (tk : Tk X E) (I : Inv X pins σ H s) (r : Vals vs us) (rz : Vals zs ws)
    (hn : us.length = n) (hk : ws.length = ks.length) (b : BG C B d F H) (rp : RepL C F xs vs) (rq : RepL C F ys zs) (h : tK C B (E σ) (Rep C) ((fn (pick perm (xs ++ ys))).r d) F H Q) : wpAny (model X.prog X.w) X.A (call (.ref f) us (ks.zip ws)) (EP X pins σ Q) X.xe s :=
  wpAny_call (codeAny_mono (G X.A X.stack s H us ws vs zs Q (E σ) hr I.env0 r rz hn hk (sp_tK b ((rp.append rq).pick perm) h)) fun _ _ hq => after_call tk I hq)
/-- o.m(k = e, ..) -/
structure MethK (X : Cx) (C : Pl) (k : Nat) (m : Str) (ks : List Str) (perm : List Nat) (t : OT) : Prop where
  at_ : ∀ c fn, t c = some fn → ∃ A f, C.ad c = some A ∧ Cls X.K A ∧ Meth X.K A m f ∧ m ∉ C.fl c ∧ FnGK X.prog X.w X.K X.mg X.base k f 1 ks perm (spX C fn)
def eMethK (t : OT) (nk : Nat) (perm : List Nat) (m : EM) (ms : AM) : EM := fun ρ d => (m ρ d).bind fun x d1 => match x with
  | .ins c ys => (match t c with
    | some fn => (ms ρ d1).bind fun zs d2 => if zs.length = nk then (fn (pick perm (.ins c ys :: zs))).r d2 else .no
    | none => .no)
  | _ => .no
theorem re_methK {pl : Sem Bool} {m : Str} {o : Expr} {t : OT} (hr : RmG k X.A) (tk : Tk X E) (T : MethK X C k m ks perm t) (ho : RE X C B E o me) (hs : RKw X C B E kws ms)
    (hall : (backToKw pos (keywordEach kws X.env)).all (·.1.isSome) = true := by rfl) (hks : (backToKw pos (keywordEach kws X.env)).filterMap (·.1) = ks := by rfl)
    (hpl : ((backTo pos (starEach [] X.env)).any (·.1) || (backToKw pos (keywordEach kws X.env)).any (·.1.isNone)) = false := by rfl)
    (ht : eval (.Call (.Attribute o m apos) [] kws pos) X.env = (do
      let ov ← eval o X.env
      standAt apos.atName
      let (f, first) ← holding [ov] (getMethod ov m pl)
      callWith pos f first (backTo pos (starEach [] X.env)) (backToKw pos (keywordEach kws X.env))) := by rfl) :
    RE X C B E (.Call (.Attribute o m apos) [] kws pos) (eMethK t ks.length perm me ms) := by
  refine ⟨fun pins s σ H Q I h => ?_⟩
  obtain ⟨F, ρ, d, b0, h⟩ := h
  refine PySem.W.methodCall_KW (pl := pl) (thn (ho.run pins s σ H _ I ⟨F, ρ, d, b0, tK.bind (Rp := Rep C) h⟩) fun u s1 q => ?_) ht
  obtain ⟨x, H1, I1, rx, F1, d1, px, b1, g1, r1, k1⟩ := q
  cases px with
  | ins c ys =>
    cases ef : t c with
    | none => simp only [ef] at k1; exact k1.elim
    | some fn =>
      simp only [ef] at k1
      obtain ⟨A, f, eA, cl, me, nf, G⟩ := T.at_ c fn ef
      obtain ⟨p, A', dx, vs, rfl, eA', f1, l1, q1⟩ := id r1
      rw [eA] at eA'; cases eA'
      cases rx
      refine getmeth_ok I1 (b1.fh _ _ f1) cl me (lookup_zip_none nf) ?_
      refine PySem.W.callWith_KW0 (first := [.ref p]) (h₀ := X.base) I.ok.mod.kin me.kp hall (thn (hs.run pos pins s1 σ H1 _ I1 ⟨F1, ρ, d1, b0.go b1 g1, tK.bind (Rp := RepL C) k1⟩) fun us s2 q => ?_) hpl
      obtain ⟨ws, H2, I2, rw', F2, d2, xs, b2, g2, r2, k2⟩ := q
      refine ⟨I2.kIn, ?_⟩
      by_cases hl : xs.length = ks.length
      · rw [if_pos hl] at k2
        rw [hks]
        exact run_spk (us := [.ref p]) (vs := [.ref p]) (xs := [.ins c ys]) G hr tk I2 (.cons rfl .nil) rw' rfl (by rw [← rw'.length, ← r2.length]; exact hl) b2 (RepL.cons (r1.mono g2.s) RepL.nil) r2 k2
      · rw [if_neg hl] at k2
        exact k2.elim
  | _ => exact k1.elim
/-- f(k = e, ..) -/
def eCallK (fn : PFn) (nk : Nat) (perm : List Nat) (ms : AM) : EM := fun ρ d => (ms ρ d).bind fun zs d2 => if zs.length = nk then (fn (pick perm zs)).r d2 else .no
theorem re_gK {x : Str} {f : Addr} {fn : PFn} (G : FnGK X.prog X.w X.K X.mg X.base k f 0 ks perm (spX C fn)) (hr : RmG k X.A) (tk : Tk X E) (hg : Gl X x) (hm : X.mg x = some (.ref f)) (hk : PySem.W.keepIn X.K (.ref f) = true) (hs : RKw X C B E kws ms)
    (hall : (backToKw pos (keywordEach kws X.env)).all (·.1.isSome) = true := by rfl) (hks : (backToKw pos (keywordEach kws X.env)).filterMap (·.1) = ks := by rfl)
    (hpl : ((backTo pos (starEach [] X.env)).any (·.1) || (backToKw pos (keywordEach kws X.env)).any (·.1.isNone)) = false := by rfl) (hdb : (x == ("__debug__" : Str)) = false := by decide) :
    RE X C B E (.Call (.Name x p) [] kws pos) (eCallK fn ks.length perm ms) := by
  refine ⟨fun pins s σ H Q I h => ?_⟩
  obtain ⟨F, ρ, d, b0, h⟩ := h
  refine wpAny_Call_Name_kw (ld_glob I hg hm ?_ hdb)
  refine PySem.W.callWith_KW0 (first := []) (h₀ := X.base) I.ok.mod.kin hk hall (thn (hs.run pos pins s σ H _ I ⟨F, ρ, d, b0, tK.bind (Rp := RepL C) h⟩) fun us s2 q => ?_) hpl
  obtain ⟨ws, H2, I2, rw', F2, d2, xs, b2, g2, r2, k2⟩ := q
  refine ⟨I2.kIn, ?_⟩
  by_cases hl : xs.length = ks.length
  · rw [if_pos hl] at k2
    rw [hks]
    exact run_spk (us := []) (vs := []) (xs := []) G hr tk I2 .nil rw' rfl (by rw [← rw'.length, ← r2.length]; exact hl) b2 RepL.nil r2 k2
  · rw [if_neg hl] at k2
    exact k2.elim
@[simp] theorem eMethK_x (t : OT) (nk : Nat) (perm : List Nat) (m : EM) (ms : AM) (ρ : REnv) (d : DSt) : eMethK t nk perm m ms ρ d = ((m ρ d).bind fun x d1 => match x with
  | .ins c ys => (match t c with
    | some fn => (ms ρ d1).bind fun zs d2 => if zs.length = nk then (fn (pick perm (.ins c ys :: zs))).r d2 else .no
    | none => .no)
  | _ => .no) := rfl
@[simp] theorem eCallK_x (fn : PFn) (nk : Nat) (perm : List Nat) (ms : AM) (ρ : REnv) (d : DSt) : eCallK fn nk perm ms ρ d = (ms ρ d).bind fun zs d2 => if zs.length = nk then (fn (pick perm zs)).r d2 else .no := rfl
@[simp] theorem pick_nil {α : Type} (l : List α) : pick [] l = [] := rfl
@[simp] theorem pick_cons {α : Type} (i : Nat) (is : List Nat) (l : List α) : pick (i :: is) l = (match l[i]? with | some x => x :: pick is l | none => pick is l) := by
  unfold pick
  rw [List.filterMap_cons]
  cases l[i]? <;> rfl
end
end RL
end M_R33
section M_R34
/-! the loop that makes the classes of a map: a list of lists, whose last one is written to -/
namespace RL
open PySem PySem.Spec PyProof.Rows L2
abbrev Tri := Int × Int × Int
def tripV (c : Tri) : List V := [.int c.1, .int c.2.1, .int c.2.2]
def tripP (c : Tri) : PV := .lst [.int c.1, .int c.2.1, .int c.2.2]
theorem tripR {C : Pl} {F : Hp} (c : Tri) : RepL C F [.int c.1, .int c.2.1, .int c.2.2] (tripV c) := RepL.cons rfl (RepL.cons rfl (RepL.cons rfl RepL.nil))
def clsStep (i : Nat) (v : Int) : List Tri → List Tri
  | (a, b, w) :: acc => if w = v then (a, (i : Int), w) :: acc else ((i : Int), (i : Int), v) :: (a, b, w) :: acc
  | [] => [((i : Int), (i : Int), v)]
/-- the classes, the latest one first -/
def clsR : List Int → Nat → List Tri → List Tri
  | [], _, acc => acc
  | v :: t, i, acc => clsR t (i + 1) (clsStep i v acc)
def clsL (t : List Int) : List Tri := (clsR t 0 []).reverse
def sCls : SM := fun ρ d => match ρ with
  | [.val (.lst xs), .own [], _, _] => (match intsP xs with
    | some t => if t.length < 1000 then .nx [.val (.lst xs), .own ((clsL t).map tripP), .un, .un] d else .no
    | none => .no)
  | _ => .no
/-- the latest class, whose list is not frozen -/
def lastT : List Tri → Int → Bool
  | (_, _, w) :: _, v => decide (w = v)
  | [], _ => false
section
variable {X : Cx} {C : Pl} {B : Bp} {E : XS}
/-- what stands in turn: acc is the classes so far, the latest one first -/
structure CSt (C : Pl) (B : Bp) (xs : List PV) (d : DSt) (a : Addr) (acc : List Tri) (σ : L2.St) (F H : Hp) : Prop where
  b : ∃ s2 s3, BR C B [.val (.lst xs), .un, s2, s3] d σ F H
  s1 : σ[1]? = some (some (.ref a))
  o : Own B F a
  t : ∃ vs, RepL C F ((acc.drop 1).reverse.map tripP) vs ∧ match acc with
    | [] => H a = some (.lst vs)
    | c :: _ => ∃ p, p ≠ a ∧ Own B F p ∧ H p = some (.lst (tripV c)) ∧ H a = some (.lst (vs ++ [.ref p]))
theorem CSt.go {xs : List PV} {d : DSt} {a : Addr} {acc : List Tri} {σ : L2.St} {F H F' H' : Hp} (h : CSt C B xs d a acc σ F H) (b' : BG C B d F' H') (g : Go C B F H F' H') : CSt C B xs d a acc σ F' H' := by
  obtain ⟨⟨s2, s3, b⟩, s1, o, vs, r, m⟩ := h
  have kp : ∀ {p : Addr} {u : List V}, Own B F p → H p = some (.lst u) → H' p = some (.lst u) ∧ Own B F' p := fun {p u} w e => by
    exact ⟨(g.k p _ w.1 e w.2.2).of (fun _ z => (nomatch z)), nn g.n w.1 e, w.2.1, w.2.2⟩
  refine ⟨⟨s2, s3, b.go b' g⟩, s1, ?_, vs, r.mono g.s, ?_⟩
  · cases acc with
    | nil => exact (kp o m).2
    | cons c acc => obtain ⟨p, _, _, _, e⟩ := m; exact (kp o e).2
  · cases acc with
    | nil => exact (kp o m).1
    | cons c acc =>
      obtain ⟨p, np, w, e1, e2⟩ := m
      exact ⟨p, np, (kp w e1).2, (kp w e1).1, (kp o e2).1⟩
end
end RL
end M_R34
section M_R35
namespace RL
open PySem PySem.Spec PyProof.Rows L2
section
variable {X : Cx} {C : Pl} {B : Bp} {E : XS}
/-- where the slots hold values alone -/
theorem BR.widen {ρ : REnv} {d d' : DSt} {σ : L2.St} {F H F' H' : Hp} (b : BR C B ρ d σ F H) (hv : ∀ s ∈ ρ, s = .un ∨ ∃ x, s = .val x) (g' : BG C B d' F' H') (s : Sk C F F') : BR C B ρ d' σ F' H' where
  g := g'
  len := b.len
  sl := by
    obtain ⟨ad, h1, h2⟩ := b.sl
    refine ⟨ad, fun i t e => ?_, h2⟩
    have z := h1 i t e
    rcases hv t (List.mem_of_getElem? e) with rfl | ⟨x, rfl⟩
    · trivial
    · obtain ⟨v, e1, r⟩ := z
      exact ⟨v, e1, Rep.mono s x v r⟩
theorem set_same {σ : L2.St} {i : Nat} {v : Option V} (h : σ[i]? = some v) : σ.set i v = σ := by
  apply List.ext_getElem?
  intro j
  by_cases hj : i = j
  · subst hj
    obtain ⟨hl, _⟩ := List.getElem?_eq_some_iff.mp h
    rw [List.getElem?_set_self hl, h]
  · rw [List.getElem?_set_ne hj]
theorem vals4 {s0 s2 s3 : PV} : ∀ s ∈ [Sl.val s0, .un, .val s2, .val s3], s = .un ∨ ∃ x, s = .val x := fun s hs => by
  simp only [List.mem_cons, List.not_mem_nil, or_false] at hs
  rcases hs with rfl | rfl | rfl | rfl
  · exact .inr ⟨_, rfl⟩
  · exact .inl rfl
  · exact .inr ⟨_, rfl⟩
  · exact .inr ⟨_, rfl⟩
/-- .. with the list frozen, to be read -/
theorem CSt.read {xs : List PV} {d : DSt} {a : Addr} {acc : List Tri} {σ : L2.St} {F H : Hp} (hso : B.so = none) (h : CSt C B xs d a acc σ F H) {x2 x3 : PV} (b : BR C B [.val (.lst xs), .un, .val x2, .val x3] d σ F H) {bm : BM} {r : Bool} {Q : Bool → Hp → Prop}
    (hb : bm [.val (.lst xs), .val (.lst (acc.reverse.map tripP)), .val x2, .val x3] d = .ok r d) (k : ∀ F' H', BG C B d F' H' → Go C B F H F' H' → Q r H') : tR C B E RB bm σ H Q := by
  have hns : ∀ p : Addr, B.so ≠ some p := fun p => by rw [hso]; exact fun z => nomatch z
  obtain ⟨_, s1, o, vs, rv, m⟩ := h
  cases acc with
  | nil =>
    obtain ⟨g2, s2⟩ := b.g.freeze o (hns a) m
    have b2 := b.widen vals4 g2 s2
    have ea : vs = [] := by cases (show vs = [] from rv); rfl
    subst ea
    have b3 := b2.set (i := 1) (x := .lst []) (v := .ref a) (rep_lst o.1 RepL.nil)
    rw [set_same s1] at b3
    refine ⟨_, _, d, b3, ?_⟩
    show tK C B (E σ) RB (bm [.val (.lst xs), .val (.lst []), .val x2, .val x3] d) _ H Q
    have hb' : bm [.val (.lst xs), .val (.lst []), .val x2, .val x3] d = .ok r d := hb
    rw [hb']
    refine tK.cut (r := .ok r d) b.g o m (fun F' H' v b' g e => ?_) (fun _ _ _ _ _ _ e => e) fun e d' z => nomatch z
    cases (show r = v from e)
    exact k F' H' b' g
  | cons c acc =>
    obtain ⟨p, np, w, e1, e2⟩ := m
    obtain ⟨g1, sp⟩ := b.g.freeze w (hns p) e1
    have o2 : Own B (upd F p (.lst (tripV c))) a := ⟨by rw [upd_ne (Ne.symm np)]; exact o.1, o.2⟩
    obtain ⟨g2, sa⟩ := g1.freeze o2 (hns a) e2
    have b2 := b.widen vals4 g2 (sp.trans sa)
    have rl : RepL C (upd F p (.lst (tripV c))) ((c :: acc).reverse.map tripP) (vs ++ [.ref p]) := by
      rw [List.reverse_cons, List.map_append]
      exact (rv.mono sp).append (RepL.cons (rep_lst w.1 (tripR c)) RepL.nil)
    have b3 := b2.set (i := 1) (x := .lst ((c :: acc).reverse.map tripP)) (v := .ref a) (rep_lst o2.1 rl)
    rw [set_same s1] at b3
    refine ⟨_, _, d, b3, ?_⟩
    show tK C B (E σ) RB (bm [.val (.lst xs), .val (.lst ((c :: acc).reverse.map tripP)), .val x2, .val x3] d) _ H Q
    rw [hb]
    refine tK.cut (r := .ok r d) g1 o2 e2 ?_ (fun _ _ _ _ _ _ e => e) fun e d' z => nomatch z
    refine tK.cut (r := .ok r d) b.g w e1 (fun F' H' v b' g e => ?_) (fun _ _ _ _ _ _ e => e) fun e d' z => nomatch z
    cases (show r = v from e)
    exact k F' H' b' g
/-- the latest class goes on -/
theorem CSt.wider {xs : List PV} {d : DSt} {a : Addr} {c : Tri} {acc : List Tri} {σ : L2.St} {F H : Hp} (h : CSt C B xs d a (c :: acc) σ F H) (hb : ∃ x2 x3, BR C B [.val (.lst xs), .un, .val x2, .val x3] d σ F H) (i : Int) :
    ∃ p vs, H p = some (.lst (tripV c)) ∧ H a = some (.lst (vs ++ [.ref p])) ∧ CSt C B xs d a ((c.1, i, c.2.2) :: acc) σ F (upd H p (.lst [.int c.1, .int i, .int c.2.2])) := by
  obtain ⟨_, s1, o, vs, rv, p, np, w, e1, e2⟩ := h
  obtain ⟨x2, x3, b⟩ := hb
  exact ⟨p, vs, e1, e2, ⟨_, _, b.widen vals4 (b.g.write w (nx_lst.at e1)) (Sk.refl C F)⟩, s1, o, vs, rv, p, np, w, upd_same, by rw [upd_ne (Ne.symm np)]; exact e2⟩
/-- a new class -/
theorem CSt.more {xs : List PV} {d : DSt} {a : Addr} {acc : List Tri} {σ : L2.St} {F H : Hp} (hso : B.so = none) (h : CSt C B xs d a acc σ F H) (hb : ∃ x2 x3, BR C B [.val (.lst xs), .un, .val x2, .val x3] d σ F H) (c : Tri) {q : Addr} (hq : H q = none) :
    ∃ ls, H a = some (.lst ls) ∧ ls.length = acc.length ∧ ∃ F', Sk C F F' ∧ CSt C B xs d a (c :: acc) σ F' (upd (upd H q (.lst (tripV c))) a (.lst (ls ++ [.ref q]))) := by
  have hns : ∀ p : Addr, B.so ≠ some p := fun p => by rw [hso]; exact fun z => nomatch z
  obtain ⟨_, s1, o, vs, rv, m⟩ := h
  obtain ⟨x2, x3, b⟩ := hb
  have wq : Own B F q := b.g.own hq (by
    cases z : F q with
    | none => rfl
    | some u => rw [b.g.fh q u z] at hq; cases hq)
  cases acc with
  | nil =>
    have ev : vs = [] := by cases (show vs = [] from rv); rfl
    subst ev
    have na : q ≠ a := fun z => by rw [z, m] at hq; cases hq
    refine ⟨[], m, rfl, F, Sk.refl C F, ⟨_, _, b.widen vals4 ((b.g.write wq (NX.no hq)).write o (nx_lst.at (by rw [upd_ne (Ne.symm na)]; exact m))) (Sk.refl C F)⟩, s1, o, [], RepL.nil, q, na, wq, ?_, ?_⟩
    · rw [upd_ne na, upd_same]
    · exact upd_same
  | cons c0 acc =>
    obtain ⟨p, np, w, e1, e2⟩ := m
    have na : q ≠ a := fun z => by rw [z, e2] at hq; cases hq
    have nqp : q ≠ p := fun z => by rw [z, e1] at hq; cases hq
    obtain ⟨g1, sp⟩ := b.g.freeze w (hns p) e1
    have o2 : Own B (upd F p (.lst (tripV c0))) a := ⟨by rw [upd_ne (Ne.symm np)]; exact o.1, o.2⟩
    have wq2 : Own B (upd F p (.lst (tripV c0))) q := ⟨by rw [upd_ne nqp]; exact wq.1, wq.2⟩
    refine ⟨vs ++ [.ref p], e2, by rw [List.length_append, ← rv.length]; simp, upd F p (.lst (tripV c0)), sp, ⟨_, _, b.widen vals4 ((g1.write wq2 (NX.no hq)).write o2 (nx_lst.at (by rw [upd_ne (Ne.symm na)]; exact e2))) sp⟩, s1, o2, vs ++ [.ref p], ?_, q, na, wq2, ?_, upd_same⟩
    · have e : ((c :: c0 :: acc).drop 1).reverse.map tripP = acc.reverse.map tripP ++ [tripP c0] := by simp
      rw [e]
      exact (rv.mono sp).append (RepL.cons (rep_lst w.1 (tripR c0)) RepL.nil)
    · rw [upd_ne na, upd_same]
/-- all of it, frozen but for the list itself -/
theorem CSt.done {xs : List PV} {d : DSt} {a : Addr} {acc : List Tri} {σ : L2.St} {F H : Hp} (hso : B.so = none) (h : CSt C B xs d a acc σ F H) : ∃ F', Sk C F F' ∧ BR C B [.val (.lst xs), .own (acc.reverse.map tripP), .un, .un] d σ F' H := by
  have hns : ∀ p : Addr, B.so ≠ some p := fun p => by rw [hso]; exact fun z => nomatch z
  obtain ⟨⟨s2, s3, b⟩, s1, o, vs, rv, m⟩ := h
  have fin : ∀ (F' : Hp) (g' : BG C B d F' H) (s : Sk C F F') (w : Own B F' a) (ls : List V), H a = some (.lst ls) → RepL C F' (acc.reverse.map tripP) ls → BR C B [.val (.lst xs), .own (acc.reverse.map tripP), .un, .un] d σ F' H := fun F' g' s w ls e r => by
    obtain ⟨ad, h1, h2⟩ := b.sl
    refine ⟨g', b.len, fun _ => a, fun i t e' => ?_, fun i j s t e1 e2 o1 o2 _ => ?_⟩
    · match i, e' with
      | 0, e' =>
        cases e'
        obtain ⟨v, e1, r1⟩ := h1 0 _ rfl
        exact ⟨v, e1, Rep.mono s _ v r1⟩
      | 1, e' => cases e'; exact ⟨s1, w, ls, e, r⟩
      | 2, e' => cases e'; trivial
      | 3, e' => cases e'; trivial
      | (i + 4), e' => simp at e'
    · have own1 : ∀ (i : Nat) (s : Sl), [Sl.val (.lst xs), .own (acc.reverse.map tripP), .un, .un][i]? = some s → s.isOwn = true → i = 1 := fun i s e o => by
        match i, e with
        | 0, e => cases e; cases o
        | 1, _ => rfl
        | 2, e => cases e; cases o
        | 3, e => cases e; cases o
        | (i + 4), e => simp at e
      rw [own1 i s e1 o1, own1 j t e2 o2]
  cases acc with
  | nil => exact ⟨F, Sk.refl C F, fin F b.g (Sk.refl C F) o vs m rv⟩
  | cons c acc =>
    obtain ⟨p, np, w, e1, e2⟩ := m
    obtain ⟨g1, sp⟩ := b.g.freeze w (hns p) e1
    have o2 : Own B (upd F p (.lst (tripV c))) a := ⟨by rw [upd_ne (Ne.symm np)]; exact o.1, o.2⟩
    refine ⟨_, sp, fin _ g1 sp o2 _ e2 ?_⟩
    rw [List.reverse_cons, List.map_append]
    exact (rv.mono sp).append (RepL.cons (rep_lst w.1 (tripR c)) RepL.nil)
end
end RL
end M_R35
section M_R36
namespace RL
open PySem PySem.Spec PyProof.Rows L2
theorem clsR_take (t : List Int) : ∀ (i : Nat) (acc : List Tri) (n : Nat) (v : Int), t[n]? = some v → clsR (t.take (n + 1)) i acc = clsStep (i + n) v (clsR (t.take n) i acc) := by
  induction t with
  | nil => intro i acc n v h; simp at h
  | cons x t ih =>
    intro i acc n v h
    cases n with
    | zero =>
      simp at h; subst h
      simp [clsR]
    | succ n =>
      have h' : t[n]? = some v := by simpa using h
      rw [List.take_succ_cons, List.take_succ_cons]
      simp only [clsR]
      rw [ih (i + 1) (clsStep i x acc) n v h', show i + 1 + n = i + (n + 1) by omega]
theorem clsR_len (t : List Int) : ∀ (i : Nat) (acc : List Tri), (clsR t i acc).length ≤ acc.length + t.length := by
  induction t with
  | nil => intro i acc; simp [clsR]
  | cons x t ih =>
    intro i acc
    have h1 : (clsStep i x acc).length ≤ acc.length + 1 := by
      cases acc with
      | nil => simp [clsStep]
      | cons c acc =>
        obtain ⟨a, b, w⟩ := c
        by_cases h : w = x <;> simp [clsStep, h]
    have := ih (i + 1) (clsStep i x acc)
    simp only [clsR, List.length_cons]
    omega
section
variable {X : Cx} {C : Pl} {B : Bp} {E : XS} {mi : AM} {bm : BM}
theorem rs_cls {tg iter test : Expr} {sA sB : List Stmt} {tA tB : TS} {p1 pos : Pos} (hp : PassesOwn (model X.prog X.w) X.A X.env X.xe) (hc : X.calm = true) (hso : B.so = none) (hi : RI X C B E tg iter mi)
    (hmi : ∀ xs s1 s2 s3 d, mi [.val (.lst xs), s1, s2, s3] d = .ok (enumP xs) d) (hg : RG X C B tg (.t [.n 2, .n 3])) (hT : RT X C B E test bm)
    (hbm : ∀ xs acc (i v : Int) d, bm [.val (.lst xs), .val (.lst ((acc : List Tri).reverse.map tripP)), .val (.int i), .val (.int v)] d = .ok (lastT acc v) d)
    (hA : PSs X sA tA) (hAr : ∀ (D : Ends) σ H (a p : Addr) vs (c : Tri) (i : Int), σ[1]? = some (some (.ref a)) → σ[2]? = some (some (.int i)) → H a = some (.lst (vs ++ [.ref p])) → H p = some (.lst (tripV c)) → D.nx σ (upd H p (.lst [.int c.1, .int i, .int c.2.2])) → tA D σ H)
    (hB : PSs X sB tB) (hBr : ∀ (D : Ends) σ H (a : Addr) ls (i v : Int), σ[1]? = some (some (.ref a)) → σ[2]? = some (some (.int i)) → σ[3]? = some (some (.int v)) → H a = some (.lst ls) → ls.length < 1000 → (∀ q, H q = none → q ≠ a → D.nx σ (upd (upd H q (.lst (tripV (i, i, v)))) a (.lst (ls ++ [.ref q])))) → tB D σ H)
    (hs : ∀ x, foldedSetIterable iter X.env x = pure x := by intro _; rfl) : RSt X C B E (.For tg iter [.If test sA sB p1] [] pos) sCls := by
  refine PS.weak (ps_for hp hc hi hg (pss_one (ps_if hT hA hB)) hs) fun D σ H h => ?_
  obtain ⟨F, ρ, d, b, h⟩ := h
  refine ⟨F, ρ, d, b, ?_⟩
  unfold sCls at h
  split at h
  · rename_i xs s2 s3
    split at h
    · rename_i t ht
      split at h
      · rename_i hlt
        rw [hmi]
        intro F1 H1 J b1 g1 w
        have h : tKS C B E (.nx [.val (.lst xs), .own ((clsL t).map tripP), .un, .un] d) F1 H1 D := tKS.back (H := H) g1.s h
        have B1 := b.go b1 g1
        -- the list
        obtain ⟨a, ls0, e1, w1, e2, r1, _⟩ := B1.own_at (i := 1) rfl
        have e0 : ls0 = [] := by cases (show ls0 = [] from r1); rfl
        subst e0
        have hxs : xs = t.map PV.int := by
          have : ∀ (l : List PV) (t : List Int), intsP l = some t → l = t.map PV.int := by
            intro l
            induction l with
            | nil => intro t h; cases h; rfl
            | cons x l ih =>
              intro t h
              cases x with
              | int i =>
                have h : (intsP l).map (i :: ·) = some t := h
                cases q : intsP l with
                | none => rw [q] at h; cases h
                | some t' => rw [q] at h; cases h; rw [ih t' q]; rfl
              | _ => cases h
          exact this xs t ht
        have c0 : CSt C B xs d a [] σ F1 H1 := by
          obtain ⟨ad, h1, h2⟩ := B1.sl
          refine ⟨⟨.un, .un, b1, B1.len, ad, fun i s e => ?_, fun i j s u ei ej oi oj => ?_⟩, e1, w1, [], RepL.nil, e2⟩
          · match i, e with
            | 0, e => cases e; exact h1 0 _ rfl
            | 1, e => cases e; trivial
            | 2, e => cases e; trivial
            | 3, e => cases e; trivial
            | (i + 4), e => simp at e
          · exfalso
            match i, ei with
            | 0, e => cases e; cases oi
            | 1, e => cases e; cases oi
            | 2, e => cases e; cases oi
            | 3, e => cases e; cases oi
            | (i + 4), e => simp at e
        obtain ⟨n, G, Y, hn, wk, hG, hY⟩ := w.ex
        have hn : (enumP xs).length = n := hn.symm
        rw [enumP_len] at hn
        have hnt : n = t.length := by rw [← hn, hxs, List.length_map]
        refine for_it wk (fun i σ H => ∃ F, CSt C B xs d a (clsR (t.take i) 0 []) σ F H ∧ Sk C F1 F) ⟨F1, by simpa [clsR] using c0, Sk.refl _ _⟩ (fun i σ H hi q => ?_) (fun i v σ H H' hi q y => ?_) (fun σ H q => ?_)
        · obtain ⟨F2, c2, s2⟩ := q
          obtain ⟨s2', s3', b2⟩ := c2.b
          exact hG F2 H s2 b2.g.fh
        · obtain ⟨F2, c2, s2⟩ := q
          obtain ⟨_, _, b2⟩ := c2.b
          obtain ⟨F3, x, ex, gr, rx⟩ := hY i F2 H v H' hi s2 b2.g.fh y
          have g3 := b2.g.grow gr.s gr.f gr.h gr.n
          have c3 := c2.go g3 (gr.go b2.g.fh)
          obtain ⟨u2, u3, b3⟩ := c3.b
          obtain ⟨y, ey, rfl⟩ := enumP_get' ex
          rw [hxs, List.getElem?_map] at ey
          cases qv : t[i]? with
          | none => rw [qv] at ey; cases ey
          | some v' =>
            rw [qv] at ey; cases ey
            refine ⟨F3, _, d, .tup [.int (i : Nat), .int v'], _, b3, rx, rfl, fun σ4 b4 eq => ?_⟩
            have es : ∀ j, j ≠ 2 → j ≠ 3 → σ4[j]? = σ[j]? := fun j n2 n3 => eq.2 j (by simp [Tg.ix, Tg.ixs, n2, n3])
            have b4 : BR C B [.val (.lst xs), .un, .val (.int (i : Nat)), .val (.int v')] d σ4 F3 H' := b4
            have c4 : CSt C B xs d a (clsR (t.take i) 0 []) σ4 F3 H' := ⟨⟨_, _, b4⟩, (es 1 (by decide) (by decide)).trans c3.s1, c3.o, c3.t⟩
            have rep : ∀ (j : Nat) (z : Int), [Sl.val (.lst xs), .un, .val (.int (i : Nat)), .val (.int v')][j]? = some (.val (.int z)) → σ4[j]? = some (some (.int z)) := fun j z e => by
              obtain ⟨ad, h1, _⟩ := b4.sl
              obtain ⟨w, e1, r⟩ := h1 j _ e
              cases (show w = .int z from r)
              exact e1
            have i2 := rep 2 _ rfl
            have i3 := rep 3 _ rfl
            rw [clsR_take t 0 [] i v' qv, Nat.zero_add]
            refine c4.read hso b4 (hbm _ _ _ _ d) fun F5 H5 b5 g5 => ?_
            have c5 := c4.go b5 g5
            have B5 : ∃ x2 x3, BR C B [.val (.lst xs), .un, .val x2, .val x3] d σ4 F5 H5 := ⟨_, _, b4.widen vals4 b5 g5.s⟩
            have s5 : Sk C F1 F5 := (s2.trans gr.s).trans g5.s
            have hlen : (clsR (t.take i) 0 []).length < 1000 := by
              have := clsR_len (t.take i) 0 []
              have h2 := List.length_take_le i t
              simp at this
              omega
            generalize clsR (t.take i) 0 [] = acc at *
            cases acc with
            | nil =>
              show tB _ σ4 H5
              obtain ⟨_, _, _, vs, rv, m⟩ := id c5
              have ev : vs = [] := by cases (show vs = [] from rv); rfl
              subst ev
              refine hBr _ σ4 H5 a [] i v' c5.s1 i2 i3 m (by decide) fun q hq _ => ?_
              obtain ⟨ls, el, _, F6, s6, c6⟩ := c5.more hso B5 ((i : Int), (i : Int), v') hq
              rw [m] at el; cases el
              exact ⟨F6, c6, s5.trans s6⟩
            | cons c acc =>
              obtain ⟨ca, cb, cw⟩ := c
              by_cases hw : cw = v'
              · have hl : lastT ((ca, cb, cw) :: acc) v' = true := by simp [lastT, hw]
                rw [hl]
                show tA _ σ4 H5
                obtain ⟨p, vs, ep, ea, c6⟩ := c5.wider B5 (i : Int)
                have hst : clsStep i v' ((ca, cb, cw) :: acc) = (ca, (i : Int), cw) :: acc := by simp [clsStep, hw]
                rw [hst]
                exact hAr _ σ4 H5 a p vs _ i c5.s1 i2 ea ep ⟨F5, c6, s5⟩
              · have hl : lastT ((ca, cb, cw) :: acc) v' = false := by simp [lastT, hw]
                rw [hl]
                show tB _ σ4 H5
                have hst : clsStep i v' ((ca, cb, cw) :: acc) = ((i : Int), (i : Int), v') :: (ca, cb, cw) :: acc := by simp [clsStep, hw]
                rw [hst]
                obtain ⟨_, _, _, vs, rv, p, np, wp, ep, ea⟩ := id c5
                refine hBr _ σ4 H5 a _ i v' c5.s1 i2 i3 ea (by rw [List.length_append, ← rv.length]; simpa using hlen) fun q hq _ => ?_
                obtain ⟨ls, el, _, F6, s6, c6⟩ := c5.more hso B5 ((i : Int), (i : Int), v') hq
                rw [ea] at el; cases el
                exact ⟨F6, c6, s5.trans s6⟩
        · obtain ⟨F2, c2, s2⟩ := q
          rw [hnt, List.take_length] at c2
          obtain ⟨F3, s3, b3⟩ := c2.done hso
          exact h σ F3 H (by simpa [clsL] using b3) (s2.trans s3)
      · exact h.elim
    · exact h.elim
  · exact h.elim
end
end RL
end M_R36
section M_R37
namespace RL
open PySem PySem.Spec PyProof.Rows L2
def tripD (c : Tri) : PyData := .list [.int c.1, .int c.2.1, .int c.2.2]
theorem toD_trip (c : Tri) : toD (tripP c) = some (tripD c) := by simp [tripP, tripD, toD, toDs]
theorem toDs_trip : ∀ l : List Tri, toDs (l.map tripP) = some (l.map tripD)
  | [] => rfl
  | c :: l => by
    show (match toD (tripP c), toDs (l.map tripP) with | some d, some ds => some (d :: ds) | _, _ => none) = _
    rw [toD_trip, toDs_trip l]; rfl
theorem shaped_trip (l : List Tri) : SeqAt.shaped (.list (l.map tripD)) = true := by
  have a : ∀ l : List Tri, PyData.canLayAll0 (l.map tripD) = true := by
    intro l
    induction l with
    | nil => simp [PyData.canLayAll0]
    | cons c l ih => simp [PyData.canLayAll0, PyData.canLay0, tripD] at ih ⊢; exact ih
  have b : ∀ l : List Tri, PyData.depthAll (l.map tripD) ≤ 1 := by
    intro l
    induction l with
    | nil => simp [PyData.depthAll]
    | cons c l ih =>
      simp only [List.map_cons, PyData.depthAll]
      have : (tripD c).depth = 1 := by simp [tripD, PyData.depth, PyData.depthAll]
      omega
  unfold SeqAt.shaped
  have := b l
  simp [PyData.canLay0, a, PyData.depth]
  omega
theorem ixN_last (n : Nat) : L2.ixN (n + 1) (-1) = some n := by
  unfold L2.ixN
  rw [if_neg (by decide), if_pos (by omega)]
  congr 1
  omega
theorem oIx_last (t : OT) (l : List PV) (x : PV) : oIx t (.lst (l ++ [x])) (.int (-1)) = .ok x := by
  simp only [oIx, List.length_append, List.length_cons, List.length_nil, Nat.zero_add, ixN_last]
  simp
theorem oIx_trip (t : OT) (c : Tri) : oIx t (tripP c) (.int 2) = .ok (.int c.2.2) := rfl
def bCls : BM := bAnd (bBool (eBin (oEqD true) (eVar 1) (eL (aLim aNil)))) (bBool (eBin (oEq OT0) (eBin (oIx OT0) (eBin (oIx OT0) (eVar 1) (eUn (oNeg OT0) (eC (.int 1)))) (eC (.int 2))) (eVar 3)))
theorem bCls_ok (xs : List PV) (acc : List Tri) (i v : Int) (d : DSt) : bCls [.val (.lst xs), .val (.lst (acc.reverse.map tripP)), .val (.int i), .val (.int v)] d = .ok (lastT acc v) d := by
  cases acc with
  | nil =>
    have e : oEqD true (.lst (([] : List Tri).map tripP)) (.lst []) = .ok (.bl false) := by
      simp [oEqD, toD, toDs, SeqAt.shaped, PyData.canLay0, PyData.canLayAll0, PyData.depth, PyData.depthAll, PyData.eqv, PyData.eqvAll]
    simp at e
    simp [bCls, e, lastT]
  | cons c acc =>
    obtain ⟨a, b, w⟩ := c
    have e : oEqD true (.lst ((((a, b, w) : Tri) :: acc).reverse.map tripP)) (.lst []) = .ok (.bl true) := by
      have s1 := shaped_trip (((a, b, w) : Tri) :: acc).reverse
      have s2 : SeqAt.shaped (.list []) = true := shaped_ints []
      have q : PyData.eqv (.list ((((a, b, w) : Tri) :: acc).reverse.map tripD)) (.list []) = false := by
        rw [List.reverse_cons, List.map_append]
        cases acc.reverse.map tripD <;> simp [PyData.eqv, PyData.eqvAll]
      have t1 : toD (.lst ((((a, b, w) : Tri) :: acc).reverse.map tripP)) = some (.list ((((a, b, w) : Tri) :: acc).reverse.map tripD)) := by
        show (toDs _).map PyData.list = _
        rw [toDs_trip]; rfl
      have t2 : toD (.lst []) = some (.list []) := rfl
      unfold oEqD
      rw [t1, t2]
      simp only [s1, s2, q]
      rfl
    have e2 : oIx OT0 (.lst ((((a, b, w) : Tri) :: acc).reverse.map tripP)) (.int (-1)) = .ok (tripP (a, b, w)) := by
      rw [List.reverse_cons, List.map_append]
      exact oIx_last _ _ _
    have e3 := oIx_trip OT0 (a, b, w)
    unfold bCls
    generalize ((((a, b, w) : Tri) :: acc).reverse.map tripP) = l at *
    have en : oNeg OT0 (.int 1) = .ok (.int (-1)) := rfl
    simp [e, e2, e3, en, lastT]
section
variable {X : Cx} {C : Pl} {B : Bp} {E : XS} {mi : AM}
theorem rs_clsFor {tg iter test : Expr} {k1 k2 : Nat} {x1 x2 x3 : Str} {p1 p2 p3 p4 p5 p6 p7 p8 p9 q1 q2 q3 q4 q5 q6 q7 q8 pos : Pos} (hp : PassesOwn (model X.prog X.w) X.A X.env X.xe) (hc : X.calm = true) (hso : B.so = none)
    (hi : RI X C B E tg iter mi) (hmi : ∀ xs s1 s2 s3 d, mi [.val (.lst xs), s1, s2, s3] d = .ok (enumP xs) d) (hg : RG X C B tg (.t [.n 2, .n 3])) (hT : RT X C B E test bCls)
    (n1 : X.N[1]? = some x1) (n2 : X.N[2]? = some x2) (n3 : X.N[3]? = some x3) (v1 : Vis X.env.scope x1) (v2 : Vis X.env.scope x2) (v3 : Vis X.env.scope x3)
    (d1 : (x1 == ("__debug__" : Str)) = false := by decide) (c1 : (x1 == ("__classdict__" : Str)) = false := by decide) (d2 : (x2 == ("__debug__" : Str)) = false := by decide) (c2 : (x2 == ("__classdict__" : Str)) = false := by decide)
    (d3 : (x3 == ("__debug__" : Str)) = false := by decide) (c3 : (x3 == ("__classdict__" : Str)) = false := by decide)
    (ha1 : swapsWithSole [.Subscript (.Subscript (.Name x1 p2) (.UnaryOp .USub (.Constant (.int 1) k1 p3) p4) p5) (.Constant (.int 1) k2 p6) p7] (.Name x2 p8) p9.line X.env = pure false := by rfl)
    (ha2 : swappedStores [.Subscript (.Subscript (.Name x1 p2) (.UnaryOp .USub (.Constant (.int 1) k1 p3) p4) p5) (.Constant (.int 1) k2 p6) p7] (.Name x2 p8) X.env = pure none := by rfl)
    (hbase : attributeBase (.Name x1 q1) "append" X.env (eval (.Name x1 q1) X.env) = eval (.Name x1 q1) X.env := by rfl)
    (hline : (q2.endLine == q7.line) = true := by rfl)
    (hsw : swapsWith (.Call (.Attribute (.Name x1 q1) "append" q2) [.List [.Name x2 q3, .Name x2 q4, .Name x3 q5] q6] [] q7) none q8.line X.env = pure false := by rfl)
    (hs : ∀ x, foldedSetIterable iter X.env x = pure x := by intro _; rfl) :
    RSt X C B E (.For tg iter [.If test [.Assign [.Subscript (.Subscript (.Name x1 p2) (.UnaryOp .USub (.Constant (.int 1) k1 p3) p4) p5) (.Constant (.int 1) k2 p6) p7] (.Name x2 p8) p9]
      [.Expr (.Call (.Attribute (.Name x1 q1) "append" q2) [.List [.Name x2 q3, .Name x2 q4, .Name x3 q5] q6] [] q7) q8] p1] [] pos) sCls := by
  refine rs_cls hp hc hso hi hmi hg hT bCls_ok
    (pss_one (ps_asg (pe_var n2 v2 d2 c2) (pg_sub (pe_ix ix_list (pe_var n1 v1 d1 c1) (pe_un un_neg pe_int) (fun _ _ => rfl)) pe_int set_list) ha1 ha2)) ?_
    (pss_one (ps_expr (pe_bm PySem.F.plainAttrs_list PySem.F.slot_list_append PySem.F.type_list_append mt_append (pe_var n1 v1 d1 c1) (pa_cons (pe_lst (pa_cons (pe_var n2 v2 d2 c2) (pa_cons (pe_var n2 v2 d2 c2) (pa_cons (pe_var n3 v3 d3 c3) pa_nil)))) pa_nil) hbase (by rfl) hline) hsw)) ?_ hs
  · intro D σ H a p vs c i h1 h2 ha hp k
    exact ⟨.int i, h2, .ref a, h1, 1, rfl, a, vs ++ [.ref p], -1, .ref p, rfl, rfl, SqL.of ha, atI_last _ _, p, tripV c, 1, 1, rfl, rfl, hp, rfl, k⟩
  · intro D σ H a ls i v h1 h2 h3 ha hl k
    refine ⟨.ref a, h1, .inl ⟨rfl, ls, SqL.of ha⟩, .int i, h2, .int i, h2, .int v, h3, by show 3 ≤ sizeLine; decide, fun q hq => ?_⟩
    have nq : q ≠ a := fun z => by rw [z, ha] at hq; cases hq
    exact ⟨a, ls, .ref q, rfl, rfl, by rw [upd_ne (Ne.symm nq)]; exact ha, Nat.lt_of_lt_of_le hl (Nat.le_trans (by decide) LIM_le), k q hq nq⟩
end
end RL
end M_R37
section M_R38
/-! operators on the bits of whole numbers -/
namespace RL
open PySem PySem.Spec PyProof.Rows L2
def oBitF (f : Int → Int → Int) (t : OT) : PV → PV → O
  | .int i, .int j => .ok (.int (f i j))
  | .ins c xs, .ins c' ys => if c = c' then own t c [.ins c xs, .ins c' ys] else .no
  | _, _ => .no
abbrev oBAnd := oBitF Builtin.bitAnd
abbrev oBOr := oBitF Builtin.bitOr
def oShl : PV → PV → O
  | .int i, .int j => if 0 ≤ j ∧ j ≤ 1000000 ∧ i.natAbs < 2 ^ 64 then .ok (.int (i * 2 ^ j.toNat)) else .no
  | _, _ => .no
def oInv : PV → O
  | .int i => .ok (.int (Builtin.bitNot i))
  | _ => .no
section
variable {X : Cx} {C : Pl} {B : Bp} {E : XS} {k : Nat} {t : OT}
theorem op2_band (hr : RmG k X.A) (tk : Tk X E) (O : OwnT X C k "__and__" t) : Op2 X C E (binaryOp .BitAnd) (oBAnd t) := by
  intro B pins s σ H x y v u Q I rx ry h
  obtain ⟨F, d, px, py, b, r1, r2, h⟩ := h
  unfold oBAnd oBitF at h
  split at h
  · exact op_and pins s σ H x y v u Q I rx ry ⟨_, _, r1, r2, h.here b rfl⟩
  · split at h
    · rename_i e
      subst e
      exact own_bin (op := .BitAnd) O hr tk I b r1 r2 rx ry h
    · exact h.elim
  · exact h.elim
theorem op2_bor (hr : RmG k X.A) (tk : Tk X E) (O : OwnT X C k "__or__" t) : Op2 X C E (binaryOp .BitOr) (oBOr t) := by
  intro B pins s σ H x y v u Q I rx ry h
  obtain ⟨F, d, px, py, b, r1, r2, h⟩ := h
  unfold oBOr oBitF at h
  split at h
  · exact op_or pins s σ H x y v u Q I rx ry ⟨_, _, r1, r2, h.here b rfl⟩
  · split at h
    · rename_i e
      subst e
      exact own_bin (op := .BitOr) O hr tk I b r1 r2 rx ry h
    · exact h.elim
  · exact h.elim
theorem op2_shl : Op2 X C E (binaryOp .LShift) oShl := by
  intro B pins s σ H x y v u Q I rx ry h
  obtain ⟨F, d, px, py, b, r1, r2, h⟩ := h
  unfold oShl at h
  split at h
  · split at h
    · rename_i e
      exact op_shl pins s σ H x y v u Q I rx ry ⟨_, _, r1, r2, e, h.here b rfl⟩
    · exact h.elim
  · exact h.elim
theorem op1_inv : Op1 X C E (unaryOp .Invert) oInv := by
  intro B pins s σ H x v Q I rx h
  obtain ⟨F, d, px, b, r1, h⟩ := h
  unfold oInv at h
  split at h
  · exact un_inv pins s σ H x v Q I rx ⟨_, r1, h.here b rfl⟩
  · exact h.elim
@[simp] theorem oBitF_i (f : Int → Int → Int) (t : OT) (i j : Int) : oBitF f t (.int i) (.int j) = .ok (.int (f i j)) := rfl
@[simp] theorem oInv_i (i : Int) : oInv (.int i) = .ok (.int (Builtin.bitNot i)) := rfl
end
end RL
end M_R38
section M_R39
/-! marks as bits -/
namespace RL
open PySem PyProof.Rows L2 Bits
theorem shl_one (m : Nat) : (1 : Int) * 2 ^ m = ((2 ^ m : Nat) : Int) := by simp
theorem bor_nat (a b : Nat) : Builtin.bitOr (a : Int) (b : Int) = ((a ||| b : Nat) : Int) := by
  rw [bitOr_pp (Int.natCast_nonneg _) (Int.natCast_nonneg _)]; simp
theorem band_nat (a b : Nat) : Builtin.bitAnd (a : Int) (b : Int) = ((a &&& b : Nat) : Int) := by
  rw [bitAnd_pp (Int.natCast_nonneg _) (Int.natCast_nonneg _)]; simp
/-- a & ~b -/
theorem bdiff_nat (a b : Nat) : Builtin.bitAnd (a : Int) (Builtin.bitNot (b : Int)) = ((a - (a &&& b) : Nat) : Int) := by
  have hb : ¬ (0 : Int) ≤ Builtin.bitNot (b : Int) := by unfold Builtin.bitNot; omega
  rw [bitAnd_pn (Int.natCast_nonneg _) hb]
  have e : (Builtin.bitNot (Builtin.bitNot (b : Int))).toNat = b := by unfold Builtin.bitNot; omega
  rw [e, Int.toNat_natCast]
  have : a &&& b ≤ a := Nat.and_le_left
  omega
theorem tb_or (a b i : Nat) : (a ||| b).testBit i = (a.testBit i || b.testBit i) := Nat.testBit_or a b i
theorem tb_and (a b i : Nat) : (a &&& b).testBit i = (a.testBit i && b.testBit i) := Nat.testBit_and a b i
theorem tb_pow (m i : Nat) : (2 ^ m).testBit i = decide (m = i) := Nat.testBit_two_pow
theorem tb_diff : ∀ (i a b : Nat), (a - (a &&& b)).testBit i = (a.testBit i && !b.testBit i)
  | 0, a, b => by
    have h : (a &&& b).testBit 0 = (a.testBit 0 && b.testBit 0) := Nat.testBit_and a b 0
    have le : a &&& b ≤ a := Nat.and_le_left
    simp only [Nat.testBit_zero] at h ⊢
    have h1 : (a &&& b) % 2 ≤ a % 2 := by
      have := Nat.and_mod_two_eq_one (a := a) (b := b)
      omega
    have e : (a - (a &&& b)) % 2 = a % 2 - (a &&& b) % 2 := by omega
    have p := Nat.mod_two_eq_zero_or_one a
    have q := Nat.mod_two_eq_zero_or_one b
    have hab : (a &&& b) % 2 = 1 ↔ a % 2 = 1 ∧ b % 2 = 1 := by
      rw [Bool.eq_iff_iff] at h
      simpa using h
    rw [Bool.eq_iff_iff]
    simp
    omega
  | i + 1, a, b => by
    have le : a &&& b ≤ a := Nat.and_le_left
    have hd : (a &&& b) / 2 = (a / 2 &&& b / 2) := by
      apply Nat.eq_of_testBit_eq
      intro j
      rw [Nat.testBit_div_two, Nat.testBit_and, Nat.testBit_and, Nat.testBit_div_two, Nat.testBit_div_two]
    have h : (a &&& b).testBit 0 = (a.testBit 0 && b.testBit 0) := Nat.testBit_and a b 0
    simp only [Nat.testBit_zero] at h
    have hab : (a &&& b) % 2 = 1 ↔ a % 2 = 1 ∧ b % 2 = 1 := by
      rw [Bool.eq_iff_iff] at h
      simpa using h
    have e : (a - (a &&& b)) / 2 = a / 2 - (a / 2 &&& b / 2) := by
      rw [← hd]
      have p := Nat.mod_two_eq_zero_or_one a
      have q := Nat.mod_two_eq_zero_or_one (a &&& b)
      omega
    rw [Nat.testBit_succ, e, tb_diff i, Nat.testBit_succ, Nat.testBit_succ]
theorem and_pow_ne (a m : Nat) : (a &&& 2 ^ m ≠ 0) ↔ a.testBit m = true := by
  constructor
  · intro h
    cases q : a.testBit m with
    | true => rfl
    | false =>
      exfalso
      refine h (Nat.eq_of_testBit_eq fun i => ?_)
      rw [tb_and, tb_pow, Nat.zero_testBit]
      by_cases e : m = i
      · subst e; simp [q]
      · simp [e]
  · intro h e
    have : (a &&& 2 ^ m).testBit m = true := by rw [tb_and, tb_pow, h]; simp
    rw [e, Nat.zero_testBit] at this
    cases this
theorem and_eq_iff (a b : Nat) : a &&& b = a ↔ ∀ i, a.testBit i = true → b.testBit i = true := by
  constructor
  · intro h i hi
    have : (a &&& b).testBit i = true := by rw [h]; exact hi
    rw [tb_and] at this
    simp at this
    exact this.2
  · intro h
    refine Nat.eq_of_testBit_eq fun i => ?_
    rw [tb_and]
    cases q : a.testBit i with
    | false => rfl
    | true => rw [h i q]; rfl
theorem bits_zero (a : Nat) : a = 0 ↔ ∀ i, a.testBit i = false := by
  constructor
  · rintro rfl i; exact Nat.zero_testBit i
  · intro h; exact Nat.eq_of_testBit_eq fun i => by rw [h i, Nat.zero_testBit]
/-- the marks, ascending -/
def mks (b : Nat) (n : Nat) : List Int := ((List.range (n + 1)).filter fun i => b.testBit i).map fun (i : Nat) => (i : Int)
theorem mem_mks {b n : Nat} {x : Int} : x ∈ mks b n ↔ 0 ≤ x ∧ x ≤ n ∧ b.testBit x.toNat = true := by
  simp only [mks, List.mem_map, List.mem_filter, List.mem_range]
  constructor
  · rintro ⟨i, ⟨h, k⟩, rfl⟩
    exact ⟨by omega, by omega, by simpa using k⟩
  · rintro ⟨h0, h1, k⟩
    exact ⟨x.toNat, ⟨by omega, k⟩, by omega⟩
theorem mks_sorted (b n : Nat) : (mks b n).Pairwise (· < ·) := by
  unfold mks
  rw [List.pairwise_map]
  refine (List.pairwise_lt_range.filter _).imp fun {a c} h => ?_
  show (a : Int) < (c : Int)
  omega
/-- the bits of marks -/
def bitsOf : List Int → Nat
  | [] => 0
  | m :: l => bitsOf l ||| 2 ^ m.toNat
theorem tb_bitsOf {l : List Int} (h : ∀ m ∈ l, 0 ≤ m) (i : Nat) : (bitsOf l).testBit i = decide ((i : Int) ∈ l) := by
  induction l with
  | nil => simp [bitsOf]
  | cons m l ih =>
    unfold bitsOf
    rw [tb_or, tb_pow, ih fun x hx => h x (List.mem_cons_of_mem _ hx)]
    have := h m List.mem_cons_self
    rw [Bool.eq_iff_iff]
    simp only [Bool.or_eq_true, decide_eq_true_eq, List.mem_cons]
    constructor
    · rintro (q | q)
      · exact .inr q
      · left; omega
    · rintro (q | q)
      · right; omega
      · exact .inl q
end RL
end M_R39
section M_R40
namespace RL
open PySem PySem.Spec PyProof.Rows L2

/-! ### a kept field: what is worked out once and then kept -/
theorem putF_last {f : Str} {y w : V} : ∀ {N : List Str} {vs : List V}, N.Nodup → N[vs.length]? = some f → putF f y (N.zip (vs ++ [w])) = N.zip (vs ++ [y])
  | [], _, _, e => by simp at e
  | n :: N, [], _, e => by
    simp at e; subst e
    simp [putF]
  | n :: N, v :: vs, hN, e => by
    rw [List.nodup_cons] at hN
    have e' : N[vs.length]? = some f := by simpa using e
    have hne : n ≠ f := fun z => by
      subst z
      exact hN.1 (List.mem_of_getElem? e')
    have ih := putF_last (y := y) (w := w) hN.2 e'
    show putF f y ((n, v) :: N.zip (vs ++ [w])) = (n, v) :: N.zip (vs ++ [y])
    unfold putF
    rw [if_neg hne, ih]
theorem ints_rep {C : Pl} {F : Hp} : ∀ {ns : List Int} {vs : List V}, RepL C F (ns.map PV.int) vs → vs = ns.map V.int
  | [], _, h => by cases (show _ = [] from h); rfl
  | n :: ns, _, h => by
    obtain ⟨v, r, rfl, h2, h3⟩ := h
    cases (show v = .int n from h2)
    rw [ints_rep h3]; rfl
theorem rep_ints {C : Pl} {F : Hp} : ∀ (ns : List Int), RepL C F (ns.map PV.int) (ns.map V.int)
  | [] => rfl
  | n :: ns => ⟨_, _, rfl, rfl, rep_ints ns⟩
theorem pv_int_inj : ∀ {ns ms : List Int}, ns.map PV.int = ms.map PV.int → ns = ms
  | [], [], _ => rfl
  | [], _ :: _, h => by simp at h
  | _ :: _, [], h => by simp at h
  | n :: ns, m :: ms, h => by
    simp only [List.map_cons, List.cons.injEq, PV.int.injEq] at h
    rw [h.1, pv_int_inj h.2]
section
variable {C : Pl} {B : Bp} {ρ : REnv} {d : DSt} {σ : L2.St} {F H : Hp}
/-- a kept field is filled -/
theorem BG.fill (h : BG C B d F H) {a A dx : Addr} {fl : List Str} {g : List Int → List Int} {ns : List Int} {w : V} {p : Addr} (hk : C.kp A = some g) (hl : ns.length + 1 = fl.length)
    (e : F a = some (.ins A dx (fl.zip (ns.map V.int ++ [w])))) (hp : SqT C.K F p ((g ns).map V.int)) :
    BG C B d (upd F a (.ins A dx (fl.zip (ns.map V.int ++ [.ref p])))) (upd H a (.ins A dx (fl.zip (ns.map V.int ++ [.ref p])))) ∧ Sk C F (upd F a (.ins A dx (fl.zip (ns.map V.int ++ [.ref p])))) := by
  have ne : ∀ {b : Addr}, F b = none → b ≠ a := fun {b} z q => by rw [q, e] at z; cases z
  have sk : Sk C F (upd F a (.ins A dx (fl.zip (ns.map V.int ++ [.ref p])))) := fun b u q => by
    by_cases hb : b = a
    · subst hb
      rw [e] at q; cases q
      refine .inr ⟨A, dx, fl, g, ns, w, p, hk, hl, rfl, upd_same, ?_⟩
      rcases hp with (k | ⟨o, k⟩) | k
      · exact .inl (.inl (by show upd F b _ p = _; rw [upd_ne (fun z => by rw [z, e] at k; cases k)]; exact k))
      · exact .inl (.inr ⟨o, by rw [upd_ne (fun z => by rw [z, e] at k; cases k)]; exact k⟩)
      · exact .inr k
    · exact .inl (by rw [upd_ne hb]; exact q)
  refine ⟨⟨fun b u q => ?_, h.f0.trans sk, fun b u q => ?_, fun b u z q m => ?_, fun p' g' c q => ?_, h.ce, fun b q => ?_, fun p hp => ?_⟩, sk⟩
  · by_cases hb : b = a
    · subst hb; rw [upd_same] at q ⊢; exact q
    · rw [upd_ne hb] at q ⊢; exact h.fh b u q
  · by_cases hb : b = a
    · subst hb; exact h.nw b _ e
    · rw [upd_ne hb] at q; exact h.nw b u q
  · exact (h.od b u z q m).upd (ne (nn h.nw z q)) (nx_ins.at (h.fh _ _ e))
  · obtain ⟨h1, h2, h3, h4, h5⟩ := h.dr p' g' c q
    exact ⟨by rw [upd_ne (ne h4)]; exact h1, by rw [upd_ne (ne h5)]; exact h2, sk.seq h3, by rw [upd_ne (ne h4)]; exact h4, by rw [upd_ne (ne h5)]; exact h5⟩
  · obtain ⟨h1, o, h2⟩ := h.os b q
    exact ⟨by rw [upd_ne (ne h1)]; exact h1, o, by rw [upd_ne (ne h1)]; exact h2⟩
  · obtain ⟨t1, t2⟩ := h.tb p hp
    exact ⟨by rw [upd_ne (ne t1)]; exact t1, tabS_upd t2 (nx_ins.at (h.fh _ _ e))⟩
theorem BR.fill (b : BR C B ρ d σ F H) {a A dx : Addr} {fl : List Str} {g : List Int → List Int} {ns : List Int} {w : V} {p : Addr} (hk : C.kp A = some g) (hl : ns.length + 1 = fl.length)
    (e : F a = some (.ins A dx (fl.zip (ns.map V.int ++ [w])))) (hp : SqT C.K F p ((g ns).map V.int)) :
    BR C B ρ d σ (upd F a (.ins A dx (fl.zip (ns.map V.int ++ [.ref p])))) (upd H a (.ins A dx (fl.zip (ns.map V.int ++ [.ref p])))) := by
  obtain ⟨b2, sk⟩ := b.g.fill hk hl e hp
  have ne : ∀ {b : Addr}, F b = none → b ≠ a := fun {b} z q => by rw [q, e] at z; cases z
  refine ⟨b2, b.len, ?_⟩
  obtain ⟨ad, h1, h2⟩ := b.sl
  refine ⟨ad, fun i sl ei => ?_, h2⟩
  have q := h1 i sl ei
  have ow : ∀ {c : Addr}, Own B F c → Own B (upd F a (.ins A dx (fl.zip (ns.map V.int ++ [.ref p])))) c := fun {c} w => ⟨by rw [upd_ne (ne w.1)]; exact w.1, w.2⟩
  cases sl with
  | un => trivial
  | val x => obtain ⟨v, e, r⟩ := q; exact ⟨v, e, r.mono sk⟩
  | own l => obtain ⟨e, w, vs, k1, k2⟩ := q; exact ⟨e, ow w, vs, by rw [upd_ne (ne w.1)]; exact k1, k2.mono sk⟩
  | obj c xs => obtain ⟨e, w, A, dx, vs, k0, k1, kl, k2, k3⟩ := q; exact ⟨e, ow w, A, dx, vs, k0, by rw [upd_ne (ne w.1)]; exact k1, kl, k2.mono sk, k3⟩
  | dr => exact q
  | lam => exact q
end
/-- the class c keeps in its field f, the last one, what g makes of the others -/
structure KeptT (X : Cx) (C : Pl) (c : Nat) (f : Str) (g : List Int → List Int) : Prop where
  at_ : ∃ A, C.ad c = some A ∧ Cls X.K A ∧ NoAttr X.K A f ∧ C.kp A = some g
  nd : (C.fl c).Nodup
  ix : (C.fl c)[(C.fl c).length - 1]? = some f
  le : (C.fl c).length < 1000
def intsX : List PV → Option (List Int)
  | [] => some []
  | .int n :: xs => (intsX xs).map (n :: ·)
  | _ => none
theorem intsX_eq : ∀ {xs : List PV} {ns : List Int}, intsX xs = some ns → xs = ns.map PV.int
  | [], _, h => by cases h; rfl
  | .int n :: xs, _, h => by
    unfold intsX at h
    cases z : intsX xs with
    | none => rw [z] at h; cases h
    | some ms => rw [z] at h; cases h; rw [intsX_eq z]; rfl
  | .non :: _, _, h => nomatch h
  | .bl _ :: _, _, h => nomatch h
  | .str _ :: _, _, h => nomatch h
  | .ty _ :: _, _, h => nomatch h
  | .gl _ :: _, _, h => nomatch h
  | .emp :: _, _, h => nomatch h
  | .tup _ :: _, _, h => nomatch h
  | .lst _ :: _, _, h => nomatch h
  | .ins _ _ :: _, _, h => nomatch h
  | .exc _ _ :: _, _, h => nomatch h
/-- if self.f is None: self.f = e; return self.f -/
def sKept (i c : Nat) (g : List Int → List Int) (P : List Int → Bool) : SM := fun ρ d => match ρ[i]? with
  | some (.val (.ins c' xs)) => if c' = c then (match intsX xs with
    | some ns => if P ns = true then .rt (.tup ((g ns).map PV.int)) d else .no
    | none => .no) else .no
  | _ => .no
section
variable {X : Cx} {C : Pl} {B : Bp} {E : XS} {p1 p2 p3 p4 p5 p6 p7 p8 p9 p10 p11 : Pos} {e : Expr} {m : EM} {j : Nat}
theorem rss_kept (i : Nat) {c : Nat} {x f : Str} {g : List Int → List Int} (P : List Int → Bool) (hK : X.K = C.K) (hN : X.N[i]? = some x) (hv : Vis X.env.scope x) (T : KeptT X C c f g) (he : RE X C B E e m)
    (hm : ∀ ρ d ns, ρ[i]? = some (.val (.ins c (ns.map PV.int))) → P ns = true → m ρ d = .ok (.tup ((g ns).map PV.int)) d)
    (hb2 : attributeBase (.Name x p1) f X.env (eval (.Name x p1) X.env) = eval (.Name x p1) X.env) (hb9 : attributeBase (.Name x p9) f X.env (eval (.Name x p9) X.env) = eval (.Name x p9) X.env)
    (hs : swapsWith e (some (.Attribute (.Name x p5) f p6)) p7.line X.env = pure false) (hmk : behindInMarks .Is (.Constant .none j p3) = false := by rfl) (hd : (x == ("__debug__" : Str)) = false := by decide) (hcd : (x == ("__classdict__" : Str)) = false := by decide) :
    RSs X C B E [.If (.Compare (.Attribute (.Name x p1) f p2) [.Is] [.Constant .none j p3] p4) [.Assign [.Attribute (.Name x p5) f p6] e p7] [] p8, .Return (some (.Attribute (.Name x p9) f p10)) p11] (sKept i c g P) := by
  refine PSs.weak (pss_cons (ps_if (pt_cmpR op_isN (pe_fld (pe_var hN hv hd hcd) hb2) pe_non hmk) (pss_one (ps_fld (pe_var hN hv hd hcd) he hs)) pss_nil) (pss_one (ps_ret (pe_fld (pe_var hN hv hd hcd) hb9)))) fun D σ H h => ?_
  obtain ⟨F, ρ, d, b, h⟩ := h
  unfold sKept at h
  split at h
  · rename_i c' xs ei
    split at h
    · rename_i hc
      subst hc
      split at h
      · rename_i ns en
        split at h
        · rename_i hP
          have ex := intsX_eq en
          subst ex
          obtain ⟨A, eA, cl, na, hk⟩ := T.at_
          obtain ⟨ad, h1, _⟩ := b.sl
          obtain ⟨v, eσ, rv⟩ := h1 i _ ei
          have op : ∀ {F2 : Hp} {u : V}, Rep C F2 (.ins c' (ns.map PV.int)) u → ∃ a dx w, u = .ref a ∧ F2 a = some (.ins A dx ((C.fl c').zip (ns.map V.int ++ [w]))) ∧ ns.length + 1 = (C.fl c').length ∧ (w = .non ∨ ∃ p, w = .ref p ∧ SqT C.K F2 p ((g ns).map V.int)) := fun {F2 u} r => by
            obtain ⟨a, A', dx, vs, rfl, eA', f1, l1, q1⟩ := r
            rw [eA] at eA'; cases eA'
            rw [hk] at q1
            obtain ⟨ms, w, e1, rfl, e3⟩ := q1
            have := pv_int_inj e1
            subst this
            exact ⟨a, dx, w, rfl, f1, by rw [← l1]; simp, e3⟩
          obtain ⟨a, dx, w, rfl, f1, hl, hw⟩ := op rv
          have hix : (C.fl c')[(ns.map V.int).length]? = some f := by
            have := T.ix
            rw [← hl] at this
            simpa using this
          have lk : ∀ w : V, ((C.fl c').zip (ns.map V.int ++ [w])).lookup f = some w := fun w => lookup_zip T.nd hix (by rw [List.getElem?_append_right (Nat.le_refl _)]; simp)
          refine ⟨.ref a, eσ, a, A, dx, _, w, rfl, b.g.fh _ _ f1, cl, na, lk w, rfl, decide (w = .non), rfl, ?_⟩
          rcases hw with rfl | ⟨p, rfl, hp⟩
          · rw [if_pos (by simp)]
            refine ⟨F, ρ, d, b, ?_⟩
            rw [hm ρ d ns ei hP]
            intro F1 H1 v b1 g1 r1
            obtain ⟨p, ws, rfl, q1, q2⟩ := r1
            have ews := ints_rep q2
            subst ews
            obtain ⟨a', dx', w', ea, f2, _, _⟩ := op (rv.mono g1.s)
            cases ea
            have B1 := b.go b1 g1
            obtain ⟨_, sk⟩ := b1.fill hk hl f2 q1
            have B2 := B1.fill hk hl f2 q1
            have r2 : Rep C (upd F1 a (.ins A dx' ((C.fl c').zip (ns.map V.int ++ [.ref p])))) (.tup ((g ns).map PV.int)) (.ref p) := ⟨p, _, rfl, sk.sqT q1, rep_ints _⟩
            refine ⟨.ref a, eσ, a, A, dx', _, rfl, b1.fh _ _ f2, cl, na, ?_, ?_⟩
            · rw [List.length_zip]
              have := T.le
              omega
            · rw [putF_last T.nd hix]
              exact ⟨.ref a, eσ, a, A, dx', _, .ref p, rfl, upd_same, cl, na, lk _, h ρ σ _ _ _ B2 (g1.s.trans sk) r2⟩
          · rw [if_neg (by simp)]
            exact ⟨.ref a, eσ, a, A, dx, _, .ref p, rfl, b.g.fh _ _ f1, cl, na, lk _, h ρ σ F H _ b (Sk.refl _ _) ⟨p, _, rfl, hp, rep_ints _⟩⟩
        · exact h.elim
      · exact h.elim
    · exact h.elim
  · exact h.elim
end
end RL
end M_R40
section M_R43
namespace RL
open PySem PySem.Spec PyProof.Rows L2

/-! ### x.extend(e), e a new list -/
section
variable {X : Cx} {C : Pl} {B : Bp} {E : XS} {pos : Pos} {e : Expr} {ms : AM}
def sExt (i : Nat) (ms : AM) : SM := fun ρ d => match ρ[i]? with
  | some (.own l) => match ms ρ d with
    | .ok ys d' => if l.length < LIM ∧ ys.length < LIM then .nx (ρ.set i (.own (l ++ ys))) d' else .no
    | .ex e d' => .ex e d'
    | .no => .no
  | _ => .no
theorem rs_ext (i : Nat) {x : Str} {p1 p2 p3 : Pos} (hN : X.N[i]? = some x) (hv : Vis X.env.scope x) (he : RFr X C B E e ms)
    (hbase : attributeBase (.Name x p1) "extend" X.env (eval (.Name x p1) X.env) = eval (.Name x p1) X.env := by rfl)
    (hfew : ((backTo p3 (starEach (e :: []) X.env)).all (fun x => !x.1) && (backToKw p3 (keywordEach [] X.env)).all (fun x => x.1.isSome)
      && decide ((e :: ([] : List Expr)).length + ([] : List Keyword).length + (if ([] : List Keyword).isEmpty then 0 else 1) < 30)) = true := by rfl)
    (hline : (p2.endLine == p3.line) = true := by rfl) (hs : starEach (e :: []) X.env = (false, eval e X.env) :: starEach [] X.env := by rfl) (hplain : (backTo p3 (starEach [] X.env)).any (·.1) = false := by rfl)
    (hd : (x == ("__debug__" : Str)) = false := by decide) (hcd : (x == ("__classdict__" : Str)) = false := by decide)
    (hsw : swapsWith (.Call (.Attribute (.Name x p1) "extend" p2) [e] [] p3) none pos.line X.env = pure false := by rfl) :
    RSt X C B E (.Expr (.Call (.Attribute (.Name x p1) "extend" p2) [e] [] p3) pos) (sExt i ms) := by
  refine PS.weak (ps_expr (pe_bm PySem.F.plainAttrs_list PySem.F.slot_list_extend PySem.F.type_list_extend mt_extend (pe_var hN hv hd hcd) (pa_cons he pa_nil hs) hbase hfew hline hs hplain) hsw) fun D σ H h => ?_
  obtain ⟨F, ρ, d, b, h⟩ := h
  unfold sExt at h
  split at h
  · rename_i l el
    obtain ⟨a, vs, e1, e2, r, k⟩ := b.put el
    refine ⟨.ref a, e1, .inl ⟨rfl, vs, SqL.of e2⟩, F, ρ, d, b, ?_⟩
    revert h
    cases ms ρ d with
    | ok ys d' =>
      intro h F' H' p ws b' g hp ep fp rv
      have h' : tKS C B E (if l.length < LIM ∧ ys.length < LIM then .nx (ρ.set i (.own (l ++ ys))) d' else .no) F H D := h
      split at h'
      · rename_i hl
        obtain ⟨vs', e3, r3, k3⟩ := b.own_later b' g el e1
        refine ⟨a, p, vs', ws, rfl, rfl, e3, ep, ?_, h' σ F' _ (k3 _ _ (r3.append rv)) g.s⟩
        rw [← r3.length, ← rv.length]
        have h1 : LIM + LIM ≤ sizeLine := by rw [sizeLine_eq]; decide
        omega
      · exact h'.elim
    | ex e d' => exact fun h _ _ _ _ b _ r => h _ _ _ _ _ b r
    | no => exact fun h => h
  · exact h.elim
end
end RL
end M_R43
section M_R44
namespace RL
open PySem PySem.Spec PyProof.Rows L2

/-! ### objects whose fields are set, not yet frozen; what they are once frozen -/
def keptOf : List PV → Option (List Int)
  | [.non] => some []
  | .int n :: zs => (keptOf zs).map (n :: ·)
  | _ => none
theorem keptOf_eq : ∀ {zs : List PV} {ns : List Int}, keptOf zs = some ns → zs = ns.map PV.int ++ [.non] := by
  intro zs
  induction zs with
  | nil => intro ns h; cases h
  | cons z zs ih =>
    intro ns h
    cases z <;> unfold keptOf at h
    case non =>
      split at h
      · rename_i e; injection e with _ e2; subst e2; cases h; rfl
      · rename_i e; cases e
      · cases h
    case int n =>
      cases q : keptOf zs with
      | none => rw [q] at h; cases h
      | some ms => rw [q] at h; cases h; rw [ih q]; rfl
    all_goals first | (cases h; done) | (split at h <;> first | (cases h; done) | (rename_i e; cases e; done))
/-- the fields of a frozen object (kp: with a kept field) -/
def fzF (kp : Bool) (zs : List PV) : Option (List PV) := if kp then (keptOf zs).map fun ns => ns.map PV.int else some zs
/-- a class's call: its object frozen -/
def mkF (c : Nat) (kp : Bool) (fn : PFn) : PFn := fun xs => match fn xs with
  | .ok (.ins c' zs) => if c' = c then (match fzF kp zs with
    | some ys => .ok (.ins c ys)
    | none => .no) else .no
  | .ok _ => .no
  | .ex e => .ex e
  | .no => .no
/-- how a class keeps its last field -/
def FzT (C : Pl) (c : Nat) (kp : Bool) : Prop := ∀ A, C.ad c = some A → (kp = false → C.kp A = none) ∧ (kp = true → ∃ g, C.kp A = some g)
def spU (C : Pl) (c : Nat) (fn : PFn) : Sp := fun ws H Q E => ∃ x A dx vs F xs, ws = V.ref x :: vs ∧ C.ad c = some A ∧ H x = some (.ins A dx []) ∧ F x = none ∧ Same F H ∧ TbOk C F H ∧ RepL C F xs vs ∧ match fn xs with
  | .ok y => ∃ zs : List PV, y = .ins c zs ∧ zs.length = (C.fl c).length ∧ ∀ F' H' dx' us, GrowI C x F H F' H' → F' x = none → RepL C F' zs us → H' x = some (.ins A dx' ((C.fl c).zip us)) → Q .non H'
  | .ex e => ∀ F' H' cls d, GrowI C x F H F' H' → ExR C F' e cls d → E cls d H'
  | .no => False
theorem repN {C : Pl} {F : Hp} : ∀ {ns : List Int} {vs : List V}, RepL C F (ns.map PV.int ++ [.non]) vs → vs = ns.map V.int ++ [.non]
  | [], _, h => by
    obtain ⟨v, r, rfl, h2, h3⟩ := h
    cases (show v = .non from h2); cases (show r = [] from h3); rfl
  | n :: ns, _, h => by
    obtain ⟨v, r, rfl, h2, h3⟩ := h
    cases (show v = .int n from h2)
    rw [repN h3]; rfl
theorem fz_rep {C : Pl} {F : Hp} {c : Nat} {kp : Bool} {A x dx : Addr} {zs ys : List PV} {us : List V} (T : FzT C c kp) (ha : C.ad c = some A) (hl : zs.length = (C.fl c).length) (fx : F x = none) (r : RepL C F zs us) (e : fzF kp zs = some ys) :
    Rep C (upd F x (.ins A dx ((C.fl c).zip us))) (.ins c ys) (.ref x) := by
  have sk : Sk C F (upd F x (.ins A dx ((C.fl c).zip us))) := Same.k (same_upd fx)
  obtain ⟨h1, h2⟩ := T A ha
  refine ⟨x, A, dx, us, rfl, ha, upd_same, by rw [← r.length]; exact hl, ?_⟩
  cases kp with
  | false =>
    rw [h1 rfl]
    cases e
    exact r.mono sk
  | true =>
    obtain ⟨g, hg⟩ := h2 rfl
    rw [hg]
    unfold fzF at e
    rw [if_pos rfl] at e
    cases q : keptOf zs with
    | none => rw [q] at e; cases e
    | some ns =>
      rw [q] at e; cases e
      rw [keptOf_eq q] at r
      exact ⟨ns, .non, rfl, repN r, .inl rfl⟩
theorem BR.endU {C : Pl} {F0 H0 F H : Hp} {x : Addr} {d : DSt} {ρ : REnv} {σ : L2.St} {c : Nat} {zs : List PV} {A : Addr} (b : BR C ⟨F0, H0, none, some x, []⟩ ρ d σ F H) (eA : C.ad c = some A) (e : ρ[0]? = some (.obj c zs)) :
    GrowI C x F0 H0 F H ∧ F x = none ∧ ∃ dx us, RepL C F zs us ∧ H x = some (.ins A dx ((C.fl c).zip us)) := by
  obtain ⟨ad, h1, _⟩ := b.sl
  obtain ⟨_, w, A', dx, vs, k0, k1, kl, k2, k3⟩ := h1 0 _ e
  cases k3
  rw [eA] at k0; cases k0
  exact ⟨b.g.endI, w.1, dx, vs, k2, k1⟩
section
variable {P : Program} {w : World} {K : PySem.W.Frag} {mg : Str → Option Value} {base : Heap} {C : Pl}
theorem def_iniU {x qual : Str} {st : Stmt} {f : Addr} {fd : FuncData} {N ps : List Str} {k c : Nat} {m : SM} {b : Bk} {bp : BkP} (F : Fun K x qual st f fd) (S : FnScope N ps (defScope st)) (bd : BdOk K fd ps b) (hR : BkR C b bp) 
    (hb : ∀ (cdv : Value) (A : Around) (outer : List Env) (s : Shared) (H : Hp) (E : XK) (F0 : Hp) (x : Addr), RmG k (A.deeper (envOfC qual (defScope st) s.heap.objs.size f cdv)) →
      RSs (cxOf (L2.CX P w) P w K mg base N qual (defScope st) f cdv A outer s H E) C ⟨F0, H, none, some x, []⟩ (fun _ => E) (defBody st) m) :
    FnG P w K mg base (k + 1) f (spU C c (fnI bp c (C.fl c).length ps.length N.length m)) := by
  have hpl : ps.length ≤ N.length := by have := congrArg List.length S.pre; rw [List.length_take] at this; omega
  obtain ⟨oc, od, kV, doc, pm, an, cdv, ct, osl, rfl, lk, hcd⟩ := F.ex
  intro A outer s H us vs0 Q E hr e0 r h
  obtain ⟨x, A', dx, vs, F0, xs, rfl, ha, hx, fx, fh, tb, rp, h⟩ := h
  cases eb : bp.bI ps.length xs with
  | none => unfold fnI at h; simp only [eb] at h
  | some ys =>
    have hxs := rp.length
    have hl : ys.length + 1 = ps.length ∧ b.c ps.length (V.ref x :: vs).length ∧ ∀ ws H2, b.G (V.ref x :: vs) H ws H2 → ∃ ws', ws = .ref x :: ws' ∧ ∃ F2, Grow C F0 H F2 H2 ∧ F2 x = none ∧ RepL C F2 ys ws' := by
      cases b with
      | pl dvs => cases bp with
        | pl d =>
          simp only [BkP.bI] at eb; split at eb
          · rename_i hc
            cases eb
            have hd := (hR F0).length
            refine ⟨by rw [List.length_append]; omega, by show _ + _ = _; rw [← hd, List.length_cons, ← hxs]; exact hc, fun ws H2 g => ?_⟩
            obtain ⟨rfl, rfl⟩ := g
            exact ⟨vs ++ dvs, rfl, F0, ⟨Sk.refl _ _, fh, Same.u (Same.refl _), fun a o q => .inl ⟨o, q⟩⟩, fx, rp.append (hR F0)⟩
          · cases eb
        | st n => exact hR.elim
      | st n => cases bp with
        | pl d => exact hR.elim
        | st m' =>
          cases hR
          simp only [BkP.bI] at eb; split at eb
          · rename_i hc
            cases eb
            obtain ⟨n, rfl⟩ : ∃ j, n = j + 1 := ⟨n - 1, by omega⟩
            refine ⟨by simp; omega, ⟨hc.1, by rw [List.length_cons, ← hxs]; exact hc.2.2.1, by have := lim_le hc.2.2.2; rw [List.length_cons, ← hxs]; omega⟩, fun ws H2 g => ?_⟩
            obtain ⟨p, hp, rfl, rfl⟩ := g
            have fp := fh.free hp
            have hpx : x ≠ p := fun z => by subst z; rw [hx] at hp; cases hp
            simp only [Nat.add_sub_cancel]
            refine ⟨vs.take n ++ [.ref p], rfl, upd F0 p (.tup (vs.drop n)), ⟨Same.k (same_upd fp), fun b u e => ?_, Same.u (same_upd hp), fun a u e => ?_⟩, by rw [upd_ne hpx]; exact fx, ((rp.take n).mono (Same.k (same_upd fp))).append ⟨_, _, rfl, rep_tup fp (rp.drop n), rfl⟩⟩
            · by_cases hb : b = p
              · subst hb; rw [upd_same] at e; simp only [List.drop_succ_cons]; rw [upd_same]; exact e
              · rw [upd_ne hb] at e ⊢; exact fh _ _ e
            · by_cases hb : a = p
              · subst hb; exact .inr hp
              · rw [upd_ne hb] at e; exact .inl ⟨u, e⟩
          · cases eb
    obtain ⟨hl, hc, hg⟩ := hl
    refine StX.run_bnd lk hcd S hr.r e0 (bd e0 r hc) fun s2 H2 ws g hr2 => ?_
    obtain ⟨ws', rfl, F2, gr, fx2, r2⟩ := hg ws H2 g
    have hn : ys.length + 1 ≤ N.length := by omega
    refine ⟨_, hb cdv A outer s2 H2 E F2 x ⟨hr2, hr.g⟩, F2, _, default, BR.startI gr.f (gr.tb tb) r2 hn ha (gr.h _ _ fx hx) fx2, ?_⟩
    unfold fnI runI at h
    simp only [eb] at h
    revert h
    cases m (startG (.obj c [] :: ys.map .val) N.length) default with
    | nx ρ' d' =>
      cases q : endI c (C.fl c).length ρ' with
      | ok y =>
        obtain ⟨zs, ez, hz, rfl⟩ := endI_ok q
        simp only [q]
        rintro ⟨ms, em, _, h⟩ σ' F' H' b s'
        injection em with _ em
        subst em
        obtain ⟨g3, f3, dx3, us3, r3, h3⟩ := b.endU ha ez
        exact h F' H' dx3 us3 (g3.pre fh gr) f3 r3 h3
      | ex e => exact (endI_ex q).elim
      | no => simp only [q]; exact fun h => h.elim
    | rt x d' => exact fun h => h.elim
    | bk ρ' d' => exact fun h => h.elim
    | ct ρ' d' => exact fun h => h.elim
    | ex e d' => exact fun h _ F' H' cls dd b r => h F' H' cls dd (b.endI.pre fh gr) r
    | no => exact fun h => h
end
section
variable {X : Cx} {C : Pl} {E : XS} {k c : Nat} {f A : Addr} {fn : PFn}
/-- a class called, its object not yet frozen -/
theorem runU_mk (M : Mk X.K A f) (ha : C.ad c = some A) (G : FnG X.prog X.w X.K X.mg X.base k f (spU C c fn)) (hr : RmG (k + 1) X.A) (tk : Tk X E) {B : Bp} {d : DSt} {σ : L2.St} {F H : Hp} {pins : List (Addr × Obj)} {s : Shared} {Q : VK} {us : List Value} {vs : List V} {xs : List PV}
    (I : Inv X pins σ H s) (r : Vals vs us) (b : BG C B d F H) (rp : RepL C F xs vs)
    (h : match fn xs with
      | .ok y => ∃ zs : List PV, y = .ins c zs ∧ zs.length = (C.fl c).length ∧ ∀ F' H' x dx us, BG C B d F' H' → Go C B F H F' H' → H x = none → F' x = none → RepL C F' zs us → H' x = some (.ins A dx ((C.fl c).zip us)) → Q (.ref x) H'
      | .ex e => ∀ F' H' cls dd, BG C B d F' H' → Go C B F H F' H' → ExR C F' e cls dd → E σ cls dd H'
      | .no => False) : wpAny (model X.prog X.w) X.A (call (.ref A) us) (EP X pins σ Q) X.xe s := by
  have n1 : H (s.heap.objs.size + 1) = Option.none := I.hok.fresh (Nat.le_succ _)
  have n2 : H s.heap.objs.size = Option.none := I.hok.fresh (Nat.le_refl _)
  have ne : s.heap.objs.size ≠ s.heap.objs.size + 1 := Nat.ne_of_lt (Nat.lt_succ_self _)
  have I2 := Inv.made (C := A) I
  have r2 : Vals (V.ref (s.heap.objs.size + 1) :: vs) (Value.ref (s.heap.objs.size + 1) :: us) := .cons rfl r
  have keep : ∀ a o, H a = some o → a ≠ s.heap.objs.size + 1 ∧ (upd (upd H s.heap.objs.size (.own (s.heap.objs.size + 1))) (s.heap.objs.size + 1) (.ins A s.heap.objs.size [])) a = some o := fun a o e => by
    have h1 : a ≠ s.heap.objs.size + 1 := fun z => by rw [z, n1] at e; cases e
    have h2 : a ≠ s.heap.objs.size := fun z => by rw [z, n2] at e; cases e
    exact ⟨h1, by rw [upd_ne h1, upd_ne h2]; exact e⟩
  have gr : ∀ {F' H' : Hp}, GrowI C (s.heap.objs.size + 1) F (upd (upd H s.heap.objs.size (.own (s.heap.objs.size + 1))) (s.heap.objs.size + 1) (.ins A s.heap.objs.size [])) F' H' → Grow C F H F' H' := fun {F' H'} g => ⟨g.s, g.f, fun a o f e => (Kp.all (fun c u z => (keep c u z).2) e).trans fun o1 e1 => g.h a o1 (keep a o e).1 f e1, fun a o e => by
    rcases g.n a o e with q | q | q
    · exact .inl q
    · cases e0 : H a with
      | none => exact .inr rfl
      | some u => rw [(keep a u e0).2] at q; cases q
    · subst q; exact .inr n1⟩
  have hq : spU C c fn (V.ref (s.heap.objs.size + 1) :: vs) (upd (upd H s.heap.objs.size (.own (s.heap.objs.size + 1))) (s.heap.objs.size + 1) (.ins A s.heap.objs.size [])) (fun v H2 => v = .non ∧ Q (.ref (s.heap.objs.size + 1)) H2) (E σ) := by
    refine ⟨_, A, s.heap.objs.size, vs, F, xs, rfl, ha, upd_same, b.fh.free n1, fun a o e => (keep a o (b.fh a o e)).2, fun p hp => ⟨(b.tb p hp).1, (b.tb p hp).2.ext fun c u z => (keep c u z).2⟩, rp, ?_⟩
    revert h
    cases fn xs with
    | ok y => exact fun ⟨ns, ey, hl, h⟩ => ⟨ns, ey, hl, fun F' H' dx us g fx ru hx => ⟨rfl, h F' H' _ dx us (b.grow (gr g).s (gr g).f (gr g).h (gr g).n) (.of b.fh (gr g).s (gr g).f (gr g).h (gr g).n) n1 fx ru hx⟩⟩
    | ex e => exact fun h F' H' cls dd g rv => h F' H' cls dd (b.grow (gr g).s (gr g).f (gr g).h (gr g).n) (.of b.fh (gr g).s (gr g).f (gr g).h (gr g).n) rv
    | no => exact fun h => h
  refine wpAny_call (make_map (f := f) I.kIn M.makes M.init (beq_iff_eq.mp M.fn) (codeAny_mono (G _ X.stack _ _ (Value.ref (s.heap.objs.size + 1) :: us) _ _ (E σ) (hr.make A us []) (I2.env0.make A us []) r2 hq) fun r s' hq' => ?_))
  cases r with
  | error e => exact tk e s' (XE.of_call I2 (fun _ _ _ h => h) hq')
  | ok fl =>
    cases fl with
    | ret u =>
      obtain ⟨v, H', I3, rv, ev, q3⟩ := I2.after hq'
      subst ev
      exact ⟨rv, ⟨V.ref (s.heap.objs.size + 1), H', I3, rfl, q3⟩⟩
    | next => exact False.elim hq'
    | brk => exact False.elim hq'
    | cont => exact False.elim hq'
/-- the same, the object frozen -/
theorem runC_mkU {kp : Bool} (M : Mk X.K A f) (ha : C.ad c = some A) (T : FzT C c kp) (G : FnG X.prog X.w X.K X.mg X.base k f (spU C c fn)) (hw : ∀ xs y, fn xs = .ok y → ∃ zs : List PV, y = .ins c zs ∧ zs.length = (C.fl c).length) (hr : RmG (k + 1) X.A) (tk : Tk X E) : RunC X C E (.ref A) (mkF c kp fn) := by
  intro B d σ F H pins s Q us vs xs I r b rp h
  refine runU_mk M ha G hr tk I r b rp ?_
  revert h
  unfold mkF
  cases q : fn xs with
  | ok y =>
    obtain ⟨zs, rfl, hl⟩ := hw xs y q
    dsimp only
    rw [if_pos rfl]
    cases ef : fzF kp zs with
    | none => exact fun h => h.elim
    | some ys =>
      intro h
      refine ⟨zs, rfl, hl, fun F' H' x dx us' b' g' hx fx ru h' => ?_⟩
      obtain ⟨b2, s2⟩ := b'.freeze (b.own hx fx) (b.not_so hx) h'
      refine h _ H' (.ref x) b2 ⟨g'.s.trans s2, g'.k, g'.t, fun a o z => ?_⟩ (fz_rep T ha hl fx ru ef)
      by_cases ha : a = x
      · subst ha; exact .inr hx
      · rw [upd_ne ha] at z; exact g'.n a o z
  | ex e => exact fun h => h
  | no => exact fun h => h
end
/-! ### an object made, one of its fields written, and returned -/
theorem putF_at {f : Str} {y : V} : ∀ {N : List Str} {vs : List V} {n : Nat}, N.Nodup → N[n]? = some f → n < vs.length → putF f y (N.zip vs) = N.zip (vs.set n y)
  | [], _, _, _, e, _ => by simp at e
  | _ :: _, [], _, _, _, h => by simp at h
  | m :: N, v :: vs, 0, _, e, _ => by
    simp at e; subst e
    simp [putF]
  | m :: N, v :: vs, n + 1, hN, e, h => by
    rw [List.nodup_cons] at hN
    have e' : N[n]? = some f := by simpa using e
    have hne : m ≠ f := fun z => by
      subst z
      exact hN.1 (List.mem_of_getElem? e')
    have ih := putF_at (y := y) hN.2 e' (by simpa using h)
    show putF f y ((m, v) :: N.zip vs) = (m, v) :: N.zip (vs.set n y)
    unfold putF
    rw [if_neg hne, ih]
/-- what is wanted of a class's call whose object is not yet frozen -/
def wU (C : Pl) (B : Bp) (E : XK) (c : Nat) (A : Addr) (o : O) (d : DSt) (F H : Hp) (Q : VK) : Prop := match o with
  | .ok y => ∃ zs : List PV, y = .ins c zs ∧ zs.length = (C.fl c).length ∧ ∀ F' H' x dx us, BG C B d F' H' → Go C B F H F' H' → H x = none → F' x = none → RepL C F' zs us → H' x = some (.ins A dx ((C.fl c).zip us)) → Q (.ref x) H'
  | .ex e => ∀ F' H' cls dd, BG C B d F' H' → Go C B F H F' H' → ExR C F' e cls dd → E cls dd H'
  | .no => False
def tNewU (C : Pl) (B : Bp) (E : XS) (c : Nat) (A : Addr) (fn : PFn) (ms : AM) : TE := fun σ H Q => tR C B E (RepL C) ms σ H fun vs H1 => ∃ F1 d1 xs, BG C B d1 F1 H1 ∧ RepL C F1 xs vs ∧ wU C B (E σ) c A (fn xs) d1 F1 H1 Q
section
variable {X : Cx} {C : Pl} {B : Bp} {E : XS} {k c : Nat} {f A : Addr} {fn : PFn} {ms : AM} {a : Expr} {es : List Expr} {x : Str} {p pos : Pos}
theorem pe_newU (M : Mk X.K A f) (ha : C.ad c = some A) (G : FnG X.prog X.w X.K X.mg X.base k f (spU C c fn)) (hr : RmG (k + 1) X.A) (tk : Tk X E) (hg : Gl X x) (hm : X.mg x = some (.ref A)) (hk : PySem.W.keepIn X.K (.ref A) = true)
    (hA : RA X C B E (a :: es) ms) (hdb : (x == ("__debug__" : Str)) = false := by decide) (he : starEach (a :: es) X.env = (false, eval a X.env) :: starEach es X.env := by rfl) (hpl : (backTo pos (starEach es X.env)).any (·.1) = false := by rfl) :
    PE X (.Call (.Name x p) (a :: es) [] pos) (tNewU C B E c A fn ms) := by
  refine ⟨fun pins s σ H Q I h => ?_⟩
  refine wpAny_Call_Name_kw (ld_glob I hg hm ?_ hdb)
  refine PySem.W.callWith_K (h₀ := X.base) I.ok.mod.kin hk (thn (hA.run pos pins s σ H _ I h) fun us s1 ⟨vs, H1, I1, r, q⟩ => ⟨I1.kIn, ?_⟩) he hpl
  obtain ⟨F1, d1, xs, b1, r1, k1⟩ := q
  exact runU_mk M ha G hr tk I1 r b1 r1 k1
/-- y = c(..); y.f = e; return y: slot j, field n -/
def sWith (j c n : Nat) (kp : Bool) (fn : PFn) (ms : AM) (me : EM) : SM := fun ρ d => match ms ρ d with
  | .ok xs d1 => (match fn xs with
    | .ok (.ins c' zs) => if c' = c ∧ n < zs.length ∧ j < ρ.length then (match me (ρ.set j .un) d1 with
      | .ok v d2 => (match fzF kp (zs.set n v) with
        | some ys => .rt (.ins c ys) d2
        | none => .no)
      | _ => .no) else .no
    | .ok _ => .no
    | .ex e => .ex e d1
    | .no => .no)
  | .ex e d1 => .ex e d1
  | .no => .no
structure FieldT (X : Cx) (C : Pl) (c : Nat) : Prop where
  at_ : ∃ A, C.ad c = some A ∧ Cls X.K A
  nd : (C.fl c).Nodup
  le : (C.fl c).length < 1000
theorem rss_with (j : Nat) {n : Nat} {kp : Bool} {y : Str} {e : Expr} {me : EM} {q1 p2 p5 p6 p7 p9 p10 : Pos} (M : Mk X.K A f) (T : FieldT X C c) (TZ : FzT C c kp) (ha : C.ad c = some A) (G : FnG X.prog X.w X.K X.mg X.base k f (spU C c fn)) (hw : ∀ xs y, fn xs = .ok y → ∃ zs : List PV, y = .ins c zs ∧ zs.length = (C.fl c).length) (hr : RmG (k + 1) X.A) (tk : Tk X E) (hg : Gl X x) (hm : X.mg x = some (.ref A)) (hk : PySem.W.keepIn X.K (.ref A) = true)
    {fb : Str} (hf0 : (C.fl c)[n]? = some fb) (nb : NoAttr X.K A fb)
    (hA : RA X C B E (a :: es) ms) (he : RE X C B E e me) (hNd : X.N.Nodup) (hN : X.N[j]? = some y) (hx : Loc X.env.scope y) (hv : Vis X.env.scope y)
    (hs1 : swapsWith (.Call (.Name x p) (a :: es) [] pos) (some (.Name y q1)) p2.line X.env = pure false) (hs2 : swapsWith e (some (.Attribute (.Name y p5) fb p6)) p7.line X.env = pure false)
    (hfn : X.fn y = true ∨ X.env.scope.names.lookup y = some .local) (hdb : (x == ("__debug__" : Str)) = false := by decide) (hd : (y == ("__debug__" : Str)) = false := by decide) (hcd : (y == ("__classdict__" : Str)) = false := by decide)
    (hst : starEach (a :: es) X.env = (false, eval a X.env) :: starEach es X.env := by rfl) (hpl : (backTo pos (starEach es X.env)).any (·.1) = false := by rfl) :
    RSs X C B E [.Assign [.Name y q1] (.Call (.Name x p) (a :: es) [] pos) p2, .Assign [.Attribute (.Name y p5) fb p6] e p7, .Return (some (.Name y p9)) p10] (sWith j c n kp fn ms me) := by
  refine PSs.weak (pss_cons (ps_set hNd hN hx (pe_newU M ha G hr tk hg hm hk hA hdb hst hpl) hs1 hfn) (pss_cons (ps_fld (pe_var hN hv hd hcd) he hs2) (pss_one (ps_ret (pe_var hN hv hd hcd))))) fun D σ H h => ?_
  obtain ⟨F, ρ, d, b, h⟩ := h
  obtain ⟨A', eA', cl⟩ := T.at_
  rw [ha] at eA'; cases eA'
  refine ⟨F, ρ, d, b, ?_⟩
  unfold sWith at h
  revert h
  cases ms ρ d with
  | ex e' d' => exact fun h _ _ _ _ b _ r => h _ _ _ _ _ b r
  | no => exact fun h => h
  | ok xs d1 =>
    intro h F1 H1 vs b1 g1 r1
    refine ⟨F1, d1, xs, b1, r1, ?_⟩
    have B1 := b.go b1 g1
    revert h
    dsimp only
    cases efn : fn xs with
    | ex e' => exact fun h _ _ _ _ b _ r => h _ _ _ _ _ b r
    | no => exact fun h => h
    | ok y' =>
      cases y' with
      | ins c' zs =>
        dsimp only
        intro h
        split at h
        · rename_i hc
          obtain ⟨rfl, hn, hj⟩ := hc
          by_cases hl : zs.length = (C.fl c').length
          · refine ⟨zs, rfl, hl, fun F' H' x0 dx us b' g' hx0 fx ru hX => ?_⟩
            have nds : ¬ B.ds x0 := (b1.own hx0 fx).2.2
            have hjl : j < σ.length := by
              rw [b.len]; exact hj
            have eσ : (σ.set j (some (V.ref x0)))[j]? = some (some (V.ref x0)) := List.getElem?_set_self hjl
            have B2 : BR C B (ρ.set j .un) d1 (σ.set j (some (.ref x0))) F' H' := (B1.go b' g').un
            refine ⟨F', ρ.set j .un, d1, B2, ?_⟩
            revert h
            cases me (ρ.set j .un) d1 with
            | ex e' d' => exact fun h => h.elim
            | no => exact fun h => h.elim
            | ok yv d2 =>
              dsimp only
              cases ef : fzF kp (zs.set n yv) with
              | none => exact fun h => h.elim
              | some ys =>
                dsimp only
                intro h F2 H2 v' b2 g2 r2
                have hX2 := g2.k x0 _ fx hX nds
                have fx2 : F2 x0 = none := nn g2.n fx hX
                have w2 : Own B F2 x0 := ⟨fx2, (b1.own hx0 fx).2.1, nds⟩
                have hul := ru.length
                refine ⟨.ref x0, eσ, x0, A, dx, _, rfl, hX2, cl, nb, ?_, ?_⟩
                · rw [List.length_zip]
                  have := T.le
                  omega
                · rw [putF_at T.nd hf0 (by omega)]
                  have ru2 : RepL C F2 (zs.set n yv) (us.set n v') := (ru.mono g2.s).set r2 n
                  have b3 := b2.write (o := .ins A dx ((C.fl c').zip (us.set n v'))) w2 (nx_ins.at hX2)
                  obtain ⟨b4, s4⟩ := b3.freeze w2 (b1.not_so hx0) upd_same
                  refine ⟨.ref x0, eσ, h (List.replicate (σ.set j (some (.ref x0))).length .un) (σ.set j (some (V.ref x0))) _ _ _ ⟨b4, by simp, fun _ => 0, fun i s ei => ?_, fun i l s t e1 _ o1 _ _ => ?_⟩ (((g1.s.trans g'.s).trans g2.s).trans s4) ?_⟩
                  · rw [List.getElem?_replicate] at ei
                    split at ei
                    · cases ei; trivial
                    · cases ei
                  · rw [List.getElem?_replicate] at e1
                    split at e1
                    · cases e1; cases o1
                    · cases e1
                  · exact fz_rep TZ ha (by rw [List.length_set]; exact hl) fx2 ru2 ef
          · exact absurd (hw _ _ efn) (by
              rintro ⟨zs', e1, e2⟩
              cases e1
              exact hl e2)
        · exact h.elim
      | _ => exact fun h => h.elim
theorem fnI_ok {b : BkP} {c len np nn : Nat} {m : SM} {xs : List PV} {y : PV} (h : fnI b c len np nn m xs = .ok y) : ∃ zs : List PV, y = .ins c zs ∧ zs.length = len := by
  unfold fnI at h
  split at h
  · unfold runI at h
    split at h
    · obtain ⟨zs, _, hl, rfl⟩ := endI_ok h
      exact ⟨zs, rfl, hl⟩
    · cases h
    · cases h
  · cases h
end
end RL
end M_R44
section M_R45
/-! the head: what the top leaves, by one run; facts as truth values of the written part -/
namespace RL
open PySem PySem.Spec PyProof.Rows L2

/-- a def: where it stands, its name, its qualified name, its text -/
structure Da where
  at_ : PySem.W.Frag → Addr
  name : Str
  qual : Str
  st : Stmt
def fnA (K : PySem.W.Frag) (a : Addr) : He.FnW := match K.lookup a with
  | some ⟨_, _, .func fd, _⟩ => some (fd.name, fd.qualname, fd.params, fd.body, fd.scope, fd.globals, fd.closure, fd.builtins)
  | _ => none
def Da.val (d : Da) : He.FnW := some (d.name, d.qual, defArgs d.st, .stmts (defBody d.st), defScope d.st, mainGlobals, [], builtinsNs)
def noneB : Value → Bool
  | .none => true
  | _ => false
def Da.ok (K : PySem.W.Frag) (d : Da) : Bool := PySem.W.keepIn K (.ref (d.at_ K)) && (match K.lookup (d.at_ K) with
  | some ⟨_, _, .func fd, _⟩ => PySem.W.codeIn K fd.code d.qual && noneB fd.defaults
  | _ => false)
theorem Da.fun_ {K : PySem.W.Frag} {d : Da} (e : fnA K (d.at_ K) = d.val) (c : d.ok K = true) : ∃ fd, Fun K d.name d.qual d.st (d.at_ K) fd := by
  obtain ⟨kp, c2⟩ := He.ba c
  unfold fnA at e
  cases q : K.lookup (d.at_ K) with
  | none => rw [q] at c2; cases c2
  | some o =>
    obtain ⟨oc, od, dt, osl⟩ := o
    rw [q] at c2 e
    cases dt with
    | func fd =>
      obtain ⟨n1, n2, n3, n4, n5, n6, n7, n8, n9, n10, n11, n12, n13, n14, n15⟩ := fd
      have e2 : (some (n1, n2, n3, n4, n5, n6, n7, n15) : He.FnW) = some (d.name, d.qual, defArgs d.st, .stmts (defBody d.st), defScope d.st, mainGlobals, [], builtinsNs) := e
      simp only [Option.some.injEq, Prod.mk.injEq] at e2
      obtain ⟨h1, h2, h3, h4, h5, h6, h7, h8⟩ := e2
      subst h1 h2 h3 h4 h5 h6 h7 h8
      obtain ⟨k1, k2⟩ := He.ba (show (PySem.W.codeIn K n13 d.qual && noneB n8) = true from c2)
      cases n8 with
      | none => exact ⟨_, ⟨oc, od, n9, n10, n11, n12, n13, n14, osl, rfl, q, k1⟩, kp⟩
      | _ => cases k2
    | _ => cases c2
abbrev AlX : Type := Bool × List He.FnW
def obsX (fs : PySem.W.Frag → List Bool) (ds : List Da) (K : PySem.W.Frag) : AlX := ((fs K).all id && ds.all fun d => d.ok K, ds.map fun d => fnA K (d.at_ K))
def valX (ds : List Da) : AlX := (true, ds.map Da.val)
def SaysX (fs : PySem.W.Frag → List Bool) (ds : List Da) (K : PySem.W.Frag) : Prop := obsX fs ds K = valX ds
/-- what the module's names reach, and where the statics of classes stand -/
def asX (g : Addr → Option Obj) (n : Nat) : List Addr := PySem.cStatics :: He.asD g n
def obsXG (n : Nat) (fs : PySem.W.Frag → List Bool) (ds : List Da) (g : Addr → Option Obj) : AlX := obsX fs ds (He.frG g (asX g n))
def hookX (n : Nat) (fs : PySem.W.Frag → List Bool) (ds : List Da) : PySem.W.Hook where
  α := AlX
  obs := fun s => obsXG n fs ds s.heap.get?
  val := fun _ => valX ds
  says := fun _ h => ∃ K : PySem.W.Frag, K.In h ∧ SaysX fs ds K
  of := fun _ _ e => ⟨_, He.frG_in, e⟩
  keeps := fun _ _ _ ⟨K, hK, c⟩ k => ⟨K, PySem.W.Frag.In.keeps hK k, c⟩
theorem obsXG_eq {n : Nat} {fs : PySem.W.Frag → List Bool} {ds : List Da} {g : Addr → Option Obj} {s : Shared} (h : ∀ a, g a = s.heap.get? a) : obsXG n fs ds g = (hookX n fs ds).obs s := by
  have e : g = s.heap.get? := funext h
  rw [e] <;> rfl
section
variable {fs : PySem.W.Frag → List Bool} {ds : List Da} {K : PySem.W.Frag}
theorem SaysX.fact (c : SaysX fs ds K) (i : Nat) {b : Bool} (h : (fs K)[i]? = some b := by rfl) : b = true := by
  have c1 := (He.ba (show ((fs K).all id && ds.all fun d => d.ok K) = true from congrArg (fun z : AlX => z.1) c)).1
  exact List.all_eq_true.mp c1 b (List.mem_of_getElem? h)
theorem SaysX.def_ (c : SaysX fs ds K) (i : Nat) {d : Da} (h : ds[i]? = some d := by rfl) : ∃ fd, Fun K d.name d.qual d.st (d.at_ K) fd := by
  have c2 := (He.ba (show ((fs K).all id && ds.all fun d => d.ok K) = true from congrArg (fun z : AlX => z.1) c)).2
  have e : ds.map (fun d => fnA K (d.at_ K)) = ds.map Da.val := congrArg (fun z : AlX => z.2) c
  have e2 : (ds.map fun d => fnA K (d.at_ K))[i]? = (ds.map Da.val)[i]? := by rw [e]
  rw [List.getElem?_map, List.getElem?_map, h] at e2
  exact Da.fun_ (Option.some.inj e2) (List.all_eq_true.mp c2 d (List.mem_of_getElem? h))
end

/-! ### addresses and facts -/
/-- a property's, classmethod's function -/
def inA (K : PySem.W.Frag) (T : String) (p : Addr) : Addr := match PySem.W.recIn K p T with
  | some (.ref f :: _) => f
  | _ => 0
def recB (K : PySem.W.Frag) (T : String) (p : Addr) : Bool := match PySem.W.recIn K p T with
  | some (.ref _ :: _) => true
  | _ => false
theorem recB_ok {K : PySem.W.Frag} {T : String} {p : Addr} (h : recB K T p = true) : ∃ r, PySem.W.recIn K p T = some (.ref (inA K T p) :: r) := by
  unfold recB at h
  split at h
  · rename_i f r e
    exact ⟨r, by unfold inA; rw [e]⟩
  · cases h
def clB (K : PySem.W.Frag) (A : Addr) : Bool := PySem.W.plainGet K A Str.empty && (PySem.W.hasDictIn K A && (PySem.W.plainOver K A && He.eqO (PySem.W.findIn K (.ref A) "__setattr__") (some (some (.builtin "object.__setattr__")))))
theorem clB_ok {K : PySem.W.Frag} {A : Addr} (c : clB K A = true) : Cls K A := by
  obtain ⟨c1, c⟩ := He.ba c
  obtain ⟨c2, c⟩ := He.ba c
  obtain ⟨c3, c4⟩ := He.ba c
  exact ⟨c1, c2, c3, He.eqO_ok c4⟩
def prB (K : PySem.W.Frag) (A : Addr) (m : Str) : Bool := He.eqO (PySem.W.findIn K (.ref A) m) (some (some (.ref (He.ma K A m)))) && (He.eqO (PySem.W.specialIn K (.ref (He.ma K A m)) "__get__") (some (some (.builtin "property.__get__"))) &&
  (decide (PySem.W.takesIn K (.ref (He.ma K A m)) = some true) && recB K "property" (He.ma K A m)))
theorem prB_ok {K : PySem.W.Frag} {A : Addr} {m : Str} (c : prB K A m = true) : ∃ p, PropOf K A m p (inA K "property" (He.ma K A m)) := by
  obtain ⟨c1, c⟩ := He.ba c
  obtain ⟨c2, c⟩ := He.ba c
  obtain ⟨c3, c4⟩ := He.ba c
  exact ⟨_, He.eqO_ok c1, He.eqO_ok c2, of_decide_eq_true c3, recB_ok c4⟩
def mkB (K : PySem.W.Frag) (A f : Addr) : Bool := PySem.W.makesIn K A && (He.eqO (PySem.W.findIn K (.ref A) "__init__") (some (some (.ref f))) && (PySem.W.isFn K (.ref f) && PySem.W.keepIn K (.ref A)))
theorem mkB_ok {K : PySem.W.Frag} {A f : Addr} (c : mkB K A f = true) : Mk K A f := by
  obtain ⟨c1, c⟩ := He.ba c
  obtain ⟨c2, c⟩ := He.ba c
  obtain ⟨c3, c4⟩ := He.ba c
  exact ⟨c1, He.eqO_ok c2, c3, c4⟩
def meB (K : PySem.W.Frag) (A : Addr) (m : Str) (f : Addr) : Bool := He.eqO (PySem.W.findIn K (.ref A) m) (some (some (.ref f))) && (PySem.W.isFn K (.ref f) && PySem.W.keepIn K (.ref f))
theorem meB_ok {K : PySem.W.Frag} {A : Addr} {m : Str} {f : Addr} (c : meB K A m f = true) : Meth K A m f := by
  obtain ⟨c1, c⟩ := He.ba c
  obtain ⟨c2, c3⟩ := He.ba c
  exact ⟨He.eqO_ok c1, c2, c3⟩
def coB (K : PySem.W.Frag) (A f : Addr) : Bool := He.eqO (PySem.W.findIn K (.ref A) "__call__") (some (some (.ref f))) && (PySem.W.isFn K (.ref f) && PySem.W.fnIn K f)
theorem coB_ok {K : PySem.W.Frag} {A f : Addr} (c : coB K A f = true) : StX.CallO K A f := by
  obtain ⟨c1, c⟩ := He.ba c
  obtain ⟨c2, c3⟩ := He.ba c
  exact ⟨He.eqO_ok c1, c2, c3⟩
def rdB (K : PySem.W.Frag) (A : Addr) : Bool := PySem.W.readsIn K A (.type "type") && He.eqO (PySem.W.specialIn K (.ref A) "__getattribute__") (some (some (.builtin "type.__getattribute__")))
theorem rdB_ok {K : PySem.W.Frag} {A : Addr} (c : rdB K A = true) : ClX.CRead K A (.type "type") := by
  obtain ⟨c1, c2⟩ := He.ba c
  exact ⟨c1, He.eqO_ok c2⟩
/-- a class method, a static method (T: classmethod, staticmethod) -/
def cmB (K : PySem.W.Frag) (A : Addr) (m : Str) : Bool := rdB K A && ((match PySem.W.findCls K (.ref A) (.type "type") m with
  | some (.get (.builtin g) (.ref p) .none (.ref a)) => decide (g = "classmethod.__get__") && (decide (p = He.ma K A m) && decide (a = A))
  | _ => false) && (recB K "classmethod" (He.ma K A m) && PySem.W.fnIn K (inA K "classmethod" (He.ma K A m))))
theorem cmB_ok {K : PySem.W.Frag} {A : Addr} {m : Str} (c : cmB K A m = true) : ∃ mc p, ClX.CRead K A mc ∧ ClX.CMet K A mc m p (inA K "classmethod" (He.ma K A m)) := by
  obtain ⟨c1, c⟩ := He.ba c
  obtain ⟨c2, c⟩ := He.ba c
  obtain ⟨c3, c4⟩ := He.ba c
  refine ⟨_, _, rdB_ok c1, ?_, recB_ok c3, c4⟩
  split at c2
  · rename_i g p a e
    obtain ⟨d1, d⟩ := He.ba c2
    obtain ⟨d2, d3⟩ := He.ba d
    rw [e, of_decide_eq_true d1, of_decide_eq_true d2, of_decide_eq_true d3]
  · cases c2
def crB (K : PySem.W.Frag) (A : Addr) (m : Str) (i : Int) : Bool := rdB K A && (match PySem.W.findCls K (.ref A) (.type "type") m with
  | some (.val (.int j _)) => decide (j = i)
  | _ => false)
theorem crB_ok {K : PySem.W.Frag} {A : Addr} {m : Str} {i : Int} (c : crB K A m i = true) : ∃ mc, ClX.CRead K A mc ∧ ∃ v u, ClX.CVal K A mc m v u ∧ ∀ (C : Pl) F, Rep C F (.int i) v := by
  obtain ⟨c1, c2⟩ := He.ba c
  refine ⟨_, rdB_ok c1, ?_⟩
  split at c2
  · rename_i j t e
    rw [of_decide_eq_true c2] at e
    exact ⟨.int i, .int i t, ⟨e, ⟨_, rfl⟩⟩, fun _ _ => rfl⟩
  · cases c2

/-! ### the end -/
theorem walk_ofX {l : PySem.W.OpenLaw} {n k : Nat} {q : Program} {loose : List Str} {XP : (Str → Option Value) → Heap → Prop} {YP : World → Heap → Prop} {d : DefRec}
    (hn : l.most = some n) (hn2 : n ≤ sizeLine) (hdf : d.params.defaults = []) (hr : RmG k callerA)
    (G : ∀ (w : World) (mg : Str → Option Value) (fa : Addr) (h : Heap), YP w h → h.Ns mainGlobals mg → mg d.name = some (.ref fa) → ∃ (K : PySem.W.Frag) (C : Pl), C.K = K ∧ C.tb = [] ∧ K.In h ∧ ∀ base : Heap, K.In base → base.Ns mainGlobals mg → FnG l.prog w K mg base k fa (spL C n)) :
    PySem.W.WalkO q loose XP YP l.row.toRowW d [] (fun f vs => PySem.call f vs) := by
  refine Att.attach_call hn hdf fun w s₀ s₁ mg mb fa o pm cd doc a vs ns Gr Y ho hd hcd hmg hobj hints hlen hg => ?_
  obtain ⟨K, C, hC, hT, KX, hG⟩ := G w mg fa _ Y Gr.T.g hmg
  exact law_callG KX Gr.T.g Gr.T.b Gr.T.builtins Gr.T.nolimit hg hr hC hT hG hlen hn2 hobj hints

/-! ### a constant of the module -/
section
variable {X : Cx} {C : Pl} {B : Bp} {E : XS} {pos : Pos}
def CtT (K : PySem.W.Frag) (mg : Str → Option Value) (x : Str) (y : PV) : Prop := ∃ u v, mg x = some u ∧ RelV v u ∧ ∀ C : Pl, C.K = K → ∀ F, Rep C F y v
theorem re_ct {x : Str} {y : PV} (hK : X.K = C.K) (hg : Gl X x) (h : CtT X.K X.mg x y) (hd : (x == ("__debug__" : Str)) = false := by decide) : RE X C B E (.Name x pos) (eC y) := by
  obtain ⟨u, v, hm, r, rp⟩ := h
  exact re_c (pe_glob hg hm r hd) (rp C hK.symm)
def intB (K : PySem.W.Frag) (x : Str) (i : Int) : Bool := match PySem.W.nsIn K mainGlobals x with
  | some (some (.int j _)) => decide (j = i)
  | _ => false
theorem intB_ok {K : PySem.W.Frag} {h : Heap} {mg : Str → Option Value} (X : K.In h) (G : h.Ns mainGlobals mg) {x : Str} {i : Int} (c : intB K x i = true) : CtT K mg x (.int i) := by
  unfold intB at c
  split at c
  · rename_i j t e
    rw [of_decide_eq_true c] at e
    exact ⟨_, .int i, PySem.W.mg_of X G e, ⟨t, rfl⟩, fun _ _ _ => rfl⟩
  · cases c
def strB (K : PySem.W.Frag) (x z : Str) : Bool := match PySem.W.nsIn K mainGlobals x with
  | some (some (.str y _)) => decide (y = z)
  | _ => false
theorem strB_ok {K : PySem.W.Frag} {h : Heap} {mg : Str → Option Value} (X : K.In h) (G : h.Ns mainGlobals mg) {x z : Str} (c : strB K x z = true) : CtT K mg x (.str z) := by
  unfold strB at c
  split at c
  · rename_i j t e
    rw [of_decide_eq_true c] at e
    exact ⟨_, .str z, PySem.W.mg_of X G e, ⟨t, rfl⟩, fun _ _ _ => rfl⟩
  · cases c
def intsB (K : PySem.W.Frag) (x : Str) (ns : List Int) : Bool := He.eqO (PySem.W.nsIn K mainGlobals x) (some (some (.ref (He.ga K x)))) && He.tupB K x (ns.map He.Dv.int)
theorem intsB_ok {K : PySem.W.Frag} {h : Heap} {mg : Str → Option Value} (X : K.In h) (G : h.Ns mainGlobals mg) {x : Str} {ns : List Int} (c : intsB K x ns = true) : CtT K mg x (.tup (ns.map PV.int)) := by
  obtain ⟨c1, c2⟩ := He.ba c
  refine ⟨_, .ref (He.ga K x), PySem.W.mg_of X G (He.eqO_ok c1), rfl, fun C hC F => ?_⟩
  have z := He.tupB_ok c2 F
  rw [List.map_map] at z
  exact ⟨_, _, rfl, by rw [hC]; exact z, rep_ints ns⟩
end
end RL
end M_R45
section M_R46
/-! more of what mirrors give, applied -/
namespace RL
open PySem
variable {gk : Nat → Option String}
@[simp] theorem fType_int (i : Int) : fType gk [.int i] = .ok (.ty "int") := rfl
@[simp] theorem fType_bl (i : Bool) : fType gk [.bl i] = .ok (.ty "bool") := rfl
@[simp] theorem fType_non : fType gk [.non] = .ok (.ty "NoneType") := rfl
@[simp] theorem fType_str (i : Str) : fType gk [.str i] = .ok (.ty "str") := rfl
@[simp] theorem fType_tup (i : List PV) : fType gk [.tup i] = .ok (.ty "tuple") := rfl
@[simp] theorem fType_lst (i : List PV) : fType gk [.lst i] = .ok (.ty "list") := rfl
@[simp] theorem fType_ins (c : Nat) (i : List PV) : fType gk [.ins c i] = .ok (.gl c) := rfl
@[simp] theorem oIs2_ty (n : Bool) (a b : String) : oIs2 n (.ty a) (.ty b) = .ok (.bl (xor n (decide (a = b)))) := rfl
@[simp] theorem sFld_x (i c n : Nat) (m : EM) (ρ : REnv) (d : DSt) : sFld i c n m ρ d = (match m ρ d with
  | .ok x d' => (match (ρ[i]? : Option Sl) with
    | some (.obj c' xs) => if c' = c ∧ xs.length = n then .nx (ρ.set i (.obj c (xs ++ [x]))) d' else .no
    | _ => .no)
  | .ex e d' => .ex e d' | .no => .no) := rfl
@[simp] theorem sWith_x (j c n : Nat) (kp : Bool) (fn : PFn) (ms : AM) (me : EM) (ρ : REnv) (d : DSt) : sWith j c n kp fn ms me ρ d = (match ms ρ d with
  | .ok xs d1 => (match fn xs with
    | .ok (.ins c' zs) => if c' = c ∧ n < zs.length ∧ j < ρ.length then (match me (ρ.set j .un) d1 with
      | .ok v d2 => (match fzF kp (zs.set n v) with
        | some ys => .rt (.ins c ys) d2
        | none => .no)
      | _ => .no) else .no
    | .ok _ => .no
    | .ex e => .ex e d1
    | .no => .no)
  | .ex e d1 => .ex e d1
  | .no => .no) := rfl
@[simp] theorem fzF_f (zs : List PV) : fzF false zs = some zs := rfl
end RL
end M_R46
section M_R47
/-! type(x) is type(y) -/
namespace RL
open PySem PySem.Spec PyProof.Rows L2
structure IscT (X : Cx) (C : Pl) (L : List Nat) : Prop where
  mks : ∀ a ∈ L, ∃ A, C.ad a = some A ∧ PySem.W.makesIn X.K A = true
  inj : ∀ a ∈ L, ∀ b ∈ L, ∀ A, C.ad a = some A → C.ad b = some A → a = b
def oIs3 (L : List Nat) (neg : Bool) : PV → PV → O
  | .gl a, .gl b => if a ∈ L ∧ b ∈ L then .ok (.bl (xor neg (decide (a = b)))) else .no
  | x, y => oIs2 neg x y
section
variable {X : Cx} {C : Pl} {E : XS} {L : List Nat}
theorem IscT.at_ (T : IscT X C L) {a b : Nat} {F : Hp} {x y : V} (r1 : Rep C F (.gl a) x) (r2 : Rep C F (.gl b) y) (h : a ∈ L ∧ b ∈ L) : ∃ A B, x = .ref A ∧ y = .ref B ∧ (A = B ∨ (PySem.W.makesIn X.K A = true ∧ PySem.W.makesIn X.K B = true)) ∧ decide (A = B) = decide (a = b) := by
  obtain ⟨A, eA, rfl⟩ := r1
  obtain ⟨B, eB, rfl⟩ := r2
  obtain ⟨A', e1, m1⟩ := T.mks a h.1
  obtain ⟨B', e2, m2⟩ := T.mks b h.2
  rw [eA] at e1; cases e1
  rw [eB] at e2; cases e2
  refine ⟨A, B, rfl, rfl, .inr ⟨m1, m2⟩, ?_⟩
  by_cases q : a = b
  · subst q
    rw [eA] at eB; cases eB
    simp
  · have : A ≠ B := fun z => by subst z; exact q (T.inj a h.1 b h.2 A eA eB)
    rw [decide_eq_false this, decide_eq_false q]
theorem op2_is3 (T : IscT X C L) : Op2 X C E (compareOp .Is) (oIs3 L false) := by
  intro B pins s σ H x y v u Q I rx ry h
  obtain ⟨F, d, px, py, b, r1, r2, h⟩ := h
  unfold oIs3 at h
  split at h
  · split at h
    · rename_i hL
      obtain ⟨A, B', rfl, rfl, hm, e⟩ := T.at_ r1 r2 hL
      refine op_is_cls pins s σ H _ _ v u Q I rx ry ⟨A, B', rfl, rfl, hm, ?_⟩
      rw [e]
      have z := h.here b rfl
      simpa using z
    · exact h.elim
  · exact op2_is2 B pins s σ H x y v u Q I rx ry ⟨F, d, _, _, b, r1, r2, h⟩
theorem op2_isNot3 (T : IscT X C L) : Op2 X C E (compareOp .IsNot) (oIs3 L true) := by
  intro B pins s σ H x y v u Q I rx ry h
  obtain ⟨F, d, px, py, b, r1, r2, h⟩ := h
  unfold oIs3 at h
  split at h
  · split at h
    · rename_i hL
      obtain ⟨A, B', rfl, rfl, hm, e⟩ := T.at_ r1 r2 hL
      refine op_isnot_cls pins s σ H _ _ v u Q I rx ry ⟨A, B', rfl, rfl, hm, ?_⟩
      rw [e]
      have z := h.here b rfl
      simpa using z
    · exact h.elim
  · exact op2_isNot2 B pins s σ H x y v u Q I rx ry ⟨F, d, _, _, b, r1, r2, h⟩
@[simp] theorem oIs3_gl (n : Bool) (a b : Nat) : oIs3 L n (.gl a) (.gl b) = if a ∈ L ∧ b ∈ L then .ok (.bl (xor n (decide (a = b)))) else .no := rfl
@[simp] theorem oIs3_ty (n : Bool) (a b : String) : oIs3 L n (.ty a) (.ty b) = .ok (.bl (xor n (decide (a = b)))) := rfl
end
end RL
end M_R47
section M_R48
/-! comprehensions that draw nothing; beginnings of lists; the marks that bits stand for -/
namespace RL
open PySem L2
theorem lcGo_gen {α : Type} {ρ : REnv} {t : Tg} {bc : BM} {me : EM} {d : DSt} {g : α → PV} {S : α → REnv} (p : α → Bool) (f : α → PV) : ∀ {l : List α}, (∀ x ∈ l, t.set (g x) ρ = some (S x)) → (∀ x ∈ l, bc (S x) d = .ok (p x) d) → (∀ x ∈ l, p x = true → me (S x) d = .ok (f x) d) → lcGo ρ t bc me (l.map g) d = .ok ((l.filter p).map f) d
  | [], _, _, _ => rfl
  | x :: l, h1, h2, h3 => by
    have ih := lcGo_gen p f (l := l) (fun y hy => h1 y (List.mem_cons_of_mem _ hy)) (fun y hy => h2 y (List.mem_cons_of_mem _ hy)) (fun y hy => h3 y (List.mem_cons_of_mem _ hy))
    rw [List.map_cons]
    unfold lcGo
    simp only [h1 x List.mem_cons_self, h2 x List.mem_cons_self, R.nx, R.bind_ok]
    cases q : p x with
    | false => simp only [Bool.false_eq_true, if_false, List.filter_cons, q]; exact ih
    | true =>
      simp only [if_true, h3 x List.mem_cons_self q, R.nx, R.bind_ok, List.filter_cons, q]
      rw [ih]
      rfl
theorem lcR_gen {α : Type} {ρ : REnv} {t : Tg} {bc : BM} {me : EM} {d : DSt} {g : α → PV} {S : α → REnv} (p : α → Bool) (f : α → PV) {l : List α} (hl : l.length < LIM) (h1 : ∀ x ∈ l, t.set (g x) ρ = some (S x)) (h2 : ∀ x ∈ l, bc (S x) d = .ok (p x) d) (h3 : ∀ x ∈ l, p x = true → me (S x) d = .ok (f x) d) :
    lcR ρ t bc me (l.map g) d = .ok ((l.filter p).map f) d := by
  unfold lcR
  rw [if_pos (by simpa using hl)]
  exact lcGo_gen p f h1 h2 h3
/-- without a test -/
theorem lcR_all {α : Type} {ρ : REnv} {t : Tg} {me : EM} {d : DSt} {g : α → PV} {S : α → REnv} (f : α → PV) {l : List α} (hl : l.length < LIM) (h1 : ∀ x ∈ l, t.set (g x) ρ = some (S x)) (h3 : ∀ x ∈ l, me (S x) d = .ok (f x) d) :
    lcR ρ t bYes me (l.map g) d = .ok (l.map f) d := by
  have z := lcR_gen (bc := bYes) (fun _ => true) f hl h1 (fun _ _ => rfl) (fun x hx _ => h3 x hx)
  rw [z]
  rw [show l.filter (fun _ => true) = l from by simp]
theorem cutP_upto {α : Type} (xs : List α) (k : Nat) (h : k ≤ xs.length) : cutP xs none (some (k : Int)) = xs.take k := by
  unfold cutP
  rw [HT.sIx_none, HT.sIx_nat, Nat.min_eq_left h]
  simp
theorem cutP_from {α : Type} (xs : List α) (k : Nat) (h : k ≤ xs.length) : cutP xs (some (k : Int)) none = xs.drop k := by
  unfold cutP
  rw [HT.sIx_none, HT.sIx_nat, Nat.min_eq_left h]
  rw [List.take_of_length_le (by rw [List.length_drop]; omega)]
theorem enumP_range (m : Nat) (f : Nat → PV) : enumP ((List.range m).map f) = (List.range m).map fun i => .tup [.int (i : Nat), f i] := by
  simp [enumP, List.zipWith_map_right]
@[simp] theorem pNone_x (ρ : REnv) (d : DSt) : pNone ρ d = .ok none d := rfl
@[simp] theorem pSome_x (m : EM) (ρ : REnv) (d : DSt) : pSome m ρ d = (m ρ d).bind fun x d1 => match x with
  | .int i => .ok (some i) d1
  | _ => .no := rfl
@[simp] theorem oSl_t (lo hi : Option Int) (xs : List PV) : oSl lo hi (.tup xs) = .ok (.tup (cutP xs lo hi)) := rfl
@[simp] theorem oSl_l (lo hi : Option Int) (xs : List PV) : oSl lo hi (.lst xs) = .ok (.lst (cutP xs lo hi)) := rfl
/-- the bits of the places -/
def bitL : List Int := (List.range 21).map fun i => ((2 ^ i : Nat) : Int)
theorem bitL_eq : ([1, 2, 4, 8, 16, 32, 64, 128, 256, 512, 1024, 2048, 4096, 8192, 16384, 32768, 65536, 131072, 262144, 524288, 1048576] : List Int) = bitL := by decide
theorem bitL_get {i : Nat} (h : i ≤ 20) : bitL[i]? = some ((2 ^ i : Nat) : Int) := by
  unfold bitL
  rw [List.getElem?_map, List.getElem?_range (by omega)]; rfl
theorem pow_cast (i : Nat) : ((2 ^ i : Nat) : Int) = (2 : Int) ^ i := by simp
theorem band_pow (b i : Nat) : Builtin.bitAnd (b : Int) ((2 : Int) ^ i) = ((b &&& 2 ^ i : Nat) : Int) := by rw [← pow_cast, band_nat]
theorem bor_pow (b i : Nat) : Builtin.bitOr (b : Int) ((2 : Int) ^ i) = ((b ||| 2 ^ i : Nat) : Int) := by rw [← pow_cast, bor_nat]
theorem and_pow_zero (b i : Nat) : (b &&& 2 ^ i = 0) ↔ b.testBit i = false := by
  have z := and_pow_ne b i
  cases q : b.testBit i with
  | false =>
    rw [q] at z
    simp only [iff_true]
    by_cases k : b &&& 2 ^ i = 0
    · exact k
    · exact absurd (z.mp k) (by simp)
  | true => simpa using z.mpr q
def marksOf : List Int → List Int
  | [last, bits] => mks bits.toNat last.toNat
  | _ => []
def okMarks : List Int → Bool
  | [last, bits] => decide (0 ≤ last) && decide (last ≤ 20) && decide (0 ≤ bits)
  | _ => false
theorem okMarks_at {ns : List Int} (h : okMarks ns = true) : ∃ n b : Nat, ns = [(n : Int), (b : Int)] ∧ n ≤ 20 ∧ marksOf ns = mks b n := by
  unfold okMarks at h
  split at h
  · rename_i last bits
    simp only [Bool.and_eq_true, decide_eq_true_eq] at h
    refine ⟨last.toNat, bits.toNat, ?_, by omega, rfl⟩
    rw [Int.toNat_of_nonneg h.1.1, Int.toNat_of_nonneg h.2]
  · cases h
theorem enum_bits {n : Nat} (h : n ≤ 20) : enumP ((bitL.take (n + 1)).map PV.int) = (List.range (n + 1)).map fun i => .tup [.int (i : Nat), .int ((2 ^ i : Nat) : Int)] := by
  have e : (bitL.take (n + 1)).map PV.int = (List.range (n + 1)).map fun i => PV.int ((2 ^ i : Nat) : Int) := by
    unfold bitL
    rw [← List.map_take, List.take_range, Nat.min_eq_left (by omega), List.map_map]
    rfl
  rw [e, enumP_range]
end RL
namespace RL
open PySem
@[simp] theorem own2_same (t : OT) (c : Nat) (xs : List PV) : own2 t c c xs = own t c xs := if_pos (.inl rfl)
theorem own2_some {t : OT} {c c' : Nat} {fn : PFn} {xs : List PV} (h : t c' = some fn) : own2 t c c' xs = own t c xs := if_pos (.inr (by rw [h]; rfl))
end RL
end M_R48
section M_R49
/-! methods and calls of an instance, by values -/
namespace RL
open PySem
def aMeth (t : OT) : PV → List PV → O
  | .ins c ys, xs => own t c (.ins c ys :: xs)
  | _, _ => .no
theorem eMeth_nil (t : OT) (m : EM) (ρ : REnv) (d : DSt) : eMeth t m aNil ρ d = (m ρ d).bind fun x d1 => (aMeth t x []).r d1 := by
  unfold eMeth
  congr 1
  funext x d1
  cases x <;> first | rfl | skip
  simp only [aMeth, own]
  split <;> simp_all [O.r]
theorem eVal_v1 (ti : OT) (m : EM) (j : Nat) (ρ : REnv) (d : DSt) : eVal OT0 ti m (aCons (eVar j) aNil) ρ d = (m ρ d).bind fun x d1 => match ρ[j]? with
  | some (.val y) => (aMeth ti x [y]).r d1
  | _ => .no := by
  unfold eVal
  congr 1
  funext x d1
  simp only [aCons_x, eVar_x, aNil_x]
  cases e : (ρ[j]? : Option Sl) with
  | none => cases x <;> simp [OT0] <;> split <;> rfl
  | some s =>
    cases s <;> cases x <;> simp [OT0, aMeth, own] <;> split <;> simp_all [O.r]
theorem aMeth_some {t : OT} {c : Nat} {ys xs : List PV} {fn : PFn} (h : t c = some fn) : aMeth t (.ins c ys) xs = fn (.ins c ys :: xs) := by
  simp only [aMeth, own, h]
end RL
end M_R49
section M_R50
/-! constants of a class, as truth values -/
namespace RL
open PySem PySem.Spec PyProof.Rows L2
def cnstrB (K : PySem.W.Frag) (A : Addr) (m z : Str) : Bool := (match PySem.W.findIn K (.ref A) m with
  | some (some (.str y t)) => decide (y = z) && He.eqO (PySem.W.specialIn K (.str y t) "__get__") (some none)
  | _ => false) && !PySem.W.copiedNames.contains m
theorem cnstrB_ok {K : PySem.W.Frag} {A : Addr} {m z : Str} (c : cnstrB K A m z = true) : ∃ w u, Con K A m w u ∧ ∀ (C : Pl) F, Rep C F (.str z) w := by
  obtain ⟨c1, c2⟩ := He.ba c
  split at c1
  · rename_i y t e
    obtain ⟨d1, d2⟩ := He.ba c1
    have d1 := of_decide_eq_true d1
    subst d1
    exact ⟨.str y, .str y t, ⟨e, ⟨t, rfl⟩, He.eqO_ok d2, by simpa using c2⟩, fun _ _ => rfl⟩
  · cases c1
def cnintB (K : PySem.W.Frag) (A : Addr) (m : Str) (z : Int) : Bool := (match PySem.W.findIn K (.ref A) m with
  | some (some (.int y t)) => decide (y = z) && He.eqO (PySem.W.specialIn K (.int y t) "__get__") (some none)
  | _ => false) && !PySem.W.copiedNames.contains m
theorem cnintB_ok {K : PySem.W.Frag} {A : Addr} {m : Str} {z : Int} (c : cnintB K A m z = true) : ∃ w u, Con K A m w u ∧ ∀ (C : Pl) F, Rep C F (.int z) w := by
  obtain ⟨c1, c2⟩ := He.ba c
  split at c1
  · rename_i y t e
    obtain ⟨d1, d2⟩ := He.ba c1
    have d1 := of_decide_eq_true d1
    subst d1
    exact ⟨.int y, .int y t, ⟨e, ⟨t, rfl⟩, He.eqO_ok d2, by simpa using c2⟩, fun _ _ => rfl⟩
  · cases c1
/-! what the names reach, found with a mask of what has been seen (the kernel's numbers are quick) -/
def seeN (mask : Nat) : List Addr → Nat × List Addr
  | [] => (mask, [])
  | a :: r => if mask.testBit a then seeN mask r else match seeN (mask ||| (1 <<< a)) r with
    | (m, l) => (m, a :: l)
def reachN (g : Addr → Option Obj) : Nat → Nat → List Addr → List Addr
  | 0, _, _ => []
  | n + 1, mask, l => match seeN mask l with
    | (m, new) => new ++ reachN g n m (new.flatMap fun a => match g a with
      | some o => He.refsO o
      | none => [])
/-- no empty table of code objects -/
def notTab (g : Addr → Option Obj) (a : Addr) : Bool := match g a with
  | some ⟨.none, Option.none, .fields ⟨[]⟩, _⟩ => false
  | _ => true
def asY (g : Addr → Option Obj) (n : Nat) : List Addr := (reachN g (n + 1) 0 [PySem.cStatics, mainGlobals]).filter (notTab g)
def obsYG (n : Nat) (fs : PySem.W.Frag → List Bool) (ds : List Da) (g : Addr → Option Obj) : AlX := obsX fs ds (He.frG g (asY g n))
def hookY (n : Nat) (fs : PySem.W.Frag → List Bool) (ds : List Da) : PySem.W.Hook where
  α := AlX
  obs := fun s => obsYG n fs ds s.heap.get?
  val := fun _ => valX ds
  says := fun _ h => ∃ K : PySem.W.Frag, K.In h ∧ SaysX fs ds K
  of := fun _ _ e => ⟨_, He.frG_in, e⟩
  keeps := fun _ _ _ ⟨K, hK, c⟩ k => ⟨K, PySem.W.Frag.In.keeps hK k, c⟩
theorem obsYG_eq {n : Nat} {fs : PySem.W.Frag → List Bool} {ds : List Da} {g : Addr → Option Obj} {s : Shared} (h : ∀ a, g a = s.heap.get? a) : obsYG n fs ds g = (hookY n fs ds).obs s := by
  have e : g = s.heap.get? := funext h
  rw [e] <;> rfl
end RL
end M_R50
section M_R51
/-! texts: join -/
namespace RL
open PySem PySem.Spec PyProof.Rows L2
section
variable {X : Cx} {C : Pl} {B : Bp} {E : XS} {pos : Pos}
def strsP : List PV → Option (List Str)
  | [] => some []
  | .str i :: r => (strsP r).map (i :: ·)
  | _ => none
theorem strsP_rep {F : Hp} : ∀ {xs : List PV} {vs : List V} {ns : List Str}, RepL C F xs vs → strsP xs = some ns → vs = ns.map V.str
  | [], _, _, r, e => by cases (show _ = [] from r); cases e; rfl
  | x :: xs, _, ns, r, e => by
    obtain ⟨v, r', rfl, r1, r2⟩ := r
    cases x with
    | str i =>
      have e' : (strsP xs).map (i :: ·) = some ns := e
      cases q : strsP xs with
      | none => rw [q] at e'; cases e'
      | some ms => rw [q] at e'; cases e'; cases r1; rw [strsP_rep r2 q]; rfl
    | _ => cases e
theorem strsP_map : ∀ l : List Str, strsP (l.map PV.str) = some l
  | [] => rfl
  | x :: l => by
    show (strsP (l.map PV.str)).map (x :: ·) = _
    rw [strsP_map l]; rfl
def joinO (a : Str) (xs : List PV) : O := match strsP xs with
  | some ys => if (ys.map (·.length)).sum + ys.length * a.length ≤ 16777216 then .ok (.str (Txt.join a ys)) else .no
  | none => .no
/-- sep.join(a list, a tuple) -/
def oJoin (a : Str) : PV → O
  | .lst xs => joinO a xs
  | .tup xs => joinO a xs
  | _ => .no
def eJoin (m mi : EM) : EM := fun ρ d => (m ρ d).bind fun x d1 => match x with
  | .str a => (mi ρ d1).bind fun y d2 => (oJoin a y).r d2
  | _ => .no
@[simp] theorem eJoin_x (m mi : EM) (ρ : REnv) (d : DSt) : eJoin m mi ρ d = (m ρ d).bind fun x d1 => match x with
  | .str a => (mi ρ d1).bind fun y d2 => (oJoin a y).r d2
  | _ => .no := rfl
variable {o e : Expr} {m mi : EM} {apos cpos : Pos}
theorem re_join (hK : X.K = C.K) (ho : RE X C B E o m) (he : RE X C B E e mi)
    (hs : starEach [e] X.env = [(false, eval e X.env)] := by rfl) (hbase : attributeBase o "join" X.env (eval o X.env) = eval o X.env := by rfl) (hline : (apos.endLine == cpos.line) = true := by rfl) :
    RE X C B E (.Call (.Attribute o "join" apos) [e] [] cpos) (eJoin m mi) := by
  refine PE.weak (pe_join ho he hs hbase hline) fun σ H Q h => ?_
  obtain ⟨F, ρ, d, b, h⟩ := h
  refine ⟨F, ρ, d, b, (tK.bind (Rp := Rep C) h).imp fun v H1 q => ?_⟩
  obtain ⟨F1, d1, x, b1, g1, r1, k1⟩ := q
  cases x with
  | str a =>
    refine ⟨⟨a, r1⟩, F1, ρ, d1, b.go b1 g1, (tK.bind (Rp := Rep C) k1).imp fun w H2 q => ?_⟩
    obtain ⟨F2, d2, y, b2, g2, r2, k3⟩ := q
    have fin : ∀ xs (p : Addr) (vs : List V), w = .ref p → (SqL X.K H2 p vs ∨ SqT X.K H2 p vs) → RepL C F2 xs vs → tK C B (E σ) (Rep C) ((joinO a xs).r d2) F2 H2 Q → ∃ a' p', ∃ ys : List Str, v = .str a' ∧ [w] = [.ref p'] ∧ (SqL X.K H2 p' (ys.map V.str) ∨ SqT X.K H2 p' (ys.map V.str)) ∧ (ys.map (·.length)).sum + ys.length * a'.length ≤ 16777216 ∧ Q (.str (Txt.join a' ys)) H2 := by
      intro xs p vs ew hp rl k
      unfold joinO at k
      split at k
      · rename_i ys ey
        have hv := strsP_rep rl ey
        subst hv
        split at k
        · rename_i hz
          cases r1
          exact ⟨a, p, ys, rfl, by rw [ew], hp, hz, k.here b2 rfl⟩
        · exact k.elim
      · exact k.elim
    cases y with
    | lst xs =>
      obtain ⟨p, vs, rfl, f1, q1⟩ := r2
      exact fin xs p vs rfl (.inl (by rw [hK]; exact (SqX.mono b2.fh f1).seq)) q1 k3
    | tup xs =>
      obtain ⟨p, vs, rfl, f1, q1⟩ := r2
      exact fin xs p vs rfl (.inr (by rw [hK]; exact Same.sqT b2.fh f1)) q1 k3
    | _ => exact k3.elim
  | _ => exact k1.elim
theorem oJoin_strs {a : Str} {l : List Str} (h : (l.map (·.length)).sum + l.length * a.length ≤ 16777216) : oJoin a (.lst (l.map PV.str)) = .ok (.str (Txt.join a l)) := by
  show joinO a (l.map PV.str) = _
  unfold joinO
  rw [strsP_map]
  exact if_pos h
end
end RL
end M_R51
section M_R52
/-! texts, walked; enumerate over a text -/
namespace RL
open PySem PySem.Spec PyProof.Rows L2
/-- the signs of a text -/
def chrs (z : Str) : List PV := z.cps.toList.map fun c => .str ⟨#[c]⟩
theorem chrs_len (z : Str) : (chrs z).length = z.cps.size := by simp [chrs]
theorem chrs_get {z : Str} {i : Nat} {c : Nat} (e : z.cps[i]? = some c) : (chrs z)[i]? = some (.str ⟨#[c]⟩) := by
  unfold chrs
  rw [List.getElem?_map, Array.getElem?_toList, e]; rfl
theorem WalkR.str {C : Pl} {F : Hp} {z : Str} : WalkR C F (chrs z) (Its z) := by
  refine ⟨z.cps.size, _, _, (chrs_len z).symm, walk_str, fun F2 H2 s1 s2 => trivial, fun i F2 H2 v H3 hi s1 s2 y => ?_⟩
  obtain ⟨rfl, c, ec, rfl⟩ := y
  exact ⟨F2, .str ⟨#[c]⟩, chrs_get ec, .refl s2, rfl⟩
def iAny3 (K : PySem.W.Frag) (tl : TE) : TI := fun σ H R => tl σ H fun x H1 => (∃ a, x = .ref a ∧ (((∃ xs, SqL K H1 a xs) ∧ R (Itl K a) H1) ∨ ((∃ xs, SqT K H1 a xs) ∧ R (Itt K a) H1))) ∨ ∃ z, x = .str z ∧ R (Its z) H1
theorem pi_any3 {X : Cx} {tg l : Expr} {tl : TE} (hl : PE X l tl) : PI X tg l (iAny3 X.K tl) := by
  refine ⟨fun pins s σ H R I h => ?_⟩
  refine thn (hl.run pins s σ H _ I h) fun v s1 ⟨x, H1, I1, r1, q1⟩ => ?_
  rcases q1 with ⟨a, e, q | q⟩ | ⟨z, e, q⟩
  · obtain ⟨⟨xs, hq⟩, q⟩ := q
    subst e
    cases r1
    obtain ⟨its, rv, p, hz⟩ := I1.list hq
    refine wpAny_pyIter_list p.isList ?_
    refine ⟨s1.heap.objs.size, [s1.heap.objs.size], _, _, H1, rfl, I1.kept (t' := s1.toks) fun b o e => Heap.get?_push_of_some _ e, turn_list a _, ⟨_, Heap.get?_push_size _ rfl, rfl, rfl⟩, fun b hb => ?_, q⟩
    have e : b = s1.heap.objs.size := by simpa using hb
    subst e
    exact I1.fpOk (Nat.le_refl _) (I1.hok.fresh (Nat.le_refl _))
  · obtain ⟨⟨xs, hq⟩, q⟩ := q
    subst e
    cases r1
    obtain ⟨its, rv, p, hz⟩ := I1.tuple hq
    refine wpAny_pyIter_tuple (show s1.heap.IsTuple a its.toArray from p) ?_
    refine ⟨s1.heap.objs.size, [s1.heap.objs.size], _, _, H1, rfl, I1.kept (t' := s1.toks) fun b o e => Heap.get?_push_of_some _ e, turn_tuple a _, ⟨_, Heap.get?_push_size _ rfl, rfl, rfl⟩, fun b hb => ?_, q⟩
    have e : b = s1.heap.objs.size := by simpa using hb
    subst e
    exact I1.fpOk (Nat.le_refl _) (I1.hok.fresh (Nat.le_refl _))
  · subst e
    obtain ⟨t, rfl⟩ := r1
    cases ha : z.cps.all (· < 128)
    · exact wpAny_pyIter_wide ha (pi_one (tk := s1.toks) I1 _ (turn_str _ z t "str_iterator" (.inr rfl)) ⟨_, Heap.get?_push_size _ rfl, rfl, rfl⟩ q)
    · exact wpAny_pyIter_ascii ha (pi_one (tk := s1.toks) I1 _ (turn_str _ z t "str_ascii_iterator" (.inl rfl)) ⟨_, Heap.get?_push_size _ rfl, rfl, rfl⟩ q)
def seq3 : PV → DSt → R (List PV) := fun x d1 => match x with
  | .lst xs => .ok xs d1
  | .tup xs => .ok xs d1
  | .str z => .ok (chrs z) d1
  | _ => .no
def iSeq3 (m : EM) : AM := fun ρ d => (m ρ d).bind seq3
@[simp] theorem iSeq3_x (m : EM) (ρ : REnv) (d : DSt) : iSeq3 m ρ d = (m ρ d).bind seq3 := rfl
@[simp] theorem seq3_l (xs : List PV) (d : DSt) : seq3 (.lst xs) d = .ok xs d := rfl
@[simp] theorem seq3_t (xs : List PV) (d : DSt) : seq3 (.tup xs) d = .ok xs d := rfl
@[simp] theorem seq3_s (z : Str) (d : DSt) : seq3 (.str z) d = .ok (chrs z) d := rfl
section
variable {X : Cx} {C : Pl} {B : Bp} {E : XS} {pos p tpos : Pos} {a b e : Expr} {m : EM} {ms : AM} {elts : List Expr} {kk : Nat}
theorem ri_seq3 {tg : Expr} (hK : X.K = C.K) (he : RE X C B E e m) : RI X C B E tg e (iSeq3 m) := by
  refine PI.weak (pi_any3 he) fun σ H R h => ?_
  obtain ⟨F, ρ, d, b, h⟩ := h
  refine ⟨F, ρ, d, b, (tK.bind (Rp := Rep C) h).imp fun v H1 q => ?_⟩
  obtain ⟨F1, d1, x, b1, g1, r1, k1⟩ := q
  unfold seq3 at k1
  split at k1
  · obtain ⟨a, vs, rfl, h2, h3⟩ := r1
    exact .inl ⟨a, rfl, .inl ⟨⟨vs, by rw [hK]; exact (SqX.mono b1.fh h2).seq⟩, k1.here b1 (WalkR.list hK h2.seq h3)⟩⟩
  · obtain ⟨a, vs, rfl, h2, h3⟩ := r1
    exact .inl ⟨a, rfl, .inr ⟨⟨vs, by rw [hK]; exact Same.sqT b1.fh h2⟩, k1.here b1 (WalkR.tup hK h2 h3)⟩⟩
  · cases r1
    exact .inr ⟨_, rfl, k1.here b1 WalkR.str⟩
  · exact k1.elim
end

/-! ### enumerate -/
def IteS (z : Str) : It :=
  ⟨fun i _ => i < z.cps.size, fun i H v H' => ∃ T c, v = .ref T ∧ H T = none ∧ z.cps[i]? = some c ∧ H' = upd H T (.tup [.int (i : Nat), .str ⟨#[c]⟩]), fun i _ => i = z.cps.size⟩
theorem turn_enumS {P : Program} {w : World} {K : PySem.W.Frag} {elts : List Expr} {kk : Nat} {tpos : Pos} (z : Str) (t : Tok) (e it : Addr) :
    Turn P w K (.Tuple elts kk tpos) (IteS z) [e, it] e (fun i h => (∃ old, IsEnum h e it ((i : Nat) : Int) old) ∧ h.IsStrIter it (strIterType z) z t i ∧ e ≠ it) where
  mem := by simp
  obj := fun i h st b hb => by
    obtain ⟨⟨old, he⟩, ⟨o, ho, hc, hd⟩, _⟩ := st
    have e' : b = e ∨ b = it := by simpa using hb
    rcases e' with z | z
    · rw [z]; exact ⟨_, he, fun v q => nomatch q⟩
    · rw [z]; exact ⟨o, ho, fun v q => by rw [hd] at q; cases q⟩
  keep := fun i h h' st k => let ⟨⟨old, he⟩, ⟨o, ho, r⟩, hne⟩ := st; ⟨⟨old, k e (by simp) _ he⟩, ⟨o, k it (by simp) o ho, r⟩, hne⟩
  item := by
    intro X hP hw hK hc i pins s σ H E I hf st hg
    subst hP hw hK
    obtain ⟨⟨old, he⟩, hit, hne⟩ := st
    have hg : i < z.cps.size := hg
    have hel : e < s.heap.objs.size := Heap.lt_size he
    have hil : it < s.heap.objs.size := by obtain ⟨_, q, _⟩ := hit; exact Heap.lt_size q
    refine wpAny_pyNext_enum_itemD (Draws.text (A := X.A.in1) (I.ok.hd hc) it z t) he hit hg hne (by simp [hne]) fun u' h' tk hu' ho hst' hT hsz hk => ?_
    obtain ⟨c, u, ec, rfl⟩ := hu'
    refine ⟨_, rfl, wpAny_letOwnedTupleGo_enum (s := { s with heap := h', toks := tk + 1 }) ho fun h'' he' sb => ?_⟩
    have hT2 : h''.get? s.heap.objs.size = some { cls := .type "tuple", data := .seq #[.int i tk, .str ⟨#[c]⟩ u] } := (sb.2 _ (Nat.ne_of_gt hel)).trans hT
    have new : ObjOk X.prog X.w (upd H s.heap.objs.size (.tup [.int (i : Nat), .str ⟨#[c]⟩])) h'' s.heap.objs.size (.tup [.int (i : Nat), .str ⟨#[c]⟩]) :=
      ⟨by show 2 ≤ sizeLine; decide, [.int i tk, .str ⟨#[c]⟩ u], .cons ⟨_, rfl⟩ (.cons ⟨_, rfl⟩ .nil), ⟨_, hT2, rfl, _, rfl⟩⟩
    have I1 : Inv X pins σ (upd H s.heap.objs.size (.tup [.int (i : Nat), .str ⟨#[c]⟩])) { s with heap := h'', toks := tk + 1 } :=
      I.turnedNew (ch := [e, it]) (fun b ob hb q => (sb.2 b (fun z => hb (by simp [z]))).trans (hk b ob (fun z => hb (by simp [z])) (fun z => hb (by simp [z])) q)) hf (Nat.le_refl _) new
    refine ⟨.ref s.heap.objs.size, _, I1, rfl, ⟨_, c, rfl, I.hok.fresh (Nat.le_refl _), ec, rfl⟩, ⟨⟨.str ⟨#[c]⟩ u, ?_⟩, ?_, hne⟩, fun b hb => ?_⟩
    · have e1 : ((i + 1 : Nat) : Int) = (i : Int) + 1 := by omega
      rw [e1]; exact he'
    · obtain ⟨o, ho2, r⟩ := hst'
      exact ⟨o, (sb.2 it (Ne.symm hne)).trans ho2, r⟩
    · have hb' : b < s.heap.objs.size := by
        have e' : b = e ∨ b = it := by simpa using hb
        rcases e' with z | z
        · rw [z]; exact hel
        · rw [z]; exact hil
      rw [upd_ne (Nat.ne_of_lt hb')]
      exact (hf b hb).1
  done := by
    intro X hP hw hK hc i pins s σ H E I hf st hg
    subst hP hw hK
    obtain ⟨⟨old, he⟩, hit, hne⟩ := st
    have hg : i = z.cps.size := hg
    subst hg
    obtain ⟨f0, f1, f2, f3, f4, f5⟩ := hf it (by simp)
    exact wpAny_pyNext_enum_endD (Draws.text (A := X.A.in1) (I.ok.hd hc) it z t) he hit fun h' eb => ⟨rfl, I.turned (t' := s.toks) (fun b o hb q => eb b o hb q) f0 f1 f3 f4 f5⟩
  self := fun A i s Q E st h => let ⟨⟨_, he⟩, _⟩ := st; wpAny_pyIter_enum he h
def iEnumT3 (K : PySem.W.Frag) (ta : TA) : TI := fun σ H R => ta σ H fun vs H1 => (∃ a xs, vs = [.ref a] ∧ ((SqL K H1 a xs ∧ R (Ite K a) H1) ∨ (SqT K H1 a xs ∧ R (IteT K a) H1))) ∨ ∃ z, vs = [.str z] ∧ R (IteS z) H1
theorem pi_enumA3 {X : Cx} {e : Expr} {ta : TA} {p pos tpos : Pos} {elts : List Expr} {kk : Nat} (hg : Gl X "enumerate") (hm : X.mg "enumerate" = none) (ha : PA X [e] ta) (hs : starEach [e] X.env = [(false, eval e X.env)] := by rfl) :
    PI X (.Tuple elts kk tpos) (.Call (.Name "enumerate" p) [e] [] pos) (iEnumT3 X.K ta) := by
  refine ⟨fun pins s σ H R I h => ?_⟩
  refine Call_ (ld_blt I hg hm boot_enumerate (PyProof.Rows.callWith_type1 (thn (ha.run pos pins s σ H _ I h) fun us s1 ⟨vs, H1, I1, r1, q1⟩ => ?_) hs rfl))
  have fresh2 : ∀ b, b ∈ [s1.heap.objs.size + 1, s1.heap.objs.size] → FpOk X pins H1 b := fun b hb => by
    have e' : b = s1.heap.objs.size + 1 ∨ b = s1.heap.objs.size := by simpa using hb
    have hle : s1.heap.objs.size ≤ b := by
      rcases e' with z | z
      · rw [z]; exact Nat.le_add_right _ _
      · rw [z]; exact Nat.le_refl _
    exact I1.fpOk hle (I1.hok.fresh hle)
  rcases q1 with ⟨a, xs, ex, q1⟩ | ⟨z, ex, q⟩
  · subst ex
    cases r1 with
    | cons r rr =>
      cases rr
      cases r
      rcases q1 with ⟨hq, q⟩ | ⟨hq, q⟩
      · obtain ⟨its, rv, p', hz⟩ := I1.list hq
        refine call_enumerate_list p'.isList fun h' he hit hsz hk => wpAny_pyIter_enum he ?_
        have I2 : Inv X pins σ H1 { s1 with heap := h' } := I1.kept (t' := s1.toks) hk
        exact ⟨s1.heap.objs.size + 1, [s1.heap.objs.size + 1, s1.heap.objs.size], _, _, H1, rfl, I2, turn_enum a (s1.heap.objs.size + 1) s1.heap.objs.size, ⟨⟨.none, he⟩, hit, Nat.succ_ne_self _⟩, fresh2, q⟩
      · obtain ⟨its, rv, p', hz⟩ := I1.tuple hq
        refine call_enum1 (begins_tuple a its.toArray) (show s1.heap.IsTuple a its.toArray from p') fun h' he hit hsz hk => wpAny_pyIter_enum he ?_
        have I2 : Inv X pins σ H1 { s1 with heap := h' } := I1.kept (t' := s1.toks) hk
        exact ⟨s1.heap.objs.size + 1, [s1.heap.objs.size + 1, s1.heap.objs.size], _, _, H1, rfl, I2, turn_enumT a (s1.heap.objs.size + 1) s1.heap.objs.size, ⟨⟨.none, he⟩, ⟨_, hit, rfl, rfl⟩, Nat.succ_ne_self _⟩, fresh2, q⟩
  · subst ex
    cases r1 with
    | cons r rr =>
      cases rr
      obtain ⟨t, rfl⟩ := r
      refine call_enum1 (begins_text z t) trivial fun h' he hit hsz hk => wpAny_pyIter_enum he ?_
      have I2 : Inv X pins σ H1 { s1 with heap := h' } := I1.kept (t' := s1.toks) hk
      exact ⟨s1.heap.objs.size + 1, [s1.heap.objs.size + 1, s1.heap.objs.size], _, _, H1, rfl, I2, turn_enumS z t (s1.heap.objs.size + 1) s1.heap.objs.size, ⟨⟨.none, he⟩, ⟨_, hit, rfl, rfl⟩, Nat.succ_ne_self _⟩, fresh2, q⟩
theorem walk_enumS {z : Str} : Walk (IteS z) z.cps.size (fun _ => True) (fun i H v H' => ∃ T c, v = .ref T ∧ H T = none ∧ z.cps[i]? = some c ∧ H' = upd H T (.tup [.int (i : Nat), .str ⟨#[c]⟩])) :=
  ⟨fun _ _ hi _ => hi, fun _ _ => rfl, fun _ _ _ _ _ _ y => y⟩
theorem WalkR.enumS {C : Pl} {F : Hp} {z : Str} : WalkR C F (enumP (chrs z)) (IteS z) := by
  refine ⟨z.cps.size, _, _, by rw [enumP_len, chrs_len], walk_enumS, fun F2 H2 s1 s2 => trivial, fun i F2 H2 v H3 hi s1 s2 y => ?_⟩
  obtain ⟨T, c, rfl, hT, ec, rfl⟩ := y
  obtain ⟨g, rp⟩ := pair_new (C := C) (x := .int (i : Nat)) (y := .str ⟨#[c]⟩) s2 hT rfl rfl
  exact ⟨_, _, enumP_get (chrs_get ec), g, rp⟩
def enum3 : List PV → DSt → R (List PV) := fun xs d1 => match xs with
  | [.lst xs] => .ok (enumP xs) d1
  | [.tup xs] => .ok (enumP xs) d1
  | [.str z] => .ok (enumP (chrs z)) d1
  | _ => .no
def iEnum3 (ms : AM) : AM := fun ρ d => (ms ρ d).bind enum3
@[simp] theorem iEnum3_x (ms : AM) (ρ : REnv) (d : DSt) : iEnum3 ms ρ d = (ms ρ d).bind enum3 := rfl
@[simp] theorem enum3_s (z : Str) (d : DSt) : enum3 [.str z] d = .ok (enumP (chrs z)) d := rfl
@[simp] theorem enum3_l (xs : List PV) (d : DSt) : enum3 [.lst xs] d = .ok (enumP xs) d := rfl
@[simp] theorem enum3_t (xs : List PV) (d : DSt) : enum3 [.tup xs] d = .ok (enumP xs) d := rfl
section
variable {X : Cx} {C : Pl} {B : Bp} {E : XS} {pos p tpos : Pos} {a b e : Expr} {m : EM} {ms : AM} {elts : List Expr} {kk : Nat}
theorem ri_enum3 (hK : X.K = C.K) (hg : Gl X "enumerate") (hm : X.mg "enumerate" = none) (ha : RA X C B E [a] ms) (hs : starEach [a] X.env = [(false, eval a X.env)] := by rfl) :
    RI X C B E (.Tuple elts kk tpos) (.Call (.Name "enumerate" p) [a] [] pos) (iEnum3 ms) := by
  refine PI.weak (pi_enumA3 hg hm ha hs) fun σ H R h => ?_
  obtain ⟨F, ρ, d, b, h⟩ := h
  refine ⟨F, ρ, d, b, (tK.bind (Rp := RepL C) h).imp fun vs H1 q => ?_⟩
  obtain ⟨F1, d1, xs, b1, g1, r1, k1⟩ := q
  unfold enum3 at k1
  split at k1
  · obtain ⟨v, r, rfl, ⟨a, vs, rfl, h2, h3⟩, hr⟩ := r1
    cases (show r = [] from hr)
    exact .inl ⟨a, vs, rfl, .inl ⟨by rw [hK]; exact (SqX.mono b1.fh h2).seq, k1.here b1 (WalkR.enumL hK h2.seq h3)⟩⟩
  · obtain ⟨v, r, rfl, ⟨a, vs, rfl, h2, h3⟩, hr⟩ := r1
    cases (show r = [] from hr)
    exact .inl ⟨a, vs, rfl, .inr ⟨by rw [hK]; exact Same.sqT b1.fh h2, k1.here b1 (WalkR.enumT hK h2 h3)⟩⟩
  · obtain ⟨v, r, rfl, hv, hr⟩ := r1
    cases (show r = [] from hr)
    cases hv
    exact .inr ⟨_, rfl, k1.here b1 WalkR.enumS⟩
  · exact k1.elim
end
end RL
end M_R52
section M_R53
/-! methods of a text -/
namespace RL
open PySem PySem.Spec PyProof.Rows L2
section
variable {X : Cx} {C : Pl} {B : Bp} {E : XS} {o e : Expr} {m mi : EM} {apos cpos : Pos}
def eStr1 (g : Str → Str → PV) (m mi : EM) : EM := fun ρ d => (m ρ d).bind fun x d1 => match x with
  | .str a => (mi ρ d1).bind fun y d2 => match y with
    | .str b => .ok (g a b) d2
    | _ => .no
  | _ => .no
@[simp] theorem eStr1_x (g : Str → Str → PV) (m mi : EM) (ρ : REnv) (d : DSt) : eStr1 g m mi ρ d = (m ρ d).bind fun x d1 => match x with
  | .str a => (mi ρ d1).bind fun y d2 => match y with
    | .str b => .ok (g a b) d2
    | _ => .no
  | _ => .no := rfl
theorem re_str1 {id : String} {name : Str} {g : Str → Str → PV} {gv : Str → Str → V} (slot : Slot "str" name id) (ty : typeOf (.builtin id) = pure (.type "method_descriptor")) (rule : MtR X id (fun x xs H Q => ∃ a b, x = .str a ∧ xs = [.str b] ∧ Q (gv a b) H))
    (rep : ∀ a b F, Rep C F (g a b) (gv a b)) (ho : RE X C B E o m) (he : RE X C B E e mi)
    (hs : starEach [e] X.env = [(false, eval e X.env)] := by rfl) (hbase : attributeBase o name X.env (eval o X.env) = eval o X.env := by rfl) (hline : (apos.endLine == cpos.line) = true := by rfl) :
    RE X C B E (.Call (.Attribute o name apos) [e] [] cpos) (eStr1 g m mi) := by
  refine PE.weak (pe_m1 slot ty rule ho he hs hbase hline) fun σ H Q h => ?_
  obtain ⟨F, ρ, d, b, h⟩ := h
  refine ⟨F, ρ, d, b, (tK.bind (Rp := Rep C) h).imp fun v H1 q => ?_⟩
  obtain ⟨F1, d1, x, b1, g1, r1, k1⟩ := q
  cases x with
  | str a =>
    refine ⟨⟨a, r1⟩, F1, ρ, d1, b.go b1 g1, (tK.bind (Rp := Rep C) k1).imp fun w H2 q => ?_⟩
    obtain ⟨F2, d2, y, b2, g2, r2, k3⟩ := q
    cases y with
    | str z =>
      cases r1; cases r2
      exact ⟨a, z, rfl, rfl, k3.here b2 (rep a z _)⟩
    | _ => exact k3.elim
  | _ => exact k1.elim
theorem re_scount (ho : RE X C B E o m) (he : RE X C B E e mi)
    (hs : starEach [e] X.env = [(false, eval e X.env)] := by rfl) (hbase : attributeBase o "count" X.env (eval o X.env) = eval o X.env := by rfl) (hline : (apos.endLine == cpos.line) = true := by rfl) :
    RE X C B E (.Call (.Attribute o "count" apos) [e] [] cpos) (eStr1 (fun a b => .int (Txt.count a b)) m mi) :=
  re_str1 (gv := fun a b => .int (Txt.count a b)) PySem.F.slot_str_count PySem.F.type_str_count L2.mt_count (fun _ _ _ => rfl) ho he hs hbase hline
theorem re_sstart (ho : RE X C B E o m) (he : RE X C B E e mi)
    (hs : starEach [e] X.env = [(false, eval e X.env)] := by rfl) (hbase : attributeBase o "startswith" X.env (eval o X.env) = eval o X.env := by rfl) (hline : (apos.endLine == cpos.line) = true := by rfl) :
    RE X C B E (.Call (.Attribute o "startswith" apos) [e] [] cpos) (eStr1 (fun a b => .bl (Txt.startswith a b)) m mi) :=
  re_str1 (gv := fun a b => .bl (Txt.startswith a b)) PySem.F.slot_str_startswith PySem.F.type_str_startswith L2.mt_startswith (fun _ _ _ => rfl) ho he hs hbase hline
end
end RL
end M_R53
section M_R54
/-! a, b, c, d = .., .., .., ..: by a tuple; new lists among them stay one's own -/
namespace RL
open PySem PySem.Spec PyProof.Rows L2
section
variable {X : Cx} {C : Pl} {B : Bp} {E : XS} {pos : Pos} {is : List MI}
theorem BR.mv4 {ρ : REnv} {σ : L2.St} {d : DSt} {F H : Hp} {s t r q : Sl} {u v w z : V} {i j l k : Nat} (h : BR C B (ρ ++ [s, t, r, q]) d (σ ++ [some u, some v, some w, some z]) F H) (hl : σ.length = ρ.length) (hi : i < ρ.length) (hj : j < ρ.length) (hk : l < ρ.length) (hm : k < ρ.length) (hij : i ≠ j) (hil : i ≠ l) (hjl : j ≠ l) (hik : i ≠ k) (hjk : j ≠ k) (hlk : l ≠ k) :
    BR C B ((((ρ.set i s).set j t).set l r).set k q) d ((((σ.set i (some u)).set j (some v)).set l (some w)).set k (some z)) F H := by
  have e1 : ρ ++ [s, t, r, q] = (ρ ++ [s, t, r]) ++ [q] := by simp
  have e2 : σ ++ [some u, some v, some w, some z] = (σ ++ [some u, some v, some w]) ++ [some z] := by simp
  rw [e1, e2] at h
  have y := h.mv (by simp [hl]) k
  rw [List.set_append_left _ _ hm, List.set_append_left _ _ (by omega)] at y
  have y2 := y.mv3 (i := i) (j := j) (l := l) (by simp [hl]) (by simpa using hi) (by simpa using hj) (by simpa using hk) hij hil hjl
  have c1 : (((ρ.set k q).set i s).set j t).set l r = (((ρ.set i s).set j t).set l r).set k q := by
    rw [List.set_comm _ _ (Ne.symm hik), List.set_comm _ _ (Ne.symm hjk), List.set_comm _ _ (Ne.symm hlk)]
  have c2 : (((σ.set k (some z)).set i (some u)).set j (some v)).set l (some w) = (((σ.set i (some u)).set j (some v)).set l (some w)).set k (some z) := by
    rw [List.set_comm _ _ (Ne.symm hik), List.set_comm _ _ (Ne.symm hjk), List.set_comm _ _ (Ne.symm hlk)]
  rw [c1, c2] at y2
  exact y2
theorem rs_par4 {i j l k : Nat} {x y z u : Str} {px py pz pu pt : Pos} {a b c e : Expr} {kt k2 pt2} (hK : X.K = C.K) (hc : X.calm = true) (hN : X.N.Nodup) (hi : X.N[i]? = some x) (hj : X.N[j]? = some y) (hl : X.N[l]? = some z) (hk : X.N[k]? = some u) (hij : i ≠ j) (hil : i ≠ l) (hjl : j ≠ l) (hik : i ≠ k) (hjk : j ≠ k) (hlk : l ≠ k)
    (hx : X.env.scope.names.lookup x = some .local) (hy : X.env.scope.names.lookup y = some .local) (hz : X.env.scope.names.lookup z = some .local) (hu : X.env.scope.names.lookup u = some .local) (ha : RM X C B E [a, b, c, e] is)
    (hn : (assignEach [Expr.Name x px, .Name y py, .Name z pz, .Name u pu] X.env).length = 4 := by rfl) (hst : (assignEach [Expr.Name x px, .Name y py, .Name z pz, .Name u pu] X.env).findIdx? (·.1) = none := by rfl)
    (hs4 : (assignEach [Expr.Name x px, .Name y py, .Name z pz, .Name u pu] X.env).map (·.2) = assign (.Name x px) X.env :: (assignEach [Expr.Name y py, .Name z pz, .Name u pu] X.env).map (·.2) := by rfl)
    (hs3 : (assignEach [Expr.Name y py, .Name z pz, .Name u pu] X.env).map (·.2) = assign (.Name y py) X.env :: (assignEach [Expr.Name z pz, .Name u pu] X.env).map (·.2) := by rfl)
    (hs2 : (assignEach [Expr.Name z pz, .Name u pu] X.env).map (·.2) = assign (.Name z pz) X.env :: (assignEach [Expr.Name u pu] X.env).map (·.2) := by rfl)
    (hs1 : (assignEach [Expr.Name u pu] X.env).map (·.2) = assign (.Name u pu) X.env :: (assignEach [] X.env).map (·.2) := by rfl)
    (hs : swapsWithSole [.Tuple [.Name x px, .Name y py, .Name z pz, .Name u pu] kt pt] (.Tuple [a, b, c, e] k2 pt2) pos.line X.env = pure false := by rfl) (hw : swappedStores [.Tuple [.Name x px, .Name y py, .Name z pz, .Name u pu] kt pt] (.Tuple [a, b, c, e] k2 pt2) X.env = pure none := by rfl)
    (h1 : (assignEach [.Tuple [.Name x px, .Name y py, .Name z pz, .Name u pu] kt pt] X.env).map (·.2) = [assign (.Tuple [.Name x px, .Name y py, .Name z pz, .Name u pu] kt pt) X.env] := by rfl) (hi2 : is.length = 4 := by rfl) :
    RSt X C B E (.Assign [.Tuple [.Name x px, .Name y py, .Name z pz, .Name u pu] kt pt] (.Tuple [a, b, c, e] k2 pt2) pos) (sPar [i, j, l, k] is) := by
  refine PS.weak (ps_asg (pe_tup ha) (pg_tup hc (pgs_cons (pg_name hN hi (.inl hx) (.inr hx)) (pgs_cons (pg_name hN hj (.inl hy) (.inr hy)) (pgs_cons (pg_name hN hl (.inl hz) (.inr hz)) (pgs_cons (pg_name hN hk (.inl hu) (.inr hu)) pgs_nil hs1) hs2) hs3) hs4) hn hst) hs hw h1) fun D σ H h => ?_
  obtain ⟨F, ρ, d, b0, h⟩ := h
  refine ⟨F, ρ, d, [], [], b0.len, by simpa using b0, ?_⟩
  unfold sPar at h
  split at h
  · rename_i hall
    simp only [List.all_cons, List.all_nil, Bool.and_true, Bool.and_eq_true, decide_eq_true_eq] at hall
    revert h
    cases q : mixR is ρ d with
    | ok ss d' =>
      have hlen := mixR_len q
      rw [hi2] at hlen
      intro h F' H' vs b1 s1 l1
      match ss, vs, hlen, l1 with
      | [s, t, r, p], [v1, v2, v3, v4], _, _ =>
        refine ⟨by show 4 ≤ sizeLine; decide, fun T hT => ?_⟩
        simp only [List.append_nil, List.map_cons, List.map_nil] at b1
        have b2 := b1.go (b1.g.junk (p := T) (o := .tup [v1, v2, v3, v4]) hT) (Go.junk b1.g.fh hT)
        refine ⟨T, [v1, v2, v3, v4], rfl, .inl (.inl (by rw [upd_same])), rfl, v1, [v2, v3, v4], rfl, v2, [v3, v4], rfl, v3, [v4], rfl, v4, [], rfl, rfl, ?_⟩
        exact h _ F' _ (b2.mv4 b0.len hall.1 hall.2.1 hall.2.2.1 hall.2.2.2 hij hil hjl hik hjk hlk) s1
    | ex e d' => exact fun h => h _
    | no => exact fun h => h
  · exact h.elim
end
end RL
end M_R54
section M_R55
/-! words of two letters -/
namespace RL
open PySem PySem.Spec PyProof.Rows L2
def cd (u : Bool) : Nat := if u then 117 else 100
/-- the word of these letters -/
def Wd (ws : List Bool) : Str := SX.S (ws.map cd)
theorem Wd_nil : Wd [] = ("" : Str) := by decide +kernel
theorem Wd_cat (a b : List Bool) : Wd a ++ Wd b = Wd (a ++ b) := by
  unfold Wd
  rw [SX.S_cat, List.map_append]
theorem Wd_len (ws : List Bool) : (Wd ws).length = ws.length := by simp [Wd, Str.length]
theorem Wd_chrs (ws : List Bool) : chrs (Wd ws) = ws.map fun u => .str (Wd [u]) := by
  unfold chrs Wd
  simp only [List.toList_toArray, List.map_map]
  rfl
theorem Wd_ok (ws : List Bool) : PyData.strOk (Wd ws) = true := by
  unfold PyData.strOk Wd
  rw [List.all_toArray]
  rw [List.all_eq_true]
  intro x hx
  obtain ⟨u, _, rfl⟩ := List.mem_map.mp hx
  cases u <;> decide
theorem Wd_u : Wd [true] = ("u" : Str) := by decide +kernel
theorem Wd_d : Wd [false] = ("d" : Str) := by decide +kernel
theorem cd_inj : ∀ {a b : List Bool}, a.map cd = b.map cd → a = b
  | [], [], _ => rfl
  | [], _ :: _, h => by simp at h
  | _ :: _, [], h => by simp at h
  | x :: a, y :: b, h => by
    simp only [List.map_cons, List.cons.injEq] at h
    rw [cd_inj h.2]
    have : x = y := by cases x <;> cases y <;> simp [cd] at h ⊢
    rw [this]
theorem Wd_inj {a b : List Bool} : Wd a = Wd b ↔ a = b := ⟨fun h => cd_inj (SX.S_inj h), fun h => by rw [h]⟩
theorem Wd_beq (a b : List Bool) : (Wd a == Wd b) = decide (a = b) := by
  rw [Bool.eq_iff_iff, beq_iff_eq, Wd_inj, decide_eq_true_iff]
theorem jl : ∀ ws : List Bool, TL.joinL [] (ws.map fun u => [cd u]) = ws.map cd
  | [] => rfl
  | [_] => rfl
  | x :: y :: r => by
    show [cd x] ++ ([] ++ TL.joinL [] ((y :: r).map fun u => [cd u])) = _
    rw [jl (y :: r)]; rfl
theorem Wd_join (ws : List Bool) : Txt.join ("" : Str) (ws.map fun u => Wd [u]) = Wd ws := by
  have e : ("" : Str) = SX.S [] := by decide +kernel
  have z := SX.join_S [] (ws.map fun u => [cd u])
  rw [List.map_map] at z
  rw [e]
  refine z.trans ?_
  unfold Wd
  rw [jl]
theorem Wd_count (ws : List Bool) (u : Bool) : Txt.count (Wd ws) (Wd [u]) = ((ws.count u : Nat) : Int) := by
  have z : ∀ ws : List Bool, PyProof.Rows.cnt (cd u) (ws.map cd) = ((ws.count u : Nat) : Int) := by
    intro ws
    induction ws with
    | nil => rfl
    | cons x r ih =>
      rw [List.map_cons, cnt_cons, ih, List.count_cons]
      cases x <;> cases u <;> simp [cd] <;> omega
  rw [show Wd [u] = ⟨#[cd u]⟩ from rfl, count_is]
  exact z ws
end RL
end M_R55
section M_R56
/-! found.append(stock.pop(i)) of two lists of one's own -/
namespace RL
open PySem PySem.Spec PyProof.Rows L2
section
variable {X : Cx} {C : Pl} {B : Bp} {E : XS} {pos : Pos} {e : Expr} {m : EM}
theorem RepL.eraseIdx {F : Hp} : ∀ {xs : List PV} {vs : List V} (i : Nat), RepL C F xs vs → RepL C F (xs.eraseIdx i) (vs.eraseIdx i)
  | [], vs, i, h => by
    cases (show vs = [] from h); exact RepL.nil
  | x :: xs, vs, 0, h => by
    obtain ⟨v, r, rfl, _, h2⟩ := h
    exact h2
  | x :: xs, vs, i + 1, h => by
    obtain ⟨v, r, rfl, h1, h2⟩ := h
    exact ⟨v, _, rfl, h1, RepL.eraseIdx i h2⟩
def sAppPop (i j : Nat) (m : EM) : SM := fun ρ d => match ρ[i]?, ρ[j]? with
  | some (.own l), some (.own s) => match m ρ d with
    | .ok (.int k) d' => if 0 ≤ k then match s[k.toNat]? with
      | some y => if l.length < LIM ∧ s.length < LIM then .nx ((ρ.set j (.own (s.eraseIdx k.toNat))).set i (.own (l ++ [y]))) d' else .no
      | none => .no
      else .no
    | .ok _ _ => .no
    | .ex e d' => .ex e d'
    | .no => .no
  | _, _ => .no
theorem rs_appPop (i j : Nat) {x z : Str} {p1 p2 p3 q1 q2 q3 : Pos} (hij : i ≠ j) (hN : X.N[i]? = some x) (hv : Vis X.env.scope x) (hNj : X.N[j]? = some z) (hvj : Vis X.env.scope z) (he : RE X C B E e m)
    (hbase : attributeBase (.Name x p1) "append" X.env (eval (.Name x p1) X.env) = eval (.Name x p1) X.env := by rfl)
    (hfew : ((backTo p3 (starEach (.Call (.Attribute (.Name z q1) "pop" q2) [e] [] q3 :: []) X.env)).all (fun x => !x.1) && (backToKw p3 (keywordEach [] X.env)).all (fun x => x.1.isSome)
      && decide ((Expr.Call (.Attribute (.Name z q1) "pop" q2) [e] [] q3 :: ([] : List Expr)).length + ([] : List Keyword).length + (if ([] : List Keyword).isEmpty then 0 else 1) < 30)) = true := by rfl)
    (hline : (p2.endLine == p3.line) = true := by rfl) (hs : starEach (.Call (.Attribute (.Name z q1) "pop" q2) [e] [] q3 :: []) X.env = (false, eval (.Call (.Attribute (.Name z q1) "pop" q2) [e] [] q3) X.env) :: starEach [] X.env := by rfl) (hplain : (backTo p3 (starEach [] X.env)).any (·.1) = false := by rfl)
    (hbase2 : attributeBase (.Name z q1) "pop" X.env (eval (.Name z q1) X.env) = eval (.Name z q1) X.env := by rfl)
    (hfew2 : ((backTo q3 (starEach (e :: []) X.env)).all (fun x => !x.1) && (backToKw q3 (keywordEach [] X.env)).all (fun x => x.1.isSome)
      && decide ((e :: ([] : List Expr)).length + ([] : List Keyword).length + (if ([] : List Keyword).isEmpty then 0 else 1) < 30)) = true := by rfl)
    (hline2 : (q2.endLine == q3.line) = true := by rfl) (hs2 : starEach (e :: []) X.env = (false, eval e X.env) :: starEach [] X.env := by rfl) (hplain2 : (backTo q3 (starEach [] X.env)).any (·.1) = false := by rfl)
    (hd : (x == ("__debug__" : Str)) = false := by decide) (hcd : (x == ("__classdict__" : Str)) = false := by decide) (hdj : (z == ("__debug__" : Str)) = false := by decide) (hcdj : (z == ("__classdict__" : Str)) = false := by decide)
    (hsw : swapsWith (.Call (.Attribute (.Name x p1) "append" p2) [.Call (.Attribute (.Name z q1) "pop" q2) [e] [] q3] [] p3) none pos.line X.env = pure false := by rfl) :
    RSt X C B E (.Expr (.Call (.Attribute (.Name x p1) "append" p2) [.Call (.Attribute (.Name z q1) "pop" q2) [e] [] q3] [] p3) pos) (sAppPop i j m) := by
  refine PS.weak (ps_expr (pe_bm PySem.F.plainAttrs_list PySem.F.slot_list_append PySem.F.type_list_append mt_append (pe_var hN hv hd hcd) (pa_cons
    (pe_bm PySem.F.plainAttrs_list PySem.F.slot_list_pop PySem.F.type_list_pop mt_popAt (pe_var hNj hvj hdj hcdj) (pa_cons he pa_nil hs2) hbase2 hfew2 hline2 hs2 hplain2) pa_nil hs) hbase hfew hline hs hplain) hsw) fun D σ H h => ?_
  obtain ⟨F, ρ, d, b, h⟩ := h
  unfold sAppPop at h
  split at h
  · rename_i l s el es
    obtain ⟨a, vs, e1, e2, r, k⟩ := b.put el
    obtain ⟨a', us, f1, f2, r', k'⟩ := b.put es
    refine ⟨.ref a, e1, .inl ⟨rfl, vs, SqL.of e2⟩, .ref a', f1, .inl ⟨rfl, us, SqL.of f2⟩, F, ρ, d, b, ?_⟩
    revert h
    cases m ρ d with
    | ok y d' =>
      intro h F' H' v b' g rv
      cases y with
      | int n =>
        have h' : tKS C B E (if 0 ≤ n then match s[n.toNat]? with
          | some y => if l.length < LIM ∧ s.length < LIM then .nx ((ρ.set j (.own (s.eraseIdx n.toNat))).set i (.own (l ++ [y]))) d' else .no
          | none => .no
          else .no) F H D := h
        split at h'
        · rename_i hn
          split at h'
          · rename_i y ey
            split at h'
            · rename_i hl
              cases rv
              obtain ⟨us', g3, s3, k3⟩ := b.own_later b' g es f1
              obtain ⟨w, ew, rw'⟩ := s3.get ey
              have b2 := k3 _ _ (s3.eraseIdx n.toNat)
              have eli : (ρ.set j (.own (s.eraseIdx n.toNat)))[i]? = some (.own l) := by rw [List.getElem?_set_ne (Ne.symm hij)]; exact el
              obtain ⟨a1, vs', g1, g2, t3, k4⟩ := b2.put eli
              rw [e1] at g1
              cases g1
              have hlt := (List.getElem?_eq_some_iff.mp ey).1
              have hlen := s3.length
              have hN : (LIM : Nat) = 100000 := rfl
              refine ⟨a', us', n, n.toNat, w, rfl, rfl, g3, by omega, by omega, ?_, ew, ?_⟩
              · unfold seqIndex?
                have q1 : ¬ n < 0 := by omega
                have q2 : n < (us'.length : Int) := by omega
                simp only [if_neg q1, hn, q2, decide_true, Bool.and_self, if_true]
              · refine ⟨a, vs', w, rfl, rfl, g2, ?_, h' σ F' _ (k4 _ _ (t3.append ⟨_, _, rfl, rw', rfl⟩)) g.s⟩
                rw [← t3.length]
                have := LIM_le
                omega
            · exact h'.elim
          · exact h'.elim
        · exact h'.elim
      | _ => exact h.elim
    | ex e d' => exact fun h _ _ _ _ b _ r => h _ _ _ _ _ b r
    | no => exact fun h => h
  · exact h.elim
end
end RL
end M_R56
section M_R57
/-! list(x): a new list of one's own -/
namespace RL
open PySem PySem.Spec PyProof.Rows L2
section
variable {X : Cx} {C : Pl} {B : Bp} {E : XS} {pos : Pos} {a : Expr} {m : EM}
def aListOf (m : EM) : AM := fun ρ d => (m ρ d).bind fun x d1 => match x with
  | .lst xs => .ok xs d1
  | .tup xs => .ok xs d1
  | _ => .no
@[simp] theorem aListOf_x (m : EM) (ρ : REnv) (d : DSt) : aListOf m ρ d = (m ρ d).bind fun x d1 => match x with
  | .lst xs => .ok xs d1
  | .tup xs => .ok xs d1
  | _ => .no := rfl
theorem rf_listOf {p : Pos} (hK : X.K = C.K) (hg : Gl X "list") (hm : X.mg "list" = none) (ha : RE X C B E a m)
    (hs : starEach (a :: []) X.env = (false, eval a X.env) :: starEach [] X.env := by rfl) (hpl : (backTo pos (starEach [] X.env)).any (·.1) = false := by rfl) : RFr X C B E (.Call (.Name "list" p) [a] [] pos) (aListOf m) := by
  refine PE.weak (pe_callTyS (fun pins s σ H xs us Q I r h => call_list_of pins s σ H xs us Q I r h) hg hm (by rfl) (pa_cons ha pa_nil hs) (by decide) (by decide) hs hpl) fun σ H Q h => ?_
  obtain ⟨F, ρ, d, b, h⟩ := h
  refine ⟨F, ρ, d, b, ?_⟩
  unfold aListOf at h
  revert h
  cases m ρ d with
  | ok x d' =>
    intro h F' H' v b' g r
    have fin : ∀ xs (q : Addr) (vs : List V), v = .ref q → (SqL X.K H' q vs ∨ SqT X.K H' q vs) → RepL C F' xs vs → tKF C B (E σ) (R.ok xs d') F H Q → ∃ a ws, [v] = [V.ref a] ∧ (SqL X.K H' a ws ∨ SqT X.K H' a ws) ∧ ∀ p, H' p = none → Q (.ref p) (upd H' p (.lst ws)) := by
      intro xs q vs ev hq rl k
      refine ⟨q, vs, by rw [ev], hq, fun p hp => ?_⟩
      refine k F' (upd H' p (.lst vs)) p vs (b'.junk hp) (g.trans (Go.junk b'.fh hp)) ?_ upd_same (b'.F_none hp) rl
      cases q : H p with
      | none => rfl
      | some o =>
        obtain ⟨o', e'⟩ := g.t p o q
        rw [hp] at e'; cases e'
    cases x with
    | lst xs =>
      obtain ⟨p, vs, rfl, f1, q1⟩ := r
      exact fin xs p vs rfl (.inl (by rw [hK]; exact (SqX.mono b'.fh f1).seq)) q1 h
    | tup xs =>
      obtain ⟨p, vs, rfl, f1, q1⟩ := r
      exact fin xs p vs rfl (.inr (by rw [hK]; exact Same.sqT b'.fh f1)) q1 h
    | _ => exact h.elim
  | ex e d' => exact fun h => h
  | no => exact fun h => h
end
end RL
end M_R57
section M_R58
/-! text * number -/
namespace RL
open PySem PySem.Spec PyProof.Rows L2
section
variable {X : Cx} {C : Pl} {E : XS}
def repS (k : Int) (x : Str) : Str := if k < 1 then Str.empty else if (k == 1 || x.length == 0) = true then x else ⟨(List.replicate k.toNat x.cps).foldl (· ++ ·) #[]⟩
def oMulS : PV → PV → O
  | .str x, .int k => if -1000000 < k ∧ k < 1000 ∧ x.length < 1000 then .ok (.str (repS k x)) else .no
  | _, _ => .no
@[simp] theorem oMulS_x (x : Str) (k : Int) : oMulS (.str x) (.int k) = if -1000000 < k ∧ k < 1000 ∧ x.length < 1000 then .ok (.str (repS k x)) else .no := rfl
theorem rep_size (a : Array Nat) : ∀ (k : Nat) (acc : Array Nat), (List.foldl (fun x1 x2 => x1 ++ x2) acc (List.replicate k a)).size = acc.size + k * a.size
  | 0, acc => by simp
  | k + 1, acc => by
    rw [List.replicate_succ, List.foldl_cons, rep_size a k, Array.size_append, Nat.succ_mul]
    omega
theorem op2_mulS : Op2 X C E (binaryOp .Mult) oMulS := by
  intro B pins s σ H x y v u Q I rx ry h
  obtain ⟨F, d, px, py, b, r1, r2, h⟩ := h
  unfold oMulS at h
  split at h
  · rename_i x n
    split at h
    · rename_i e
      cases r1; cases r2
      obtain ⟨t, rfl⟩ := rx
      obtain ⟨t', rfl⟩ := ry
      obtain ⟨e1, e2, e3⟩ := e
      have q := h.here b (show Rep C F (.str (repS n x)) (V.str (repS n x)) from rfl)
      have lt1 : ¬ n < -(2 ^ 63 : Int) := by omega
      have lt2 : ¬ n ≥ 2 ^ 63 := by omega
      refine PySem.P.mul_str (by rw [decide_eq_false lt1, decide_eq_false lt2]; rfl) (fun h1 _ => ?_) (fun h1 _ => ?_) ?_
      · have : (x.length : Int) ≤ 1000 := by omega
        have h2 : (1000 : Int) ≤ (2 ^ 63 - 1) / n := Int.le_ediv_of_mul_le (by omega) (by omega)
        omega
      · have : x.length * n.toNat ≤ 1000 * 1000 := Nat.mul_le_mul (by omega) (by omega)
        exact decide_eq_false (by rw [sizeLine_eq]; omega)
      · unfold repS at q
        split
        · rename_i h1
          rw [if_pos h1] at q
          exact ⟨by decide, V.str Str.empty, H, I.tok _, ⟨_, rfl⟩, q⟩
        · rename_i h1
          rw [if_neg h1] at q
          split
          · rename_i h2
            rw [if_pos h2] at q
            exact ⟨V.str x, H, I.tok _, ⟨_, rfl⟩, q⟩
          · rename_i h2
            rw [if_neg h2] at q
            refine ⟨?_, V.str _, H, I.tok _, ⟨_, rfl⟩, q⟩
            show (List.foldl (fun x1 x2 => x1 ++ x2) #[] (List.replicate n.toNat x.cps)).size ≤ _
            rw [rep_size]
            have : n.toNat * x.cps.size ≤ 1000 * 1000 := Nat.mul_le_mul (by omega) (Nat.le_of_lt e3)
            rw [sizeLine_eq]
            simp
            omega
    · exact h.elim
  · exact h.elim
end
end RL
end M_R58
section M_R59
/-! {s1: t1, s2: t2}[x] of texts -/
namespace RL
open PySem PySem.Spec PyProof.Rows L2
section
variable {X : Cx} {C : Pl} {B : Bp} {E : XS} {pos : Pos} {i : Expr} {mi : EM}
def dixS (a x b y : Str) : PV → O
  | .str z => if z = a then .ok (.str x) else if z = b then .ok (.str y) else .no
  | _ => .no
def eDixS (a x b y : Str) (mi : EM) : EM := fun ρ d => (mi ρ d).bind fun z d1 => (dixS a x b y z).r d1
@[simp] theorem eDixS_x (a x b y : Str) (mi : EM) (ρ : REnv) (d : DSt) : eDixS a x b y mi ρ d = (mi ρ d).bind fun z d1 => (dixS a x b y z).r d1 := rfl
theorem BR.unds {ρ : REnv} {σ : L2.St} {d : DSt} {F H : Hp} (b : BR C B ρ d σ F H) {p : Addr} (hp : H p = none) : ¬ B.ds p := fun z => by
  obtain ⟨o, e'⟩ := b.g.there (.inl z)
  rw [hp] at e'; cases e'
theorem re_dixS {a x b y : Str} {j1 j2 j3 j4 p1 p2 p3 p4 dp} (hu : X.A.units + 1 < cLine) (hab : a ≠ b) (hi : RE X C B E i mi) (hs : NoSl i := by intro _ _; rfl) :
    RE X C B E (.Subscript (.Dict [some (.Constant (.str a) j1 p1), some (.Constant (.str b) j2 p2)] [.Constant (.str x) j3 p3, .Constant (.str y) j4 p4] dp) i pos) (eDixS a x b y mi) := by
  refine PE.weak (pe_dget hu (pe_disp (pps_cons pe_str pe_str (pps_cons pe_str pe_str pps_nil)) rfl rfl (by simp) (by simp)) hi hs) fun σ H Q h => ?_
  obtain ⟨F, ρ, d, br, h⟩ := h
  intro p hp
  refine ⟨upd_same, [(.inr a, .str x), (.inr b, .str y)], rfl, by simp, ?_⟩
  rw [upd_upd]
  generalize hk : mergeK ([] : List (Key × V)) [(.inr a, .str x), (.inr b, .str y)] = kvs
  have ek : kvs = [(.inr a, .str x), (.inr b, .str y)] := by
    rw [← hk]
    have hab' : (Sum.inr a : Key) ≠ Sum.inr b := fun z => hab (Sum.inr.inj z)
    simp [mergeK, putK, hab]
  subst ek
  have b2 := br.go (br.g.junk (p := p) (o := .dK [(.inr a, .str x), (.inr b, .str y)]) hp) (Go.junk br.g.fh hp)
  refine ⟨F, ρ, d, b2, ?_⟩
  have gj : Go C B F H F (upd H p (.dK [(.inr a, .str x), (.inr b, .str y)])) := Go.junk br.g.fh hp
  unfold eDixS at h
  revert h
  cases mi ρ d with
  | ok z d' =>
    intro h F' H' v b' g r
    have pk : H' p = some (.dK [(.inr a, .str x), (.inr b, .str y)]) := g.k p _ (br.g.F_none hp) upd_same (br.unds hp)
    rw [R.bind_ok] at h
    cases z with
    | str z =>
      cases r
      have h' : tK C B (E σ) (Rep C) ((if z = a then O.ok (.str x) else if z = b then O.ok (.str y) else .no).r d') F H Q := h
      by_cases q1 : z = a
      · rw [if_pos q1] at h'
        refine ⟨p, .str x, rfl, .inl ⟨_, .inr z, .inl pk, rfl, ?_⟩, h' F' H' _ b' (gj.trans g) rfl⟩
        simp [valV, q1]
      · rw [if_neg q1] at h'
        by_cases q2 : z = b
        · rw [if_pos q2] at h'
          refine ⟨p, .str y, rfl, .inl ⟨_, .inr z, .inl pk, rfl, ?_⟩, h' F' H' _ b' (gj.trans g) rfl⟩
          subst q2
          simp [valV, Ne.symm q1, hab]
        · rw [if_neg q2] at h'
          exact h'.elim
    | _ => exact h.elim
  | ex e d' => exact fun h F' H' cls dd b' g r => h F' H' cls dd b' (gj.trans g) r
  | no => exact fun h => h
end
end RL
end M_R59
section M_R60
/-! len(x) of a list of one's own -/
namespace RL
open PySem PySem.Spec PyProof.Rows L2
section
variable {X : Cx} {C : Pl} {B : Bp} {E : XS} {pos p1 p4 : Pos} {x : Str}
def eOlen (i : Nat) : EM := fun ρ d => match ρ[i]? with
  | some (.own l) => .ok (.int l.length) d
  | _ => .no
@[simp] theorem eOlen_x (i : Nat) (ρ : REnv) (d : DSt) : eOlen i ρ d = match ρ[i]? with
  | some (.own l) => .ok (.int l.length) d
  | _ => .no := rfl
theorem re_olen (i : Nat) (hN : X.N[i]? = some x) (hv : Vis X.env.scope x) (hg : Gl X "len") (hm : X.mg "len" = none)
    (he : starEach [.Name x p1] X.env = (false, eval (.Name x p1) X.env) :: starEach [] X.env := by rfl)
    (hd : (x == ("__debug__" : Str)) = false := by decide) (hcd : (x == ("__classdict__" : Str)) = false := by decide) :
    RE X C B E (.Call (.Name "len" p4) [.Name x p1] [] pos) (eOlen i) := by
  refine PE.weak (pe_callB call_len_seq hg hm rfl (pa_cons (pe_var hN hv hd hcd) pa_nil he) (by decide) (by decide) he rfl) fun σ H Q h => ?_
  obtain ⟨F, ρ, d, b, h⟩ := h
  unfold eOlen at h
  split at h
  · rename_i l ei
    obtain ⟨a, vs, eσ, w, eH, rl, _⟩ := b.own_at ei
    refine ⟨.ref a, eσ, a, vs, rfl, .inl (SqL.of eH), h.here b.g ?_⟩
    rw [← rl.length]; rfl
  · exact h.elim
end
end RL
end M_R60
section M_R61
/-! the head's run, looked at in parts -/
namespace RL
open PySem PySem.W PySem.Calls PyProof.Rows L2
def KY (s : PySem.W.SharedT) : PySem.W.Frag := He.frG (HandSHeadRun.getT s) (asY (HandSHeadRun.getT s) 5)
theorem run_parts {r : PySem.W.OpenRow} {q : Program} {loose : List Str} {M : Nat} {w : World} {fs : PySem.W.Frag → List Bool} {ds : List Da}
    (h1 : ∀ os : OsState, (HandSHeadRun.endF (HandSHeadRun.stepQ (HandSHeadRun.denQ HandSHeadRun.tabQ) r.prog w) M r.prog w os).map (fun s => (HandSHeadRun.looksF r.prog (boot_heap w.params) s.abs, HandSHeadRun.seenQ q loose (importedModules r.prog.main.body) (fun s => xlAt q [] s && recOk r.toRowW.records s) s.abs)) = some (true, openGood q loose))
    (h2 : ∀ os : OsState, (HandSHeadRun.endF (HandSHeadRun.stepQ (HandSHeadRun.denQ HandSHeadRun.tabQ) r.prog w) M r.prog w os).map (fun s => (fs (KY s)).all id) = some true)
    (h3 : ∀ os : OsState, (HandSHeadRun.endF (HandSHeadRun.stepQ (HandSHeadRun.denQ HandSHeadRun.tabQ) r.prog w) M r.prog w os).map (fun s => (ds.all fun d => d.ok (KY s), ds.map fun d => fnA (KY s) (d.at_ (KY s)))) = some (true, ds.map Da.val)) :
    HandSHeadRun.RunEq r q (hookY 5 fs ds) (fun s => obsYG 5 fs ds (HandSHeadRun.getT s)) M loose w := by
  intro os
  have a := h1 os; have b := h2 os; have c := h3 os
  revert a b c
  cases HandSHeadRun.endF (HandSHeadRun.stepQ (HandSHeadRun.denQ HandSHeadRun.tabQ) r.prog w) M r.prog w os with
  | none => intro a; cases a
  | some s =>
    intro a b c
    have a := Option.some.inj a
    have b : (fs (KY s)).all id = true := Option.some.inj b
    have c := Option.some.inj c
    show some (_, _, obsYG 5 fs ds (HandSHeadRun.getT s)) = some (true, openGood q loose, valX ds)
    have e : obsYG 5 fs ds (HandSHeadRun.getT s) = ((fs (KY s)).all id && ds.all fun d => d.ok (KY s), ds.map fun d => fnA (KY s) (d.at_ (KY s))) := rfl
    have c1 := congrArg Prod.fst c
    have c2 := congrArg Prod.snd c
    simp only at c1 c2
    have a1 := congrArg Prod.fst a
    have a2 := congrArg Prod.snd a
    simp only at a1 a2
    rw [e, b, c1, c2, a1, a2]
    rfl
theorem run_fs {r : PySem.W.OpenRow} {M : Nat} {w : World} {os : OsState} {fs : PySem.W.Frag → List Bool} (a : Nat)
    (h1 : (HandSHeadRun.endF (HandSHeadRun.stepQ (HandSHeadRun.denQ HandSHeadRun.tabQ) r.prog w) M r.prog w os).map (fun s => ((fs (KY s)).take a).all id) = some true)
    (h2 : (HandSHeadRun.endF (HandSHeadRun.stepQ (HandSHeadRun.denQ HandSHeadRun.tabQ) r.prog w) M r.prog w os).map (fun s => ((fs (KY s)).drop a).all id) = some true) :
    (HandSHeadRun.endF (HandSHeadRun.stepQ (HandSHeadRun.denQ HandSHeadRun.tabQ) r.prog w) M r.prog w os).map (fun s => (fs (KY s)).all id) = some true := by
  revert h1 h2
  cases HandSHeadRun.endF (HandSHeadRun.stepQ (HandSHeadRun.denQ HandSHeadRun.tabQ) r.prog w) M r.prog w os with
  | none => intro a; cases a
  | some s =>
    intro b c
    have b : ((fs (KY s)).take a).all id = true := Option.some.inj b
    have c : ((fs (KY s)).drop a).all id = true := Option.some.inj c
    show some ((fs (KY s)).all id) = some true
    rw [← List.take_append_drop a (fs (KY s)), List.all_append, b, c]
    rfl
theorem run_ds {r : PySem.W.OpenRow} {M : Nat} {w : World} {os : OsState} {ds : List Da} (a : Nat)
    (h1 : (HandSHeadRun.endF (HandSHeadRun.stepQ (HandSHeadRun.denQ HandSHeadRun.tabQ) r.prog w) M r.prog w os).map (fun s => ((ds.take a).all fun d => d.ok (KY s), (ds.take a).map fun d => fnA (KY s) (d.at_ (KY s)))) = some (true, (ds.take a).map Da.val))
    (h2 : (HandSHeadRun.endF (HandSHeadRun.stepQ (HandSHeadRun.denQ HandSHeadRun.tabQ) r.prog w) M r.prog w os).map (fun s => ((ds.drop a).all fun d => d.ok (KY s), (ds.drop a).map fun d => fnA (KY s) (d.at_ (KY s)))) = some (true, (ds.drop a).map Da.val)) :
    (HandSHeadRun.endF (HandSHeadRun.stepQ (HandSHeadRun.denQ HandSHeadRun.tabQ) r.prog w) M r.prog w os).map (fun s => (ds.all fun d => d.ok (KY s), ds.map fun d => fnA (KY s) (d.at_ (KY s)))) = some (true, ds.map Da.val) := by
  revert h1 h2
  cases HandSHeadRun.endF (HandSHeadRun.stepQ (HandSHeadRun.denQ HandSHeadRun.tabQ) r.prog w) M r.prog w os with
  | none => intro a; cases a
  | some s =>
    intro b c
    have b := Option.some.inj b
    have c := Option.some.inj c
    have b1 : ((ds.take a).all fun d => d.ok (KY s)) = true := congrArg Prod.fst b
    have b2 : ((ds.take a).map fun d => fnA (KY s) (d.at_ (KY s))) = (ds.take a).map Da.val := congrArg Prod.snd b
    have c1 : ((ds.drop a).all fun d => d.ok (KY s)) = true := congrArg Prod.fst c
    have c2 : ((ds.drop a).map fun d => fnA (KY s) (d.at_ (KY s))) = (ds.drop a).map Da.val := congrArg Prod.snd c
    show some (_, _) = some (_, _)
    have e1 : (ds.all fun d => d.ok (KY s)) = true := by
      rw [← List.take_append_drop a ds, List.all_append, b1, c1]; rfl
    have e2 : (ds.map fun d => fnA (KY s) (d.at_ (KY s))) = ds.map Da.val := by
      have z : ((ds.take a ++ ds.drop a).map fun d => fnA (KY s) (d.at_ (KY s))) = (ds.take a ++ ds.drop a).map Da.val := by rw [List.map_append, List.map_append, b2, c2]
      rwa [List.take_append_drop] at z
    rw [e1, e2]
end RL
end M_R61
section M_R62
/-! an exception that was caught is known from then on -/
namespace RL
open PySem PySem.Spec PyProof.Rows L2
theorem exv_ext {cls : Value} {d : Option Addr} {a : Addr} {o : HO} (h : ExV cls d a = o) (n : ∀ φ, o ≠ .ext φ) : False := n _ h.symm
section
variable {X : Cx} {pins : List (Addr × Obj)} {σ : L2.St} {H : Hp} {s : Shared}
theorem exv_track {a : Addr} {oe : Obj} {vs : Array Value} {cls : Value} {d : Option Addr} (I : Inv X pins σ H s) (na : H a = none) (ha : s.heap.get? a = some oe) (hz : Zc cls d oe) (hd : oe.data = .fields vs)
    (n0 : X.s_0.heap.get? a = none) (nL : a ≠ X.env.locals) (np : ∀ p ∈ X.pn ++ pins, p.1 ≠ a) : Inv X pins σ (upd H a (ExV cls d a)) s := by
  have off : ∀ {b : Addr} {u : HO}, H b = some u → b ≠ a := fun {b u} e z => by rw [z, na] at e; cases e
  have hok : HOk X.prog X.w (upd H a (ExV cls d a)) s.heap := fun b u e => by
    by_cases q : b = a
    · subst q
      rw [upd_same] at e
      cases e
      exact ⟨⟨oe, vs, ha, hz.1, hz.2, hd⟩, ⟨oe, ha⟩, fun _ _ ⟨o1, v1, q1, q2⟩ st => ⟨o1, v1, st _ q1, q2⟩⟩
    · rw [upd_ne q] at e
      exact (I.hok b u e).stay (fun _ _ _ z => z) (fun c z => by rw [upd_ne (off z)]; exact z) fun c xs z => by rw [upd_ne (off z)]; exact z
  have base : Un X.fs X.ex X.H_0 (upd H a (ExV cls d a)) X.s_0.heap s.heap := {
    keep := I.base.keep, slot := I.base.slot, there := I.base.there
    free := fun b o e n q => by
      have : b ≠ a := fun z => by rw [z, n0] at e; cases e
      rw [upd_ne this]; exact I.base.free b o e n q
    tups := fun b xs e => by have z := I.base.tups b xs e; rw [upd_ne (off z)]; exact z
    frzs := fun b o u e => by have z := I.base.frzs b o u e; rw [upd_ne (off z)]; exact z
    tbls := fun b ps e => by
      obtain ⟨more, z⟩ := I.base.tbls b ps e
      exact ⟨more, by rw [upd_ne (off z)]; exact z⟩ }
  exact { ok := I.ok, os := I.os, bare := I.bare, base := base, loc := I.loc, cell := I.cell, hok := hok, len := I.len
          free := by rw [upd_ne (fun z => nL z.symm)]; exact I.free
          freeC := fun x c e => by
            have : c ≠ a := fun z => by
              obtain ⟨v, o, q1, q2⟩ := I.cell x c e
              rw [z, ha] at q1
              cases q1
              rw [hd] at q2; cases q2
            rw [upd_ne this]; exact I.freeC x c e
          pin := fun p hp => by
            obtain ⟨q1, q2, q3⟩ := I.pin p hp
            exact ⟨q1, by rw [upd_ne (np p hp)]; exact q2, q3⟩ }
end
/-- what 'except x as n: y = n' wishes of an exception of the body: n's slot is i, y's is j -/
def wKp (K : PySem.W.Frag) (c : Value) (i j : Nat) (D : Ends) : WX := fun cls d σ H =>
  PySem.W.exmOne K cls c = some true ∧ ∀ a, H a = none → D.nx ((σ.set j (some (.ref a))).set i none) (upd H a (ExV cls d a))
section
variable {X : Cx} {x n y : Str} {c : Value} {i j : Nat} {body : List Stmt} {np yp ep ap pos pos' : Pos} {tb : WX → TS}
/-- the suite: y = n -/
theorem kept_suite {X : Cx} (hN : X.N.Nodup) (hi : X.N[i]? = some n) (hn : X.env.kindOf n = some .local) (hj : X.N[j]? = some y) (hy : X.env.kindOf y = some .local)
    (hdn : (n == ("__debug__" : Str)) = false) (hcn : (n == ("__classdict__" : Str)) = false) (hsw : swapsWith (.Name n ep) (some (.Name y yp)) ap.line X.env = pure false) :
    PSs X [.Assign [.Name y yp] (.Name n ep) ap] (fun D σ H => tAsg (tVar i) (gName j) D σ H) :=
  pss_one (ps_set hN hj (.inl hy) (pe_var hi (.inl hn) hdn hcn) hsw (.inr hy))
end
end RL
end M_R62
section M_R63
/-! try: body / except x as n: y = n -/
namespace RL
open PySem PySem.Spec PyProof.Rows L2
/-- an exception's object is no frame -/
theorem fields_nofr {B h : Heap} {l : List Env} {a : Addr} {o : Obj} {vs : Array Value} (ff : h.FunFrames B l) (e : h.get? a = some o) (dd : o.data = .fields vs) : a ∉ frs l := fun hm => by
  obtain ⟨_, o2, e2, no⟩ := ff.mem hm
  cases e.symm.trans e2
  exact no _ dd
section
variable {X : Cx} {x n y : Str} {c : Value} {i j : Nat} {body : List Stmt} {np yp ep ap pos pos' : Pos} {tb : WX → TS}
theorem catch_keep {pins : List (Addr × Obj)} {D : Ends} {xe : Value → Shared → Prop} {u : Value} {s' : Shared} (ok : X.Ok) (hs : X.stack = X.env :: X.outer) (hf : X.env.frame = some X.env.locals) (hx : X.ex = []) (hN : X.N.Nodup) (hi : X.N[i]? = some n) (hn : X.env.kindOf n = some .local) (hj : X.N[j]? = some y) (hy : X.env.kindOf y = some .local) (hij : i ≠ j)
    (hg : Gl X x) (hm : X.mg x = some c) (hdx : (x == ("__debug__" : Str)) = false) (hdn : (n == ("__debug__" : Str)) = false) (hcn : (n == ("__classdict__" : Str)) = false)
    (hsw : swapsWith (.Name n ep) (some (.Name y yp)) ap.line X.env = pure false) (t : XE (X.tr (X.pn ++ pins) xe) (wKp X.K c i j D) u s') :
    wpAny (model X.prog X.w) X.A (noteFrame u X.env) (fun _ s2 => wpAny (model X.prog X.w) X.A (setFlight u none) (fun _ s3 =>
      wpAny (model X.prog X.w) X.A (handleBy u X.env [.ExceptHandler (some (.Name x np)) (some n) [.Assign [.Name y yp] (.Name n ep) ap] pos']) (SP X pins D) X.xe s3) X.xe s2) X.xe s' := by
  obtain ⟨a, B, sI, _, σ1, H1, cls, d, rfl, J0, nb, up, sky, na, os, ag, hyes, go⟩ := t
  have J : Inv X pins σ1 H1 sI := J0.ofTry ok
  have air : Sky B (X.env :: X.outer) a (Zc cls d) X.env.locals s'.heap := by
    have z : Sky B X.stack a (Zc cls d) X.env.locals s'.heap := sky
    rw [hs] at z; exact z
  have fr : X.A.frames = some (X.env :: X.outer) := by rw [ok.frames, hs]
  refine Sky.land Zc.steady fr hf air fun h3 f3 u3 => ?_
  have J3 : Inv X pins σ1 H1 { s' with heap := h3 } := J.landed nb f3.1 (up.trans u3) os ag
  obtain ⟨o3, v3, g3, z3, d3⟩ := f3.there
  have nfr : a ∉ frs (X.env :: X.outer) := fields_nofr f3.2.2.1 g3 d3
  have nL : a ≠ X.env.locals := fun z => nfr (List.mem_filterMap.mpr ⟨X.env, List.mem_cons_self, by rw [hf, z]⟩)
  have nF : a ∉ X.fs := fun q => by
    obtain ⟨e, he, z⟩ := List.mem_filterMap.mp q
    exact nfr (List.mem_filterMap.mpr ⟨e, List.mem_cons_of_mem _ he, z⟩)
  have newI : ∀ o, sI.heap.get? a ≠ some o := fun o z => by
    have := nb a o z (by rw [hs]; exact nfr)
    rw [f3.2.1] at this; cases this
  have new0 : X.s_0.heap.get? a = none := by
    cases q : X.s_0.heap.get? a with
    | none => rfl
    | some o =>
      obtain ⟨o', z⟩ := J.base.there a o q (by rw [hx]; simp)
      exact absurd z (newI o')
  have newP : ∀ p ∈ X.pn ++ pins, p.1 ≠ a := fun p hp z => newI p.2 (by rw [← z]; exact (J.pin p hp).1)
  have S3 := J3.suite g3 d3 na nL nF
  have look : PySem.W.Looks (model X.prog X.w) h3 (typeOf (.ref a)) cls := fun A Q E s k q => wpAny_typeOf_ref (k _ _ g3) (by rw [z3.1]; exact q)
  have yes := PySem.W.exm_one (M := model X.prog X.w) J3.kIn look hyes
  refine wpAny_handleBy_cons (codeAny_handlers_test (ld_glob (X := X.suite a ((a, o3) :: (X.pn ++ pins))) S3 hg hm (yes.here ?_) hdx)) (fun q => by cases q)
  refine codeAny_handlers_suite_as (HandSPX.lands_againZ f3 fun h4 f4 u4 => ?_)
  have J4 : Inv X pins σ1 H1 { s' with heap := h4 } := J.landed nb f4.1 ((up.trans u3).trans u4) os ag
  obtain ⟨o4, v4, g4, z4, d4⟩ := f4.there
  refine store_ok (X := X.suite a ((a, o4) :: (X.pn ++ pins))) (v := .ref a) (J4.suite g4 d4 na nL nF) hN hi (.inl hn) rfl (fun s5 S5 => ?_) (.inr hn)
  have li : i < σ1.length := by rw [J.len]; exact (List.getElem?_eq_some_iff.mp hi).1
  have run := (kept_suite (X := X.suite a ((a, o4) :: (X.pn ++ pins))) (ep := ep) (yp := yp) (ap := ap) hN hi hn hj hy hdn hcn hsw).run [] s5 _ H1
    { nx := fun σ6 H6 => σ6 = (σ1.set i (some (.ref a))).set j (some (.ref a)) ∧ H6 = H1, rt := fun _ _ => False } S5 ⟨.ref a, by simp [li], rfl, rfl⟩
  refine wpAny_mono run (fun f s6 q => ?_) (fun _ _ z => z.elim)
  cases f with
  | next =>
    obtain ⟨σ6, H6, S6, rfl, rfl⟩ := q
    have pa := S6.pin (a, o4) (List.mem_append_left _ List.mem_cons_self)
    have T6 := exv_track (S6.unsuite ok) na pa.1 z4 d4 new0 nL newP
    refine gone_ok T6 hN hi hn fun s7 J7 => ⟨_, _, J7, ?_⟩
    have e : List.set ((σ1.set i (some (V.ref a))).set j (some (V.ref a))) i none = (σ1.set j (some (.ref a))).set i none := by
      rw [List.set_comm _ _ hij, List.set_set]
    rw [e]
    exact go a na
  | ret u =>
    obtain ⟨_, _, _, _, _, z⟩ := q
    exact z.elim
  | brk =>
    obtain ⟨_, _, _, z⟩ := q
    exact z.elim
  | cont =>
    obtain ⟨_, _, _, z⟩ := q
    exact z.elim
theorem ps_try_keep (hs : X.stack = X.env :: X.outer) (hf : X.env.frame = some X.env.locals) (hx : X.ex = []) (hN : X.N.Nodup) (hi : X.N[i]? = some n) (hn : X.env.kindOf n = some .local) (hj : X.N[j]? = some y) (hy : X.env.kindOf y = some .local) (hij : i ≠ j)
    (hg : Gl X x) (hm : X.mg x = some c) (hdx : (x == ("__debug__" : Str)) = false) (hdn : (n == ("__debug__" : Str)) = false) (hcn : (n == ("__classdict__" : Str)) = false)
    (hsw : swapsWith (.Name n ep) (some (.Name y yp)) ap.line X.env = pure false)
    (hb : ∀ (W : WX) (pn : List (Addr × Obj)) (xe : Value → Shared → Prop), Takes (X.tr pn xe) W → PassesOwn (model X.prog X.w) X.A X.env xe → PSs (X.tr pn xe) body (tb W)) :
    PS X (.Try body [.ExceptHandler (some (.Name x np)) (some n) [.Assign [.Name y yp] (.Name n ep) ap] pos'] [] [] pos) (fun D σ H => tb (wKp X.K c i j D) D σ H) := by
  refine ⟨fun pins s σ H D I h => wpAny_Try_except ?_⟩
  have ok := I.ok
  have run := (hb (wKp X.K c i j D) (X.pn ++ pins) _ (fun u s1 t => catch_keep (np := np) (pos' := pos') ok hs hf hx hN hi hn hj hy hij hg hm hdx hdn hcn hsw t) PassesOwn.looking).run [] s σ H D (I.toTry _) h
  refine wpAny_mono run (fun f s1 q => ?_) (fun e s1 q => q)
  cases f with
  | next =>
    obtain ⟨σ', H', J, q⟩ := q
    exact wpAny_execs_nil ⟨σ', H', J.ofTry ok, q⟩
  | ret u =>
    obtain ⟨v, σ', H', J, r, q⟩ := q
    exact ⟨v, σ', H', J.ofTry ok, r, q⟩
  | brk =>
    obtain ⟨σ', H', J, q⟩ := q
    exact ⟨σ', H', J.ofTry ok, q⟩
  | cont =>
    obtain ⟨σ', H', J, q⟩ := q
    exact ⟨σ', H', J.ofTry ok, q⟩
end
end RL
end M_R63
section M_R64
/-! own exceptions: the class as a fact, raise C(e), try .. except C as n: y = n -/
namespace RL
open PySem PySem.Spec PyProof.Rows L2
def oxO (C : Addr) : Option Obj → Bool
  | some ⟨.type t, _, .cls cd, ⟨[_, _, _, _, some (.builtin m), _]⟩⟩ => (match cd.mro with
    | .ref C' :: bm => decide (t = "type") && (decide (C' = C) && (decide (m = "ValueError.__new__") && (!cd.hasDel && (cd.hasDict && PySem.HandSPX.refsVE bm))))
    | _ => false)
  | _ => false
def tyB (K : PySem.W.Frag) (v : Value) (n : String) : Bool := match PySem.W.typeIn K v with
  | some (.type m) => decide (m = n)
  | _ => false
theorem tyB_ok {K : PySem.W.Frag} {v : Value} {n : String} (h : tyB K v n = true) : PySem.W.typeIn K v = some (.type n) := by
  unfold tyB at h
  split at h
  · rename_i m e
    rw [e, of_decide_eq_true h]
  · cases h
def oxB (K : PySem.W.Frag) (C : Addr) : Bool := oxO C (K.lookup C) && (He.eqO (PySem.W.findIn K (.ref C) "__setattr__") (some (some (.builtin "object.__setattr__"))) && (decide (PySem.W.subIn K (.ref C) (.type "BaseException") = some true) && (tyB K (.ref C) "type" && PySem.W.keepIn K (.ref C))))
theorem oxB_ok {K : PySem.W.Frag} {C : Addr} (h : oxB K C = true) : OexC K C := by
  obtain ⟨h0, h⟩ := He.ba h
  obtain ⟨h1, h⟩ := He.ba h
  obtain ⟨h2, h⟩ := He.ba h
  obtain ⟨h3, h4⟩ := He.ba h
  refine ⟨?_, He.eqO_ok h1, of_decide_eq_true h2, tyB_ok h3, h4⟩
  revert h0
  generalize K.lookup C = o
  intro h0
  unfold oxO at h0
  split at h0
  · rename_i t dd cd k0 k1 k2 k3 m k5
    split at h0
    · rename_i C' bm hm
      obtain ⟨z1, h0⟩ := He.ba h0
      obtain ⟨z2, h0⟩ := He.ba h0
      obtain ⟨z3, h0⟩ := He.ba h0
      obtain ⟨z4, h0⟩ := He.ba h0
      obtain ⟨z5, z6⟩ := He.ba h0
      have z1 := of_decide_eq_true z1; have z2 := of_decide_eq_true z2; have z3 := of_decide_eq_true z3
      obtain ⟨nm, bs, mro, ns, qn, hd, sn, sub, ab, col, del⟩ := cd
      dsimp only at hm z4 z5
      subst z1 z2 z3 hm
      cases del with
      | true => cases z4
      | false =>
        cases hd with
        | false => cases z5
        | true => exact ⟨nm, qn, ns, bs, bm, sn, sub, ab, col, dd, k0, k1, k2, k3, k5, rfl, z6⟩
    · cases h0
  · cases h0
/-- an own exception class whose __init__ keeps its one argument in the field f -/
structure Ex1 (P : Program) (w : World) (K : PySem.W.Frag) (mg : Str → Option Value) (base : Heap) (C : Addr) (f : Str) : Prop where
  T : OexC K C
  no : PySem.W.findIn K (.ref C) f = some none
  init : ∃ fI fd, PySem.W.findIn K (.ref C) "__init__" = some (some (.ref fI)) ∧ PySem.W.typeIn K (.ref fI) = some (.type "function") ∧ Binds K fd ["self", f] [] ∧
    FnOk P w K mg base CX0 1 fI fd ["self", f] (fun vs H Q _ => ∃ a v, vs = [.ref a, v] ∧ H a = some (exo a C none) ∧ ∀ dx, H dx = none → dx ≠ a → Q .non (upd (upd H dx (exd dx [(f, v)])) a (exo a C (some dx))))
theorem ex1_of {P : Program} {w : World} {K : PySem.W.Frag} {mg : Str → Option Value} {base : Heap} {C fI : Addr} {f qual : Str} {st : Stmt} {fd : FuncData} {p1 p2 p3 p4 : Pos} (T : OexC K C) (no : PySem.W.findIn K (.ref C) f = some none)
    (hi : PySem.W.findIn K (.ref C) "__init__" = some (some (.ref fI))) (ti : PySem.W.typeIn K (.ref fI) = some (.type "function")) (F : Fun K "__init__" qual st fI fd) (S : FnScope ["self", f] ["self", f] (defScope st))
    (hb : Binds K fd ["self", f] []) (body : defBody st = [.Assign [.Attribute (.Name "self" p1) f p2] (.Name f p3) p4]) (h0 : (defScope st).names.lookup ("self" : Str) = some NameKind.local) (h1 : (defScope st).names.lookup f = some NameKind.local)
    (hd : (f == ("__debug__" : Str)) = false := by decide) (hc : (f == ("__classdict__" : Str)) = false := by decide)
    (hsw : ∀ env : Env, swapsWith (.Name f p3) (some (.Attribute (.Name "self" p1) f p2)) p4.line env = pure false := by intro _; rfl) : Ex1 P w K mg base C f :=
  ⟨T, no, fI, fd, hi, ti, hb, F.ok S (fun vs H Q E ⟨a, v, e, _⟩ => by rw [e]; rfl) fun cdv A outer s H vs Q E hr ⟨a, v, e, ea, q⟩ => by
    rw [body]
    refine ⟨_, pss_one (ps_ost (pe_var (i := 0) rfl (.inl h0)) (pe_var (i := 1) rfl (.inl h1) hd hc) (hsw _)), ?_⟩
    subst e
    exact ⟨v, rfl, .ref a, rfl, a, C, rfl, T, no, .inl ⟨ea, fun dx n ne => q dx n ne⟩⟩⟩
end RL
end M_R64
section M_R65
namespace RL
open PySem PySem.Spec PyProof.Rows L2
def sRaise (c : Nat) (me : EM) : SM := fun ρ d => match me ρ d with
  | .ok z d' => .ex (.own c [z]) d'
  | .ex e d' => .ex e d'
  | .no => .no
@[simp] theorem sRaise_x (c : Nat) (me : EM) (ρ : REnv) (d : DSt) : sRaise c me ρ d = (match me ρ d with
  | .ok z d' => .ex (.own c [z]) d'
  | .ex e d' => .ex e d'
  | .no => .no) := rfl
section
variable {X : Cx} {C : Pl} {B : Bp} {E : XS} {pos : Pos} {e : Expr} {me : EM}
theorem del_back {H : Hp} {a dx : Addr} {o1 o2 o3 o4 : HO} (ha : H a = none) (hne : dx ≠ a) : upd (del (upd (upd (upd H a o1) dx o2) a o3) a) dx o4 = upd H dx o4 := by
  funext b
  by_cases q : b = dx
  · subst q; rw [upd_same, upd_same]
  · rw [upd_ne q, upd_ne q]
    by_cases z : b = a
    · subst z; rw [del_same, ha]
    · rw [del_ne z, upd_ne z, upd_ne q, upd_ne z]
theorem rs_raise1 {c : Nat} {A : Addr} {f x : Str} {p p1 : Pos} (hc : X.calm = true) (tk : Tk X E) (hr : RmG 2 X.A) (eA : C.ad c = some A) (hf : C.fl c = [f]) (T : Ex1 X.prog X.w X.K X.mg X.base A f) (hg : Gl X x) (hm : X.mg x = some (.ref A)) (he : RE X C B E e me)
    (hdb : (x == ("__debug__" : Str)) = false := by decide) (hs : starEach (e :: []) X.env = (false, eval e X.env) :: starEach [] X.env := by rfl) (hpl : (backTo p1 (starEach [] X.env)).any (·.1) = false := by rfl) :
    RSt X C B E (.Raise (some (.Call (.Name x p) [e] [] p1)) none pos) (sRaise c me) := by
  obtain ⟨fI, fd, iC, tI, hb, F1⟩ := T.init
  refine PS.weak (ps_raise hc tk (pmk_oex T.T iC tI F1 hr.r hb .nil pass0 hg hm (pa_cons he pa_nil hs) hdb hs hpl)) fun D σ H h => ?_
  obtain ⟨F, ρ, d, br, h⟩ := h
  refine ⟨F, ρ, d, br, ?_⟩
  unfold sRaise at h
  revert h
  cases me ρ d with
  | ok z d' =>
    intro h F1 H1 v b g rv
    refine ⟨by simp, fun a na => ⟨a, v, rfl, upd_same, fun dx nd ne => ⟨rfl, dx, _, upd_same, by rw [upd_ne ne, upd_same], by rw [upd_ne ne] at nd; exact nd, ?_⟩⟩⟩
    rw [upd_ne ne] at nd
    rw [del_back na ne]
    obtain ⟨b2, g2⟩ := b.new (o := .xd [(f, v)]) nd
    exact h σ _ _ _ _ b2 ⟨A, eA, rfl, .inr ⟨dx, [v], rfl, by rw [hf]; exact upd_same, by rw [hf]; rfl, .cons (Rep.mono g2.s z v rv) .nil⟩⟩
  | ex ee d' => exact fun h F1 H1 cls dd b g r => h σ F1 H1 cls dd b r
  | no => exact fun h => h
/-! ### try -/
/-- which own classes the clause takes -/
structure CatT (X : Cx) (C : Pl) (cs : Nat → Bool) (cv : Value) : Prop where
  at_ : ∀ c, cs c = true → ∃ A, C.ad c = some A ∧ PySem.W.exmOne X.K (.ref A) cv = some true
/-- try: k = m / except .. as i: j = i; none: the value is let go -/
def sTry (cs : Nat → Bool) (i j : Nat) (k : Option Nat) (m : EM) : SM := fun ρ d => match m ρ d with
  | .ok v d' => .nx (match k with
    | some k => ρ.set k (.val v)
    | none => ρ) d'
  | .ex (.own c xs) d' => if cs c then .nx ((ρ.set j (.val (.exc c xs))).set i .un) d' else .no
  | _ => .no
@[simp] theorem sTry_x (cs : Nat → Bool) (i j : Nat) (k : Option Nat) (m : EM) (ρ : REnv) (d : DSt) : sTry cs i j k m ρ d = (match m ρ d with
  | .ok v d' => .nx (match k with
    | some k => ρ.set k (.val v)
    | none => ρ) d'
  | .ex (.own c xs) d' => if cs c then .nx ((ρ.set j (.val (.exc c xs))).set i .un) d' else .no
  | _ => .no) := rfl
/-- what is wished of an exception in the body of such a try -/
def kpE (X : Cx) (cv : Value) (i j : Nat) (D : Ends) : XS := fun σ cls d H => wKp X.K cv i j D cls d σ H
theorem kept_catch {cs : Nat → Bool} {cv : Value} {i j c : Nat} {xs : List PV} {D : Ends} {F H F1 H1 : Hp} {ρ : REnv} {σ : L2.St} {d d' : DSt} {cls : Value} {dd : Option Addr} (T : CatT X C cs cv) (br : BR C B ρ d σ F H) (b : BG C B d' F1 H1) (g : Go C B F H F1 H1)
    (r : ExR C F1 (.own c xs) cls dd) (h : tKS C B E (if cs c then .nx ((ρ.set j (.val (.exc c xs))).set i .un) d' else .no) F H D) : kpE X cv i j D σ cls dd H1 := by
  by_cases q : cs c = true
  · rw [if_pos q] at h
    obtain ⟨A, eA, em⟩ := T.at_ c q
    obtain ⟨A', eA', rfl, r⟩ := r
    cases eA.symm.trans eA'
    refine ⟨em, fun a na => ?_⟩
    obtain ⟨b2, g2⟩ := b.new (o := ExV (.ref A) dd a) na
    have off : ∀ {c : Addr} {o : HO}, F1 c = some o → c ≠ a := fun {c o} e z => by rw [z, b.F_none na] at e; cases e
    have rp : Rep C (upd F1 a (ExV (.ref A) dd a)) (.exc c xs) (.ref a) := ⟨a, A, dd, rfl, eA, upd_same, r.imp id fun ⟨dx, vs, z1, z2, z3, z4⟩ => ⟨dx, vs, z1, by rw [upd_ne (off z2)]; exact z2, z3, z4.mono g2.s⟩⟩
    exact h _ _ _ (((br.go b2 (g.trans g2)).set rp).un) (g.s.trans g2.s)
  · rw [if_neg q] at h
    exact h.elim
variable {x n y z : Str} {cs : Nat → Bool} {cv : Value} {i j k : Nat} {np yp ep ap zp bp pos' : Pos}
theorem rs_try_set (T : CatT X C cs cv) (hs : X.stack = X.env :: X.outer) (hf : X.env.frame = some X.env.locals) (hx : X.ex = []) (hN : X.N.Nodup) (hi : X.N[i]? = some n) (hn : X.env.kindOf n = some .local) (hj : X.N[j]? = some y) (hy : X.env.kindOf y = some .local) (hij : i ≠ j)
    (hk : X.N[k]? = some z) (hz : X.env.kindOf z = some .local) (hg : Gl X x) (hm : X.mg x = some cv) (hdx : (x == ("__debug__" : Str)) = false) (hdn : (n == ("__debug__" : Str)) = false) (hcn : (n == ("__classdict__" : Str)) = false)
    (hsw : swapsWith (.Name n ep) (some (.Name y yp)) ap.line X.env = pure false) (hsb : swapsWith e (some (.Name z zp)) bp.line X.env = pure false)
    (he : ∀ (E' : XS) (pn : List (Addr × Obj)) (xe : Value → Shared → Prop), Tk (X.tr pn xe) E' → PassesOwn (model X.prog X.w) X.A X.env xe → RE (X.tr pn xe) C B E' e me) :
    RSt X C B E (.Try [.Assign [.Name z zp] e bp] [.ExceptHandler (some (.Name x np)) (some n) [.Assign [.Name y yp] (.Name n ep) ap] pos'] [] [] pos) (sTry cs i j (some k) me) := by
  refine PS.weak (ps_try_keep (tb := fun W D σ H => tAsg (tR C B (fun σ cls d H => W cls d σ H) (Rep C) me) (gName k) D σ H) hs hf hx hN hi hn hj hy hij hg hm hdx hdn hcn hsw
    (fun W pn xe tk pw => pss_one (ps_set hN hk (.inl hz) (he _ pn xe tk pw) hsb (.inr hz)))) fun D σ H h => ?_
  obtain ⟨F, ρ, d, br, h⟩ := h
  refine ⟨F, ρ, d, br, ?_⟩
  unfold sTry at h
  revert h
  cases me ρ d with
  | ok v d' => exact fun h F1 H1 u b g rv => h _ _ _ ((br.go b g).set rv) g.s
  | ex ee d' =>
    cases ee with
    | own c xs => exact fun h F1 H1 cls dd b g r => kept_catch T br b g r h
    | bi nm => exact fun h => h.elim
  | no => exact fun h => h
theorem rs_try_do (T : CatT X C cs cv) (hs : X.stack = X.env :: X.outer) (hf : X.env.frame = some X.env.locals) (hx : X.ex = []) (hN : X.N.Nodup) (hi : X.N[i]? = some n) (hn : X.env.kindOf n = some .local) (hj : X.N[j]? = some y) (hy : X.env.kindOf y = some .local) (hij : i ≠ j)
    (hg : Gl X x) (hm : X.mg x = some cv) (hdx : (x == ("__debug__" : Str)) = false) (hdn : (n == ("__debug__" : Str)) = false) (hcn : (n == ("__classdict__" : Str)) = false)
    (hsw : swapsWith (.Name n ep) (some (.Name y yp)) ap.line X.env = pure false) (hsb : swapsWith e none bp.line X.env = pure false)
    (he : ∀ (E' : XS) (pn : List (Addr × Obj)) (xe : Value → Shared → Prop), Tk (X.tr pn xe) E' → PassesOwn (model X.prog X.w) X.A X.env xe → RE (X.tr pn xe) C B E' e me) :
    RSt X C B E (.Try [.Expr e bp] [.ExceptHandler (some (.Name x np)) (some n) [.Assign [.Name y yp] (.Name n ep) ap] pos'] [] [] pos) (sTry cs i j none me) := by
  refine PS.weak (ps_try_keep (tb := fun W D σ H => tR C B (fun σ cls d H => W cls d σ H) (Rep C) me σ H fun _ H1 => D.nx σ H1) hs hf hx hN hi hn hj hy hij hg hm hdx hdn hcn hsw
    (fun W pn xe tk pw => pss_one (ps_expr (he _ pn xe tk pw) hsb))) fun D σ H h => ?_
  obtain ⟨F, ρ, d, br, h⟩ := h
  refine ⟨F, ρ, d, br, ?_⟩
  unfold sTry at h
  revert h
  cases me ρ d with
  | ok v d' => exact fun h F1 H1 u b g rv => h _ _ _ (br.go b g) g.s
  | ex ee d' =>
    cases ee with
    | own c xs => exact fun h F1 H1 cls dd b g r => kept_catch T br b g r h
    | bi nm => exact fun h => h.elim
  | no => exact fun h => h
end
end RL
end M_R65
section M_R66
/-! a field of an exception that was caught; list(range(a, b)) -/
namespace RL
open PySem PySem.Spec PyProof.Rows L2
def oXat (t : Nat → Option Nat) : PV → O
  | .exc c xs => (match t c with
    | some i => (match xs[i]? with
      | some y => .ok y
      | none => .no)
    | none => .no)
  | _ => .no
structure XatT (X : Cx) (C : Pl) (f : Str) (t : Nat → Option Nat) : Prop where
  at_ : ∀ c i, t c = some i → ∃ A, C.ad c = some A ∧ XfC X.K A ∧ PySem.W.findIn X.K (.ref A) f = some none ∧ (C.fl c)[i]? = some f ∧ (C.fl c).Nodup
section
variable {X : Cx} {C : Pl} {B : Bp} {E : XS} {pos : Pos} {a b : Expr} {ma mb : EM}
theorem re_xat {f : Str} {t : Nat → Option Nat} (T : XatT X C f t) (ha : RE X C B E a ma) (hb : attributeBase a f X.env (eval a X.env) = eval a X.env := by rfl) : RE X C B E (.Attribute a f pos) (eUn (oXat t) ma) := by
  refine ⟨fun pins s σ H Q I h => ?_⟩
  obtain ⟨F, ρ, d, b0, h⟩ := h
  refine attr_of hb (thn (ha.run pins s σ H _ I ⟨F, ρ, d, b0, tK.bind (Rp := Rep C) h⟩) fun u s1 q => ?_)
  obtain ⟨x, H1, I1, rx, F1, d1, px, b1, g1, r1, k1⟩ := q
  unfold oXat at k1
  split at k1
  · rename_i c xs
    split at k1
    · rename_i i ei
      split at k1
      · rename_i y ey
        obtain ⟨p, A, dd, rfl, eA, fa, alt⟩ := id r1
        cases rx
        obtain ⟨A', eA', T1, no, ef, nd⟩ := T.at_ c i ei
        cases eA.symm.trans eA'
        rcases alt with ⟨rfl, _⟩ | ⟨dx, vs, rfl, fx, len, rl⟩
        · simp at ey
        · obtain ⟨v, ev, rv⟩ := rl.get ey
          obtain ⟨⟨oe, us, ho, hc, hd, hu⟩, _⟩ := I1.hok p _ (b1.fh _ _ fa)
          have hx : ObjOk X.prog X.w H1 s1.heap dx (.xd ((C.fl c).zip vs)) := I1.hok dx _ (b1.fh _ _ fx)
          obtain ⟨mA, hns, hr⟩ := hx
          obtain ⟨od, hod, look⟩ := lookIn_ns hns
          have lk := lookup_zip nd ef ev
          obtain ⟨w, hw, rw'⟩ := RelO.some_of (v := v) (o := mA f) (by rw [← lk]; exact hr f)
          have J : PySem.W.InstAt s1.heap p oe A (some od) := ⟨ho, hc, by unfold PySem.W.notCls; rw [hu] <;> rfl, by rw [hd]; exact hod⟩
          exact HandSPX.exc_get I1.kIn J T1.ga T1.gg T1.exC (PySem.W.findObj_own T1.hdC no rfl (by rw [look, hw])) (handed_of rw') ⟨v, H1, I1.tok _, rw', k1.here b1 rv⟩
      · exact k1.elim
    · exact k1.elim
  · exact k1.elim
theorem re_lstRg2 {p p' pos' : Pos} (hc : X.calm = true) (ht : Gl X "list") (hmt : X.mg "list" = none) (hg : Gl X "range") (hm : X.mg "range" = none) (ha : RE X C B E a ma) (hb : RE X C B E b mb)
    (na : starEach [a, b] X.env = (false, eval a X.env) :: starEach [b] X.env := by rfl) (nb : starEach [b] X.env = (false, eval b X.env) :: starEach [] X.env := by rfl) (hp : (backTo pos (starEach [b] X.env)).any (·.1) = false := by rfl)
    (na2 : starEach [.Call (.Name "range" p) [a, b] [] pos] X.env = (false, eval (.Call (.Name "range" p) [a, b] [] pos) X.env) :: starEach [] X.env := by rfl) : RE X C B E (.Call (.Name "list" p') [.Call (.Name "range" p) [a, b] [] pos] [] pos') (eRg2 .lst ma mb) := by
  refine PE.weak (pe_listRg hc ht hmt (prg_2 hg hm ha hb na nb hp) na2) fun σ H Q h => ?_
  obtain ⟨F, ρ, d, b0, h⟩ := h
  refine ⟨F, ρ, d, b0, (tK.bind (Rp := Rep C) h).imp fun v H1 q => ?_⟩
  obtain ⟨F1, d1, x, b1, g1, r1, k1⟩ := q
  refine ⟨F1, ρ, d1, b0.go b1 g1, (tK.bind (Rp := Rep C) k1).imp fun u H2 q => ?_⟩
  obtain ⟨F2, d2, y, b2, g2, r2, k2⟩ := q
  split at k2
  · rename_i i j
    split at k2
    · rename_i hn
      exact ⟨i, j, r1, r2, ⟨by omega, by omega, by omega, by omega, by omega⟩, fun q hq => k2.new b2 hq (rep_lst (b2.F_none hq) rng_rep)⟩
    · exact k2.elim
  · exact k2.elim
end
@[simp] theorem eRg2_x (mk : List PV → PV) (m mb : EM) (ρ : REnv) (d : DSt) : eRg2 mk m mb ρ d = (m ρ d).bind fun x d1 => (mb ρ d1).bind fun y d2 => match x, y with
  | .int i, .int j => if (-4000 < i ∧ i < 4000) ∧ -4000 < j ∧ j < 4000 ∧ (j - i).toNat < 4000 then .ok (mk (rng i (j - i).toNat)) d2 else .no
  | _, _ => .no := rfl
@[simp] theorem oXat_x (t : Nat → Option Nat) (c : Nat) (xs : List PV) : oXat t (.exc c xs) = (match t c with
    | some i => (match xs[i]? with
      | some y => .ok y
      | none => .no)
    | none => .no) := rfl
end RL
end M_R66
section M_R67
/-! exceptions that are asked for their class, as facts -/
namespace RL
open PySem PySem.Spec PyProof.Rows L2
def ecB (K : PySem.W.Frag) (D : Addr) : Bool := He.eqO (PySem.W.findIn K (.ref D) "__getattribute__") (some (some (.builtin "BaseException.__getattribute__"))) && (He.eqO (PySem.W.findIn K (.ref D) "__getattr__") (some none) && (decide (PySem.W.subIn K (.ref D) (.type "BaseException") = some true) && (PySem.W.hasDictIn K D &&
  (He.eqO (PySem.W.findIn K (.ref D) "__class__") (some (some (.builtin "object.__class__"))) && (He.eqO (PySem.W.specialIn K (.builtin "object.__class__") "__get__") (some (some (.builtin "getset_descriptor.__get__"))) && (decide (PySem.W.takesIn K (.builtin "object.__class__") = some true) && decide (PySem.W.mroIn K D (.type "object") = some true)))))))
theorem ecB_ok {K : PySem.W.Frag} {D : Addr} (h : ecB K D = true) : ExcC K D := by
  obtain ⟨h1, h⟩ := He.ba h
  obtain ⟨h2, h⟩ := He.ba h
  obtain ⟨h3, h⟩ := He.ba h
  obtain ⟨h4, h⟩ := He.ba h
  obtain ⟨h5, h⟩ := He.ba h
  obtain ⟨h6, h⟩ := He.ba h
  obtain ⟨h7, h8⟩ := He.ba h
  exact ⟨He.eqO_ok h1, He.eqO_ok h2, of_decide_eq_true h3, h4, He.eqO_ok h5, He.eqO_ok h6, of_decide_eq_true h7, of_decide_eq_true h8⟩
theorem excC_xf {K : PySem.W.Frag} {D : Addr} (h : ExcC K D) : XfC K D := ⟨h.hg, h.hk, h.hs, h.hd⟩
end RL
end M_R67
section M_R68
/-! slices of texts -/
namespace RL
open PySem PySem.Spec PyProof.Rows L2
def oSlS (lo hi : Option Int) : PV → O
  | .str z => if z.length < LIM then .ok (.str (cutS z lo hi)) else .no
  | _ => .no
def eSlS (m : EM) (l h : PM) : EM := fun ρ d => (m ρ d).bind fun x d1 => (l ρ d1).bind fun lo d2 => (h ρ d2).bind fun hi d3 => (oSlS lo hi x).r d3
@[simp] theorem eSlS_x (m : EM) (l h : PM) (ρ : REnv) (d : DSt) : eSlS m l h ρ d = (m ρ d).bind fun x d1 => (l ρ d1).bind fun lo d2 => (h ρ d2).bind fun hi d3 => (oSlS lo hi x).r d3 := rfl
section
variable {X : Cx} {C : Pl} {B : Bp} {E : XS} {pos p2 : Pos} {a : Expr} {ma : EM} {lo hi : Option Expr} {ml mh : PM}
theorem re_slS (ha : RE X C B E a ma) (hl : ROp X C B E lo ml) (hh : ROp X C B E hi mh) : RE X C B E (.Subscript a (.Slice lo hi none p2) pos) (eSlS ma ml mh) := by
  refine PE.weak (pe_slice sl_str ha hl hh) fun σ H Q h => ?_
  obtain ⟨F, ρ, d, b0, h⟩ := h
  refine ⟨F, ρ, d, b0, (tK.bind (Rp := Rep C) h).imp fun v H1 q => ?_⟩
  obtain ⟨F1, d1, x, b1, g1, r1, k1⟩ := q
  refine ⟨F1, ρ, d1, b0.go b1 g1, (tK.bind (Rp := fun _ (x y : Option Int) => x = y) k1).imp fun l H2 q => ?_⟩
  obtain ⟨F2, d2, lo', b2, g2, r2, k2⟩ := q
  subst r2
  refine ⟨F2, ρ, d2, (b0.go b1 g1).go b2 g2, (tK.bind (Rp := fun _ (x y : Option Int) => x = y) k2).imp fun l2 H3 q => ?_⟩
  obtain ⟨F3, d3, hi', b3, g3, r3, k3⟩ := q
  subst r3
  unfold oSlS at k3
  split at k3
  · rename_i z
    cases r1
    split at k3
    · rename_i hz
      exact ⟨z, rfl, lim_le hz, k3.here b3 rfl⟩
    · exact k3.elim
  · exact k3.elim
end
theorem cut_Wd (ws : List Bool) (lo hi : Option Int) : cutS (Wd ws) lo hi = Wd (cutP ws lo hi) := by
  unfold cutS cutP Wd
  rw [SX.S_len, List.length_map]
  show Str.mk _ = Str.mk _
  congr 2
  rw [List.map_take, List.map_drop]
theorem oSlS_Wd {ws : List Bool} (h : ws.length < LIM) (lo hi : Option Int) : oSlS lo hi (.str (Wd ws)) = .ok (.str (Wd (cutP ws lo hi))) := by
  show (if _ then _ else _) = _
  rw [Wd_len, if_pos h, cut_Wd]
end RL
end M_R68
section M_R69
/-! a lambda without parameters, handed to a def that calls it -/
namespace RL
open PySem PySem.Spec PyProof.Rows L2

/-! ### the making -/
section
variable {X : Cx} {pins : List (Addr × Obj)} {σ : L2.St} {H : Hp} {s : Shared}
abbrev lamQ (X : Cx) : Str := X.env.qual ++ "<lambda>"
theorem tabS_keep {H H1 : Hp} {P b : Addr} {q : Str} (hP : ∃ ps, H P = some (.tbl ps)) (hk : ∀ b o, b ≠ P → H b = some o → H1 b = some o) (hb : b ≠ P) (t : LamX.TabS H b q) : LamX.TabS H1 b q := by
  obtain ⟨ps, h1, h2, h3⟩ := t
  refine ⟨ps, hk _ _ hb h1, h2, fun pos cv hc => ?_⟩
  obtain ⟨c, e1, e2⟩ := h3 pos cv hc
  refine ⟨c, e1, hk _ _ (fun z => ?_) e2⟩
  obtain ⟨ps', e⟩ := hP
  rw [z, e] at e2
  exact LamX.codeO_ne _ (Option.some.inj e2).symm
/-- the lambda's object and code object; all but the maker's table stays, and the table tells what it told -/
theorem lam_mk {c P : Addr} {params : Arguments} {body : Expr} {scope : Scope} {pos : Pos} {E : Value → Shared → Prop} {Q : Value → Shared → Prop} (I : Inv X pins σ H s) (TB : LamX.TabB X.base X.mg c P) (hcode : X.env.code = .ref c)
    (hT : LamX.TabS H P (lamQ X)) (hdef : defaultsOf params X.env = ([], [])) (hfree : ∀ y ∈ scope.names, y.2 = .free → ∃ c, X.env.cells.lookup y.1 = some c)
    (h : ∀ (f c' : Addr) (pm ctv : Value) (H1 : Hp) (s' : Shared), Inv X pins σ H1 s' → (∀ b o, b ≠ P → H b = some o → H1 b = some o) → LamX.TabS H1 P (lamQ X) →
      s'.heap.get? f = some (PySem.W.kla_obj "<lambda>" (lamQ X) params body scope (cloFrom X.env.cells scope.names []) pm c' ctv) → H1 f = none → f ∉ frs X.stack → H1 c' = some (LamX.CodeO c' (lamQ X)) → Q (.ref f) s') :
    wpAny (model X.prog X.w) X.A (eval (.Lambda params body scope pos) X.env) Q E s := by
  obtain ⟨ps, eP, ok, told⟩ := hT
  have bP := TB.bm.keeps I.bk
  have oP := I.hok P _ eP
  have fresh : ∀ f, s.heap.objs.size ≤ f → f ∉ frs X.stack := fun f hf z => by
    rcases List.mem_cons.mp (I.stkSub _ z) with e | e
    · rw [e] at hf
      exact absurd I.lt (Nat.not_lt.mpr hf)
    · exact I.nofs hf e
  refine PySem.W.kla_eval hdef ?_
  rcases Option.eq_none_or_eq_some (codeAmong pos ps.toList) with hc | ⟨cv, hc⟩
  · refine PySem.W.kla_makeFunction (mg := X.mg) (c := c) (P := P) (ps := ps) (closure_ok hfree) I.ok.glob (I.mod.glob.keeps I.bk) hcode (TB.code.keeps I.bk) oP ok hc TB.gP bP fun c' ctv h' tk hx hge hlt hrec htb => ?_
    obtain ⟨c2, oc, vs, t, e2, hoc, hd, hv⟩ := hrec
    cases e2
    have nC : H c' = none := I.hok.fresh hge
    have nCP : P ≠ c' := ne_of_none eP nC
    have hsz : s.heap.objs.size ≤ h'.objs.size := Nat.le_trans hge (Nat.le_of_lt hlt)
    have J := LamX.inv_table (t' := tk) (q := lamQ X) (more := #[rawInt pos.line, rawInt pos.col, .ref c']) (h' := h'.push (PySem.W.kla_obj "<lambda>" (lamQ X) params body scope (cloFrom X.env.cells scope.names []) ((X.mg "__name__").getD .none) c' ctv)) I eP
      (fun b o hb e => Heap.get?_push_of_some _ (hx b o hb e)) (Heap.get?_push_of_some _ htb) hge ⟨oc, vs, t, Heap.get?_push_of_some _ hoc, hd, hv⟩
    have kp : ∀ b o, b ≠ P → H b = some o → upd (upd H P (.tbl (ps ++ #[rawInt pos.line, rawInt pos.col, .ref c']))) c' (LamX.CodeO c' (lamQ X)) b = some o := fun b o nb e => by
      rw [upd_ne (ne_of_none e nC), upd_ne nb]; exact e
    have es : (ps ++ #[rawInt pos.line, rawInt pos.col, .ref c']).toList = ps.toList ++ [rawInt pos.line, rawInt pos.col, .ref c'] := by simp
    refine h h'.objs.size c' _ ctv _ _ J kp ⟨_, by rw [upd_ne nCP, upd_same], by rw [es]; exact PySem.TriplesOk_snoc _ _ _ _ ok, fun p' cv' hcv => ?_⟩ (Heap.get?_push_size _ rfl) ?_ (fresh _ hsz) upd_same
    · rw [es] at hcv
      rcases LamX.among_app _ ok hcv with z | z
      · obtain ⟨c0, e1, e2⟩ := told p' cv' z
        exact ⟨c0, e1, kp _ _ (fun z => LamX.codeO_ne ps (by rw [z, eP] at e2; exact (Option.some.inj e2).symm)) e2⟩
      · exact ⟨c', z, upd_same⟩
    · rw [upd_ne (Nat.ne_of_gt hlt), upd_ne (Nat.ne_of_gt (Nat.lt_of_lt_of_le (Heap.lt_size oP) hsz))]
      exact I.hok.fresh hsz
  · obtain ⟨c', rfl, hco⟩ := told pos cv hc
    refine PySem.W.kla_makeFunctionHit (mg := X.mg) (c := c) (P := P) (ps := ps) (closure_ok hfree) I.ok.glob (I.mod.glob.keeps I.bk) hcode (TB.code.keeps I.bk) oP ok hc bP fun ctv h' tk hx hsz => ?_
    have J : Inv X pins σ H { s with heap := h'.push (PySem.W.kla_obj "<lambda>" (lamQ X) params body scope (cloFrom X.env.cells scope.names []) ((X.mg "__name__").getD .none) c' ctv), toks := tk } := I.kept fun b o e => Heap.get?_push_of_some _ (hx b o e)
    exact h h'.objs.size c' _ ctv H _ J (fun _ _ _ e => e) ⟨ps, eP, ok, told⟩ (Heap.get?_push_size _ rfl) (I.hok.fresh hsz) (fresh _ hsz) hco
end

/-! ### what is called -/
def lamO : R PV → O
  | .ok x _ => .ok x
  | .ex e _ => .ex e
  | .no => .no
def vOnly : Sl → Sl
  | .val x => .val x
  | _ => .un
/-- the call of what was handed over -/
def eAct (i : Nat) (o : O) : EM := fun ρ d => match (ρ[i]? : Option Sl) with
  | some .lam => o.r d
  | _ => .no
def startL (nn : Nat) : REnv := .lam :: List.replicate (nn - 1) .un
section
variable {C : Pl} {B : Bp} {ρ : REnv} {d : DSt} {σ : L2.St} {F H F' H' : Hp}
/-- the values alone, seen from a later point, as a new ground -/
theorem BR.vals (b : BR C B ρ d σ F H) (s : Sk C F F') (f : Same F' H') (t : TbOk C F' H') : BR C ⟨F', H', none, none, []⟩ (ρ.map vOnly) default σ F' H' where
  g := ⟨f, Sk.refl C F', fun a o e => .inl ⟨o, e⟩, fun a o _ e _ => Kp.all (fun _ _ z => z) e, fun a g c e => (nomatch e), fun z => absurd rfl z, fun a e => (nomatch e), t⟩
  len := by rw [List.length_map]; exact b.len
  sl := by
    obtain ⟨ad, h1, _⟩ := b.sl
    have at_ : ∀ i sl, (ρ.map vOnly)[i]? = some sl → ∃ s0, ρ[i]? = some s0 ∧ sl = vOnly s0 := fun i sl e => by
      rw [List.getElem?_map] at e
      rcases Option.eq_none_or_eq_some (ρ[i]?) with q | ⟨s0, q⟩
      · rw [q] at e; cases e
      · rw [q] at e; cases e; exact ⟨s0, q, rfl⟩
    refine ⟨fun _ => 0, fun i sl e => ?_, fun i j s t e1 _ o1 _ _ => ?_⟩
    · obtain ⟨s0, e0, rfl⟩ := at_ i sl e
      have z := h1 i s0 e0
      cases s0 with
      | val x => obtain ⟨v, q1, q2⟩ := z; exact ⟨v, q1, q2.mono s⟩
      | _ => trivial
    · obtain ⟨s0, _, rfl⟩ := at_ i s e1
      cases s0 <;> cases o1
/-- the start of the def that gets it -/
theorem BR.startL {N : List Str} {f : Addr} (fh : Same F H) (tb : TbOk C F H) (hn : 1 ≤ N.length) : BR C ⟨F, H, none, none, [(f : Int)]⟩ (RL.startL N.length) default (L2.start N [.ref f]) F H where
  g := ⟨fh, Sk.refl C F, fun a o e => .inl ⟨o, e⟩, fun a o _ e _ => Kp.all (fun _ _ z => z) e, fun a g c e => (nomatch e), fun z => absurd rfl z, fun a e => (nomatch e), tb⟩
  len := by simp only [L2.start, RL.startL, List.length_append, List.length_map, List.length_cons, List.length_nil, List.length_replicate]; omega
  sl := by
    have at_ : ∀ i sl, (RL.startL N.length)[i]? = some sl → (i = 0 ∧ sl = .lam) ∨ sl = .un := fun i sl e => by
      unfold RL.startL at e
      cases i with
      | zero => cases e; exact .inl ⟨rfl, rfl⟩
      | succ j =>
        rw [List.getElem?_cons_succ, List.getElem?_replicate] at e
        split at e
        · cases e; exact .inr rfl
        · cases e
    refine ⟨fun _ => 0, fun i sl e => ?_, fun i j s t e1 _ o1 _ _ => ?_⟩
    · rcases at_ i sl e with ⟨rfl, rfl⟩ | rfl
      · exact ⟨rfl, f, rfl, rfl⟩
      · trivial
    · rcases at_ i s e1 with ⟨_, rfl⟩ | rfl <;> cases o1
theorem BR.lam_at {f : Addr} (b : BR C B ρ d σ F H) (hc : B.cl = [(f : Int)]) {i : Nat} (e : (ρ[i]? : Option Sl) = some .lam) : σ[i]? = some (some (.ref f)) := by
  obtain ⟨ad, h1, _⟩ := b.sl
  obtain ⟨_, g, e1, e2⟩ := h1 i _ e
  rw [hc] at e1
  have : (f : Int) = (g : Int) := (List.cons.inj e1).1
  have : f = g := Int.ofNat_inj.mp this
  rw [this]; exact e2
end
section
variable {X : Cx} {pins : List (Addr × Obj)} {σ : L2.St} {H : Hp} {s : Shared}
/-- what was handed over, called in the def that got it; that def was entered at s -/
theorem re_act {C : Pl} {B : Bp} {ρ : REnv} {d : DSt} {F : Hp} {Ng : List Str} {qg : Str} {sg : Scope} {g f c' : Addr} {cdg pm ctv : Value} {params : Arguments} {body : Expr} {scope : Scope} {k i : Nat} {a : Str} {pn : List (Addr × Obj)} {xe : Value → Shared → Prop} {E0 : XK} {E' : XS} {mb : EM} {p1 p2 : Pos}
    (I : Inv X pins σ H s) (b : BR C B ρ d σ F H) (L : LamX.LamS X.env.scope scope) (hf : s.heap.get? f = some (PySem.W.kla_obj "<lambda>" (lamQ X) params body scope (cloFrom X.env.cells scope.names []) pm c' ctv)) (hfn : H f = none) (hfr : f ∉ frs X.stack) (hco : H c' = some (LamX.CodeO c' (lamQ X)))
    (hbind : bindArgs (PySem.W.kla_fn "<lambda>" (lamQ X) params body scope (cloFrom X.env.cells scope.names []) pm (.ref c') ctv) ⟨[], []⟩ = pure [])
    (tk : Tk ((cxOf (L2.CX X.prog X.w) X.prog X.w X.K X.mg X.base Ng qg sg g cdg X.A X.stack s H E0).tr pn xe) E') (hr : RmG (k + 1) (X.A.deeper (envOfC qg sg s.heap.objs.size g cdg)))
    (hbody : ∀ (A : Around) (outer : List Env) (s : Shared) (H : Hp) (E : XK) (F : Hp), RmG k (A.deeper (LamX.lamEnv X scope s.heap.objs.size f c')) → RE (LamX.lamCx X A outer s H E scope f c') C ⟨F, H, none, none, []⟩ (fun _ => E) body mb)
    (hN : Ng[i]? = some a) (hv : Vis sg a) (hd : (a == ("__debug__" : Str)) = false := by decide) (hcd : (a == ("__classdict__" : Str)) = false := by decide) :
    RE ((cxOf (L2.CX X.prog X.w) X.prog X.w X.K X.mg X.base Ng qg sg g cdg X.A X.stack s H E0).tr pn xe) C ⟨F, H, none, none, [(f : Int)]⟩ E' (.Call (.Name a p1) [] [] p2) (eAct i (lamO (mb (ρ.map vOnly) default))) := by
  refine ⟨fun pinsZ sZ σZ HZ Q IZ h => ?_⟩
  obtain ⟨F1, ρ1, d1, b1, h⟩ := h
  unfold eAct at h
  split at h
  · rename_i ei
    have hs := b1.lam_at rfl ei
    refine wpAny_Call_Name_kw (thn ((pe_var (pos := p1) (i := i) hN hv hd hcd).run pinsZ sZ σZ HZ (fun v H1 => v = .ref f ∧ H1 = HZ) IZ ⟨.ref f, hs, rfl, rfl⟩) fun u s1 ⟨v, H1, I1, r1, q1⟩ => ?_)
    obtain ⟨rfl, rfl⟩ := q1
    obtain rfl : u = Value.ref f := r1
    have un : Un (frs X.stack) [] H H1 s.heap s1.heap := I1.base
    have of1 : s1.heap.get? f = some (PySem.W.kla_obj "<lambda>" (lamQ X) params body scope (cloFrom X.env.cells scope.names []) pm c' ctv) := un.keep f _ hf hfn hfr (fun z => nomatch (show f ∈ ([] : List Addr) from z))
    have hc1 : H1 c' = some (LamX.CodeO c' (lamQ X)) := by
      cases z : F c' with
      | none => exact b1.g.od c' _ z hco (by
          rintro (⟨p, z, _⟩ | z)
          · cases z
          · cases z)
      | some u =>
        have eu := b.g.fh _ _ z
        rw [hco] at eu
        cases eu
        exact b1.g.fh _ _ (b1.g.f0.other z (fun A dx fs e => by
          have e' : HO.ext _ = HO.ins _ _ _ := e
          cases e'))
    obtain ⟨⟨oc, vs, t, hoc, hdc, hvc⟩, _, _⟩ := I1.hok c' _ hc1
    refine PySem.W.callWith_F0 ⟨_, _, _, _, of1⟩ ?_
    have rc : codeAny (model X.prog X.w) (X.A.deeper (envOfC qg sg s.heap.objs.size g cdg)) (.call (.ref f) ⟨[], []⟩) (CR (L2.CX X.prog X.w) (envOfC qg sg s.heap.objs.size g cdg :: X.stack) X.prog X.w H1 s1 Q (E' σZ)) s1 := by
      refine PySem.W.kla_callFunE hr.r.depth of1 rfl L.co L.gen rfl ⟨c', oc, vs, t, rfl, hoc, hdc, hvc⟩ ?_
      rw [hbind]
      refine wpAny_pure (wpAny_newFunctionEnv (fun y hy => (L.own y hy).2) (fun y hy => absurd hy (by simp)) (fun h₁ hns hsb => ⟨I1.nolimit.fresh _ hsb, ?_⟩) L.kind)
      have kp : ∀ b o, s1.heap.get? b = some o → h₁.get? b = some o := fun b o e => hsb.extBut b o (Nat.ne_of_lt (Heap.lt_size e)) (Heap.get?_push_of_some _ e)
      have J := LamX.lam_start2 (f := f) (c' := c') (tk := s1.toks + ([] : List (Str × Value)).length) (E := E' σZ) I L I1.env0 hr.r.hd un hns kp
      have tR1 : tR C ⟨F1, H1, none, none, []⟩ (fun _ => E' σZ) (Rep C) mb σ H1 Q := by
        refine ⟨F1, ρ.map vOnly, default, b.vals (b1.g.f0 : Sk C F F1) b1.g.fh b1.g.tb, ?_⟩
        have back : ∀ {d' : DSt} {F' H' : Hp}, BG C ⟨F1, H1, none, none, []⟩ d' F' H' → BG C ⟨F, H, none, none, [(f : Int)]⟩ d1 F' H' ∧ Go C ⟨F, H, none, none, [(f : Int)]⟩ F1 H1 F' H' := fun {d' F' H'} b' => by
          have gr := BR.end_ (ρ := []) (σ := []) b'
          exact ⟨b1.g.grow gr.s gr.f gr.h gr.n, .of b1.g.fh gr.s gr.f gr.h gr.n⟩
        revert h
        cases mb (ρ.map vOnly) default with
        | ok y d' => exact fun h F' H' v b' _ rp => h F' H' v (back b').1 (back b').2 rp
        | ex e d' => exact fun h F' H' cls dd b' _ rp => h F' H' cls dd (back b').1 (back b').2 rp
        | no => exact fun h => h
      refine PySem.W.kla_codeExpr (wpAny_mono ((hbody _ _ s1 H1 (E' σZ) F1 (hr.deeper _)).run [] _ _ H1 Q J tR1) (fun v s' hq => ?_) fun e s' hq => hq)
      obtain ⟨w', H', J', rv, q⟩ := hq
      exact ⟨w', H', J'.os, J'.bare, J'.base, J'.hok, rv, q⟩
    refine wpAny_call (codeAny_mono rc fun r s' hq => ?_)
    have z := after_call tk I1 hq
    cases r with
    | error er => exact z
    | ok fl => cases fl <;> exact z
  · exact h.elim
end
end RL
end M_R69
section M_R70
namespace RL
open PySem PySem.Spec PyProof.Rows L2

/-- the call of what was handed over, in every context of the def that got it -/
abbrev ActOk (Z : Cx) (C : Pl) (B : Bp) (a : Str) (o : O) : Prop :=
  ∀ (E' : XS) (pn : List (Addr × Obj)) (xe : Value → Shared → Prop) (p1 p2 : Pos), Tk (Z.tr pn xe) E' → RE (Z.tr pn xe) C B E' (.Call (.Name a p1) [] [] p2) (eAct 0 o)
/-- a def that gets what it may call: what it gives, by what that call gives -/
def ToldG (P : Program) (w : World) (K : PySem.W.Frag) (mg : Str → Option Value) (base : Heap) (C : Pl) (k : Nat) (g : Addr) (told : O → O) : Prop :=
  ∃ (x qual : Str) (st : Stmt) (fd : FuncData) (Ng : List Str) (a : Str) (mt : O → SM), Fun K x qual st g fd ∧ FnScope Ng [a] (defScope st) ∧ L2.Binds K fd [a] [] ∧ Ng[0]? = some a ∧ Vis (defScope st) a ∧ (a == ("__debug__" : Str)) = false ∧ (a == ("__classdict__" : Str)) = false ∧
    (∀ o, told o = (mt o (startL Ng.length) default).o) ∧
    ∀ (cdv : Value) (A : Around) (outer : List Env) (s : Shared) (H : Hp) (E : XK) (F0 : Hp) (f : Addr) (o : O), RmG k (A.deeper (envOfC qual (defScope st) s.heap.objs.size g cdv)) →
      ActOk (cxOf (L2.CX P w) P w K mg base Ng qual (defScope st) g cdv A outer s H E) C ⟨F0, H, none, none, [(f : Int)]⟩ a o →
      RSs (cxOf (L2.CX P w) P w K mg base Ng qual (defScope st) g cdv A outer s H E) C ⟨F0, H, none, none, [(f : Int)]⟩ (fun _ => E) (defBody st) (mt o)
theorem ToldG.mono {P : Program} {w : World} {K : PySem.W.Frag} {mg : Str → Option Value} {base : Heap} {C : Pl} {j k : Nat} {g : Addr} {told : O → O} (G : ToldG P w K mg base C j g told) (h : j ≤ k) : ToldG P w K mg base C k g told := by
  obtain ⟨x, qual, st, fd, Ng, a, mt, h1, h2, h3, h4, h5, h6, h7, h8, h9⟩ := G
  exact ⟨x, qual, st, fd, Ng, a, mt, h1, h2, h3, h4, h5, h6, h7, h8, fun cdv A outer s H E F0 f o hr => h9 cdv A outer s H E F0 f o (hr.mono h)⟩
/-- f(lambda: e) -/
def eLam (told : O → O) (mb : EM) : EM := fun ρ d => (told (lamO (mb (ρ.map vOnly) default))).r d
@[simp] theorem eLam_x (told : O → O) (mb : EM) (ρ : REnv) (d : DSt) : eLam told mb ρ d = (told (lamO (mb (ρ.map vOnly) default))).r d := rfl
@[simp] theorem eAct_x (i : Nat) (o : O) (ρ : REnv) (d : DSt) : eAct i o ρ d = (match (ρ[i]? : Option Sl) with
  | some .lam => o.r d
  | _ => .no) := rfl
theorem BG.endL {C : Pl} {F0 H0 F H : Hp} {cl : List Int} {d : DSt} (b : BG C ⟨F0, H0, none, none, cl⟩ d F H) : Grow C F0 H0 F H :=
  ⟨b.f0, b.fh, fun a o z e => b.od a o z e (by
    intro m
    rcases m with ⟨p, hp, _⟩ | hp
    · cases hp
    · cases hp), b.nw⟩
section
variable {X : Cx} {C : Pl} {B : Bp} {E : XS}
theorem re_lam {told : O → O} {x : Str} {g c P : Addr} {k : Nat} {params : Arguments} {body : Expr} {scope : Scope} {mb : EM} {p lpos pos : Pos} (hg : Gl X x) (hm : X.mg x = some (.ref g)) (hk : PySem.W.keepIn X.K (.ref g) = true) (tk : Tk X E)
    (G : ToldG X.prog X.w X.K X.mg X.base C (k + 1) g told) (TB : LamX.TabB X.base X.mg c P) (hcode : X.env.code = .ref c) (hmT : (P, lamQ X) ∈ C.tb) (hu : ∀ q, (P, q) ∈ C.tb → q = lamQ X) (hr : RmG (k + 2) X.A) (L : LamX.LamS X.env.scope scope) (hdef : defaultsOf params X.env = ([], []))
    (hbind : ∀ (q : Str) (cl : List (Str × Addr)) (pm cv ctv : Value), bindArgs (PySem.W.kla_fn "<lambda>" q params body scope cl pm cv ctv) ⟨[], []⟩ = pure [])
    (hbody : ∀ (A : Around) (outer : List Env) (s : Shared) (H : Hp) (E : XK) (f c' : Addr) (F : Hp), RmG k (A.deeper (LamX.lamEnv X scope s.heap.objs.size f c')) → RE (LamX.lamCx X A outer s H E scope f c') C ⟨F, H, none, none, []⟩ (fun _ => E) body mb)
    (hdb : (x == ("__debug__" : Str)) = false := by decide) :
    RE X C B E (.Call (.Name x p) [.Lambda params body scope lpos] [] pos) (eLam told mb) := by
  refine ⟨fun pins s σ H Q I h => ?_⟩
  obtain ⟨F, ρ, d, b, h⟩ := h
  obtain ⟨nm, qual, st, fd, Ng, a, mt, Fg, Sg, bd, hN, hv, hda, hca, ht, hG⟩ := G
  obtain ⟨oc, od, kV, doc, pm0, an, cdv, ct, osl, rfl, lk, hcd⟩ := Fg.ex
  refine wpAny_Call_Name_kw (ld_glob I hg hm ?_ hdb)
  refine PySem.W.callWith_K (h₀ := X.base) I.ok.mod.kin hk ?_ (by rfl) (by rfl)
  show wpAny _ _ (spliced ((false, eval (.Lambda params body scope lpos) X.env) :: backTo pos (starEach [] X.env))) _ _ s
  obtain ⟨fP, tP⟩ := b.g.tb _ hmT
  refine Calls.spliced_cons (lam_mk I TB hcode tP hdef (L.has I.ok) fun f c' pm ctv H1 s' I1 hk1 t1 hf hfn hfr hco => ?_)
  refine Calls.spliced_nil ⟨I1.kIn, ?_⟩
  have ex : ∃ ps, H P = some (.tbl ps) := let ⟨ps, e, _⟩ := tP; ⟨ps, e⟩
  have sm : Same F H1 := fun u o e => hk1 u o (fun z => by rw [z, fP] at e; cases e) (b.g.fh _ _ e)
  have uh : Uh C F H H1 := fun u o _ e => by
    by_cases hb : u = P
    · subst hb
      obtain ⟨ps, e0⟩ := ex
      cases e0.symm.trans e
      obtain ⟨ps', e1, _⟩ := id t1
      exact ⟨⟨ps', e1⟩, fun q hq _ => by rw [hu q hq]; exact t1⟩
    · cases o with
      | tbl ps => exact ⟨⟨ps, hk1 _ _ hb e⟩, fun q _ t => tabS_keep ex hk1 hb t⟩
      | _ => exact hk1 _ _ hb e
  have nw : ∀ u o, F u = some o → (∃ v, F u = some v) ∨ H u = none := fun u o e => .inl ⟨o, e⟩
  have b1 : BG C B d F H1 := b.g.grow (Sk.refl C F) sm uh nw
  have g1 : Go C B F H F H1 := .of b.g.fh (Sk.refl C F) sm uh nw
  have B1 := b.go b1 g1
  have rc : codeAny (model X.prog X.w) X.A (.call (.ref g) ⟨[.ref f], []⟩) (CR (L2.CX X.prog X.w) X.stack X.prog X.w H1 s' Q (E σ)) s' := by
    refine LamX.run_ofS (N := Ng) (ps := [a]) (us := [.ref f]) (vs := [.ref f]) lk hcd Sg hr.r I1.env0 (bd s' [.ref f] I1.kIn rfl) (.cons rfl .nil) rfl fun hr' => ?_
    have hr1 : RmG (k + 1) (X.A.deeper (envOfC qual (defScope st) s'.heap.objs.size g cdv)) := ⟨hr', hr.g⟩
    have hl : 1 ≤ Ng.length := (List.getElem?_eq_some_iff.mp hN).1
    refine ⟨_, hG cdv X.A X.stack s' H1 (E σ) F f (lamO (mb (ρ.map vOnly) default)) hr1 (fun E' pn xe p1 p2 tk' =>
      re_act (i := 0) I1 B1 L hf hfn hfr hco (hbind _ _ _ _ _) tk' hr1 (fun A outer s H E F hr2 => hbody A outer s H E f c' F hr2) hN hv hda hca), F, RL.startL Ng.length, default, BR.startL b1.fh b1.tb hl, ?_⟩
    unfold eLam at h
    rw [ht] at h
    revert h
    cases mt (lamO (mb (ρ.map vOnly) default)) (RL.startL Ng.length) default with
    | nx ρ' d' => exact fun h σ' F' H' b' _ => let gr := b'.g.endL; h F' H' .non (b1.grow gr.s gr.f gr.h gr.n) (g1.trans (.of b1.fh gr.s gr.f gr.h gr.n)) rfl
    | rt y d' => exact fun h ρ' σ' F' H' v b' _ r => let gr := b'.g.endL; h F' H' v (b1.grow gr.s gr.f gr.h gr.n) (g1.trans (.of b1.fh gr.s gr.f gr.h gr.n)) r
    | ex e d' => exact fun h σ' F' H' cls dd b' r => let gr := b'.endL; h F' H' cls dd (b1.grow gr.s gr.f gr.h gr.n) (g1.trans (.of b1.fh gr.s gr.f gr.h gr.n)) r
    | bk ρ' d' => exact fun h => h.elim
    | ct ρ' d' => exact fun h => h.elim
    | no => exact fun h => h
  refine wpAny_call (codeAny_mono rc fun r s2 hq => ?_)
  have z := after_call tk I1 hq
  cases r with
  | error er => exact z
  | ok fl => cases fl <;> exact z
end
end RL
end M_R70
section M_R71
/-! the law's own call, where there are tables of code objects -/
namespace RL
open PySem PySem.Spec PyProof.Rows L2

/-- the tables of cs, empty -/
def tblH (ts : List Addr) (F : Hp) : Hp := fun b => if b ∈ ts then some (.tbl #[]) else F b
theorem tblH_in {ts : List Addr} {F : Hp} {b : Addr} (h : b ∈ ts) : tblH ts F b = some (.tbl #[]) := if_pos h
theorem tblH_out {ts : List Addr} {F : Hp} {b : Addr} (h : b ∉ ts) : tblH ts F b = F b := if_neg h
section
variable {P : Program} {w : World} {K : PySem.W.Frag} {mg mb : Str → Option Value} {k n : Nat} {fa a : Addr} {s : Shared} {vs : List Value} {ns : List Int} {C : Pl} {F : Hp} {cs : List (Addr × Addr)}
theorem law_coreT (KX : K.In s.heap) (hns : s.heap.Ns mainGlobals mg) (hb : s.heap.Ns builtinsNs mb) (hbb : ∀ x : Str, x ≠ "__name__" → mb x = bootBuiltins x) (hlim : s.heap.NoLimit) (hg : s.gens = #[]) (hr : RmG k callerA) (hC : C.K = K)
    (hT : ∀ p ∈ cs, s.heap.get? p.2 = some { cls := .none, data := .fields #[] }) (nT : ∀ p ∈ cs, K.lookup p.2 = none) (hc : ∀ p ∈ cs, PySem.W.CodeHd s.heap p.1 p.2) (hcs : ∀ p ∈ C.tb, p.1 ∈ cs.map (·.2))
    (hbm : ∃ (bm : Addr) (ob : Obj), mg "__builtins__" = some (.ref bm) ∧ bm ≠ builtinsNs ∧ s.heap.get? bm = some ob ∧ ob.cls = .type "module" ∧ ob.dict = some builtinsNs ∧ ob.data = .plain)
    (G : ∀ base : Heap, K.In base → base.Ns mainGlobals mg → (∀ p ∈ cs, LamX.TabB base mg p.1 p.2) → FnG P w K mg base k fa (spL C n)) (hl : ns.length ≤ n)
    (hA : ∀ b, F b ≠ none → b = a) (hK : F a ≠ none → K.lookup a = none) (hF : ∀ b u, F b = some u → ∃ o y, u = .frz o y) (hok : HOk P w (tblH (cs.map (·.2)) F) s.heap) (ha : s.heap.get? a = some { cls := .type "list", data := .seq vs.toArray }) (hS : SqX K F a (ns.map V.int)) :
    codeAny (model P w) callerA (.call (.ref fa) ⟨[.ref a], []⟩) (fun r s' => r = .ok (.ret (.bool true)) ∧ OldK s.heap s'.heap ∧ s'.os = s.os ∧ AllBare s'.gens) s := by
  have tab : ∀ b, b ∈ cs.map (·.2) → s.heap.get? b = some { cls := .none, data := .fields #[] } := fun b hb => by
    obtain ⟨p, hp, rfl⟩ := List.mem_map.mp hb
    exact hT p hp
  have mem : ∀ p ∈ cs, p.2 ∈ cs.map (·.2) := fun p hp => List.mem_map.mpr ⟨p, hp, rfl⟩
  -- what is neither a list nor an empty table is not tracked
  have free : ∀ {b : Addr} {o : Obj}, s.heap.get? b = some o → (∀ l m, o.data ≠ .seq l m) → o.data ≠ .fields #[] → tblH (cs.map (·.2)) F b = none := fun {b o} e h1 h2 => by
    by_cases hb : b ∈ cs.map (·.2)
    · rw [tab b hb] at e; cases e
      exact absurd rfl h2
    · rw [tblH_out hb]
      cases q : F b with
      | none => rfl
      | some u =>
        have := hA b (by rw [q]; simp)
        subst this
        rw [ha] at e; cases e
        exact absurd rfl (h1 _ _)
  have freeD : ∀ {b : Addr} {o : Obj} {es : Array DictEntry} {ep : Nat}, s.heap.get? b = some o → o.data = .dict es ep → tblH (cs.map (·.2)) F b = none := fun {b o es ep} e d =>
    free e (fun l m z => by rw [d] at z; cases z) (fun z => by rw [d] at z; cases z)
  have keepN : ∀ {b : Addr} {m : Str → Option Value}, s.heap.Ns b m → (hidT s.heap (tblH (cs.map (·.2)) F)).Ns b m := by
    intro b m x
    obtain ⟨o, es, ep, e, dd, rest⟩ := x
    exact ⟨o, es, ep, hidT_get e (freeD e dd), dd, rest⟩
  have KB : K.In (hidT s.heap (tblH (cs.map (·.2)) F)) := by
    intro b o e
    refine hidT_get (KX b o e) ?_
    by_cases hb : b ∈ cs.map (·.2)
    · obtain ⟨p, hp, rfl⟩ := List.mem_map.mp hb
      rw [nT p hp] at e; cases e
    · rw [tblH_out hb]
      cases q : F b with
      | none => rfl
      | some u =>
        have := hA b (by rw [q]; simp)
        subst this
        rw [hK (by rw [q]; simp)] at e; cases e
  have fT : ∀ b, b ∈ cs.map (·.2) → F b = none := fun b hb => by
    cases q : F b with
    | none => rfl
    | some u =>
      have := hA b (by rw [q]; simp)
      subst this
      have e := tab b hb
      rw [ha] at e
      have z : Data.seq vs.toArray _ = Data.fields #[] := congrArg Obj.data (Option.some.inj e)
      cases z
  have TBs : ∀ p ∈ cs, LamX.TabB (hidT s.heap (tblH (cs.map (·.2)) F)) mg p.1 p.2 := fun p hp => by
    obtain ⟨bm, ob, b1, b2, b3, b4, b5, b6⟩ := hbm
    have nG : bm ≠ mainGlobals := fun q => by
      obtain ⟨o, es, ep, e, hd, _⟩ := hns
      rw [q, e] at b3; cases b3
      rw [hd] at b6; cases b6
    have nP : bm ≠ p.2 := fun q => by
      rw [q, hT p hp] at b3; cases b3
      cases b6
    obtain ⟨o, us, file, tf, flags, tg, inF, text, tt, e1, r1, r2, r3, r⟩ := hc p hp
    refine ⟨⟨o, us, file, tf, flags, tg, inF, text, tt, hidT_get e1 (free e1 (fun l m z => by rw [r2] at z; cases z) fun z => ?_), r1, r2, r3, r⟩,
      ⟨bm, ob, b1, b2, nG, nP, hidT_get b3 (free b3 (fun l m z => by rw [b6] at z; cases z) fun z => by rw [b6] at z; cases z), b4, b5, b6⟩, fun z => ?_⟩
    · rw [r2] at z; cases z
      simp at r3
    · obtain ⟨o, es, ep, e, hd, _⟩ := hns
      rw [z, hT p hp] at e; cases e
      cases hd
  obtain ⟨mc, l1, l2⟩ := hlim
  have e0 : Env0 P w K mg (hidT s.heap (tblH (cs.map (·.2)) F)) callerA [] s (tblH (cs.map (·.2)) F) :=
    ⟨rfl, ⟨KB, keepN hns, ⟨mb, keepN hb, hbb⟩, ⟨mc, keepN l1, l2⟩⟩, fun b o e => of_hidT e, Nat.le_of_eq (hidT_size _ _), trivial, fun b m => absurd (show b ∈ ([] : List Addr) from m) (by simp), hok, .of_eq hg⟩
  have sm : Same F (tblH (cs.map (·.2)) F) := fun b u e => by rw [tblH_out (fun z => by rw [fT b z] at e; cases e)]; exact e
  refine codeAny_mono (G _ KB (keepN hns) TBs callerA [] s _ [.ref a] [.ref a] (fun v _ => v = .bl true) (fun _ _ _ => False) hr e0 (.cons rfl .nil)
    ⟨F, a, ns, rfl, hl, sm, fun p hp => ⟨fT _ (hcs p hp), LamX.TabS.nil (tblH_in (hcs p hp))⟩, by rw [hC]; exact hS, fun _ => rfl⟩) fun r s' hq => ?_
  cases r with
  | error e =>
    exfalso
    obtain ⟨_, _, _, _, _, _, _, _, _, _, _, _, z⟩ := hq
    exact z
  | ok fl =>
    cases fl with
    | ret u =>
      obtain ⟨v, H', os, bare, un, hok', rv, q⟩ := hq
      cases (show v = .bl true from q)
      cases (show u = Value.bool true from rv)
      have stay : ∀ b o, b ∉ cs.map (·.2) → s.heap.get? b = some o → s'.heap.get? b = some o := fun b o nb e => by
        cases q : F b with
        | none => exact un.keep b o e (by rw [tblH_out nb]; exact q) (by intro z; cases z) (by simp)
        | some u =>
          obtain ⟨ob, y, rfl⟩ := hF b u q
          have q' : tblH (cs.map (·.2)) F b = some (.frz ob y) := by rw [tblH_out nb]; exact q
          obtain ⟨h1, _⟩ := hok b _ q'
          obtain ⟨h2, _⟩ := hok' b _ (un.frzs b ob y q')
          rw [e] at h1; cases h1
          exact h2
      have more : ∀ b, b ∈ cs.map (·.2) → ∃ m : Array Value, s'.heap.get? b = some { cls := .none, data := .fields m } := fun b hb => by
        obtain ⟨m, z⟩ := un.tbls b #[] (tblH_in hb)
        exact ⟨_, hok' b _ z⟩
      refine ⟨rfl, ⟨fun b o e => ?_, fun b o e => ?_⟩, os, bare⟩
      · by_cases hb : b ∈ cs.map (·.2)
        · obtain ⟨p, hp, rfl⟩ := List.mem_map.mp hb
          obtain ⟨m, hm⟩ := more _ hb
          rw [hT p hp] at e; cases e
          exact .inr (.inl ⟨((hc p hp).tab (hT p hp)).isCodeTable, rfl, #[], m, rfl, by rw [Array.empty_append]; exact hm⟩)
        · exact .inl (stay b o hb e)
      · by_cases hb : b ∈ cs.map (·.2)
        · obtain ⟨m, hm⟩ := more _ hb
          exact ⟨_, hm⟩
        · exact ⟨o, stay b o hb e⟩
    | next => exact hq.elim
    | brk => exact hq.elim
    | cont => exact hq.elim
theorem law_callT (KX : K.In s.heap) (hns : s.heap.Ns mainGlobals mg) (hb : s.heap.Ns builtinsNs mb) (hbb : ∀ x : Str, x ≠ "__name__" → mb x = bootBuiltins x) (hlim : s.heap.NoLimit) (hg : s.gens = #[]) (hr : RmG k callerA) (hC : C.K = K)
    (hT : ∀ p ∈ cs, s.heap.get? p.2 = some { cls := .none, data := .fields #[] }) (nT : ∀ p ∈ cs, K.lookup p.2 = none) (hc : ∀ p ∈ cs, PySem.W.CodeHd s.heap p.1 p.2) (hcs : ∀ p ∈ C.tb, p.1 ∈ cs.map (·.2))
    (hbm : ∃ (bm : Addr) (ob : Obj), mg "__builtins__" = some (.ref bm) ∧ bm ≠ builtinsNs ∧ s.heap.get? bm = some ob ∧ ob.cls = .type "module" ∧ ob.dict = some builtinsNs ∧ ob.data = .plain)
    (G : ∀ base : Heap, K.In base → base.Ns mainGlobals mg → (∀ p ∈ cs, LamX.TabB base mg p.1 p.2) → FnG P w K mg base k fa (spL C n)) (hl : ns.length ≤ n) (hn : n ≤ sizeLine) (ha : s.heap.get? a = some { cls := .type "list", data := .seq vs.toArray }) (hi : IntsAre vs ns) :
    codeAny (model P w) callerA (.call (.ref fa) ⟨[.ref a], []⟩) (fun r s' => r = .ok (.ret (.bool true)) ∧ OldK s.heap s'.heap ∧ s'.os = s.os ∧ AllBare s'.gens) s := by
  have rv := vals_ints hi
  have lv := hi.length
  have tab : ∀ b, b ∈ cs.map (·.2) → s.heap.get? b = some { cls := .none, data := .fields #[] } := fun b hb => by
    obtain ⟨p, hp, rfl⟩ := List.mem_map.mp hb
    exact hT p hp
  cases hk : K.lookup a with
  | some o =>
    have e := KX a o hk
    rw [ha] at e; cases e
    refine law_coreT (F := fun _ => none) KX hns hb hbb hlim hg hr hC hT nT hc hcs hbm G hl (fun b z => absurd rfl z) (fun z => absurd rfl z) (fun b u z => by cases z) (fun b u z => ?_) ha (.inr ⟨vs, _, hk, by omega, rv⟩)
    by_cases hb : b ∈ cs.map (·.2)
    · rw [tblH_in hb] at z; cases z
      exact tab b hb
    · rw [tblH_out hb] at z; cases z
  | none =>
    refine law_coreT (F := upd (fun _ => none) a (.frz { cls := .type "list", data := .seq vs.toArray } (.lst (ns.map V.int)))) KX hns hb hbb hlim hg hr hC hT nT hc hcs hbm G hl (fun b z => ?_) (fun _ => hk) (fun b u z => ?_) (fun b u z => ?_) ha (.inl (.inr ⟨_, upd_same⟩))
    · by_cases hb : b = a
      · exact hb
      · rw [upd_ne hb] at z; exact absurd rfl z
    · by_cases hb : b = a
      · subst hb; rw [upd_same] at z; cases z; exact ⟨_, _, rfl⟩
      · rw [upd_ne hb] at z; cases z
    · by_cases ht : b ∈ cs.map (·.2)
      · rw [tblH_in ht] at z; cases z
        exact tab b ht
      · rw [tblH_out ht] at z
        by_cases hb : b = a
        · subst hb
          rw [upd_same] at z; cases z
          exact ⟨ha, by rw [List.length_map]; omega, vs, _, rv, ha⟩
        · rw [upd_ne hb] at z; cases z
theorem walk_ofT {l : PySem.W.OpenLaw} {n k : Nat} {q : Program} {loose : List Str} {XP : (Str → Option Value) → Heap → Prop} {YP : World → Heap → Prop} {d : DefRec}
    (hn : l.most = some n) (hn2 : n ≤ sizeLine) (hdf : d.params.defaults = []) (hr : RmG k callerA)
    (G : ∀ (w : World) (mg : Str → Option Value) (fa : Addr) (h : Heap), YP w h → h.Ns mainGlobals mg → mg d.name = some (.ref fa) → ∃ (K : PySem.W.Frag) (C : Pl) (cs : List (Addr × Addr)), C.K = K ∧ K.In h ∧
      (∀ p ∈ cs, h.get? p.2 = some { cls := .none, data := .fields #[] }) ∧ (∀ p ∈ cs, K.lookup p.2 = none) ∧ (∀ p ∈ cs, PySem.W.CodeHd h p.1 p.2) ∧ (∀ p ∈ C.tb, p.1 ∈ cs.map (·.2)) ∧
      ∀ base : Heap, K.In base → base.Ns mainGlobals mg → (∀ p ∈ cs, LamX.TabB base mg p.1 p.2) → FnG l.prog w K mg base k fa (spL C n)) :
    PySem.W.WalkO q loose XP YP l.row.toRowW d [] (fun f vs => PySem.call f vs) := by
  refine Att.attach_call hn hdf fun w s₀ s₁ mg mb fa o pm cd doc a vs ns Gr Y ho hd hcd hmg hobj hints hlen hg => ?_
  obtain ⟨K, C, cs, hC, KX, hT, nT, hc, hcs, hG⟩ := G w mg fa _ Y Gr.T.g hmg
  exact law_callT KX Gr.T.g Gr.T.b Gr.T.builtins Gr.T.nolimit hg hr hC hT nT hc hcs Gr.T.bmain hG hlen hn2 hobj hints
end
end RL
end M_R71
section M_R72
/-! the head's run, the tables of the makers of lambdas looked at too -/
namespace RL
open PySem PySem.W PySem.Calls PyProof.Rows L2
/-- an empty table -/
def tabOb : Option Obj → Bool
  | some ⟨.none, Option.none, .fields ⟨[]⟩, ⟨[]⟩⟩ => true
  | _ => false
theorem tabOb_eq {o : Option Obj} (h : tabOb o = true) : o = some { cls := .none, data := .fields #[] } := by
  unfold tabOb at h
  split at h
  · rfl
  · cases h
def tabP (K : Frag) (x : Str) : Addr := match tabIn K x with
  | some (_, P) => P
  | none => 0
/-- what is known of the tables of the defs named -/
def TabsX (ts : List Str) (K : Frag) (h : Heap) : Prop := ∀ x ∈ ts, (∃ c P, tabIn K x = some (c, P) ∧ h.get? P = some { cls := .none, data := .fields #[] } ∧ codeHdIn K c P = true ∧ K.lookup P = none) ∧ ∀ y ∈ ts, tabP K x = tabP K y → x = y
def tabsB (ts : List Str) (K : Frag) (g : Addr → Option Obj) : Bool := ts.all fun x => (match tabIn K x with
  | some (c, P) => tabOb (g P) && codeHdIn K c P && (K.lookup P).isNone
  | none => false) && ts.all fun y => tabP K x != tabP K y || x == y
theorem tabsB_ok {ts : List Str} {K : Frag} {h : Heap} (e : tabsB ts K h.get? = true) : TabsX ts K h := fun x hx => by
  have z := List.all_eq_true.mp e x hx
  obtain ⟨z1, z2⟩ := He.ba z
  refine ⟨?_, fun y hy q => ?_⟩
  · split at z1
    · rename_i c P q
      obtain ⟨z3, z4⟩ := He.ba z1
      obtain ⟨z5, z6⟩ := He.ba z3
      exact ⟨c, P, q, tabOb_eq z5, z6, Option.isNone_iff_eq_none.mp z4⟩
    · cases z1
  · have z3 := List.all_eq_true.mp z2 y hy
    rw [q] at z3
    simpa using z3
def obsT (n : Nat) (fs : Frag → List Bool) (ds : List Da) (ts : List Str) (g : Addr → Option Obj) : AlX := ((obsYG n fs ds g).1 && tabsB ts (He.frG g (asY g n)) g, (obsYG n fs ds g).2)
def hookT (n : Nat) (fs : Frag → List Bool) (ds : List Da) (ts : List Str) : Hook where
  α := AlX
  obs := fun s => obsT n fs ds ts s.heap.get?
  val := fun _ => valX ds
  says := fun _ h => ∃ K : Frag, K.In h ∧ SaysX fs ds K ∧ TabsX ts K h
  of := fun _ s e => by
    have z1 := congrArg Prod.fst (show obsT n fs ds ts s.heap.get? = valX ds from e)
    have z2 := congrArg Prod.snd (show obsT n fs ds ts s.heap.get? = valX ds from e)
    have e1 : ((obsYG n fs ds s.heap.get?).1 && tabsB ts (He.frG s.heap.get? (asY s.heap.get? n)) s.heap.get?) = true := z1
    have e2 : (obsYG n fs ds s.heap.get?).2 = (valX ds).2 := z2
    obtain ⟨e3, e4⟩ := He.ba e1
    exact ⟨_, He.frG_in, Prod.ext e3 e2, tabsB_ok e4⟩
  keeps := fun _ _ _ ⟨K, hK, c, t⟩ k => ⟨K, Frag.In.keeps hK k, c, fun x hx => ⟨let ⟨c, P, a1, a2, a3, a4⟩ := (t x hx).1; ⟨c, P, a1, k _ _ a2, a3, a4⟩, (t x hx).2⟩⟩
theorem obsT_eq {n : Nat} {fs : Frag → List Bool} {ds : List Da} {ts : List Str} {g : Addr → Option Obj} {s : Shared} (h : ∀ a, g a = s.heap.get? a) : obsT n fs ds ts g = (hookT n fs ds ts).obs s := by
  have e : g = s.heap.get? := funext h
  rw [e] <;> rfl
theorem run_partsT {r : OpenRow} {q : Program} {loose : List Str} {M : Nat} {w : World} {fs : Frag → List Bool} {ds : List Da} {ts : List Str}
    (h1 : ∀ os : OsState, (HandSHeadRun.endF (HandSHeadRun.stepQ (HandSHeadRun.denQ HandSHeadRun.tabQ) r.prog w) M r.prog w os).map (fun s => (HandSHeadRun.looksF r.prog (boot_heap w.params) s.abs, HandSHeadRun.seenQ q loose (importedModules r.prog.main.body) (fun s => xlAt q [] s && recOk r.toRowW.records s) s.abs)) = some (true, openGood q loose))
    (h2 : ∀ os : OsState, (HandSHeadRun.endF (HandSHeadRun.stepQ (HandSHeadRun.denQ HandSHeadRun.tabQ) r.prog w) M r.prog w os).map (fun s => (fs (KY s)).all id) = some true)
    (h3 : ∀ os : OsState, (HandSHeadRun.endF (HandSHeadRun.stepQ (HandSHeadRun.denQ HandSHeadRun.tabQ) r.prog w) M r.prog w os).map (fun s => (ds.all fun d => d.ok (KY s), ds.map fun d => fnA (KY s) (d.at_ (KY s)))) = some (true, ds.map Da.val))
    (h4 : ∀ os : OsState, (HandSHeadRun.endF (HandSHeadRun.stepQ (HandSHeadRun.denQ HandSHeadRun.tabQ) r.prog w) M r.prog w os).map (fun s => tabsB ts (KY s) (HandSHeadRun.getT s)) = some true) :
    HandSHeadRun.RunEq r q (hookT 5 fs ds ts) (fun s => obsT 5 fs ds ts (HandSHeadRun.getT s)) M loose w := by
  intro os
  have a := h1 os; have b := h2 os; have c := h3 os; have t := h4 os
  revert a b c t
  cases HandSHeadRun.endF (HandSHeadRun.stepQ (HandSHeadRun.denQ HandSHeadRun.tabQ) r.prog w) M r.prog w os with
  | none => intro a; cases a
  | some s =>
    intro a b c t
    have a := Option.some.inj a
    have b : (fs (KY s)).all id = true := Option.some.inj b
    have c := Option.some.inj c
    have t : tabsB ts (KY s) (HandSHeadRun.getT s) = true := Option.some.inj t
    show some (_, _, obsT 5 fs ds ts (HandSHeadRun.getT s)) = some (true, openGood q loose, valX ds)
    have e : obsT 5 fs ds ts (HandSHeadRun.getT s) = (((fs (KY s)).all id && ds.all fun d => d.ok (KY s)) && tabsB ts (KY s) (HandSHeadRun.getT s), ds.map fun d => fnA (KY s) (d.at_ (KY s))) := rfl
    have c1 := congrArg Prod.fst c
    have c2 := congrArg Prod.snd c
    simp only at c1 c2
    have a1 := congrArg Prod.fst a
    have a2 := congrArg Prod.snd a
    simp only at a1 a2
    rw [e, b, c1, c2, t, a1, a2]
    rfl
/-! ### the makers -/
/-- the tables of the defs named, by the names of their lambdas -/
def tbK (ts : List Str) (K : Frag) : List (Addr × Str) := ts.filterMap fun x => (tabIn K x).map fun p => (p.2, x ++ ".<locals>." ++ "<lambda>")
def csK (ts : List Str) (K : Frag) : List (Addr × Addr) := ts.filterMap fun x => tabIn K x
/-- the def at g, whose lambdas bear the name q -/
def LamT (K : Frag) (mg : Str → Option Value) (base : Heap) (C : Pl) (g : Addr) (q : Str) : Prop :=
  ∃ c P, (∀ x qual st fd, L2.Fun K x qual st g fd → fd.code = .ref c) ∧ LamX.TabB base mg c P ∧ (P, q) ∈ C.tb ∧ ∀ q', (P, q') ∈ C.tb → q' = q
section
variable {ts : List Str} {K : Frag} {h base : Heap} {mg : Str → Option Value} {C : Pl}
theorem mem_csK {p : Addr × Addr} (hp : p ∈ csK ts K) : ∃ x ∈ ts, tabIn K x = some p := by
  obtain ⟨x, hx, e⟩ := List.mem_filterMap.mp hp
  exact ⟨x, hx, e⟩
theorem csK_tab (t : TabsX ts K h) : ∀ p ∈ csK ts K, h.get? p.2 = some { cls := .none, data := .fields #[] } := fun p hp => by
  obtain ⟨x, hx, e⟩ := mem_csK hp
  obtain ⟨c, P, e', z, _⟩ := (t x hx).1
  rw [e] at e'; cases e'
  exact z
theorem csK_out (t : TabsX ts K h) : ∀ p ∈ csK ts K, K.lookup p.2 = none := fun p hp => by
  obtain ⟨x, hx, e⟩ := mem_csK hp
  obtain ⟨c, P, e', _, _, z⟩ := (t x hx).1
  rw [e] at e'; cases e'
  exact z
theorem csK_code (X : K.In h) (t : TabsX ts K h) : ∀ p ∈ csK ts K, CodeHd h p.1 p.2 := fun p hp => by
  obtain ⟨x, hx, e⟩ := mem_csK hp
  obtain ⟨c, P, e', _, z, _⟩ := (t x hx).1
  rw [e] at e'; cases e'
  exact codeHd_of_K X z
theorem csK_tb : ∀ p ∈ tbK ts K, p.1 ∈ (csK ts K).map (·.2) := fun p hp => by
  obtain ⟨x, hx, e⟩ := List.mem_filterMap.mp hp
  cases q : tabIn K x with
  | none => rw [q] at e; cases e
  | some p' =>
    rw [q] at e; cases e
    exact List.mem_map.mpr ⟨p', List.mem_filterMap.mpr ⟨x, hx, q⟩, rfl⟩
theorem lamT_of (X : K.In h) (G : h.Ns mainGlobals mg) (t : TabsX ts K h) (hC : C.tb = tbK ts K) (TB : ∀ p ∈ csK ts K, LamX.TabB base mg p.1 p.2) {x : Str} {g : Addr} (hx : x ∈ ts) (hm : mg x = some (.ref g)) : LamT K mg base C g (x ++ ".<locals>." ++ "<lambda>") := by
  obtain ⟨⟨c, P, e, e2, e3, e4⟩, u⟩ := t x hx
  refine ⟨c, P, fun nm qual st fd F => ?_, TB (c, P) (List.mem_filterMap.mpr ⟨x, hx, e⟩), ?_, fun q' hq => ?_⟩
  · obtain ⟨oc, od, kV, doc, pm, an, cdv, ct, osl, _, lk, _⟩ := F.ex
    exact law_code X G e hm (X _ _ lk) rfl
  · rw [hC]
    exact List.mem_filterMap.mpr ⟨x, hx, by rw [e]; rfl⟩
  · rw [hC] at hq
    obtain ⟨y, hy, ey⟩ := List.mem_filterMap.mp hq
    cases q : tabIn K y with
    | none => rw [q] at ey; cases ey
    | some p' =>
      rw [q] at ey
      have ey := Option.some.inj ey
      have e5 : p'.2 = P := congrArg Prod.fst ey
      have e6 : y ++ ".<locals>." ++ "<lambda>" = q' := congrArg Prod.snd ey
      have : x = y := u y hy (by
        unfold tabP
        rw [e, q]
        exact e5.symm)
      rw [this, e6]
end
end RL
end M_R72
section M_R73
/-! a class called with keywords alone -/
namespace RL
open PySem PySem.Spec PyProof.Rows L2
theorem pick_suc {α : Type} (x : α) (zs : List α) : ∀ perm : List Nat, pick (perm.map (· + 1)) (x :: zs) = pick perm zs
  | [] => rfl
  | i :: perm => by
    have ih := pick_suc x zs perm
    unfold pick at ih ⊢
    rw [List.map_cons, List.filterMap_cons, List.filterMap_cons, List.getElem?_cons_succ, ih]
theorem pick_self {α : Type} (x : α) (zs : List α) (perm : List Nat) : pick (0 :: perm.map (· + 1)) (x :: zs) = x :: pick perm zs := by
  have ih := pick_suc x zs perm
  unfold pick at ih ⊢
  rw [List.filterMap_cons]
  show x :: _ = _
  rw [ih]
section
variable {P : Program} {w : World} {K : PySem.W.Frag} {mg : Str → Option Value} {base : Heap} {C : Pl}
theorem def_iniUK {x qual : Str} {st : Stmt} {f : Addr} {fd : FuncData} {N ps ks : List Str} {perm : List Nat} {k c : Nat} {m : SM} (F : Fun K x qual st f fd) (S : FnScope N ps (defScope st))
    (hbd : ∀ (kV doc pm : Value) (an : Option Addr) (cdv ct : Value) (us ws : List Value), us.length = 1 → ws.length = ks.length → bindArgs (PySem.W.fnOf x qual (defArgs st) (defBody st) (defScope st) .none kV doc pm an cdv ct) ⟨us, ks.zip ws⟩ = pure (ps.zip (pick (0 :: perm.map (· + 1)) (us ++ ws))))
    (hb : ∀ (cdv : Value) (A : Around) (outer : List Env) (s : Shared) (H : Hp) (E : XK) (F0 : Hp) (x : Addr), RmG k (A.deeper (envOfC qual (defScope st) s.heap.objs.size f cdv)) →
      RSs (cxOf (L2.CX P w) P w K mg base N qual (defScope st) f cdv A outer s H E) C ⟨F0, H, none, some x, []⟩ (fun _ => E) (defBody st) m) :
    FnGK P w K mg base (k + 1) f 1 ks (0 :: perm.map (· + 1)) (spU C c (fnI (.pl []) c (C.fl c).length ps.length N.length m)) := by
  have hpl : ps.length ≤ N.length := by have := congrArg List.length S.pre; rw [List.length_take] at this; omega
  obtain ⟨oc, od, kV, doc, pm, an, cdv, ct, osl, rfl, lk, hcd⟩ := F.ex
  intro A outer s H us ws vs0 zs0 Q E hr e0 r rz hn hk h
  have hbd := hbd kV doc pm an cdv ct us ws hn hk
  have r2 := vals_pick (r.append rz) (0 :: perm.map (· + 1))
  generalize hv : pick (0 :: perm.map (· + 1)) (vs0 ++ zs0) = vv at h r2
  obtain ⟨x, A', dx, vs, F0, xs, rfl, ha, hx, fx, fh, tb, rp, h⟩ := h
  have hxs := rp.length
  by_cases hl : xs.length + 1 = ps.length
  · have eb : (BkP.pl []).bI ps.length xs = some xs := by simp [BkP.bI, hl]
    have hlv : (V.ref x :: vs).length = ps.length := by rw [List.length_cons, ← hxs]; exact hl
    refine StX.run_bnd (G := fun ws' H2 => ws' = V.ref x :: vs ∧ H2 = H) lk hcd S hr.r e0 (fun A' Ex Q' hq => ?_) fun s2 H2 ws' g hr2 => ?_
    · rw [hbd]
      exact wpAny_pure (hq s H _ _ e0 Un.refl rfl (fun _ _ z => z) r2 hlv ⟨rfl, rfl⟩)
    · obtain ⟨rfl, rfl⟩ := g
      have hn2 : xs.length + 1 ≤ N.length := by omega
      have gr : Grow C F0 H2 F0 H2 := ⟨Sk.refl _ _, fh, Same.u (Same.refl _), fun a o q => .inl ⟨o, q⟩⟩
      refine ⟨_, hb cdv A outer s2 H2 E F0 x ⟨hr2, hr.g⟩, F0, _, default, BR.startI fh tb rp hn2 ha hx fx, ?_⟩
      unfold fnI runI at h
      simp only [eb] at h
      revert h
      cases m (startG (.obj c [] :: xs.map .val) N.length) default with
      | nx ρ' d' =>
        cases q : endI c (C.fl c).length ρ' with
        | ok y =>
          obtain ⟨zs, ez, hz, rfl⟩ := endI_ok q
          simp only [q]
          rintro ⟨ms, em, _, h⟩ σ' F' H' b s'
          injection em with _ em
          subst em
          obtain ⟨g3, f3, dx3, us3, r3, h3⟩ := b.endU ha ez
          exact h F' H' dx3 us3 (g3.pre fh gr) f3 r3 h3
        | ex e => exact (endI_ex q).elim
        | no => simp only [q]; exact fun h => h.elim
      | rt x d' => exact fun h => h.elim
      | bk ρ' d' => exact fun h => h.elim
      | ct ρ' d' => exact fun h => h.elim
      | ex e d' => exact fun h _ F' H' cls dd b r => h F' H' cls dd (b.endI.pre fh gr) r
      | no => exact fun h => h
  · have ef : fnI (.pl []) c (C.fl c).length ps.length N.length m xs = .no := by
      have : (BkP.pl []).bI ps.length xs = none := by simp [BkP.bI, hl]
      unfold fnI; rw [this]
    rw [ef] at h
    exact h.elim
end
section
variable {X : Cx} {C : Pl} {E : XS} {k c : Nat} {f A : Addr} {fn : PFn} {ks : List Str} {perm : List Nat}
theorem runU_mkK (M : Mk X.K A f) (ha : C.ad c = some A) (G : FnGK X.prog X.w X.K X.mg X.base k f 1 ks (0 :: perm.map (· + 1)) (spU C c fn)) (hr : RmG (k + 1) X.A) (tk : Tk X E) {B : Bp} {d : DSt} {σ : L2.St} {F H : Hp} {pins : List (Addr × Obj)} {s : Shared} {Q : VK} {ws : List Value} {zs : List V} {ys : List PV}
    (I : Inv X pins σ H s) (rz : Vals zs ws) (hk : ws.length = ks.length) (b : BG C B d F H) (rp : RepL C F ys zs)
    (h : match fn (pick perm ys) with
      | .ok y => ∃ zs : List PV, y = .ins c zs ∧ zs.length = (C.fl c).length ∧ ∀ F' H' x dx us, BG C B d F' H' → Go C B F H F' H' → H x = none → F' x = none → RepL C F' zs us → H' x = some (.ins A dx ((C.fl c).zip us)) → Q (.ref x) H'
      | .ex e => ∀ F' H' cls dd, BG C B d F' H' → Go C B F H F' H' → ExR C F' e cls dd → E σ cls dd H'
      | .no => False) : wpAny (model X.prog X.w) X.A (call (.ref A) [] (ks.zip ws)) (EP X pins σ Q) X.xe s := by
  have n1 : H (s.heap.objs.size + 1) = Option.none := I.hok.fresh (Nat.le_succ _)
  have n2 : H s.heap.objs.size = Option.none := I.hok.fresh (Nat.le_refl _)
  have I2 := Inv.made (C := A) I
  have keep : ∀ a o, H a = some o → a ≠ s.heap.objs.size + 1 ∧ (upd (upd H s.heap.objs.size (.own (s.heap.objs.size + 1))) (s.heap.objs.size + 1) (.ins A s.heap.objs.size [])) a = some o := fun a o e => by
    have h1 : a ≠ s.heap.objs.size + 1 := fun z => by rw [z, n1] at e; cases e
    have h2 : a ≠ s.heap.objs.size := fun z => by rw [z, n2] at e; cases e
    exact ⟨h1, by rw [upd_ne h1, upd_ne h2]; exact e⟩
  have gr : ∀ {F' H' : Hp}, GrowI C (s.heap.objs.size + 1) F (upd (upd H s.heap.objs.size (.own (s.heap.objs.size + 1))) (s.heap.objs.size + 1) (.ins A s.heap.objs.size [])) F' H' → Grow C F H F' H' := fun {F' H'} g => ⟨g.s, g.f, fun a o f e => (Kp.all (fun c u z => (keep c u z).2) e).trans fun o1 e1 => g.h a o1 (keep a o e).1 f e1, fun a o e => by
    rcases g.n a o e with q | q | q
    · exact .inl q
    · cases e0 : H a with
      | none => exact .inr rfl
      | some u => rw [(keep a u e0).2] at q; cases q
    · subst q; exact .inr n1⟩
  have hq : spU C c fn (pick (0 :: perm.map (· + 1)) ([V.ref (s.heap.objs.size + 1)] ++ zs)) (upd (upd H s.heap.objs.size (.own (s.heap.objs.size + 1))) (s.heap.objs.size + 1) (.ins A s.heap.objs.size [])) (fun v H2 => v = .non ∧ Q (.ref (s.heap.objs.size + 1)) H2) (E σ) := by
    refine ⟨_, A, s.heap.objs.size, pick perm zs, F, pick perm ys, pick_self _ _ _, ha, upd_same, b.fh.free n1, fun a o e => (keep a o (b.fh a o e)).2, fun p hp => ⟨(b.tb p hp).1, (b.tb p hp).2.ext fun c u z => (keep c u z).2⟩, rp.pick perm, ?_⟩
    revert h
    cases fn (pick perm ys) with
    | ok y => exact fun ⟨ns, ey, hl, h⟩ => ⟨ns, ey, hl, fun F' H' dx us g fx ru hx => ⟨rfl, h F' H' _ dx us (b.grow (gr g).s (gr g).f (gr g).h (gr g).n) (.of b.fh (gr g).s (gr g).f (gr g).h (gr g).n) n1 fx ru hx⟩⟩
    | ex e => exact fun h F' H' cls dd g rv => h F' H' cls dd (b.grow (gr g).s (gr g).f (gr g).h (gr g).n) (.of b.fh (gr g).s (gr g).f (gr g).h (gr g).n) rv
    | no => exact fun h => h
  refine wpAny_call (make_map (f := f) I.kIn M.makes M.init (beq_iff_eq.mp M.fn) (codeAny_mono (G _ X.stack _ _ [Value.ref (s.heap.objs.size + 1)] ws [V.ref (s.heap.objs.size + 1)] zs _ (E σ) (hr.make A [] (ks.zip ws)) (I2.env0.make A [] (ks.zip ws)) (.cons rfl .nil) rz rfl hk hq) fun r s' hq' => ?_))
  cases r with
  | error e => exact tk e s' (XE.of_call I2 (fun _ _ _ h => h) hq')
  | ok fl =>
    cases fl with
    | ret u =>
      obtain ⟨v, H', I3, rv, ev, q3⟩ := I2.after hq'
      subst ev
      exact ⟨rv, ⟨V.ref (s.heap.objs.size + 1), H', I3, rfl, q3⟩⟩
    | next => exact False.elim hq'
    | brk => exact False.elim hq'
    | cont => exact False.elim hq'
/-- c(k = e, ..) -/
theorem re_newK {kp : Bool} {B : Bp} {kws : List Keyword} {ms : AM} {x : Str} {p pos : Pos} (M : Mk X.K A f) (ha : C.ad c = some A) (T : FzT C c kp) (G : FnGK X.prog X.w X.K X.mg X.base k f 1 ks (0 :: perm.map (· + 1)) (spU C c fn)) (hw : ∀ xs y, fn xs = .ok y → ∃ zs : List PV, y = .ins c zs ∧ zs.length = (C.fl c).length) (hr : RmG (k + 1) X.A) (tk : Tk X E)
    (hg : Gl X x) (hm : X.mg x = some (.ref A)) (hk : PySem.W.keepIn X.K (.ref A) = true) (hs : RKw X C B E kws ms)
    (hall : (backToKw pos (keywordEach kws X.env)).all (·.1.isSome) = true := by rfl) (hks : (backToKw pos (keywordEach kws X.env)).filterMap (·.1) = ks := by rfl)
    (hpl : ((backTo pos (starEach [] X.env)).any (·.1) || (backToKw pos (keywordEach kws X.env)).any (·.1.isNone)) = false := by rfl) (hdb : (x == ("__debug__" : Str)) = false := by decide) :
    RE X C B E (.Call (.Name x p) [] kws pos) (eCallK (mkF c kp fn) ks.length perm ms) := by
  refine ⟨fun pins s σ H Q I h => ?_⟩
  obtain ⟨F, ρ, d, b0, h⟩ := h
  refine wpAny_Call_Name_kw (ld_glob I hg hm ?_ hdb)
  refine PySem.W.callWith_KW0 (first := []) (h₀ := X.base) I.ok.mod.kin hk hall (thn (hs.run pos pins s σ H _ I ⟨F, ρ, d, b0, tK.bind (Rp := RepL C) h⟩) fun us s2 q => ?_) hpl
  obtain ⟨ws, H2, I2, rw', F2, d2, xs, b2, g2, r2, k2⟩ := q
  refine ⟨I2.kIn, ?_⟩
  by_cases hl : xs.length = ks.length
  · rw [if_pos hl] at k2
    rw [hks]
    refine runU_mkK M ha G hr tk I2 rw' (by rw [← rw'.length, ← r2.length]; exact hl) b2 r2 ?_
    revert k2
    unfold mkF
    cases q : fn (pick perm xs) with
    | ok y =>
      obtain ⟨zs, rfl, hl⟩ := hw _ y q
      dsimp only
      rw [if_pos rfl]
      cases ef : fzF kp zs with
      | none => exact fun h => h.elim
      | some ys =>
        intro h
        refine ⟨zs, rfl, hl, fun F' H' x dx us' b' g' hx fx ru h' => ?_⟩
        obtain ⟨b3, s3⟩ := b'.freeze (b2.own hx fx) (b2.not_so hx) h'
        refine h _ H' (.ref x) b3 ⟨g'.s.trans s3, g'.k, g'.t, fun a o z => ?_⟩ (fz_rep T ha hl fx ru ef)
        by_cases ha : a = x
        · subst ha; exact .inr hx
        · rw [upd_ne ha] at z; exact g'.n a o z
    | ex e => exact fun h => h
    | no => exact fun h => h
  · rw [if_neg hl] at k2
    exact k2.elim
end
end RL
end M_R73
section M_R74
/-! zip over a text and a tuple -/
namespace RL
open PySem PySem.Spec PyProof.Rows L2
def ItzS (K : PySem.W.Frag) (x : Str) (b : Addr) : It :=
  ⟨fun i H => ∃ (ys : List V) (c : Nat) (y : V), SqT K H b ys ∧ x.cps[i]? = some c ∧ ys[i]? = some y,
    fun i H v H' => ∃ T c y, v = .ref T ∧ H T = none ∧ x.cps[i]? = some c ∧ H' = upd H T (.tup [.str ⟨#[c]⟩, y]) ∧ ∀ ys, SqT K H b ys → ys[i]? = some y,
    fun i H => ∃ ys : List V, SqT K H b ys ∧ i ≤ x.cps.size ∧ i ≤ ys.length ∧ (i = x.cps.size ∨ i = ys.length)⟩
theorem turn_zipS {P : Program} {w : World} {K : PySem.W.Frag} {elts : List Expr} {kk : Nat} {tpos : Pos} {x : Str} {t : Tok} {b z TI TO i1 i2 : Addr} (D : ZipSep2 z TI TO i1 i2 [i1] [i2, b]) :
    Turn P w K (.Tuple elts kk tpos) (ItzS K x b) [z, TI, TO, i1, i2] z (fun i h => IsZip h z TI TO .none ∧ IsPair h TI (.ref i1) (.ref i2) ∧ (∃ x y, IsPair h TO x y) ∧ h.IsStrIter i1 (strIterType x) x t i ∧ h.IsTupleIter i2 b i) where
  mem := by simp
  obj := fun i h st c hc => by
    obtain ⟨hz, hTI, ⟨x, y, hTO⟩, ⟨o1, e1, _, d1⟩, ⟨o2, e2, _, d2⟩⟩ := st
    have e' : c = z ∨ c = TI ∨ c = TO ∨ c = i1 ∨ c = i2 := by simpa using hc
    rcases e' with q | q | q | q | q
    · rw [q]; exact ⟨_, hz, fun v q => nomatch q⟩
    · rw [q]; exact ⟨_, hTI, fun v q => nomatch q⟩
    · rw [q]; exact ⟨_, hTO, fun v q => nomatch q⟩
    · rw [q]; exact ⟨o1, e1, fun v q => by rw [d1] at q; cases q⟩
    · rw [q]; exact ⟨o2, e2, fun v q => by rw [d2] at q; cases q⟩
  keep := fun i h h' st k => by
    obtain ⟨hz, hTI, ⟨x, y, hTO⟩, ⟨o1, e1, r1⟩, h2⟩ := st
    exact ⟨k z (by simp) _ hz, k TI (by simp) _ hTI, ⟨x, y, k TO (by simp) _ hTO⟩, ⟨o1, k i1 (by simp) _ e1, r1⟩, h2.at fun o q => k i2 (by simp) o q⟩
  item := by
    intro X hP hw hK hc i pins s σ H E I hf st hg
    subst hP hw hK
    obtain ⟨hz, hTI, ⟨x0, y0, hTO⟩, h1, h2⟩ := st
    obtain ⟨ys, c0, y, hqy, hc0, hy⟩ := hg
    obtain ⟨its, rv, p2, _⟩ := I.tuple hqy
    obtain ⟨u2, hu2, ru2⟩ := rv.get hy
    have hzl : z < s.heap.objs.size := Heap.lt_size hz
    have ne : b ≠ i2 := fun q => by
      obtain ⟨o2, e2, c2, _⟩ := h2
      obtain ⟨o3, e3, c3, _⟩ := (show s.heap.IsTuple b its.toArray from p2)
      rw [q, e2] at e3; cases e3
      rw [c2] at c3
      exact absurd (Value.type.inj c3) (by decide)
    have hlt1 : i < x.cps.size := (Array.getElem?_eq_some_iff.mp hc0).1
    have hlt2 : i < its.toArray.size := by simpa using (List.getElem?_eq_some_iff.mp hu2).1
    refine wpAny_pyNext_zipD2_item D (Draws.text (A := X.A.in1) (I.ok.hd hc) i1 x t) (Draws.tuple (A := X.A.in1) (I.ok.hd hc) i2 b ne its.toArray) hz hTI hTO h1 ⟨h2, p2⟩ hlt1 hlt2 fun v1 v2 h' tk hv1 hv2 z' TO' h1' h2' hT hsz hk => ?_
    obtain ⟨c, u, ec, rfl⟩ := hv1
    have ev2 : v2 = u2 := by
      have z : its.toArray[i]? = some v2 := hv2
      have z : its[i]? = some v2 := by simpa using z
      rw [hu2] at z
      exact (Option.some.inj z).symm
    subst ev2
    refine ⟨_, rfl, wpAny_letOwnedTupleGo_zip (s := { s with heap := h', toks := tk }) z' fun h'' z'' sb => ?_⟩
    have hT2 : h''.get? s.heap.objs.size = some { cls := .type "tuple", data := .seq #[.str ⟨#[c]⟩ u, v2] } := (sb.2 _ (Nat.ne_of_gt hzl)).trans hT
    have new : ObjOk X.prog X.w (upd H s.heap.objs.size (.tup [.str ⟨#[c]⟩, y])) h'' s.heap.objs.size (.tup [.str ⟨#[c]⟩, y]) :=
      ⟨by show 2 ≤ sizeLine; decide, [.str ⟨#[c]⟩ u, v2], .cons ⟨_, rfl⟩ (.cons ru2 .nil), ⟨_, hT2, rfl, _, rfl⟩⟩
    have I1 : Inv X pins σ (upd H s.heap.objs.size (.tup [.str ⟨#[c]⟩, y])) { s with heap := h'', toks := tk } :=
      I.turnedNew (ch := [z, TI, TO, i1, i2]) (fun c o hb q => (sb.2 c (fun q' => hb (by simp [q']))).trans (hk c o (fun q' => hb (by simp [q'])) (fun q' => hb (by simp [q'])) (fun q' => hb (by simp [q'])) (fun q' => hb (by simp [q'])) q)) hf (Nat.le_refl _) new
    refine ⟨.ref s.heap.objs.size, _, I1, rfl, ⟨_, c, y, rfl, I.hok.fresh (Nat.le_refl _), ec, rfl, fun l hl => by rw [I.tuple_inj hl hqy]; exact hy⟩, ⟨z'', ?_, ⟨.str ⟨#[c]⟩ u, v2, ?_⟩, ?_, ?_⟩, fun c hcm => ?_⟩
    · exact (sb.2 _ D.TIz).trans (hk _ _ D.TIz D.TITO D.TIi1 D.TIi2 hTI)
    · exact (sb.2 _ D.TOz).trans TO'
    · obtain ⟨o, ho, r⟩ := h1'
      exact ⟨o, (sb.2 _ D.zi1.symm).trans ho, r⟩
    · exact h2'.1.at fun o q => (sb.2 _ D.zi2.symm).trans q
    · have hlt : c < s.heap.objs.size := by
        have e' : c = z ∨ c = TI ∨ c = TO ∨ c = i1 ∨ c = i2 := by simpa using hcm
        rcases e' with q | q | q | q | q
        · rw [q]; exact hzl
        · rw [q]; exact Heap.lt_size hTI
        · rw [q]; exact Heap.lt_size hTO
        · rw [q]; obtain ⟨_, e1, _⟩ := h1; exact Heap.lt_size e1
        · rw [q]; obtain ⟨_, e2, _⟩ := h2; exact Heap.lt_size e2
      rw [upd_ne (Nat.ne_of_lt hlt)]
      exact (hf c hcm).1
  done := by
    intro X hP hw hK hc i pins s σ H E I hf st hg
    subst hP hw hK
    obtain ⟨hz, hTI, ⟨x0, y0, hTO⟩, h1, h2⟩ := st
    obtain ⟨ys, hqy, hle1, hle2, hend⟩ := hg
    obtain ⟨its, rv, p2, _⟩ := I.tuple hqy
    have l2 := rv.length
    have ne : b ≠ i2 := fun q => by
      obtain ⟨o2, e2, c2, _⟩ := h2
      obtain ⟨o3, e3, c3, _⟩ := (show s.heap.IsTuple b its.toArray from p2)
      rw [q, e2] at e3; cases e3
      rw [c2] at c3
      exact absurd (Value.type.inj c3) (by decide)
    refine wpAny_pyNext_zipD2_end D (Draws.text (A := X.A.in1) (I.ok.hd hc) i1 x t) (Draws.tuple (A := X.A.in1) (I.ok.hd hc) i2 b ne its.toArray) hz hTI hTO h1 ⟨h2, p2⟩ hle1 (by simp; omega) (hend.imp id fun q => by simp; omega) fun h' tk hk => ⟨rfl, I.turnedL (t' := tk) (ch := [z, TI, TO, i1, i2]) (fun c o hb q =>
      hk c o (fun q' => hb (by simp [q'])) (fun q' => hb (by simp [q'])) (fun q' => hb (by simp [q'])) (fun q' => hb (by simp [q'])) q) hf⟩
  self := fun A i s Q E st h => wpAny_pyIter_zip st.1 h
def iZipSt (K : PySem.W.Frag) (ta : TA) : TI := fun σ H R => ta σ H fun vs H1 => ∃ x b ys, vs = [.str x, .ref b] ∧ SqT K H1 b ys ∧ R (ItzS K x b) H1
theorem pi_zipS {X : Cx} {e e2 : Expr} {ta : TA} {p pos tpos : Pos} {elts : List Expr} {kk : Nat} (hg : Gl X "zip") (hm : X.mg "zip" = none) (ha : PA X [e, e2] ta)
    (hs : starEach [e, e2] X.env = (false, eval e X.env) :: starEach [e2] X.env := by rfl) (hpl : (backTo pos (starEach [e2] X.env)).any (·.1) = false := by rfl) :
    PI X (.Tuple elts kk tpos) (.Call (.Name "zip" p) [e, e2] [] pos) (iZipSt X.K ta) := by
  refine ⟨fun pins s σ H R I h => ?_⟩
  refine Call_ (ld_blt I hg hm PyProof.Rows.boot_zip (PyProof.Rows.callWith_type1 (thn (ha.run pos pins s σ H _ I h) fun us s1 ⟨vs, H1, I1, r1, q1⟩ => ?_) hs hpl))
  obtain ⟨x, b, ys, ex, hqy, q⟩ := q1
  subst ex
  cases r1 with
  | cons r rr =>
    cases rr with
    | cons r' rr =>
      cases rr
      obtain ⟨t, rfl⟩ := r
      cases r'
      have fresh5 : ∀ c, c ∈ [s1.heap.objs.size + 4, s1.heap.objs.size + 2, s1.heap.objs.size + 3, s1.heap.objs.size, s1.heap.objs.size + 1] → FpOk X pins H1 c := fun c hcm => by
        have hle : s1.heap.objs.size ≤ c := by
          have e' : c = s1.heap.objs.size + 4 ∨ c = s1.heap.objs.size + 2 ∨ c = s1.heap.objs.size + 3 ∨ c = s1.heap.objs.size ∨ c = s1.heap.objs.size + 1 := by simpa using hcm
          rcases e' with z | z | z | z | z <;> rw [z] <;> first | exact Nat.le_add_right _ _ | exact Nat.le_refl _
        exact I1.fpOk hle (I1.hok.fresh hle)
      obtain ⟨its, rv, p2, _⟩ := I1.tuple hqy
      obtain ⟨o2, ho2, _⟩ := id p2
      have hb : b < s1.heap.objs.size := Heap.lt_size ho2
      refine zip_begins2 (begins_text x t) (begins_tuple b its.toArray) trivial (show s1.heap.IsTuple b its.toArray from p2) fun h' hz hTI hTO h1 h2 hsz hk => wpAny_pyIter_zip hz ?_
      have I2 : Inv X pins σ H1 { s1 with heap := h' } := I1.kept (t' := s1.toks) hk
      refine ⟨s1.heap.objs.size + 4, [s1.heap.objs.size + 4, s1.heap.objs.size + 2, s1.heap.objs.size + 3, s1.heap.objs.size, s1.heap.objs.size + 1], _, _, H1, rfl, I2, turn_zipS (t := t) ?_, ⟨hz, hTI, ⟨_, _, hTO⟩, ⟨_, h1, rfl, rfl⟩, ⟨_, h2, rfl, rfl⟩⟩, fresh5, q⟩
      exact zip_sep2 (fp1 := []) (fp2 := [b]) (fun c hc => by cases hc) (fun c hc => by
        cases hc with
        | head => exact hb
        | tail _ hc => cases hc)
theorem walk_zipS {K : PySem.W.Frag} {x : Str} {b : Addr} {us : List V} {n : Nat} (hn : n = min x.cps.size us.length) : Walk (ItzS K x b) n (fun H => SqT K H b us) (fun i H v H' => ∃ T c y, v = .ref T ∧ H T = none ∧ x.cps[i]? = some c ∧ H' = upd H T (.tup [.str ⟨#[c]⟩, y]) ∧ us[i]? = some y) := by
  subst hn
  refine ⟨fun i _ hi q => ?_, fun _ q => ⟨us, q, by omega, by omega, by omega⟩, fun i H v H' _ q y => ?_⟩
  · have h1 : i < x.cps.size := by omega
    have h2 : i < us.length := by omega
    exact ⟨us, x.cps[i], us[i], q, by simp [h1], by simp [h2]⟩
  · obtain ⟨T, c, y, h1, h2, h3, h4, h5⟩ := y
    exact ⟨T, c, y, h1, h2, h3, h4, h5 us q⟩
theorem WalkR.zipS {C : Pl} {F : Hp} {K : PySem.W.Frag} {x : Str} {b : Addr} {ys : List PV} {us : List V} (hK : K = C.K) (h' : SqT C.K F b us) (r' : RepL C F ys us) : WalkR C F (zipP (chrs x) ys) (ItzS K x b) := by
  subst hK
  refine ⟨min x.cps.size us.length, _, _, by rw [zipP_len, chrs_len, r'.length], walk_zipS (us := us) rfl, fun F2 H2 s1 s2 => Same.sqT s2 (s1.sqT h'), fun i F2 H2 v H3 hi s1 s2 y => ?_⟩
  obtain ⟨T, c, z, rfl, hT, ec, rfl, e2⟩ := y
  obtain ⟨y', ey, ry⟩ := r'.get' e2
  obtain ⟨g, rp⟩ := pair_new (x := .str ⟨#[c]⟩) s2 hT rfl (ry.mono s1)
  exact ⟨_, _, zipP_get (chrs_get ec) ey, g, rp⟩
def iZipS (ms : AM) : AM := fun ρ d => (ms ρ d).bind fun xs d1 => match xs with
  | [.str x, .tup ys] => .ok (zipP (chrs x) ys) d1
  | _ => .no
@[simp] theorem iZipS_x (ms : AM) (ρ : REnv) (d : DSt) : iZipS ms ρ d = ((ms ρ d).bind fun xs d1 => match xs with
  | [.str x, .tup ys] => .ok (zipP (chrs x) ys) d1
  | _ => .no) := rfl
section
variable {X : Cx} {C : Pl} {B : Bp} {E : XS} {pos p tpos : Pos} {a b : Expr} {ms : AM} {elts : List Expr} {kk : Nat}
theorem ri_zipS (hK : X.K = C.K) (hg : Gl X "zip") (hm : X.mg "zip" = none) (ha : RA X C B E [a, b] ms)
    (hs : starEach [a, b] X.env = (false, eval a X.env) :: starEach [b] X.env := by rfl) (hpl : (backTo pos (starEach [b] X.env)).any (·.1) = false := by rfl) :
    RI X C B E (.Tuple elts kk tpos) (.Call (.Name "zip" p) [a, b] [] pos) (iZipS ms) := by
  refine PI.weak (pi_zipS hg hm ha hs hpl) fun σ H R h => ?_
  obtain ⟨F, ρ, d, b, h⟩ := h
  refine ⟨F, ρ, d, b, (tK.bind (Rp := RepL C) h).imp fun vs H1 q => ?_⟩
  obtain ⟨F1, d1, xs, b1, g1, r1, k1⟩ := q
  split at k1
  · obtain ⟨v, r, rfl, h2, v', r', rfl, ⟨a', vs', rfl, h2', h3'⟩, hr⟩ := r1
    cases (show v = .str _ from h2)
    cases (show r' = [] from hr)
    exact ⟨_, a', vs', rfl, by rw [hK]; exact Same.sqT b1.fh h2', k1.here b1 (WalkR.zipS hK h2' h3')⟩
  · exact k1.elim
end
end RL
end M_R74
section M_R75
/-! a lambda with one default, `lambda n=0: e`, handed to a def that calls it -/
namespace RL
open PySem PySem.Spec PyProof.Rows L2
section
variable {X : Cx} {pins : List (Addr × Obj)} {σ : L2.St} {H : Hp} {s : Shared}
/-- the making: a tuple of defaults before the function's object -/
theorem lam_mkD {c P : Addr} {params : Arguments} {body : Expr} {scope : Scope} {pos q0 : Pos} {i0 : Int} {j0 : Nat} {Q : Value → Shared → Prop} (I : Inv X pins σ H s) (TB : LamX.TabB X.base X.mg c P) (hcode : X.env.code = .ref c)
    (hT : LamX.TabS H P (lamQ X)) (hd : params.defaults = [.Constant (.int i0) j0 q0]) (hk0 : params.kw_defaults = []) (hfree : ∀ y ∈ scope.names, y.2 = .free → ∃ c, X.env.cells.lookup y.1 = some c)
    (h : ∀ (f c' T0 : Addr) (t0 : Tok) (doc pm ctv : Value) (H1 : Hp) (s' : Shared), Inv X pins σ H1 s' → (∀ b o, b ≠ P → H b = some o → H1 b = some o) → LamX.TabS H1 P (lamQ X) →
      s'.heap.get? T0 = some (PySem.W.kdv_tup [.int i0 t0]) → H1 T0 = none → T0 ∉ frs X.stack →
      s'.heap.get? f = some (PySem.W.kdv_obj "<lambda>" (lamQ X) params (.expr body) scope (cloFrom X.env.cells scope.names []) (.ref T0) doc pm c' ctv) → H1 f = none → f ∉ frs X.stack → H1 c' = some (LamX.CodeO c' (lamQ X)) → Q (.ref f) s') :
    wpAny (model X.prog X.w) X.A (eval (.Lambda params body scope pos) X.env) Q X.xe s := by
  refine PySem.W.kdv_lam (by rw [hd]; rfl) hk0 ?_
  rw [hd]
  refine PySem.W.kdv_all1 (thn ((pe_int (j := j0) (pos := q0)).run pins s σ H (fun v H1 => v = .int i0 ∧ H1 = H) I ⟨rfl, rfl⟩) fun u s0 q => PySem.W.kdv_all0 ?_)
  obtain ⟨v, H1, I0, rv, rfl, rfl⟩ := q
  obtain ⟨t0, rfl⟩ := rv
  rw [makeFunction_eq]
  simp only [List.zip_nil_right, List.filterMap_nil, List.isEmpty_nil, if_true, pure_bind, List.isEmpty_cons, Bool.false_eq_true, if_false]
  refine wpAny_bind (wpAny_newTextTuple ?_)
  have hT0 : H1 s0.heap.objs.size = none := I0.hok.fresh (Nat.le_refl _)
  have fresh0 : ∀ f, s0.heap.objs.size ≤ f → f ∉ frs X.stack := fun f hf z => by
    rcases List.mem_cons.mp (I0.stkSub _ z) with e | e
    · rw [e] at hf
      exact absurd I0.lt (Nat.not_lt.mpr hf)
    · exact I0.nofs hf e
  have I2 : Inv X pins σ H1 { s0 with heap := s0.heap.push (PySem.W.kdv_tup [.int i0 t0]) } := I0.kept (t' := s0.toks) fun b o e => Heap.get?_push_of_some _ e
  have eT0 : (s0.heap.push (PySem.W.kdv_tup [.int i0 t0])).get? s0.heap.objs.size = some (PySem.W.kdv_tup [.int i0 t0]) := Heap.get?_push_size _ rfl
  have sz2 : (s0.heap.push (PySem.W.kdv_tup [.int i0 t0])).objs.size = s0.heap.objs.size + 1 := Heap.size_push ..
  obtain ⟨ps, eP, ok, told⟩ := hT
  have bP := TB.bm.keeps I2.bk
  have oP := I2.hok P _ eP
  have nTP : s0.heap.objs.size ≠ P := fun z => by rw [z, eP] at hT0; cases hT0
  rcases Option.eq_none_or_eq_some (codeAmong pos ps.toList) with hc | ⟨cv, hc⟩
  · refine PySem.W.kdv_makeTail (mg := X.mg) (c := c) (P := P) (ps := ps) (closure_ok hfree) I2.ok.glob (I2.mod.glob.keeps I2.bk) hcode (TB.code.keeps I2.bk) oP ok hc TB.gP bP fun c' ctv doc h' tk hx hge hlt hrec htb => ?_
    obtain ⟨c2, oc, vs, t, e2, hoc, hd', hv⟩ := hrec
    cases e2
    have hge0 : s0.heap.objs.size + 1 ≤ c' := by rw [← sz2]; exact hge
    have nC : H1 c' = none := I2.hok.fresh hge
    have nCP : P ≠ c' := ne_of_none eP nC
    have hsz : (s0.heap.push (PySem.W.kdv_tup [.int i0 t0])).objs.size ≤ h'.objs.size := Nat.le_trans hge (Nat.le_of_lt hlt)
    have hsz0 : s0.heap.objs.size ≤ h'.objs.size := by rw [sz2] at hsz; omega
    have J := LamX.inv_table (t' := tk) (q := lamQ X) (more := #[rawInt pos.line, rawInt pos.col, .ref c']) (h' := h'.push (PySem.W.kdv_obj "<lambda>" (lamQ X) params (.expr body) scope (cloFrom X.env.cells scope.names []) (.ref s0.heap.objs.size) doc ((X.mg "__name__").getD .none) c' ctv)) I2 eP
      (fun b o hb e => Heap.get?_push_of_some _ (hx b o hb e)) (Heap.get?_push_of_some _ htb) hge ⟨oc, vs, t, Heap.get?_push_of_some _ hoc, hd', hv⟩
    have kp : ∀ b o, b ≠ P → H1 b = some o → upd (upd H1 P (.tbl (ps ++ #[rawInt pos.line, rawInt pos.col, .ref c']))) c' (LamX.CodeO c' (lamQ X)) b = some o := fun b o nb e => by
      rw [upd_ne (ne_of_none e nC), upd_ne nb]; exact e
    have es : (ps ++ #[rawInt pos.line, rawInt pos.col, .ref c']).toList = ps.toList ++ [rawInt pos.line, rawInt pos.col, .ref c'] := by simp
    refine h h'.objs.size c' s0.heap.objs.size t0 doc _ ctv _ _ J kp ⟨_, by rw [upd_ne nCP, upd_same], by rw [es]; exact PySem.TriplesOk_snoc _ _ _ _ ok, fun p' cv' hcv => ?_⟩ (Heap.get?_push_of_some _ (hx _ _ nTP eT0)) ?_ (fresh0 _ (Nat.le_refl _)) (Heap.get?_push_size _ rfl) ?_ (fresh0 _ hsz0) upd_same
    · rw [es] at hcv
      rcases LamX.among_app _ ok hcv with z | z
      · obtain ⟨c0, e1, e2⟩ := told p' cv' z
        exact ⟨c0, e1, kp _ _ (fun z => LamX.codeO_ne ps (by rw [z, eP] at e2; exact (Option.some.inj e2).symm)) e2⟩
      · exact ⟨c', z, upd_same⟩
    · rw [upd_ne (Nat.ne_of_lt (by omega)), upd_ne nTP]
      exact hT0
    · rw [upd_ne (Nat.ne_of_gt hlt), upd_ne (Nat.ne_of_gt (Nat.lt_of_lt_of_le (Heap.lt_size oP) hsz))]
      exact I2.hok.fresh hsz
  · obtain ⟨c', rfl, hco⟩ := told pos cv hc
    refine PySem.W.kdv_makeTailHit (mg := X.mg) (c := c) (P := P) (ps := ps) (closure_ok hfree) I2.ok.glob (I2.mod.glob.keeps I2.bk) hcode (TB.code.keeps I2.bk) oP ok hc bP fun ctv doc h' tk hx hsz => ?_
    have hsz0 : s0.heap.objs.size ≤ h'.objs.size := by
      have : s0.heap.objs.size + 1 ≤ h'.objs.size := by rw [← sz2]; exact hsz
      omega
    have J : Inv X pins σ H1 { s0 with heap := h'.push (PySem.W.kdv_obj "<lambda>" (lamQ X) params (.expr body) scope (cloFrom X.env.cells scope.names []) (.ref s0.heap.objs.size) doc ((X.mg "__name__").getD .none) c' ctv), toks := tk } := I2.kept fun b o e => Heap.get?_push_of_some _ (hx b o e)
    exact h h'.objs.size c' s0.heap.objs.size t0 doc _ ctv H1 _ J (fun _ _ _ e => e) ⟨ps, eP, ok, told⟩ (Heap.get?_push_of_some _ (hx _ _ eT0)) hT0 (fresh0 _ (Nat.le_refl _)) (Heap.get?_push_size _ rfl) (I2.hok.fresh hsz) (fresh0 _ hsz0) hco
end
/-! ### the body, where the default has a name of its own -/
/-- the lambda's names: captured ones, globals, and locals that the maker's slots don't tell of -/
structure LamD (N : List Str) (sc scope : Scope) : Prop where
  kind : scope.kind = .function
  co : scope.isCoroutine = false
  gen : scope.isGenerator = false
  own : ∀ y ∈ scope.names, y.2 ≠ .cell ∧ (y.2 = .local → y.1 ∉ N)
  free : ∀ y ∈ scope.names, y.2 = .free → sc.names.lookup y.1 = some .cell ∨ sc.names.lookup y.1 = some .free
def lamDB (N : List Str) (sc scope : Scope) : Bool :=
  decide (scope.kind = .function) && !scope.isCoroutine && !scope.isGenerator && scope.names.all fun y => !decide (y.2 = .cell) && (!decide (y.2 = .local) || !N.contains y.1) && (!decide (y.2 = .free) || decide (sc.names.lookup y.1 = some .cell) || decide (sc.names.lookup y.1 = some .free))
theorem lamD_by {N : List Str} {sc scope : Scope} (h : lamDB N sc scope = true) : LamD N sc scope := by
  unfold lamDB at h
  simp only [Bool.and_eq_true, Bool.or_eq_true, Bool.not_eq_true', decide_eq_true_eq, decide_eq_false_iff_not, List.all_eq_true] at h
  obtain ⟨⟨⟨h1, h2⟩, h3⟩, h4⟩ := h
  refine ⟨h1, h2, h3, fun y hy => ⟨(h4 y hy).1.1, fun e z => ?_⟩, fun y hy e => ?_⟩
  · rcases (h4 y hy).1.2 with q | q
    · exact q e
    · rw [List.contains_iff_mem.mpr z] at q; cases q
  · rcases (h4 y hy).2 with (z | z) | z
    · exact absurd e z
    · exact .inl z
    · exact .inr z
section
variable {X : Cx} {pins : List (Addr × Obj)} {σ : L2.St} {H HZ : Hp} {s s1 : Shared}
theorem LamD.has {scope : Scope} (L : LamD X.N X.env.scope scope) (ok : X.Ok) : ∀ y ∈ scope.names, y.2 = .free → ∃ c, X.env.cells.lookup y.1 = some c := fun y hy e => by
  rcases L.free y hy e with k | k
  · exact ok.has _ (.inl k)
  · exact ok.has _ (.inr k)
theorem lam_startD {A : Around} {outer : List Env} {E : XK} {scope : Scope} {f c' : Addr} {h₁ : Heap} {tk : Nat} {m : Str → Option Value} (I : Inv X pins σ H s) (L : LamD X.N X.env.scope scope) (e0 : Env0 X.prog X.w X.K X.mg X.base A outer s1 HZ) (hd : A.handled = none)
    (un : Un (frs X.stack) [] H HZ s.heap s1.heap) (hns : h₁.Ns s1.heap.objs.size m) (kp : ∀ b o, s1.heap.get? b = some o → h₁.get? b = some o) :
    Inv (LamX.lamCx X A outer s1 HZ E scope f c') [] σ HZ { s1 with heap := h₁, toks := tk } := by
  have hfree := L.has I.ok
  have back : ∀ {y c}, (cloFrom X.env.cells scope.names []).lookup y = some c → X.env.cells.lookup y = some c := fun {y c} e => by
    rcases cloFrom_mem (PySem.mem_of_lookup e) with hm | ⟨h1, h2⟩
    · cases hm
    · obtain ⟨c1, hc⟩ := hfree _ h1 rfl
      have hc : X.env.cells.lookup y = some c1 := hc
      have e2 : c = c1 := by
        rw [h2, hc] <;> rfl
      rw [e2]; exact hc
  have look : ∀ {y}, scope.names.lookup y = some .free → ∃ c, (cloFrom X.env.cells scope.names []).lookup y = some c := fun {y} hl => by
    have hy : (y, NameKind.free) ∈ scope.names := PySem.mem_of_lookup hl
    exact mem_lookup (cloFrom_has (cells := X.env.cells) (acc := []) hy)
  have cell : ∀ {c : Addr} {v : Option Value}, H c = none → s.heap.IsCell c v → h₁.IsCell c v := fun {c v} n ⟨o, ho, hd⟩ => by
    obtain ⟨sl, q⟩ := un.any ho n (by simp)
    exact ⟨_, kp _ _ q, hd⟩
  have none_ex : ∀ b : Addr, b ∉ (LamX.lamCx X A outer s1 HZ E scope f c').ex := fun b z => absurd (show b ∈ ([] : List Addr) from z) (by simp)
  refine ⟨⟨e0.mod, L.kind, rfl, rfl, Nat.le_refl _, fun y z c e1 e2 => I.ok.inj y z c (back e1) (back e2), fun y hy => ?_, fun y c z _ => ?_, fun _ => hd, Around.frames_deeper e0.frames, .inr ⟨rfl, rfl⟩, fun b z => absurd z (none_ex b), e0.bs, e0.bsz, fun b _ _ => none_ex b,
      fun b z => absurd z (none_ex b), e0.funs, e0.frf⟩,
    rfl, e0.bare, Un.kept kp, ⟨_, hns, fun i y v e1 e2 e3 => ?_⟩, fun y c e => ?_, e0.hok.fresh (Nat.le_refl _), fun y c e => ?_, fun q hq => absurd (show q ∈ ([] : List (Addr × Obj)) ++ [] from hq) (by simp), e0.hok.kept kp, I.len⟩
  · have hy : scope.names.lookup y = some .cell ∨ scope.names.lookup y = some .free := hy
    rcases hy with hy | hy
    · exact absurd rfl (L.own _ (PySem.mem_of_lookup hy)).1
    · exact look hy
  · have z : false = true := z
    cases z
  · have e1 : X.N[i]? = some y := e1
    have e3 : Vis scope y := e3
    rcases e3 with k | k | k
    · exact absurd (List.mem_of_getElem? e1) ((L.own _ (PySem.mem_of_lookup k)).2 rfl)
    · exact absurd rfl (L.own _ (PySem.mem_of_lookup k)).1
    · obtain ⟨m, hn, hl⟩ := I.loc
      have hvis : Vis X.env.scope y := (L.free _ (PySem.mem_of_lookup k) rfl).elim (fun k => .inr (.inl k)) (fun k => .inr (.inr k))
      obtain ⟨w', r, q⟩ := hl i y v e1 e2 hvis
      obtain ⟨c2, h2⟩ := look k
      refine ⟨w', r, .inr ⟨.inr k, c2, h2, ?_⟩⟩
      have c1 := back h2
      rcases q with ⟨k', _⟩ | ⟨_, c3, e', z⟩
      · have k' : X.env.scope.names.lookup y = some .local := k'
        rcases L.free _ (PySem.mem_of_lookup k) rfl with k2 | k2 <;> rw [show X.env.scope.names.lookup y = _ from k2] at k' <;> cases k'
      · rw [c1] at e'
        cases e'
        exact cell (I.freeC y _ c1) z
  · obtain ⟨w', z⟩ := I.cell y c (back e)
    exact ⟨w', cell (I.freeC y c (back e)) z⟩
  · obtain ⟨v, o, ho, hd⟩ := I.cell y c (back e)
    exact un.free c o ho (I.freeC y c (back e)) (by simp)
end
section
variable {X : Cx} {pins : List (Addr × Obj)} {σ : L2.St} {H : Hp} {s : Shared}
theorem re_actD {C : Pl} {B : Bp} {ρ : REnv} {d : DSt} {F : Hp} {Ng : List Str} {qg : Str} {sg : Scope} {g f c' T0 : Addr} {t0 : Tok} {i0 : Int} {x0 : Str} {cdg doc pm ctv : Value} {params : Arguments} {body : Expr} {scope : Scope} {k i : Nat} {a : Str} {pn : List (Addr × Obj)} {xe : Value → Shared → Prop} {E0 : XK} {E' : XS} {mb : EM} {p1 p2 : Pos}
    (I : Inv X pins σ H s) (b : BR C B ρ d σ F H) (L : LamD X.N X.env.scope scope) (hx0 : scope.names.lookup x0 = some .local) (hT : s.heap.get? T0 = some (PySem.W.kdv_tup [.int i0 t0])) (hTn : H T0 = none) (hTf : T0 ∉ frs X.stack) (hf : s.heap.get? f = some (PySem.W.kdv_obj "<lambda>" (lamQ X) params (.expr body) scope (cloFrom X.env.cells scope.names []) (.ref T0) doc pm c' ctv)) (hfn : H f = none) (hfr : f ∉ frs X.stack) (hco : H c' = some (LamX.CodeO c' (lamQ X)))
    (hbind : ∀ s : Shared, s.heap.get? T0 = some (PySem.W.kdv_tup [.int i0 t0]) → BindsTo s (PySem.W.kdv_fn "<lambda>" (lamQ X) params (.expr body) scope (cloFrom X.env.cells scope.names []) (.ref T0) doc pm (.ref c') ctv) ⟨[], []⟩ [(x0, .int i0 t0)])
    (tk : Tk ((cxOf (L2.CX X.prog X.w) X.prog X.w X.K X.mg X.base Ng qg sg g cdg X.A X.stack s H E0).tr pn xe) E') (hr : RmG (k + 1) (X.A.deeper (envOfC qg sg s.heap.objs.size g cdg)))
    (hbody : ∀ (A : Around) (outer : List Env) (s : Shared) (H : Hp) (E : XK) (F : Hp), RmG k (A.deeper (LamX.lamEnv X scope s.heap.objs.size f c')) → RE (LamX.lamCx X A outer s H E scope f c') C ⟨F, H, none, none, []⟩ (fun _ => E) body mb)
    (hN : Ng[i]? = some a) (hv : Vis sg a) (hd : (a == ("__debug__" : Str)) = false := by decide) (hcd : (a == ("__classdict__" : Str)) = false := by decide) :
    RE ((cxOf (L2.CX X.prog X.w) X.prog X.w X.K X.mg X.base Ng qg sg g cdg X.A X.stack s H E0).tr pn xe) C ⟨F, H, none, none, [(f : Int)]⟩ E' (.Call (.Name a p1) [] [] p2) (eAct i (lamO (mb (ρ.map vOnly) default))) := by
  refine ⟨fun pinsZ sZ σZ HZ Q IZ h => ?_⟩
  obtain ⟨F1, ρ1, d1, b1, h⟩ := h
  unfold eAct at h
  split at h
  · rename_i ei
    have hs := b1.lam_at rfl ei
    refine wpAny_Call_Name_kw (thn ((pe_var (pos := p1) (i := i) hN hv hd hcd).run pinsZ sZ σZ HZ (fun v H1 => v = .ref f ∧ H1 = HZ) IZ ⟨.ref f, hs, rfl, rfl⟩) fun u s1 ⟨v, H1, I1, r1, q1⟩ => ?_)
    obtain ⟨rfl, rfl⟩ := q1
    obtain rfl : u = Value.ref f := r1
    have un : Un (frs X.stack) [] H H1 s.heap s1.heap := I1.base
    have oT1 : s1.heap.get? T0 = some (PySem.W.kdv_tup [.int i0 t0]) := un.keep T0 _ hT hTn hTf (fun z => nomatch (show T0 ∈ ([] : List Addr) from z))
    have of1 : s1.heap.get? f = some (PySem.W.kdv_obj "<lambda>" (lamQ X) params (.expr body) scope (cloFrom X.env.cells scope.names []) (.ref T0) doc pm c' ctv) := un.keep f _ hf hfn hfr (fun z => nomatch (show f ∈ ([] : List Addr) from z))
    have hc1 : H1 c' = some (LamX.CodeO c' (lamQ X)) := by
      cases z : F c' with
      | none => exact b1.g.od c' _ z hco (by
          rintro (⟨p, z, _⟩ | z)
          · cases z
          · cases z)
      | some u =>
        have eu := b.g.fh _ _ z
        rw [hco] at eu
        cases eu
        exact b1.g.fh _ _ (b1.g.f0.other z (fun A dx fs e => by
          have e' : HO.ext _ = HO.ins _ _ _ := e
          cases e'))
    obtain ⟨⟨oc, vs, t, hoc, hdc, hvc⟩, _, _⟩ := I1.hok c' _ hc1
    refine PySem.W.callWith_F0 ⟨_, _, _, _, of1⟩ ?_
    have rc : codeAny (model X.prog X.w) (X.A.deeper (envOfC qg sg s.heap.objs.size g cdg)) (.call (.ref f) ⟨[], []⟩) (CR (L2.CX X.prog X.w) (envOfC qg sg s.heap.objs.size g cdg :: X.stack) X.prog X.w H1 s1 Q (E' σZ)) s1 := by
      refine PySem.W.kla_callFunE hr.r.depth of1 rfl L.co L.gen rfl ⟨c', oc, vs, t, rfl, hoc, hdc, hvc⟩ ?_
      refine hbind s1 oT1 _ _ _ _ ?_
      refine wpAny_newFunctionEnv (fun y hy => (L.own y hy).1) (fun y hy => by
        cases hy with
        | head => exact hx0
        | tail _ hy => cases hy) (fun h₁ hns hsb => ⟨I1.nolimit.fresh _ hsb, ?_⟩) L.kind
      have kp : ∀ b o, s1.heap.get? b = some o → h₁.get? b = some o := fun b o e => hsb.extBut b o (Nat.ne_of_lt (Heap.lt_size e)) (Heap.get?_push_of_some _ e)
      have J := lam_startD (f := f) (c' := c') (tk := s1.toks + ([(x0, Value.int i0 t0)] : List (Str × Value)).length) (E := E' σZ) I L I1.env0 hr.r.hd un hns kp
      have tR1 : tR C ⟨F1, H1, none, none, []⟩ (fun _ => E' σZ) (Rep C) mb σ H1 Q := by
        refine ⟨F1, ρ.map vOnly, default, b.vals (b1.g.f0 : Sk C F F1) b1.g.fh b1.g.tb, ?_⟩
        have back : ∀ {d' : DSt} {F' H' : Hp}, BG C ⟨F1, H1, none, none, []⟩ d' F' H' → BG C ⟨F, H, none, none, [(f : Int)]⟩ d1 F' H' ∧ Go C ⟨F, H, none, none, [(f : Int)]⟩ F1 H1 F' H' := fun {d' F' H'} b' => by
          have gr := BR.end_ (ρ := []) (σ := []) b'
          exact ⟨b1.g.grow gr.s gr.f gr.h gr.n, .of b1.g.fh gr.s gr.f gr.h gr.n⟩
        revert h
        cases mb (ρ.map vOnly) default with
        | ok y d' => exact fun h F' H' v b' _ rp => h F' H' v (back b').1 (back b').2 rp
        | ex e d' => exact fun h F' H' cls dd b' _ rp => h F' H' cls dd (back b').1 (back b').2 rp
        | no => exact fun h => h
      refine PySem.W.kla_codeExpr (wpAny_mono ((hbody _ _ s1 H1 (E' σZ) F1 (hr.deeper _)).run [] _ _ H1 Q J tR1) (fun v s' hq => ?_) fun e s' hq => hq)
      obtain ⟨w', H', J', rv, q⟩ := hq
      exact ⟨w', H', J'.os, J'.bare, J'.base, J'.hok, rv, q⟩
    refine wpAny_call (codeAny_mono rc fun r s' hq => ?_)
    have z := after_call tk I1 hq
    cases r with
    | error er => exact z
    | ok fl => cases fl <;> exact z
  · exact h.elim
end
section
variable {X : Cx} {C : Pl} {B : Bp} {E : XS}
theorem re_lamD {told : O → O} {x : Str} {g c P : Addr} {k : Nat} {params : Arguments} {body : Expr} {scope : Scope} {mb : EM} {p lpos pos q0 : Pos} {i0 : Int} {j0 : Nat} {x0 : Str} (hg : Gl X x) (hm : X.mg x = some (.ref g)) (hk : PySem.W.keepIn X.K (.ref g) = true) (tk : Tk X E)
    (G : ToldG X.prog X.w X.K X.mg X.base C (k + 1) g told) (TB : LamX.TabB X.base X.mg c P) (hcode : X.env.code = .ref c) (hmT : (P, lamQ X) ∈ C.tb) (hu : ∀ q, (P, q) ∈ C.tb → q = lamQ X) (hr : RmG (k + 2) X.A) (L : LamD X.N X.env.scope scope) (hx0 : scope.names.lookup x0 = some .local) (hd0 : params.defaults = [.Constant (.int i0) j0 q0]) (hk0 : params.kw_defaults = [])
    (hbind : ∀ (q : Str) (cl : List (Str × Addr)) (doc pm cv ctv : Value) (T0 : Addr) (t0 : Tok) (s : Shared), s.heap.get? T0 = some (PySem.W.kdv_tup [.int i0 t0]) → BindsTo s (PySem.W.kdv_fn "<lambda>" q params (.expr body) scope cl (.ref T0) doc pm cv ctv) ⟨[], []⟩ [(x0, .int i0 t0)])
    (hbody : ∀ (A : Around) (outer : List Env) (s : Shared) (H : Hp) (E : XK) (f c' : Addr) (F : Hp), RmG k (A.deeper (LamX.lamEnv X scope s.heap.objs.size f c')) → RE (LamX.lamCx X A outer s H E scope f c') C ⟨F, H, none, none, []⟩ (fun _ => E) body mb)
    (hdb : (x == ("__debug__" : Str)) = false := by decide) :
    RE X C B E (.Call (.Name x p) [.Lambda params body scope lpos] [] pos) (eLam told mb) := by
  refine ⟨fun pins s σ H Q I h => ?_⟩
  obtain ⟨F, ρ, d, b, h⟩ := h
  obtain ⟨nm, qual, st, fd, Ng, a, mt, Fg, Sg, bd, hN, hv, hda, hca, ht, hG⟩ := G
  obtain ⟨oc, od, kV, doc, pm0, an, cdv, ct, osl, rfl, lk, hcd⟩ := Fg.ex
  refine wpAny_Call_Name_kw (ld_glob I hg hm ?_ hdb)
  refine PySem.W.callWith_K (h₀ := X.base) I.ok.mod.kin hk ?_ (by rfl) (by rfl)
  show wpAny _ _ (spliced ((false, eval (.Lambda params body scope lpos) X.env) :: backTo pos (starEach [] X.env))) _ _ s
  obtain ⟨fP, tP⟩ := b.g.tb _ hmT
  refine Calls.spliced_cons (lam_mkD I TB hcode tP hd0 hk0 (L.has I.ok) fun f c' T0 t0 doc pm ctv H1 s' I1 hk1 t1 hT hTn hTf hf hfn hfr hco => ?_)
  refine Calls.spliced_nil ⟨I1.kIn, ?_⟩
  have ex : ∃ ps, H P = some (.tbl ps) := let ⟨ps, e, _⟩ := tP; ⟨ps, e⟩
  have sm : Same F H1 := fun u o e => hk1 u o (fun z => by rw [z, fP] at e; cases e) (b.g.fh _ _ e)
  have uh : Uh C F H H1 := fun u o _ e => by
    by_cases hb : u = P
    · subst hb
      obtain ⟨ps, e0⟩ := ex
      cases e0.symm.trans e
      obtain ⟨ps', e1, _⟩ := id t1
      exact ⟨⟨ps', e1⟩, fun q hq _ => by rw [hu q hq]; exact t1⟩
    · cases o with
      | tbl ps => exact ⟨⟨ps, hk1 _ _ hb e⟩, fun q _ t => tabS_keep ex hk1 hb t⟩
      | _ => exact hk1 _ _ hb e
  have nw : ∀ u o, F u = some o → (∃ v, F u = some v) ∨ H u = none := fun u o e => .inl ⟨o, e⟩
  have b1 : BG C B d F H1 := b.g.grow (Sk.refl C F) sm uh nw
  have g1 : Go C B F H F H1 := .of b.g.fh (Sk.refl C F) sm uh nw
  have B1 := b.go b1 g1
  have rc : codeAny (model X.prog X.w) X.A (.call (.ref g) ⟨[.ref f], []⟩) (CR (L2.CX X.prog X.w) X.stack X.prog X.w H1 s' Q (E σ)) s' := by
    refine LamX.run_ofS (N := Ng) (ps := [a]) (us := [.ref f]) (vs := [.ref f]) lk hcd Sg hr.r I1.env0 (bd s' [.ref f] I1.kIn rfl) (.cons rfl .nil) rfl fun hr' => ?_
    have hr1 : RmG (k + 1) (X.A.deeper (envOfC qual (defScope st) s'.heap.objs.size g cdv)) := ⟨hr', hr.g⟩
    have hl : 1 ≤ Ng.length := (List.getElem?_eq_some_iff.mp hN).1
    refine ⟨_, hG cdv X.A X.stack s' H1 (E σ) F f (lamO (mb (ρ.map vOnly) default)) hr1 (fun E' pn xe p1 p2 tk' =>
      re_actD (i := 0) I1 B1 L hx0 hT hTn hTf hf hfn hfr hco (hbind _ _ _ _ _ _ _ _) tk' hr1 (fun A outer s H E F hr2 => hbody A outer s H E f c' F hr2) hN hv hda hca), F, RL.startL Ng.length, default, BR.startL b1.fh b1.tb hl, ?_⟩
    unfold eLam at h
    rw [ht] at h
    revert h
    cases mt (lamO (mb (ρ.map vOnly) default)) (RL.startL Ng.length) default with
    | nx ρ' d' => exact fun h σ' F' H' b' _ => let gr := b'.g.endL; h F' H' .non (b1.grow gr.s gr.f gr.h gr.n) (g1.trans (.of b1.fh gr.s gr.f gr.h gr.n)) rfl
    | rt y d' => exact fun h ρ' σ' F' H' v b' _ r => let gr := b'.g.endL; h F' H' v (b1.grow gr.s gr.f gr.h gr.n) (g1.trans (.of b1.fh gr.s gr.f gr.h gr.n)) r
    | ex e d' => exact fun h σ' F' H' cls dd b' r => let gr := b'.endL; h F' H' cls dd (b1.grow gr.s gr.f gr.h gr.n) (g1.trans (.of b1.fh gr.s gr.f gr.h gr.n)) r
    | bk ρ' d' => exact fun h => h.elim
    | ct ρ' d' => exact fun h => h.elim
    | no => exact fun h => h
  refine wpAny_call (codeAny_mono rc fun r s2 hq => ?_)
  have z := after_call tk I1 hq
  cases r with
  | error er => exact z
  | ok fl => cases fl <;> exact z
end
end RL
end M_R75
section M_R76
/-! == and != of lists and tuples that hold objects: where they are equal, item by item -/
namespace RL
open PySem PySem.Spec PyProof.Rows L2
/-! ### != inside the builtins -/
section
open PySem.SeqAt MeetsSeq MeetsSeq2 MeetsSeq3 SeqRoads2
open AutoSeq1 (wpAny_loadPart')
variable {prog : Program} {w : World} {A : Around} {R : Result → Shared → Prop}
theorem ne_turns (p q : Addr) (m : Nat) (J : Nat → Shared → Prop) (lj : GQ.ListI prog w A (fun e t => R (.error e) t) p q m J)
    (done : ∀ t, J m t → R (.ok (.ret (.bool false))) t) (r : Nat) :
    ∀ j : Nat, m - j = r → j ≤ m → ∀ t, J j t →
      wpAny (model prog w) A.in1 (Builtin.«list.__eq__.loop» ⟨[.ref p, .ref q, rawInt j, rawInt 3], []⟩) (GQ.FinOf prog w A R) (fun e t => R (.error e) t) t := by
  induction r with
  | zero =>
    intro j ej lej t k
    obtain ⟨us, vs, c1, c2, gp, gq, sz1, sz2, _⟩ := lj _ _ k
    have jm : j = m := by omega
    have out : R (.ok (.ret (.bool false))) t := done t (jm ▸ k)
    obtain ⟨hp, g, d, tk, os⟩ := t
    wp_walk using wpAny_loadPart' gp, wpAny_loadPart' gq
    have n1 : us[((j : Nat) : Int).toNat]? = none := by simp; omega
    have n2 : vs[((j : Nat) : Int).toNat]? = none := by simp; omega
    rw [n1, n2]
    wp_walk using wpAny_loadPart' gp, wpAny_loadPart' gq
    show R (.ok (.ret (.bool (us.size != vs.size)))) _
    rw [sz1, sz2]
    simpa using out
  | succ r ih =>
    intro j ej lej t k
    obtain ⟨us, vs, c1, c2, gp, gq, sz1, sz2, one⟩ := lj _ _ k
    have l1 : j < us.size := by omega
    have l2 : j < vs.size := by omega
    have now := one l1 l2
    obtain ⟨hp, g, d, tk, os⟩ := t
    wp_walk using wpAny_loadPart' gp, wpAny_loadPart' gq
    have n1 : us[((j : Nat) : Int).toNat]? = some us[j] := by simp [l1]
    have n2 : vs[((j : Nat) : Int).toNat]? = some vs[j] := by simp [l2]
    have nx : ((j : Int) + 1) = ((j + 1 : Nat) : Int) := by omega
    rw [n1, n2]
    refine wpAny_bind (wpAny_mono now (fun z t2 k2 => ?_) fun _ _ x => x)
    obtain ⟨ez, k2⟩ := k2
    subst ez
    have more := ih (j + 1) (by omega) (by omega) t2 k2
    obtain ⟨hp2, g2, d2, tk2, os2⟩ := t2
    wp_walk
    rw [nx]
    exact ⟨plainId_quiet plain_eq_loop _, codeAny_builtin entry_eq_loop (by rw [Around.under_plainId plain_eq_loop _]; exact more)⟩
theorem ne_lists (p q : Addr) (m : Nat) (J : Nat → Shared → Prop) (lj : GQ.ListI prog w A (fun e t => R (.error e) t) p q m J)
    (done : ∀ t, J m t → R (.ok (.ret (.bool false))) t) {t : Shared} (k : J 0 t) :
    wpAny (model prog w) A.in1 (Builtin.«list.__ne__» ⟨[.ref p, .ref q], []⟩) (GQ.FinOf prog w A R) (fun e t => R (.error e) t) t := by
  obtain ⟨us, vs, c1, c2, gp, gq, sz1, sz2, _⟩ := lj _ _ k
  have more := ne_turns (A := A) (R := R) p q m J lj done _ 0 rfl (Nat.zero_le _) t k
  obtain ⟨hp, g, d, tk, os⟩ := t
  have sb := AutoSeq1.sub_list_list
  have nn : ¬ (us.size != vs.size) = true := by simp [sz1, sz2]
  wp_walk using wpAny_loadPart' gp, wpAny_loadPart' gq
  exact ⟨plainId_quiet plain_eq_loop _, codeAny_builtin entry_eq_loop (by rw [Around.under_plainId plain_eq_loop _]; exact more)⟩
theorem ne_tuples (p q : Addr) (us vs : Array Value) (c1 c2 : Nat) (e1 e2 : Option Addr) (o1 o2 : Array (Option Value)) (sz : us.size = vs.size) (J : Nat → Shared → Prop)
    (one : ∀ j (l1 : j < us.size) (l2 : j < vs.size) t, J j t → wpAny (model prog w) A.in1 (eqBool us[j] vs[j]) (fun z t' => z = true ∧ J (j + 1) t') (fun e t' => R (.error e) t') t)
    (done : ∀ t, J us.size t → R (.ok (.ret (.bool false))) t) {t : Shared} (gp : t.heap.get? p = some { cls := .type "tuple", dict := e1, data := .seq us c1, slots := o1 }) (gq : t.heap.get? q = some { cls := .type "tuple", dict := e2, data := .seq vs c2, slots := o2 }) (k : J 0 t) :
    wpAny (model prog w) A.in1 (Builtin.«tuple.__ne__» ⟨[.ref p, .ref q], []⟩) (GQ.FinOf prog w A R) (fun e t' => R (.error e) t') t := by
  have sb := AutoSeq1.sub_tuple_tuple
  have lz : (us.toList.zip vs.toList).length = us.size := by simp [sz]
  have k0 := k
  obtain ⟨hp, g, d, tk, os⟩ := t
  wp_walk using wpAny_loadPart' gp, wpAny_loadPart' gq, wpAny_forIn_list _ (fun rest b t' => b.1 = none ∧ ∃ j, rest = (us.toList.zip vs.toList).drop j ∧ j ≤ us.size ∧ J j t') _
  case turn =>
    rintro ⟨y, x⟩ rest b t' ⟨hb', j, ez, lej, kj⟩
    have lt : j < (us.toList.zip vs.toList).length := by
      rcases Nat.lt_or_ge j (us.toList.zip vs.toList).length with z | z
      · exact z
      · rw [List.drop_of_length_le z] at ez; cases ez
    have l1 : j < us.size := lz ▸ lt
    have l2 : j < vs.size := sz ▸ l1
    rw [List.drop_eq_getElem_cons lt] at ez
    injection ez with eyx er
    have ey : y = us[j] := by have := congrArg Prod.fst eyx; simpa using this
    have ex : x = vs[j] := by have := congrArg Prod.snd eyx; simpa using this
    subst ey ex
    refine wpAny_bind (wpAny_mono (one j l1 l2 t' kj) (fun z t2 k2 => ?_) fun _ _ x => x)
    obtain ⟨e, k2⟩ := k2
    subst e
    wp_walk
    exact ⟨rfl, j + 1, er, l1, k2⟩
  case fin =>
    rintro ⟨b1, b2⟩ t' ⟨hb', j, ez, lej, kj⟩
    simp only at hb'
    subst hb'
    have ge : us.size ≤ j := by
      rcases Nat.lt_or_ge j (us.toList.zip vs.toList).length with z | z
      · rw [List.drop_eq_getElem_cons z] at ez; cases ez
      · exact lz ▸ z
    have ej : j = us.size := by omega
    have out : R (.ok (.ret (.bool false))) t' := done t' (ej ▸ kj)
    wp_walk
    simpa [Builtin.Tuple.tupleCompareSizes, sz] using out
  case h =>
    exact ⟨rfl, 0, rfl, Nat.zero_le _, k0⟩
end
section
open PySem.SeqAt MeetsSeq MeetsSeq2 MeetsSeq3 SeqRoads2
variable {prog : Program} {w : World} {A : Around} {E : Value → Shared → Prop} {s : Shared}
theorem rn_listG {p q : Addr} {m : Nat} {Q : Value → Shared → Prop} (hu : A.units < cLine) (J : Nat → Shared → Prop) (lj : GQ.ListI prog w A E p q m J)
    (done : ∀ t, J m t → Q (.bool false) t) (k : J 0 s) : wpAny (model prog w) A (richCompare .NotEq (.ref p) (.ref q)) Q E s := by
  obtain ⟨us, vs, c1, c2, gp, gq, _, _, _⟩ := lj _ _ k
  refine wpAny_richCompare_same_room (op := .NotEq) ⟨_, gp, rfl⟩ ⟨_, gq, rfl⟩ F.slot_list_ne (GQ.call_here F.slot_list_ne ⟨_, gp, rfl⟩ F.entry_list_ne (F.args_list_ne_2 _ _) ?_) hu
  exact ne_lists (R := wants (fun v t => v ≠ .notImplemented ∧ Q v t) E) p q m J lj (fun t z => ⟨(fun x => nomatch x), done t z⟩) k
theorem rn_tupG {p q : Addr} {us vs : Array Value} {Q : Value → Shared → Prop} (sz : us.size = vs.size) (hu : A.units < cLine) (J : Nat → Shared → Prop)
    (gp : s.heap.IsTuple p us) (gq : s.heap.IsTuple q vs)
    (one : ∀ j (l1 : j < us.size) (l2 : j < vs.size) t, J j t → wpAny (model prog w) A.in1 (eqBool us[j] vs[j]) (fun z t' => z = true ∧ J (j + 1) t') E t)
    (done : ∀ t, J us.size t → Q (.bool false) t) (k : J 0 s) : wpAny (model prog w) A (richCompare .NotEq (.ref p) (.ref q)) Q E s := by
  obtain ⟨⟨cls, dd, data, sl⟩, ho, hc, n, hd⟩ := id gp
  obtain ⟨⟨cls2, dd2, data2, sl2⟩, ho2, hc2, n2, hd2⟩ := id gq
  simp only at hc hd hc2 hd2
  subst hc hd hc2 hd2
  refine wpAny_richCompare_same_room (op := .NotEq) ⟨_, ho, rfl⟩ ⟨_, ho2, rfl⟩ F.slot_tuple_ne (GQ.call_here F.slot_tuple_ne ⟨_, ho, rfl⟩ F.entry_tuple_ne (F.args_tuple_ne_2 _ _) ?_) hu
  exact ne_tuples (R := wants (fun v t => v ≠ .notImplemented ∧ Q v t) E) p q us vs n n2 dd dd2 sl sl2 sz J one (fun t z => ⟨(fun x => nomatch x), done t z⟩) ho ho2 k
end
/-! ### below the body -/
structure SubG (X : Cx) (k : Nat) (A : Around) : Prop where
  r : RmG k A
  fr : A.frames = X.A.frames
theorem SubG.in1 {X : Cx} {k : Nat} {A : Around} (h : SubG X (k + 1) A) : SubG X k A.in1 := ⟨h.r.in1, h.fr⟩
theorem SubG.mono {X : Cx} {j k : Nat} {A : Around} (h : SubG X k A) (l : j ≤ k) : SubG X j A := ⟨h.r.mono l, h.fr⟩
theorem SubG.env0 {X : Cx} {k : Nat} {A : Around} {pins : List (Addr × Obj)} {σ : L2.St} {H : Hp} {s : Shared} (h : SubG X k A) (I : Inv X pins σ H s) : Env0 X.prog X.w X.K X.mg X.base A X.stack s H := by
  have e := I.env0
  exact ⟨by rw [h.fr]; exact e.frames, e.mod, e.bs, e.bsz, e.funs, e.frf, e.hok, e.bare⟩
/-- what is kept while items are compared -/
def Kept (X : Cx) (C : Pl) (B : Bp) (pins : List (Addr × Obj)) (σ : L2.St) (d : DSt) (F H : Hp) (s' : Shared) : Prop := ∃ F' H', Inv X pins σ H' s' ∧ BG C B d F' H' ∧ Go C B F H F' H'
/-- == inside a builtin gives True -/
def EqK (X : Cx) (C : Pl) (B : Bp) (k : Nat) (px py : PV) : Prop :=
  ∀ (A : Around) (pins : List (Addr × Obj)) (s : Shared) (σ : L2.St) (F H : Hp) (d : DSt) (x y : V) (u v : Value), SubG X k A → Inv X pins σ H s → BG C B d F H → Rep C F px x → Rep C F py y → RelV x u → RelV y v →
    wpAny (model X.prog X.w) A (eqBool u v) (fun r s' => r = true ∧ Kept X C B pins σ d F H s') X.xe s
/-- a comparison of two objects gives this -/
def RcK (X : Cx) (C : Pl) (B : Bp) (op : CmpOp) (z : Bool) (k : Nat) (px py : PV) : Prop :=
  ∀ (A : Around) (pins : List (Addr × Obj)) (s : Shared) (σ : L2.St) (F H : Hp) (d : DSt) (x y : V) (u v : Value), SubG X k A → Inv X pins σ H s → BG C B d F H → Rep C F px x → Rep C F py y → RelV x u → RelV y v →
    wpAny (model X.prog X.w) A (richCompare op u v) (fun r s' => r = .bool z ∧ Kept X C B pins σ d F H s') X.xe s
section
variable {X : Cx} {C : Pl} {B : Bp} {E : XS} {j k : Nat} {t : OT} {px py : PV} {xs ys : List PV} {c c' : Nat}
theorem EqK.mono (h : EqK X C B j px py) (l : j ≤ k) : EqK X C B k px py := fun A pins s σ F H d x y u v sb => h A pins s σ F H d x y u v (sb.mono l)
theorem RcK.eqK (h : RcK X C B .Eq true k px py) (hx : ∀ F x, Rep C F px x → ∃ a, x = .ref a) (hy : ∀ F x, Rep C F py x → ∃ a, x = .ref a) : EqK X C B k px py := by
  intro A pins s σ F H d x y u v sb I b r1 r2 rx ry
  obtain ⟨a1, rfl⟩ := hx _ _ r1
  obtain ⟨a2, rfl⟩ := hy _ _ r2
  cases rx
  cases ry
  by_cases q : a1 = a2
  · subst q
    exact SeqAt.EqAt.same (A := A) (s := s) (.ref a1) X.prog X.w X.xe _ ⟨rfl, F, H, I, b, Go.refl⟩
  · refine GQ.eqBool_refG q (wpAny_mono (h A pins s σ F H d _ _ _ _ sb I b r1 r2 rfl rfl) (fun r s' z => ?_) fun _ _ x => x)
    exact ⟨true, z.1, rfl, z.2⟩
theorem eqK_flat {z : V} (hx : ∀ F x, Rep C F px x → x = z) (hy : ∀ F x, Rep C F py x → x = z) (hf : flatV z = true) (he : eqV z z = true) : EqK X C B k px py := by
  intro A pins s σ F H d x y u v sb I b r1 r2 rx ry
  have e1 := hx _ _ r1
  have e2 := hy _ _ r2
  subst e1
  subst e2
  have q := eqAt_V (A := A) (s := s) rx ry hf hf
  rw [he] at q
  exact q X.prog X.w X.xe _ ⟨rfl, F, H, I, b, Go.refl⟩
theorem ref_lst {F : Hp} {x : V} (h : Rep C F (.lst xs) x) : ∃ a, x = .ref a := let ⟨a, _, e, _⟩ := h; ⟨a, e⟩
theorem ref_tup {F : Hp} {x : V} (h : Rep C F (.tup xs) x) : ∃ a, x = .ref a := let ⟨a, _, e, _⟩ := h; ⟨a, e⟩
theorem ref_ins {F : Hp} {x : V} (h : Rep C F (.ins c xs) x) : ∃ a, x = .ref a := let ⟨a, _, _, _, e, _⟩ := h; ⟨a, e⟩
theorem rcK_ins (O : OwnT X C k (cmpInfo .Eq).2.1 t) (W : TwoT X C t) (tk : Tk X E) (h : own2 t c c' [.ins c xs, .ins c' ys] = .ok (.bl true)) : RcK X C B .Eq true k (.ins c xs) (.ins c' ys) := by
  intro A pins s σ F H d x y u v sb I b r1 r2 rx ry
  unfold own2 at h
  split at h
  · rename_i hc
    unfold own at h
    cases ef : t c with
    | none => rw [ef] at h; cases h
    | some fn =>
      rw [ef] at h
      obtain ⟨A1, f, eA, e1, e2, e3, e4, e5, e6, G⟩ := O.at_ c fn ef
      obtain ⟨a1, A2, dx1, vs1, rfl, z1, f1, l1, q1⟩ := id r1
      obtain ⟨a2, A3, dx2, vs2, rfl, z2, f2, l2, q2⟩ := id r2
      rw [eA] at z1; cases z1
      have nf : PySem.W.notFirst X.K A1 (.ref A3) = true := by
        by_cases q : c = c'
        · subst q
          rw [eA] at z2; cases z2
          simp [PySem.W.notFirst]
        · have hs := hc.resolve_left q
          cases ef2 : t c' with
          | none => rw [ef2] at hs; cases hs
          | some fn2 =>
            obtain ⟨A', A2', w1, w2, w3⟩ := W.two c c' fn fn2 ef ef2 q
            rw [eA] at w1; cases w1
            rw [w2] at z2; cases z2
            simp [PySem.W.notFirst, w3]
      cases rx; cases ry
      obtain ⟨od, J, _⟩ := inst_at I (b.fh _ _ f1)
      obtain ⟨od2, J2, _⟩ := inst_at I (b.fh _ _ f2)
      obtain ⟨m, fr⟩ := I.fr
      refine PySem.W.cmp_K (tb := .ref A3) sb.r.r.units0 fr I.ok.mod.kin J J2.type nf e1 e2 ?_
      have h2 : tK C B (E σ) (Rep C) ((fn [.ins c xs, .ins c' ys]).r d) F H (fun v H' => v = .bl true ∧ ∃ F', BG C B d F' H' ∧ Go C B F H F' H') := by
        have h' : fn [.ins c xs, .ins c' ys] = .ok (.bl true) := h
        rw [h']
        exact fun F' H' v b' g r => ⟨r, F', b', g⟩
      refine thn (run_spA (vs := [.ref a1, .ref a2]) G sb.r (sb.env0 I) tk I (.cons rfl (.cons rfl .nil)) b (RepL.cons r1 (RepL.cons r2 RepL.nil)) h2) fun u s' q => ?_
      obtain ⟨z, H', I', rz, ez, F', b', g⟩ := q
      subst ez
      cases rz
      exact cmpBack_of (x := .bl true) rfl ⟨rfl, F', H', I', b', g⟩
  · cases h
theorem rcK_list (hK : X.K = C.K) (hl : xs.length = ys.length) (ih : ∀ (i : Nat) (x y : PV), xs[i]? = some x → ys[i]? = some y → EqK X C B k x y) : RcK X C B .Eq true (k + 1) (.lst xs) (.lst ys) ∧ RcK X C B .NotEq false (k + 1) (.lst xs) (.lst ys) := by
  have key : ∀ {A : Around} {pins : List (Addr × Obj)} {s : Shared} {σ : L2.St} {F H : Hp} {d : DSt} {a1 a2 : Addr}, SubG X (k + 1) A → Rep C F (.lst xs) (.ref a1) → Rep C F (.lst ys) (.ref a2) →
      GQ.ListI X.prog X.w A X.xe a1 a2 xs.length (fun _ s' => Kept X C B pins σ d F H s') := by
    intro A pins s σ F H d a1 a2 sb r1 r2 i s' q
    obtain ⟨F1, H1, I1, b1, g1⟩ := q
    obtain ⟨_, ws1, e, f1, q1⟩ := Rep.mono g1.s _ _ r1
    cases e
    obtain ⟨_, ws2, e, f2, q2⟩ := Rep.mono g1.s _ _ r2
    cases e
    obtain ⟨_, its1, n1, v1, l1, o1⟩ := SqX.obj (hK ▸ f1.mono b1.fh) I1
    obtain ⟨_, its2, n2, v2, l2, o2⟩ := SqX.obj (hK ▸ f2.mono b1.fh) I1
    have k1 := q1.length
    have k2 := q2.length
    refine ⟨its1.toArray, its2.toArray, n1, n2, o1, o2, by rw [List.size_toArray]; omega, by rw [List.size_toArray]; omega, fun h1 h2 => ?_⟩
    have h1' : i < its1.length := by simpa using h1
    have h2' : i < its2.length := by simpa using h2
    have g1' : its1[i]? = some its1.toArray[i] := by rw [List.getElem?_eq_getElem h1'] <;> simp
    have g2' : its2[i]? = some its2.toArray[i] := by rw [List.getElem?_eq_getElem h2'] <;> simp
    obtain ⟨x, ex⟩ : ∃ x, xs[i]? = some x := ⟨_, List.getElem?_eq_getElem (by omega)⟩
    obtain ⟨y, ey⟩ : ∃ y, ys[i]? = some y := ⟨_, List.getElem?_eq_getElem (by omega)⟩
    obtain ⟨vx, hx, rx⟩ := q1.get ex
    obtain ⟨vy, hy, ry⟩ := q2.get ey
    obtain ⟨u, hu, ru⟩ := v1.get hx
    obtain ⟨v, hv, rv⟩ := v2.get hy
    rw [g1'] at hu
    rw [g2'] at hv
    rw [Option.some.inj hu, Option.some.inj hv]
    refine wpAny_mono (ih i x y ex ey A.in1 pins s' σ F1 H1 d _ _ u v sb.in1 I1 b1 rx ry ru rv) (fun r s2 q => ?_) fun _ _ x => x
    obtain ⟨hr, F2, H2, I2, b2, g2⟩ := q
    exact ⟨hr, F2, H2, I2, b2, g1.trans g2⟩
  constructor
  · intro A pins s σ F H d x y u v sb I b r1 r2 rx ry
    obtain ⟨a1, rfl⟩ := ref_lst r1
    obtain ⟨a2, rfl⟩ := ref_lst r2
    cases rx; cases ry
    exact GQ.rc_listG (N := xs.length) sb.r.r.units0 _ (key (s := s) sb r1 r2) (fun s' q => ⟨rfl, q⟩) ⟨F, H, I, b, Go.refl⟩
  · intro A pins s σ F H d x y u v sb I b r1 r2 rx ry
    obtain ⟨a1, rfl⟩ := ref_lst r1
    obtain ⟨a2, rfl⟩ := ref_lst r2
    cases rx; cases ry
    exact rn_listG (m := xs.length) sb.r.r.units0 _ (key (s := s) sb r1 r2) (fun s' q => ⟨rfl, q⟩) ⟨F, H, I, b, Go.refl⟩
theorem rcK_tup (hK : X.K = C.K) (hl : xs.length = ys.length) (ih : ∀ (i : Nat) (x y : PV), xs[i]? = some x → ys[i]? = some y → EqK X C B k x y) : RcK X C B .Eq true (k + 1) (.tup xs) (.tup ys) ∧ RcK X C B .NotEq false (k + 1) (.tup xs) (.tup ys) := by
  have key : ∀ {A : Around} {pins : List (Addr × Obj)} {s : Shared} {σ : L2.St} {F H : Hp} {d : DSt} {a1 a2 : Addr}, SubG X (k + 1) A → Inv X pins σ H s → BG C B d F H → Rep C F (.tup xs) (.ref a1) → Rep C F (.tup ys) (.ref a2) →
      ∃ us vs : Array Value, us.size = vs.size ∧ s.heap.IsTuple a1 us ∧ s.heap.IsTuple a2 vs ∧ ∀ i (h1 : i < us.size) (h2 : i < vs.size) s', Kept X C B pins σ d F H s' → wpAny (model X.prog X.w) A.in1 (eqBool us[i] vs[i]) (fun r s2 => r = true ∧ Kept X C B pins σ d F H s2) X.xe s' := by
    intro A pins s σ F H d a1 a2 sb I b r1 r2
    obtain ⟨_, ws1, e, f1, q1⟩ := id r1
    cases e
    obtain ⟨_, ws2, e, f2, q2⟩ := id r2
    cases e
    obtain ⟨its1, v1, o1, _⟩ := I.tuple (hK ▸ Same.sqT b.fh f1)
    obtain ⟨its2, v2, o2, _⟩ := I.tuple (hK ▸ Same.sqT b.fh f2)
    have k1 := q1.length
    have k2 := q2.length
    have l1 := v1.length
    have l2 := v2.length
    refine ⟨its1.toArray, its2.toArray, by rw [List.size_toArray, List.size_toArray]; omega, o1, o2, fun i h1 h2 s' q => ?_⟩
    obtain ⟨F1, H1, I1, b1, g1⟩ := q
    have h1' : i < its1.length := by simpa using h1
    have h2' : i < its2.length := by simpa using h2
    have g1' : its1[i]? = some its1.toArray[i] := by rw [List.getElem?_eq_getElem h1'] <;> simp
    have g2' : its2[i]? = some its2.toArray[i] := by rw [List.getElem?_eq_getElem h2'] <;> simp
    obtain ⟨x, ex⟩ : ∃ x, xs[i]? = some x := ⟨_, List.getElem?_eq_getElem (by omega)⟩
    obtain ⟨y, ey⟩ : ∃ y, ys[i]? = some y := ⟨_, List.getElem?_eq_getElem (by omega)⟩
    obtain ⟨vx, hx, rx⟩ := (q1.mono g1.s).get ex
    obtain ⟨vy, hy, ry⟩ := (q2.mono g1.s).get ey
    obtain ⟨u, hu, ru⟩ := v1.get hx
    obtain ⟨v, hv, rv⟩ := v2.get hy
    rw [g1'] at hu
    rw [g2'] at hv
    rw [Option.some.inj hu, Option.some.inj hv]
    refine wpAny_mono (ih i x y ex ey A.in1 pins s' σ F1 H1 d _ _ u v sb.in1 I1 b1 rx ry ru rv) (fun r s2 q => ?_) fun _ _ x => x
    obtain ⟨hr, F2, H2, I2, b2, g2⟩ := q
    exact ⟨hr, F2, H2, I2, b2, g1.trans g2⟩
  constructor
  · intro A pins s σ F H d x y u v sb I b r1 r2 rx ry
    obtain ⟨a1, rfl⟩ := ref_tup r1
    obtain ⟨a2, rfl⟩ := ref_tup r2
    cases rx; cases ry
    obtain ⟨us, vs, sz, o1, o2, one⟩ := key sb I b r1 r2
    exact GQ.rc_tupG sz sb.r.r.units0 (fun _ s' => Kept X C B pins σ d F H s') o1 o2 one (fun s' q => ⟨rfl, q⟩) ⟨F, H, I, b, Go.refl⟩
  · intro A pins s σ F H d x y u v sb I b r1 r2 rx ry
    obtain ⟨a1, rfl⟩ := ref_tup r1
    obtain ⟨a2, rfl⟩ := ref_tup r2
    cases rx; cases ry
    obtain ⟨us, vs, sz, o1, o2, one⟩ := key sb I b r1 r2
    exact rn_tupG sz sb.r.r.units0 (fun _ s' => Kept X C B pins σ d F H s') o1 o2 one (fun s' q => ⟨rfl, q⟩) ⟨F, H, I, b, Go.refl⟩
end
/-! ### the mirror -/
/-- surely equal, nested at most n deep; objects by their own == -/
def eqT (t : OT) : Nat → PV → PV → Bool
  | _, .non, .non => true
  | _, .bl a, .bl b => decide (a = b)
  | _, .int i, .int j => decide (i = j)
  | _, .str x, .str y => decide (x = y)
  | _, .ins c xs, .ins c' ys => match own2 t c c' [.ins c xs, .ins c' ys] with
    | .ok (.bl true) => true
    | _ => false
  | n + 1, .lst xs, .lst ys => decide (xs.length = ys.length) && (xs.zip ys).all fun p => eqT t n p.1 p.2
  | n + 1, .tup xs, .tup ys => decide (xs.length = ys.length) && (xs.zip ys).all fun p => eqT t n p.1 p.2
  | _, _, _ => false
section
variable {X : Cx} {C : Pl} {B : Bp} {E : XS} {k : Nat} {t : OT}
theorem zip_at {xs ys : List PV} {q : PV → PV → Bool} (h : ((xs.zip ys).all fun p => q p.1 p.2) = true) {i : Nat} {x y : PV} (ex : xs[i]? = some x) (ey : ys[i]? = some y) : q x y = true :=
  List.all_eq_true.mp h (x, y) (List.mem_of_getElem? (i := i) (by rw [List.getElem?_zip_eq_some]; exact ⟨ex, ey⟩))
theorem eqT_ok (hK : X.K = C.K) (O : OwnT X C k (cmpInfo .Eq).2.1 t) (W : TwoT X C t) (tk : Tk X E) : ∀ (n : Nat) (px py : PV), eqT t n px py = true → EqK X C B (k + n) px py := by
  intro n
  induction n with
  | zero =>
    intro px py h
    unfold eqT at h
    split at h
    · exact eqK_flat (z := .non) (fun _ _ r => r) (fun _ _ r => r) rfl rfl
    · exact eqK_flat (z := .bl _) (fun _ _ r => r) (fun _ _ r => by rw [of_decide_eq_true h]; exact r) rfl (by simp [eqV])
    · exact eqK_flat (z := .int _) (fun _ _ r => r) (fun _ _ r => by rw [of_decide_eq_true h]; exact r) rfl (by simp [eqV])
    · exact eqK_flat (z := .str _) (fun _ _ r => r) (fun _ _ r => by rw [of_decide_eq_true h]; exact r) rfl (by simp [eqV])
    · split at h
      · rename_i e
        exact (rcK_ins O W tk e).eqK (fun _ _ => ref_ins) fun _ _ => ref_ins
      · cases h
    · rename_i e; cases e
    · rename_i e; cases e
    · cases h
  | succ n ih =>
    intro px py h
    unfold eqT at h
    split at h
    · exact eqK_flat (z := .non) (fun _ _ r => r) (fun _ _ r => r) rfl rfl
    · exact eqK_flat (z := .bl _) (fun _ _ r => r) (fun _ _ r => by rw [of_decide_eq_true h]; exact r) rfl (by simp [eqV])
    · exact eqK_flat (z := .int _) (fun _ _ r => r) (fun _ _ r => by rw [of_decide_eq_true h]; exact r) rfl (by simp [eqV])
    · exact eqK_flat (z := .str _) (fun _ _ r => r) (fun _ _ r => by rw [of_decide_eq_true h]; exact r) rfl (by simp [eqV])
    · split at h
      · rename_i e
        exact ((rcK_ins O W tk e).eqK (fun _ _ => ref_ins) fun _ _ => ref_ins).mono (by omega)
      · cases h
    · rename_i e
      cases e
      rw [Bool.and_eq_true, decide_eq_true_eq] at h
      exact ((rcK_list hK h.1 fun i x y ex ey => ih x y (zip_at h.2 ex ey)).1.eqK (fun _ _ => ref_lst) fun _ _ => ref_lst)
    · rename_i e
      cases e
      rw [Bool.and_eq_true, decide_eq_true_eq] at h
      exact ((rcK_tup hK h.1 fun i x y ex ey => ih x y (zip_at h.2 ex ey)).1.eqK (fun _ _ => ref_tup) fun _ _ => ref_tup)
    · cases h
/-- == where both are lists or tuples that are surely equal -/
def oEqL (t : OT) (x y : PV) : O := match x, y with
  | .lst xs, .lst ys => if eqT t 3 (.lst xs) (.lst ys) then .ok (.bl true) else oEq t (.lst xs) (.lst ys)
  | .tup xs, .tup ys => if eqT t 3 (.tup xs) (.tup ys) then .ok (.bl true) else oEq t (.tup xs) (.tup ys)
  | x, y => oEq t x y
def oNeL (t : OT) (x y : PV) : O := match x, y with
  | .lst xs, .lst ys => if eqT t 3 (.lst xs) (.lst ys) then .ok (.bl false) else oNe t (.lst xs) (.lst ys)
  | .tup xs, .tup ys => if eqT t 3 (.tup xs) (.tup ys) then .ok (.bl false) else oNe t (.tup xs) (.tup ys)
  | x, y => oNe t x y
theorem eqT_rc (hK : X.K = C.K) (O : OwnT X C k (cmpInfo .Eq).2.1 t) (W : TwoT X C t) (tk : Tk X E) {xs ys : List PV} :
    (eqT t 3 (.lst xs) (.lst ys) = true → RcK X C B .Eq true (k + 3) (.lst xs) (.lst ys) ∧ RcK X C B .NotEq false (k + 3) (.lst xs) (.lst ys)) ∧
    (eqT t 3 (.tup xs) (.tup ys) = true → RcK X C B .Eq true (k + 3) (.tup xs) (.tup ys) ∧ RcK X C B .NotEq false (k + 3) (.tup xs) (.tup ys)) := by
  constructor
  · intro h
    have h' : (decide (xs.length = ys.length) && (xs.zip ys).all fun p => eqT t 2 p.1 p.2) = true := h
    rw [Bool.and_eq_true, decide_eq_true_eq] at h'
    exact rcK_list hK h'.1 fun i x y ex ey => eqT_ok hK O W tk 2 x y (zip_at h'.2 ex ey)
  · intro h
    have h' : (decide (xs.length = ys.length) && (xs.zip ys).all fun p => eqT t 2 p.1 p.2) = true := h
    rw [Bool.and_eq_true, decide_eq_true_eq] at h'
    exact rcK_tup hK h'.1 fun i x y ex ey => eqT_ok hK O W tk 2 x y (zip_at h'.2 ex ey)
theorem RcK.op {op : CmpOp} {z : Bool} {px py : PV} (h : RcK X C B op z k px py) (hr : RmG k X.A) {pins : List (Addr × Obj)} {s : Shared} {σ : L2.St} {F H : Hp} {d : DSt} {x y : V} {v u : Value} {Q : VK} {Ek : XK} (I : Inv X pins σ H s) (b : BG C B d F H) (r1 : Rep C F px x) (r2 : Rep C F py y) (rx : RelV x v) (ry : RelV y u)
    (q : tK C B Ek (Rep C) (O.r (.ok (.bl z)) d) F H Q) : wpAny (model X.prog X.w) X.A (richCompare op v u) (EP X pins σ Q) X.xe s := by
  refine wpAny_mono (h X.A pins s σ F H d x y v u ⟨hr, rfl⟩ I b r1 r2 rx ry) (fun r s' k => ?_) fun _ _ x => x
  obtain ⟨e, F', H', I', b', g⟩ := k
  subst e
  exact ⟨.bl z, H', I', rfl, q F' H' _ b' g rfl⟩
theorem op2_eqL (hK : X.K = C.K) (hr : RmG (k + 3) X.A) (tk : Tk X E) (O : OwnT X C k (cmpInfo .Eq).2.1 t) (W : TwoT X C t) : Op2 X C E (compareOp .Eq) (oEqL t) := by
  intro B pins s σ H x y v u Q I rx ry h
  obtain ⟨F, d, px, py, b, r1, r2, h⟩ := h
  have other : tK C B (E σ) (Rep C) ((oEq t px py).r d) F H Q → wpAny (model X.prog X.w) X.A (compareOp .Eq v u) (EP X pins σ Q) X.xe s := fun h => op2_eq hK (hr.mono (by omega)) tk O W B pins s σ H x y v u Q I rx ry ⟨F, d, px, py, b, r1, r2, h⟩
  unfold oEqL at h
  split at h
  · split at h
    · rename_i q
      exact (((eqT_rc hK O W tk).1 q).1).op hr I b r1 r2 rx ry h
    · exact other h
  · split at h
    · rename_i q
      exact (((eqT_rc hK O W tk).2 q).1).op hr I b r1 r2 rx ry h
    · exact other h
  · exact other h
theorem op2_neL (hK : X.K = C.K) (hr : RmG (k + 3) X.A) (tk : Tk X E) (O : OwnT X C k (cmpInfo .Eq).2.1 t) (W : TwoT X C t) (N : OwnNe X C t) : Op2 X C E (compareOp .NotEq) (oNeL t) := by
  intro B pins s σ H x y v u Q I rx ry h
  obtain ⟨F, d, px, py, b, r1, r2, h⟩ := h
  have other : tK C B (E σ) (Rep C) ((oNe t px py).r d) F H Q → wpAny (model X.prog X.w) X.A (compareOp .NotEq v u) (EP X pins σ Q) X.xe s := fun h => op2_neO hK (hr.mono (by omega)) tk O W N B pins s σ H x y v u Q I rx ry ⟨F, d, px, py, b, r1, r2, h⟩
  unfold oNeL at h
  split at h
  · split at h
    · rename_i q
      exact (((eqT_rc hK O W tk).1 q).2).op hr I b r1 r2 rx ry h
    · exact other h
  · split at h
    · rename_i q
      exact (((eqT_rc hK O W tk).2 q).2).op hr I b r1 r2 rx ry h
    · exact other h
  · exact other h
end
end RL
end M_R76
section M_R77
/-! a + b of two lists: a new list of one's own -/
namespace RL
open PySem PySem.Spec PyProof.Rows L2
def catR (x y : PV) (d : DSt) : R (List PV) := match x, y with
  | .lst xs, .lst ys => if xs.length + ys.length < LIM then .ok (xs ++ ys) d else .no
  | _, _ => .no
def aAddL (ma mb : EM) : AM := fun ρ d => (ma ρ d).bind fun x d1 => (mb ρ d1).bind fun y d2 => catR x y d2
@[simp] theorem aAddL_x (ma mb : EM) (ρ : REnv) (d : DSt) : aAddL ma mb ρ d = (ma ρ d).bind fun x d1 => (mb ρ d1).bind fun y d2 => catR x y d2 := rfl
@[simp] theorem catR_l (xs ys : List PV) (d : DSt) : catR (.lst xs) (.lst ys) d = if xs.length + ys.length < LIM then .ok (xs ++ ys) d else .no := rfl
section
variable {X : Cx} {C : Pl} {B : Bp} {E : XS} {pos : Pos} {a b : Expr} {ma mb : EM}
theorem tKF.back {r : R (List PV)} {Ek : XK} {Q : VK} {F H F1 H1 : Hp} (g : Go C B F H F1 H1) (h : tKF C B Ek r F H Q) : tKF C B Ek r F1 H1 Q := by
  cases r with
  | ok xs d' => exact fun F' H' p vs b g' hp ep fp rl => h F' H' p vs b (g.trans g') (by
      cases q : H p with
      | none => rfl
      | some o =>
        obtain ⟨o', e'⟩ := g.t p o q
        rw [hp] at e'; cases e') ep fp rl
  | ex e d' => exact fun F' H' cls dd b g' r => h F' H' cls dd b (g.trans g') r
  | no => exact h
theorem rf_addL (hK : X.K = C.K) (ha : RE X C B E a ma) (hb : RE X C B E b mb) : RFr X C B E (.BinOp a .Add b pos) (aAddL ma mb) := by
  have ho : OpS X (binaryOp .Add) fun σ x y H Q => ∃ F d px py, BG C B d F H ∧ Rep C F px x ∧ Rep C F py y ∧ tKF C B (E σ) (catR px py d) F H Q := by
    intro pins s σ H x y v u Q I rx ry h
    obtain ⟨F, d, px, py, b, r1, r2, h⟩ := h
    unfold catR at h
    split at h
    · rename_i xs ys
      split at h
      · rename_i hl
        obtain ⟨a1, vs1, rfl, f1, q1⟩ := r1
        obtain ⟨a2, vs2, rfl, f2, q2⟩ := r2
        cases rx; cases ry
        exact catX I (by rw [hK]; exact SqX.mono b.fh f1) (by rw [hK]; exact SqX.mono b.fh f2) (by rw [← q1.length, ← q2.length]; exact lim_le hl)
          (fun p hp => h F (upd H p (.lst (vs1 ++ vs2))) p (vs1 ++ vs2) (b.junk hp) (Go.junk b.fh hp) hp upd_same (b.F_none hp) (q1.append q2))
      · exact h.elim
    · exact h.elim
  refine PE.weak (pe_opS ho ha hb) fun σ H Q h => ?_
  obtain ⟨F, ρ, d, b, h⟩ := h
  refine ⟨F, ρ, d, b, ?_⟩
  unfold aAddL at h
  revert h
  cases ma ρ d with
  | ok x d1 =>
    intro h F1 H1 v b1 g1 r1
    refine ⟨F1, ρ, d1, b.go b1 g1, ?_⟩
    revert h
    rw [R.bind_ok]
    cases mb ρ d1 with
    | ok y d2 =>
      intro h F2 H2 u b2 g2 r2
      rw [R.bind_ok] at h
      exact ⟨F2, d2, x, y, b2, r1.mono g2.s, r2, tKF.back (g1.trans g2) h⟩
    | ex e d2 => exact fun h F' H' cls dd b' g' r => h F' H' cls dd b' (g1.trans g') r
    | no => exact fun h => h
  | ex e d1 => exact fun h => h
  | no => exact fun h => h
end
end RL
end M_R77
section M_RALL

end M_RALL
section M_Gk05H
namespace G
open PySem PySem.Spec PyProof.Rows L2 RL
abbrev prog : Program := PySem.Challenge.pw_markrounds_k05_maps_together
def top (i : Nat) : Stmt := prog.main.body.getD i (.Pass ⟨0, 0, 0, 0⟩)
abbrev s_check_map : Stmt := top 16
abbrev s_RowMap_last : Stmt := inClass (top 12) 5
abbrev s_OtherRow_init : Stmt := inClass (top 3) 0
abbrev s_check_same_row : Stmt := top 10
abbrev s_check_pair_maps : Stmt := top 17
abbrev s_RowMap_init : Stmt := inClass (top 12) 0
abbrev s_with_images : Stmt := top 14
abbrev s_RowMap_add : Stmt := inClass (top 12) 20
abbrev s_law_mixed : Stmt := top 20
abbrev s_law_draw : Stmt := top 22
abbrev s_law_table : Stmt := top 24
abbrev s_value_at : Stmt := top 15
abbrev s_RowMap_getitem : Stmt := inClass (top 12) 13
abbrev s_RowMap_images : Stmt := inClass (top 12) 6
abbrev s_is_below : Stmt := top 18
abbrev s_RowMap_gt : Stmt := inClass (top 12) 26
abbrev s_RowMap_len : Stmt := inClass (top 12) 16
abbrev s_RowMap_lt : Stmt := inClass (top 12) 24
abbrev s_RowMap_eq : Stmt := inClass (top 12) 18
abbrev s_law_bent : Stmt := top 28
abbrev s_RowMap_of : Stmt := inClass (top 12) 1
abbrev s_RowMap_or : Stmt := inClass (top 12) 22
abbrev s_RowMap_and : Stmt := inClass (top 12) 21
abbrev s_RowMap_ge : Stmt := inClass (top 12) 25
abbrev s_RowMap_le : Stmt := inClass (top 12) 23
abbrev s_law_pair_right : Stmt := top 26
abbrev s_law_three_right : Stmt := top 29
abbrev s_law_told : Stmt := top 25
abbrev s_law_strangers_right : Stmt := top 27
abbrev s_law_folded : Stmt := top 21
abbrev s_law_begun : Stmt := top 23
abbrev s_law : Stmt := top 30
def ts : List Str := ["_law_strangers_right"]
end G
end M_Gk05H
section M_Gk05E20
namespace G
open PySem PySem.Spec PyProof.Rows L2 RL
/-! the end -/
def a20 (K : PySem.W.Frag) : Addr := He.ga K "RowMap"
def a4 (K : PySem.W.Frag) : Addr := He.ga K "OtherRow"
def a116 (K : PySem.W.Frag) : Addr := He.ga K "_check_map"
def a11205 (K : PySem.W.Frag) : Addr := inA K "property" (He.ma K (a20 K) "last")
def a10300 (K : PySem.W.Frag) : Addr := He.ma K (a4 K) "__init__"
def a110 (K : PySem.W.Frag) : Addr := He.ga K "check_same_row"
def a117 (K : PySem.W.Frag) : Addr := He.ga K "_check_pair"
def a11200 (K : PySem.W.Frag) : Addr := He.ma K (a20 K) "__init__"
def a114 (K : PySem.W.Frag) : Addr := He.ga K "with_images"
def a11220 (K : PySem.W.Frag) : Addr := He.ma K (a20 K) "__add__"
def a120 (K : PySem.W.Frag) : Addr := He.ga K "_law_mixed"
def a122 (K : PySem.W.Frag) : Addr := He.ga K "_law_draw"
def a124 (K : PySem.W.Frag) : Addr := He.ga K "_law_table"
def a115 (K : PySem.W.Frag) : Addr := He.ga K "value_at"
def a11213 (K : PySem.W.Frag) : Addr := He.ma K (a20 K) "__getitem__"
def a11206 (K : PySem.W.Frag) : Addr := inA K "property" (He.ma K (a20 K) "images")
def a118 (K : PySem.W.Frag) : Addr := He.ga K "_is_below"
def a11226 (K : PySem.W.Frag) : Addr := He.ma K (a20 K) "__gt__"
def a11216 (K : PySem.W.Frag) : Addr := He.ma K (a20 K) "__len__"
def a11224 (K : PySem.W.Frag) : Addr := He.ma K (a20 K) "__lt__"
def a11218 (K : PySem.W.Frag) : Addr := He.ma K (a20 K) "__eq__"
def a128 (K : PySem.W.Frag) : Addr := He.ga K "_law_bent"
def a11201 (K : PySem.W.Frag) : Addr := inA K "classmethod" (He.ma K (a20 K) "of")
def a11222 (K : PySem.W.Frag) : Addr := He.ma K (a20 K) "__or__"
def a11221 (K : PySem.W.Frag) : Addr := He.ma K (a20 K) "__and__"
def a11225 (K : PySem.W.Frag) : Addr := He.ma K (a20 K) "__ge__"
def a11223 (K : PySem.W.Frag) : Addr := He.ma K (a20 K) "__le__"
def a126 (K : PySem.W.Frag) : Addr := He.ga K "_law_pair_right"
def a129 (K : PySem.W.Frag) : Addr := He.ga K "_law_three_right"
def a1 (K : PySem.W.Frag) : Addr := He.ga K "MarkroundsError"
def a125 (K : PySem.W.Frag) : Addr := He.ga K "_law_told"
def a127 (K : PySem.W.Frag) : Addr := He.ga K "_law_strangers_right"
def a130 (K : PySem.W.Frag) : Addr := He.ga K "law"
def a121 (K : PySem.W.Frag) : Addr := He.ga K "_law_folded"
def a123 (K : PySem.W.Frag) : Addr := He.ga K "_law_begun"
def adK (K : PySem.W.Frag) : Nat → Addr := fun c => match c with | 1 => a1 K | 4 => a4 K | 20 => a20 K | 110 => a110 K | 114 => a114 K | 115 => a115 K | 116 => a116 K | 117 => a117 K | 118 => a118 K | 120 => a120 K | 121 => a121 K | 122 => a122 K | 123 => a123 K | 124 => a124 K | 125 => a125 K | 126 => a126 K | 127 => a127 K | 128 => a128 K | 129 => a129 K | 130 => a130 K | 10300 => a10300 K | 11200 => a11200 K | 11201 => a11201 K | 11205 => a11205 K | 11206 => a11206 K | 11213 => a11213 K | 11216 => a11216 K | 11218 => a11218 K | 11220 => a11220 K | 11221 => a11221 K | 11222 => a11222 K | 11223 => a11223 K | 11224 => a11224 K | 11225 => a11225 K | 11226 => a11226 K | _ => 0
def fs (K : PySem.W.Frag) : List Bool := ([He.eqO (PySem.W.nsIn K mainGlobals "range") (some none),
  decide (PySem.W.kitOne K (.ref (a20 K)) (.ref (a20 K)) = some true),
  clB K (a20 K),
  He.eqO (PySem.W.findIn K (.ref (a20 K)) "__class__") (some (some (.builtin "object.__class__"))),
  He.eqO (PySem.W.specialIn K (.builtin "object.__class__") "__get__") (some (some (.builtin "getset_descriptor.__get__"))),
  decide (PySem.W.takesIn K (.builtin "object.__class__") = some true),
  decide (PySem.W.mroIn K (a20 K) (.type "object") = some true),
  ecB K (a4 K),
  decide (PySem.W.kitOne K (.ref (a4 K)) (.ref (a4 K)) = some true),
  decide (PySem.W.kitOne K (.type "NoneType") (.ref (a4 K)) = some false),
  He.eqO (PySem.W.nsIn K mainGlobals "RowMap") (some (some (.ref (a20 K)))),
  He.eqO (PySem.W.nsIn K mainGlobals "isinstance") (some none),
  He.eqO (PySem.W.nsIn K mainGlobals "_check_map") (some (some (.ref (a116 K)))),
  He.eqO (PySem.W.findIn K (.ref (a20 K)) "_images") (some none),
  He.eqO (PySem.W.nsIn K mainGlobals "len") (some none),
  prB K (a20 K) "last",
  oxB K (a4 K),
  He.eqO (PySem.W.findIn K (.ref (a4 K)) "value") (some none),
  He.eqO (PySem.W.findIn K (.ref (a4 K)) "__init__") (some (some (.ref (a10300 K)))),
  decide (PySem.W.typeIn K (.ref (a10300 K)) = some (.type "function")),
  He.eqO (PySem.W.nsIn K mainGlobals "OtherRow") (some (some (.ref (a4 K)))),
  He.eqO (PySem.W.nsIn K mainGlobals "check_same_row") (some (some (.ref (a110 K)))),
  He.eqO (PySem.W.nsIn K mainGlobals "_check_pair") (some (some (.ref (a117 K)))),
  intB K "GREATEST_LAST" 20,
  He.eqO (PySem.W.nsIn K mainGlobals "type") (some none),
  He.eqO (PySem.W.nsIn K mainGlobals "int") (some none),
  mkB K (a20 K) (a11200 K),
  He.eqO (PySem.W.nsIn K mainGlobals "tuple") (some none),
  He.eqO (PySem.W.nsIn K mainGlobals "with_images") (some (some (.ref (a114 K)))),
  He.eqO (PySem.W.findIn K (.ref (a20 K)) "__add__") (some (some (.ref (a11220 K)))),
  PySem.W.isFn K (.ref (a11220 K)),
  PySem.W.fnIn K (a11220 K),
  PySem.W.selfFirst K (a20 K),
  PySem.W.noSeq K (a20 K),
  He.eqO (PySem.W.findIn K (.ref (a20 K)) "__radd__") (some none),
  He.eqO (PySem.W.nsIn K mainGlobals "_law_mixed") (some (some (.ref (a120 K)))),
  He.eqO (PySem.W.nsIn K mainGlobals "_law_draw") (some (some (.ref (a122 K)))),
  He.eqO (PySem.W.nsIn K mainGlobals "min") (some none),
  He.eqO (PySem.W.nsIn K mainGlobals "max") (some none),
  He.eqO (PySem.W.nsIn K mainGlobals "_law_table") (some (some (.ref (a124 K))))] : List Bool) ++ ([He.eqO (PySem.W.nsIn K mainGlobals "enumerate") (some none),
  He.eqO (PySem.W.nsIn K mainGlobals "value_at") (some (some (.ref (a115 K)))),
  He.eqO (PySem.W.findIn K (.ref (a20 K)) "__getitem__") (some (some (.ref (a11213 K)))),
  PySem.W.isFn K (.ref (a11213 K)),
  PySem.W.fnIn K (a11213 K),
  prB K (a20 K) "images",
  He.eqO (PySem.W.nsIn K mainGlobals "zip") (some none),
  He.eqO (PySem.W.nsIn K mainGlobals "all") (some none),
  He.eqO (PySem.W.nsIn K mainGlobals "_is_below") (some (some (.ref (a118 K)))),
  He.eqO (PySem.W.findIn K (.ref (a20 K)) "__gt__") (some (some (.ref (a11226 K)))),
  PySem.W.isFn K (.ref (a11226 K)),
  PySem.W.fnIn K (a11226 K),
  He.eqO (PySem.W.nsIn K mainGlobals "list") (some none),
  He.eqO (PySem.W.findIn K (.ref (a20 K)) "__len__") (some (some (.ref (a11216 K)))),
  PySem.W.isFn K (.ref (a11216 K)),
  PySem.W.fnIn K (a11216 K),
  He.eqO (PySem.W.findIn K (.ref (a20 K)) "__lt__") (some (some (.ref (a11224 K)))),
  PySem.W.isFn K (.ref (a11224 K)),
  PySem.W.fnIn K (a11224 K),
  He.eqO (PySem.W.findIn K (.ref (a20 K)) "__eq__") (some (some (.ref (a11218 K)))),
  PySem.W.isFn K (.ref (a11218 K)),
  PySem.W.fnIn K (a11218 K),
  He.eqO (PySem.W.findIn K (.ref (a20 K)) "__ne__") (some (some (.builtin "object.__ne__"))),
  He.eqO (PySem.W.nsIn K mainGlobals "_law_bent") (some (some (.ref (a128 K)))),
  cmB K (a20 K) "of",
  He.eqO (PySem.W.findIn K (.ref (a20 K)) "__or__") (some (some (.ref (a11222 K)))),
  PySem.W.isFn K (.ref (a11222 K)),
  PySem.W.fnIn K (a11222 K),
  He.eqO (PySem.W.findIn K (.ref (a20 K)) "__and__") (some (some (.ref (a11221 K)))),
  PySem.W.isFn K (.ref (a11221 K)),
  PySem.W.fnIn K (a11221 K),
  He.eqO (PySem.W.nsIn K mainGlobals "repr") (some none),
  He.eqO (PySem.W.findIn K (.ref (a20 K)) "__ge__") (some (some (.ref (a11225 K)))),
  PySem.W.isFn K (.ref (a11225 K)),
  PySem.W.fnIn K (a11225 K),
  He.eqO (PySem.W.findIn K (.ref (a20 K)) "__le__") (some (some (.ref (a11223 K)))),
  PySem.W.isFn K (.ref (a11223 K)),
  PySem.W.fnIn K (a11223 K),
  He.eqO (PySem.W.nsIn K mainGlobals "_law_pair_right") (some (some (.ref (a126 K)))),
  He.eqO (PySem.W.nsIn K mainGlobals "_law_three_right") (some (some (.ref (a129 K))))] : List Bool) ++ ([decide (PySem.W.subIn K (.ref (a1 K)) (.type "BaseException") = some true),
  PySem.W.hasDictIn K (a1 K),
  decide (PySem.W.typeIn K (.ref (a1 K)) = some (.type "type")),
  decide (PySem.W.subIn K (.ref (a4 K)) (.ref (a1 K)) = some true),
  He.eqO (PySem.W.nsIn K mainGlobals "MarkroundsError") (some (some (.ref (a1 K)))),
  He.eqO (PySem.W.nsIn K mainGlobals "_law_strangers_right") (some (some (.ref (a127 K)))),
  He.eqO (PySem.W.nsIn K mainGlobals "_law_told") (some (some (.ref (a125 K)))),
  He.eqO (PySem.W.nsIn K mainGlobals "_law_folded") (some (some (.ref (a121 K)))),
  He.eqO (PySem.W.nsIn K mainGlobals "_law_begun") (some (some (.ref (a123 K)))),
  He.eqO (PySem.W.nsIn K mainGlobals "law") (some (some (.ref (a130 K))))] : List Bool)
def ds : List Da := ([⟨fun K => a116 K, "_check_map", "_check_map", s_check_map⟩,
  ⟨fun K => a11205 K, "last", "RowMap.last", s_RowMap_last⟩,
  ⟨fun K => a10300 K, "__init__", "OtherRow.__init__", s_OtherRow_init⟩,
  ⟨fun K => a110 K, "check_same_row", "check_same_row", s_check_same_row⟩,
  ⟨fun K => a117 K, "_check_pair", "_check_pair", s_check_pair_maps⟩,
  ⟨fun K => a11200 K, "__init__", "RowMap.__init__", s_RowMap_init⟩,
  ⟨fun K => a114 K, "with_images", "with_images", s_with_images⟩,
  ⟨fun K => a11220 K, "__add__", "RowMap.__add__", s_RowMap_add⟩,
  ⟨fun K => a120 K, "_law_mixed", "_law_mixed", s_law_mixed⟩,
  ⟨fun K => a122 K, "_law_draw", "_law_draw", s_law_draw⟩,
  ⟨fun K => a124 K, "_law_table", "_law_table", s_law_table⟩,
  ⟨fun K => a115 K, "value_at", "value_at", s_value_at⟩,
  ⟨fun K => a11213 K, "__getitem__", "RowMap.__getitem__", s_RowMap_getitem⟩,
  ⟨fun K => a11206 K, "images", "RowMap.images", s_RowMap_images⟩,
  ⟨fun K => a118 K, "_is_below", "_is_below", s_is_below⟩,
  ⟨fun K => a11226 K, "__gt__", "RowMap.__gt__", s_RowMap_gt⟩,
  ⟨fun K => a11216 K, "__len__", "RowMap.__len__", s_RowMap_len⟩,
  ⟨fun K => a11224 K, "__lt__", "RowMap.__lt__", s_RowMap_lt⟩,
  ⟨fun K => a11218 K, "__eq__", "RowMap.__eq__", s_RowMap_eq⟩,
  ⟨fun K => a128 K, "_law_bent", "_law_bent", s_law_bent⟩,
  ⟨fun K => a11201 K, "of", "RowMap.of", s_RowMap_of⟩,
  ⟨fun K => a11222 K, "__or__", "RowMap.__or__", s_RowMap_or⟩,
  ⟨fun K => a11221 K, "__and__", "RowMap.__and__", s_RowMap_and⟩,
  ⟨fun K => a11225 K, "__ge__", "RowMap.__ge__", s_RowMap_ge⟩,
  ⟨fun K => a11223 K, "__le__", "RowMap.__le__", s_RowMap_le⟩,
  ⟨fun K => a126 K, "_law_pair_right", "_law_pair_right", s_law_pair_right⟩,
  ⟨fun K => a129 K, "_law_three_right", "_law_three_right", s_law_three_right⟩,
  ⟨fun K => a125 K, "_law_told", "_law_told", s_law_told⟩,
  ⟨fun K => a127 K, "_law_strangers_right", "_law_strangers_right", s_law_strangers_right⟩,
  ⟨fun K => a130 K, "law", "law", s_law⟩,
  ⟨fun K => a121 K, "_law_folded", "_law_folded", s_law_folded⟩,
  ⟨fun K => a123 K, "_law_begun", "_law_begun", s_law_begun⟩] : List Da)
abbrev Rw : PySem.W.OpenRow := PySem.W.OpenLaw.row PySem.Challenge.rw_markrounds_k05_maps_together
abbrev hkX : PySem.W.Hook := hookT 5 fs ds ts
def obX (s : PySem.W.SharedT) : AlX := obsT 5 fs ds ts (HandSHeadRun.getT s)
theorem obX_eq (s : PySem.W.SharedT) : obX s = hkX.obs s.abs := obsT_eq (HandSHeadRun.getT_eq s)
def loose : List Str := (["_wall",
  "MarkroundsError",
  "OtherRow",
  "InvalidMap",
  "InvalidPlace",
  "GREATEST_LAST",
  "is_integer",
  "is_within",
  "check_same_row",
  "RowMap",
  "_wrong_value",
  "with_images",
  "value_at",
  "_check_map",
  "_check_pair",
  "_is_below",
  "_law_mixed",
  "_law_folded",
  "_law_draw",
  "_law_begun",
  "_law_table",
  "_law_told",
  "_law_pair_right",
  "_law_strangers_right",
  "_law_bent",
  "_law_three_right"] : List Str)
theorem run1 (w : World) (os : OsState) : (HandSHeadRun.endF (HandSHeadRun.stepQ (HandSHeadRun.denQ HandSHeadRun.tabQ) Rw.prog w) 30000 Rw.prog w os).map (fun s => (HandSHeadRun.looksF Rw.prog (PySem.W.boot_heap w.params) s.abs, HandSHeadRun.seenQ (PySem.W.view Rw.prog [30]) loose (importedModules Rw.prog.main.body) (fun s => PySem.W.xlAt (PySem.W.view Rw.prog [30]) [] s && PySem.W.recOk Rw.toRowW.records s) s.abs)) = some (true, PySem.W.openGood (PySem.W.view Rw.prog [30]) loose) := by
  kernel_rfl
theorem run2a (w : World) (os : OsState) : (HandSHeadRun.endF (HandSHeadRun.stepQ (HandSHeadRun.denQ HandSHeadRun.tabQ) Rw.prog w) 30000 Rw.prog w os).map (fun s => ((fs (KY s)).take 44).all id) = some true := by
  kernel_rfl
theorem run3a (w : World) (os : OsState) : (HandSHeadRun.endF (HandSHeadRun.stepQ (HandSHeadRun.denQ HandSHeadRun.tabQ) Rw.prog w) 30000 Rw.prog w os).map (fun s => ((ds.take 16).all fun d => d.ok (KY s), (ds.take 16).map fun d => fnA (KY s) (d.at_ (KY s)))) = some (true, (ds.take 16).map Da.val) := by
  kernel_rfl
theorem run2b (w : World) (os : OsState) : (HandSHeadRun.endF (HandSHeadRun.stepQ (HandSHeadRun.denQ HandSHeadRun.tabQ) Rw.prog w) 30000 Rw.prog w os).map (fun s => ((fs (KY s)).drop 44).all id) = some true := by
  kernel_rfl
theorem run3b (w : World) (os : OsState) : (HandSHeadRun.endF (HandSHeadRun.stepQ (HandSHeadRun.denQ HandSHeadRun.tabQ) Rw.prog w) 30000 Rw.prog w os).map (fun s => ((ds.drop 16).all fun d => d.ok (KY s), (ds.drop 16).map fun d => fnA (KY s) (d.at_ (KY s)))) = some (true, (ds.drop 16).map Da.val) := by
  kernel_rfl
theorem run4 (w : World) (os : OsState) : (HandSHeadRun.endF (HandSHeadRun.stepQ (HandSHeadRun.denQ HandSHeadRun.tabQ) Rw.prog w) 30000 Rw.prog w os).map (fun s => tabsB ts (KY s) (HandSHeadRun.getT s)) = some true := by
  kernel_rfl
theorem run (w : World) : HandSHeadRun.RunEq Rw (PySem.W.view Rw.prog [30]) hkX obX 30000 loose w := run_partsT (run1 w) (fun os => run_fs 44 (run2a w os) (run2b w os)) (fun os => run_ds 16 (run3a w os) (run3b w os)) (fun os => run4 w os)
end G
end M_Gk05E20
section M_Gk05
namespace G
open PySem PySem.Spec PyProof.Rows L2 RL
def Cc (K : PySem.W.Frag) (ads : Nat → Addr) : Pl := ⟨K, fun c => some (ads c), fun c => match c with | 20 => ["_images"] | 4 => ["value"] | _ => [], fun _ => none, tbK ts K⟩
structure TX (K : PySem.W.Frag) (mg : Str → Option Value) (base : Heap) (ads : Nat → Addr) : Prop where
  z_range : mg "range" = none
  is_RowMap_RowMap : PySem.W.kitOne K (.ref (ads 20)) (.ref (ads 20)) = some true
  cl_RowMap : Cls K (ads 20)
  kc_RowMap : PySem.W.findIn K (.ref (ads 20)) "__class__" = some (some (.builtin "object.__class__"))
  kg : PySem.W.specialIn K (.builtin "object.__class__") "__get__" = some (some (.builtin "getset_descriptor.__get__"))
  kt : PySem.W.takesIn K (.builtin "object.__class__") = some true
  mr_RowMap : PySem.W.mroIn K (ads 20) (.type "object") = some true
  ec_OtherRow : ExcC K (ads 4)
  kx_OtherRow_OtherRow : PySem.W.kitOne K (.ref (ads 4)) (.ref (ads 4)) = some true
  kn_OtherRow : PySem.W.kitOne K (.type "NoneType") (.ref (ads 4)) = some false
  g_RowMap : mg "RowMap" = some (.ref (ads 20))
  z_isinstance : mg "isinstance" = none
  Fcheck_map : ∃ fd, Fun K "_check_map" "_check_map" s_check_map (ads 116) fd
  g__check_map : mg "_check_map" = some (.ref (ads 116))
  no_RowMap__images : NoAttr K (ads 20) "_images"
  z_len : mg "len" = none
  FRowMap_last : ∃ fd, Fun K "last" "RowMap.last" s_RowMap_last (ads 11205) fd
  prRowMap_last : ∃ p, PropOf K (ads 20) "last" p (ads 11205)
  FOtherRow_init : ∃ fd, Fun K "__init__" "OtherRow.__init__" s_OtherRow_init (ads 10300) fd
  ox_OtherRow : oxB K (ads 4) = true
  xn_OtherRow : PySem.W.findIn K (.ref (ads 4)) "value" = some none
  xi_OtherRow : PySem.W.findIn K (.ref (ads 4)) "__init__" = some (some (.ref (ads 10300)))
  xt_OtherRow : PySem.W.typeIn K (.ref (ads 10300)) = some (.type "function")
  g_OtherRow : mg "OtherRow" = some (.ref (ads 4))
  Fcheck_same_row : ∃ fd, Fun K "check_same_row" "check_same_row" s_check_same_row (ads 110) fd
  g_check_same_row : mg "check_same_row" = some (.ref (ads 110))
  Fcheck_pair_maps : ∃ fd, Fun K "_check_pair" "_check_pair" s_check_pair_maps (ads 117) fd
  g__check_pair : mg "_check_pair" = some (.ref (ads 117))
  ct_GREATEST_LAST : CtT K mg "GREATEST_LAST" (.int 20)
  z_type : mg "type" = none
  z_int : mg "int" = none
  FRowMap_init : ∃ fd, Fun K "__init__" "RowMap.__init__" s_RowMap_init (ads 11200) fd
  mk_RowMap : Mk K (ads 20) (ads 11200)
  Fwith_images : ∃ fd, Fun K "with_images" "with_images" s_with_images (ads 114) fd
  z_tuple : mg "tuple" = none
  g_with_images : mg "with_images" = some (.ref (ads 114))
  FRowMap_add : ∃ fd, Fun K "__add__" "RowMap.__add__" s_RowMap_add (ads 11220) fd
  atRowMap_add : PySem.W.findIn K (.ref (ads 20)) "__add__" = some (some (.ref (ads 11220)))
  fnRowMap_add : PySem.W.isFn K (.ref (ads 11220)) = true
  fiRowMap_add : PySem.W.fnIn K (ads 11220) = true
  sf_RowMap : PySem.W.selfFirst K (ads 20) = true
  ns_RowMap : PySem.W.noSeq K (ads 20) = true
  rn_RowMap_add : PySem.W.findIn K (.ref (ads 20)) "__radd__" = some none
  Flaw_mixed : ∃ fd, Fun K "_law_mixed" "_law_mixed" s_law_mixed (ads 120) fd
  g__law_mixed : mg "_law_mixed" = some (.ref (ads 120))
  Flaw_draw : ∃ fd, Fun K "_law_draw" "_law_draw" s_law_draw (ads 122) fd
  g__law_draw : mg "_law_draw" = some (.ref (ads 122))
  z_min : mg "min" = none
  z_max : mg "max" = none
  Flaw_table : ∃ fd, Fun K "_law_table" "_law_table" s_law_table (ads 124) fd
  g__law_table : mg "_law_table" = some (.ref (ads 124))
  z_enumerate : mg "enumerate" = none
  Fvalue_at : ∃ fd, Fun K "value_at" "value_at" s_value_at (ads 115) fd
  g_value_at : mg "value_at" = some (.ref (ads 115))
  FRowMap_getitem : ∃ fd, Fun K "__getitem__" "RowMap.__getitem__" s_RowMap_getitem (ads 11213) fd
  atRowMap_getitem : PySem.W.findIn K (.ref (ads 20)) "__getitem__" = some (some (.ref (ads 11213)))
  fnRowMap_getitem : PySem.W.isFn K (.ref (ads 11213)) = true
  fiRowMap_getitem : PySem.W.fnIn K (ads 11213) = true
  FRowMap_images : ∃ fd, Fun K "images" "RowMap.images" s_RowMap_images (ads 11206) fd
  prRowMap_images : ∃ p, PropOf K (ads 20) "images" p (ads 11206)
  z_zip : mg "zip" = none
  z_all : mg "all" = none
  Fis_below : ∃ fd, Fun K "_is_below" "_is_below" s_is_below (ads 118) fd
  g__is_below : mg "_is_below" = some (.ref (ads 118))
  FRowMap_gt : ∃ fd, Fun K "__gt__" "RowMap.__gt__" s_RowMap_gt (ads 11226) fd
  atRowMap_gt : PySem.W.findIn K (.ref (ads 20)) "__gt__" = some (some (.ref (ads 11226)))
  fnRowMap_gt : PySem.W.isFn K (.ref (ads 11226)) = true
  fiRowMap_gt : PySem.W.fnIn K (ads 11226) = true
  z_list : mg "list" = none
  FRowMap_len : ∃ fd, Fun K "__len__" "RowMap.__len__" s_RowMap_len (ads 11216) fd
  atRowMap_len : PySem.W.findIn K (.ref (ads 20)) "__len__" = some (some (.ref (ads 11216)))
  fnRowMap_len : PySem.W.isFn K (.ref (ads 11216)) = true
  fiRowMap_len : PySem.W.fnIn K (ads 11216) = true
  FRowMap_lt : ∃ fd, Fun K "__lt__" "RowMap.__lt__" s_RowMap_lt (ads 11224) fd
  atRowMap_lt : PySem.W.findIn K (.ref (ads 20)) "__lt__" = some (some (.ref (ads 11224)))
  fnRowMap_lt : PySem.W.isFn K (.ref (ads 11224)) = true
  fiRowMap_lt : PySem.W.fnIn K (ads 11224) = true
  FRowMap_eq : ∃ fd, Fun K "__eq__" "RowMap.__eq__" s_RowMap_eq (ads 11218) fd
  atRowMap_eq : PySem.W.findIn K (.ref (ads 20)) "__eq__" = some (some (.ref (ads 11218)))
  fnRowMap_eq : PySem.W.isFn K (.ref (ads 11218)) = true
  fiRowMap_eq : PySem.W.fnIn K (ads 11218) = true
  ne_RowMap : PySem.W.findIn K (.ref (ads 20)) "__ne__" = some (some (.builtin "object.__ne__"))
  Flaw_bent : ∃ fd, Fun K "_law_bent" "_law_bent" s_law_bent (ads 128) fd
  g__law_bent : mg "_law_bent" = some (.ref (ads 128))
  FRowMap_of : ∃ fd, Fun K "of" "RowMap.of" s_RowMap_of (ads 11201) fd
  cmRowMap_of : ∃ mc p, ClX.CRead K (ads 20) mc ∧ ClX.CMet K (ads 20) mc "of" p (ads 11201)
  FRowMap_or : ∃ fd, Fun K "__or__" "RowMap.__or__" s_RowMap_or (ads 11222) fd
  atRowMap_or : PySem.W.findIn K (.ref (ads 20)) "__or__" = some (some (.ref (ads 11222)))
  fnRowMap_or : PySem.W.isFn K (.ref (ads 11222)) = true
  fiRowMap_or : PySem.W.fnIn K (ads 11222) = true
  FRowMap_and : ∃ fd, Fun K "__and__" "RowMap.__and__" s_RowMap_and (ads 11221) fd
  atRowMap_and : PySem.W.findIn K (.ref (ads 20)) "__and__" = some (some (.ref (ads 11221)))
  fnRowMap_and : PySem.W.isFn K (.ref (ads 11221)) = true
  fiRowMap_and : PySem.W.fnIn K (ads 11221) = true
  z_repr : mg "repr" = none
  FRowMap_ge : ∃ fd, Fun K "__ge__" "RowMap.__ge__" s_RowMap_ge (ads 11225) fd
  atRowMap_ge : PySem.W.findIn K (.ref (ads 20)) "__ge__" = some (some (.ref (ads 11225)))
  fnRowMap_ge : PySem.W.isFn K (.ref (ads 11225)) = true
  fiRowMap_ge : PySem.W.fnIn K (ads 11225) = true
  FRowMap_le : ∃ fd, Fun K "__le__" "RowMap.__le__" s_RowMap_le (ads 11223) fd
  atRowMap_le : PySem.W.findIn K (.ref (ads 20)) "__le__" = some (some (.ref (ads 11223)))
  fnRowMap_le : PySem.W.isFn K (.ref (ads 11223)) = true
  fiRowMap_le : PySem.W.fnIn K (ads 11223) = true
  Flaw_pair_right : ∃ fd, Fun K "_law_pair_right" "_law_pair_right" s_law_pair_right (ads 126) fd
  g__law_pair_right : mg "_law_pair_right" = some (.ref (ads 126))
  Flaw_three_right : ∃ fd, Fun K "_law_three_right" "_law_three_right" s_law_three_right (ads 129) fd
  g__law_three_right : mg "_law_three_right" = some (.ref (ads 129))
  eb_MarkroundsError : PySem.W.subIn K (.ref (ads 1)) (.type "BaseException") = some true
  eh_MarkroundsError : PySem.W.hasDictIn K (ads 1) = true
  et_MarkroundsError : PySem.W.typeIn K (.ref (ads 1)) = some (.type "type")
  es_OtherRow_MarkroundsError : PySem.W.subIn K (.ref (ads 4)) (.ref (ads 1)) = some true
  g_MarkroundsError : mg "MarkroundsError" = some (.ref (ads 1))
  Flaw_told : ∃ fd, Fun K "_law_told" "_law_told" s_law_told (ads 125) fd
  g__law_strangers_right : mg "_law_strangers_right" = some (.ref (ads 127))
  lam_law_strangers_right : LamT K mg base (Cc K ads) (ads 127) ("_law_strangers_right" ++ ".<locals>." ++ "<lambda>")
  g__law_told : mg "_law_told" = some (.ref (ads 125))
  Flaw_strangers_right : ∃ fd, Fun K "_law_strangers_right" "_law_strangers_right" s_law_strangers_right (ads 127) fd
  Flaw : ∃ fd, Fun K "law" "law" s_law (ads 130) fd
  Flaw_folded : ∃ fd, Fun K "_law_folded" "_law_folded" s_law_folded (ads 121) fd
  g__law_folded : mg "_law_folded" = some (.ref (ads 121))
  Flaw_begun : ∃ fd, Fun K "_law_begun" "_law_begun" s_law_begun (ads 123) fd
  g__law_begun : mg "_law_begun" = some (.ref (ads 123))
  g_law : mg "law" = some (.ref (ads 130))
section
variable {P : Program} {w : World} {K : PySem.W.Frag} {mg : Str → Option Value} {base : Heap} {ads : Nat → Addr}
def gk : Nat → Option String := fun _ => none
theorem T_gk {X : Cx} {C : Pl} : GkT X C gk := ⟨fun c n e => by cases e⟩
theorem kp_of {x qual : Str} {st : Stmt} {f : Addr} (F : ∃ fd, Fun K x qual st f fd) : PySem.W.keepIn K (.ref f) = true := F.elim fun _ h => h.kp
def ib : PT → Nat → Option Bool := fun p c => match p, c with | .own 20, 20 => some true | .exo 4, 4 => some true | .bi "NoneType", 4 => some false | _, _ => none
theorem Tib {X : Cx} (T : TX X.K X.mg X.base ads) : IsiT X (Cc X.K ads) ib := ⟨fun p c b e => by
  unfold ib at e
  split at e
  · cases e; exact ⟨_, rfl, _, rfl, T.is_RowMap_RowMap, T.cl_RowMap, T.kc_RowMap, T.kg, T.kt, T.mr_RowMap⟩
  · cases e; exact ⟨_, rfl, _, rfl, T.kx_OtherRow_OtherRow, T.ec_OtherRow⟩
  · cases e; exact ⟨_, rfl, T.kn_OtherRow⟩
  · cases e⟩
/-! _check_map -/
theorem sc_check_map : FnScope ["value"] ["value"] (defScope s_check_map) := ⟨rfl, rfl, rfl, by decide +kernel, rfl, by decide +kernel, by decide +kernel⟩
def m_check_map : SM := (sIf (bNot (bTru (eCall (fIsi ib) (aCons (eVar 0) (aCons (eC (.gl 20)) aNil))))) sNo sNx)
def f_check_map : PFn := fnP (.pl []) 1 1 m_check_map
theorem ok_check_map (T : TX K mg base ads) : FnG P w K mg base 1 (ads 116) (spX (Cc K ads) f_check_map) := by
  obtain ⟨fd, F⟩ := T.Fcheck_map
  refine def_fn (N := ["value"]) (ps := ["value"]) F sc_check_map (bd_pl (F.binds (ps := ["value"]) fun _ _ _ _ _ _ us hl => match us, hl with | [_], _ => rfl) .nil) (fun _ => rfl) fun cdv A outer s H E F0 hr => ?_
  exact (rss_one (rs_if (rt_not (rt_val rfl (re_blt (blt_isi rfl (Tib T)) (by rfl) T.z_isinstance (by rfl) (ra_cons (re_var 0) (ra_cons (re_gl (by rfl) T.g_RowMap rfl) ra_nil))))) rss_no rss_nil))
def ta__images : Nat → Option AK := fun c => match c with | 20 => some (.fld 0) | _ => none
theorem Tta__images {X : Cx} (T : TX X.K X.mg X.base ads) : AttrT X (Cc X.K ads) 0 "_images" ta__images := by
  refine ⟨fun c fn e => ?_, fun c i e => ?_, fun c v e => ?_⟩ <;> unfold ta__images at e <;> split at e
  · cases e
  · cases e
  · cases e; exact ⟨_, rfl, T.cl_RowMap, T.no_RowMap__images, rfl, (show (["_images"] : List Str).Nodup by decide)⟩
  · cases e
  · cases e
  · cases e

/-! RowMap.last -/
theorem sc_RowMap_last : FnScope ["self"] ["self"] (defScope s_RowMap_last) := ⟨rfl, rfl, rfl, by decide +kernel, rfl, by decide +kernel, by decide +kernel⟩
def m_RowMap_last : SM := (sRet (eBin (oSub OT0) (eCall (fLen OT0) (aCons (eUn (oAttr ta__images) (eVar 0)) aNil)) (eC (.int 1))))
def f_RowMap_last : PFn := fnP (.pl []) 1 1 m_RowMap_last
theorem ok_RowMap_last (T : TX K mg base ads) : FnG P w K mg base 2 (ads 11205) (spX (Cc K ads) f_RowMap_last) := by
  obtain ⟨fd, F⟩ := T.FRowMap_last
  refine def_fn (N := ["self"]) (ps := ["self"]) F sc_RowMap_last (bd_pl (F.binds (ps := ["self"]) fun _ _ _ _ _ _ us hl => match us, hl with | [_], _ => rfl) .nil) (fun _ => rfl) fun cdv A outer s H E F0 hr => ?_
  exact (rss_one (rs_ret (re_op (op2_sub (hr.mono (by decide) : RmG 0 _) (takes_of rfl rfl rfl rfl) ownT_none) (re_blt (blt_len rfl (hr.mono (by decide) : RmG 1 _) (takes_of rfl rfl rfl rfl) ownT_none) (by rfl) T.z_len (by rfl) (ra_cons (re_attr (hr.mono (by decide) : RmG 1 _) (takes_of rfl rfl rfl rfl) (Tta__images T) (re_var 0) (by rfl)) ra_nil)) re_int)))
def ta_last : Nat → Option AK := fun c => match c with | 20 => some (.prop f_RowMap_last) | _ => none
theorem Tta_last {X : Cx} (T : TX X.K X.mg X.base ads) : AttrT X (Cc X.K ads) 2 "last" ta_last := by
  refine ⟨fun c fn e => ?_, fun c i e => ?_, fun c v e => ?_⟩ <;> unfold ta_last at e <;> split at e
  · cases e; obtain ⟨p, hp⟩ := T.prRowMap_last; exact ⟨_, p, _, rfl, T.cl_RowMap, hp, (ok_RowMap_last T).mono (by decide)⟩
  · cases e
  · cases e
  · cases e
  · cases e
  · cases e

theorem sc_OtherRow_init : FnScope ["self", "value"] ["self", "value"] (defScope s_OtherRow_init) := ⟨rfl, rfl, rfl, by decide +kernel, rfl, by decide +kernel, by decide +kernel⟩
theorem ex1_OtherRow (T : TX K mg base ads) : Ex1 P w K mg base (ads 4) "value" := by
  obtain ⟨fd, F⟩ := T.FOtherRow_init
  exact ex1_of (oxB_ok T.ox_OtherRow) T.xn_OtherRow T.xi_OtherRow T.xt_OtherRow F sc_OtherRow_init (F.binds (ps := ["self", "value"]) fun _ _ _ _ _ _ us hl => match us, hl with | [_, _], _ => rfl) (by rfl) (by rfl) (by rfl)
/-! check_same_row -/
theorem sc_check_same_row : FnScope ["one", "other"] ["one", "other"] (defScope s_check_same_row) := ⟨rfl, rfl, rfl, by decide +kernel, rfl, by decide +kernel, by decide +kernel⟩
def m_check_same_row : SM := (sIf (bBool (eBin (oEqD true) (eUn (oAttr ta_last) (eVar 0)) (eUn (oAttr ta_last) (eVar 1)))) (sRaise 4 (eVar 1)) sNx)
def f_check_same_row : PFn := fnP (.pl []) 2 2 m_check_same_row
theorem ok_check_same_row (T : TX K mg base ads) : FnG P w K mg base 4 (ads 110) (spX (Cc K ads) f_check_same_row) := by
  obtain ⟨fd, F⟩ := T.Fcheck_same_row
  refine def_fn (N := ["one", "other"]) (ps := ["one", "other"]) F sc_check_same_row (bd_pl (F.binds (ps := ["one", "other"]) fun _ _ _ _ _ _ us hl => match us, hl with | [_, _], _ => rfl) .nil) (fun _ => rfl) fun cdv A outer s H E F0 hr => ?_
  exact (rss_one (rs_if (rt_cmp (op2_ne rfl (hr.mono (by decide) : RmG 0 _)) (re_attr (hr.mono (by decide) : RmG 3 _) (takes_of rfl rfl rfl rfl) (Tta_last T) (re_var 0) (by rfl)) (re_attr (hr.mono (by decide) : RmG 3 _) (takes_of rfl rfl rfl rfl) (Tta_last T) (re_var 1) (by rfl)) (nomark _)) (rss_one (rs_raise1 (c := 4) rfl (takes_of rfl rfl rfl rfl) (hr.mono (by decide) : RmG 2 _) rfl rfl (ex1_OtherRow T) (by rfl) T.g_OtherRow (re_var 1))) rss_nil))
/-! _check_pair -/
theorem sc_check_pair_maps : FnScope ["one", "other"] ["one", "other"] (defScope s_check_pair_maps) := ⟨rfl, rfl, rfl, by decide +kernel, rfl, by decide +kernel, by decide +kernel⟩
def m_check_pair_maps : SM := (sSeq (sDo (eCall f_check_map (aCons (eVar 1) aNil)))
    (sDo (eCall f_check_same_row (aCons (eVar 0) (aCons (eVar 1) aNil)))))
def f_check_pair_maps : PFn := fnP (.pl []) 2 2 m_check_pair_maps
theorem ok_check_pair_maps (T : TX K mg base ads) : FnG P w K mg base 5 (ads 117) (spX (Cc K ads) f_check_pair_maps) := by
  obtain ⟨fd, F⟩ := T.Fcheck_pair_maps
  refine def_fn (N := ["one", "other"]) (ps := ["one", "other"]) F sc_check_pair_maps (bd_pl (F.binds (ps := ["one", "other"]) fun _ _ _ _ _ _ us hl => match us, hl with | [_, _], _ => rfl) .nil) (fun _ => rfl) fun cdv A outer s H E F0 hr => ?_
  exact (rss_cons (rs_do (re_g1 (runC_def (ok_check_map T) (hr.mono (by decide) : RmG 1 _) (takes_of rfl rfl rfl rfl)) (by rfl) T.g__check_map (kp_of T.Fcheck_map) (ra_cons (re_var 1) ra_nil)))
    (rss_one (rs_do (re_g1 (runC_def (ok_check_same_row T) (hr.mono (by decide) : RmG 4 _) (takes_of rfl rfl rfl rfl)) (by rfl) T.g_check_same_row (kp_of T.Fcheck_same_row) (ra_cons (re_var 0) (ra_cons (re_var 1) ra_nil))))))
/-! RowMap.__init__ -/
theorem sc_RowMap_init : FnScope ["self", "values", "many", "before", "value"] ["self", "values"] (defScope s_RowMap_init) := ⟨rfl, rfl, rfl, by decide +kernel, rfl, by decide +kernel, by decide +kernel⟩
def m_RowMap_init : SM := (sSeq (sSet 2 (eCall (fLen OT0) (aCons (eVar 1) aNil)))
    (sSeq (sIf (bOr (bBool (eBin (oLt OT0) (eVar 2) (eC (.int 2)))) (bBool (eBin (oGt OT0) (eVar 2) (eBin (oAdd OT0) (eC (.int 20)) (eC (.int 1)))))) sNo sNx)
    (sSeq (sSet 3 (eC (.int 0)))
    (sSeq (sFor (iSeq (eVar 1)) (.n 4) (sSeq (sIf (bOr (bBool (eBin (oIs2 true) (eCall (fType gk) (aCons (eVar 4) aNil)) (eC (.ty "int")))) (bOr (bBool (eBin (oLt OT0) (eVar 4) (eVar 3))) (bBool (eBin (oGe OT0) (eVar 4) (eVar 2))))) sNo sNx)
    (sSet 3 (eVar 4))))
    (sFld 0 20 0 (eVar 1))))))
def f_RowMap_init : PFn := fnI (.st 1) 20 1 2 5 m_RowMap_init
theorem bindS_RowMap_init {f : Addr} {fd : FuncData} (F : Fun K "__init__" "RowMap.__init__" s_RowMap_init f fd) : ∀ us rest : List Value, us.length = [("self" : Str)].length → bindArgs fd ⟨us ++ rest, []⟩ = (newTuple rest >>= fun t => pure ([("self" : Str)].zip us ++ [(("values" : Str), t)])) := by
  obtain ⟨oc, od, kV, doc, pm, an, cdv, ct, osl, rfl, lk, hcd⟩ := F.ex
  intro us rest hl
  match us, hl with
  | [a], _ => cases rest with
    | nil => rfl
    | cons r rs => rfl
theorem ok_RowMap_init (T : TX K mg base ads) : FnG P w K mg base 2 (ads 11200) (spU (Cc K ads) 20 f_RowMap_init) := by
  obtain ⟨fd, F⟩ := T.FRowMap_init
  refine def_iniU (N := ["self", "values", "many", "before", "value"]) (ps := ["self", "values"]) F sc_RowMap_init (bd_st (ps := ["self"]) (pv := "values") (bindS_RowMap_init F)) rfl fun cdv A outer s H E F0 x0 hr => ?_
  exact (rss_cons (rs_set 2 sc_RowMap_init.nd (by rfl) (by first | exact Or.inl rfl | exact Or.inr rfl) (re_blt (blt_len rfl (hr.mono (by decide) : RmG 1 _) (takes_of rfl rfl rfl rfl) ownT_none) (by rfl) T.z_len (by rfl) (ra_cons (re_var 1) ra_nil)))
    (rss_cons (rs_if (rt_w (rw_or (rt_cmp (op2_lt (hr.mono (by decide) : RmG 0 _) (takes_of rfl rfl rfl rfl) ownT_none) (re_var 2) re_int (nomark _)) (rw_or1 (rt_cmp (op2_gt (hr.mono (by decide) : RmG 0 _) (takes_of rfl rfl rfl rfl) ownT_none) (re_var 2) (re_op (op2_add rfl (hr.mono (by decide) : RmG 0 _) (takes_of rfl rfl rfl rfl) ownT_none twoT_none twoR_none) (re_ct rfl (by rfl) T.ct_GREATEST_LAST) re_int) (nomark _))))) rss_no rss_nil)
    (rss_cons (rs_set 3 sc_RowMap_init.nd (by rfl) (by first | exact Or.inl rfl | exact Or.inr rfl) re_int)
    (rss_cons (rs_for (passes_of rfl) rfl (ri_seq rfl (re_var 1)) (rg_name 4 sc_RowMap_init.nd (by rfl) (by first | exact Or.inl rfl | exact Or.inr rfl)) (rss_cons (rs_if (rt_w (rw_or (rt_cmp op2_isNot2 (re_tyc (blt_type rfl T_gk) (by rfl) T.z_type (by rfl) (ra_cons (re_var 4) ra_nil)) (re_ty (by rfl) T.z_int (by rfl)) (nomark _)) (rw_or (rt_cmp (op2_lt (hr.mono (by decide) : RmG 0 _) (takes_of rfl rfl rfl rfl) ownT_none) (re_var 4) (re_var 3) (nomark _)) (rw_or1 (rt_cmp (op2_ge (hr.mono (by decide) : RmG 0 _) (takes_of rfl rfl rfl rfl) ownT_none) (re_var 4) (re_var 2) (nomark _)))))) rss_no rss_nil)
    (rss_one (rs_set 3 sc_RowMap_init.nd (by rfl) (by first | exact Or.inl rfl | exact Or.inr rfl) (re_var 4)))))
    (rss_one (rs_fld 0 (c := 20) (n := 0) (by rfl) (by first | exact Or.inl rfl | exact Or.inr (Or.inl rfl) | exact Or.inr (Or.inr rfl)) ⟨⟨_, rfl, T.cl_RowMap, T.no_RowMap__images⟩, (show (["_images"] : List Str).Nodup by decide), rfl, (show (["_images"] : List Str).length < 1000 by decide)⟩ (re_var 1)))))))
theorem fz_20 (T : TX K mg base ads) : FzT (Cc K ads) 20 false := fun A e => by cases e; exact ⟨fun _ => rfl, fun z => (nomatch z)⟩
/-! with_images -/
theorem sc_with_images : FnScope ["images", "f"] ["images"] (defScope s_with_images) := ⟨rfl, rfl, rfl, by decide +kernel, rfl, by decide +kernel, by decide +kernel⟩
def m_with_images : SM := (sWith 1 20 0 false f_RowMap_init (aCons (eC (.int 0)) (aCons (eC (.int 0)) aNil)) (eVar 0))
def f_with_images : PFn := fnP (.pl []) 1 2 m_with_images
theorem ok_with_images (T : TX K mg base ads) : FnG P w K mg base 4 (ads 114) (spX (Cc K ads) f_with_images) := by
  obtain ⟨fd, F⟩ := T.Fwith_images
  refine def_fn (N := ["images", "f"]) (ps := ["images"]) F sc_with_images (bd_pl (F.binds (ps := ["images"]) fun _ _ _ _ _ _ us hl => match us, hl with | [_], _ => rfl) .nil) (fun _ => rfl) fun cdv A outer s H E F0 hr => ?_
  exact (rss_with 1 (c := 20) (n := 0) (kp := false) T.mk_RowMap ⟨⟨_, rfl, T.cl_RowMap⟩, (show (["_images"] : List Str).Nodup by decide), (show (["_images"] : List Str).length < 1000 by decide)⟩ (fz_20 T) rfl (ok_RowMap_init T) (fun _ _ => fnI_ok) (hr.mono (by decide) : RmG 3 _) (takes_of rfl rfl rfl rfl) (by rfl) T.g_RowMap T.mk_RowMap.kp rfl T.no_RowMap__images (ra_cons re_int (ra_cons re_int ra_nil)) (re_var 0) sc_with_images.nd (by rfl) (by first | exact Or.inl rfl | exact Or.inr rfl) (by first | exact Or.inl rfl | exact Or.inr (Or.inl rfl) | exact Or.inr (Or.inr rfl)) (by rfl) (by rfl) (by first | exact Or.inr rfl | exact Or.inl rfl))
/-! RowMap.__add__ -/
theorem sc_RowMap_add : FnScope ["self", "other", "images", "value"] ["self", "other"] (defScope s_RowMap_add) := ⟨rfl, rfl, rfl, by decide +kernel, rfl, by decide +kernel, by decide +kernel⟩
def m_RowMap_add : SM := (sSeq (sDo (eCall f_check_pair_maps (aCons (eVar 0) (aCons (eVar 1) aNil))))
    (sSeq (sSet 2 (eUn (oAttr ta__images) (eVar 1)))
    (sRet (eCall f_with_images (aCons (eCall fTuple (aCons (eL (aLc (iSeq (eUn (oAttr ta__images) (eVar 0))) [3] (.n 3) bYes (eBin (oIx OT0) (eVar 2) (eVar 3)))) aNil)) aNil)))))
def f_RowMap_add : PFn := fnP (.pl []) 2 4 m_RowMap_add
theorem ok_RowMap_add (T : TX K mg base ads) : FnG P w K mg base 6 (ads 11220) (spX (Cc K ads) f_RowMap_add) := by
  obtain ⟨fd, F⟩ := T.FRowMap_add
  refine def_fn (N := ["self", "other", "images", "value"]) (ps := ["self", "other"]) F sc_RowMap_add (bd_pl (F.binds (ps := ["self", "other"]) fun _ _ _ _ _ _ us hl => match us, hl with | [_, _], _ => rfl) .nil) (fun _ => rfl) fun cdv A outer s H E F0 hr => ?_
  exact (rss_cons (rs_do (re_g1 (runC_def (ok_check_pair_maps T) (hr.mono (by decide) : RmG 5 _) (takes_of rfl rfl rfl rfl)) (by rfl) T.g__check_pair (kp_of T.Fcheck_pair_maps) (ra_cons (re_var 0) (ra_cons (re_var 1) ra_nil))))
    (rss_cons (rs_set 2 sc_RowMap_add.nd (by rfl) (by first | exact Or.inl rfl | exact Or.inr rfl) (re_attr (hr.mono (by decide) : RmG 1 _) (takes_of rfl rfl rfl rfl) (Tta__images T) (re_var 1) (by rfl)))
    (rss_one (rs_ret (re_g1 (runC_def (ok_with_images T) (hr.mono (by decide) : RmG 4 _) (takes_of rfl rfl rfl rfl)) (by rfl) T.g_with_images (kp_of T.Fwith_images) (ra_cons (re_tyc (blt_tuple rfl) (by rfl) T.z_tuple (by rfl) (ra_cons (re_fr (rf_lc rfl sc_RowMap_add.nd (ri_seq rfl (re_attr (hr.mono (by decide) : RmG 1 _) (takes_of rfl rfl rfl rfl) (Tta__images T) (re_var 0) (by rfl))) (own := [("value", 3)]) (blk_of (by kernel_rfl)) (by decide) (fun _ _ _ _ _ => (rg_name 3 sc_RowMap_add.nd (by rfl) (by first | exact Or.inl rfl | exact Or.inr rfl))) (fun _ _ _ _ _ => rts_nil) (fun _ _ _ _ _ => (re_ix rfl (hr.mono (by decide) : RmG 1 _) (takes0) ownT_none (re_var 2) (re_var 3) (fun _ _ => rfl))))) ra_nil)) ra_nil))))))
def tadd : OT := fun c => match c with | 20 => some f_RowMap_add | _ => none
theorem Otadd {X : Cx} (T : TX X.K X.mg X.base ads) : OwnT X (Cc X.K ads) 6 "__add__" tadd := ⟨fun c fn e => by
  unfold tadd at e
  split at e
  · cases e; exact ⟨_, _, rfl, T.atRowMap_add, T.fnRowMap_add, T.fiRowMap_add, T.sf_RowMap, T.ns_RowMap, T.cl_RowMap, (ok_RowMap_add T).mono (by decide)⟩
  · cases e⟩
theorem Wtadd {X : Cx} (T : TX X.K X.mg X.base ads) : TwoT X (Cc X.K ads) tadd := ⟨fun c c2 fn fn2 e e2 ne => by
  unfold tadd at e e2
  split at e
  · split at e2
    · exact absurd rfl ne
    · cases e2
  · cases e⟩
theorem Vtadd {X : Cx} (T : TX X.K X.mg X.base ads) : TwoR X (Cc X.K ads) (Operator.info .Add).2 tadd := ⟨fun c fn e => by
  unfold tadd at e
  split at e
  · exact ⟨_, rfl, T.rn_RowMap_add⟩
  · cases e⟩
/-! _law_mixed -/
theorem sc_law_mixed : FnScope ["_law_cell", "_law_n", "_law_turned"] ["_law_cell", "_law_n"] (defScope s_law_mixed) := ⟨rfl, rfl, rfl, by decide +kernel, rfl, by decide +kernel, by decide +kernel⟩
def m_law_mixed : SM := (sSeq (sSet 2 (eBin (oAdd OT0) (eBin (oAdd OT0) (eBin oMod (eBin oMul (eBin oMul (eVar 0) (eBin (oAdd OT0) (eC (.int 1)) (eBin oMul (eC (.int 2)) (eVar 1)))) (eC (.int 48271))) (eC (.int 2147483647))) (eBin oMul (eBin oMul (eC (.int 7919)) (eVar 1)) (eVar 1))) (eBin oMul (eC (.int 104729)) (eVar 1))))
    (sRet (eBin oDiv (eBin oMod (eBin oMul (eVar 2) (eC (.int 69621))) (eC (.int 2147483629))) (eC (.int 7)))))
def f_law_mixed : PFn := fnP (.pl []) 2 3 m_law_mixed
theorem ok_law_mixed (T : TX K mg base ads) : FnG P w K mg base 1 (ads 120) (spX (Cc K ads) f_law_mixed) := by
  obtain ⟨fd, F⟩ := T.Flaw_mixed
  refine def_fn (N := ["_law_cell", "_law_n", "_law_turned"]) (ps := ["_law_cell", "_law_n"]) F sc_law_mixed (bd_pl (F.binds (ps := ["_law_cell", "_law_n"]) fun _ _ _ _ _ _ us hl => match us, hl with | [_, _], _ => rfl) .nil) (fun _ => rfl) fun cdv A outer s H E F0 hr => ?_
  exact (rss_cons (rs_set 2 sc_law_mixed.nd (by rfl) (by first | exact Or.inl rfl | exact Or.inr rfl) (re_op (op2_add rfl (hr.mono (by decide) : RmG 0 _) (takes_of rfl rfl rfl rfl) ownT_none twoT_none twoR_none) (re_op (op2_add rfl (hr.mono (by decide) : RmG 0 _) (takes_of rfl rfl rfl rfl) ownT_none twoT_none twoR_none) (re_op op2_mod (re_op (op2_mul rfl) (re_op (op2_mul rfl) (re_var 0) (re_op (op2_add rfl (hr.mono (by decide) : RmG 0 _) (takes_of rfl rfl rfl rfl) ownT_none twoT_none twoR_none) re_int (re_op (op2_mul rfl) re_int (re_var 1)))) re_int) re_int) (re_op (op2_mul rfl) (re_op (op2_mul rfl) re_int (re_var 1)) (re_var 1))) (re_op (op2_mul rfl) re_int (re_var 1))))
    (rss_one (rs_ret (re_op op2_div (re_op op2_mod (re_op (op2_mul rfl) (re_var 2) re_int) re_int) re_int))))
/-! _law_draw -/
theorem sc_law_draw : FnScope ["_law_m", "_law_top", "_law_n", "_law_at", "_law_cell"] ["_law_m", "_law_top"] (defScope s_law_draw) := ⟨rfl, rfl, rfl, by decide +kernel, rfl, by decide +kernel, by decide +kernel⟩
def m_law_draw : SM := (sSeq (sSet 2 (eSpot 0))
    (sSeq (sSpot 0 (eBin (oAdd OT0) (eVar 2) (eC (.int 1))))
    (sSeq (sIf (bGr 0) (sSeq (sSet 3 (eBin oMod (eVar 2) (eGrLen 0)))
    (sSeq (sSet 4 (eGrIx 0 (eVar 3)))
    (sIf (bBool (eBin (oGt OT0) (eVar 4) (eC (.int 0)))) (sSeq (sGr 0 (eVar 3) (eBin oDiv (eVar 4) (eVar 1)))
    (sRet (eBin oMod (eVar 4) (eVar 1)))) sNx))) sNx)
    (sRet (eBin oMod (eCall f_law_mixed (aCons (eCall f_law_mixed (aCons (eBin (oAdd OT0) (eCellIx 0 (eBin oMod (eVar 2) (eC (.int 64)))) (eBin oMul (eC (.int 31)) (eBin oDiv (eVar 2) (eC (.int 64))))) (aCons (eVar 2) aNil))) (aCons (eBin (oAdd OT0) (eVar 2) (eC (.int 7))) aNil))) (eVar 1))))))
def f_law_draw : MFn := runM 2 5 m_law_draw
theorem ok_law_draw (T : TX K mg base ads) : FnG P w K mg base 2 (ads 122) (spM (Cc K ads) f_law_draw) := by
  obtain ⟨fd, F⟩ := T.Flaw_draw
  refine def_fnM (N := ["_law_m", "_law_top", "_law_n", "_law_at", "_law_cell"]) (ps := ["_law_m", "_law_top"]) F sc_law_draw (bd_pl (F.binds (ps := ["_law_m", "_law_top"]) fun _ _ _ _ _ _ us hl => match us, hl with | [_, _], _ => rfl) .nil) fun cdv A outer s H E F0 p0 cl0 hr => ?_
  exact (rss_cons (rs_set 2 sc_law_draw.nd (by rfl) (by first | exact Or.inl rfl | exact Or.inr rfl) (re_spot 0 (hu_of (hr.mono (by decide) : RmG 0 _).r) (by rfl) (by first | exact Or.inl rfl | exact Or.inr (Or.inl rfl) | exact Or.inr (Or.inr rfl))))
    (rss_cons (rs_spot 0 (hu_of (hr.mono (by decide) : RmG 0 _).r) (by rfl) (by first | exact Or.inl rfl | exact Or.inr (Or.inl rfl) | exact Or.inr (Or.inr rfl)) (re_op (op2_add rfl (hr.mono (by decide) : RmG 0 _) (takes_of rfl rfl rfl rfl) ownT_none twoT_none twoR_none) (re_var 2) re_int))
    (rss_cons (rs_if (rt_gr 0 (hr.mono (by decide) : RmG 0 _).r.units (by rfl) (by first | exact Or.inl rfl | exact Or.inr (Or.inl rfl) | exact Or.inr (Or.inr rfl))) (rss_cons (rs_set 3 sc_law_draw.nd (by rfl) (by first | exact Or.inl rfl | exact Or.inr rfl) (re_op op2_mod (re_var 2) (re_grLen 0 (hu_of (hr.mono (by decide) : RmG 0 _).r) (by rfl) (by first | exact Or.inl rfl | exact Or.inr (Or.inl rfl) | exact Or.inr (Or.inr rfl)) (by rfl) T.z_len)))
    (rss_cons (rs_set 4 sc_law_draw.nd (by rfl) (by first | exact Or.inl rfl | exact Or.inr rfl) (re_grIx 0 (hu_of (hr.mono (by decide) : RmG 0 _).r) (by rfl) (by first | exact Or.inl rfl | exact Or.inr (Or.inl rfl) | exact Or.inr (Or.inr rfl)) (re_var 3) (fun _ _ => rfl)))
    (rss_one (rs_if (rt_cmp (op2_gt (hr.mono (by decide) : RmG 0 _) (takes_of rfl rfl rfl rfl) ownT_none) (re_var 4) re_int (nomark _)) (rss_cons (rs_gr 0 (hu_of (hr.mono (by decide) : RmG 0 _).r) (by rfl) (by first | exact Or.inl rfl | exact Or.inr (Or.inl rfl) | exact Or.inr (Or.inr rfl)) (re_var 3) (re_op op2_div (re_var 4) (re_var 1)))
    (rss_one (rs_ret (re_op op2_mod (re_var 4) (re_var 1))))) rss_nil)))) rss_nil)
    (rss_one (rs_ret (re_op op2_mod (re_g1 (runC_def (ok_law_mixed T) (hr.mono (by decide) : RmG 1 _) (takes_of rfl rfl rfl rfl)) (by rfl) T.g__law_mixed (kp_of T.Flaw_mixed) (ra_cons (re_g1 (runC_def (ok_law_mixed T) (hr.mono (by decide) : RmG 1 _) (takes_of rfl rfl rfl rfl)) (by rfl) T.g__law_mixed (kp_of T.Flaw_mixed) (ra_cons (re_op (op2_add rfl (hr.mono (by decide) : RmG 0 _) (takes_of rfl rfl rfl rfl) ownT_none twoT_none twoR_none) (re_cellIx 0 rfl (hu_of (hr.mono (by decide) : RmG 0 _).r) (by rfl) (by first | exact Or.inl rfl | exact Or.inr (Or.inl rfl) | exact Or.inr (Or.inr rfl)) (re_op op2_mod (re_var 2) re_int) (fun _ _ => rfl)) (re_op (op2_mul rfl) re_int (re_op op2_div (re_var 2) re_int))) (ra_cons (re_var 2) ra_nil))) (ra_cons (re_op (op2_add rfl (hr.mono (by decide) : RmG 0 _) (takes_of rfl rfl rfl rfl) ownT_none twoT_none twoR_none) (re_var 2) re_int) ra_nil))) (re_var 1)))))))
/-! _law_table -/
theorem sc_law_table : FnScope ["_law_m", "_law_top", "_law_way", "_law_found", "_law_at", "_law_by", "_law_steps", "_law_marks_so", "_law_n", "_law_mark", "_law_step"] ["_law_m", "_law_top"] (defScope s_law_table) := ⟨rfl, rfl, rfl, by decide +kernel, rfl, by decide +kernel, by decide +kernel⟩
def m_law_table : SM := (sSeq (sPar [2, 3, 4] [.v (eCallM 0 f_law_draw (aCons (eC (.int 5)) aNil)), .f (aLim aNil), .v (eC (.int 0))])
    (sSeq (sIf (bBool (eBin (oEq OT0) (eVar 2) (eC (.int 0)))) (sRet (eL (aMulF (aLim (aCons (eCallM 0 f_law_draw (aCons (eBin (oAdd OT0) (eVar 1) (eC (.int 1))) aNil)) aNil)) (eBin (oAdd OT0) (eVar 1) (eC (.int 1)))))) sNx)
    (sSeq (sIf (bBool (eBin (oEq OT0) (eVar 2) (eC (.int 1)))) (sSeq (sSet 5 (eBin (oSub OT0) (eCallM 0 f_law_draw (aCons (eBin (oAdd OT0) (eBin oMul (eC (.int 2)) (eVar 1)) (eC (.int 1))) aNil)) (eVar 1)))
    (sRet (eL (aLc (iRange1 (aCons (eBin (oAdd OT0) (eVar 1) (eC (.int 1))) aNil)) [8] (.n 8) bYes (eCall fMax (aCons (eC (.int 0)) (aCons (eCall fMin (aCons (eVar 1) (aCons (eCall fInt (aCons (eBin (oAdd OT0) (eVar 8) (eVar 5)) aNil)) aNil))) aNil))))))) sNx)
    (sSeq (sSet 6 (eL (aLc (iRange1 (aCons (eBin (oAdd OT0) (eVar 1) (eC (.int 1))) aNil)) [8] (.n 8) bYes (eCallM 0 f_law_draw (aCons (eBin (oAdd OT0) (eVar 1) (eC (.int 1))) aNil)))))
    (sSeq (sIf (bBool (eBin (oEq OT0) (eVar 2) (eC (.int 2)))) (sSeq (sSetL 7 (aLc (iRange1 (aCons (eBin (oAdd OT0) (eVar 1) (eC (.int 1))) aNil)) [8] (.n 8) (bOr (bBool (eBin (oLt OT0) (eBin oMul (eBin (oIx OT0) (eVar 6) (eVar 8)) (eC (.int 3))) (eVar 1))) (bBool (eBin (oEq OT0) (eVar 8) (eVar 1)))) (eVar 8)))
    (sSeq (sFor (iRange1 (aCons (eBin (oAdd OT0) (eVar 1) (eC (.int 1))) aNil)) (.n 8) (sApp 3 (eBin (oIx OT0) (eL (aLc (iSeq (eVar 7)) [9] (.n 9) (bBool (eBin (oGe OT0) (eVar 9) (eVar 8))) (eVar 9))) (eC (.int 0)))))
    (sFrz 3 (sRet (eVar 3))))) sNx)
    (sSeq (sIf (bBool (eBin (oEq OT0) (eVar 2) (eC (.int 4)))) (sSet 6 (eL (aLc (iSeq (eVar 6)) [10] (.n 10) bYes (eIf (bBool (eBin (oLt OT0) (eBin oMul (eVar 10) (eC (.int 2))) (eVar 1))) (eVar 10) (eBin (oIx OT0) (eVar 6) (eC (.int 0))))))) sNx)
    (sFrz 3 (sSeq (sFor (iRange1 (aCons (eBin (oAdd OT0) (eVar 1) (eC (.int 1))) aNil)) (.n 8) (sSet 3 (eBin (oAdd OT0) (eVar 3) (eL (aMulF (aLim (aCons (eVar 8) aNil)) (eCnt (eVar 6) (eVar 8)))))))
    (sRet (eVar 3))))))))))
def f_law_table : MFn := runM 2 11 m_law_table
theorem ok_law_table (T : TX K mg base ads) : FnG P w K mg base 3 (ads 124) (spM (Cc K ads) f_law_table) := by
  obtain ⟨fd, F⟩ := T.Flaw_table
  refine def_fnM (N := ["_law_m", "_law_top", "_law_way", "_law_found", "_law_at", "_law_by", "_law_steps", "_law_marks_so", "_law_n", "_law_mark", "_law_step"]) (ps := ["_law_m", "_law_top"]) F sc_law_table (bd_pl (F.binds (ps := ["_law_m", "_law_top"]) fun _ _ _ _ _ _ us hl => match us, hl with | [_, _], _ => rfl) .nil) fun cdv A outer s H E F0 p0 cl0 hr => ?_
  exact (rss_cons (rs_par3 (i := 2) (j := 3) (l := 4) rfl sc_law_table.nd (by rfl) (by rfl) (by rfl) (by decide) (by decide) (by decide) (by rfl) (by rfl) (by rfl) (rm_v (re_callM 0 (ok_law_draw T) (hr.mono (by decide) : RmG 2 _) (takes_of rfl rfl rfl rfl) (by rfl) T.g__law_draw (kp_of T.Flaw_draw) (by rfl) (by first | exact Or.inl rfl | exact Or.inr (Or.inl rfl) | exact Or.inr (Or.inr rfl)) (ra_cons re_int ra_nil)) (rm_f (rf_lst ra_nil) (rm_v re_int rm_nil))) (by rfl))
    (rss_cons (rs_if (rt_cmp (op2_eq rfl (hr.mono (by decide) : RmG 0 _) (takes_of rfl rfl rfl rfl) ownT_none twoT_none) (re_var 2) re_int (nomark _)) (rss_one (rs_ret (re_fr (rf_mulF (rf_lst (ra_cons (re_callM 0 (ok_law_draw T) (hr.mono (by decide) : RmG 2 _) (takes_of rfl rfl rfl rfl) (by rfl) T.g__law_draw (kp_of T.Flaw_draw) (by rfl) (by first | exact Or.inl rfl | exact Or.inr (Or.inl rfl) | exact Or.inr (Or.inr rfl)) (ra_cons (re_op (op2_add rfl (hr.mono (by decide) : RmG 0 _) (takes_of rfl rfl rfl rfl) ownT_none twoT_none twoR_none) (re_var 1) re_int) ra_nil)) ra_nil)) (re_op (op2_add rfl (hr.mono (by decide) : RmG 0 _) (takes_of rfl rfl rfl rfl) ownT_none twoT_none twoR_none) (re_var 1) re_int))))) rss_nil)
    (rss_cons (rs_if (rt_cmp (op2_eq rfl (hr.mono (by decide) : RmG 0 _) (takes_of rfl rfl rfl rfl) ownT_none twoT_none) (re_var 2) re_int (nomark _)) (rss_cons (rs_set 5 sc_law_table.nd (by rfl) (by first | exact Or.inl rfl | exact Or.inr rfl) (re_op (op2_sub (hr.mono (by decide) : RmG 0 _) (takes_of rfl rfl rfl rfl) ownT_none) (re_callM 0 (ok_law_draw T) (hr.mono (by decide) : RmG 2 _) (takes_of rfl rfl rfl rfl) (by rfl) T.g__law_draw (kp_of T.Flaw_draw) (by rfl) (by first | exact Or.inl rfl | exact Or.inr (Or.inl rfl) | exact Or.inr (Or.inr rfl)) (ra_cons (re_op (op2_add rfl (hr.mono (by decide) : RmG 0 _) (takes_of rfl rfl rfl rfl) ownT_none twoT_none twoR_none) (re_op (op2_mul rfl) re_int (re_var 1)) re_int) ra_nil)) (re_var 1)))
    (rss_one (rs_ret (re_fr (rf_lc rfl sc_law_table.nd (ri_range1 (by rfl) T.z_range (ra_cons (re_op (op2_add rfl (hr.mono (by decide) : RmG 0 _) (takes_of rfl rfl rfl rfl) ownT_none twoT_none twoR_none) (re_var 1) re_int) ra_nil)) (own := [("_law_n", 8)]) (blk_of (by kernel_rfl)) (by decide) (fun _ _ _ _ _ => (rg_name 8 sc_law_table.nd (by rfl) (by first | exact Or.inl rfl | exact Or.inr rfl))) (fun _ _ _ _ _ => rts_nil) (fun _ _ _ _ _ => (re_blt (blt_max rfl) (by rfl) T.z_max (by rfl) (ra_cons re_int (ra_cons (re_blt (blt_min rfl) (by rfl) T.z_min (by rfl) (ra_cons (re_var 1) (ra_cons (re_tyc blt_int (by rfl) T.z_int (by rfl) (ra_cons (re_op (op2_add rfl (hr.mono (by decide) : RmG 0 _) (takes0) ownT_none twoT_none twoR_none) (re_var 8) (re_var 5)) ra_nil)) ra_nil))) ra_nil))))))))) rss_nil)
    (rss_cons (rs_set 6 sc_law_table.nd (by rfl) (by first | exact Or.inl rfl | exact Or.inr rfl) (re_fr (rf_lc rfl sc_law_table.nd (ri_range1 (by rfl) T.z_range (ra_cons (re_op (op2_add rfl (hr.mono (by decide) : RmG 0 _) (takes_of rfl rfl rfl rfl) ownT_none twoT_none twoR_none) (re_var 1) re_int) ra_nil)) (own := [("_law_n", 8)]) (blk_of (by kernel_rfl)) (by decide) (fun _ _ _ _ _ => (rg_name 8 sc_law_table.nd (by rfl) (by first | exact Or.inl rfl | exact Or.inr rfl))) (fun _ _ _ _ _ => rts_nil) (fun _ _ _ _ _ => (re_callM 0 (ok_law_draw T) (hr.mono (by decide) : RmG 2 _) (takes0) (by rfl) T.g__law_draw (kp_of T.Flaw_draw) (by rfl) (by first | exact Or.inl rfl | exact Or.inr (Or.inl rfl) | exact Or.inr (Or.inr rfl)) (ra_cons (re_op (op2_add rfl (hr.mono (by decide) : RmG 0 _) (takes0) ownT_none twoT_none twoR_none) (re_var 1) re_int) ra_nil))))))
    (rss_cons (rs_if (rt_cmp (op2_eq rfl (hr.mono (by decide) : RmG 0 _) (takes_of rfl rfl rfl rfl) ownT_none twoT_none) (re_var 2) re_int (nomark _)) (rss_cons (rs_lc_set 7 rfl sc_law_table.nd (by rfl) (by rfl) (by rfl) (ri_range1 (by rfl) T.z_range (ra_cons (re_op (op2_add rfl (hr.mono (by decide) : RmG 0 _) (takes_of rfl rfl rfl rfl) ownT_none twoT_none twoR_none) (re_var 1) re_int) ra_nil)) (own := [("_law_n", 8)]) (blk_of (by kernel_rfl)) (by decide) (fun _ _ _ _ _ => (rg_name 8 sc_law_table.nd (by rfl) (by first | exact Or.inl rfl | exact Or.inr rfl))) (fun _ _ _ _ _ => (rts_one (rt_w (rw_or (rt_cmp (op2_lt (hr.mono (by decide) : RmG 0 _) (takes0) ownT_none) (re_op (op2_mul rfl) (re_ix rfl (hr.mono (by decide) : RmG 1 _) (takes0) ownT_none (re_var 6) (re_var 8) (fun _ _ => rfl)) re_int) (re_var 1) (nomark _)) (rw_or1 (rt_cmp (op2_eq rfl (hr.mono (by decide) : RmG 0 _) (takes0) ownT_none twoT_none) (re_var 8) (re_var 1) (nomark _))))))) (fun _ _ _ _ _ => (re_var 8)))
    (rss_cons (rs_for (passes_of rfl) rfl (ri_range1 (by rfl) T.z_range (ra_cons (re_op (op2_add rfl (hr.mono (by decide) : RmG 0 _) (takes_of rfl rfl rfl rfl) ownT_none twoT_none twoR_none) (re_var 1) re_int) ra_nil)) (rg_name 8 sc_law_table.nd (by rfl) (by first | exact Or.inl rfl | exact Or.inr rfl)) (rss_one (rs_app 3 (by rfl) (by first | exact Or.inl rfl | exact Or.inr (Or.inl rfl) | exact Or.inr (Or.inr rfl)) (re_ix rfl (hr.mono (by decide) : RmG 1 _) (takes_of rfl rfl rfl rfl) ownT_none (re_fr (rf_lc rfl sc_law_table.nd (ri_seq rfl (re_var 7)) (own := [("_law_mark", 9)]) (blk_of (by kernel_rfl)) (by decide) (fun _ _ _ _ _ => (rg_name 9 sc_law_table.nd (by rfl) (by first | exact Or.inl rfl | exact Or.inr rfl))) (fun _ _ _ _ _ => (rts_one (rt_cmp (op2_ge (hr.mono (by decide) : RmG 0 _) (takes0) ownT_none) (re_var 9) (re_var 8) (nomark _)))) (fun _ _ _ _ _ => (re_var 9)))) re_int (fun _ _ => rfl)))))
    (rss_frz 3 rfl (rss_one (rs_ret (re_var 3)))))) rss_nil)
    (rss_cons (rs_if (rt_cmp (op2_eq rfl (hr.mono (by decide) : RmG 0 _) (takes_of rfl rfl rfl rfl) ownT_none twoT_none) (re_var 2) re_int (nomark _)) (rss_one (rs_set 6 sc_law_table.nd (by rfl) (by first | exact Or.inl rfl | exact Or.inr rfl) (re_fr (rf_lc rfl sc_law_table.nd (ri_seq rfl (re_var 6)) (own := [("_law_step", 10)]) (blk_of (by kernel_rfl)) (by decide) (fun _ _ _ _ _ => (rg_name 10 sc_law_table.nd (by rfl) (by first | exact Or.inl rfl | exact Or.inr rfl))) (fun _ _ _ _ _ => rts_nil) (fun _ _ _ _ _ => (re_if (rt_cmp (op2_lt (hr.mono (by decide) : RmG 0 _) (takes0) ownT_none) (re_op (op2_mul rfl) (re_var 10) re_int) (re_var 1) (nomark _)) (re_var 10) (re_ix rfl (hr.mono (by decide) : RmG 1 _) (takes0) ownT_none (re_var 6) re_int (fun _ _ => rfl)))))))) rss_nil)
    (rss_frz 3 rfl (rss_cons (rs_for (passes_of rfl) rfl (ri_range1 (by rfl) T.z_range (ra_cons (re_op (op2_add rfl (hr.mono (by decide) : RmG 0 _) (takes_of rfl rfl rfl rfl) ownT_none twoT_none twoR_none) (re_var 1) re_int) ra_nil)) (rg_name 8 sc_law_table.nd (by rfl) (by first | exact Or.inl rfl | exact Or.inr rfl)) (rss_one (rs_set 3 sc_law_table.nd (by rfl) (by first | exact Or.inl rfl | exact Or.inr rfl) (re_op (op2_add rfl (hr.mono (by decide) : RmG 0 _) (takes_of rfl rfl rfl rfl) ownT_none twoT_none twoR_none) (re_var 3) (re_fr (rf_mulF (rf_lst (ra_cons (re_var 8) ra_nil)) (re_cnt rfl (re_var 6) (re_var 8))))))))
    (rss_one (rs_ret (re_var 3)))))))))))
/-! value_at -/
theorem sc_value_at : FnScope ["images", "place"] ["images", "place"] (defScope s_value_at) := ⟨rfl, rfl, rfl, by decide +kernel, rfl, by decide +kernel, by decide +kernel⟩
def m_value_at : SM := (sSeq (sIf (bAnd (bBool (eBin (oIs2 false) (eCall (fType gk) (aCons (eVar 1) aNil)) (eC (.ty "int")))) (bBool (eChain (oLe OT0) (oLt OT0) (eC (.int 0)) (eVar 1) (eCall (fLen OT0) (aCons (eVar 0) aNil))))) (sRet (eBin (oIx OT0) (eVar 0) (eVar 1))) sNx)
    sNo)
def f_value_at : PFn := fnP (.pl []) 2 2 m_value_at
theorem ok_value_at (T : TX K mg base ads) : FnG P w K mg base 2 (ads 115) (spX (Cc K ads) f_value_at) := by
  obtain ⟨fd, F⟩ := T.Fvalue_at
  refine def_fn (N := ["images", "place"]) (ps := ["images", "place"]) F sc_value_at (bd_pl (F.binds (ps := ["images", "place"]) fun _ _ _ _ _ _ us hl => match us, hl with | [_, _], _ => rfl) .nil) (fun _ => rfl) fun cdv A outer s H E F0 hr => ?_
  exact (rss_cons (rs_if (rt_w (rw_and (rt_cmp op2_is2 (re_tyc (blt_type rfl T_gk) (by rfl) T.z_type (by rfl) (ra_cons (re_var 1) ra_nil)) (re_ty (by rfl) T.z_int (by rfl)) (nomark _)) (rw_and1 (rt_chain (op2_le (hr.mono (by decide) : RmG 0 _) (takes_of rfl rfl rfl rfl) ownT_none) (op2_lt (hr.mono (by decide) : RmG 0 _) (takes_of rfl rfl rfl rfl) ownT_none) re_int (re_var 1) (re_blt (blt_len rfl (hr.mono (by decide) : RmG 1 _) (takes_of rfl rfl rfl rfl) ownT_none) (by rfl) T.z_len (by rfl) (ra_cons (re_var 0) ra_nil)))))) (rss_one (rs_ret (re_ix rfl (hr.mono (by decide) : RmG 1 _) (takes_of rfl rfl rfl rfl) ownT_none (re_var 0) (re_var 1) (fun _ _ => rfl)))) rss_nil)
    rss_no)
/-! RowMap.__getitem__ -/
theorem sc_RowMap_getitem : FnScope ["self", "place"] ["self", "place"] (defScope s_RowMap_getitem) := ⟨rfl, rfl, rfl, by decide +kernel, rfl, by decide +kernel, by decide +kernel⟩
def m_RowMap_getitem : SM := (sRet (eCall f_value_at (aCons (eUn (oAttr ta__images) (eVar 0)) (aCons (eVar 1) aNil))))
def f_RowMap_getitem : PFn := fnP (.pl []) 2 2 m_RowMap_getitem
theorem ok_RowMap_getitem (T : TX K mg base ads) : FnG P w K mg base 3 (ads 11213) (spX (Cc K ads) f_RowMap_getitem) := by
  obtain ⟨fd, F⟩ := T.FRowMap_getitem
  refine def_fn (N := ["self", "place"]) (ps := ["self", "place"]) F sc_RowMap_getitem (bd_pl (F.binds (ps := ["self", "place"]) fun _ _ _ _ _ _ us hl => match us, hl with | [_, _], _ => rfl) .nil) (fun _ => rfl) fun cdv A outer s H E F0 hr => ?_
  exact (rss_one (rs_ret (re_g1 (runC_def (ok_value_at T) (hr.mono (by decide) : RmG 2 _) (takes_of rfl rfl rfl rfl)) (by rfl) T.g_value_at (kp_of T.Fvalue_at) (ra_cons (re_attr (hr.mono (by decide) : RmG 1 _) (takes_of rfl rfl rfl rfl) (Tta__images T) (re_var 0) (by rfl)) (ra_cons (re_var 1) ra_nil)))))
def tgetitem : OT := fun c => match c with | 20 => some f_RowMap_getitem | _ => none
theorem Otgetitem {X : Cx} (T : TX X.K X.mg X.base ads) : OwnT X (Cc X.K ads) 3 "__getitem__" tgetitem := ⟨fun c fn e => by
  unfold tgetitem at e
  split at e
  · cases e; exact ⟨_, _, rfl, T.atRowMap_getitem, T.fnRowMap_getitem, T.fiRowMap_getitem, T.sf_RowMap, T.ns_RowMap, T.cl_RowMap, (ok_RowMap_getitem T).mono (by decide)⟩
  · cases e⟩
/-! RowMap.images -/
theorem sc_RowMap_images : FnScope ["self"] ["self"] (defScope s_RowMap_images) := ⟨rfl, rfl, rfl, by decide +kernel, rfl, by decide +kernel, by decide +kernel⟩
def m_RowMap_images : SM := (sRet (eUn (oAttr ta__images) (eVar 0)))
def f_RowMap_images : PFn := fnP (.pl []) 1 1 m_RowMap_images
theorem ok_RowMap_images (T : TX K mg base ads) : FnG P w K mg base 2 (ads 11206) (spX (Cc K ads) f_RowMap_images) := by
  obtain ⟨fd, F⟩ := T.FRowMap_images
  refine def_fn (N := ["self"]) (ps := ["self"]) F sc_RowMap_images (bd_pl (F.binds (ps := ["self"]) fun _ _ _ _ _ _ us hl => match us, hl with | [_], _ => rfl) .nil) (fun _ => rfl) fun cdv A outer s H E F0 hr => ?_
  exact (rss_one (rs_ret (re_attr (hr.mono (by decide) : RmG 1 _) (takes_of rfl rfl rfl rfl) (Tta__images T) (re_var 0) (by rfl))))
def ta_images : Nat → Option AK := fun c => match c with | 20 => some (.prop f_RowMap_images) | _ => none
theorem Tta_images {X : Cx} (T : TX X.K X.mg X.base ads) : AttrT X (Cc X.K ads) 2 "images" ta_images := by
  refine ⟨fun c fn e => ?_, fun c i e => ?_, fun c v e => ?_⟩ <;> unfold ta_images at e <;> split at e
  · cases e; obtain ⟨p, hp⟩ := T.prRowMap_images; exact ⟨_, p, _, rfl, T.cl_RowMap, hp, (ok_RowMap_images T).mono (by decide)⟩
  · cases e
  · cases e
  · cases e
  · cases e
  · cases e

/-! _is_below -/
theorem sc_is_below : FnScope ["low", "high", "x", "y"] ["low", "high"] (defScope s_is_below) := ⟨rfl, rfl, rfl, by decide +kernel, rfl, by decide +kernel, by decide +kernel⟩
def m_is_below : SM := (sSeq (sDo (eCall f_check_same_row (aCons (eVar 0) (aCons (eVar 1) aNil))))
    (sRet (eCall fAll (aCons (eL (aLc (iZip' (aCons (eUn (oAttr ta_images) (eVar 0)) (aCons (eUn (oAttr ta_images) (eVar 1)) aNil))) [2, 3] (.t [(.n 2), (.n 3)]) bYes (eBin (oLe OT0) (eVar 2) (eVar 3)))) aNil))))
def f_is_below : PFn := fnP (.pl []) 2 4 m_is_below
theorem ok_is_below (T : TX K mg base ads) : FnG P w K mg base 5 (ads 118) (spX (Cc K ads) f_is_below) := by
  obtain ⟨fd, F⟩ := T.Fis_below
  refine def_fn (N := ["low", "high", "x", "y"]) (ps := ["low", "high"]) F sc_is_below (bd_pl (F.binds (ps := ["low", "high"]) fun _ _ _ _ _ _ us hl => match us, hl with | [_, _], _ => rfl) .nil) (fun _ => rfl) fun cdv A outer s H E F0 hr => ?_
  exact (rss_cons (rs_do (re_g1 (runC_def (ok_check_same_row T) (hr.mono (by decide) : RmG 4 _) (takes_of rfl rfl rfl rfl)) (by rfl) T.g_check_same_row (kp_of T.Fcheck_same_row) (ra_cons (re_var 0) (ra_cons (re_var 1) ra_nil))))
    (rss_one (rs_ret (re_blt (blt_all rfl rfl) (by rfl) T.z_all (by rfl) (ra_cons (re_fr (rf_lc rfl sc_is_below.nd (ri_zip rfl (by rfl) T.z_zip (ra_cons (re_attr (hr.mono (by decide) : RmG 3 _) (takes_of rfl rfl rfl rfl) (Tta_images T) (re_var 0) (by rfl)) (ra_cons (re_attr (hr.mono (by decide) : RmG 3 _) (takes_of rfl rfl rfl rfl) (Tta_images T) (re_var 1) (by rfl)) ra_nil))) (own := [("x", 2), ("y", 3)]) (blk_of (by kernel_rfl)) (by decide) (fun _ _ _ _ _ => (rg_tup rfl rfl (rgs_cons (rg_name 2 sc_is_below.nd (by rfl) (by first | exact Or.inl rfl | exact Or.inr rfl)) (rgs_cons (rg_name 3 sc_is_below.nd (by rfl) (by first | exact Or.inl rfl | exact Or.inr rfl)) rgs_nil)) rfl)) (fun _ _ _ _ _ => rts_nil) (fun _ _ _ _ _ => (re_cmp (op2_le (hr.mono (by decide) : RmG 0 _) (takes0) ownT_none) (re_var 2) (re_var 3) (nomark _))))) ra_nil)))))
/-! RowMap.__gt__ -/
theorem sc_RowMap_gt : FnScope ["self", "other"] ["self", "other"] (defScope s_RowMap_gt) := ⟨rfl, rfl, rfl, by decide +kernel, rfl, by decide +kernel, by decide +kernel⟩
def m_RowMap_gt : SM := (sSeq (sDo (eCall f_check_map (aCons (eVar 1) aNil)))
    (sRet (eAnd (eCall f_is_below (aCons (eVar 1) (aCons (eVar 0) aNil))) (eBin (oEqD true) (eUn (oAttr ta__images) (eVar 0)) (eUn (oAttr ta__images) (eVar 1))))))
def f_RowMap_gt : PFn := fnP (.pl []) 2 2 m_RowMap_gt
theorem ok_RowMap_gt (T : TX K mg base ads) : FnG P w K mg base 6 (ads 11226) (spX (Cc K ads) f_RowMap_gt) := by
  obtain ⟨fd, F⟩ := T.FRowMap_gt
  refine def_fn (N := ["self", "other"]) (ps := ["self", "other"]) F sc_RowMap_gt (bd_pl (F.binds (ps := ["self", "other"]) fun _ _ _ _ _ _ us hl => match us, hl with | [_, _], _ => rfl) .nil) (fun _ => rfl) fun cdv A outer s H E F0 hr => ?_
  exact (rss_cons (rs_do (re_g1 (runC_def (ok_check_map T) (hr.mono (by decide) : RmG 1 _) (takes_of rfl rfl rfl rfl)) (by rfl) T.g__check_map (kp_of T.Fcheck_map) (ra_cons (re_var 1) ra_nil)))
    (rss_one (rs_ret (re_and (re_g1 (runC_def (ok_is_below T) (hr.mono (by decide) : RmG 5 _) (takes_of rfl rfl rfl rfl)) (by rfl) T.g__is_below (kp_of T.Fis_below) (ra_cons (re_var 1) (ra_cons (re_var 0) ra_nil))) (re_one (re_cmp (op2_ne rfl (hr.mono (by decide) : RmG 0 _)) (re_attr (hr.mono (by decide) : RmG 1 _) (takes_of rfl rfl rfl rfl) (Tta__images T) (re_var 0) (by rfl)) (re_attr (hr.mono (by decide) : RmG 1 _) (takes_of rfl rfl rfl rfl) (Tta__images T) (re_var 1) (by rfl)) (nomark _)))))))
def tgt : OT := fun c => match c with | 20 => some f_RowMap_gt | _ => none
theorem Otgt {X : Cx} (T : TX X.K X.mg X.base ads) : OwnT X (Cc X.K ads) 6 "__gt__" tgt := ⟨fun c fn e => by
  unfold tgt at e
  split at e
  · cases e; exact ⟨_, _, rfl, T.atRowMap_gt, T.fnRowMap_gt, T.fiRowMap_gt, T.sf_RowMap, T.ns_RowMap, T.cl_RowMap, (ok_RowMap_gt T).mono (by decide)⟩
  · cases e⟩
/-! RowMap.__len__ -/
theorem sc_RowMap_len : FnScope ["self"] ["self"] (defScope s_RowMap_len) := ⟨rfl, rfl, rfl, by decide +kernel, rfl, by decide +kernel, by decide +kernel⟩
def m_RowMap_len : SM := (sRet (eCall (fLen OT0) (aCons (eUn (oAttr ta__images) (eVar 0)) aNil)))
def f_RowMap_len : PFn := fnP (.pl []) 1 1 m_RowMap_len
theorem ok_RowMap_len (T : TX K mg base ads) : FnG P w K mg base 2 (ads 11216) (spX (Cc K ads) f_RowMap_len) := by
  obtain ⟨fd, F⟩ := T.FRowMap_len
  refine def_fn (N := ["self"]) (ps := ["self"]) F sc_RowMap_len (bd_pl (F.binds (ps := ["self"]) fun _ _ _ _ _ _ us hl => match us, hl with | [_], _ => rfl) .nil) (fun _ => rfl) fun cdv A outer s H E F0 hr => ?_
  exact (rss_one (rs_ret (re_blt (blt_len rfl (hr.mono (by decide) : RmG 1 _) (takes_of rfl rfl rfl rfl) ownT_none) (by rfl) T.z_len (by rfl) (ra_cons (re_attr (hr.mono (by decide) : RmG 1 _) (takes_of rfl rfl rfl rfl) (Tta__images T) (re_var 0) (by rfl)) ra_nil))))
def tlen : OT := fun c => match c with | 20 => some f_RowMap_len | _ => none
theorem Otlen {X : Cx} (T : TX X.K X.mg X.base ads) : OwnT X (Cc X.K ads) 2 "__len__" tlen := ⟨fun c fn e => by
  unfold tlen at e
  split at e
  · cases e; exact ⟨_, _, rfl, T.atRowMap_len, T.fnRowMap_len, T.fiRowMap_len, T.sf_RowMap, T.ns_RowMap, T.cl_RowMap, (ok_RowMap_len T).mono (by decide)⟩
  · cases e⟩
/-! RowMap.__lt__ -/
theorem sc_RowMap_lt : FnScope ["self", "other"] ["self", "other"] (defScope s_RowMap_lt) := ⟨rfl, rfl, rfl, by decide +kernel, rfl, by decide +kernel, by decide +kernel⟩
def m_RowMap_lt : SM := (sSeq (sDo (eCall f_check_map (aCons (eVar 1) aNil)))
    (sRet (eAnd (eCall f_is_below (aCons (eVar 0) (aCons (eVar 1) aNil))) (eBin (oEqD true) (eUn (oAttr ta__images) (eVar 0)) (eUn (oAttr ta__images) (eVar 1))))))
def f_RowMap_lt : PFn := fnP (.pl []) 2 2 m_RowMap_lt
theorem ok_RowMap_lt (T : TX K mg base ads) : FnG P w K mg base 6 (ads 11224) (spX (Cc K ads) f_RowMap_lt) := by
  obtain ⟨fd, F⟩ := T.FRowMap_lt
  refine def_fn (N := ["self", "other"]) (ps := ["self", "other"]) F sc_RowMap_lt (bd_pl (F.binds (ps := ["self", "other"]) fun _ _ _ _ _ _ us hl => match us, hl with | [_, _], _ => rfl) .nil) (fun _ => rfl) fun cdv A outer s H E F0 hr => ?_
  exact (rss_cons (rs_do (re_g1 (runC_def (ok_check_map T) (hr.mono (by decide) : RmG 1 _) (takes_of rfl rfl rfl rfl)) (by rfl) T.g__check_map (kp_of T.Fcheck_map) (ra_cons (re_var 1) ra_nil)))
    (rss_one (rs_ret (re_and (re_g1 (runC_def (ok_is_below T) (hr.mono (by decide) : RmG 5 _) (takes_of rfl rfl rfl rfl)) (by rfl) T.g__is_below (kp_of T.Fis_below) (ra_cons (re_var 0) (ra_cons (re_var 1) ra_nil))) (re_one (re_cmp (op2_ne rfl (hr.mono (by decide) : RmG 0 _)) (re_attr (hr.mono (by decide) : RmG 1 _) (takes_of rfl rfl rfl rfl) (Tta__images T) (re_var 0) (by rfl)) (re_attr (hr.mono (by decide) : RmG 1 _) (takes_of rfl rfl rfl rfl) (Tta__images T) (re_var 1) (by rfl)) (nomark _)))))))
def tlt : OT := fun c => match c with | 20 => some f_RowMap_lt | _ => none
theorem Otlt {X : Cx} (T : TX X.K X.mg X.base ads) : OwnT X (Cc X.K ads) 6 "__lt__" tlt := ⟨fun c fn e => by
  unfold tlt at e
  split at e
  · cases e; exact ⟨_, _, rfl, T.atRowMap_lt, T.fnRowMap_lt, T.fiRowMap_lt, T.sf_RowMap, T.ns_RowMap, T.cl_RowMap, (ok_RowMap_lt T).mono (by decide)⟩
  · cases e⟩
/-! RowMap.__eq__ -/
theorem sc_RowMap_eq : FnScope ["self", "other"] ["self", "other"] (defScope s_RowMap_eq) := ⟨rfl, rfl, rfl, by decide +kernel, rfl, by decide +kernel, by decide +kernel⟩
def m_RowMap_eq : SM := (sRet (eAnd (eCall (fIsi ib) (aCons (eVar 1) (aCons (eC (.gl 20)) aNil))) (eBin (oEq OT0) (eUn (oAttr ta__images) (eVar 0)) (eUn (oAttr ta__images) (eVar 1)))))
def f_RowMap_eq : PFn := fnP (.pl []) 2 2 m_RowMap_eq
theorem ok_RowMap_eq (T : TX K mg base ads) : FnG P w K mg base 2 (ads 11218) (spX (Cc K ads) f_RowMap_eq) := by
  obtain ⟨fd, F⟩ := T.FRowMap_eq
  refine def_fn (N := ["self", "other"]) (ps := ["self", "other"]) F sc_RowMap_eq (bd_pl (F.binds (ps := ["self", "other"]) fun _ _ _ _ _ _ us hl => match us, hl with | [_, _], _ => rfl) .nil) (fun _ => rfl) fun cdv A outer s H E F0 hr => ?_
  exact (rss_one (rs_ret (re_and (re_blt (blt_isi rfl (Tib T)) (by rfl) T.z_isinstance (by rfl) (ra_cons (re_var 1) (ra_cons (re_gl (by rfl) T.g_RowMap rfl) ra_nil))) (re_one (re_cmp (op2_eq rfl (hr.mono (by decide) : RmG 0 _) (takes_of rfl rfl rfl rfl) ownT_none twoT_none) (re_attr (hr.mono (by decide) : RmG 1 _) (takes_of rfl rfl rfl rfl) (Tta__images T) (re_var 0) (by rfl)) (re_attr (hr.mono (by decide) : RmG 1 _) (takes_of rfl rfl rfl rfl) (Tta__images T) (re_var 1) (by rfl)) (nomark _))))))
def teq : OT := fun c => match c with | 20 => some f_RowMap_eq | _ => none
theorem Oteq {X : Cx} (T : TX X.K X.mg X.base ads) : OwnT X (Cc X.K ads) 2 "__eq__" teq := ⟨fun c fn e => by
  unfold teq at e
  split at e
  · cases e; exact ⟨_, _, rfl, T.atRowMap_eq, T.fnRowMap_eq, T.fiRowMap_eq, T.sf_RowMap, T.ns_RowMap, T.cl_RowMap, (ok_RowMap_eq T).mono (by decide)⟩
  · cases e⟩
theorem Wteq {X : Cx} (T : TX X.K X.mg X.base ads) : TwoT X (Cc X.K ads) teq := ⟨fun c c2 fn fn2 e e2 ne => by
  unfold teq at e e2
  split at e
  · split at e2
    · exact absurd rfl ne
    · cases e2
  · cases e⟩
theorem Nteq {X : Cx} (T : TX X.K X.mg X.base ads) : OwnNe X (Cc X.K ads) teq := ⟨fun c fn e A ea => by
  cases ea
  unfold teq at e
  split at e
  · exact ⟨T.ne_RowMap, T.mr_RowMap⟩
  · cases e⟩
/-! _law_bent -/
theorem sc_law_bent : FnScope ["_law_m", "_law_table_here", "_law_spot", "_law_way", "_law_row", "_law_low", "_law_high"] ["_law_m", "_law_table_here"] (defScope s_law_bent) := ⟨rfl, rfl, rfl, by decide +kernel, rfl, by decide +kernel, by decide +kernel⟩
def m_law_bent : SM := (sSeq (sPar [2, 3] [.v (eCallM 0 f_law_draw (aCons (eCall (fLen tlen) (aCons (eVar 1) aNil)) aNil)), .v (eCallM 0 f_law_draw (aCons (eC (.int 2)) aNil))])
    (sSeq (sOwn 4 (aListOf (eVar 1)))
    (sSeq (sSet 5 (eIf (bBool (eBin (oGt tgt) (eVar 2) (eC (.int 0)))) (eOix 4 (eBin (oSub OT0) (eVar 2) (eC (.int 1)))) (eC (.int 0))))
    (sSeq (sSet 6 (eIf (bBool (eBin (oLt tlt) (eVar 2) (eBin (oSub OT0) (eOlen 4) (eC (.int 1))))) (eOix 4 (eBin (oAdd tadd) (eVar 2) (eC (.int 1)))) (eBin (oSub OT0) (eOlen 4) (eC (.int 1)))))
    (sSeq (sIf (bAnd (bBool (eBin (oEq teq) (eVar 3) (eC (.int 0)))) (bBool (eBin (oGt tgt) (eOix 4 (eVar 2)) (eVar 5)))) (sPut 4 (eVar 2) (eBin (oSub OT0) (eOix 4 (eVar 2)) (eC (.int 1)))) sNx)
    (sSeq (sIf (bAnd (bBool (eBin (oEq teq) (eVar 3) (eC (.int 1)))) (bBool (eBin (oLt tlt) (eOix 4 (eVar 2)) (eVar 6)))) (sPut 4 (eVar 2) (eBin (oAdd tadd) (eOix 4 (eVar 2)) (eC (.int 1)))) sNx)
    (sFrz 4 (sRet (eVar 4)))))))))
def f_law_bent : MFn := runM 2 7 m_law_bent
theorem ok_law_bent (T : TX K mg base ads) : FnG P w K mg base 7 (ads 128) (spM (Cc K ads) f_law_bent) := by
  obtain ⟨fd, F⟩ := T.Flaw_bent
  refine def_fnM (N := ["_law_m", "_law_table_here", "_law_spot", "_law_way", "_law_row", "_law_low", "_law_high"]) (ps := ["_law_m", "_law_table_here"]) F sc_law_bent (bd_pl (F.binds (ps := ["_law_m", "_law_table_here"]) fun _ _ _ _ _ _ us hl => match us, hl with | [_, _], _ => rfl) .nil) fun cdv A outer s H E F0 p0 cl0 hr => ?_
  exact (rss_cons (rs_par2 (i := 2) (j := 3) rfl sc_law_bent.nd (by rfl) (by rfl) (by decide) (by rfl) (by rfl) (rm_v (re_callM 0 (ok_law_draw T) (hr.mono (by decide) : RmG 2 _) (takes_of rfl rfl rfl rfl) (by rfl) T.g__law_draw (kp_of T.Flaw_draw) (by rfl) (by first | exact Or.inl rfl | exact Or.inr (Or.inl rfl) | exact Or.inr (Or.inr rfl)) (ra_cons (re_blt (blt_len rfl (hr.mono (by decide) : RmG 3 _) (takes_of rfl rfl rfl rfl) (Otlen T)) (by rfl) T.z_len (by rfl) (ra_cons (re_var 1) ra_nil)) ra_nil)) (rm_v (re_callM 0 (ok_law_draw T) (hr.mono (by decide) : RmG 2 _) (takes_of rfl rfl rfl rfl) (by rfl) T.g__law_draw (kp_of T.Flaw_draw) (by rfl) (by first | exact Or.inl rfl | exact Or.inr (Or.inl rfl) | exact Or.inr (Or.inr rfl)) (ra_cons re_int ra_nil)) rm_nil)) (by rfl))
    (rss_cons (rs_own 4 sc_law_bent.nd (by rfl) (by first | exact Or.inl rfl | exact Or.inr rfl) (rf_listOf rfl (by rfl) T.z_list (re_var 1)))
    (rss_cons (rs_set 5 sc_law_bent.nd (by rfl) (by first | exact Or.inl rfl | exact Or.inr rfl) (re_if (rt_cmp (op2_gt (hr.mono (by decide) : RmG 6 _) (takes_of rfl rfl rfl rfl) (Otgt T)) (re_var 2) re_int (nomark _)) (re_oix 4 (by rfl) (by first | exact Or.inl rfl | exact Or.inr (Or.inl rfl) | exact Or.inr (Or.inr rfl)) (re_op (op2_sub (hr.mono (by decide) : RmG 0 _) (takes_of rfl rfl rfl rfl) ownT_none) (re_var 2) re_int) (fun _ _ => rfl)) re_int))
    (rss_cons (rs_set 6 sc_law_bent.nd (by rfl) (by first | exact Or.inl rfl | exact Or.inr rfl) (re_if (rt_cmp (op2_lt (hr.mono (by decide) : RmG 6 _) (takes_of rfl rfl rfl rfl) (Otlt T)) (re_var 2) (re_op (op2_sub (hr.mono (by decide) : RmG 0 _) (takes_of rfl rfl rfl rfl) ownT_none) (re_olen 4 (by rfl) (by first | exact Or.inl rfl | exact Or.inr (Or.inl rfl) | exact Or.inr (Or.inr rfl)) (by rfl) T.z_len) re_int) (nomark _)) (re_oix 4 (by rfl) (by first | exact Or.inl rfl | exact Or.inr (Or.inl rfl) | exact Or.inr (Or.inr rfl)) (re_op (op2_add rfl (hr.mono (by decide) : RmG 6 _) (takes_of rfl rfl rfl rfl) (Otadd T) (Wtadd T) (Vtadd T)) (re_var 2) re_int) (fun _ _ => rfl)) (re_op (op2_sub (hr.mono (by decide) : RmG 0 _) (takes_of rfl rfl rfl rfl) ownT_none) (re_olen 4 (by rfl) (by first | exact Or.inl rfl | exact Or.inr (Or.inl rfl) | exact Or.inr (Or.inr rfl)) (by rfl) T.z_len) re_int)))
    (rss_cons (rs_if (rt_w (rw_and (rt_cmp (op2_eq rfl (hr.mono (by decide) : RmG 2 _) (takes_of rfl rfl rfl rfl) (Oteq T) (Wteq T)) (re_var 3) re_int (nomark _)) (rw_and1 (rt_cmp (op2_gt (hr.mono (by decide) : RmG 6 _) (takes_of rfl rfl rfl rfl) (Otgt T)) (re_oix 4 (by rfl) (by first | exact Or.inl rfl | exact Or.inr (Or.inl rfl) | exact Or.inr (Or.inr rfl)) (re_var 2) (fun _ _ => rfl)) (re_var 5) (nomark _))))) (rss_one (rs_put 4 (by rfl) (by first | exact Or.inl rfl | exact Or.inr (Or.inl rfl) | exact Or.inr (Or.inr rfl)) (re_var 2) (re_op (op2_sub (hr.mono (by decide) : RmG 0 _) (takes_of rfl rfl rfl rfl) ownT_none) (re_oix 4 (by rfl) (by first | exact Or.inl rfl | exact Or.inr (Or.inl rfl) | exact Or.inr (Or.inr rfl)) (re_var 2) (fun _ _ => rfl)) re_int) (pg_sub (pe_var (by rfl) (by first | exact Or.inl rfl | exact Or.inr (Or.inl rfl) | exact Or.inr (Or.inr rfl)) (by decide) (by decide)) (re_var 2) set_list))) rss_nil)
    (rss_cons (rs_if (rt_w (rw_and (rt_cmp (op2_eq rfl (hr.mono (by decide) : RmG 2 _) (takes_of rfl rfl rfl rfl) (Oteq T) (Wteq T)) (re_var 3) re_int (nomark _)) (rw_and1 (rt_cmp (op2_lt (hr.mono (by decide) : RmG 6 _) (takes_of rfl rfl rfl rfl) (Otlt T)) (re_oix 4 (by rfl) (by first | exact Or.inl rfl | exact Or.inr (Or.inl rfl) | exact Or.inr (Or.inr rfl)) (re_var 2) (fun _ _ => rfl)) (re_var 6) (nomark _))))) (rss_one (rs_put 4 (by rfl) (by first | exact Or.inl rfl | exact Or.inr (Or.inl rfl) | exact Or.inr (Or.inr rfl)) (re_var 2) (re_op (op2_add rfl (hr.mono (by decide) : RmG 6 _) (takes_of rfl rfl rfl rfl) (Otadd T) (Wtadd T) (Vtadd T)) (re_oix 4 (by rfl) (by first | exact Or.inl rfl | exact Or.inr (Or.inl rfl) | exact Or.inr (Or.inr rfl)) (re_var 2) (fun _ _ => rfl)) re_int) (pg_sub (pe_var (by rfl) (by first | exact Or.inl rfl | exact Or.inr (Or.inl rfl) | exact Or.inr (Or.inr rfl)) (by decide) (by decide)) (re_var 2) set_list))) rss_nil)
    (rss_frz 4 rfl (rss_one (rs_ret (re_var 4))))))))))
def n_RowMap : PFn := mkF 20 false f_RowMap_init
def tg_RowMap : OT := fun c => match c with | 20 => some n_RowMap | _ => none
theorem Ttg_RowMap {X : Cx} {E : XS} (T : TX X.K X.mg X.base ads) (h : RunC X (Cc X.K ads) E (.ref (ads 20)) n_RowMap) : GlT X (Cc X.K ads) E tg_RowMap := ⟨fun c fn e => by
  unfold tg_RowMap at e
  split at e
  · cases e; exact ⟨_, rfl, T.mk_RowMap.kp, h⟩
  · cases e⟩
/-! RowMap.of -/
theorem sc_RowMap_of : FnScope ["cls", "values"] ["cls", "values"] (defScope s_RowMap_of) := ⟨rfl, rfl, rfl, by decide +kernel, rfl, by decide +kernel, by decide +kernel⟩
def m_RowMap_of : SM := (sSeq (sIf (bBool (eBin (oIs2 true) (eCall (fType gk) (aCons (eVar 1) aNil)) (eC (.ty "tuple")))) sNo sNx)
    (sRet (eValC tg_RowMap (eVar 0) (aItems (eVar 1)))))
def f_RowMap_of : PFn := fnP (.pl []) 2 2 m_RowMap_of
theorem ok_RowMap_of (T : TX K mg base ads) : FnG P w K mg base 4 (ads 11201) (spX (Cc K ads) f_RowMap_of) := by
  obtain ⟨fd, F⟩ := T.FRowMap_of
  refine def_fn (N := ["cls", "values"]) (ps := ["cls", "values"]) F sc_RowMap_of (bd_pl (F.binds (ps := ["cls", "values"]) fun _ _ _ _ _ _ us hl => match us, hl with | [_, _], _ => rfl) .nil) (fun _ => rfl) fun cdv A outer s H E F0 hr => ?_
  exact (rss_cons (rs_if (rt_cmp op2_isNot2 (re_tyc (blt_type rfl T_gk) (by rfl) T.z_type (by rfl) (ra_cons (re_var 1) ra_nil)) (re_ty (by rfl) T.z_tuple (by rfl)) (nomark _)) rss_no rss_nil)
    (rss_one (rs_ret (re_valS rfl (Ttg_RowMap T (runC_mkU T.mk_RowMap rfl (fz_20 T) (ok_RowMap_init T) (fun _ _ => fnI_ok) (hr.mono (by decide) : RmG 3 _) (takes_of rfl rfl rfl rfl))) (re_var 0) (re_var 1)))))
def tm_RowMap_of : OT := fun c => match c with | 20 => some f_RowMap_of | _ => none
theorem Ttm_RowMap_of {X : Cx} (T : TX X.K X.mg X.base ads) : CmT X (Cc X.K ads) 4 "of" tm_RowMap_of := ⟨fun c fn e => by
  unfold tm_RowMap_of at e
  split at e
  · cases e
    obtain ⟨mc, p, h1, h2⟩ := T.cmRowMap_of
    exact ⟨_, mc, p, _, rfl, h1, h2, ok_RowMap_of T⟩
  · cases e⟩
/-! RowMap.__or__ -/
theorem sc_RowMap_or : FnScope ["self", "other", "x", "y"] ["self", "other"] (defScope s_RowMap_or) := ⟨rfl, rfl, rfl, by decide +kernel, rfl, by decide +kernel, by decide +kernel⟩
def m_RowMap_or : SM := (sSeq (sDo (eCall f_check_pair_maps (aCons (eVar 0) (aCons (eVar 1) aNil))))
    (sRet (eCall f_with_images (aCons (eCall fTuple (aCons (eL (aLc (iZip' (aCons (eUn (oAttr ta__images) (eVar 0)) (aCons (eUn (oAttr ta__images) (eVar 1)) aNil))) [2, 3] (.t [(.n 2), (.n 3)]) bYes (eIf (bBool (eBin (oLe OT0) (eVar 2) (eVar 3))) (eVar 3) (eVar 2)))) aNil)) aNil))))
def f_RowMap_or : PFn := fnP (.pl []) 2 4 m_RowMap_or
theorem ok_RowMap_or (T : TX K mg base ads) : FnG P w K mg base 6 (ads 11222) (spX (Cc K ads) f_RowMap_or) := by
  obtain ⟨fd, F⟩ := T.FRowMap_or
  refine def_fn (N := ["self", "other", "x", "y"]) (ps := ["self", "other"]) F sc_RowMap_or (bd_pl (F.binds (ps := ["self", "other"]) fun _ _ _ _ _ _ us hl => match us, hl with | [_, _], _ => rfl) .nil) (fun _ => rfl) fun cdv A outer s H E F0 hr => ?_
  exact (rss_cons (rs_do (re_g1 (runC_def (ok_check_pair_maps T) (hr.mono (by decide) : RmG 5 _) (takes_of rfl rfl rfl rfl)) (by rfl) T.g__check_pair (kp_of T.Fcheck_pair_maps) (ra_cons (re_var 0) (ra_cons (re_var 1) ra_nil))))
    (rss_one (rs_ret (re_g1 (runC_def (ok_with_images T) (hr.mono (by decide) : RmG 4 _) (takes_of rfl rfl rfl rfl)) (by rfl) T.g_with_images (kp_of T.Fwith_images) (ra_cons (re_tyc (blt_tuple rfl) (by rfl) T.z_tuple (by rfl) (ra_cons (re_fr (rf_lc rfl sc_RowMap_or.nd (ri_zip rfl (by rfl) T.z_zip (ra_cons (re_attr (hr.mono (by decide) : RmG 1 _) (takes_of rfl rfl rfl rfl) (Tta__images T) (re_var 0) (by rfl)) (ra_cons (re_attr (hr.mono (by decide) : RmG 1 _) (takes_of rfl rfl rfl rfl) (Tta__images T) (re_var 1) (by rfl)) ra_nil))) (own := [("x", 2), ("y", 3)]) (blk_of (by kernel_rfl)) (by decide) (fun _ _ _ _ _ => (rg_tup rfl rfl (rgs_cons (rg_name 2 sc_RowMap_or.nd (by rfl) (by first | exact Or.inl rfl | exact Or.inr rfl)) (rgs_cons (rg_name 3 sc_RowMap_or.nd (by rfl) (by first | exact Or.inl rfl | exact Or.inr rfl)) rgs_nil)) rfl)) (fun _ _ _ _ _ => rts_nil) (fun _ _ _ _ _ => (re_if (rt_cmp (op2_le (hr.mono (by decide) : RmG 0 _) (takes0) ownT_none) (re_var 2) (re_var 3) (nomark _)) (re_var 3) (re_var 2))))) ra_nil)) ra_nil)))))
def tor : OT := fun c => match c with | 20 => some f_RowMap_or | _ => none
theorem Otor {X : Cx} (T : TX X.K X.mg X.base ads) : OwnT X (Cc X.K ads) 6 "__or__" tor := ⟨fun c fn e => by
  unfold tor at e
  split at e
  · cases e; exact ⟨_, _, rfl, T.atRowMap_or, T.fnRowMap_or, T.fiRowMap_or, T.sf_RowMap, T.ns_RowMap, T.cl_RowMap, (ok_RowMap_or T).mono (by decide)⟩
  · cases e⟩
/-! RowMap.__and__ -/
theorem sc_RowMap_and : FnScope ["self", "other", "x", "y"] ["self", "other"] (defScope s_RowMap_and) := ⟨rfl, rfl, rfl, by decide +kernel, rfl, by decide +kernel, by decide +kernel⟩
def m_RowMap_and : SM := (sSeq (sDo (eCall f_check_pair_maps (aCons (eVar 0) (aCons (eVar 1) aNil))))
    (sRet (eCall f_with_images (aCons (eCall fTuple (aCons (eL (aLc (iZip' (aCons (eUn (oAttr ta__images) (eVar 0)) (aCons (eUn (oAttr ta__images) (eVar 1)) aNil))) [2, 3] (.t [(.n 2), (.n 3)]) bYes (eIf (bBool (eBin (oLe OT0) (eVar 2) (eVar 3))) (eVar 2) (eVar 3)))) aNil)) aNil))))
def f_RowMap_and : PFn := fnP (.pl []) 2 4 m_RowMap_and
theorem ok_RowMap_and (T : TX K mg base ads) : FnG P w K mg base 6 (ads 11221) (spX (Cc K ads) f_RowMap_and) := by
  obtain ⟨fd, F⟩ := T.FRowMap_and
  refine def_fn (N := ["self", "other", "x", "y"]) (ps := ["self", "other"]) F sc_RowMap_and (bd_pl (F.binds (ps := ["self", "other"]) fun _ _ _ _ _ _ us hl => match us, hl with | [_, _], _ => rfl) .nil) (fun _ => rfl) fun cdv A outer s H E F0 hr => ?_
  exact (rss_cons (rs_do (re_g1 (runC_def (ok_check_pair_maps T) (hr.mono (by decide) : RmG 5 _) (takes_of rfl rfl rfl rfl)) (by rfl) T.g__check_pair (kp_of T.Fcheck_pair_maps) (ra_cons (re_var 0) (ra_cons (re_var 1) ra_nil))))
    (rss_one (rs_ret (re_g1 (runC_def (ok_with_images T) (hr.mono (by decide) : RmG 4 _) (takes_of rfl rfl rfl rfl)) (by rfl) T.g_with_images (kp_of T.Fwith_images) (ra_cons (re_tyc (blt_tuple rfl) (by rfl) T.z_tuple (by rfl) (ra_cons (re_fr (rf_lc rfl sc_RowMap_and.nd (ri_zip rfl (by rfl) T.z_zip (ra_cons (re_attr (hr.mono (by decide) : RmG 1 _) (takes_of rfl rfl rfl rfl) (Tta__images T) (re_var 0) (by rfl)) (ra_cons (re_attr (hr.mono (by decide) : RmG 1 _) (takes_of rfl rfl rfl rfl) (Tta__images T) (re_var 1) (by rfl)) ra_nil))) (own := [("x", 2), ("y", 3)]) (blk_of (by kernel_rfl)) (by decide) (fun _ _ _ _ _ => (rg_tup rfl rfl (rgs_cons (rg_name 2 sc_RowMap_and.nd (by rfl) (by first | exact Or.inl rfl | exact Or.inr rfl)) (rgs_cons (rg_name 3 sc_RowMap_and.nd (by rfl) (by first | exact Or.inl rfl | exact Or.inr rfl)) rgs_nil)) rfl)) (fun _ _ _ _ _ => rts_nil) (fun _ _ _ _ _ => (re_if (rt_cmp (op2_le (hr.mono (by decide) : RmG 0 _) (takes0) ownT_none) (re_var 2) (re_var 3) (nomark _)) (re_var 2) (re_var 3))))) ra_nil)) ra_nil)))))
def tand : OT := fun c => match c with | 20 => some f_RowMap_and | _ => none
theorem Otand {X : Cx} (T : TX X.K X.mg X.base ads) : OwnT X (Cc X.K ads) 6 "__and__" tand := ⟨fun c fn e => by
  unfold tand at e
  split at e
  · cases e; exact ⟨_, _, rfl, T.atRowMap_and, T.fnRowMap_and, T.fiRowMap_and, T.sf_RowMap, T.ns_RowMap, T.cl_RowMap, (ok_RowMap_and T).mono (by decide)⟩
  · cases e⟩
/-! RowMap.__ge__ -/
theorem sc_RowMap_ge : FnScope ["self", "other"] ["self", "other"] (defScope s_RowMap_ge) := ⟨rfl, rfl, rfl, by decide +kernel, rfl, by decide +kernel, by decide +kernel⟩
def m_RowMap_ge : SM := (sSeq (sDo (eCall f_check_map (aCons (eVar 1) aNil)))
    (sRet (eCall f_is_below (aCons (eVar 1) (aCons (eVar 0) aNil)))))
def f_RowMap_ge : PFn := fnP (.pl []) 2 2 m_RowMap_ge
theorem ok_RowMap_ge (T : TX K mg base ads) : FnG P w K mg base 6 (ads 11225) (spX (Cc K ads) f_RowMap_ge) := by
  obtain ⟨fd, F⟩ := T.FRowMap_ge
  refine def_fn (N := ["self", "other"]) (ps := ["self", "other"]) F sc_RowMap_ge (bd_pl (F.binds (ps := ["self", "other"]) fun _ _ _ _ _ _ us hl => match us, hl with | [_, _], _ => rfl) .nil) (fun _ => rfl) fun cdv A outer s H E F0 hr => ?_
  exact (rss_cons (rs_do (re_g1 (runC_def (ok_check_map T) (hr.mono (by decide) : RmG 1 _) (takes_of rfl rfl rfl rfl)) (by rfl) T.g__check_map (kp_of T.Fcheck_map) (ra_cons (re_var 1) ra_nil)))
    (rss_one (rs_ret (re_g1 (runC_def (ok_is_below T) (hr.mono (by decide) : RmG 5 _) (takes_of rfl rfl rfl rfl)) (by rfl) T.g__is_below (kp_of T.Fis_below) (ra_cons (re_var 1) (ra_cons (re_var 0) ra_nil))))))
def tge : OT := fun c => match c with | 20 => some f_RowMap_ge | _ => none
theorem Otge {X : Cx} (T : TX X.K X.mg X.base ads) : OwnT X (Cc X.K ads) 6 "__ge__" tge := ⟨fun c fn e => by
  unfold tge at e
  split at e
  · cases e; exact ⟨_, _, rfl, T.atRowMap_ge, T.fnRowMap_ge, T.fiRowMap_ge, T.sf_RowMap, T.ns_RowMap, T.cl_RowMap, (ok_RowMap_ge T).mono (by decide)⟩
  · cases e⟩
/-! RowMap.__le__ -/
theorem sc_RowMap_le : FnScope ["self", "other"] ["self", "other"] (defScope s_RowMap_le) := ⟨rfl, rfl, rfl, by decide +kernel, rfl, by decide +kernel, by decide +kernel⟩
def m_RowMap_le : SM := (sSeq (sDo (eCall f_check_map (aCons (eVar 1) aNil)))
    (sRet (eCall f_is_below (aCons (eVar 0) (aCons (eVar 1) aNil)))))
def f_RowMap_le : PFn := fnP (.pl []) 2 2 m_RowMap_le
theorem ok_RowMap_le (T : TX K mg base ads) : FnG P w K mg base 6 (ads 11223) (spX (Cc K ads) f_RowMap_le) := by
  obtain ⟨fd, F⟩ := T.FRowMap_le
  refine def_fn (N := ["self", "other"]) (ps := ["self", "other"]) F sc_RowMap_le (bd_pl (F.binds (ps := ["self", "other"]) fun _ _ _ _ _ _ us hl => match us, hl with | [_, _], _ => rfl) .nil) (fun _ => rfl) fun cdv A outer s H E F0 hr => ?_
  exact (rss_cons (rs_do (re_g1 (runC_def (ok_check_map T) (hr.mono (by decide) : RmG 1 _) (takes_of rfl rfl rfl rfl)) (by rfl) T.g__check_map (kp_of T.Fcheck_map) (ra_cons (re_var 1) ra_nil)))
    (rss_one (rs_ret (re_g1 (runC_def (ok_is_below T) (hr.mono (by decide) : RmG 5 _) (takes_of rfl rfl rfl rfl)) (by rfl) T.g__is_below (kp_of T.Fis_below) (ra_cons (re_var 0) (ra_cons (re_var 1) ra_nil))))))
def tle : OT := fun c => match c with | 20 => some f_RowMap_le | _ => none
theorem Otle {X : Cx} (T : TX X.K X.mg X.base ads) : OwnT X (Cc X.K ads) 6 "__le__" tle := ⟨fun c fn e => by
  unfold tle at e
  split at e
  · cases e; exact ⟨_, _, rfl, T.atRowMap_le, T.fnRowMap_le, T.fiRowMap_le, T.sf_RowMap, T.ns_RowMap, T.cl_RowMap, (ok_RowMap_le T).mono (by decide)⟩
  · cases e⟩
/-! _law_pair_right -/
theorem sc_law_pair_right : FnScope ["_law_near", "_law_far", "_law_f", "_law_g", "_law_told_here", "_law_due", "_law_is_low", "_law_mark", "_law_one", "_law_two", "_law_row"] ["_law_near", "_law_far"] (defScope s_law_pair_right) := ⟨rfl, rfl, rfl, by decide +kernel, rfl, by decide +kernel, by decide +kernel⟩
def m_law_pair_right : SM := (sSeq (sPar [2, 3] [.v (eCm tm_RowMap_of (eC (.gl 20)) (aCons (eCall fTuple (aCons (eVar 0) aNil)) aNil)), .v (eCm tm_RowMap_of (eC (.gl 20)) (aCons (eCall fTuple (aCons (eVar 1) aNil)) aNil))])
    (sSeq (sSet 4 (eLst (aCons (eUn (oAttr ta_images) (eBin (oAdd tadd) (eVar 2) (eVar 3))) (aCons (eUn (oAttr ta_images) (eBin (oOwn tand) (eVar 2) (eVar 3))) (aCons (eUn (oAttr ta_images) (eBin (oOwn tor) (eVar 2) (eVar 3))) aNil)))))
    (sSeq (sOwn 5 (aLim (aCons (eL (aLc (iSeq (eVar 0)) [7] (.n 7) bYes (eBin (oIx tgetitem) (eVar 1) (eVar 7)))) (aCons (eL (aLc (iZip' (aCons (eVar 0) (aCons (eVar 1) aNil))) [8, 9] (.t [(.n 8), (.n 9)]) bYes (eIf (bBool (eBin (oLt tlt) (eVar 8) (eVar 9))) (eVar 8) (eVar 9)))) aNil))))
    (sSeq (sApp 5 (eL (aLc (iZip' (aCons (eVar 0) (aCons (eVar 1) aNil))) [8, 9] (.t [(.n 8), (.n 9)]) bYes (eIf (bBool (eBin (oLt tlt) (eVar 8) (eVar 9))) (eVar 9) (eVar 8)))))
    (sFrz 5 (sSeq (sIf (bBool (eBin (oNe teq) (eCall fRepr (aCons (eVar 4) aNil)) (eCall fRepr (aCons (eL (aLc (iSeq (eVar 5)) [10] (.n 10) bYes (eCall fTuple (aCons (eVar 10) aNil)))) aNil)))) (sRet (eC (.bl false))) sNx)
    (sSeq (sSet 6 (eBin (oEq teq) (eL (aLc (iZip' (aCons (eVar 0) (aCons (eVar 1) aNil))) [8, 9] (.t [(.n 8), (.n 9)]) (bBool (eBin (oGt tgt) (eVar 8) (eVar 9))) (eC (.int 1)))) (eLst aNil)))
    (sSeq (sSet 4 (eLst (aCons (eBin (oLe tle) (eVar 2) (eVar 3)) (aCons (eBin (oLt tlt) (eVar 2) (eVar 3)) (aCons (eBin (oGe tge) (eVar 3) (eVar 2)) (aCons (eBin (oGt tgt) (eVar 3) (eVar 2)) aNil))))))
    (sSeq (sIf (bBool (eBin (oNe teq) (eCall fRepr (aCons (eVar 4) aNil)) (eCall fRepr (aCons (eL (aMulF (aLim (aCons (eVar 6) (aCons (eAnd (eVar 6) (eBin (oNe teq) (eVar 0) (eVar 1))) aNil))) (eC (.int 2)))) aNil)))) (sRet (eC (.bl false))) sNx)
    (sRet (eAnd (eBin (oEq teq) (eLst (aCons (eUn (oAttr ta_images) (eVar 2)) (aCons (eUn (oAttr ta_images) (eVar 3)) aNil))) (eLst (aCons (eCall fTuple (aCons (eVar 0) aNil)) (aCons (eCall fTuple (aCons (eVar 1) aNil)) aNil)))) (eCall (fIsi ib) (aCons (eBin (oAdd tadd) (eVar 2) (eVar 3)) (aCons (eC (.gl 20)) aNil))))))))))))))
def f_law_pair_right : PFn := fnP (.pl []) 2 11 m_law_pair_right
theorem ok_law_pair_right (T : TX K mg base ads) : FnG P w K mg base 7 (ads 126) (spX (Cc K ads) f_law_pair_right) := by
  obtain ⟨fd, F⟩ := T.Flaw_pair_right
  refine def_fn (N := ["_law_near", "_law_far", "_law_f", "_law_g", "_law_told_here", "_law_due", "_law_is_low", "_law_mark", "_law_one", "_law_two", "_law_row"]) (ps := ["_law_near", "_law_far"]) F sc_law_pair_right (bd_pl (F.binds (ps := ["_law_near", "_law_far"]) fun _ _ _ _ _ _ us hl => match us, hl with | [_, _], _ => rfl) .nil) (fun _ => rfl) fun cdv A outer s H E F0 hr => ?_
  exact (rss_cons (rs_par2 (i := 2) (j := 3) rfl sc_law_pair_right.nd (by rfl) (by rfl) (by decide) (by rfl) (by rfl) (rm_v (re_cm (hr.mono (by decide) : RmG 4 _) (takes_of rfl rfl rfl rfl) (Ttm_RowMap_of T) (re_gl (by rfl) T.g_RowMap rfl) (ra_cons (re_tyc (blt_tuple rfl) (by rfl) T.z_tuple (by rfl) (ra_cons (re_var 0) ra_nil)) ra_nil)) (rm_v (re_cm (hr.mono (by decide) : RmG 4 _) (takes_of rfl rfl rfl rfl) (Ttm_RowMap_of T) (re_gl (by rfl) T.g_RowMap rfl) (ra_cons (re_tyc (blt_tuple rfl) (by rfl) T.z_tuple (by rfl) (ra_cons (re_var 1) ra_nil)) ra_nil)) rm_nil)) (by rfl))
    (rss_cons (rs_set 4 sc_law_pair_right.nd (by rfl) (by first | exact Or.inl rfl | exact Or.inr rfl) (re_lst (ra_cons (re_attr (hr.mono (by decide) : RmG 3 _) (takes_of rfl rfl rfl rfl) (Tta_images T) (re_op (op2_add rfl (hr.mono (by decide) : RmG 6 _) (takes_of rfl rfl rfl rfl) (Otadd T) (Wtadd T) (Vtadd T)) (re_var 2) (re_var 3)) (by rfl)) (ra_cons (re_attr (hr.mono (by decide) : RmG 3 _) (takes_of rfl rfl rfl rfl) (Tta_images T) (re_op (op2_own (hr.mono (by decide) : RmG 6 _) (takes_of rfl rfl rfl rfl) (Otand T)) (re_var 2) (re_var 3)) (by rfl)) (ra_cons (re_attr (hr.mono (by decide) : RmG 3 _) (takes_of rfl rfl rfl rfl) (Tta_images T) (re_op (op2_own (hr.mono (by decide) : RmG 6 _) (takes_of rfl rfl rfl rfl) (Otor T)) (re_var 2) (re_var 3)) (by rfl)) ra_nil)))))
    (rss_cons (rs_own 5 sc_law_pair_right.nd (by rfl) (by first | exact Or.inl rfl | exact Or.inr rfl) (rf_lst (ra_cons (re_fr (rf_lc rfl sc_law_pair_right.nd (ri_seq rfl (re_var 0)) (own := [("_law_mark", 7)]) (blk_of (by kernel_rfl)) (by decide) (fun _ _ _ _ _ => (rg_name 7 sc_law_pair_right.nd (by rfl) (by first | exact Or.inl rfl | exact Or.inr rfl))) (fun _ _ _ _ _ => rts_nil) (fun _ _ _ _ _ => (re_ix rfl (hr.mono (by decide) : RmG 4 _) (takes0) (Otgetitem T) (re_var 1) (re_var 7) (fun _ _ => rfl))))) (ra_cons (re_fr (rf_lc rfl sc_law_pair_right.nd (ri_zip rfl (by rfl) T.z_zip (ra_cons (re_var 0) (ra_cons (re_var 1) ra_nil))) (own := [("_law_one", 8), ("_law_two", 9)]) (blk_of (by kernel_rfl)) (by decide) (fun _ _ _ _ _ => (rg_tup rfl rfl (rgs_cons (rg_name 8 sc_law_pair_right.nd (by rfl) (by first | exact Or.inl rfl | exact Or.inr rfl)) (rgs_cons (rg_name 9 sc_law_pair_right.nd (by rfl) (by first | exact Or.inl rfl | exact Or.inr rfl)) rgs_nil)) rfl)) (fun _ _ _ _ _ => rts_nil) (fun _ _ _ _ _ => (re_if (rt_cmp (op2_lt (hr.mono (by decide) : RmG 6 _) (takes0) (Otlt T)) (re_var 8) (re_var 9) (nomark _)) (re_var 8) (re_var 9))))) ra_nil))))
    (rss_cons (rs_app 5 (by rfl) (by first | exact Or.inl rfl | exact Or.inr (Or.inl rfl) | exact Or.inr (Or.inr rfl)) (re_fr (rf_lc rfl sc_law_pair_right.nd (ri_zip rfl (by rfl) T.z_zip (ra_cons (re_var 0) (ra_cons (re_var 1) ra_nil))) (own := [("_law_one", 8), ("_law_two", 9)]) (blk_of (by kernel_rfl)) (by decide) (fun _ _ _ _ _ => (rg_tup rfl rfl (rgs_cons (rg_name 8 sc_law_pair_right.nd (by rfl) (by first | exact Or.inl rfl | exact Or.inr rfl)) (rgs_cons (rg_name 9 sc_law_pair_right.nd (by rfl) (by first | exact Or.inl rfl | exact Or.inr rfl)) rgs_nil)) rfl)) (fun _ _ _ _ _ => rts_nil) (fun _ _ _ _ _ => (re_if (rt_cmp (op2_lt (hr.mono (by decide) : RmG 6 _) (takes0) (Otlt T)) (re_var 8) (re_var 9) (nomark _)) (re_var 9) (re_var 8))))))
    (rss_frz 5 rfl (rss_cons (rs_if (rt_cmp (op2_neO rfl (hr.mono (by decide) : RmG 3 _) (takes_of rfl rfl rfl rfl) (Oteq T) (Wteq T) (Nteq T)) (re_blt (blt_repr rfl (hr.mono (by decide) : RmG 0 _)) (by rfl) T.z_repr (by rfl) (ra_cons (re_var 4) ra_nil)) (re_blt (blt_repr rfl (hr.mono (by decide) : RmG 0 _)) (by rfl) T.z_repr (by rfl) (ra_cons (re_fr (rf_lc rfl sc_law_pair_right.nd (ri_seq rfl (re_var 5)) (own := [("_law_row", 10)]) (blk_of (by kernel_rfl)) (by decide) (fun _ _ _ _ _ => (rg_name 10 sc_law_pair_right.nd (by rfl) (by first | exact Or.inl rfl | exact Or.inr rfl))) (fun _ _ _ _ _ => rts_nil) (fun _ _ _ _ _ => (re_tyc (blt_tuple rfl) (by rfl) T.z_tuple (by rfl) (ra_cons (re_var 10) ra_nil))))) ra_nil)) (nomark _)) (rss_one (rs_ret re_bl)) rss_nil)
    (rss_cons (rs_set 6 sc_law_pair_right.nd (by rfl) (by first | exact Or.inl rfl | exact Or.inr rfl) (re_cmp (op2_eq rfl (hr.mono (by decide) : RmG 2 _) (takes_of rfl rfl rfl rfl) (Oteq T) (Wteq T)) (re_fr (rf_lc rfl sc_law_pair_right.nd (ri_zip rfl (by rfl) T.z_zip (ra_cons (re_var 0) (ra_cons (re_var 1) ra_nil))) (own := [("_law_one", 8), ("_law_two", 9)]) (blk_of (by kernel_rfl)) (by decide) (fun _ _ _ _ _ => (rg_tup rfl rfl (rgs_cons (rg_name 8 sc_law_pair_right.nd (by rfl) (by first | exact Or.inl rfl | exact Or.inr rfl)) (rgs_cons (rg_name 9 sc_law_pair_right.nd (by rfl) (by first | exact Or.inl rfl | exact Or.inr rfl)) rgs_nil)) rfl)) (fun _ _ _ _ _ => (rts_one (rt_cmp (op2_gt (hr.mono (by decide) : RmG 6 _) (takes0) (Otgt T)) (re_var 8) (re_var 9) (nomark _)))) (fun _ _ _ _ _ => re_int))) (re_lst ra_nil) (nomark _)))
    (rss_cons (rs_set 4 sc_law_pair_right.nd (by rfl) (by first | exact Or.inl rfl | exact Or.inr rfl) (re_lst (ra_cons (re_cmp (op2_le (hr.mono (by decide) : RmG 6 _) (takes_of rfl rfl rfl rfl) (Otle T)) (re_var 2) (re_var 3) (nomark _)) (ra_cons (re_cmp (op2_lt (hr.mono (by decide) : RmG 6 _) (takes_of rfl rfl rfl rfl) (Otlt T)) (re_var 2) (re_var 3) (nomark _)) (ra_cons (re_cmp (op2_ge (hr.mono (by decide) : RmG 6 _) (takes_of rfl rfl rfl rfl) (Otge T)) (re_var 3) (re_var 2) (nomark _)) (ra_cons (re_cmp (op2_gt (hr.mono (by decide) : RmG 6 _) (takes_of rfl rfl rfl rfl) (Otgt T)) (re_var 3) (re_var 2) (nomark _)) ra_nil))))))
    (rss_cons (rs_if (rt_cmp (op2_neO rfl (hr.mono (by decide) : RmG 3 _) (takes_of rfl rfl rfl rfl) (Oteq T) (Wteq T) (Nteq T)) (re_blt (blt_repr rfl (hr.mono (by decide) : RmG 0 _)) (by rfl) T.z_repr (by rfl) (ra_cons (re_var 4) ra_nil)) (re_blt (blt_repr rfl (hr.mono (by decide) : RmG 0 _)) (by rfl) T.z_repr (by rfl) (ra_cons (re_fr (rf_mulF (rf_lst (ra_cons (re_var 6) (ra_cons (re_and (re_var 6) (re_one (re_cmp (op2_neO rfl (hr.mono (by decide) : RmG 3 _) (takes_of rfl rfl rfl rfl) (Oteq T) (Wteq T) (Nteq T)) (re_var 0) (re_var 1) (nomark _)))) ra_nil))) re_int)) ra_nil)) (nomark _)) (rss_one (rs_ret re_bl)) rss_nil)
    (rss_one (rs_ret (re_and (re_cmp (op2_eq rfl (hr.mono (by decide) : RmG 2 _) (takes_of rfl rfl rfl rfl) (Oteq T) (Wteq T)) (re_lst (ra_cons (re_attr (hr.mono (by decide) : RmG 3 _) (takes_of rfl rfl rfl rfl) (Tta_images T) (re_var 2) (by rfl)) (ra_cons (re_attr (hr.mono (by decide) : RmG 3 _) (takes_of rfl rfl rfl rfl) (Tta_images T) (re_var 3) (by rfl)) ra_nil))) (re_lst (ra_cons (re_tyc (blt_tuple rfl) (by rfl) T.z_tuple (by rfl) (ra_cons (re_var 0) ra_nil)) (ra_cons (re_tyc (blt_tuple rfl) (by rfl) T.z_tuple (by rfl) (ra_cons (re_var 1) ra_nil)) ra_nil))) (nomark _)) (re_one (re_blt (blt_isi rfl (Tib T)) (by rfl) T.z_isinstance (by rfl) (ra_cons (re_op (op2_add rfl (hr.mono (by decide) : RmG 6 _) (takes_of rfl rfl rfl rfl) (Otadd T) (Wtadd T) (Vtadd T)) (re_var 2) (re_var 3)) (ra_cons (re_gl (by rfl) T.g_RowMap rfl) ra_nil))))))))))))))))
/-! _law_three_right -/
theorem sc_law_three_right : FnScope ["_law_one", "_law_two", "_law_three", "_law_f", "_law_g", "_law_h", "_law_due", "_law_mark"] ["_law_one", "_law_two", "_law_three"] (defScope s_law_three_right) := ⟨rfl, rfl, rfl, by decide +kernel, rfl, by decide +kernel, by decide +kernel⟩
def m_law_three_right : SM := (sSeq (sPar [3, 4, 5] [.v (eCm tm_RowMap_of (eC (.gl 20)) (aCons (eCall fTuple (aCons (eVar 0) aNil)) aNil)), .v (eCm tm_RowMap_of (eC (.gl 20)) (aCons (eCall fTuple (aCons (eVar 1) aNil)) aNil)), .v (eCm tm_RowMap_of (eC (.gl 20)) (aCons (eCall fTuple (aCons (eVar 2) aNil)) aNil))])
    (sSeq (sSet 6 (eCall fTuple (aCons (eL (aLc (iSeq (eVar 0)) [7] (.n 7) bYes (eBin (oIx tgetitem) (eVar 2) (eBin (oIx tgetitem) (eVar 1) (eVar 7))))) aNil)))
    (sRet (eBin (oEq teq) (eLst (aCons (eUn (oAttr ta_images) (eBin (oAdd tadd) (eBin (oAdd tadd) (eVar 3) (eVar 4)) (eVar 5))) (aCons (eUn (oAttr ta_images) (eBin (oAdd tadd) (eVar 3) (eBin (oAdd tadd) (eVar 4) (eVar 5)))) aNil))) (eLst (aCons (eVar 6) (aCons (eVar 6) aNil)))))))
def f_law_three_right : PFn := fnP (.pl []) 3 8 m_law_three_right
theorem ok_law_three_right (T : TX K mg base ads) : FnG P w K mg base 7 (ads 129) (spX (Cc K ads) f_law_three_right) := by
  obtain ⟨fd, F⟩ := T.Flaw_three_right
  refine def_fn (N := ["_law_one", "_law_two", "_law_three", "_law_f", "_law_g", "_law_h", "_law_due", "_law_mark"]) (ps := ["_law_one", "_law_two", "_law_three"]) F sc_law_three_right (bd_pl (F.binds (ps := ["_law_one", "_law_two", "_law_three"]) fun _ _ _ _ _ _ us hl => match us, hl with | [_, _, _], _ => rfl) .nil) (fun _ => rfl) fun cdv A outer s H E F0 hr => ?_
  exact (rss_cons (rs_par3 (i := 3) (j := 4) (l := 5) rfl sc_law_three_right.nd (by rfl) (by rfl) (by rfl) (by decide) (by decide) (by decide) (by rfl) (by rfl) (by rfl) (rm_v (re_cm (hr.mono (by decide) : RmG 4 _) (takes_of rfl rfl rfl rfl) (Ttm_RowMap_of T) (re_gl (by rfl) T.g_RowMap rfl) (ra_cons (re_tyc (blt_tuple rfl) (by rfl) T.z_tuple (by rfl) (ra_cons (re_var 0) ra_nil)) ra_nil)) (rm_v (re_cm (hr.mono (by decide) : RmG 4 _) (takes_of rfl rfl rfl rfl) (Ttm_RowMap_of T) (re_gl (by rfl) T.g_RowMap rfl) (ra_cons (re_tyc (blt_tuple rfl) (by rfl) T.z_tuple (by rfl) (ra_cons (re_var 1) ra_nil)) ra_nil)) (rm_v (re_cm (hr.mono (by decide) : RmG 4 _) (takes_of rfl rfl rfl rfl) (Ttm_RowMap_of T) (re_gl (by rfl) T.g_RowMap rfl) (ra_cons (re_tyc (blt_tuple rfl) (by rfl) T.z_tuple (by rfl) (ra_cons (re_var 2) ra_nil)) ra_nil)) rm_nil))) (by rfl))
    (rss_cons (rs_set 6 sc_law_three_right.nd (by rfl) (by first | exact Or.inl rfl | exact Or.inr rfl) (re_tyc (blt_tuple rfl) (by rfl) T.z_tuple (by rfl) (ra_cons (re_fr (rf_lc rfl sc_law_three_right.nd (ri_seq rfl (re_var 0)) (own := [("_law_mark", 7)]) (blk_of (by kernel_rfl)) (by decide) (fun _ _ _ _ _ => (rg_name 7 sc_law_three_right.nd (by rfl) (by first | exact Or.inl rfl | exact Or.inr rfl))) (fun _ _ _ _ _ => rts_nil) (fun _ _ _ _ _ => (re_ix rfl (hr.mono (by decide) : RmG 4 _) (takes0) (Otgetitem T) (re_var 2) (re_ix rfl (hr.mono (by decide) : RmG 4 _) (takes0) (Otgetitem T) (re_var 1) (re_var 7) (fun _ _ => rfl)) (fun _ _ => rfl))))) ra_nil)))
    (rss_one (rs_ret (re_cmp (op2_eq rfl (hr.mono (by decide) : RmG 2 _) (takes_of rfl rfl rfl rfl) (Oteq T) (Wteq T)) (re_lst (ra_cons (re_attr (hr.mono (by decide) : RmG 3 _) (takes_of rfl rfl rfl rfl) (Tta_images T) (re_op (op2_add rfl (hr.mono (by decide) : RmG 6 _) (takes_of rfl rfl rfl rfl) (Otadd T) (Wtadd T) (Vtadd T)) (re_op (op2_add rfl (hr.mono (by decide) : RmG 6 _) (takes_of rfl rfl rfl rfl) (Otadd T) (Wtadd T) (Vtadd T)) (re_var 3) (re_var 4)) (re_var 5)) (by rfl)) (ra_cons (re_attr (hr.mono (by decide) : RmG 3 _) (takes_of rfl rfl rfl rfl) (Tta_images T) (re_op (op2_add rfl (hr.mono (by decide) : RmG 6 _) (takes_of rfl rfl rfl rfl) (Otadd T) (Wtadd T) (Vtadd T)) (re_var 3) (re_op (op2_add rfl (hr.mono (by decide) : RmG 6 _) (takes_of rfl rfl rfl rfl) (Otadd T) (Wtadd T) (Vtadd T)) (re_var 4) (re_var 5))) (by rfl)) ra_nil))) (re_lst (ra_cons (re_var 6) (ra_cons (re_var 6) ra_nil))) (nomark _))))))
def cat_MarkroundsError : Nat → Bool := fun c => match c with | 4 => true | _ => false
theorem Tcat_MarkroundsError {X : Cx} (T : TX X.K X.mg X.base ads) : CatT X (Cc X.K ads) cat_MarkroundsError (.ref (ads 1)) := ⟨fun c e => by
  unfold cat_MarkroundsError at e
  split at e
  · exact ⟨_, rfl, PySem.W.exm_ref T.eb_MarkroundsError T.eh_MarkroundsError T.et_MarkroundsError T.es_OtherRow_MarkroundsError⟩
  · cases e⟩
def xa_value : Nat → Option Nat := fun c => match c with | 4 => some 0 | _ => none
theorem Txa_value {X : Cx} (T : TX X.K X.mg X.base ads) : XatT X (Cc X.K ads) "value" xa_value := ⟨fun c i e => by
  unfold xa_value at e
  split at e
  · cases e; exact ⟨_, rfl, excC_xf T.ec_OtherRow, T.xn_OtherRow, rfl, (show (["value"] : List Str).Nodup by decide)⟩
  · cases e⟩
/-! _law_told -/
theorem sc_law_told : FnScope ["_law_call", "_law_error", "_law_found", "e"] ["_law_call"] (defScope s_law_told) := ⟨rfl, rfl, rfl, by decide +kernel, rfl, by decide +kernel, by decide +kernel⟩
def m_law_told (o : O) : SM := (sSeq (sSet 1 (eC .non))
    (sSeq (sSet 2 (eC .non))
    (sSeq (sTry cat_MarkroundsError 3 1 (some 2) (eAct 0 o))
    (sSeq (sIf (bBool (eBin (oIs2 false) (eVar 1) (eC .non))) (sRet (eLst (aCons (eVar 2) aNil))) sNx)
    (sRet (eIf (bTru (eCall (fIsi ib) (aCons (eVar 1) (aCons (eC (.gl 4)) aNil)))) (eTup (aCons (eC (.str "row")) (aCons (eUn (oXat xa_value) (eVar 1)) aNil))) (eTup (aCons (eC (.str "another")) aNil))))))))
def f_law_told : O → O := fun o => (m_law_told o (RL.startL 4) default).o
theorem ok_law_told (T : TX K mg base ads) : ToldG P w K mg base (Cc K ads) 0 (ads 125) f_law_told := by
  obtain ⟨fd, F⟩ := T.Flaw_told
  exact ⟨_, _, _, fd, ["_law_call", "_law_error", "_law_found", "e"], "_law_call", m_law_told, F, sc_law_told, F.binds (ps := ["_law_call"]) (fun _ _ _ _ _ _ us hl => match us, hl with | [_], _ => rfl), rfl, (by first | exact Or.inl rfl | exact Or.inr (Or.inl rfl) | exact Or.inr (Or.inr rfl)), by decide, by decide, fun _ => rfl, fun cdv A outer s H E F0 f o hr act => (rss_cons (rs_set 1 sc_law_told.nd (by rfl) (by first | exact Or.inl rfl | exact Or.inr rfl) re_non)
    (rss_cons (rs_set 2 sc_law_told.nd (by rfl) (by first | exact Or.inl rfl | exact Or.inr rfl) re_non)
    (rss_cons (rs_try_set (i := 3) (j := 1) (k := 2) (Tcat_MarkroundsError T) rfl rfl rfl sc_law_told.nd (by rfl) (by rfl) (by rfl) (by rfl) (by decide) (by rfl) (by rfl) (by rfl) T.g_MarkroundsError (by decide) (by decide) (by decide) (by rfl) (by rfl) (fun _ _ _ tk _ => (act _ _ _ _ _ tk)))
    (rss_cons (rs_if (rt_cmp op2_is2 (re_var 1) re_non (nomark _)) (rss_one (rs_ret (re_lst (ra_cons (re_var 2) ra_nil)))) rss_nil)
    (rss_one (rs_ret (re_if (rt_val rfl (re_blt (blt_isi rfl (Tib T)) (by rfl) T.z_isinstance (by rfl) (ra_cons (re_var 1) (ra_cons (re_gl (by rfl) T.g_OtherRow rfl) ra_nil)))) (re_tup (ra_cons re_str (ra_cons (re_xat (Txa_value T) (re_var 1)) ra_nil))) (re_tup (ra_cons re_str ra_nil)))))))))⟩
/-! _law_strangers_right -/
theorem sc_law_strangers_right : FnScope ["_law_f", "_law_g", "_law_told_here"] ["_law_f", "_law_g"] (defScope s_law_strangers_right) := ⟨rfl, rfl, rfl, by decide +kernel, rfl, by decide +kernel, by decide +kernel⟩
def m_law_strangers_right : SM := (sSeq (sOwn 2 (aLim (aCons (eLam f_law_told (eBin (oAdd tadd) (eVar 0) (eVar 1))) (aCons (eLam f_law_told (eBin (oOwn tand) (eVar 0) (eVar 1))) aNil))))
    (sFrz 2 (sSeq (sOwn 2 (aAddL (eVar 2) (eLst (aCons (eLam f_law_told (eBin (oOwn tor) (eVar 0) (eVar 1))) (aCons (eLam f_law_told (eBin (oLe tle) (eVar 0) (eVar 1))) aNil)))))
    (sSeq (sApp 2 (eLam f_law_told (eBin (oLt tlt) (eVar 0) (eVar 1))))
    (sFrz 2 (sSeq (sIf (bOr (bBool (eBin (oNeL teq) (eVar 2) (eL (aMulF (aLim (aCons (eTup (aCons (eC (.str "row")) (aCons (eVar 1) aNil))) aNil)) (eC (.int 5)))))) (bBool (eBin (oEqL teq) (eVar 0) (eVar 1)))) (sRet (eC (.bl false))) sNx)
    (sRet (eBin (oEqL teq) (eLst (aCons (eLam f_law_told (eBin (oGe tge) (eVar 0) (eVar 1))) (aCons (eLam f_law_told (eBin (oGt tgt) (eVar 0) (eVar 1))) aNil))) (eL (aMulF (aLim (aCons (eTup (aCons (eC (.str "row")) (aCons (eVar 0) aNil))) aNil)) (eC (.int 2))))))))))))
def f_law_strangers_right : PFn := fnP (.pl []) 2 3 m_law_strangers_right
theorem ok_law_strangers_right (T : TX K mg base ads) : FnG P w K mg base 9 (ads 127) (spX (Cc K ads) f_law_strangers_right) := by
  obtain ⟨fd, F⟩ := T.Flaw_strangers_right
  obtain ⟨cM, PM, hcm, TBm, hmT, huT⟩ := T.lam_law_strangers_right
  refine def_fnC (N := ["_law_f", "_law_g", "_law_told_here"]) (ps := ["_law_f", "_law_g"]) F sc_law_strangers_right (bd_pl (F.binds (ps := ["_law_f", "_law_g"]) fun _ _ _ _ _ _ us hl => match us, hl with | [_, _], _ => rfl) .nil) (fun _ => rfl) fun cdv hcode A outer s H E F0 hr => ?_
  exact (rss_cons (rs_own 2 sc_law_strangers_right.nd (by rfl) (by first | exact Or.inl rfl | exact Or.inr rfl) (rf_lst (ra_cons (re_lam (k := 6) (by rfl) T.g__law_told (kp_of T.Flaw_told) (takes_of rfl rfl rfl rfl) ((ok_law_told T).mono (by decide)) TBm (hcode.symm.trans (hcm _ _ _ _ F)) hmT huT (hr.mono (by decide) : RmG 8 _) (LamX.lamS_by (sc := defScope s_law_strangers_right) (by decide +kernel)) (by rfl) (fun _ _ _ _ _ => rfl) (fun A outer s H E f c0 F hr => (re_op (op2_add rfl (hr.mono (by decide) : RmG 6 _) (takes_of rfl rfl rfl rfl) (Otadd T) (Wtadd T) (Vtadd T)) (re_var 0) (re_var 1)))) (ra_cons (re_lamD (k := 6) (x0 := "_law_n") (by rfl) T.g__law_told (kp_of T.Flaw_told) (takes_of rfl rfl rfl rfl) ((ok_law_told T).mono (by decide)) TBm (hcode.symm.trans (hcm _ _ _ _ F)) hmT huT (hr.mono (by decide) : RmG 8 _) (lamD_by (N := ["_law_f", "_law_g", "_law_told_here"]) (sc := defScope s_law_strangers_right) (by decide +kernel)) (by rfl) (by rfl) (by rfl) (fun _ _ _ _ _ _ _ _ _ hT => BindsTo.of_defaults rfl hT rfl rfl rfl) (fun A outer s H E f c0 F hr => (re_op (op2_own (hr.mono (by decide) : RmG 6 _) (takes_of rfl rfl rfl rfl) (Otand T)) (re_var 0) (re_var 1)))) ra_nil))))
    (rss_frz 2 rfl (rss_cons (rs_own 2 sc_law_strangers_right.nd (by rfl) (by first | exact Or.inl rfl | exact Or.inr rfl) (rf_addL rfl (re_var 2) (re_lst (ra_cons (re_lam (k := 6) (by rfl) T.g__law_told (kp_of T.Flaw_told) (takes_of rfl rfl rfl rfl) ((ok_law_told T).mono (by decide)) TBm (hcode.symm.trans (hcm _ _ _ _ F)) hmT huT (hr.mono (by decide) : RmG 8 _) (LamX.lamS_by (sc := defScope s_law_strangers_right) (by decide +kernel)) (by rfl) (fun _ _ _ _ _ => rfl) (fun A outer s H E f c0 F hr => (re_op (op2_own (hr.mono (by decide) : RmG 6 _) (takes_of rfl rfl rfl rfl) (Otor T)) (re_var 0) (re_var 1)))) (ra_cons (re_lamD (k := 6) (x0 := "_law_n") (by rfl) T.g__law_told (kp_of T.Flaw_told) (takes_of rfl rfl rfl rfl) ((ok_law_told T).mono (by decide)) TBm (hcode.symm.trans (hcm _ _ _ _ F)) hmT huT (hr.mono (by decide) : RmG 8 _) (lamD_by (N := ["_law_f", "_law_g", "_law_told_here"]) (sc := defScope s_law_strangers_right) (by decide +kernel)) (by rfl) (by rfl) (by rfl) (fun _ _ _ _ _ _ _ _ _ hT => BindsTo.of_defaults rfl hT rfl rfl rfl) (fun A outer s H E f c0 F hr => (re_cmp (op2_le (hr.mono (by decide) : RmG 6 _) (takes_of rfl rfl rfl rfl) (Otle T)) (re_var 0) (re_var 1) (nomark _)))) ra_nil)))))
    (rss_cons (rs_app 2 (by rfl) (by first | exact Or.inl rfl | exact Or.inr (Or.inl rfl) | exact Or.inr (Or.inr rfl)) (re_lam (k := 6) (by rfl) T.g__law_told (kp_of T.Flaw_told) (takes_of rfl rfl rfl rfl) ((ok_law_told T).mono (by decide)) TBm (hcode.symm.trans (hcm _ _ _ _ F)) hmT huT (hr.mono (by decide) : RmG 8 _) (LamX.lamS_by (sc := defScope s_law_strangers_right) (by decide +kernel)) (by rfl) (fun _ _ _ _ _ => rfl) (fun A outer s H E f c0 F hr => (re_cmp (op2_lt (hr.mono (by decide) : RmG 6 _) (takes_of rfl rfl rfl rfl) (Otlt T)) (re_var 0) (re_var 1) (nomark _)))))
    (rss_frz 2 rfl (rss_cons (rs_if (rt_w (rw_or (rt_cmp (op2_neL rfl (hr.mono (by decide) : RmG 5 _) (takes_of rfl rfl rfl rfl) (Oteq T) (Wteq T) (Nteq T)) (re_var 2) (re_fr (rf_mulF (rf_lst (ra_cons (re_tup (ra_cons re_str (ra_cons (re_var 1) ra_nil))) ra_nil)) re_int)) (nomark _)) (rw_or1 (rt_cmp (op2_eqL rfl (hr.mono (by decide) : RmG 5 _) (takes_of rfl rfl rfl rfl) (Oteq T) (Wteq T)) (re_var 0) (re_var 1) (nomark _))))) (rss_one (rs_ret re_bl)) rss_nil)
    (rss_one (rs_ret (re_cmp (op2_eqL rfl (hr.mono (by decide) : RmG 5 _) (takes_of rfl rfl rfl rfl) (Oteq T) (Wteq T)) (re_lst (ra_cons (re_lam (k := 6) (by rfl) T.g__law_told (kp_of T.Flaw_told) (takes_of rfl rfl rfl rfl) ((ok_law_told T).mono (by decide)) TBm (hcode.symm.trans (hcm _ _ _ _ F)) hmT huT (hr.mono (by decide) : RmG 8 _) (LamX.lamS_by (sc := defScope s_law_strangers_right) (by decide +kernel)) (by rfl) (fun _ _ _ _ _ => rfl) (fun A outer s H E f c0 F hr => (re_cmp (op2_ge (hr.mono (by decide) : RmG 6 _) (takes_of rfl rfl rfl rfl) (Otge T)) (re_var 0) (re_var 1) (nomark _)))) (ra_cons (re_lamD (k := 6) (x0 := "_law_n") (by rfl) T.g__law_told (kp_of T.Flaw_told) (takes_of rfl rfl rfl rfl) ((ok_law_told T).mono (by decide)) TBm (hcode.symm.trans (hcm _ _ _ _ F)) hmT huT (hr.mono (by decide) : RmG 8 _) (lamD_by (N := ["_law_f", "_law_g", "_law_told_here"]) (sc := defScope s_law_strangers_right) (by decide +kernel)) (by rfl) (by rfl) (by rfl) (fun _ _ _ _ _ _ _ _ _ hT => BindsTo.of_defaults rfl hT rfl rfl rfl) (fun A outer s H E f c0 F hr => (re_cmp (op2_gt (hr.mono (by decide) : RmG 6 _) (takes_of rfl rfl rfl rfl) (Otgt T)) (re_var 0) (re_var 1) (nomark _)))) ra_nil))) (re_fr (rf_mulF (rf_lst (ra_cons (re_tup (ra_cons re_str (ra_cons (re_var 0) ra_nil))) ra_nil)) re_int)) (nomark _))))))))))
/-! law -/
theorem sc_law : FnScope ["_law_script", "_law_m", "_law_turn", "_law_top", "_law_near", "_law_far", "_law_higher", "_law_row", "_law_other_top", "_law_f", "_law_g", "_law_n", "_law_mark"] ["_law_script"] (defScope s_law) := ⟨rfl, rfl, rfl, by decide +kernel, rfl, by decide +kernel, by decide +kernel⟩
/-! _law_folded -/
theorem sc_law_folded : FnScope ["_law_script", "_law_found", "_law_n", "_law_cell"] ["_law_script"] (defScope s_law_folded) := ⟨rfl, rfl, rfl, by decide +kernel, rfl, by decide +kernel, by decide +kernel⟩
def m_law_folded : SM := (sSeq (sOwn 1 (aLc (iRange1 (aCons (eC (.int 64)) aNil)) [2] (.n 2) bYes (eBin (oAdd OT0) (eC (.int 17)) (eVar 2))))
    (sSeq (sFor (iEnum' (aCons (eVar 0) aNil)) (.t [(.n 2), (.n 3)]) (sPut 1 (eBin oMod (eVar 2) (eC (.int 64))) (eBin oMod (eBin (oAdd OT0) (eBin oMul (eOix 1 (eBin oMod (eVar 2) (eC (.int 64)))) (eC (.int 48271))) (eVar 3)) (eC (.int 2147483647)))))
    (sSeq (sFor (iRange2 (aCons (eC (.int 1)) (aCons (eC (.int 64)) aNil))) (.n 2) (sPut 1 (eVar 2) (eBin oMod (eBin (oAdd OT0) (eOix 1 (eVar 2)) (eBin oMul (eOix 1 (eBin (oSub OT0) (eVar 2) (eC (.int 1)))) (eC (.int 16807)))) (eC (.int 2147483647)))))
    (sFrz 1 (sRet (eVar 1))))))
def f_law_folded : PFn := fnP (.pl []) 1 4 m_law_folded
theorem ok_law_folded (T : TX K mg base ads) : FnG P w K mg base 1 (ads 121) (spX (Cc K ads) f_law_folded) := by
  obtain ⟨fd, F⟩ := T.Flaw_folded
  refine def_fn (N := ["_law_script", "_law_found", "_law_n", "_law_cell"]) (ps := ["_law_script"]) F sc_law_folded (bd_pl (F.binds (ps := ["_law_script"]) fun _ _ _ _ _ _ us hl => match us, hl with | [_], _ => rfl) .nil) (fun _ => rfl) fun cdv A outer s H E F0 hr => ?_
  exact (rss_cons (rs_lc_own 1 rfl sc_law_folded.nd (by rfl) (by rfl) (by rfl) (ri_range1 (by rfl) T.z_range (ra_cons re_int ra_nil)) (own := [("_law_n", 2)]) (blk_of (by kernel_rfl)) (by decide) (fun _ _ _ _ _ => (rg_name 2 sc_law_folded.nd (by rfl) (by first | exact Or.inl rfl | exact Or.inr rfl))) (fun _ _ _ _ _ => rts_nil) (fun _ _ _ _ _ => (re_op (op2_add rfl (hr.mono (by decide) : RmG 0 _) (takes0) ownT_none twoT_none twoR_none) re_int (re_var 2))))
    (rss_cons (rs_for (passes_of rfl) rfl (ri_enum rfl (by rfl) T.z_enumerate (ra_cons (re_var 0) ra_nil)) (rg_tup rfl rfl (rgs_cons (rg_name 2 sc_law_folded.nd (by rfl) (by first | exact Or.inl rfl | exact Or.inr rfl)) (rgs_cons (rg_name 3 sc_law_folded.nd (by rfl) (by first | exact Or.inl rfl | exact Or.inr rfl)) rgs_nil)) rfl) (rss_one (rs_put 1 (by rfl) (by first | exact Or.inl rfl | exact Or.inr (Or.inl rfl) | exact Or.inr (Or.inr rfl)) (re_op op2_mod (re_var 2) re_int) (re_op op2_mod (re_op (op2_add rfl (hr.mono (by decide) : RmG 0 _) (takes_of rfl rfl rfl rfl) ownT_none twoT_none twoR_none) (re_op (op2_mul rfl) (re_oix 1 (by rfl) (by first | exact Or.inl rfl | exact Or.inr (Or.inl rfl) | exact Or.inr (Or.inr rfl)) (re_op op2_mod (re_var 2) re_int) (fun _ _ => rfl)) re_int) (re_var 3)) re_int) (pg_sub (pe_var (by rfl) (by first | exact Or.inl rfl | exact Or.inr (Or.inl rfl) | exact Or.inr (Or.inr rfl)) (by decide) (by decide)) (re_op op2_mod (re_var 2) re_int) set_list))))
    (rss_cons (rs_for (passes_of rfl) rfl (ri_range2 (by rfl) T.z_range (ra_cons re_int (ra_cons re_int ra_nil))) (rg_name 2 sc_law_folded.nd (by rfl) (by first | exact Or.inl rfl | exact Or.inr rfl)) (rss_one (rs_put 1 (by rfl) (by first | exact Or.inl rfl | exact Or.inr (Or.inl rfl) | exact Or.inr (Or.inr rfl)) (re_var 2) (re_op op2_mod (re_op (op2_add rfl (hr.mono (by decide) : RmG 0 _) (takes_of rfl rfl rfl rfl) ownT_none twoT_none twoR_none) (re_oix 1 (by rfl) (by first | exact Or.inl rfl | exact Or.inr (Or.inl rfl) | exact Or.inr (Or.inr rfl)) (re_var 2) (fun _ _ => rfl)) (re_op (op2_mul rfl) (re_oix 1 (by rfl) (by first | exact Or.inl rfl | exact Or.inr (Or.inl rfl) | exact Or.inr (Or.inr rfl)) (re_op (op2_sub (hr.mono (by decide) : RmG 0 _) (takes_of rfl rfl rfl rfl) ownT_none) (re_var 2) re_int) (fun _ _ => rfl)) re_int)) re_int) (pg_sub (pe_var (by rfl) (by first | exact Or.inl rfl | exact Or.inr (Or.inl rfl) | exact Or.inr (Or.inr rfl)) (by decide) (by decide)) (re_var 2) set_list))))
    (rss_frz 1 rfl (rss_one (rs_ret (re_var 1)))))))
/-! _law_begun -/
theorem sc_law_begun : FnScope ["_law_script", "_law_m", "_law_cell"] ["_law_script"] (defScope s_law_begun) := ⟨rfl, rfl, rfl, by decide +kernel, rfl, by decide +kernel, by decide +kernel⟩
def m1_law_begun : EM := (eCall f_law_folded (aCons (eVar 0) aNil))
def m2_law_begun : AM := (aLc (iSeq (eVar 0)) [2] (.n 2) bYes (eIf (bBool (eBin (oGe OT0) (eVar 2) (eBin oPow (eC (.int 10)) (eC (.int 18))))) (eVar 2) (eC (.int 0))))
def f_law_begun : List PV → Option DSt := fnB 3 1 m1_law_begun m2_law_begun
theorem ok_law_begun (T : TX K mg base ads) : FnG P w K mg base 2 (ads 123) (spB (Cc K ads) f_law_begun) := by
  obtain ⟨fd, F⟩ := T.Flaw_begun
  refine def_fnB (N := ["_law_script", "_law_m", "_law_cell"]) (y := "_law_script") F sc_law_begun (bd_pl (F.binds (ps := ["_law_script"]) fun _ _ _ _ _ _ us hl => match us, hl with | [_], _ => rfl) .nil) fun cdv A outer s H F0 hr E => ?_
  exact rss_begun (E := fun _ => E) 1 (hu_of (hr.mono (by decide) : RmG 0 _).r) sc_law_begun.nd (by rfl) (by first | exact Or.inl rfl | exact Or.inr rfl) (by first | exact Or.inl rfl | exact Or.inr (Or.inl rfl) | exact Or.inr (Or.inr rfl)) (re_g1 (runC_def (ok_law_folded T) (hr.mono (by decide) : RmG 1 _) (takes_of rfl rfl rfl rfl)) (by rfl) T.g__law_folded (kp_of T.Flaw_folded) (ra_cons (re_var 0) ra_nil)) (rf_lc rfl sc_law_begun.nd (ri_seq rfl (re_var 0)) (own := [("_law_cell", 2)]) (blk_of (by kernel_rfl)) (by decide) (fun _ _ _ _ _ => (rg_name 2 sc_law_begun.nd (by rfl) (by first | exact Or.inl rfl | exact Or.inr rfl))) (fun _ _ _ _ _ => rts_nil) (fun _ _ _ _ _ => (re_if (rt_cmp (op2_ge (hr.mono (by decide) : RmG 0 _) (takes0) ownT_none) (re_var 2) (re_op op2_pow re_int re_int) (nomark _)) (re_var 2) re_int))) (by rfl) (by rfl) (by first | exact Or.inl rfl | exact Or.inr rfl) (by decide) (by decide)
def m_law : SM := (sSeq (sFor (iRange1 (aCons (eC (.int 24)) aNil)) (.n 2) (sSeq (sSet 3 (eBin (oAdd tadd) (eC (.int 1)) (eCallM 1 f_law_draw (aCons (eC (.int 20)) aNil))))
    (sSeq (sAsg (.t [(.n 4), (.n 5)]) (eTup (aCons (eCallM 1 f_law_table (aCons (eVar 3) aNil)) (aCons (eCallM 1 f_law_table (aCons (eVar 3) aNil)) aNil))))
    (sSeq (sSetL 6 (aLc (iEnum' (aCons (eVar 5) aNil)) [11, 12] (.t [(.n 11), (.n 12)]) bYes (eIf (bBool (eBin (oGt tgt) (eVar 12) (eBin (oIx tgetitem) (eVar 4) (eVar 11)))) (eVar 12) (eBin (oIx tgetitem) (eVar 4) (eVar 11)))))
    (sSeq (sFor (iSeq (eTup (aCons (eVar 5) (aCons (eVar 4) (aCons (eCallM 1 f_law_bent (aCons (eVar 4) aNil)) (aCons (eVar 6) (aCons (eRg1 PV.lst (eBin (oAdd tadd) (eVar 3) (eC (.int 1)))) (aCons (eL (aMulF (aLim (aCons (eVar 3) aNil)) (eBin (oAdd tadd) (eVar 3) (eC (.int 1))))) aNil)))))))) (.n 7) (sIf (bOr (bNot (bTru (eCall f_law_pair_right (aCons (eVar 4) (aCons (eVar 7) aNil))))) (bNot (bTru (eCall f_law_pair_right (aCons (eVar 7) (aCons (eVar 4) aNil)))))) (sRet (eC (.bl false))) sNx))
    (sSeq (sIf (bNot (bTru (eCall f_law_three_right (aCons (eVar 4) (aCons (eVar 5) (aCons (eCallM 1 f_law_bent (aCons (eVar 5) aNil)) aNil)))))) (sRet (eC (.bl false))) sNx)
    (sSeq (sSet 8 (eBin (oAdd tadd) (eC (.int 1)) (eBin oMod (eBin (oAdd tadd) (eVar 3) (eCallM 1 f_law_draw (aCons (eC (.int 19)) aNil))) (eC (.int 20)))))
    (sSeq (sPar [9, 10] [.v (eCm tm_RowMap_of (eC (.gl 20)) (aCons (eCall fTuple (aCons (eVar 4) aNil)) aNil)), .v (eCm tm_RowMap_of (eC (.gl 20)) (aCons (eCall fTuple (aCons (eCallM 1 f_law_table (aCons (eVar 8) aNil)) aNil)) aNil))])
    (sIf (bOr (bNot (bTru (eCall f_law_strangers_right (aCons (eVar 9) (aCons (eVar 10) aNil))))) (bNot (bTru (eCall f_law_strangers_right (aCons (eVar 10) (aCons (eVar 9) aNil)))))) (sRet (eC (.bl false))) sNx)))))))))
    (sRet (eC (.bl true))))
theorem ok_law (T : TX K mg base ads) (hf : ∀ ns : List Int, ns.length ≤ 63 → ∃ d0 d', f_law_begun [.lst (ns.map PV.int)] = some d0 ∧ m_law ((startG [.val (.lst (ns.map PV.int))] 13).set 1 .dr) d0 = .rt (.bl true) d') : FnG P w K mg base 10 (ads 130) (spL (Cc K ads) 63) := by
  obtain ⟨fd, F⟩ := T.Flaw
  refine def_law (N := ["_law_script", "_law_m", "_law_turn", "_law_top", "_law_near", "_law_far", "_law_higher", "_law_row", "_law_other_top", "_law_f", "_law_g", "_law_n", "_law_mark"]) (y := "_law_script") (i := 1) (fnb := f_law_begun) (m := m_law) F sc_law (bd_pl (F.binds (ps := ["_law_script"]) fun _ _ _ _ _ _ us hl => match us, hl with | [_], _ => rfl) .nil) (by decide) rfl (fun cdv A outer s H hr E => ?_) (fun cdv A outer s H E F1 H1 p0 cl0 hr => ?_) hf
  · exact ps_set (i := 1) sc_law.nd (by rfl) (by first | exact Or.inl rfl | exact Or.inr rfl) (pe_begun (E := fun _ => E) (ok_law_begun T) (hr.mono (by decide) : RmG 2 _) (takes_of rfl rfl rfl rfl) (by rfl) T.g__law_begun (kp_of T.Flaw_begun) (by rfl) (by first | exact Or.inl rfl | exact Or.inr (Or.inl rfl) | exact Or.inr (Or.inr rfl)))
  · exact (rss_cons (rs_for (passes_of rfl) rfl (ri_range1 (by rfl) T.z_range (ra_cons re_int ra_nil)) (rg_name 2 sc_law.nd (by rfl) (by first | exact Or.inl rfl | exact Or.inr rfl)) (rss_cons (rs_set 3 sc_law.nd (by rfl) (by first | exact Or.inl rfl | exact Or.inr rfl) (re_op (op2_add rfl (hr.mono (by decide) : RmG 6 _) (takes_of rfl rfl rfl rfl) (Otadd T) (Wtadd T) (Vtadd T)) re_int (re_callM 1 (ok_law_draw T) (hr.mono (by decide) : RmG 2 _) (takes_of rfl rfl rfl rfl) (by rfl) T.g__law_draw (kp_of T.Flaw_draw) (by rfl) (by first | exact Or.inl rfl | exact Or.inr (Or.inl rfl) | exact Or.inr (Or.inr rfl)) (ra_cons re_int ra_nil))))
    (rss_cons (rs_asg (re_tup (ra_cons (re_callM 1 (ok_law_table T) (hr.mono (by decide) : RmG 3 _) (takes_of rfl rfl rfl rfl) (by rfl) T.g__law_table (kp_of T.Flaw_table) (by rfl) (by first | exact Or.inl rfl | exact Or.inr (Or.inl rfl) | exact Or.inr (Or.inr rfl)) (ra_cons (re_var 3) ra_nil)) (ra_cons (re_callM 1 (ok_law_table T) (hr.mono (by decide) : RmG 3 _) (takes_of rfl rfl rfl rfl) (by rfl) T.g__law_table (kp_of T.Flaw_table) (by rfl) (by first | exact Or.inl rfl | exact Or.inr (Or.inl rfl) | exact Or.inr (Or.inr rfl)) (ra_cons (re_var 3) ra_nil)) ra_nil))) (rg_tup rfl rfl (rgs_cons (rg_name 4 sc_law.nd (by rfl) (by first | exact Or.inl rfl | exact Or.inr rfl)) (rgs_cons (rg_name 5 sc_law.nd (by rfl) (by first | exact Or.inl rfl | exact Or.inr rfl)) rgs_nil)) rfl))
    (rss_cons (rs_lc_set 6 rfl sc_law.nd (by rfl) (by rfl) (by rfl) (ri_enum rfl (by rfl) T.z_enumerate (ra_cons (re_var 5) ra_nil)) (own := [("_law_n", 11), ("_law_mark", 12)]) (blk_of (by kernel_rfl)) (by decide) (fun _ _ _ _ _ => (rg_tup rfl rfl (rgs_cons (rg_name 11 sc_law.nd (by rfl) (by first | exact Or.inl rfl | exact Or.inr rfl)) (rgs_cons (rg_name 12 sc_law.nd (by rfl) (by first | exact Or.inl rfl | exact Or.inr rfl)) rgs_nil)) rfl)) (fun _ _ _ _ _ => rts_nil) (fun _ _ _ _ _ => (re_if (rt_cmp (op2_gt (hr.mono (by decide) : RmG 6 _) (takes0) (Otgt T)) (re_var 12) (re_ix rfl (hr.mono (by decide) : RmG 4 _) (takes0) (Otgetitem T) (re_var 4) (re_var 11) (fun _ _ => rfl)) (nomark _)) (re_var 12) (re_ix rfl (hr.mono (by decide) : RmG 4 _) (takes0) (Otgetitem T) (re_var 4) (re_var 11) (fun _ _ => rfl)))))
    (rss_cons (rs_for (passes_of rfl) rfl (ri_seq rfl (re_tup (ra_cons (re_var 5) (ra_cons (re_var 4) (ra_cons (re_callM 1 (ok_law_bent T) (hr.mono (by decide) : RmG 7 _) (takes_of rfl rfl rfl rfl) (by rfl) T.g__law_bent (kp_of T.Flaw_bent) (by rfl) (by first | exact Or.inl rfl | exact Or.inr (Or.inl rfl) | exact Or.inr (Or.inr rfl)) (ra_cons (re_var 4) ra_nil)) (ra_cons (re_var 6) (ra_cons (re_lstRg1 rfl (by rfl) T.z_list (by rfl) T.z_range (re_op (op2_add rfl (hr.mono (by decide) : RmG 6 _) (takes_of rfl rfl rfl rfl) (Otadd T) (Wtadd T) (Vtadd T)) (re_var 3) re_int)) (ra_cons (re_fr (rf_mulF (rf_lst (ra_cons (re_var 3) ra_nil)) (re_op (op2_add rfl (hr.mono (by decide) : RmG 6 _) (takes_of rfl rfl rfl rfl) (Otadd T) (Wtadd T) (Vtadd T)) (re_var 3) re_int))) ra_nil)))))))) (rg_name 7 sc_law.nd (by rfl) (by first | exact Or.inl rfl | exact Or.inr rfl)) (rss_one (rs_if (rt_w (rw_or (rt_not (rt_val rfl (re_g1 (runC_def (ok_law_pair_right T) (hr.mono (by decide) : RmG 7 _) (takes_of rfl rfl rfl rfl)) (by rfl) T.g__law_pair_right (kp_of T.Flaw_pair_right) (ra_cons (re_var 4) (ra_cons (re_var 7) ra_nil))))) (rw_or1 (rt_not (rt_val rfl (re_g1 (runC_def (ok_law_pair_right T) (hr.mono (by decide) : RmG 7 _) (takes_of rfl rfl rfl rfl)) (by rfl) T.g__law_pair_right (kp_of T.Flaw_pair_right) (ra_cons (re_var 7) (ra_cons (re_var 4) ra_nil)))))))) (rss_one (rs_ret re_bl)) rss_nil)))
    (rss_cons (rs_if (rt_not (rt_val rfl (re_g1 (runC_def (ok_law_three_right T) (hr.mono (by decide) : RmG 7 _) (takes_of rfl rfl rfl rfl)) (by rfl) T.g__law_three_right (kp_of T.Flaw_three_right) (ra_cons (re_var 4) (ra_cons (re_var 5) (ra_cons (re_callM 1 (ok_law_bent T) (hr.mono (by decide) : RmG 7 _) (takes_of rfl rfl rfl rfl) (by rfl) T.g__law_bent (kp_of T.Flaw_bent) (by rfl) (by first | exact Or.inl rfl | exact Or.inr (Or.inl rfl) | exact Or.inr (Or.inr rfl)) (ra_cons (re_var 5) ra_nil)) ra_nil)))))) (rss_one (rs_ret re_bl)) rss_nil)
    (rss_cons (rs_set 8 sc_law.nd (by rfl) (by first | exact Or.inl rfl | exact Or.inr rfl) (re_op (op2_add rfl (hr.mono (by decide) : RmG 6 _) (takes_of rfl rfl rfl rfl) (Otadd T) (Wtadd T) (Vtadd T)) re_int (re_op op2_mod (re_op (op2_add rfl (hr.mono (by decide) : RmG 6 _) (takes_of rfl rfl rfl rfl) (Otadd T) (Wtadd T) (Vtadd T)) (re_var 3) (re_callM 1 (ok_law_draw T) (hr.mono (by decide) : RmG 2 _) (takes_of rfl rfl rfl rfl) (by rfl) T.g__law_draw (kp_of T.Flaw_draw) (by rfl) (by first | exact Or.inl rfl | exact Or.inr (Or.inl rfl) | exact Or.inr (Or.inr rfl)) (ra_cons re_int ra_nil))) re_int)))
    (rss_cons (rs_par2 (i := 9) (j := 10) rfl sc_law.nd (by rfl) (by rfl) (by decide) (by rfl) (by rfl) (rm_v (re_cm (hr.mono (by decide) : RmG 4 _) (takes_of rfl rfl rfl rfl) (Ttm_RowMap_of T) (re_gl (by rfl) T.g_RowMap rfl) (ra_cons (re_tyc (blt_tuple rfl) (by rfl) T.z_tuple (by rfl) (ra_cons (re_var 4) ra_nil)) ra_nil)) (rm_v (re_cm (hr.mono (by decide) : RmG 4 _) (takes_of rfl rfl rfl rfl) (Ttm_RowMap_of T) (re_gl (by rfl) T.g_RowMap rfl) (ra_cons (re_tyc (blt_tuple rfl) (by rfl) T.z_tuple (by rfl) (ra_cons (re_callM 1 (ok_law_table T) (hr.mono (by decide) : RmG 3 _) (takes_of rfl rfl rfl rfl) (by rfl) T.g__law_table (kp_of T.Flaw_table) (by rfl) (by first | exact Or.inl rfl | exact Or.inr (Or.inl rfl) | exact Or.inr (Or.inr rfl)) (ra_cons (re_var 8) ra_nil)) ra_nil)) ra_nil)) rm_nil)) (by rfl))
    (rss_one (rs_if (rt_w (rw_or (rt_not (rt_val rfl (re_g1 (runC_def (ok_law_strangers_right T) (hr.mono (by decide) : RmG 9 _) (takes_of rfl rfl rfl rfl)) (by rfl) T.g__law_strangers_right (kp_of T.Flaw_strangers_right) (ra_cons (re_var 9) (ra_cons (re_var 10) ra_nil))))) (rw_or1 (rt_not (rt_val rfl (re_g1 (runC_def (ok_law_strangers_right T) (hr.mono (by decide) : RmG 9 _) (takes_of rfl rfl rfl rfl)) (by rfl) T.g__law_strangers_right (kp_of T.Flaw_strangers_right) (ra_cons (re_var 10) (ra_cons (re_var 9) ra_nil)))))))) (rss_one (rs_ret re_bl)) rss_nil))))))))))
    (rss_one (rs_ret re_bl)))
end
end G
end M_Gk05
section M_k05_Fk1
namespace G
open PySem RL
def mixI (c n : Int) : Int := ((c * (1 + 2 * n) * 48271 % 2147483647 + 7919 * n * n + 104729 * n) * 69621 % 2147483629) / 7
theorem v_law_mixed {c n : Int} (hc : SM64 c) (hn : SM64 n) : f_law_mixed [.int c, .int n] = .ok (.int (mixI c n)) := by
  have s1 : SM64 48271 := by decide
  have s2 : SM64 7919 := by decide
  have s3 : SM64 104729 := by decide
  have s4 : SM64 69621 := by decide
  have s5 : SM64 2 := by decide
  simp [f_law_mixed, m_law_mixed, fnP, BkP.b, runB, startG, RS.o, sSeq, sSet, sE, sRet, eBin, eVar, eC, oAdd, oMul, oMod, oDiv, O.r, R.bind, hc, hn, s1, s2, s3, s4, s5, mixI]
end G
namespace G
open PySem RL
structure DI (n : Nat) (d : DSt) : Prop where
  len : d.cells.length = 64
  cel : ∀ c ∈ d.cells, 0 ≤ c ∧ c < 2147483648
  s0 : 0 ≤ d.spot
  s1 : d.spot ≤ n
theorem DI.mono {n m : Nat} {d : DSt} (h : DI n d) (l : n ≤ m) : DI m d := ⟨h.len, h.cel, h.s0, by have := h.s1; omega⟩
theorem ixN_in {n : Nat} {k : Int} (h0 : 0 ≤ k) (h1 : k < n) : L2.ixN n k = some k.toNat := by
  unfold L2.ixN
  rw [if_pos h0, if_pos h1]
theorem v_law_draw {n : Nat} {d : DSt} {top : Int} (h : DI n d) (hn : n < 1000000) (h0 : 0 < top) (h1 : top < 1000000) : ∃ v d', f_law_draw [.int top] d = .ok (.int v) d' ∧ 0 ≤ v ∧ v < top ∧ DI (n + 1) d' := by
  obtain ⟨cs, gs, sp⟩ := d
  obtain ⟨hl, hc, hs0, hs1⟩ := h
  simp only at hl hc hs0 hs1
  have hm : (0 : Int) ≤ sp % 64 ∧ sp % 64 < 64 := ⟨Int.emod_nonneg _ (by decide), Int.emod_lt_of_pos _ (by decide)⟩
  have hi : L2.ixN cs.length (sp % 64) = some (sp % 64).toNat := ixN_in hm.1 (by omega)
  obtain ⟨c, ec⟩ : ∃ c, cs[(sp % 64).toNat]? = some c := ⟨_, List.getElem?_eq_getElem (by omega)⟩
  have hcc := hc c (List.mem_of_getElem? ec)
  have sc : SM64 (c + 31 * (sp / 64)) := by
    unfold SM64
    have : sp / 64 ≤ sp := by omega
    have : 0 ≤ sp / 64 := by omega
    omega
  have ss : SM64 sp := by unfold SM64; omega
  have ss7 : SM64 (sp + 7) := by unfold SM64; omega
  have s31 : SM64 31 := by decide
  have e1 := v_law_mixed sc ss
  have smx : SM64 (mixI (c + 31 * (sp / 64)) sp) := by
    unfold mixI SM64
    have a0 := Int.emod_nonneg (((c + 31 * (sp / 64)) * (1 + 2 * sp) * 48271 % 2147483647 + 7919 * sp * sp + 104729 * sp) * 69621) (show (2147483629 : Int) ≠ 0 by decide)
    have a1 := Int.emod_lt_of_pos (((c + 31 * (sp / 64)) * (1 + 2 * sp) * 48271 % 2147483647 + 7919 * sp * sp + 104729 * sp) * 69621) (show (0 : Int) < 2147483629 by decide)
    omega
  have e2 := v_law_mixed smx ss7
  have shn : SeqAt.shaped (PyData.list []) = true := shaped_ints []
  have eqn : PyData.eqv (PyData.list []) (PyData.list []) = true := eqvAll_nil []
  have sgs := shaped_ints gs
  have egs := eqvAll_nil gs
  have ok : ∀ g : List Int, DI (n + 1) ⟨cs, g, sp + 1⟩ := fun g => ⟨hl, hc, by show 0 ≤ sp + 1; omega, by show sp + 1 ≤ ((n + 1 : Nat) : Int); omega⟩
  have fin : 0 ≤ mixI (mixI (c + 31 * (sp / 64)) sp) (sp + 7) % top ∧ mixI (mixI (c + 31 * (sp / 64)) sp) (sp + 7) % top < top := ⟨Int.emod_nonneg _ (by omega), Int.emod_lt_of_pos _ h0⟩
  by_cases hg : gs = []
  · subst hg
    refine ⟨_, ⟨cs, [], sp + 1⟩, ?_, fin.1, fin.2, ok []⟩
    simp [f_law_draw, m_law_draw, runM, startG, RS.om, sSeq, sSet, sE, sRet, sIf, eBin, eVar, eC, oAdd, oMul, oMod, oDiv, O.r, R.bind, eSpot, sSpot, bGr, eCellIx, eCall, aCons, aNil, shn, eqn, hi, ec, e1, e2, h0, s31, sNx]
  · have hge : gs.isEmpty = false := by cases gs with | nil => exact absurd rfl hg | cons => rfl
    have hgl : 0 < gs.length := List.length_pos_iff.mpr hg
    have hg0 : (0 : Int) < gs.length := by omega
    have hmg : (0 : Int) ≤ sp % gs.length ∧ sp % gs.length < gs.length := ⟨Int.emod_nonneg _ (by omega), Int.emod_lt_of_pos _ hg0⟩
    have hig : L2.ixN gs.length (sp % gs.length) = some (sp % gs.length).toNat := ixN_in hmg.1 hmg.2
    obtain ⟨v, ev⟩ : ∃ v, gs[(sp % gs.length).toNat]? = some v := ⟨_, List.getElem?_eq_getElem (by omega)⟩
    rw [hge] at egs
    have h2 : top < 1073741824 := by omega
    by_cases hv : 0 < v
    · refine ⟨v % top, ⟨cs, gs.set (sp % gs.length).toNat (v / top), sp + 1⟩, ?_, Int.emod_nonneg _ (by omega), Int.emod_lt_of_pos _ h0, ok _⟩
      simp [f_law_draw, m_law_draw, runM, startG, RS.om, sSeq, sSet, sE, sRet, sIf, eBin, eVar, eC, oAdd, oMul, oMod, oDiv, O.r, R.bind, eSpot, sSpot, bGr, eGrLen, eGrIx, sGr, eCellIx, eCall, aCons, aNil, sgs, egs, hi, ec, e1, e2, h0, s31, sNx, hg0, hgl, hig, ev, bBool, oGt, oCmp, hv, h2]
    · refine ⟨_, ⟨cs, gs, sp + 1⟩, ?_, fin.1, fin.2, ok gs⟩
      simp [f_law_draw, m_law_draw, runM, startG, RS.om, sSeq, sSet, sE, sRet, sIf, eBin, eVar, eC, oAdd, oMul, oMod, oDiv, O.r, R.bind, eSpot, sSpot, bGr, eGrLen, eGrIx, sGr, eCellIx, eCall, aCons, aNil, sgs, egs, hi, ec, e1, e2, h0, s31, sNx, hg0, hgl, hig, ev, bBool, oGt, oCmp, hv, h2]
end G
end M_k05_Fk1
section M_k05_Fk2
namespace G
open PySem RL
def mk (t : List Int) : PV := .ins 20 [.tup (t.map PV.int)]
structure Va (t : List Int) : Prop where
  l2 : 2 ≤ t.length
  l21 : t.length ≤ 21
  r : ∀ x ∈ t, 0 ≤ x ∧ x < t.length
  m : t.Pairwise (· ≤ ·)
theorem Va.mono {t : List Int} (h : Va t) {i j : Nat} {x y : Int} (hi : t[i]? = some x) (hj : t[j]? = some y) (hij : i ≤ j) : x ≤ y := by
  obtain ⟨a, rfl⟩ := List.getElem?_eq_some_iff.mp hi
  obtain ⟨b, rfl⟩ := List.getElem?_eq_some_iff.mp hj
  rcases Nat.lt_or_eq_of_le hij with q | q
  · exact (List.pairwise_iff_getElem.mp h.m) i j a b q
  · subst q; exact Int.le_refl _
theorem v_RowMap_init {t : List Int} (h : Va t) : f_RowMap_init (t.map PV.int) = .ok (mk t) := by
  have h1 := h.l2
  have h2 := h.l21
  have h3 : t.length + 1 < LIM := by show _ < 100000; omega
  have h4 : ¬ (t.length : Int) < 2 := by omega
  have h5 : ¬ (20 : Int) + 1 < t.length := by omega
  have h6 : ¬ (21 : Int) < t.length := by omega
  simp -implicitDefEqProofs [f_RowMap_init, m_RowMap_init, fnI, BkP.bI, h3, runI, startG, h4, h5, h6]
  generalize hs : sLoop _ _ _ _ _ = out
  obtain ⟨ρ', d', rfl, b, s4, rfl, rfl, _⟩ := sLoop_runN hs (fun n ρ d => ∃ (b : Int) (s4 : Sl), ρ = [.obj 20 [], .val (.tup (t.map PV.int)), .val (.int t.length), .val (.int b), s4] ∧ d = default ∧ ∀ x, t[n]? = some x → b ≤ x)
    ⟨0, .un, rfl, rfl, fun x e => (h.r x (List.mem_of_getElem? e)).1⟩ fun j x ρ d o ex hI ho => by
      obtain ⟨b, s4, rfl, rfl, hb⟩ := hI
      rw [List.getElem?_map] at ex
      cases q : t[j]? with
      | none => rw [q] at ex; cases ex
      | some v =>
        rw [q] at ex; cases ex
        have hv := h.r v (List.mem_of_getElem? q)
        have a1 : ¬ v < b := by have := hb v q; omega
        have a2 : ¬ (t.length : Int) ≤ v := by omega
        refine ⟨[.obj 20 [], .val (.tup (t.map PV.int)), .val (.int t.length), .val (.int v), .val (.int v)], default, ?_, v, _, rfl, rfl, fun y ey => h.mono q ey (Nat.le_succ _)⟩
        rw [← ho]
        simp -implicitDefEqProofs [a1, a2]
  simp -implicitDefEqProofs [endI, mk]
theorem v_RowMap {t : List Int} (h : Va t) : n_RowMap (t.map PV.int) = .ok (mk t) := by
  show mkF 20 false f_RowMap_init _ = _
  unfold mkF
  rw [v_RowMap_init h]
  rfl
end G
end M_k05_Fk2
section M_k05_Fk3
namespace G
open PySem RL
def gt (u : List Int) (v : Int) : Int := (u[v.toNat]?).getD 0
def dn (t u : List Int) : List Int := t.map (gt u)
def lo (t u : List Int) : List Int := t.zipWith (fun x y => if x ≤ y then x else y) u
def hi (t u : List Int) : List Int := t.zipWith (fun x y => if x ≤ y then y else x) u
theorem gt_get {u : List Int} {v : Int} (h0 : 0 ≤ v) (h1 : v < u.length) : u[v.toNat]? = some (gt u v) := by
  unfold gt
  rw [List.getElem?_eq_getElem (by omega)]
  rfl
theorem Va.gt {u : List Int} (h : Va u) {v : Int} (h0 : 0 ≤ v) (h1 : v < u.length) : 0 ≤ gt u v ∧ gt u v < u.length := h.r _ (List.mem_of_getElem? (gt_get h0 h1))
theorem Va.gtm {u : List Int} (h : Va u) {v w : Int} (h0 : 0 ≤ v) (h1 : v ≤ w) (h2 : w < u.length) : G.gt u v ≤ G.gt u w := h.mono (gt_get h0 (by omega)) (gt_get (by omega) h2) (by omega)
theorem va_dn {t u : List Int} (h : Va t) (k : Va u) (e : t.length = u.length) : Va (dn t u) := by
  refine ⟨by simp [dn, h.l2], by simp [dn, h.l21], fun x hx => ?_, ?_⟩
  · obtain ⟨v, hv, rfl⟩ := List.mem_map.mp hx
    have z := h.r v hv
    have := k.gt z.1 (by omega)
    simpa [dn, e] using this
  · unfold dn
    rw [List.pairwise_map]
    exact h.m.imp_of_mem fun {a b} ha hb hab => k.gtm (h.r a ha).1 hab (by have := (h.r b hb).2; omega)
theorem zip_get {f : Int → Int → Int} {t u : List Int} {i : Nat} {z : Int} (e : (t.zipWith f u)[i]? = some z) : ∃ x y, t[i]? = some x ∧ u[i]? = some y ∧ z = f x y := by
  rw [List.getElem?_zipWith] at e
  cases a : t[i]? with
  | none => rw [a] at e; simp at e
  | some x => cases b : u[i]? with
    | none => rw [a, b] at e; simp at e
    | some y => rw [a, b] at e; simp at e; exact ⟨x, y, rfl, rfl, e.symm⟩
theorem va_zip {f : Int → Int → Int} (hf : ∀ x y, f x y = x ∨ f x y = y) (hm : ∀ x y x' y', x ≤ x' → y ≤ y' → f x y ≤ f x' y') {t u : List Int} (h : Va t) (k : Va u) (e : t.length = u.length) : Va (t.zipWith f u) := by
  have hl : (t.zipWith f u).length = t.length := by simp [List.length_zipWith, e]
  refine ⟨by rw [hl]; exact h.l2, by rw [hl]; exact h.l21, fun z hz => ?_, ?_⟩
  · obtain ⟨i, hi, ez⟩ := List.getElem_of_mem hz
    obtain ⟨x, y, ex, ey, rfl⟩ := zip_get (show (t.zipWith f u)[i]? = some z by rw [List.getElem?_eq_getElem hi, ez])
    have a := h.r x (List.mem_of_getElem? ex)
    have b := k.r y (List.mem_of_getElem? ey)
    rw [hl]
    rcases hf x y with q | q <;> rw [q] <;> omega
  · rw [List.pairwise_iff_getElem]
    intro i j hi hj hij
    obtain ⟨x, y, ex, ey, e1⟩ := zip_get (show (t.zipWith f u)[i]? = some _ from List.getElem?_eq_getElem hi)
    obtain ⟨x', y', ex', ey', e2⟩ := zip_get (show (t.zipWith f u)[j]? = some _ from List.getElem?_eq_getElem hj)
    rw [e1, e2]
    exact hm _ _ _ _ (h.mono ex ex' (by omega)) (k.mono ey ey' (by omega))
theorem va_lo {t u : List Int} (h : Va t) (k : Va u) (e : t.length = u.length) : Va (lo t u) :=
  va_zip (fun x y => by split <;> simp) (fun x y x' y' a b => by split <;> split <;> omega) h k e
theorem va_hi {t u : List Int} (h : Va t) (k : Va u) (e : t.length = u.length) : Va (hi t u) :=
  va_zip (fun x y => by split <;> simp) (fun x y x' y' a b => by split <;> split <;> omega) h k e
theorem len_dn (t u : List Int) : (dn t u).length = t.length := by simp [dn]
theorem len_lo {t u : List Int} (e : t.length = u.length) : (lo t u).length = t.length := by simp [lo, List.length_zipWith, e]
theorem len_hi {t u : List Int} (e : t.length = u.length) : (hi t u).length = t.length := by simp [hi, List.length_zipWith, e]
/-! ### the methods -/
theorem v_RowMap_last (t : List Int) : f_RowMap_last [mk t] = .ok (.int (t.length - 1)) := by
  simp [f_RowMap_last, m_RowMap_last, fnP, BkP.b, runB, startG, RS.o, sRet_a, eBin, eVar, eC, eCall, aCons, aNil, O.r, R.bind, eUn, oAttr, ta__images, mk, fLen, oSub]
theorem v_RowMap_images (t : List Int) : f_RowMap_images [mk t] = .ok (.tup (t.map PV.int)) := by
  simp [f_RowMap_images, m_RowMap_images, fnP, BkP.b, runB, startG, RS.o, sRet_a, eVar, O.r, R.bind, eUn, oAttr, ta__images, mk]
theorem v_check_map (t : List Int) : f_check_map [mk t] = .ok .non := by
  simp [f_check_map, m_check_map, fnP, BkP.b, runB, startG, RS.o, sIf, bNot, bTru, eVar, eC, eCall, aCons, aNil, O.r, R.bind, fIsi, pty, ib, mk, tru, sNx]
theorem v_RowMap_lastu (t : List Int) : f_RowMap_last [.ins 20 [.tup (t.map PV.int)]] = .ok (.int (t.length - 1)) := v_RowMap_last t
theorem v_RowMap_imagesu (t : List Int) : f_RowMap_images [.ins 20 [.tup (t.map PV.int)]] = .ok (.tup (t.map PV.int)) := v_RowMap_images t
theorem shaped_int (i : Int) : SeqAt.shaped (.int i) = true := by simp [SeqAt.shaped, PyData.canLay0, PyData.depth]
theorem v_check_same_row {t u : List Int} (e : t.length = u.length) : f_check_same_row [mk t, mk u] = .ok .non := by
  simp [f_check_same_row, m_check_same_row, fnP, BkP.b, runB, startG, RS.o, sIf, bBool, eBin, eVar, O.r, R.bind, eUn, oAttr, ta_last, mk, v_RowMap_lastu, oEqD, toD, e, shaped_int, PyData.eqv, sNx]
theorem v_check_pair {t u : List Int} (e : t.length = u.length) : f_check_pair_maps [mk t, mk u] = .ok .non := by
  simp [f_check_pair_maps, m_check_pair_maps, fnP, BkP.b, runB, startG, RS.o, sSeq, sDo_a, eVar, O.r, R.bind, eCall, aCons, aNil, v_check_map, v_check_same_row e]
theorem lt_LIM {t : List Int} (h : Va t) : t.length < LIM := by have := h.l21; show _ < 100000; omega
theorem ix_gt {t u : List Int} {v : Int} (h0 : 0 ≤ v) (h1 : v < u.length) : (L2.ixN u.length v).bind (fun j => u[j]?) = some (gt u v) := by
  rw [ixN_in h0 h1]; exact gt_get h0 h1
theorem ix_map {u : List Int} {v : Int} (h0 : 0 ≤ v) (h1 : v < u.length) : (L2.ixN (u.map PV.int).length v).bind (fun j => (u.map PV.int)[j]?) = some (.int (gt u v)) := by
  rw [List.length_map, ixN_in h0 h1]
  show (u.map PV.int)[v.toNat]? = _
  rw [List.getElem?_map, gt_get h0 h1]; rfl
def gI (u : List Int) : PV → PV
  | .int v => .int (gt u v)
  | _ => .non
theorem map_gI (t u : List Int) : (t.map PV.int).map (gI u) = (dn t u).map PV.int := by simp [dn, gI]
theorem at_im (t : List Int) : oAttr ta__images (mk t) = .ok (.tup (t.map PV.int)) := rfl
theorem at_ims (t : List Int) : oAttr ta_images (mk t) = .ok (.tup (t.map PV.int)) := by
  simp [oAttr, ta_images, mk, v_RowMap_imagesu]
theorem at_last (t : List Int) : oAttr ta_last (mk t) = .ok (.int (t.length - 1)) := by
  simp [oAttr, ta_last, mk, v_RowMap_lastu]
theorem oIx_tup {u : List Int} {v : Int} (h0 : 0 ≤ v) (h1 : v < u.length) : oIx OT0 (.tup (u.map PV.int)) (.int v) = .ok (.int (gt u v)) := by
  have z := ix_map (u := u) h0 h1
  simp only [oIx]
  rw [z]
theorem oIx_lst {o : OT} {u : List Int} {v : Int} (h0 : 0 ≤ v) (h1 : v < u.length) : oIx o (.lst (u.map PV.int)) (.int v) = .ok (.int (gt u v)) := by
  have z := ix_map (u := u) h0 h1
  simp only [oIx]
  rw [z]
theorem v_with_images (t : List Int) : f_with_images [.tup (t.map PV.int)] = .ok (mk t) := by
  have z : f_RowMap_init [.int 0, .int 0] = .ok (mk [0, 0]) := v_RowMap_init (t := [0, 0]) ⟨by decide, by decide, by decide, by decide⟩
  simp -implicitDefEqProofs [f_with_images, m_with_images, fnP, BkP.b, runB, startG, z, mk]
theorem v_RowMap_add {t u : List Int} (h : Va t) (k : Va u) (e : t.length = u.length) : f_RowMap_add [mk t, mk u] = .ok (mk (dn t u)) := by
  have hL := lt_LIM h
  have hls : ∀ ρ me d, lcR ρ (.n 3) bYes me (t.map PV.int) d = mapR t (fun x d => me (ρ.set 3 (.val (.int x))) d) d := fun ρ me d => lcR_ints hL
  simp -implicitDefEqProofs [f_RowMap_add, m_RowMap_add, fnP, BkP.b, runB, startG, v_check_pair e, at_im, hls]
  rw [mapR_ok (fun x => PV.int (gt u x)) fun x hx => by
    have z := h.r x hx
    rw [oIx_tup (u := u) z.1 (by omega)]; rfl]
  have ed : (t.map fun x => PV.int (gt u x)) = (dn t u).map PV.int := by unfold dn; rw [List.map_map]; rfl
  simp -implicitDefEqProofs [ed, v_with_images]
def pI (f : Int → Int → Int) : PV → PV
  | .tup [.int x, .int y] => .int (f x y)
  | _ => .non
theorem map_pI (f : Int → Int → Int) (t u : List Int) : (zipP (t.map PV.int) (u.map PV.int)).map (pI f) = (t.zipWith f u).map PV.int := by
  rw [zipP_ints]
  induction t generalizing u with
  | nil => rfl
  | cons x t ih => cases u with
    | nil => rfl
    | cons y u => simp only [List.zip_cons_cons, List.map_cons, List.zipWith_cons_cons, ih]; rfl
theorem v_RowMap_and {t u : List Int} (h : Va t) (k : Va u) (e : t.length = u.length) : f_RowMap_and [mk t, mk u] = .ok (mk (lo t u)) := by
  have hL := lt_LIM h
  have hls : ∀ ρ i j me d, lcR ρ (.t [.n i, .n j]) bYes me (zipP (t.map PV.int) (u.map PV.int)) d = map2R t u (fun x y d => me ((ρ.set i (.val (.int x))).set j (.val (.int y))) d) d := fun ρ i j me d => lcR_zip hL
  simp -implicitDefEqProofs [f_RowMap_and, m_RowMap_and, fnP, BkP.b, runB, startG, v_check_pair e, at_im, hls]
  rw [map2R_ok (fun x y => PV.int (if x ≤ y then x else y)) fun x _ y _ => by by_cases q : x ≤ y <;> simp [q]]
  have ed : (List.zipWith (fun x y => PV.int (if x ≤ y then x else y)) t u) = (lo t u).map PV.int := by unfold lo; rw [List.map_zipWith]
  simp -implicitDefEqProofs [ed, v_with_images]
theorem v_RowMap_or {t u : List Int} (h : Va t) (k : Va u) (e : t.length = u.length) : f_RowMap_or [mk t, mk u] = .ok (mk (hi t u)) := by
  have hL := lt_LIM h
  have hls : ∀ ρ i j me d, lcR ρ (.t [.n i, .n j]) bYes me (zipP (t.map PV.int) (u.map PV.int)) d = map2R t u (fun x y d => me ((ρ.set i (.val (.int x))).set j (.val (.int y))) d) d := fun ρ i j me d => lcR_zip hL
  simp -implicitDefEqProofs [f_RowMap_or, m_RowMap_or, fnP, BkP.b, runB, startG, v_check_pair e, at_im, hls]
  rw [map2R_ok (fun x y => PV.int (if x ≤ y then y else x)) fun x _ y _ => by by_cases q : x ≤ y <;> simp [q]]
  have ed : (List.zipWith (fun x y => PV.int (if x ≤ y then y else x)) t u) = (hi t u).map PV.int := by unfold hi; rw [List.map_zipWith]
  simp -implicitDefEqProofs [ed, v_with_images]
/-- no value of t is greater than that of u for the same place -/
def le (t u : List Int) : Bool := (t.zip u).all fun p => decide (p.1 ≤ p.2)
def bI : PV → PV
  | .tup [.int x, .int y] => .bl (decide (x ≤ y))
  | _ => .non
theorem bls_map : ∀ l : List Bool, bls (l.map PV.bl) = some l
  | [] => rfl
  | b :: l => by
    show (bls (l.map PV.bl)).map (b :: ·) = _
    rw [bls_map l]; rfl
theorem map_bI (l : List (Int × Int)) : (l.map fun p => PV.tup [.int p.1, .int p.2]).map bI = (l.map fun p => decide (p.1 ≤ p.2)).map PV.bl := by
  simp [bI]
theorem v_is_below {t u : List Int} (h : Va t) (k : Va u) (e : t.length = u.length) : f_is_below [mk t, mk u] = .ok (.bl (le t u)) := by
  have lc : lcGo [.val (mk t), .val (mk u), .un, .un] (.t [.n 2, .n 3]) bYes (eBin (oLe OT0) (eVar 2) (eVar 3)) (zipP (t.map PV.int) (u.map PV.int)) default = .ok (((t.zip u).map fun p => decide (p.1 ≤ p.2)).map PV.bl) default := by
    rw [← map_bI, ← zipP_ints]
    refine lcGo_map fun x hx => ?_
    rw [zipP_ints] at hx
    obtain ⟨⟨a, b⟩, _, rfl⟩ := List.mem_map.mp hx
    refine ⟨_, rfl, ?_⟩
    simp [eBin, oLe, oCmp, eVar, O.r, R.bind, bI]
  have hL := lt_LIM h
  have hz : (zipP (t.map PV.int) (u.map PV.int)).length < LIM := by rw [zipP_len]; simp; omega
  simp only [f_is_below, m_is_below, fnP, BkP.b, runB]
  simp [startG, RS.o, sSeq, sDo_a, sRet_a, eVar, O.r, R.bind, eCall, aCons, aNil, v_check_same_row e, aLc, iZip', eUn, at_ims, wipeR, eL, hz]
  rw [lc]
  simp only [R.bind, fAll, bls_map]
  simp [O.r, le, List.all_map]
end G
end M_k05_Fk3
section M_k05_Fk4
namespace G
open PySem RL
theorem shaped_tup (l : List Int) : SeqAt.shaped (.tuple (l.map PyData.int)) = true := by
  unfold SeqAt.shaped
  simp [PyData.canLay0, lay_ints, PyData.depth, depth_ints]
theorem oEqD_tup (b : Bool) (t u : List Int) : oEqD b (.tup (t.map PV.int)) (.tup (u.map PV.int)) = .ok (.bl (xor b (decide (t = u)))) := by
  simp [oEqD, toD, toDs_ints, shaped_tup, PyData.eqv, eqvAll_ints]
theorem oEqD_lst (b : Bool) (t u : List Int) : oEqD b (.lst (t.map PV.int)) (.lst (u.map PV.int)) = .ok (.bl (xor b (decide (t = u)))) := by
  simp [oEqD, toD, toDs_ints, shaped_ints, PyData.eqv, eqvAll_ints]
theorem oEqD_int (b : Bool) (i j : Int) : oEqD b (.int i) (.int j) = .ok (.bl (xor b (decide (i = j)))) := by
  simp [oEqD, toD, shaped_int, PyData.eqv]
  rfl
theorem v_RowMap_eq (t u : List Int) : f_RowMap_eq [mk t, mk u] = .ok (.bl (decide (t = u))) := by
  have h1 : fIsi ib [mk u, .gl 20] = .ok (.bl true) := rfl
  simp [f_RowMap_eq, m_RowMap_eq, fnP, BkP.b, runB, startG, RS.o, sRet_a, eVar, eC, O.r, R.bind, eCall, aCons, aNil, eAnd, eBin, eUn, at_im, oEq, oEqD_tup, h1]
theorem v_RowMap_len (t : List Int) : f_RowMap_len [mk t] = .ok (.int t.length) := by
  simp [f_RowMap_len, m_RowMap_len, fnP, BkP.b, runB, startG, RS.o, sRet_a, eVar, O.r, R.bind, eCall, aCons, aNil, eUn, at_im, fLen]
theorem v_value_at {u : List Int} {v : Int} (h0 : 0 ≤ v) (h1 : v < u.length) : f_value_at [.tup (u.map PV.int), .int v] = .ok (.int (gt u v)) := by
  simp -implicitDefEqProofs [f_value_at, m_value_at, fnP, BkP.b, runB, startG, h0, h1, oIx_tup h0 h1]
theorem v_RowMap_getitem {u : List Int} {v : Int} (h0 : 0 ≤ v) (h1 : v < u.length) : f_RowMap_getitem [mk u, .int v] = .ok (.int (gt u v)) := by
  simp -implicitDefEqProofs [f_RowMap_getitem, m_RowMap_getitem, fnP, BkP.b, runB, startG, at_im, v_value_at h0 h1]
section
variable {t u : List Int}
theorem v_RowMap_le (h : Va t) (k : Va u) (e : t.length = u.length) : f_RowMap_le [mk t, mk u] = .ok (.bl (le t u)) := by
  simp [f_RowMap_le, m_RowMap_le, fnP, BkP.b, runB, startG, RS.o, sSeq, sDo_a, sRet_a, eVar, O.r, R.bind, eCall, aCons, aNil, v_check_map, v_is_below h k e]
theorem v_RowMap_ge (h : Va t) (k : Va u) (e : t.length = u.length) : f_RowMap_ge [mk t, mk u] = .ok (.bl (le u t)) := by
  simp [f_RowMap_ge, m_RowMap_ge, fnP, BkP.b, runB, startG, RS.o, sSeq, sDo_a, sRet_a, eVar, O.r, R.bind, eCall, aCons, aNil, v_check_map, v_is_below k h e.symm]
theorem v_RowMap_lt (h : Va t) (k : Va u) (e : t.length = u.length) : f_RowMap_lt [mk t, mk u] = .ok (.bl (le t u && !decide (t = u))) := by
  cases q : le t u <;> simp [f_RowMap_lt, m_RowMap_lt, fnP, BkP.b, runB, startG, RS.o, sSeq, sDo_a, sRet_a, eVar, O.r, R.bind, eCall, aCons, aNil, v_check_map, v_is_below h k e, eAnd, eBin, eUn, at_im, oEqD_tup, q]
theorem v_RowMap_gt (h : Va t) (k : Va u) (e : t.length = u.length) : f_RowMap_gt [mk t, mk u] = .ok (.bl (le u t && !decide (t = u))) := by
  cases q : le u t <;> simp [f_RowMap_gt, m_RowMap_gt, fnP, BkP.b, runB, startG, RS.o, sSeq, sDo_a, sRet_a, eVar, O.r, R.bind, eCall, aCons, aNil, v_check_map, v_is_below k h e.symm, eAnd, eBin, eUn, at_im, oEqD_tup, q]
end
/-! ### the operators, by their tables -/
theorem o_add {t u : List Int} (h : Va t) (k : Va u) (e : t.length = u.length) : oAdd tadd (mk t) (mk u) = .ok (mk (dn t u)) := v_RowMap_add h k e
theorem o_and {t u : List Int} (h : Va t) (k : Va u) (e : t.length = u.length) : oOwn tand (mk t) (mk u) = .ok (mk (lo t u)) := v_RowMap_and h k e
theorem o_or {t u : List Int} (h : Va t) (k : Va u) (e : t.length = u.length) : oOwn tor (mk t) (mk u) = .ok (mk (hi t u)) := v_RowMap_or h k e
theorem o_le {t u : List Int} (h : Va t) (k : Va u) (e : t.length = u.length) : oLe tle (mk t) (mk u) = .ok (.bl (le t u)) := v_RowMap_le h k e
theorem o_lt {t u : List Int} (h : Va t) (k : Va u) (e : t.length = u.length) : oLt tlt (mk t) (mk u) = .ok (.bl (le t u && !decide (t = u))) := v_RowMap_lt h k e
theorem o_ge {t u : List Int} (h : Va t) (k : Va u) (e : t.length = u.length) : oGe tge (mk t) (mk u) = .ok (.bl (le u t)) := v_RowMap_ge h k e
theorem o_gt {t u : List Int} (h : Va t) (k : Va u) (e : t.length = u.length) : oGt tgt (mk t) (mk u) = .ok (.bl (le u t && !decide (t = u))) := v_RowMap_gt h k e
theorem o_eq (t u : List Int) : oEq teq (mk t) (mk u) = .ok (.bl (decide (t = u))) := v_RowMap_eq t u
end G
end M_k05_Fk4
section M_k05_Fk5
namespace G
open PySem RL
theorem pw_map {f : Int → Int} (hf : ∀ x y, x ≤ y → f x ≤ f y) (n : Nat) : ((idl n).map f).Pairwise (· ≤ ·) := by
  unfold idl
  rw [List.map_map, List.pairwise_map]
  refine List.pairwise_lt_range.imp fun {a b} h => ?_
  exact hf _ _ (by show (a : Int) ≤ (b : Int); omega)
theorem va_map {f : Int → Int} {n : Nat} (h2 : 2 ≤ n) (h21 : n ≤ 21) (hf : ∀ x y, x ≤ y → f x ≤ f y) (hr : ∀ x : Int, 0 ≤ x → x < n → 0 ≤ f x ∧ f x < n) : Va ((idl n).map f) := by
  refine ⟨by simp [len_idl, h2], by simp [len_idl, h21], fun z hz => ?_, pw_map hf n⟩
  obtain ⟨x, hx, rfl⟩ := List.mem_map.mp hz
  obtain ⟨a, b⟩ := mem_idl.mp hx
  simpa [len_idl] using hr x a b
theorem va_idl {n : Nat} (h2 : 2 ≤ n) (h21 : n ≤ 21) : Va (idl n) := by
  have z := va_map (f := fun x => x) h2 h21 (fun x y h => h) (fun x a b => ⟨a, b⟩)
  simpa using z
def cst (n : Nat) (v : Int) : List Int := (idl n).map fun _ => v
theorem va_cst {n : Nat} {v : Int} (h2 : 2 ≤ n) (h21 : n ≤ 21) (h0 : 0 ≤ v) (h1 : v < n) : Va (cst n v) := va_map h2 h21 (fun _ _ _ => Int.le_refl _) (fun _ _ _ => ⟨h0, h1⟩)
def hold (top x : Int) : Int := if x < 0 then 0 else if x > top then top else x
def shf (n : Nat) (b : Int) : List Int := (idl n).map fun x => hold (n - 1) (x + b)
theorem va_shf {n : Nat} {b : Int} (h2 : 2 ≤ n) (h21 : n ≤ 21) : Va (shf n b) :=
  va_map h2 h21 (fun x y h => by unfold hold; split <;> split <;> (try split) <;> omega) (fun x a c => by unfold hold; split <;> (try split) <;> omega)
theorem tgR : tg_RowMap 20 = some n_RowMap := rfl
theorem range1 {ms : AM} {ρ : REnv} {d d1 : DSt} {i : Int} {n : Nat} (e : ms ρ d = .ok [.int i] d1) (hi : i = n) (hn : n < 1000) : iRange1 ms ρ d = .ok ((idl n).map PV.int) d1 := by
  have z := range1_j e (by omega)
  have ht : i.toNat = n := by omega
  rw [ht, rng0] at z
  exact z
theorem rg1 {mkl : List PV → PV} {m : EM} {ρ : REnv} {d d1 : DSt} {i : Int} {n : Nat} (e : m ρ d = .ok (.int i) d1) (hi : i = n) (hn : n < 1000) : eRg1 mkl m ρ d = .ok (mkl ((idl n).map PV.int)) d1 := by
  have z := rg1_j (mkl := mkl) e (by omega)
  have ht : (i - 0).toNat = n := by omega
  rw [ht, rng0] at z
  exact z
theorem lim_idl {n : Nat} (h : n < 1000) : ((idl n).map PV.int).length < LIM := by
  rw [List.length_map, len_idl]
  exact Nat.lt_of_lt_of_le h (by decide)
theorem v_RowMap_of {t : List Int} (h : Va t) : f_RowMap_of [.gl 20, .tup (t.map PV.int)] = .ok (mk t) := by
  simp [f_RowMap_of, m_RowMap_of, fnP, BkP.b, runB, startG, RS.o, sSeq, sIf, sRet_a, bBool, eBin, eVar, eC, eCall, aCons, aNil, fType, oIs2, O.r, R.bind, sNx, eValC, tgR, aItems, v_RowMap h]
end G
end M_k05_Fk5
section M_k05_Fk6
namespace G
open PySem RL
theorem any_ints (v : Int) (l : List Int) : ((l.map PyData.int).any fun z => PyData.eqv z (.int v)) = decide (v ∈ l) := by
  induction l with
  | nil => rfl
  | cons x l ih =>
    simp only [List.map_cons, List.any_cons, ih, PyData.eqv, List.mem_cons]
    by_cases q : x = v
    · subst q; simp
    · have : ¬ v = x := fun z => q z.symm
      simp [q, this]
theorem flat_ints (l : List Int) : (l.map PyData.int).all oIn.flatD = true := by
  induction l with
  | nil => rfl
  | cons x l ih => simp [oIn.flatD]
theorem oIn_tup (t : OT) (v : Int) (l : List Int) : oIn false t (.int v) (.tup (l.map PV.int)) = .ok (.bl (decide (v ∈ l))) := by
  have h := any_ints v l
  have h2 := flat_ints l
  simp only [oIn, toD, toDs_ints, Option.map_some]
  rw [if_pos ⟨rfl, h2⟩, h]
  simp
theorem oIn_lst (t : OT) (v : Int) (l : List Int) : oIn false t (.int v) (.lst (l.map PV.int)) = .ok (.bl (decide (v ∈ l))) := by
  have h := any_ints v l
  simp only [oIn, toD, toDs_ints, Option.map_some]
  rw [if_pos ⟨shaped_int v, shaped_ints l⟩, h]
  simp
end G
end M_k05_Fk6
section M_k05_Fk7
namespace G
open PySem RL
theorem enumP_ints (t : List Int) : enumP (t.map PV.int) = ((idl t.length).zip t).map fun p => .tup [.int p.1, .int p.2] := by
  rw [← zipP_ints]
  simp [enumP, zipP, idl, List.zipWith_map_left]
theorem any_ne : ∀ {l t : List Int}, l.length = t.length → ((l.zip t).any fun p => !decide (p.2 = p.1)) = decide (t ≠ l)
  | [], [], _ => by simp
  | [], _ :: _, h => by simp at h
  | _ :: _, [], h => by simp at h
  | x :: l, y :: t, h => by
    have ih := any_ne (l := l) (t := t) (by simpa using h)
    simp only [List.zip_cons_cons, List.any_cons, ih]
    by_cases q : y = x
    · subst q; simp
    · simp [q]
def nI : PV → PV
  | .tup [.int i, .int v] => .bl (!decide (v = i))
  | _ => .non
end G
end M_k05_Fk7
section M_k05_Fk8
namespace G
open PySem RL
def mn (x y : Int) : Int := if x ≤ y then x else y
def mx (x y : Int) : Int := if x ≤ y then y else x
theorem ext_gt {t u : List Int} (e : t.length = u.length) (h : ∀ i : Int, 0 ≤ i → i < t.length → gt t i = gt u i) : t = u := by
  refine List.ext_getElem e fun i h1 h2 => ?_
  have z := h i (by omega) (by omega)
  unfold gt at z
  rw [Int.toNat_natCast, List.getElem?_eq_getElem h1, List.getElem?_eq_getElem h2] at z
  exact z
theorem gt_dn {t u : List Int} {i : Int} (h0 : 0 ≤ i) (h1 : i < t.length) : gt (dn t u) i = gt u (gt t i) := by
  show ((dn t u)[i.toNat]?).getD 0 = _
  unfold dn
  rw [List.getElem?_map, gt_get h0 h1]
  rfl
theorem gt_zip {f : Int → Int → Int} {t u : List Int} {i : Int} (h0 : 0 ≤ i) (h1 : i < t.length) (e : t.length = u.length) : gt (t.zipWith f u) i = f (gt t i) (gt u i) := by
  show ((t.zipWith f u)[i.toNat]?).getD 0 = _
  rw [List.getElem?_zipWith, gt_get h0 h1, gt_get h0 (by omega)]
  rfl
theorem gt_lo {t u : List Int} {i : Int} (h0 : 0 ≤ i) (h1 : i < t.length) (e : t.length = u.length) : gt (lo t u) i = mn (gt t i) (gt u i) := gt_zip h0 h1 e
theorem gt_hi {t u : List Int} {i : Int} (h0 : 0 ≤ i) (h1 : i < t.length) (e : t.length = u.length) : gt (hi t u) i = mx (gt t i) (gt u i) := gt_zip h0 h1 e
section
variable {f g h : List Int} (F : Va f) (G' : Va g) (H : Va h) (e : f.length = g.length) (e' : g.length = h.length)
theorem dn_assoc (F : Va f) (e : f.length = g.length) : dn (dn f g) h = dn f (dn g h) := by
  refine ext_gt (by simp [dn]) fun i h0 h1 => ?_
  rw [len_dn, len_dn] at h1
  have z := F.gt h0 h1
  rw [gt_dn h0 (by rw [len_dn]; exact h1), gt_dn h0 h1, gt_dn h0 h1, gt_dn z.1 (by omega)]
theorem lo_assoc (e : f.length = g.length) (e' : g.length = h.length) : lo (lo f g) h = lo f (lo g h) := by
  refine ext_gt (by rw [len_lo (by rw [len_lo e]; omega), len_lo e, len_lo (by rw [len_lo e']; omega)]) fun i h0 h1 => ?_
  rw [len_lo (by rw [len_lo e]; omega), len_lo e] at h1
  rw [gt_lo h0 (by rw [len_lo e]; exact h1) (by rw [len_lo e]; omega), gt_lo h0 h1 e, gt_lo h0 h1 (by rw [len_lo e']; omega), gt_lo h0 (by omega) e']
  unfold mn; repeat' split <;> try omega
theorem hi_assoc (e : f.length = g.length) (e' : g.length = h.length) : hi (hi f g) h = hi f (hi g h) := by
  refine ext_gt (by rw [len_hi (by rw [len_hi e]; omega), len_hi e, len_hi (by rw [len_hi e']; omega)]) fun i h0 h1 => ?_
  rw [len_hi (by rw [len_hi e]; omega), len_hi e] at h1
  rw [gt_hi h0 (by rw [len_hi e]; exact h1) (by rw [len_hi e]; omega), gt_hi h0 h1 e, gt_hi h0 h1 (by rw [len_hi e']; omega), gt_hi h0 (by omega) e']
  unfold mx; repeat' split <;> try omega
theorem lo_hi (e : f.length = g.length) (e' : g.length = h.length) : lo f (hi g h) = hi (lo f g) (lo f h) := by
  have l1 : (lo f (hi g h)).length = f.length := len_lo (by rw [len_hi e']; exact e)
  have l2 : (hi (lo f g) (lo f h)).length = f.length := by rw [len_hi (by rw [len_lo e, len_lo (e.trans e')]), len_lo e]
  refine ext_gt (l1.trans l2.symm) fun i h0 h1 => ?_
  rw [l1] at h1
  rw [gt_lo h0 h1 (by rw [len_hi e']; exact e), gt_hi h0 (by omega) e', gt_hi h0 (by rw [len_lo e]; exact h1) (by rw [len_lo e, len_lo (e.trans e')]), gt_lo h0 h1 e, gt_lo h0 h1 (e.trans e')]
  unfold mx mn; repeat' split <;> try omega
theorem hi_lo (e : f.length = g.length) (e' : g.length = h.length) : hi f (lo g h) = lo (hi f g) (hi f h) := by
  have l1 : (hi f (lo g h)).length = f.length := len_hi (by rw [len_lo e']; exact e)
  have l2 : (lo (hi f g) (hi f h)).length = f.length := by rw [len_lo (by rw [len_hi e, len_hi (e.trans e')]), len_hi e]
  refine ext_gt (l1.trans l2.symm) fun i h0 h1 => ?_
  rw [l1] at h1
  rw [gt_hi h0 h1 (by rw [len_lo e']; exact e), gt_lo h0 (by omega) e', gt_lo h0 (by rw [len_hi e]; exact h1) (by rw [len_hi e, len_hi (e.trans e')]), gt_hi h0 h1 e, gt_hi h0 h1 (e.trans e')]
  unfold mx mn; repeat' split <;> try omega
theorem gt_mn (H : Va h) {a b : Int} (a0 : 0 ≤ a) (a1 : a < h.length) (b0 : 0 ≤ b) (b1 : b < h.length) : gt h (mn a b) = mn (gt h a) (gt h b) := by
  unfold mn
  by_cases q : a ≤ b
  · rw [if_pos q, if_pos (H.gtm a0 q b1)]
  · have := H.gtm b0 (show b ≤ a by omega) a1
    rw [if_neg q]
    split
    · omega
    · rfl
theorem gt_mx (H : Va h) {a b : Int} (a0 : 0 ≤ a) (a1 : a < h.length) (b0 : 0 ≤ b) (b1 : b < h.length) : gt h (mx a b) = mx (gt h a) (gt h b) := by
  unfold mx
  by_cases q : a ≤ b
  · rw [if_pos q, if_pos (H.gtm a0 q b1)]
  · have := H.gtm b0 (show b ≤ a by omega) a1
    rw [if_neg q]
    split
    · omega
    · rfl
theorem dn_lo (F : Va f) (G' : Va g) (H : Va h) (e : f.length = g.length) (e' : g.length = h.length) : dn (lo f g) h = lo (dn f h) (dn g h) := by
  have l2 : (lo (dn f h) (dn g h)).length = f.length := by rw [len_lo (by rw [len_dn, len_dn]; exact e), len_dn]
  have l1 : (dn (lo f g) h).length = f.length := by rw [len_dn, len_lo e]
  refine ext_gt (l1.trans l2.symm) fun i h0 h1 => ?_
  rw [l1] at h1
  have a := F.gt h0 h1
  have b := G'.gt h0 (by omega)
  rw [gt_dn h0 (by rw [len_lo e]; exact h1), gt_lo h0 h1 e, gt_lo h0 (by rw [len_dn]; exact h1) (by rw [len_dn, len_dn]; exact e), gt_dn h0 h1, gt_dn h0 (by omega), gt_mn H a.1 (by omega) b.1 (by omega)]
theorem dn_hi (F : Va f) (G' : Va g) (H : Va h) (e : f.length = g.length) (e' : g.length = h.length) : dn (hi f g) h = hi (dn f h) (dn g h) := by
  have l2 : (hi (dn f h) (dn g h)).length = f.length := by rw [len_hi (by rw [len_dn, len_dn]; exact e), len_dn]
  have l1 : (dn (hi f g) h).length = f.length := by rw [len_dn, len_hi e]
  refine ext_gt (l1.trans l2.symm) fun i h0 h1 => ?_
  rw [l1] at h1
  have a := F.gt h0 h1
  have b := G'.gt h0 (by omega)
  rw [gt_dn h0 (by rw [len_hi e]; exact h1), gt_hi h0 h1 e, gt_hi h0 (by rw [len_dn]; exact h1) (by rw [len_dn, len_dn]; exact e), gt_dn h0 h1, gt_dn h0 (by omega), gt_mx H a.1 (by omega) b.1 (by omega)]
theorem dn_lo2 (H : Va h) (e : f.length = g.length) (e' : g.length = h.length) : dn h (lo f g) = lo (dn h f) (dn h g) := by
  have l2 : (lo (dn h f) (dn h g)).length = h.length := by rw [len_lo (by rw [len_dn, len_dn]), len_dn]
  refine ext_gt ((len_dn _ _).trans l2.symm) fun i h0 h1 => ?_
  rw [len_dn] at h1
  have a := H.gt h0 h1
  rw [gt_dn h0 h1, gt_lo a.1 (by omega) e, gt_lo h0 (by rw [len_dn]; exact h1) (by rw [len_dn, len_dn]), gt_dn h0 h1, gt_dn h0 h1]
theorem dn_hi2 (H : Va h) (e : f.length = g.length) (e' : g.length = h.length) : dn h (hi f g) = hi (dn h f) (dn h g) := by
  have l2 : (hi (dn h f) (dn h g)).length = h.length := by rw [len_hi (by rw [len_dn, len_dn]), len_dn]
  refine ext_gt ((len_dn _ _).trans l2.symm) fun i h0 h1 => ?_
  rw [len_dn] at h1
  have a := H.gt h0 h1
  rw [gt_dn h0 h1, gt_hi a.1 (by omega) e, gt_hi h0 (by rw [len_dn]; exact h1) (by rw [len_dn, len_dn]), gt_dn h0 h1, gt_dn h0 h1]
end
end G
end M_k05_Fk8
section M_k05_Fk9
namespace G
open PySem RL
/-- the values of a map of n places -/
def VL (n : Nat) (t : List Int) : Prop := Va t ∧ t.length = n
section
variable {n : Nat} {t u v : List Int}
theorem VL.dn (h : VL n t) (k : VL n u) : VL n (dn t u) := ⟨va_dn h.1 k.1 (h.2.trans k.2.symm), by rw [len_dn]; exact h.2⟩
theorem VL.lo (h : VL n t) (k : VL n u) : VL n (lo t u) := ⟨va_lo h.1 k.1 (h.2.trans k.2.symm), by rw [len_lo (h.2.trans k.2.symm)]; exact h.2⟩
theorem VL.hi (h : VL n t) (k : VL n u) : VL n (hi t u) := ⟨va_hi h.1 k.1 (h.2.trans k.2.symm), by rw [len_hi (h.2.trans k.2.symm)]; exact h.2⟩
theorem p_add (h : VL n t) (k : VL n u) : oAdd tadd (mk t) (mk u) = .ok (mk (G.dn t u)) := o_add h.1 k.1 (h.2.trans k.2.symm)
theorem p_and (h : VL n t) (k : VL n u) : oOwn tand (mk t) (mk u) = .ok (mk (G.lo t u)) := o_and h.1 k.1 (h.2.trans k.2.symm)
theorem p_or (h : VL n t) (k : VL n u) : oOwn tor (mk t) (mk u) = .ok (mk (G.hi t u)) := o_or h.1 k.1 (h.2.trans k.2.symm)
theorem p_le (h : VL n t) (k : VL n u) : oLe tle (mk t) (mk u) = .ok (.bl (le t u)) := o_le h.1 k.1 (h.2.trans k.2.symm)
theorem p_lt (h : VL n t) (k : VL n u) : oLt tlt (mk t) (mk u) = .ok (.bl (le t u && !decide (t = u))) := o_lt h.1 k.1 (h.2.trans k.2.symm)
theorem p_ge (h : VL n t) (k : VL n u) : oGe tge (mk t) (mk u) = .ok (.bl (le u t)) := o_ge h.1 k.1 (h.2.trans k.2.symm)
theorem p_gt (h : VL n t) (k : VL n u) : oGt tgt (mk t) (mk u) = .ok (.bl (le u t && !decide (t = u))) := o_gt h.1 k.1 (h.2.trans k.2.symm)
end
end G
end M_k05_Fk9
section M_k05_Fk10
namespace G
open PySem RL
theorem le_iff {t u : List Int} (e : t.length = u.length) : le t u = true ↔ ∀ i : Int, 0 ≤ i → i < t.length → gt t i ≤ gt u i := by
  unfold le
  rw [List.all_eq_true]
  constructor
  · intro h i h0 h1
    have z := h (gt t i, gt u i) (by
      refine List.mem_of_getElem? (i := i.toNat) ?_
      rw [List.getElem?_zip_eq_some]
      exact ⟨gt_get h0 h1, gt_get h0 (by omega)⟩)
    simpa using z
  · intro h p hp
    obtain ⟨i, hi⟩ := List.mem_iff_getElem?.mp hp
    rw [List.getElem?_zip_eq_some] at hi
    obtain ⟨a, b⟩ := hi
    have hl := (List.getElem?_eq_some_iff.mp a).1
    have z := h i (by omega) (by omega)
    unfold gt at z
    rw [Int.toNat_natCast, a, b] at z
    simpa using z
section
variable {n : Nat} {f g p q : List Int}
theorem le_refl_ (t : List Int) : le t t = true := (le_iff rfl).mpr fun _ _ _ => Int.le_refl _
theorem lo_le1 (F : VL n f) (P : VL n p) : le (lo f p) f = true := (le_iff ((F.lo P).2.trans F.2.symm)).mpr fun i h0 h1 => by
  rw [(F.lo P).2] at h1
  rw [gt_lo h0 (by rw [F.2]; exact h1) (F.2.trans P.2.symm)]; unfold mn; split <;> omega
theorem lo_le2 (F : VL n f) (P : VL n p) : le (lo f p) p = true := (le_iff ((F.lo P).2.trans P.2.symm)).mpr fun i h0 h1 => by
  rw [(F.lo P).2] at h1
  rw [gt_lo h0 (by rw [F.2]; exact h1) (F.2.trans P.2.symm)]; unfold mn; split <;> omega
theorem hi_ge1 (F : VL n f) (P : VL n p) : le f (hi f p) = true := (le_iff (F.2.trans (F.hi P).2.symm)).mpr fun i h0 h1 => by
  rw [gt_hi h0 h1 (F.2.trans P.2.symm)]; unfold mx; split <;> omega
theorem hi_ge2 (F : VL n f) (P : VL n p) : le p (hi f p) = true := (le_iff (P.2.trans (F.hi P).2.symm)).mpr fun i h0 h1 => by
  rw [P.2, ← F.2] at h1
  rw [gt_hi h0 h1 (F.2.trans P.2.symm)]; unfold mx; split <;> omega
theorem le_trans_ (F : VL n f) (G' : VL n g) (P : VL n p) (h : le f g = true) (k : le g p = true) : le f p = true := (le_iff (F.2.trans P.2.symm)).mpr fun i h0 h1 => by
  have a := (le_iff (F.2.trans G'.2.symm)).mp h i h0 h1
  rw [F.2, ← G'.2] at h1
  have b := (le_iff (G'.2.trans P.2.symm)).mp k i h0 h1
  omega
/-- sums keep the order -/
theorem dn_le (F : VL n f) (G' : VL n g) (P : VL n p) (Q : VL n q) (h : le f p = true) (k : le g q = true) : le (dn f g) (dn p q) = true := (le_iff ((F.dn G').2.trans (P.dn Q).2.symm)).mpr fun i h0 h1 => by
  rw [(F.dn G').2, ← F.2] at h1
  have a := (le_iff (F.2.trans P.2.symm)).mp h i h0 h1
  have hp : i < p.length := by rw [P.2, ← F.2]; exact h1
  have zf := F.1.gt h0 h1
  have zp := P.1.gt h0 hp
  have lf := F.2; have lg := G'.2; have lp := P.2; have lq := Q.2
  rw [gt_dn h0 h1, gt_dn h0 hp]
  have b := (le_iff (G'.2.trans Q.2.symm)).mp k (gt f i) zf.1 (by omega)
  have c := Q.1.gtm zf.1 a (by omega)
  omega
end
end G
end M_k05_Fk10
section M_k05_Fk11
namespace G
open PySem RL
/-- 64 numbers below 2 ** 31 -/
def CL (l : List Int) : Prop := l.length = 64 ∧ ∀ c ∈ l, 0 ≤ c ∧ c < 2147483648
theorem CL.set {l : List Int} (h : CL l) (j : Nat) {x : Int} (h0 : 0 ≤ x) (h1 : x < 2147483648) : CL (l.set j x) := by
  refine ⟨by simp [h.1], fun c hc => ?_⟩
  rcases List.mem_or_eq_of_mem_set hc with q | q
  · exact h.2 c q
  · rw [q]; exact ⟨h0, h1⟩
theorem CL.at {l : List Int} (h : CL l) {k : Int} (h0 : 0 ≤ k) (h1 : k < 64) : ∃ c, L2.ixN l.length k = some k.toNat ∧ l[k.toNat]? = some c ∧ 0 ≤ c ∧ c < 2147483648 := by
  have hl := h.1
  exact ⟨gt l k, ixN_in h0 (by omega), gt_get h0 (by omega), h.2 _ (List.mem_of_getElem? (gt_get h0 (by omega)))⟩
theorem s_small {c : Int} (h0 : 0 ≤ c) (h1 : c < 2147483648) : SM64 c := by unfold SM64; omega
theorem v_law_foldeda {ns : List Int} : ∃ ρ' d', sLoop (.t [.n 2, .n 3]) (sPut 1 (eBin oMod (eVar 2) (eC (.int 64))) (eBin oMod (eBin (oAdd OT0) (eBin oMul (eOix 1 (eBin oMod (eVar 2) (eC (.int 64)))) (eC (.int 48271))) (eVar 3)) (eC (.int 2147483647))))
    (enumP (ns.map PV.int)) [.val (.lst (ns.map PV.int)), .own (((idl 64).map fun i => 17 + i).map PV.int), .un, .un] default = .nx ρ' d' ∧ ∃ l s2 s3, ρ' = [.val (.lst (ns.map PV.int)), .own (l.map PV.int), s2, s3] ∧ d' = default ∧ CL l := by
  refine sLoop_run (I := fun i ρ d => ∃ l s2 s3, ρ = [.val (.lst (ns.map PV.int)), .own (l.map PV.int), s2, s3] ∧ d = default ∧ CL l) ⟨(idl 64).map fun i => 17 + i, _, _, rfl, rfl, by rw [List.length_map, len_idl], fun c hc => ?_⟩ fun i z ρ d ez hI => ?_
  · obtain ⟨x, hx, rfl⟩ := List.mem_map.mp hc
    have := mem_idl.mp hx
    omega
  · obtain ⟨l, s2, s3, rfl, rfl, hl⟩ := hI
    obtain ⟨x, ex, rfl⟩ := enumP_get' ez
    rw [List.getElem?_map] at ex
    cases q : ns[i]? with
    | none => rw [q] at ex; cases ex
    | some v =>
      rw [q] at ex; cases ex
      have hm : (0 : Int) ≤ (i : Int) % 64 ∧ (i : Int) % 64 < 64 := ⟨Int.emod_nonneg _ (by decide), Int.emod_lt_of_pos _ (by decide)⟩
      obtain ⟨c, e1, e2, c0, c1⟩ := hl.at hm.1 hm.2
      have sc := s_small c0 c1
      have y0 := Int.emod_nonneg (c * 48271 + v) (show (2147483647 : Int) ≠ 0 by decide)
      have y1 := Int.emod_lt_of_pos (c * 48271 + v) (show (0 : Int) < 2147483647 by decide)
      refine ⟨_, [.val (.lst (ns.map PV.int)), .own ((l.set ((i : Int) % 64).toNat ((c * 48271 + v) % 2147483647)).map PV.int), .val (.int (i : Nat)), .val (.int v)], default, rfl, ?_, _, _, _, rfl, rfl, hl.set _ y0 (by omega)⟩
      simp [sPut, eBin, eVar, eC, oMod, oMul, oAdd, eOix, O.r, R.bind, e1, e2, sc, List.map_set]
end G
end M_k05_Fk11
section M_k05_Fk12
namespace G
open PySem RL
theorem v_folded0 {ns : List Int} : aLc (iRange1 (aCons (eC (.int 64)) aNil)) [2] (.n 2) bYes (eBin (oAdd OT0) (eC (.int 17)) (eVar 2)) [.val (.lst (ns.map PV.int)), .un, .un, .un] default = .ok (((idl 64).map fun i => 17 + i).map PV.int) default := by
  have hr : iRange1 (aCons (eC (.int 64)) aNil) [.val (.lst (ns.map PV.int)), .un, .un, .un] default = .ok ((idl 64).map PV.int) default :=
    range1 (i := 64) (by simp [aCons, aNil, eC, R.bind]) rfl (by omega)
  have lc : lcGo [.val (.lst (ns.map PV.int)), .un, .un, .un] (.n 2) bYes (eBin (oAdd OT0) (eC (.int 17)) (eVar 2)) ((idl 64).map PV.int) default = .ok (((idl 64).map fun i => 17 + i).map PV.int) default := by
    have e : ((idl 64).map fun i => 17 + i).map PV.int = ((idl 64).map PV.int).map fun z => match z with | .int x => PV.int (17 + x) | _ => .non := by
      rw [List.map_map, List.map_map]; rfl
    rw [e]
    refine lcGo_map fun x hx => ?_
    obtain ⟨v, hv, rfl⟩ := List.mem_map.mp hx
    exact ⟨_, rfl, rfl⟩
  have hl := lim_idl (n := 64) (by omega)
  unfold aLc
  rw [hr]
  simp only [R.bind]
  rw [if_pos hl]
  exact lc
theorem rng_get {a : Int} {n i : Nat} {z : PV} (e : (rng a n)[i]? = some z) : i < n ∧ z = .int (a + i) := by
  unfold rng at e
  rw [List.getElem?_map] at e
  by_cases h : i < n
  · rw [List.getElem?_range h] at e
    exact ⟨h, (Option.some.inj e).symm⟩
  · rw [List.getElem?_eq_none (by simpa using h)] at e
    cases e
theorem v_folded2 {s0 s2 s3 : Sl} {l : List Int} (hl : CL l) : ∃ ρ' d', sLoop (.n 2) (sPut 1 (eVar 2) (eBin oMod (eBin (oAdd OT0) (eOix 1 (eVar 2)) (eBin oMul (eOix 1 (eBin (oSub OT0) (eVar 2) (eC (.int 1)))) (eC (.int 16807)))) (eC (.int 2147483647))))
    (rng 1 63) [s0, .own (l.map PV.int), s2, s3] default = .nx ρ' d' ∧ ∃ l' s2 s3, ρ' = [s0, .own (l'.map PV.int), s2, s3] ∧ d' = default ∧ CL l' := by
  refine sLoop_run (I := fun i ρ d => ∃ l s2 s3, ρ = [s0, .own (l.map PV.int), s2, s3] ∧ d = default ∧ CL l) ⟨l, _, _, rfl, rfl, hl⟩ fun i z ρ d ez hI => ?_
  obtain ⟨l, s2, s3, rfl, rfl, hl⟩ := hI
  obtain ⟨hi, rfl⟩ := rng_get ez
  obtain ⟨c, e1, e2, c0, c1⟩ := hl.at (k := 1 + (i : Int)) (by omega) (by omega)
  obtain ⟨j, hj⟩ : ∃ j, 1 + (i : Int) - 1 = j := ⟨_, rfl⟩
  obtain ⟨c', e1', e2', c0', c1'⟩ := hl.at (k := j) (by omega) (by omega)
  have sc := s_small c0' c1'
  have y0 := Int.emod_nonneg (c + c' * 16807) (show (2147483647 : Int) ≠ 0 by decide)
  have y1 := Int.emod_lt_of_pos (c + c' * 16807) (show (0 : Int) < 2147483647 by decide)
  generalize 1 + (i : Int) = k at *
  refine ⟨_, [s0, .own ((l.set k.toNat ((c + c' * 16807) % 2147483647)).map PV.int), .val (.int k), s3], default, rfl, ?_, _, _, _, rfl, rfl, hl.set _ y0 (by omega)⟩
  simp [sPut, eBin, eVar, eC, oMod, oMul, oAdd, oSub, eOix, O.r, R.bind, e1, e2, e1', e2', hj, sc, List.map_set]
theorem v_law_folded {ns : List Int} : ∃ l, f_law_folded [.lst (ns.map PV.int)] = .ok (.lst (l.map PV.int)) ∧ CL l := by
  obtain ⟨ρ1, d1, e1, l1, s2, s3, rfl, rfl, h1⟩ := v_law_foldeda (ns := ns)
  obtain ⟨ρ2, d2, e2, l2, s2', s3', rfl, rfl, h2⟩ := v_folded2 (s0 := .val (.lst (ns.map PV.int))) (s2 := s2) (s3 := s3) h1
  refine ⟨l2, ?_, h2⟩
  have hr2 : ∀ s : List Sl, iRange2 (aCons (eC (.int 1)) (aCons (eC (.int 64)) aNil)) s default = .ok (rng 1 63) default := fun s => rfl
  simp only [f_law_folded, m_law_folded, fnP, BkP.b, runB, List.length_cons, List.length_nil, startG, List.map_cons, List.map_nil, List.append_nil, Nat.reduceAdd, if_true, Nat.reduceSub, List.replicate, sSeq, sOwn_a]
  simp only [List.cons_append, List.nil_append, v_folded0, List.set_cons_succ, List.set_cons_zero, sFor]
  simp [-List.map_map, iEnum', aCons, aNil, eVar, R.bind, e1, iRange2, eC]
  simp [-List.map_map, e2, sFrz, frzR, sRet_a, eVar, RS.o]
theorem v_law_begun {ns : List Int} (hn : ns.length ≤ 63) : ∃ d0, f_law_begun [.lst (ns.map PV.int)] = some d0 ∧ DI 0 d0 := by
  obtain ⟨l, e, hl⟩ := v_law_folded (ns := ns)
  let g : Int → Int := fun c => if (10 : Int) ^ 18 ≤ c then c else 0
  refine ⟨⟨l, ns.map g, 0⟩, ?_, hl.1, hl.2, Int.le_refl _, Int.le_refl _⟩
  have lc : ∀ hl : (ns.map PV.int).length < LIM, m2_law_begun [.val (.lst (ns.map PV.int)), .un, .un] default = .ok ((ns.map g).map PV.int) default := by
    intro hl
    have e : (ns.map g).map PV.int = (ns.map PV.int).map fun z => match z with | .int x => PV.int (g x) | _ => .non := by
      rw [List.map_map, List.map_map]; rfl
    have z : lcGo [.val (.lst (ns.map PV.int)), .un, .un] (.n 2) bYes (eIf (bBool (eBin (oGe OT0) (eVar 2) (eBin oPow (eC (.int 10)) (eC (.int 18))))) (eVar 2) (eC (.int 0))) (ns.map PV.int) default = .ok ((ns.map g).map PV.int) default := by
      rw [e]
      refine lcGo_map fun x hx => ?_
      obtain ⟨v, hv, rfl⟩ := List.mem_map.mp hx
      refine ⟨_, rfl, ?_⟩
      have p : ((10 : Int) ^ 18) = 1000000000000000000 := by decide
      by_cases q : (10 : Int) ^ 18 ≤ v
      · have q' : (1000000000000000000 : Int) ≤ v := by rw [← p]; exact q
        simp [eIf, bBool, eBin, oGe, oCmp, oPow, eVar, eC, O.r, R.bind, g, q, q']
      · have q' : ¬ (1000000000000000000 : Int) ≤ v := by rw [← p]; exact q
        simp [eIf, bBool, eBin, oGe, oCmp, oPow, eVar, eC, O.r, R.bind, g, q, q']
    unfold m2_law_begun aLc
    simp only [iSeq, eVar, R.bind, List.getElem?_cons_zero]
    rw [if_pos hl]
    exact z
  have hl1 : m1_law_begun [.val (.lst (ns.map PV.int)), .un, .un] default = .ok (.lst (l.map PV.int)) default := by
    simp [m1_law_begun, eCall, aCons, aNil, eVar, R.bind, O.r, e]
  have z := lc (by rw [List.length_map]; exact Nat.lt_of_le_of_lt hn (by decide))
  simp only [f_law_begun, fnB, List.length_cons, List.length_nil, Nat.reduceAdd, startG, List.map_cons, List.map_nil, Nat.reduceSub, List.replicate, List.cons_append, List.nil_append, begP]
  rw [if_pos ⟨trivial, by decide⟩, hl1]
  simp only [List.set_cons_succ, List.set_cons_zero]
  rw [z]
  simp only [intsP_ints]
end G
end M_k05_Fk12
section M_k05_Fk13
namespace G
open PySem RL
/-! tables: lists of the numbers 0 to n - 1, each as often as st has it -/
def bk (st : List Int) : Nat → List Int
  | 0 => []
  | k + 1 => bk st k ++ List.replicate (st.count (k : Int)) (k : Int)
theorem bk_mem {st : List Int} : ∀ {k : Nat} {x : Int}, x ∈ bk st k → 0 ≤ x ∧ x < k
  | 0, x, h => by simp [bk] at h
  | k + 1, x, h => by
    rcases List.mem_append.mp h with q | q
    · have := bk_mem q; omega
    · have := (List.mem_replicate.mp q).2; omega
theorem bk_sorted {st : List Int} : ∀ k : Nat, (bk st k).Pairwise (· ≤ ·)
  | 0 => List.Pairwise.nil
  | k + 1 => by
    unfold bk
    rw [List.pairwise_append]
    refine ⟨bk_sorted k, ?_, fun a ha b hb => ?_⟩
    · rw [List.pairwise_replicate]; exact Or.inr (Int.le_refl _)
    · have := bk_mem ha; have := (List.mem_replicate.mp hb).2; omega
theorem bk_len {st : List Int} (h0 : ∀ x ∈ st, 0 ≤ x) : ∀ k : Nat, (bk st k).length = st.countP fun x => decide (x < (k : Int))
  | 0 => by
    symm
    show st.countP _ = 0
    rw [List.countP_eq_zero]
    intro x hx
    have := h0 x hx
    simp; omega
  | k + 1 => by
    unfold bk
    rw [List.length_append, List.length_replicate, bk_len h0 k]
    clear h0
    induction st with
    | nil => rfl
    | cons x st ih =>
      rw [List.countP_cons, List.countP_cons, List.count_cons]
      by_cases a : x < (k : Int)
      · have b : x < ((k + 1 : Nat) : Int) := by omega
        have c : ¬ x = (k : Int) := by omega
        simp only [a, b, c, decide_true, if_true, beq_iff_eq, if_false]; omega
      · by_cases c : x = (k : Int)
        · have b : x < ((k + 1 : Nat) : Int) := by omega
          simp only [a, b, c, decide_true, decide_false, if_true, beq_iff_eq, if_false, Bool.false_eq_true]
          have e : decide ((k : Int) < ((k + 1 : Nat) : Int)) = true := decide_eq_true (by omega)
          simp only [e, if_true, Int.lt_irrefl, decide_false, Bool.false_eq_true, if_false]
          omega
        · have b : ¬ x < ((k + 1 : Nat) : Int) := by omega
          simp only [a, b, c, decide_false, if_false, beq_iff_eq, Bool.false_eq_true]; omega
theorem bk_all {st : List Int} {n : Nat} (h : ∀ x ∈ st, 0 ≤ x ∧ x < n) (hl : st.length = n) (h2 : 2 ≤ n) (h21 : n ≤ 21) : VL n (bk st n) := by
  have e : (bk st n).length = n := by
    rw [bk_len (fun x hx => (h x hx).1)]
    rw [← hl]
    refine List.countP_eq_length.mpr fun x hx => ?_
    have := (h x hx).2
    simp; omega
  exact ⟨⟨by omega, by omega, fun x hx => by rw [e]; exact bk_mem hx, bk_sorted n⟩, e⟩
end G
end M_k05_Fk13
section M_k05_Fk14
namespace G
open PySem RL
theorem int5 {w : Int} (h0 : 0 ≤ w) (h5 : w < 5) : w = 0 ∨ w = 1 ∨ w = 2 ∨ w = 3 ∨ w = 4 := by omega
theorem lim20 {n : Nat} (h : n ≤ 20) : (idl (n + 1)).length < LIM := by rw [len_idl]; exact Nat.lt_of_le_of_lt (Nat.succ_le_succ h) (by decide)
theorem rep_cst (n : Nat) (v : Int) : List.replicate n v = cst n v := by
  unfold cst idl
  rw [List.map_map]
  refine (List.eq_replicate_iff.mpr ⟨by simp, fun b hb => ?_⟩).symm
  obtain ⟨_, _, rfl⟩ := List.mem_map.mp hb
  rfl
theorem idl_map_get {n i : Nat} {z : PV} (e : ((idl n).map PV.int)[i]? = some z) : i < n ∧ z = .int (i : Int) := by
  rw [List.getElem?_map] at e
  by_cases h : i < n
  · rw [idl_get h] at e; exact ⟨h, (Option.some.inj e).symm⟩
  · rw [List.getElem?_eq_none (by simpa using h)] at e; cases e
/-- the last loop -/
theorem tab_fin {n : Nat} {s2 : Sl} {st : List Int} {d2 : DSt} (h1 : 1 ≤ n) (h20 : n ≤ 20) (hst : ∀ x ∈ st, 0 ≤ x ∧ x < ((n + 1 : Nat) : Int)) (hl : st.length = n + 1) :
    ∃ s8, sLoop (.n 8) (sSet 3 (eBin (oAdd OT0) (eVar 3) (eL (aMulF (aLim (aCons (eVar 8) aNil)) (eCnt (eVar 6) (eVar 8)))))) ((idl (n + 1)).map PV.int) [.dr, .val (.int n), s2, .val (.lst []), .val (.int 0), .un, .val (.lst (st.map PV.int)), .un, .un, .un, .un] d2
      = .nx [.dr, .val (.int n), s2, .val (.lst ((bk st (n + 1)).map PV.int)), .val (.int 0), .un, .val (.lst (st.map PV.int)), .un, s8, .un, .un] d2 := by
  obtain ⟨ρ', d', e, s8, e2, e3⟩ := sLoop_run (t := .n 8) (xs := (idl (n + 1)).map PV.int) (ρ := [.dr, .val (.int n), s2, .val (.lst []), .val (.int 0), .un, .val (.lst (st.map PV.int)), .un, .un, .un, .un]) (d := d2)
    (body := sSet 3 (eBin (oAdd OT0) (eVar 3) (eL (aMulF (aLim (aCons (eVar 8) aNil)) (eCnt (eVar 6) (eVar 8))))))
    (I := fun i ρ d => ∃ s8, ρ = [.dr, .val (.int n), s2, .val (.lst ((bk st i).map PV.int)), .val (.int 0), .un, .val (.lst (st.map PV.int)), .un, s8, .un, .un] ∧ d = d2)
    ⟨.un, rfl, rfl⟩ fun i x ρ d ex hI => by
      obtain ⟨s8, rfl, rfl⟩ := hI
      obtain ⟨hi, rfl⟩ := idl_map_get ex
      have hc : st.count (i : Int) ≤ n + 1 := by rw [← hl]; exact List.count_le_length
      have hm := mulR_one (k := (st.count (i : Int) : Nat)) (n := st.count (i : Int)) (v := i) (d := d) rfl (by omega)
      have hb : (bk st i).length + st.count (i : Int) < LIM := by
        have := bk_len (fun x hx => (hst x hx).1) i
        have h2 : (bk st i).length ≤ n + 1 := by rw [this, ← hl]; exact List.countP_le_length
        exact Nat.lt_of_le_of_lt (show _ ≤ 42 by omega) (by decide)
      refine ⟨_, _, d, rfl, ?_, .val (.int i), rfl, rfl⟩
      simp [intsP_ints, hm, oAdd, hb, bk]
  refine ⟨s8, ?_⟩
  rw [e, e2, e3]
  simp
/-- the first of the marks that is not less -/
def fst_ (ms : List Int) (n x : Int) : Int := ((ms.filter fun m => decide (x ≤ m))[0]?).getD n
theorem fst_ok {ms : List Int} {n x : Int} (hm : ms.Pairwise (· ≤ ·)) (hn : n ∈ ms) (hb : ∀ m ∈ ms, m ≤ n) (hx : x ≤ n) : ∃ l, (ms.filter fun m => decide (x ≤ m)) = fst_ ms n x :: l ∧ x ≤ fst_ ms n x ∧ fst_ ms n x ≤ n ∧ ∀ m ∈ ms, x ≤ m → fst_ ms n x ≤ m := by
  unfold fst_
  have h0 : n ∈ ms.filter fun m => decide (x ≤ m) := List.mem_filter.mpr ⟨hn, by simpa using hx⟩
  have hp : (ms.filter fun m => decide (x ≤ m)).Pairwise (· ≤ ·) := hm.filter _
  have hmem : ∀ m, m ∈ (ms.filter fun m => decide (x ≤ m)) ↔ m ∈ ms ∧ x ≤ m := fun m => by rw [List.mem_filter]; simp
  generalize (ms.filter fun m => decide (x ≤ m)) = l at *
  cases l with
  | nil => cases h0
  | cons a l =>
    have ha := (hmem a).mp List.mem_cons_self
    refine ⟨l, rfl, ha.2, hb a ha.1, fun m h1 h2 => ?_⟩
    rcases List.mem_cons.mp ((hmem m).mpr ⟨h1, h2⟩) with rfl | q
    · exact Int.le_refl _
    · exact (List.pairwise_cons.mp hp).1 m q
theorem fst_far {ms : List Int} {n x : Int} (hb : ∀ m ∈ ms, m ≤ n) (hx : n < x) : fst_ ms n x = n := by
  unfold fst_
  have : (ms.filter fun m => decide (x ≤ m)) = [] := List.filter_eq_nil_iff.mpr fun m hm => by have := hb m hm; simp; omega
  rw [this]
  rfl
theorem va_fst {ms : List Int} {n : Nat} (h1 : 1 ≤ n) (h20 : n ≤ 20) (hm : ms.Pairwise (· ≤ ·)) (hn : (n : Int) ∈ ms) (hb : ∀ m ∈ ms, 0 ≤ m ∧ m ≤ (n : Int)) : VL (n + 1) ((idl (n + 1)).map (fst_ ms n)) := by
  have hb' : ∀ m ∈ ms, m ≤ (n : Int) := fun m h => (hb m h).2
  refine ⟨va_map (by omega) (by omega) (fun x y h => ?_) fun x a b => ?_, by simp⟩
  · by_cases q : y ≤ (n : Int)
    · obtain ⟨l, e1, e2, e3, e4⟩ := fst_ok hm hn hb' q
      obtain ⟨l', e1', e2', e3', e4'⟩ := fst_ok hm hn hb' (Int.le_trans h q)
      refine e4' _ ?_ (by omega)
      have : fst_ ms n y ∈ (ms.filter fun m => decide (y ≤ m)) := by rw [e1]; exact List.mem_cons_self
      exact (List.mem_filter.mp this).1
    · rw [fst_far (x := y) hb' (by omega)]
      by_cases q2 : x ≤ (n : Int)
      · obtain ⟨l', e1', e2', e3', e4'⟩ := fst_ok hm hn hb' q2
        exact e3'
      · rw [fst_far (x := x) hb' (by omega)]
        exact Int.le_refl _
  · obtain ⟨l', e1', e2', e3', e4'⟩ := fst_ok hm hn hb' (show x ≤ (n : Int) by omega)
    omega
/-- the loop of way 2 -/
theorem tab_two {n : Nat} {s6 : Sl} {ms : List Int} {d2 : DSt} (h1 : 1 ≤ n) (h20 : n ≤ 20) (hm : ms.Pairwise (· ≤ ·)) (hn : (n : Int) ∈ ms) (hb : ∀ m ∈ ms, 0 ≤ m ∧ m ≤ (n : Int)) (hl : ms.length < LIM) :
    ∃ s8, sLoop (.n 8) (sApp 3 (eBin (oIx OT0) (eL (aLc (iSeq (eVar 7)) [9] (.n 9) (bBool (eBin (oGe OT0) (eVar 9) (eVar 8))) (eVar 9))) (eC (.int 0)))) ((idl (n + 1)).map PV.int) [.dr, .val (.int n), .val (.int 2), .own [], .val (.int 0), .un, s6, .val (.lst (ms.map PV.int)), .un, .un, .un] d2
      = .nx [.dr, .val (.int n), .val (.int 2), .own (((idl (n + 1)).map (fst_ ms n)).map PV.int), .val (.int 0), .un, s6, .val (.lst (ms.map PV.int)), s8, .un, .un] d2 := by
  obtain ⟨ρ', d', e, s8, e2, e3⟩ := sLoop_run (t := .n 8) (xs := (idl (n + 1)).map PV.int) (ρ := [.dr, .val (.int n), .val (.int 2), .own [], .val (.int 0), .un, s6, .val (.lst (ms.map PV.int)), .un, .un, .un]) (d := d2)
    (body := sApp 3 (eBin (oIx OT0) (eL (aLc (iSeq (eVar 7)) [9] (.n 9) (bBool (eBin (oGe OT0) (eVar 9) (eVar 8))) (eVar 9))) (eC (.int 0))))
    (I := fun i ρ d => ∃ s8, ρ = [.dr, .val (.int n), .val (.int 2), .own (((idl i).map (fst_ ms n)).map PV.int), .val (.int 0), .un, s6, .val (.lst (ms.map PV.int)), s8, .un, .un] ∧ d = d2)
    ⟨.un, rfl, rfl⟩ fun i x ρ d ex hI => by
      obtain ⟨s8, rfl, rfl⟩ := hI
      obtain ⟨hi, rfl⟩ := idl_map_get ex
      obtain ⟨l, e1, _⟩ := fst_ok (x := (i : Int)) hm hn (fun m h => (hb m h).2) (by omega)
      have hlf : ∀ ρ i bc me d, lcR ρ (.n i) bc me (ms.map PV.int) d = filR ms (fun x d => bc (ρ.set i (.val (.int x))) d) (fun x d => me (ρ.set i (.val (.int x))) d) d := fun ρ i bc me d => lcR_intsF hl
      have hix : oIx OT0 (.lst (PV.int (fst_ ms n i) :: l.map PV.int)) (.int 0) = .ok (.int (fst_ ms n i)) := by
        have z := oIx_lst (o := OT0) (u := fst_ ms n i :: l) (v := 0) (by decide) (by simp)
        simpa [gt] using z
      have hL : i < LIM := Nat.lt_of_lt_of_le hi (Nat.le_trans (Nat.succ_le_succ h20) (by decide))
      refine ⟨_, _, d, rfl, ?_, .val (.int i), rfl, rfl⟩
      simp [hlf, e1, hix, idl_succ, hL]
  refine ⟨s8, ?_⟩
  rw [e, e2, e3]
  simp
theorem v_law_table {k n : Nat} {d : DSt} (D : DI k d) (hk : k < 900000) (h1 : 1 ≤ n) (h20 : n ≤ 20) :
    ∃ t d', f_law_table [.int n] d = .ok (.lst (t.map PV.int)) d' ∧ VL (n + 1) t ∧ DI (k + 30) d' := by
  obtain ⟨w, d1, e1, w0, w5, D1⟩ := v_law_draw (top := 5) D (by omega) (by decide) (by decide)
  obtain ⟨v, d2, e2, v0, v1, D2⟩ := v_law_draw (top := (n : Int) + 1) D1 (by omega) (by omega) (by omega)
  have s2 : SM64 2 := by decide
  have s3 : SM64 3 := by decide
  have L := lim20 h20
  have hr : ∀ d, rngR [.int ((n : Int) + 1)] d = .ok ((idl (n + 1)).map PV.int) d := fun d => rngR_n1 (by omega)
  have hlc : ∀ ρ i me d, lcR ρ (.n i) bYes me ((idl (n + 1)).map PV.int) d = mapR (idl (n + 1)) (fun x d => me (ρ.set i (.val (.int x))) d) d := fun ρ i me d => lcR_ints L
  have hlf : ∀ ρ i bc me d, lcR ρ (.n i) bc me ((idl (n + 1)).map PV.int) d = filR (idl (n + 1)) (fun x d => bc (ρ.set i (.val (.int x))) d) (fun x d => me (ρ.set i (.val (.int x))) d) d := fun ρ i bc me d => lcR_intsF L
  obtain ⟨ys, d3, e3, hy1, hy2, D3⟩ := mapR_inv (l := idl (n + 1)) (f := fun _ d => f_law_draw [.int ((n : Int) + 1)] d) (I := DI) (P := fun y => ∃ x, y = PV.int x ∧ 0 ≤ x ∧ x < (n : Int) + 1) (m := k + 30) D1 (by simp; omega) fun x hx k d D hk => by
    obtain ⟨v, d2, e2, v0, v1, D2⟩ := v_law_draw (top := (n : Int) + 1) D (by omega) (by omega) (by omega)
    exact ⟨_, _, e2, ⟨v, rfl, v0, v1⟩, D2⟩
  obtain ⟨st, rfl, hst⟩ := ints_of hy2
  have hsl : st.length = n + 1 := by simpa using hy1
  have hst' : ∀ x ∈ st, 0 ≤ x ∧ x < ((n + 1 : Nat) : Int) := fun x hx => by have := hst x hx; omega
  have D30 : DI (k + 30) d3 := D3.mono (by simp; omega)
  have hsL : st.length < LIM := by rw [hsl]; exact Nat.lt_of_le_of_lt (show _ ≤ 21 by omega) (by decide)
  have g0 : oIx OT0 (.lst (st.map PV.int)) (.int 0) = .ok (.int (gt st 0)) := oIx_lst (by decide) (by omega)
  have gg : ∀ x ∈ idl (n + 1), oIx OT0 (.lst (st.map PV.int)) (.int x) = .ok (.int (gt st x)) := fun x hx => by have := mem_idl.mp hx; exact oIx_lst this.1 (by omega)
  rcases int5 w0 w5 with rfl | rfl | rfl | rfl | rfl
  · refine ⟨cst (n + 1) v, d2, ?_, ⟨va_cst (by omega) (by omega) v0 (by omega), by simp [cst]⟩, D2.mono (by omega)⟩
    have hm := mulR_one (k := (n : Int) + 1) (n := n + 1) (v := v) (d := d2) (by omega) (by omega)
    simp [f_law_table, m_law_table, runM, startG, e1, e2, hm, oMul, s2]
    rw [← rep_cst]; simp
  · obtain ⟨v, d2, e2, v0, v1, D2⟩ := v_law_draw (top := 2 * (n : Int) + 1) D1 (by omega) (by omega) (by omega)
    refine ⟨shf (n + 1) (v - n), d2, ?_, ⟨va_shf (by omega) (by omega), by simp [shf]⟩, D2.mono (by omega)⟩
    simp [f_law_table, m_law_table, runM, startG, e1, e2, oMul, s2, hr, hlc, fMax_i, fMin_i]
    unfold shf
    rw [List.map_map]
    refine List.map_congr_left fun x hx => ?_
    simp only [Function.comp, hold]
    congr 1
    repeat' split <;> omega
  · let ms := (idl (n + 1)).filter fun x => decide (gt st x * 3 < (n : Int)) || decide (x = (n : Int))
    have hmb : ∀ m ∈ ms, 0 ≤ m ∧ m ≤ (n : Int) := fun m hm => by have := mem_idl.mp (List.mem_filter.mp hm).1; omega
    have hmn : (n : Int) ∈ ms := List.mem_filter.mpr ⟨mem_idl.mpr ⟨by omega, by omega⟩, by simp⟩
    have hms : ms.Pairwise (· ≤ ·) := by
      have := pw_map (f := fun x => x) (fun _ _ h => h) (n + 1)
      rw [List.map_id'] at this
      exact this.filter _
    obtain ⟨s8, el⟩ := tab_two (s6 := .val (.lst (st.map PV.int))) (d2 := d3) h1 h20 hms hmn hmb (Nat.lt_of_le_of_lt (List.length_filter_le _ _) L)
    refine ⟨(idl (n + 1)).map (fst_ ms n), d3, ?_, va_fst h1 h20 hms hmn hmb, D30⟩
    have hL2 : ms.length ≤ n + 1 := by have := List.length_filter_le (fun x => decide (gt st x * 3 < (n : Int)) || decide (x = (n : Int))) (idl (n + 1)); simpa [ms] using this
    simp [f_law_table, m_law_table, runM, startG, e1, hr, hlc, hlf, e3]
    rw [filR_ok (fun x => decide (gt st x * 3 < (n : Int)) || decide (x = (n : Int))) PV.int (fun x hx => by simp [gg x hx, oMul, s3, R_or]) fun x hx _ => by simp]
    simp [hr]
    rw [show List.filter (fun x => decide (gt st x * 3 < (n : Int)) || decide (x = (n : Int))) (idl (n + 1)) = ms from rfl, el]
    simp
  · obtain ⟨s8, el⟩ := tab_fin (s2 := .val (.int 3)) (d2 := d3) h1 h20 hst' hsl
    refine ⟨bk st (n + 1), d3, ?_, bk_all hst' hsl (by omega) (by omega), D30⟩
    simp [f_law_table, m_law_table, runM, startG, e1, hr, hlc, e3, el]
  · let st2 := st.map fun x => if x * 2 < (n : Int) then x else gt st 0
    have hst2 : ∀ x ∈ st2, 0 ≤ x ∧ x < ((n + 1 : Nat) : Int) := fun x hx => by
      obtain ⟨y, hy, rfl⟩ := List.mem_map.mp hx
      split
      · exact hst' y hy
      · exact hst' _ (List.mem_of_getElem? (gt_get (by decide) (by omega)))
    have hsl2 : st2.length = n + 1 := by simp [st2, hsl]
    obtain ⟨s8, el⟩ := tab_fin (s2 := .val (.int 4)) (d2 := d3) h1 h20 hst2 hsl2
    refine ⟨bk st2 (n + 1), d3, ?_, bk_all hst2 hsl2 (by omega) (by omega), D30⟩
    have hls : ∀ ρ i me d, lcR ρ (.n i) bYes me (st.map PV.int) d = mapR st (fun x d => me (ρ.set i (.val (.int x))) d) d := fun ρ i me d => lcR_ints hsL
    simp [f_law_table, m_law_table, runM, startG, e1, hr, hlc, e3, oMul, s2, hls, g0, R_ite, int_ite]
    rw [show List.map (fun x => PV.int (if x * 2 < (n : Int) then x else gt st 0)) st = st2.map PV.int by simp [st2], el]
    simp
end G
end M_k05_Fk14
section M_k05_Fk15
namespace G
open PySem RL
theorem shw_ints {t : List Int} (h : Va t) : Shw 1 300 (.tuple (t.map PyData.int)) := by
  have z := shw_tup (d := 0) (m := 10) (l := t.map PyData.int) fun x hx => by
    obtain ⟨v, hv, rfl⟩ := List.mem_map.mp hx
    have a := h.r v hv
    have b := h.l21
    exact shw_int a.1 (by have : ((10 : Int) ^ 10) = 10000000000 := by decide
                          omega) 0
  exact z.mono (by decide) (by rw [List.length_map]; have := h.l21; omega)
theorem toD_tup (t : List Int) : toD (.tup (t.map PV.int)) = some (.tuple (t.map PyData.int)) := by simp [toD, toDs_ints]
/-- what is written of the values -/
theorem rp_tup {t : List Int} (h : Va t) : ∃ s, PyData.strOk s = true ∧ fRepr [.tup (t.map PV.int)] = .ok (.str s) :=
  ⟨_, (shw_ints h).o, repr_tup (toD_tup t) (shw_ints h) (by decide) (by decide)⟩
theorem rp_two {t u : List Int} (h : Va t) (k : Va u) : ∃ s, PyData.strOk s = true ∧ fRepr [.lst [.tup (t.map PV.int), .tup (u.map PV.int)]] = .ok (.str s) := by
  have z := shw_list (l := [.tuple (t.map PyData.int), .tuple (u.map PyData.int)]) (d := 1) (m := 300) fun x hx => by
    rcases List.mem_cons.mp hx with rfl | hx
    · exact shw_ints h
    · rcases List.mem_cons.mp hx with rfl | hx
      · exact shw_ints k
      · cases hx
  exact ⟨_, z.o, repr_list (by simp [toD, toDs, toDs_ints]) z (by decide) (show 4 + 2 * (300 + 2) < LIM by decide)⟩
theorem rp_four (a b c d : Bool) : ∃ s, PyData.strOk s = true ∧ fRepr [.lst [.bl a, .bl b, .bl c, .bl d]] = .ok (.str s) := by
  have z := shw_list (l := [.bool a, .bool b, .bool c, .bool d]) (d := 0) (m := 5) fun x hx => by
    simp only [List.mem_cons, List.not_mem_nil, or_false] at hx
    rcases hx with rfl | rfl | rfl | rfl <;> exact shw_bool _ 0
  exact ⟨_, z.o, repr_list (by simp [toD, toDs]) z (by decide) (show 4 + 4 * (5 + 2) < LIM by decide)⟩
theorem le_lo {n : Nat} {f g : List Int} (F : VL n f) (G' : VL n g) : le f g = decide (lo f g = f) := by
  rw [Bool.eq_iff_iff, decide_eq_true_iff, le_iff (F.2.trans G'.2.symm)]
  constructor
  · intro h
    refine ext_gt ((F.lo G').2.trans F.2.symm) fun i h0 h1 => ?_
    rw [(F.lo G').2, ← F.2] at h1
    have := h i h0 h1
    rw [gt_lo h0 h1 (F.2.trans G'.2.symm)]; unfold mn; split <;> omega
  · intro h i h0 h1
    have e := gt_lo h0 h1 (F.2.trans G'.2.symm)
    rw [h] at e
    unfold mn at e; split at e <;> omega
theorem le_hi {n : Nat} {f g : List Int} (F : VL n f) (G' : VL n g) : le g f = decide (hi f g = f) := by
  rw [Bool.eq_iff_iff, decide_eq_true_iff, le_iff (G'.2.trans F.2.symm)]
  constructor
  · intro h
    refine ext_gt ((F.hi G').2.trans F.2.symm) fun i h0 h1 => ?_
    rw [(F.hi G').2, ← F.2] at h1
    have := h i h0 (by rw [G'.2, ← F.2]; exact h1)
    rw [gt_hi h0 h1 (F.2.trans G'.2.symm)]; unfold mx; split <;> omega
  · intro h i h0 h1
    rw [G'.2, ← F.2] at h1
    have e := gt_hi h0 h1 (F.2.trans G'.2.symm)
    rw [h] at e
    unfold mx at e; split at e <;> omega
theorem le_hi2 {n : Nat} {f g : List Int} (F : VL n f) (G' : VL n g) : le f g = decide (hi f g = g) := by
  rw [Bool.eq_iff_iff, decide_eq_true_iff, le_iff (F.2.trans G'.2.symm)]
  constructor
  · intro h
    refine ext_gt ((F.hi G').2.trans G'.2.symm) fun i h0 h1 => ?_
    rw [(F.hi G').2, ← F.2] at h1
    have := h i h0 h1
    rw [gt_hi h0 h1 (F.2.trans G'.2.symm)]; unfold mx; split <;> omega
  · intro h i h0 h1
    have e := gt_hi h0 h1 (F.2.trans G'.2.symm)
    rw [h] at e
    unfold mx at e; split at e <;> omega
theorem lo_comm {n : Nat} {f g : List Int} (F : VL n f) (G' : VL n g) : lo f g = lo g f := by
  refine ext_gt ((F.lo G').2.trans (G'.lo F).2.symm) fun i h0 h1 => ?_
  rw [(F.lo G').2] at h1
  rw [gt_lo h0 (by rw [F.2]; exact h1) (F.2.trans G'.2.symm), gt_lo h0 (by rw [G'.2]; exact h1) (G'.2.trans F.2.symm)]
  unfold mn; split <;> split <;> omega
theorem hi_comm {n : Nat} {f g : List Int} (F : VL n f) (G' : VL n g) : hi f g = hi g f := by
  refine ext_gt ((F.hi G').2.trans (G'.hi F).2.symm) fun i h0 h1 => ?_
  rw [(F.hi G').2] at h1
  rw [gt_hi h0 (by rw [F.2]; exact h1) (F.2.trans G'.2.symm), gt_hi h0 (by rw [G'.2]; exact h1) (G'.2.trans F.2.symm)]
  unfold mx; split <;> split <;> omega
theorem lo_abs {n : Nat} {f g : List Int} (F : VL n f) (G' : VL n g) : lo f (hi f g) = f := by
  refine ext_gt ((F.lo (F.hi G')).2.trans F.2.symm) fun i h0 h1 => ?_
  rw [(F.lo (F.hi G')).2, ← F.2] at h1
  rw [gt_lo h0 h1 (F.2.trans (F.hi G').2.symm), gt_hi h0 h1 (F.2.trans G'.2.symm)]
  unfold mn mx; repeat' split <;> try omega
theorem hi_abs {n : Nat} {f g : List Int} (F : VL n f) (G' : VL n g) : hi f (lo f g) = f := by
  refine ext_gt ((F.hi (F.lo G')).2.trans F.2.symm) fun i h0 h1 => ?_
  rw [(F.hi (F.lo G')).2, ← F.2] at h1
  rw [gt_hi h0 h1 (F.2.trans (F.lo G').2.symm), gt_lo h0 h1 (F.2.trans G'.2.symm)]
  unfold mn mx; repeat' split <;> try omega
theorem map_gt_idl {t u : List Int} (e : t.length = u.length) : (idl t.length).map (fun x => PV.int (gt u x)) = u.map PV.int := by
  refine List.ext_getElem (by simp [e]) fun i h1 h2 => ?_
  have z := idl_get (n := t.length) (i := i) (by simpa using h1)
  have hi : i < u.length := by simpa using h2
  simp [idl, gt, hi]
theorem zw_lo (t u : List Int) : List.zipWith (fun x y => PV.int (if x < y then x else y)) t u = (lo t u).map PV.int := by
  unfold lo
  rw [List.map_zipWith]
  congr 1
  funext x y
  congr 1
  split <;> split <;> omega
theorem zw_hi (t u : List Int) : List.zipWith (fun x y => PV.int (if x < y then y else x)) t u = (hi t u).map PV.int := by
  unfold hi
  rw [List.map_zipWith]
  congr 1
  funext x y
  congr 1
  split <;> split <;> omega
end G
end M_k05_Fk15
section M_k05_Fk16
namespace G
open PySem RL
theorem gt_mapi {f : Int → Int} {n : Nat} {x : Int} (h0 : 0 ≤ x) (h1 : x < n) : gt ((idl n).map f) x = f x := by
  unfold gt
  rw [List.getElem?_map, idl_get (show x.toNat < n by omega)]
  simp [Int.toNat_of_nonneg h0]
theorem gt_idl {n : Nat} {x : Int} (h0 : 0 ≤ x) (h1 : x < n) : gt (idl n) x = x := by
  have z := gt_mapi (f := fun x => x) h0 h1
  simpa using z
theorem dn_mapi {g : Int → Int} {n : Nat} {t : List Int} (h : VL n t) : dn t ((idl n).map g) = t.map g := by
  unfold dn
  refine List.map_congr_left fun x hx => ?_
  have := h.1.r x hx
  exact gt_mapi this.1 (by rw [← h.2]; exact this.2)
theorem dn_idl {n : Nat} {t : List Int} (h : VL n t) : dn t (idl n) = t := by
  have z := dn_mapi (g := fun x => x) h
  simpa using z
theorem mapi_gt (t : List Int) : (idl t.length).map (gt t) = t := by
  refine List.ext_getElem (by simp) fun i h1 h2 => ?_
  simp [idl, gt, h2]
theorem idl_dn {n : Nat} {t : List Int} (h : VL n t) : dn (idl n) t = t := by
  unfold dn
  rw [← h.2]
  exact mapi_gt t
theorem dn_cst {n : Nat} {t : List Int} {v : Int} (h : VL n t) : dn t (cst n v) = cst n v := by
  unfold cst
  rw [dn_mapi h, List.map_const', List.map_const', len_idl, h.2]
theorem cst_dn {n : Nat} {t : List Int} {v : Int} : dn (cst n v) t = cst n (gt t v) := by
  unfold cst dn
  rw [List.map_map]
  rfl
theorem le_mapi {f g : Int → Int} {n : Nat} : le ((idl n).map f) ((idl n).map g) = true ↔ ∀ x : Int, 0 ≤ x → x < n → f x ≤ g x := by
  rw [le_iff (by simp)]
  simp only [List.length_map, len_idl]
  constructor
  · intro h x h0 h1
    have z := h x h0 h1
    rwa [gt_mapi h0 h1, gt_mapi h0 h1] at z
  · intro h x h0 h1
    rw [gt_mapi h0 h1, gt_mapi h0 h1]
    exact h x h0 h1
theorem le_shf {n : Nat} (h1 : 1 ≤ n) (b : Int) : le (shf (n + 1) b) (idl (n + 1)) = decide (b ≤ 0) := by
  rw [Bool.eq_iff_iff, decide_eq_true_iff]
  have z := le_mapi (f := fun x => hold ((n + 1 : Nat) - 1 : Int) (x + b)) (g := fun x => x) (n := n + 1)
  rw [List.map_id'] at z
  refine Iff.trans z ?_
  constructor
  · intro h
    have y := h 0 (by omega) (by omega)
    unfold hold at y
    split at y
    · omega
    · split at y <;> omega
  · intro h x h0 h2
    unfold hold
    split
    · omega
    · split <;> omega
theorem shf_le {n : Nat} (h1 : 1 ≤ n) (b : Int) : le (idl (n + 1)) (shf (n + 1) b) = decide (0 ≤ b) := by
  rw [Bool.eq_iff_iff, decide_eq_true_iff]
  have z := le_mapi (g := fun x => hold ((n + 1 : Nat) - 1 : Int) (x + b)) (f := fun x => x) (n := n + 1)
  rw [List.map_id'] at z
  refine Iff.trans z ?_
  constructor
  · intro h
    have y := h n (by omega) (by omega)
    unfold hold at y
    split at y
    · omega
    · split at y <;> omega
  · intro h x h0 h2
    unfold hold
    split
    · omega
    · split <;> omega
theorem tmO : tm_RowMap_of 20 = some f_RowMap_of := rfl
theorem ne_int (t : OT) (a b : Int) : oNe t (.int a) (.int b) = .ok (.bl (!decide (a = b))) := by simp
end G
end M_k05_Fk16
section M_k05_Lk1
namespace G
open PySem RL
/-! ### maps of different rows -/
section
variable {t u : List Int}
theorem v_same_other (e : t.length ≠ u.length) : f_check_same_row [mk t, mk u] = .ex (.own 4 [mk u]) := by /- f_law_strangers_right -/
  have l1 := at_last t
  have l2 := at_last u
  have q : ¬ ((t.length : Int) - 1 = (u.length : Int) - 1) := by omega
  simp -implicitDefEqProofs [f_check_same_row, m_check_same_row, fnP, BkP.b, runB, startG, l1, l2, oEqD_int, q]
theorem v_pair_other (e : t.length ≠ u.length) : f_check_pair_maps [mk t, mk u] = .ex (.own 4 [mk u]) := by /- f_law_strangers_right -/
  have c := v_check_map u
  have q := v_same_other e
  simp -implicitDefEqProofs [f_check_pair_maps, m_check_pair_maps, fnP, BkP.b, runB, startG, c, q]
theorem v_below_other (e : t.length ≠ u.length) : f_is_below [mk t, mk u] = .ex (.own 4 [mk u]) := by /- f_law_strangers_right -/
  have q := v_same_other e
  simp -implicitDefEqProofs [f_is_below, m_is_below, fnP, BkP.b, runB, startG, q]
theorem x_add (e : t.length ≠ u.length) : oAdd tadd (mk t) (mk u) = .ex (.own 4 [mk u]) := by /- f_law_strangers_right -/
  have q := v_pair_other e
  show f_RowMap_add [mk t, mk u] = _
  simp -implicitDefEqProofs [f_RowMap_add, m_RowMap_add, fnP, BkP.b, runB, startG, q]
theorem x_and (e : t.length ≠ u.length) : oOwn tand (mk t) (mk u) = .ex (.own 4 [mk u]) := by /- f_law_strangers_right -/
  have q := v_pair_other e
  show f_RowMap_and [mk t, mk u] = _
  simp -implicitDefEqProofs [f_RowMap_and, m_RowMap_and, fnP, BkP.b, runB, startG, q]
theorem x_or (e : t.length ≠ u.length) : oOwn tor (mk t) (mk u) = .ex (.own 4 [mk u]) := by /- f_law_strangers_right -/
  have q := v_pair_other e
  show f_RowMap_or [mk t, mk u] = _
  simp -implicitDefEqProofs [f_RowMap_or, m_RowMap_or, fnP, BkP.b, runB, startG, q]
theorem x_le (e : t.length ≠ u.length) : oLe tle (mk t) (mk u) = .ex (.own 4 [mk u]) := by /- f_law_strangers_right -/
  have c := v_check_map u
  have q := v_below_other e
  show f_RowMap_le [mk t, mk u] = _
  simp -implicitDefEqProofs [f_RowMap_le, m_RowMap_le, fnP, BkP.b, runB, startG, c, q]
theorem x_lt (e : t.length ≠ u.length) : oLt tlt (mk t) (mk u) = .ex (.own 4 [mk u]) := by /- f_law_strangers_right -/
  have c := v_check_map u
  have q := v_below_other e
  show f_RowMap_lt [mk t, mk u] = _
  simp -implicitDefEqProofs [f_RowMap_lt, m_RowMap_lt, fnP, BkP.b, runB, startG, c, q]
theorem x_ge (e : t.length ≠ u.length) : oGe tge (mk t) (mk u) = .ex (.own 4 [mk t]) := by /- f_law_strangers_right -/
  have c := v_check_map u
  have q := v_below_other (t := u) (u := t) (Ne.symm e)
  show f_RowMap_ge [mk t, mk u] = _
  simp -implicitDefEqProofs [f_RowMap_ge, m_RowMap_ge, fnP, BkP.b, runB, startG, c, q]
theorem x_gt (e : t.length ≠ u.length) : oGt tgt (mk t) (mk u) = .ex (.own 4 [mk t]) := by /- f_law_strangers_right -/
  have c := v_check_map u
  have q := v_below_other (t := u) (u := t) (Ne.symm e)
  show f_RowMap_gt [mk t, mk u] = _
  simp -implicitDefEqProofs [f_RowMap_gt, m_RowMap_gt, fnP, BkP.b, runB, startG, c, q]
theorem told_row (p : PV) : f_law_told (.ex (.own 4 [p])) = .ok (.tup [.str "row", p]) := by /- f_law_strangers_right -/
  have ct : cat_MarkroundsError 4 = true := rfl
  have i0 : oIs2 false (.exc 4 [p]) .non = .ok (.bl false) := rfl
  have is : fIsi ib [.exc 4 [p], .gl 4] = .ok (.bl true) := rfl
  have xr : xa_value 4 = some 0 := rfl
  simp -implicitDefEqProofs [f_law_told, m_law_told, RL.startL, O.r, ct, i0, is, xr]
theorem own_eq (t : List Int) (n : Nat) : eqT teq (n + 1) (.tup [.str "row", mk t]) (.tup [.str "row", mk t]) = true := by /- f_law_strangers_right -/
  have e : own2 teq 20 20 [mk t, mk t] = .ok (.bl true) := by
    have z := v_RowMap_eq t t
    rw [show decide (t = t) = true from decide_eq_true rfl] at z
    exact z
  have e' : ∀ n, eqT teq n (mk t) (mk t) = true := fun n => by
    unfold mk at e ⊢
    unfold eqT
    simp only [e]
  unfold eqT
  simp only [List.zip_cons_cons, List.zip_nil_right, List.all_cons, List.all_nil, e', Bool.and_true, List.length_cons, decide_true, Bool.true_and]
  unfold eqT
  simp
theorem eqT_all {p : PV} (h : ∀ n, eqT teq (n + 1) p p = true) (l : List PV) (hl : ∀ x ∈ l, x = p) : eqT teq 3 (.lst l) (.lst l) = true := by /- f_law_strangers_right -/
  unfold eqT
  rw [Bool.and_eq_true, decide_eq_true_eq]
  refine ⟨rfl, List.all_eq_true.mpr fun q hq => ?_⟩
  have z := List.of_mem_zip hq
  rw [hl _ z.1, hl _ z.2]
  exact h 1
theorem ne_five (t : List Int) : oNeL teq (.lst [.tup [.str "row", mk t], .tup [.str "row", mk t], .tup [.str "row", mk t], .tup [.str "row", mk t], .tup [.str "row", mk t]]) (.lst [.tup [.str "row", mk t], .tup [.str "row", mk t], .tup [.str "row", mk t], .tup [.str "row", mk t], .tup [.str "row", mk t]]) = .ok (.bl false) :=
  if_pos (eqT_all (own_eq t) _ (by simp)) /- f_law_strangers_right -/
theorem eq_two (t : List Int) : oEqL teq (.lst [.tup [.str "row", mk t], .tup [.str "row", mk t]]) (.lst [.tup [.str "row", mk t], .tup [.str "row", mk t]]) = .ok (.bl true) :=
  if_pos (eqT_all (own_eq t) _ (by simp)) /- f_law_strangers_right -/
theorem v_law_strangers_right (e : t.length ≠ u.length) : f_law_strangers_right [mk t, mk u] = .ok (.bl true) := by
  have a1 := x_add e
  have a2 := x_and e
  have a3 := x_or e
  have a4 := x_le e
  have a5 := x_lt e
  have a6 := x_ge e
  have a7 := x_gt e
  have m5 : ∀ x d, mulR [x] (.int 5) d = .ok [x, x, x, x, x] d := fun _ _ => rfl
  have m2 : ∀ x d, mulR [x] (.int 2) d = .ok [x, x] d := fun _ _ => rfl
  have td := told_row
  have n5 := ne_five u
  have e2 := eq_two t
  have ne : oEqL teq (mk t) (mk u) = .ok (.bl false) := by
    have z := v_RowMap_eq t u
    rw [show decide (t = u) = false from by simp; intro h; exact e (by rw [h])] at z
    exact z
  simp -implicitDefEqProofs [f_law_strangers_right, m_law_strangers_right, fnP, BkP.b, runB, startG, vOnly, lamO, O.r, a1, a2, a3, a4, a5, a6, a7, td, n5, e2, ne, m5, m2]
end
/-! ### maps of one row -/
section
variable {n : Nat} {t u v : List Int}
theorem rp_threeT (h : Va t) (k : Va u) (l : Va v) : ∃ s, PyData.strOk s = true ∧ fRepr [.lst [.tup (t.map PV.int), .tup (u.map PV.int), .tup (v.map PV.int)]] = .ok (.str s) := by /- f_law_pair_right -/
  have z := shw_list (l := [.tuple (t.map PyData.int), .tuple (u.map PyData.int), .tuple (v.map PyData.int)]) (d := 1) (m := 300) fun x hx => by
    simp only [List.mem_cons, List.not_mem_nil, or_false] at hx
    rcases hx with rfl | rfl | rfl
    · exact shw_ints h
    · exact shw_ints k
    · exact shw_ints l
  exact ⟨_, z.o, repr_list (by simp [toD, toDs, toDs_ints]) z (by decide) (show 4 + 3 * (300 + 2) < LIM by decide)⟩
theorem lo_lt (t u : List Int) : t.zipWith (fun x y => if x < y then x else y) u = lo t u := by
  unfold lo
  congr 1
  funext x y
  split <;> split <;> omega
theorem hi_lt (t u : List Int) : t.zipWith (fun x y => if x < y then y else x) u = hi t u := by
  unfold hi
  congr 1
  funext x y
  split <;> split <;> omega
theorem lc3 {ρ : REnv} {i : Nat} {me : EM} {d : DSt} (a b c : PV) : lcR ρ (.n i) bYes me [a, b, c] d = mapR [a, b, c] (fun x d => me (ρ.set i (.val x)) d) d := by /- f_law_pair_right -/
  unfold lcR
  rw [if_pos (show [a, b, c].length < LIM from by show 3 < 100000; omega), lcGo_mapR]
theorem eqTT (x y : List Int) : oEqD false (.lst [.tup (x.map PV.int), .tup (y.map PV.int)]) (.lst [.tup (x.map PV.int), .tup (y.map PV.int)]) = .ok (.bl true) := by /- f_law_pair_right -/
  simp [oEqD, toD, toDs, toDs_ints, SeqAt.shaped, PyData.canLay0, PyData.canLayAll0, lay_ints, PyData.depth, PyData.depthAll, depth_ints, PyData.eqv, PyData.eqvAll, eqvAll_ints]
theorem below_le (V : VL n t) (U : VL n u) : ((t.zip u).filter fun p => decide (p.2 < p.1)) = [] ↔ le t u = true := by
  rw [List.filter_eq_nil_iff]
  unfold le
  rw [List.all_eq_true]
  constructor
  · intro h p hp
    have := h p hp
    simp only [decide_eq_true_eq] at this ⊢
    omega
  · intro h p hp
    have := h p hp
    simp only [decide_eq_true_eq] at this ⊢
    omega
theorem v_law_pair_right (V : VL n t) (U : VL n u) : f_law_pair_right [.lst (t.map PV.int), .lst (u.map PV.int)] = .ok (.bl true) := by
  have e := V.2.trans U.2.symm
  have mt := v_RowMap_of V.1
  have mu := v_RowMap_of U.1
  have A := p_add V U
  have B := p_and V U
  have C := p_or V U
  have L1 := p_le V U
  have L2 := p_lt V U
  have L3 := p_ge U V
  have L4 := p_gt U V
  have D := V.dn U
  have is : fIsi ib [mk (dn t u), .gl 20] = .ok (.bl true) := rfl
  have LL := lt_LIM V.1
  have hls : ∀ ρ i me d, lcR ρ (.n i) bYes me (t.map PV.int) d = mapR t (fun x d => me (ρ.set i (.val (.int x))) d) d := fun ρ i me d => lcR_ints LL
  have hlz : ∀ ρ i j me d, lcR ρ (.t [.n i, .n j]) bYes me (zipP (t.map PV.int) (u.map PV.int)) d = map2R t u (fun x y d => me ((ρ.set i (.val (.int x))).set j (.val (.int y))) d) d := fun ρ i j me d => lcR_zip LL
  have ix : ∀ x ∈ t, oIx tgetitem (.lst (u.map PV.int)) (.int x) = .ok (.int (gt u x)) := fun x hx => oIx_lst (V.1.r x hx).1 (by have := (V.1.r x hx).2; omega)
  have M1 : ∀ d, mapR t (fun x d => (oIx tgetitem (.lst (u.map PV.int)) (.int x)).r d) d = .ok ((dn t u).map PV.int) d := fun d => by
    rw [mapR_ok (fun x => PV.int (gt u x)) fun x hx => by rw [ix x hx]; rfl]
    unfold dn
    rw [List.map_map]
    rfl
  have Z1 : t.zipWith (fun x y => PV.int (if x < y then x else y)) u = (lo t u).map PV.int := by
    rw [← lo_lt, List.map_zipWith]
  have Z2 : t.zipWith (fun x y => PV.int (if x < y then y else x)) u = (hi t u).map PV.int := by
    rw [← hi_lt, List.map_zipWith]
  have M2 : ∀ d, map2R t u (fun x y d => if x < y then R.ok (PV.int x) d else R.ok (PV.int y) d) d = .ok ((lo t u).map PV.int) d := fun d => by
    rw [map2R_ok (fun x y => PV.int (if x < y then x else y)) fun x _ y _ => by split <;> rfl, Z1]
  have M3 : ∀ d, map2R t u (fun x y d => if x < y then R.ok (PV.int y) d else R.ok (PV.int x) d) d = .ok ((hi t u).map PV.int) d := fun d => by
    rw [map2R_ok (fun x y => PV.int (if x < y then y else x)) fun x _ y _ => by split <;> rfl, Z2]
  have m2 : ∀ x y d, mulR [x, y] (.int 2) d = .ok [x, y, x, y] d := fun _ _ _ => rfl
  obtain ⟨s1, o1, r1⟩ := rp_threeT D.1 (V.lo U).1 (V.hi U).1
  obtain ⟨s2, o2, r2⟩ := rp_four (le t u) (le t u && !decide (t = u)) (le t u) (le t u && !decide (t = u))
  have q1 := eqTT t u
  have low : ∀ s0 s1 s2 s3 s4 s5 s6 s7 s8 s9 s10 d, lcR [s0, s1, s2, s3, s4, s5, s6, s7, s8, s9, s10] (.t [.n 8, .n 9]) (bBool (eBin (oGt tgt) (eVar 8) (eVar 9))) (eC (.int 1)) (zipP (t.map PV.int) (u.map PV.int)) d = .ok (((t.zip u).filter fun p => decide (p.2 < p.1)).map fun _ => PV.int 1) d := fun s0 s1 s2 s3 s4 s5 s6 s7 s8 s9 s10 d => by
    rw [zipP_ints]
    exact lcR_gen (g := fun p : Int × Int => .tup [.int p.1, .int p.2]) (S := fun p => [s0, s1, s2, s3, s4, s5, s6, s7, .val (.int p.1), .val (.int p.2), s10]) (fun p => decide (p.2 < p.1)) (fun _ => PV.int 1) (by rw [List.length_zip]; have := Nat.min_le_left t.length u.length; show _ < 100000; have := V.1.l21; omega) (fun p _ => rfl) (fun p _ => by simp) (fun p _ _ => by simp)
  have E0 : oEqD false (.lst (((t.zip u).filter fun p => decide (p.2 < p.1)).map fun _ => PV.int 1)) (.lst []) = .ok (.bl (le t u)) := by
    have z := oEqD_lst false (((t.zip u).filter fun p => decide (p.2 < p.1)).map fun _ => (1 : Int)) []
    rw [List.map_map] at z
    refine Eq.trans z ?_
    congr 2
    rw [Bool.eq_iff_iff]
    simp only [Bool.false_xor, decide_eq_true_eq, List.map_eq_nil_iff]
    exact below_le V U
  have sy : decide (u = t) = decide (t = u) := by rw [Bool.eq_iff_iff, decide_eq_true_iff, decide_eq_true_iff]; exact eq_comm
  rw [sy] at L4
  generalize hw : le t u = w at L1 L2 L3 L4 r2 E0
  generalize hq : decide (t = u) = q at L2 L4 r2
  cases w <;> cases q <;> simp only [Bool.false_and, Bool.true_and, Bool.not_true, Bool.not_false] at r2 L2 L4 <;>
    simp -implicitDefEqProofs [f_law_pair_right, m_law_pair_right, fnP, BkP.b, runB, startG, tmO, mt, mu, A, B, C, is, hls, hlz, at_ims, M1, M2, M3, m2, lc3, mapR, R.nx, r1, o1, oEqD_str_self, q1, low, E0, L1, L2, L3, L4, r2, o2, hq, oEqD_lst]
end
end G
end M_k05_Lk1
section M_k05_Lk2
namespace G
open PySem RL
section
variable {n : Nat} {t u f g h : List Int}
theorem v_law_three_right5 (F : VL n f) (G' : VL n g) (H : VL n h) : f_law_three_right [.lst (f.map PV.int), .lst (g.map PV.int), .lst (h.map PV.int)] = .ok (.bl true) := by /- f_law_strangers_right -/
  have e := F.2.trans G'.2.symm
  have e' := G'.2.trans H.2.symm
  have mf := v_RowMap_of F.1
  have mg := v_RowMap_of G'.1
  have mh := v_RowMap_of H.1
  have A1 := p_add F G'
  have A2 := p_add (F.dn G') H
  have A3 := p_add G' H
  have A4 := p_add F (G'.dn H)
  have i1 := dn_assoc (f := f) (g := g) (h := h) F.1 e
  have LL := lt_LIM F.1
  have hls : ∀ ρ i me d, lcR ρ (.n i) bYes me (f.map PV.int) d = mapR f (fun x d => me (ρ.set i (.val (.int x))) d) d := fun ρ i me d => lcR_ints LL
  have q := eqTT (dn f (dn g h)) (dn f (dn g h))
  simp -implicitDefEqProofs [f_law_three_right, m_law_three_right, fnP, BkP.b, runB, startG, tmO, mf, mg, mh, A1, A2, A3, A4, hls, at_ims]
  rw [mapR_ok (fun x => PV.int (gt h (gt g x))) fun x hx => by
    have a := F.1.r x hx
    have b := G'.1.gt (v := x) a.1 (by omega)
    rw [oIx_lst (o := tgetitem) (u := g) (v := x) a.1 (by omega), O_r_ok]
    show (oIx tgetitem (.lst (h.map PV.int)) (.int (gt g x))).r _ = _
    rw [oIx_lst (o := tgetitem) (u := h) (v := gt g x) b.1 (by omega)]; rfl]
  have ed : (f.map fun x => PV.int (gt h (gt g x))) = (dn f (dn g h)).map PV.int := by
    rw [← i1]
    unfold dn
    rw [List.map_map, List.map_map]
    rfl
  rw [ed]
  simp -implicitDefEqProofs [A1, A2, A3, A4, at_ims, i1, q]
theorem vl_set (T : VL (n + 1) t) {i : Nat} (hi : i ≤ n) {v : Int} (l0 : i = 0 → 0 ≤ v) (l1 : 0 < i → gt t ((i : Int) - 1) ≤ v) (u0 : i = n → v ≤ n) (u1 : i < n → v ≤ gt t ((i : Int) + 1)) : VL (n + 1) (t.set i v) := by
  have lt := T.2
  have G : ∀ j (hj : j < t.length), t[j] = gt t (j : Int) := fun j hj => by
    have := gt_get (u := t) (v := (j : Int)) (by omega) (by omega)
    rw [Int.toNat_natCast, List.getElem?_eq_getElem hj] at this
    exact Option.some.inj this
  have v0 : 0 ≤ v := by
    rcases Nat.eq_zero_or_pos i with z | z
    · exact l0 z
    · have := T.1.gt (v := (i : Int) - 1) (by omega) (by omega)
      have := l1 z
      omega
  have vn : v ≤ n := by
    rcases Nat.lt_or_ge i n with z | z
    · have := T.1.gt (v := (i : Int) + 1) (by omega) (by omega)
      have := u1 z
      omega
    · exact u0 (by omega)
  refine ⟨⟨by rw [List.length_set]; exact T.1.l2, by rw [List.length_set]; exact T.1.l21, fun x hx => ?_, ?_⟩, by rw [List.length_set]; exact lt⟩
  · rw [List.length_set]
    rcases List.mem_or_eq_of_mem_set hx with z | z
    · exact T.1.r x z
    · subst z; omega
  · rw [List.pairwise_iff_getElem]
    intro a b ha hb hab
    rw [List.length_set] at ha hb
    rw [List.getElem_set, List.getElem_set]
    split
    · rename_i ea
      subst ea
      rw [if_neg (by omega), G b hb]
      have := T.1.gtm (v := (i : Int) + 1) (w := b) (by omega) (by omega) (by omega)
      have := u1 (by omega)
      omega
    · split
      · rename_i eb
        subst eb
        rw [G a ha]
        have := T.1.gtm (v := (a : Int)) (w := (i : Int) - 1) (by omega) (by omega) (by omega)
        have := l1 (by omega)
        omega
      · rw [G a ha, G b hb]
        exact T.1.gtm (by omega) (by omega) (by omega)
theorem v_law_bent {k : Nat} {d : DSt} (D : DI k d) (hk : k < 900000) (h1 : 1 ≤ n) (h20 : n ≤ 20) (T : VL (n + 1) t) : ∃ s d', f_law_bent [.lst (t.map PV.int)] d = .ok (.lst (s.map PV.int)) d' ∧ VL (n + 1) s ∧ DI (k + 2) d' := by
  obtain ⟨w, d1, e1, w0, w1, D1⟩ := v_law_draw (top := (n : Int) + 1) D (by omega) (by omega) (by omega)
  obtain ⟨a, d2, e2, a0, a1, D2⟩ := v_law_draw (top := 2) D1 (by omega) (by decide) (by decide)
  obtain ⟨i, rfl⟩ : ∃ i : Nat, w = i := ⟨w.toNat, by omega⟩
  have hi : i ≤ n := by omega
  have lt := T.2
  have ln : fLen tlen [.lst (t.map PV.int)] = .ok (.int ((n : Int) + 1)) := by
    show O.ok (.int ((t.map PV.int).length : Nat)) = _
    rw [List.length_map, lt]; congr 2
  have at_ : ∀ {j : Nat}, j ≤ n → t[j]? = some (gt t (j : Int)) := fun {j} hj => by
    have := gt_get (u := t) (v := (j : Int)) (by omega) (by omega)
    rwa [Int.toNat_natCast] at this
  have x0 : L2.ixN (n + 1) (i : Int) = some i := by rw [ixN_in (by omega) (by omega)]; simp
  have g0 := at_ hi
  have z0 := T.1.gt (v := (i : Int)) (by omega) (by omega)
  have lim : n + 1 < LIM := by show _ < 100000; omega
  have ms : ∀ v : Int, ((t.map PV.int).set i (.int v)) = (t.set i v).map PV.int := fun v => by rw [List.map_set]
  have G : ∀ j (hj : j < t.length), t[j] = gt t (j : Int) := fun j hj => by
    have := gt_get (u := t) (v := (j : Int)) (by omega) (by omega)
    rw [Int.toNat_natCast, List.getElem?_eq_getElem hj] at this
    exact Option.some.inj this
  have D0 := D2.mono (show k + 2 ≤ k + 2 by omega)
  by_cases c0 : i = 0
  · subst c0
    have q2n : 0 < n := by omega
    have q2 : (0 : Int) < (n : Int) := by omega
    have x2 : L2.ixN (n + 1) 1 = some 1 := by rw [ixN_in (by omega) (by omega)]; rfl
    have g2 : t[1]? = some (gt t 1) := at_ (j := 1) (by omega)
    have m1 := T.1.gtm (v := 0) (w := 1) (by omega) (by omega) (by omega)
    have g0 : t[0]? = some (gt t 0) := g0
    have x0 : L2.ixN (n + 1) 0 = some 0 := x0
    have z0 : 0 ≤ gt t 0 ∧ gt t 0 < t.length := z0
    rcases (show a = 0 ∨ a = 1 by omega) with rfl | rfl
    · by_cases c : 0 < gt t 0
      · refine ⟨t.set 0 (gt t 0 - 1), d2, ?_, vl_set T (by omega) (fun _ => by omega) (fun z => absurd z (by omega)) (fun z => absurd z (by omega)) (fun _ => by show _ ≤ gt t (0 + 1); simpa using (show gt t 0 - 1 ≤ gt t 1 by omega)), D0⟩
        simp -implicitDefEqProofs [f_law_bent, m_law_bent, runM, startG, ln, e1, e2, lt, G, x0, g0, x2, g2, q2, q2n, c]
      · refine ⟨t, d2, ?_, T, D0⟩
        simp -implicitDefEqProofs [f_law_bent, m_law_bent, runM, startG, ln, e1, e2, lt, G, x0, g0, x2, g2, q2, q2n, c]
    · by_cases c : gt t 0 < gt t 1
      · refine ⟨t.set 0 (gt t 0 + 1), d2, ?_, vl_set T (by omega) (fun _ => by omega) (fun z => absurd z (by omega)) (fun z => absurd z (by omega)) (fun _ => by show _ ≤ gt t (0 + 1); simpa using (show gt t 0 + 1 ≤ gt t 1 by omega)), D0⟩
        simp -implicitDefEqProofs [f_law_bent, m_law_bent, runM, startG, ln, e1, e2, lt, G, x0, g0, x2, g2, q2, q2n, c]
      · refine ⟨t, d2, ?_, T, D0⟩
        simp -implicitDefEqProofs [f_law_bent, m_law_bent, runM, startG, ln, e1, e2, lt, G, x0, g0, x2, g2, q2, q2n, c]
  · have q1 : (0 : Int) < (i : Int) := by omega
    have q1' : 0 < i := by omega
    have x1 : L2.ixN (n + 1) ((i : Int) - 1) = some (i - 1) := by
      rw [ixN_in (by omega) (by omega)]; congr 1; omega
    have g1 : t[i - 1]? = some (gt t ((i : Int) - 1)) := by
      have := at_ (j := i - 1) (by omega)
      rwa [show ((i - 1 : Nat) : Int) = (i : Int) - 1 by omega] at this
    have ci : ((i - 1 : Nat) : Int) = (i : Int) - 1 := by omega
    have m0 := T.1.gtm (v := (i : Int) - 1) (w := (i : Int)) (by omega) (by omega) (by omega)
    by_cases cn : i = n
    · have q2 : ¬ (i : Int) < (n : Int) := by omega
      have q2' : ¬ i < n := by omega
      rcases (show a = 0 ∨ a = 1 by omega) with rfl | rfl
      · by_cases c : gt t ((i : Int) - 1) < gt t i
        · refine ⟨t.set i (gt t i - 1), d2, ?_, vl_set T hi (fun z => absurd z c0) (fun _ => by omega) (fun _ => by omega) (fun z => absurd z q2'), D0⟩
          simp -implicitDefEqProofs [f_law_bent, m_law_bent, runM, startG, ln, e1, e2, lt, G, x0, g0, x1, g1, ci, q1, q1', q2, q2', c]
        · refine ⟨t, d2, ?_, T, D0⟩
          simp -implicitDefEqProofs [f_law_bent, m_law_bent, runM, startG, ln, e1, e2, lt, G, x0, g0, x1, g1, ci, q1, q1', q2, q2', c]
      · by_cases c : gt t i < (n : Int)
        · refine ⟨t.set i (gt t i + 1), d2, ?_, vl_set T hi (fun z => absurd z c0) (fun _ => by omega) (fun _ => by omega) (fun z => absurd z q2'), D0⟩
          simp -implicitDefEqProofs [f_law_bent, m_law_bent, runM, startG, ln, e1, e2, lt, G, x0, g0, x1, g1, ci, q1, q1', q2, q2', c]
        · refine ⟨t, d2, ?_, T, D0⟩
          simp -implicitDefEqProofs [f_law_bent, m_law_bent, runM, startG, ln, e1, e2, lt, G, x0, g0, x1, g1, ci, q1, q1', q2, q2', c]
    · have q2 : (i : Int) < (n : Int) := by omega
      have q2' : i < n := by omega
      have x2 : L2.ixN (n + 1) ((i : Int) + 1) = some (i + 1) := by
        rw [ixN_in (by omega) (by omega)]; congr 1
      have g2 : t[i + 1]? = some (gt t ((i : Int) + 1)) := by
        have := at_ (j := i + 1) (by omega)
        rwa [show ((i + 1 : Nat) : Int) = (i : Int) + 1 by omega] at this
      have m1 := T.1.gtm (v := (i : Int)) (w := (i : Int) + 1) (by omega) (by omega) (by omega)
      rcases (show a = 0 ∨ a = 1 by omega) with rfl | rfl
      · by_cases c : gt t ((i : Int) - 1) < gt t i
        · refine ⟨t.set i (gt t i - 1), d2, ?_, vl_set T hi (fun z => absurd z c0) (fun _ => by omega) (fun z => absurd z cn) (fun _ => by omega), D0⟩
          simp -implicitDefEqProofs [f_law_bent, m_law_bent, runM, startG, ln, e1, e2, lt, G, x0, g0, x1, g1, ci, x2, g2, q1, q1', q2, q2', c]
        · refine ⟨t, d2, ?_, T, D0⟩
          simp -implicitDefEqProofs [f_law_bent, m_law_bent, runM, startG, ln, e1, e2, lt, G, x0, g0, x1, g1, ci, x2, g2, q1, q1', q2, q2', c]
      · by_cases c : gt t i < gt t ((i : Int) + 1)
        · refine ⟨t.set i (gt t i + 1), d2, ?_, vl_set T hi (fun z => absurd z c0) (fun _ => by omega) (fun z => absurd z cn) (fun _ => by omega), D0⟩
          simp -implicitDefEqProofs [f_law_bent, m_law_bent, runM, startG, ln, e1, e2, lt, G, x0, g0, x1, g1, ci, x2, g2, q1, q1', q2, q2', c]
        · refine ⟨t, d2, ?_, T, D0⟩
          simp -implicitDefEqProofs [f_law_bent, m_law_bent, runM, startG, ln, e1, e2, lt, G, x0, g0, x1, g1, ci, x2, g2, q1, q1', q2, q2', c]
end
end G
end M_k05_Lk2
section M_Gk05F
namespace G
open PySem RL
theorem higher_ok {n : Nat} {t u : List Int} (T : VL n t) (U : VL n u) : (((idl u.length).zip u).map fun p => if gt t p.1 < p.2 then p.2 else gt t p.1) = hi t u := by
  have e := T.2.trans U.2.symm
  refine List.ext_getElem (by simp [hi, List.length_zipWith, e]) fun i h1 h2 => ?_
  have hu : i < u.length := by simpa using h1
  have ht : i < t.length := by omega
  have a := gt_get (u := t) (v := (i : Int)) (by omega) (by omega)
  rw [Int.toNat_natCast, List.getElem?_eq_getElem ht] at a
  have a := Option.some.inj a
  simp only [hi, List.getElem_map, List.getElem_zip, List.getElem_zipWith]
  rw [show (idl u.length)[i]'(by simpa using hu) = (i : Int) by simp [idl], ← a]
  split <;> split <;> omega
def r05 : SM := (sIf (bOr (bNot (bTru (eCall f_law_pair_right (aCons (eVar 4) (aCons (eVar 7) aNil))))) (bNot (bTru (eCall f_law_pair_right (aCons (eVar 7) (aCons (eVar 4) aNil)))))) (sRet (eC (.bl false))) sNx)
theorem r05_ok {N : Nat} {t : List Int} (T : VL N t) {s0 s1 s2 s3 s5 s6 s7 s8 s9 s10 s11 s12 : Sl} {d : DSt} : ∀ {us : List (List Int)}, (∀ u ∈ us, VL N u) → ∀ s7 : Sl, ∃ s7', sLoop (.n 7) r05 (us.map fun u => .lst (u.map PV.int)) [s0, s1, s2, s3, .val (.lst (t.map PV.int)), s5, s6, s7, s8, s9, s10, s11, s12] d = .nx [s0, s1, s2, s3, .val (.lst (t.map PV.int)), s5, s6, s7', s8, s9, s10, s11, s12] d := by
  intro us hu s7
  generalize hs : sLoop _ _ _ _ _ = out
  obtain ⟨ρ', d', rfl, s7', rfl, rfl⟩ := sLoop_runN hs (fun i ρ d' => ∃ s7' : Sl, ρ = [s0, s1, s2, s3, .val (.lst (t.map PV.int)), s5, s6, s7', s8, s9, s10, s11, s12] ∧ d' = d)
    ⟨s7, rfl, rfl⟩ fun j x ρ d' o ex hI ho => by
      obtain ⟨s7', rfl, rfl⟩ := hI
      rw [List.getElem?_map] at ex
      obtain ⟨u, hu', rfl⟩ := Option.map_eq_some_iff.mp ex
      have U := hu u (List.mem_of_getElem? hu')
      have a := v_law_pair_right T U
      have b := v_law_pair_right U T
      refine ⟨[s0, s1, s2, s3, .val (.lst (t.map PV.int)), s5, s6, .val (.lst (u.map PV.int)), s8, s9, s10, s11, s12], d', ?_, _, rfl, rfl⟩
      rw [← ho]
      simp -implicitDefEqProofs [r05, a, b]
  exact ⟨s7', rfl⟩
theorem hf : ∀ ns : List Int, ns.length ≤ 63 → ∃ d0 d', f_law_begun [.lst (ns.map PV.int)] = some d0 ∧ m_law ((startG [.val (.lst (ns.map PV.int))] 13).set 1 .dr) d0 = .rt (.bl true) d' := by
  intro ns hn
  obtain ⟨d0, e0, D0⟩ := v_law_begun hn
  have hr : ∀ d, rngR [.int 24] d = .ok ((idl 24).map PV.int) d := fun d => rngR_n (n := 24) (by omega)
  have em : m_law = sSeq (sFor _ _ (sSeq _ (sSeq _ (sSeq _ (sSeq (sFor _ _ r05) _))))) _ := rfl
  suffices z : ∃ d', m_law ((startG [.val (.lst (ns.map PV.int))] 13).set 1 .dr) d0 = .rt (.bl true) d' by
    obtain ⟨d', z⟩ := z
    exact ⟨d0, d', e0, z⟩
  simp -implicitDefEqProofs [em, startG, hr]
  generalize hs : sLoop _ _ _ _ _ = out
  obtain ⟨ρ', d', rfl, _⟩ := sLoop_runN hs (fun i ρ d => ∃ z2 z3 z4 z5 z6 z7 z8 z9 z10 z11 z12, ρ = [.val (.lst (ns.map PV.int)), .dr, z2, z3, z4, z5, z6, z7, z8, z9, z10, z11, z12] ∧ DI (100 * i) d)
    ⟨_, _, _, _, _, _, _, _, _, _, _, rfl, by simpa using D0⟩ fun i x ρ d o ex hI ho => by
      obtain ⟨z2, z3, z4, z5, z6, z7, z8, z9, z10, z11, z12, rfl, D⟩ := hI
      obtain ⟨hi, rfl⟩ := idl_map_get ex
      obtain ⟨w, d1, e1, w0, w1, D1⟩ := v_law_draw (top := 20) D (by omega) (by decide) (by decide)
      obtain ⟨n, hn1, h1, h20⟩ : ∃ n : Nat, 1 + w = n ∧ 1 ≤ n ∧ n ≤ 20 := ⟨(1 + w).toNat, by omega, by omega, by omega⟩
      obtain ⟨t, d2, e2, T, D2⟩ := v_law_table D1 (by omega) h1 h20
      obtain ⟨u, d3, e3, U, D3⟩ := v_law_table D2 (by omega) h1 h20
      obtain ⟨b, d4, e4, Bt, D4⟩ := v_law_bent D3 (by omega) h1 h20 T
      obtain ⟨c, d5, e5, Ct, D5⟩ := v_law_bent D4 (by omega) h1 h20 U
      obtain ⟨q, d6, e6, q0, q1, D6⟩ := v_law_draw (top := 19) D5 (by omega) (by decide) (by decide)
      obtain ⟨m, hm1, hm, m20, mn⟩ : ∃ m : Nat, 1 + ((n : Int) + q) % 20 = m ∧ 1 ≤ m ∧ m ≤ 20 ∧ m ≠ n := ⟨(1 + ((n : Int) + q) % 20).toNat, by omega, by omega, by omega, by omega⟩
      obtain ⟨g, d7, e7, G', D7⟩ := v_law_table D6 (by omega) hm m20
      have hh := higher_ok T U
      have HV := T.hi U
      have VI : VL (n + 1) (idl (n + 1)) := ⟨va_idl (by omega) (by omega), by simp⟩
      have VC : VL (n + 1) (cst (n + 1) n) := ⟨va_cst (by omega) (by omega) (by omega) (by omega), by simp [cst]⟩
      have hg : ∀ s0 s1 s2 s3 s5 s6 s7 s8 s9 s10 s11 s12 d, lcR [s0, s1, s2, s3, .val (.lst (t.map PV.int)), s5, s6, s7, s8, s9, s10, s11, s12] (.t [.n 11, .n 12]) bYes (eIf (bBool (eBin (oGt tgt) (eVar 12) (eBin (oIx tgetitem) (eVar 4) (eVar 11)))) (eVar 12) (eBin (oIx tgetitem) (eVar 4) (eVar 11))) (enumP (u.map PV.int)) d = .ok ((G.hi t u).map PV.int) d := fun s0 s1 s2 s3 s5 s6 s7 s8 s9 s10 s11 s12 d => by
        rw [enumP_ints, ← hh, List.map_map]
        refine lcR_all (g := fun p : Int × Int => .tup [.int p.1, .int p.2]) (S := fun p => [s0, s1, s2, s3, .val (.lst (t.map PV.int)), s5, s6, s7, s8, s9, s10, .val (.int p.1), .val (.int p.2)]) _ (by rw [List.length_zip]; have := Nat.min_le_right (idl u.length).length u.length; show _ < 100000; have := U.1.l21; omega) (fun p _ => rfl) fun p hp => ?_
        have ho := List.of_mem_zip hp
        have hj := mem_idl.mp ho.1
        have ix := oIx_lst (o := tgetitem) (u := t) (v := p.1) hj.1 (by have := T.2; have := U.2; omega)
        by_cases k : gt t p.1 < p.2 <;> simp -implicitDefEqProofs [ix, k]
      have ml : ∀ d, mk1 PV.lst (.int ((n : Int) + 1)) d = .ok (.lst ((idl (n + 1)).map PV.int)) d := fun d => mk1_n1 (by omega)
      have mc : ∀ d, mulR [.int (n : Int)] (.int ((n : Int) + 1)) d = .ok ((cst (n + 1) n).map PV.int) d := fun d => by
        rw [mulR_one (k := (n : Int) + 1) (n := n + 1) (v := n) (d := d) (by omega) (by omega)]
        simp [cst, List.map_const']
      obtain ⟨s7, el⟩ := r05_ok T (s0 := .val (.lst (ns.map PV.int))) (s1 := .dr) (s2 := .val (.int i)) (s3 := .val (.int n)) (s5 := .val (.lst (u.map PV.int))) (s6 := .val (.lst ((G.hi t u).map PV.int))) (s7 := z7) (s8 := z8) (s9 := z9) (s10 := z10) (s11 := z11) (s12 := z12) (d := d4) (us := [u, t, b, G.hi t u, idl (n + 1), cst (n + 1) n]) (by
        intro v hv
        simp only [List.mem_cons, List.not_mem_nil, or_false] at hv
        rcases hv with rfl | rfl | rfl | rfl | rfl | rfl <;> assumption) z7
      simp only [List.map_cons, List.map_nil] at el
      have t3 := v_law_three_right5 T U Ct
      have mt := v_RowMap_of T.1
      have mg := v_RowMap_of G'.1
      have sr := v_law_strangers_right (t := t) (u := g) (by have := T.2; have := G'.2; omega)
      have sr2 := v_law_strangers_right (t := g) (u := t) (by have := T.2; have := G'.2; omega)
      refine ⟨[.val (.lst (ns.map PV.int)), .dr, .val (.int i), .val (.int n), .val (.lst (t.map PV.int)), .val (.lst (u.map PV.int)), .val (.lst ((G.hi t u).map PV.int)), s7, .val (.int m), .val (mk t), .val (mk g), z11, z12], d7, ?_, _, _, _, _, _, _, _, _, _, _, _, rfl, D7.mono (by omega)⟩
      rw [← ho]
      simp -implicitDefEqProofs [e1, hn1, e2, e3, hg, e4, ml, mc, el, e5, t3, e6, oMod, hm1, e7, tmO, mt, mg, sr, sr2]
  exact ⟨d', by simp⟩
end G
end M_Gk05F
section M_Gk05E2
namespace G
open PySem PySem.Spec PyProof.Rows L2 RL
theorem tx {K : PySem.W.Frag} {h base : Heap} {mg : Str → Option Value} (X : K.In h) (G : h.Ns mainGlobals mg) (c : SaysX fs ds K) (t : TabsX ts K h) (TB : ∀ p ∈ csK ts K, LamX.TabB base mg p.1 p.2) : TX K mg base (adK K) where
  z_range := PySem.W.mg_none_of X G (He.eqO_ok (c.fact 0))
  is_RowMap_RowMap := of_decide_eq_true (c.fact 1)
  cl_RowMap := clB_ok (c.fact 2)
  kc_RowMap := He.eqO_ok (c.fact 3)
  kg := He.eqO_ok (c.fact 4)
  kt := of_decide_eq_true (c.fact 5)
  mr_RowMap := of_decide_eq_true (c.fact 6)
  ec_OtherRow := ecB_ok (c.fact 7)
  kx_OtherRow_OtherRow := of_decide_eq_true (c.fact 8)
  kn_OtherRow := of_decide_eq_true (c.fact 9)
  g_RowMap := PySem.W.mg_of X G (He.eqO_ok (c.fact 10))
  z_isinstance := PySem.W.mg_none_of X G (He.eqO_ok (c.fact 11))
  Fcheck_map := c.def_ 0
  g__check_map := PySem.W.mg_of X G (He.eqO_ok (c.fact 12))
  no_RowMap__images := He.eqO_ok (c.fact 13)
  z_len := PySem.W.mg_none_of X G (He.eqO_ok (c.fact 14))
  FRowMap_last := c.def_ 1
  prRowMap_last := prB_ok (c.fact 15)
  FOtherRow_init := c.def_ 2
  ox_OtherRow := (c.fact 16)
  xn_OtherRow := He.eqO_ok (c.fact 17)
  xi_OtherRow := He.eqO_ok (c.fact 18)
  xt_OtherRow := of_decide_eq_true (c.fact 19)
  g_OtherRow := PySem.W.mg_of X G (He.eqO_ok (c.fact 20))
  Fcheck_same_row := c.def_ 3
  g_check_same_row := PySem.W.mg_of X G (He.eqO_ok (c.fact 21))
  Fcheck_pair_maps := c.def_ 4
  g__check_pair := PySem.W.mg_of X G (He.eqO_ok (c.fact 22))
  ct_GREATEST_LAST := intB_ok X G (c.fact 23)
  z_type := PySem.W.mg_none_of X G (He.eqO_ok (c.fact 24))
  z_int := PySem.W.mg_none_of X G (He.eqO_ok (c.fact 25))
  FRowMap_init := c.def_ 5
  mk_RowMap := mkB_ok (c.fact 26)
  Fwith_images := c.def_ 6
  z_tuple := PySem.W.mg_none_of X G (He.eqO_ok (c.fact 27))
  g_with_images := PySem.W.mg_of X G (He.eqO_ok (c.fact 28))
  FRowMap_add := c.def_ 7
  atRowMap_add := He.eqO_ok (c.fact 29)
  fnRowMap_add := (c.fact 30)
  fiRowMap_add := (c.fact 31)
  sf_RowMap := (c.fact 32)
  ns_RowMap := (c.fact 33)
  rn_RowMap_add := He.eqO_ok (c.fact 34)
  Flaw_mixed := c.def_ 8
  g__law_mixed := PySem.W.mg_of X G (He.eqO_ok (c.fact 35))
  Flaw_draw := c.def_ 9
  g__law_draw := PySem.W.mg_of X G (He.eqO_ok (c.fact 36))
  z_min := PySem.W.mg_none_of X G (He.eqO_ok (c.fact 37))
  z_max := PySem.W.mg_none_of X G (He.eqO_ok (c.fact 38))
  Flaw_table := c.def_ 10
  g__law_table := PySem.W.mg_of X G (He.eqO_ok (c.fact 39))
  z_enumerate := PySem.W.mg_none_of X G (He.eqO_ok (c.fact 40))
  Fvalue_at := c.def_ 11
  g_value_at := PySem.W.mg_of X G (He.eqO_ok (c.fact 41))
  FRowMap_getitem := c.def_ 12
  atRowMap_getitem := He.eqO_ok (c.fact 42)
  fnRowMap_getitem := (c.fact 43)
  fiRowMap_getitem := (c.fact 44)
  FRowMap_images := c.def_ 13
  prRowMap_images := prB_ok (c.fact 45)
  z_zip := PySem.W.mg_none_of X G (He.eqO_ok (c.fact 46))
  z_all := PySem.W.mg_none_of X G (He.eqO_ok (c.fact 47))
  Fis_below := c.def_ 14
  g__is_below := PySem.W.mg_of X G (He.eqO_ok (c.fact 48))
  FRowMap_gt := c.def_ 15
  atRowMap_gt := He.eqO_ok (c.fact 49)
  fnRowMap_gt := (c.fact 50)
  fiRowMap_gt := (c.fact 51)
  z_list := PySem.W.mg_none_of X G (He.eqO_ok (c.fact 52))
  FRowMap_len := c.def_ 16
  atRowMap_len := He.eqO_ok (c.fact 53)
  fnRowMap_len := (c.fact 54)
  fiRowMap_len := (c.fact 55)
  FRowMap_lt := c.def_ 17
  atRowMap_lt := He.eqO_ok (c.fact 56)
  fnRowMap_lt := (c.fact 57)
  fiRowMap_lt := (c.fact 58)
  FRowMap_eq := c.def_ 18
  atRowMap_eq := He.eqO_ok (c.fact 59)
  fnRowMap_eq := (c.fact 60)
  fiRowMap_eq := (c.fact 61)
  ne_RowMap := He.eqO_ok (c.fact 62)
  Flaw_bent := c.def_ 19
  g__law_bent := PySem.W.mg_of X G (He.eqO_ok (c.fact 63))
  FRowMap_of := c.def_ 20
  cmRowMap_of := cmB_ok (c.fact 64)
  FRowMap_or := c.def_ 21
  atRowMap_or := He.eqO_ok (c.fact 65)
  fnRowMap_or := (c.fact 66)
  fiRowMap_or := (c.fact 67)
  FRowMap_and := c.def_ 22
  atRowMap_and := He.eqO_ok (c.fact 68)
  fnRowMap_and := (c.fact 69)
  fiRowMap_and := (c.fact 70)
  z_repr := PySem.W.mg_none_of X G (He.eqO_ok (c.fact 71))
  FRowMap_ge := c.def_ 23
  atRowMap_ge := He.eqO_ok (c.fact 72)
  fnRowMap_ge := (c.fact 73)
  fiRowMap_ge := (c.fact 74)
  FRowMap_le := c.def_ 24
  atRowMap_le := He.eqO_ok (c.fact 75)
  fnRowMap_le := (c.fact 76)
  fiRowMap_le := (c.fact 77)
  Flaw_pair_right := c.def_ 25
  g__law_pair_right := PySem.W.mg_of X G (He.eqO_ok (c.fact 78))
  Flaw_three_right := c.def_ 26
  g__law_three_right := PySem.W.mg_of X G (He.eqO_ok (c.fact 79))
  eb_MarkroundsError := of_decide_eq_true (c.fact 80)
  eh_MarkroundsError := (c.fact 81)
  et_MarkroundsError := of_decide_eq_true (c.fact 82)
  es_OtherRow_MarkroundsError := of_decide_eq_true (c.fact 83)
  g_MarkroundsError := PySem.W.mg_of X G (He.eqO_ok (c.fact 84))
  Flaw_told := c.def_ 27
  g__law_strangers_right := PySem.W.mg_of X G (He.eqO_ok (c.fact 85))
  lam_law_strangers_right := lamT_of X G t rfl TB (by decide) (PySem.W.mg_of X G (He.eqO_ok (c.fact 85)))
  g__law_told := PySem.W.mg_of X G (He.eqO_ok (c.fact 86))
  Flaw_strangers_right := c.def_ 28
  Flaw := c.def_ 29
  Flaw_folded := c.def_ 30
  g__law_folded := PySem.W.mg_of X G (He.eqO_ok (c.fact 87))
  Flaw_begun := c.def_ 31
  g__law_begun := PySem.W.mg_of X G (He.eqO_ok (c.fact 88))
  g_law := PySem.W.mg_of X G (He.eqO_ok (c.fact 89))
theorem tx_law {K : PySem.W.Frag} {h : Heap} {mg : Str → Option Value} (X : K.In h) (G : h.Ns mainGlobals mg) (c : SaysX fs ds K) : mg "law" = some (.ref (adK K 130)) := PySem.W.mg_of X G (He.eqO_ok (c.fact 89))
end G
open PySem PySem.W PySem.Calls PyProof.Rows in
theorem PySem.Challenge.cw_markrounds_k05_maps_together_holds : PySem.Challenge.rw_markrounds_k05_maps_together.Holds := by
  w_on; o_law
  refine HandSHeadRun.head_any (r := OpenLaw.row PySem.Challenge.rw_markrounds_k05_maps_together) (q := view (OpenLaw.row PySem.Challenge.rw_markrounds_k05_maps_together).prog [30]) (H := G.hkX) (ob := G.obX) (M := 30000) (loose := G.loose) (d := HandSHeadRun.topDef (OpenLaw.row PySem.Challenge.rw_markrounds_k05_maps_together).prog 30) (kwd := []) G.obX_eq
    (by kernel_rfl) (fun s => by kernel_rfl) G.run (by kernel_rfl) (by kernel_rfl) (by kernel_rfl) (by rfl) (by first | assumption | decide +kernel) (by decide +kernel) ⟨rfl, rfl, rfl, rfl, rfl, by decide +kernel⟩ ?hw ?hc
  case hw => w_witness2
  case hc =>
    refine RL.walk_ofT (l := PySem.Challenge.rw_markrounds_k05_maps_together) (n := 63) (k := 10) rfl (by decide) (by kernel_rfl) ⟨⟨rfl, by decide, by decide⟩, rfl⟩ ?F
    intro w mg fa h Y Gh hmg0
    obtain ⟨K, KX, c, t⟩ := Y
    have hmg : mg ("law" : PySem.Str) = some (.ref fa) := by
      have e : (HandSHeadRun.topDef (OpenLaw.row PySem.Challenge.rw_markrounds_k05_maps_together).prog 30).name = ("law" : PySem.Str) := by kernel_rfl
      rw [← e]
      exact hmg0
    have e := hmg.symm.trans (G.tx_law KX Gh c)
    cases e
    exact ⟨K, G.Cc K (G.adK K), RL.csK G.ts K, rfl, KX, RL.csK_tab t, RL.csK_out t, RL.csK_code KX t, RL.csK_tb, fun base _ _ TB => G.ok_law (G.tx KX Gh c t TB) G.hf⟩
end M_Gk05E2
