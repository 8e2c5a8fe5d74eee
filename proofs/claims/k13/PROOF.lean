import PyProof.Rows.All
import Wide.All
import OpenK.AllK
import Wide.FinOn
import HandS.Call
import HandS.List
import HandS.Comp
import HandS.Dict
import HandS.Iter
import HandS.Ends
import PyProof.ReprRoads
import KE.DataMinMax
import HandS.Words
import HandS.WordsList
import HandS.Codes
import HandS.Exc
import HandS.Style
import HandS.IsInst
import HandS.Conv
import HandS.TupMul
import HandS.Flow
import HandS.EndBits
import HandS.Defaults
import HandS.MakeKwOnly
import PyProof.ReprLen
import HandS.TupAny
import HandS.Wide
import HandS.SortKw
import HandS.Zip
import KE.GoesEnum
import HandS.ExcInit
import HandS.WordsExc
import HandS.More
import HandS.TryOnly
import HandS.ExcOwn
import PyProof.InstEq
import HandS.SortInts
import PyProof.TupleOfSeq
import HandS.NoneIn
import HandS.WordsDict
import HandS.DictComp
import HandS.SetFor
import HandS.Strs
import PySem.Challenge.RW_trailkeep_k13_whole_cuts_lose_keep_and_t
set_option Elab.async false
set_option linter.all false
set_option maxRecDepth 100000
set_option maxHeartbeats 1000000
namespace Tk
open PySem PySem.Spec PyProof.Rows L2

/-! what the layer lacks: repr of data, max of data, a call with the guards told -/
def rRep (K : PySem.W.Frag) : List V → Hp → VK → Prop := fun xs H Q =>
  ∃ (x : V) (d : PyData), xs = [x] ∧ Dp K H x d ∧ d.showable = true ∧ d.hasDict = false ∧ d.depth ≤ 60 ∧ d.shown.length ≤ sizeLine ∧ Q (.str d.shown) H

section
variable {X : Cx}
theorem call_repr (hg : X.A.guards = some []) (hu : X.A.units + 64 < cLine) : CallR X (.builtin "repr") (rRep X.K) := by
  intro pins s σ H xs us Q I r h
  obtain ⟨x, d, rfl, hd, hs, hn, hp, hz, q⟩ := h
  obtain ⟨u, rfl, ru⟩ := vals1 r
  cases hd with
  | non =>
    obtain rfl : u = Value.none := ru
    exact PySem.P.repr_of_none ⟨.str _, H, I.tok _, ⟨_, rfl⟩, by simpa only [PyData.shown] using q⟩
  | bl b =>
    obtain rfl : u = Value.bool b := ru
    exact PySem.P.repr_of_bool ⟨.str _, H, I.tok _, ⟨_, rfl⟩, by simpa only [PyData.shown] using q⟩
  | int i =>
    obtain ⟨t, rfl⟩ : ∃ t, u = Value.int i t := ru
    exact PySem.P.repr_of_int (by simpa [PyData.showable] using hs) ⟨.str _, H, I.tok _, ⟨_, rfl⟩, by simpa only [PyData.shown] using q⟩
  | str z =>
    obtain ⟨t, rfl⟩ : ∃ t, u = Value.str z t := ru
    exact PySem.P.repr_of_str ⟨.str _, H, I.tok _, ⟨_, rfl⟩, by simpa only [PyData.shown] using q⟩ (by simpa only [PyData.shown] using hz)
  | lst h1 h2 =>
    obtain rfl : u = Value.ref _ := ru
    obtain ⟨as, rd⟩ := Dp.reads I _ _ _ (Dp.lst h1 h2) rfl
    exact repr_of_reads' rd hs (PyData.noDict_hsm hn) hg (by omega) (fun _ _ e => e) (fun h' u tk hk => ⟨.str _, H, I.kept hk, ⟨_, rfl⟩, q⟩) hz
  | tup h1 h2 =>
    obtain rfl : u = Value.ref _ := ru
    obtain ⟨as, rd⟩ := Dp.reads I _ _ _ (Dp.tup h1 h2) rfl
    exact repr_of_reads' rd hs (PyData.noDict_hsm hn) hg (by omega) (fun _ _ e => e) (fun h' u tk hk => ⟨.str _, H, I.kept hk, ⟨_, rfl⟩, q⟩) hz
end
end Tk

namespace Tk
open PySem PySem.Spec PyProof.Rows L2

/-- a def of the top, as it stands in the written part -/
structure DefT (K : PySem.W.Frag) (mg : Str → Option Value) (x : Str) (st : Stmt) where
  f : Addr
  fd : FuncData
  F : Fun K x x st f fd
  g : mg x = some (.ref f)
/-- a method -/
structure MthT (K : PySem.W.Frag) (C : Addr) (m qual : Str) (st : Stmt) where
  f : Addr
  fd : FuncData
  F : Fun K m qual st f fd
  me : Meth K C m f
/-- a def that keeps its promise, and may be called -/
structure Cal (P : Program) (w : World) (K : PySem.W.Frag) (mg : Str → Option Value) (base : Heap) (k : Nat) (x : Str) (ps : List Str) (sp : Sp) where
  f : Addr
  fd : FuncData
  g : mg x = some (.ref f)
  kp : PySem.W.keepIn K (.ref f) = true
  b : Binds K fd ps []
  ok : FnOk P w K mg base CX0 k f fd ps sp
structure MCal (P : Program) (w : World) (K : PySem.W.Frag) (mg : Str → Option Value) (base : Heap) (C : Addr) (k : Nat) (m : Str) (ps : List Str) (sp : Sp) where
  f : Addr
  fd : FuncData
  me : Meth K C m f
  b : Binds K fd ps []
  ok : FnOk P w K mg base CX0 k f fd ps sp
section
variable {P : Program} {w : World} {K : PySem.W.Frag} {mg : Str → Option Value} {base : Heap} {x m qual : Str} {st : Stmt} {k : Nat} {ps : List Str} {sp : Sp} {C : Addr}
def DefT.cal (D : DefT K mg x st) (b : Binds K D.fd ps []) (ok : FnOk P w K mg base CX0 k D.f D.fd ps sp) : Cal P w K mg base k x ps sp := ⟨D.f, D.fd, D.g, D.F.kp, b, ok⟩
def MthT.cal (D : MthT K C m qual st) (b : Binds K D.fd ps []) (ok : FnOk P w K mg base CX0 k D.f D.fd ps sp) : MCal P w K mg base C k m ps sp := ⟨D.f, D.fd, D.me, b, ok⟩
end
section
variable {X : Cx} {k j : Nat} {x m : Str} {ps : List Str} {sp : Sp} {C : Addr} {e o : Expr} {es : List Expr} {t : TA} {ta : TE} {p pos apos : Pos}
theorem pc (D : Cal X.prog X.w X.K X.mg X.base k x ps sp) (hr : Room j X.A) (ha : PA X (e :: es) t) (hj : k ≤ j := by decide) (hg : Gl X x := by rfl)
    (hdb : (x == ("__debug__" : Str)) = false := by decide) (he : starEach (e :: es) X.env = (false, eval e X.env) :: starEach es X.env := by rfl) (hpl : (backTo pos (starEach es X.env)).any (·.1) = false := by rfl) :
    PE X (.Call (.Name x p) (e :: es) [] pos) (tCall sp [] E0 t) := pe_call D.ok (hr.mono hj) hg D.g D.kp D.b .nil pass0 ha hdb he hpl
end

/-! ### heaps but for some addresses -/
/-- all that was tracked is as it was, but at the addresses of l -/
def But (l : List Addr) (H H' : Hp) : Prop := ∀ b o, H b = some o → b ∉ l → H' b = some o
theorem But.refl {l : List Addr} {H : Hp} : But l H H := fun _ _ h _ => h
theorem But.trans {l : List Addr} {H H1 H2 : Hp} (a : But l H H1) (b : But l H1 H2) : But l H H2 := fun c o h n => b c o (a c o h n) n
theorem But.mono {l l' : List Addr} {H H1 : Hp} (a : But l H H1) (s : ∀ b ∈ l, b ∈ l') : But l' H H1 := fun c o h n => a c o h fun q => n (s c q)
theorem But.of_same {l : List Addr} {H H1 : Hp} (a : Same H H1) : But l H H1 := fun c o h _ => a c o h
theorem But.new {l : List Addr} {H : Hp} {p : Addr} {o : HO} (n : H p = none) : But l H (upd H p o) := fun c u h _ => by rw [upd_ne (ne_of_none h n)]; exact h
theorem But.put {l : List Addr} {H : Hp} {p : Addr} {o : HO} (n : p ∈ l) : But l H (upd H p o) := fun c u h q => by
  rw [upd_ne (fun z => q (by rw [z]; exact n))]
  exact h
theorem Same.new {H : Hp} {p : Addr} {o : HO} (n : H p = none) : Same H (upd H p o) := fun c u h => by rw [upd_ne (ne_of_none h n)]; exact h
end Tk
namespace Tk
open PySem PySem.Spec PyProof.Rows L2
/-- a new object is changed: what stood before it is as it was -/
theorem Same.put {H H4 : Hp} {q : Addr} {o : HO} (n : H q = none) (s : Same H H4) : Same H (upd H4 q o) := fun c u h => by
  rw [upd_ne (ne_of_none h n)]
  exact s c u h
theorem take_map_next {α : Type} {ns : List α} {f : α → V} {i : Nat} {z : α} (h : ns[i]? = some z) : (ns.take i).map f ++ [f z] = (ns.take (i + 1)).map f := by
  rw [List.take_add_one, h]
  simp
end Tk
namespace Tk
open PySem PySem.Spec PyProof.Rows L2
/-- a comprehension without a test -/
theorem tyes {σ : L2.St} {H : Hp} {F G : Hp → Prop} (h : F H) : tYes σ H (fun b H3 => if b = true then F H3 else G H3) := by
  show (if true = true then F H else G H)
  rw [if_pos rfl]
  exact h
end Tk
namespace Tk
open PySem PySem.Spec PyProof.Rows L2
section
variable {X : Cx} {k j : Nat} {x m : Str} {ps : List Str} {sp : Sp} {C : Addr} {e o : Expr} {es : List Expr} {t : TA} {ta : TE} {p pos apos : Pos}
/-- o.m(e, ..) -/
theorem pm {pl : Sem Bool} (c : Cls X.K C) (M : MCal X.prog X.w X.K X.mg X.base C k m ps sp) (hr : Room j X.A) (he : PE X o ta) (ha : PA X (e :: es) t) (hj : k ≤ j := by decide)
    (hst : starEach (e :: es) X.env = (false, eval e X.env) :: starEach es X.env := by rfl) (hpl : (backTo pos (starEach es X.env)).any (·.1) = false := by rfl)
    (ht : eval (.Call (.Attribute o m apos) (e :: es) [] pos) X.env = (do let ob ← eval o X.env; standAt apos.atName; let (g, fs) ← holding [ob] (getMethod ob m pl); callWith pos g fs (backTo pos (starEach (e :: es) X.env)) (backToKw pos (keywordEach [] X.env))) := by rfl) :
    PE X (.Call (.Attribute o m apos) (e :: es) [] pos) (tMeth C m sp [] E0 ta t) := pe_meth he c M.me M.ok (hr.mono hj) M.b .nil pass0 ha hst hpl ht
/-- o.m() -/
theorem pm0 {pl : Sem Bool} (c : Cls X.K C) (M : MCal X.prog X.w X.K X.mg X.base C k m ps sp) (hr : Room j X.A) (he : PE X o ta) (hj : k ≤ j := by decide)
    (ht : eval (.Call (.Attribute o m apos) [] [] pos) X.env = (do let ob ← eval o X.env; standAt apos.atName; let (g, fs) ← holding [ob] (getMethod ob m pl); callWith pos g fs (backTo pos (starEach [] X.env)) (backToKw pos (keywordEach [] X.env))) := by rfl) :
    PE X (.Call (.Attribute o m apos) [] [] pos) (tMeth C m sp [] E0 ta tNil) := pe_meth0 he c M.me M.ok (hr.mono hj) M.b .nil pass0 ht
end
end Tk

/-! A program's heap as a plain list: values as trees, objects by their numbers; how it lies in the tracked heap. -/
namespace Sm
open PySem PySem.Spec PyProof.Rows L2 Tk

/-- values: a tuple is its items; fz a locked list; ref an object by its number; ob another thing at its address -/
inductive U where
  | non | bl (b : Bool) | int (i : Int) | str (x : Str) | tup (us : List U) | fz (us : List U) | ref (n : Nat) | ob (a : Addr)
inductive MO where
  | lst (us : List U) | dK (kvs : List (Key × U)) | ins (C : Addr) (fs : List (Str × U)) | lk (kvs : List (Key × U))
abbrev MH := List MO
abbrev Sl := List (Option U)
def SqF (K : PySem.W.Frag) (H : Hp) (a : Addr) (xs : List V) : Prop := (∃ o, H a = some (.frz o (.lst xs))) ∨
    ∃ (o : Obj) (its : Array Value) (n : Nat), K.lookup a = some o ∧ o.cls = .type "list" ∧ o.dict = none ∧ o.data = .seq its n ∧ its.size ≤ sizeLine ∧ Vals xs its.toList
theorem SqF.l {K : PySem.W.Frag} {H : Hp} {a : Addr} {xs : List V} (h : SqF K H a xs) : SqL K H a xs := by
  rcases h with ⟨o, h⟩ | h
  · exact .inl (.inr ⟨o, h⟩)
  · exact .inr h
/-- what is known of a value -/
inductive RV (K : PySem.W.Frag) (as : List Addr) (H : Hp) : U → V → Prop
  | non : RV K as H .non .non
  | bl (b : Bool) : RV K as H (.bl b) (.bl b)
  | int (i : Int) : RV K as H (.int i) (.int i)
  | str (x : Str) : RV K as H (.str x) (.str x)
  | tup {a : Addr} {us : List U} {vs : List V} : SqT K H a vs → us.length = vs.length → (∀ (i : Nat) (u : U) (v : V), us[i]? = some u → vs[i]? = some v → RV K as H u v) → RV K as H (.tup us) (.ref a)
  | fz {a : Addr} {us : List U} {vs : List V} : SqF K H a vs → us.length = vs.length → (∀ (i : Nat) (u : U) (v : V), us[i]? = some u → vs[i]? = some v → RV K as H u v) → RV K as H (.fz us) (.ref a)
  | ref {n : Nat} {a : Addr} : as[n]? = some a → RV K as H (.ref n) (.ref a)
  | ob (a : Addr) : RV K as H (.ob a) (.ref a)
abbrev RVs (K : PySem.W.Frag) (as : List Addr) (H : Hp) : List U → List V → Prop := Paired (RV K as H)

/-! ### what never changes -/
def Im : HO → Bool
  | .tup _ => true
  | .frz _ _ => true
  | _ => false
def Pers (H H' : Hp) : Prop := ∀ b o, H b = some o → Im o = true → H' b = some o
theorem Pers.refl {H : Hp} : Pers H H := fun _ _ h _ => h
theorem Pers.trans {H H1 H2 : Hp} (a : Pers H H1) (b : Pers H1 H2) : Pers H H2 := fun c o h i => b c o (a c o h i) i
theorem Pers.new {H : Hp} {p : Addr} {o : HO} (n : H p = none) : Pers H (upd H p o) := fun c u h _ => by rw [upd_ne (ne_of_none h n)]; exact h
theorem Pers.put {H : Hp} {p : Addr} {o o' : HO} (h : H p = some o) (n : Im o = false) : Pers H (upd H p o') := fun c u e i => by
  have : c ≠ p := fun z => by
    subst z
    rw [h] at e
    cases e
    rw [n] at i
    cases i
  rw [upd_ne this]; exact e
theorem Pers.sqT {K : PySem.W.Frag} {H H' : Hp} {a : Addr} {xs : List V} (s : Pers H H') (h : SqT K H a xs) : SqT K H' a xs := by
  rcases h with (h | ⟨o, h⟩) | h
  · exact .inl (.inl (s _ _ h rfl))
  · exact .inl (.inr ⟨o, s _ _ h rfl⟩)
  · exact .inr h
theorem Pers.sqF {K : PySem.W.Frag} {H H' : Hp} {a : Addr} {xs : List V} (s : Pers H H') (h : SqF K H a xs) : SqF K H' a xs := by
  rcases h with ⟨o, h⟩ | h
  · exact .inl ⟨o, s _ _ h rfl⟩
  · exact .inr h
structure Ev (as : List Addr) (H : Hp) (as' : List Addr) (H' : Hp) : Prop where
  ap : ∃ t, as' = as ++ t
  pe : Pers H H'
theorem Ev.refl {as : List Addr} {H : Hp} : Ev as H as H := ⟨⟨[], by simp⟩, Pers.refl⟩
theorem Ev.trans {as as1 as2 : List Addr} {H H1 H2 : Hp} (a : Ev as H as1 H1) (b : Ev as1 H1 as2 H2) : Ev as H as2 H2 := by
  obtain ⟨⟨t, rfl⟩, p⟩ := a
  obtain ⟨⟨t2, rfl⟩, p2⟩ := b
  exact ⟨⟨t ++ t2, by simp⟩, p.trans p2⟩
theorem RV.ev {K : PySem.W.Frag} {as as' : List Addr} {H H' : Hp} {u : U} {v : V} (e : Ev as H as' H') (h : RV K as H u v) : RV K as' H' u v := by
  induction h with
  | non => exact .non
  | bl b => exact .bl b
  | int i => exact .int i
  | str x => exact .str x
  | tup h1 h2 _ ih => exact .tup (e.pe.sqT h1) h2 ih
  | fz h1 h2 _ ih => exact .fz (e.pe.sqF h1) h2 ih
  | @ref n a h =>
    obtain ⟨t, rfl⟩ := e.ap
    exact .ref (by rw [List.getElem?_append_left (List.getElem?_eq_some_iff.mp h).1]; exact h)
  | ob a => exact .ob a
theorem RVs.ev {K : PySem.W.Frag} {as as' : List Addr} {H H' : Hp} {us : List U} {vs : List V} (e : Ev as H as' H') (h : RVs K as H us vs) : RVs K as' H' us vs := Paired.mapP h fun _ _ q => q.ev e

/-! ### rows of values -/
theorem prd_get {α β : Type} {F : α → β → Prop} : ∀ {xs : List α} {ys : List β} {i : Nat} {x : α}, Paired F xs ys → xs[i]? = some x → ∃ y, ys[i]? = some y ∧ F x y
  | _, _, _, _, .nil, h => by cases h
  | _, _, 0, _, .cons r t, h => by cases h; exact ⟨_, rfl, r⟩
  | _, _, i + 1, _, .cons r t, h => by
    obtain ⟨y, h1, h2⟩ := prd_get (i := i) t (by simpa using h)
    exact ⟨y, by simpa using h1, h2⟩
theorem prd_app {α β : Type} {F : α → β → Prop} : ∀ {xs xs' : List α} {ys ys' : List β}, Paired F xs ys → Paired F xs' ys' → Paired F (xs ++ xs') (ys ++ ys')
  | _, _, _, _, .nil, h => h
  | _, _, _, _, .cons r t, h => .cons r (prd_app t h)
theorem prd_drop {α β : Type} {F : α → β → Prop} : ∀ (n : Nat) {xs : List α} {ys : List β}, Paired F xs ys → Paired F (xs.drop n) (ys.drop n)
  | 0, _, _, h => h
  | _ + 1, _, _, .nil => .nil
  | n + 1, _, _, .cons _ t => prd_drop n t
theorem prd_take {α β : Type} {F : α → β → Prop} : ∀ (n : Nat) {xs : List α} {ys : List β}, Paired F xs ys → Paired F (xs.take n) (ys.take n)
  | 0, _, _, _ => .nil
  | _ + 1, _, _, .nil => .nil
  | n + 1, _, _, .cons r t => .cons r (prd_take n t)
theorem prd_set {α β : Type} {F : α → β → Prop} {x : α} {y : β} (r : F x y) : ∀ (n : Nat) {xs : List α} {ys : List β}, Paired F xs ys → Paired F (xs.set n x) (ys.set n y)
  | _, _, _, .nil => .nil
  | 0, _, _, .cons _ t => .cons r t
  | n + 1, _, _, .cons q t => .cons q (prd_set r n t)
theorem prd_erase {α β : Type} {F : α → β → Prop} : ∀ (n : Nat) {xs : List α} {ys : List β}, Paired F xs ys → Paired F (xs.eraseIdx n) (ys.eraseIdx n)
  | _, _, _, .nil => .nil
  | 0, _, _, .cons _ t => t
  | n + 1, _, _, .cons q t => .cons q (prd_erase n t)
theorem prd_dropLast {α β : Type} {F : α → β → Prop} : ∀ {xs : List α} {ys : List β}, Paired F xs ys → Paired F xs.dropLast ys.dropLast
  | _, _, .nil => .nil
  | _, _, .cons _ .nil => .nil
  | _, _, .cons r (.cons q t) => .cons r (prd_dropLast (.cons q t))
theorem prd_rev {α β : Type} {F : α → β → Prop} {xs : List α} {ys : List β} (h : Paired F xs ys) : Paired F xs.reverse ys.reverse := by
  induction h with
  | nil => exact .nil
  | cons r t ih => rw [List.reverse_cons, List.reverse_cons]; exact prd_app ih (.cons r .nil)
theorem prd_rep {α β : Type} {F : α → β → Prop} {xs : List α} {ys : List β} (h : Paired F xs ys) : ∀ k : Nat, Paired F (List.replicate k xs).flatten (List.replicate k ys).flatten
  | 0 => .nil
  | k + 1 => by
    rw [List.replicate_succ, List.replicate_succ, List.flatten_cons, List.flatten_cons]
    exact prd_app h (prd_rep h k)
theorem prd_ix {α β : Type} {F : α → β → Prop} {xs : List α} {ys : List β} (h : Paired F xs ys) : ∀ (i : Nat) u v, xs[i]? = some u → ys[i]? = some v → F u v := fun i u v e1 e2 => by
  obtain ⟨y, h1, h2⟩ := prd_get h e1
  rw [e2] at h1
  cases h1
  exact h2
theorem prd_of {α β : Type} {F : α → β → Prop} : ∀ {xs : List α} {ys : List β}, xs.length = ys.length → (∀ (i : Nat) u v, xs[i]? = some u → ys[i]? = some v → F u v) → Paired F xs ys
  | [], [], _, _ => .nil
  | [], _ :: _, h, _ => by cases h
  | _ :: _, [], h, _ => by cases h
  | x :: xs, y :: ys, h, f => .cons (f 0 x y rfl rfl) (prd_of (Nat.succ.inj h) fun i u v e1 e2 => f (i + 1) u v (by simpa using e1) (by simpa using e2))
theorem RV.tups {K : PySem.W.Frag} {as : List Addr} {H : Hp} {a : Addr} {us : List U} {vs : List V} (h : SqT K H a vs) (r : RVs K as H us vs) : RV K as H (.tup us) (.ref a) := .tup h (Paired.length r) (prd_ix r)
theorem RV.of_tup {K : PySem.W.Frag} {as : List Addr} {H : Hp} {us : List U} {v : V} (h : RV K as H (.tup us) v) : ∃ a vs, v = .ref a ∧ SqT K H a vs ∧ RVs K as H us vs := by
  cases h with
  | tup h1 h2 h3 => exact ⟨_, _, rfl, h1, prd_of h2 h3⟩
theorem RV.of_fz {K : PySem.W.Frag} {as : List Addr} {H : Hp} {us : List U} {v : V} (h : RV K as H (.fz us) v) : ∃ a vs, v = .ref a ∧ SqF K H a vs ∧ RVs K as H us vs := by
  cases h with
  | fz h1 h2 h3 => exact ⟨_, _, rfl, h1, prd_of h2 h3⟩
theorem RV.of_ref {K : PySem.W.Frag} {as : List Addr} {H : Hp} {n : Nat} {v : V} (h : RV K as H (.ref n) v) : ∃ a, v = .ref a ∧ as[n]? = some a := by
  cases h with
  | ref h => exact ⟨_, rfl, h⟩

theorem ndIx {as : List Addr} (hN : as.Nodup) {i j : Nat} {x : Addr} (a : as[i]? = some x) (b : as[j]? = some x) : i = j := by
  obtain ⟨hi, e1⟩ := List.getElem?_eq_some_iff.mp a
  obtain ⟨hj, e2⟩ := List.getElem?_eq_some_iff.mp b
  exact (List.getElem_inj hN).mp (e1.trans e2.symm)
/-! ### objects -/
def RKv (K : PySem.W.Frag) (as : List Addr) (H : Hp) (p : Key × U) (q : Key × V) : Prop := p.1 = q.1 ∧ RV K as H p.2 q.2
def RFv (K : PySem.W.Frag) (as : List Addr) (H : Hp) (p : Str × U) (q : Str × V) : Prop := p.1 = q.1 ∧ RV K as H p.2 q.2
inductive RO (K : PySem.W.Frag) (as : List Addr) (H : Hp) : MO → HO → Prop
  | lst {us : List U} {vs : List V} : RVs K as H us vs → RO K as H (.lst us) (.lst vs)
  | dK {us : List (Key × U)} {vs : List (Key × V)} : Paired (RKv K as H) us vs → RO K as H (.dK us) (.dK vs)
  | ins {C dx : Addr} {us : List (Str × U)} {vs : List (Str × V)} : Paired (RFv K as H) us vs → RO K as H (.ins C us) (.ins C dx vs)
  | lk {o : Obj} {us : List (Key × U)} {vs : List (Key × V)} : Paired (RKv K as H) us vs → RO K as H (.lk us) (.frz o (.dK vs))
theorem RO.ev {K : PySem.W.Frag} {as as' : List Addr} {H H' : Hp} {u : MO} {v : HO} (e : Ev as H as' H') (h : RO K as H u v) : RO K as' H' u v := by
  cases h with
  | lst h => exact .lst (h.ev e)
  | dK h => exact .dK (Paired.mapP h fun _ _ q => ⟨q.1, q.2.ev e⟩)
  | ins h => exact .ins (Paired.mapP h fun _ _ q => ⟨q.1, q.2.ev e⟩)
  | lk h => exact .lk (Paired.mapP h fun _ _ q => ⟨q.1, q.2.ev e⟩)
theorem RO.im {K : PySem.W.Frag} {as : List Addr} {H : Hp} {u : MO} {v : HO} (h : RO K as H u v) (n : ∀ kvs, u ≠ .lk kvs) : Im v = false := by
  cases h with
  | lk _ => exact absurd rfl (n _)
  | _ => rfl
/-- what the module's own tuples ask of the heap -/
class ZC where
  Z : List Addr → Hp → Prop
variable [ZC]
/-- the heap as the list tells it -/
structure RH (K : PySem.W.Frag) (as : List Addr) (H : Hp) (mh : MH) : Prop where
  len : as.length = mh.length
  nd : as.Nodup
  at_ : ∀ (i : Nat) (o : MO) (a : Addr), mh[i]? = some o → as[i]? = some a → ∃ ho, H a = some ho ∧ RO K as H o ho
  cz : ∀ as' H', Ev as H as' H' → ZC.Z as' H'
theorem RH.get {K : PySem.W.Frag} {as : List Addr} {H : Hp} {mh : MH} (R : RH K as H mh) {i : Nat} {o : MO} {a : Addr} (h : mh[i]? = some o) (e : as[i]? = some a) : ∃ ho, H a = some ho ∧ RO K as H o ho := R.at_ i o a h e
theorem RH.lst {K : PySem.W.Frag} {as : List Addr} {H : Hp} {mh : MH} (R : RH K as H mh) {i : Nat} {us : List U} {a : Addr} (h : mh[i]? = some (.lst us)) (e : as[i]? = some a) : ∃ vs, H a = some (.lst vs) ∧ RVs K as H us vs := by
  obtain ⟨ho, h1, h2⟩ := R.at_ i _ a h e
  cases h2 with
  | lst h2 => exact ⟨_, h1, h2⟩
theorem RH.dK {K : PySem.W.Frag} {as : List Addr} {H : Hp} {mh : MH} (R : RH K as H mh) {i : Nat} {us : List (Key × U)} {a : Addr} (h : mh[i]? = some (.dK us)) (e : as[i]? = some a) : ∃ vs, H a = some (.dK vs) ∧ Paired (RKv K as H) us vs := by
  obtain ⟨ho, h1, h2⟩ := R.at_ i _ a h e
  cases h2 with
  | dK h2 => exact ⟨_, h1, h2⟩
theorem RH.ins {K : PySem.W.Frag} {as : List Addr} {H : Hp} {mh : MH} (R : RH K as H mh) {i : Nat} {C : Addr} {us : List (Str × U)} {a : Addr} (h : mh[i]? = some (.ins C us)) (e : as[i]? = some a) : ∃ dx vs, H a = some (.ins C dx vs) ∧ Paired (RFv K as H) us vs := by
  obtain ⟨ho, h1, h2⟩ := R.at_ i _ a h e
  cases h2 with
  | ins h2 => exact ⟨_, _, h1, h2⟩
theorem RH.lk {K : PySem.W.Frag} {as : List Addr} {H : Hp} {mh : MH} (R : RH K as H mh) {i : Nat} {us : List (Key × U)} {a : Addr} (h : mh[i]? = some (.lk us)) (e : as[i]? = some a) : ∃ o vs, H a = some (.frz o (.dK vs)) ∧ Paired (RKv K as H) us vs := by
  obtain ⟨ho, h1, h2⟩ := R.at_ i _ a h e
  cases h2 with
  | lk h2 => exact ⟨_, _, h1, h2⟩
theorem RH.has {K : PySem.W.Frag} {as : List Addr} {H : Hp} {mh : MH} (R : RH K as H mh) {i : Nat} {a : Addr} (e : as[i]? = some a) : ∃ o, mh[i]? = some o := by
  have : i < mh.length := by rw [← R.len]; exact (List.getElem?_eq_some_iff.mp e).1
  exact ⟨_, List.getElem?_eq_getElem this⟩
theorem RH.there {K : PySem.W.Frag} {as : List Addr} {H : Hp} {mh : MH} (R : RH K as H mh) {p : Addr} (n : H p = none) : p ∉ as := fun h => by
  obtain ⟨i, hi⟩ := List.getElem?_of_mem h
  obtain ⟨o, ho⟩ := R.has hi
  obtain ⟨x, h1, _⟩ := R.at_ i o p ho hi
  rw [n] at h1; cases h1
/-- the heap grows by what is no object of the list -/
theorem RH.grow {K : PySem.W.Frag} {as : List Addr} {H : Hp} {mh : MH} (R : RH K as H mh) {p : Addr} {o : HO} (n : H p = none) : RH K as (upd H p o) mh := by
  have e : Ev as H as (upd H p o) := ⟨⟨[], by simp⟩, Pers.new n⟩
  refine ⟨R.len, R.nd, fun i o' a h1 h2 => ?_, fun as' H' h => R.cz as' H' (e.trans h)⟩
  obtain ⟨ho, h3, h4⟩ := R.at_ i o' a h1 h2
  exact ⟨ho, by rw [upd_ne (ne_of_none h3 n)]; exact h3, h4.ev e⟩
/-- a new object -/
theorem RH.new {K : PySem.W.Frag} {as : List Addr} {H : Hp} {mh : MH} (R : RH K as H mh) {p : Addr} {o : HO} {m : MO} (n : H p = none) (r : RO K as H m o) : RH K (as ++ [p]) (upd H p o) (mh ++ [m]) := by
  have e : Ev as H (as ++ [p]) (upd H p o) := ⟨⟨[p], rfl⟩, Pers.new n⟩
  refine ⟨by simp [R.len], ?_, fun i o' a h1 h2 => ?_, fun as' H' h => R.cz as' H' (e.trans h)⟩
  · rw [List.nodup_append]
    refine ⟨R.nd, by simp, fun x hx y hy => ?_⟩
    rw [List.mem_singleton.mp hy]
    exact fun z => R.there n (z ▸ hx)
  · by_cases hi : i < mh.length
    · rw [List.getElem?_append_left hi] at h1
      rw [List.getElem?_append_left (by rw [R.len]; exact hi)] at h2
      obtain ⟨ho, h3, h4⟩ := R.at_ i o' a h1 h2
      exact ⟨ho, by rw [upd_ne (ne_of_none h3 n)]; exact h3, h4.ev e⟩
    · have h1' := h1
      rw [List.getElem?_append_right (by omega)] at h1
      rw [List.getElem?_append_right (by rw [R.len]; omega)] at h2
      obtain ⟨j, hj⟩ : ∃ j, i = mh.length + j := ⟨i - mh.length, by omega⟩
      subst hj
      have : j = 0 := by
        have := (List.getElem?_eq_some_iff.mp h1).1
        simp at this; omega
      subst this
      simp at h1
      simp [R.len] at h2
      subst h1; subst h2
      exact ⟨o, upd_same, r.ev e⟩
theorem RH.evNew {as : List Addr} {H : Hp} {p : Addr} {o : HO} (n : H p = none) : Ev as H (as ++ [p]) (upd H p o) := ⟨⟨[p], rfl⟩, Pers.new n⟩
theorem RH.evGrow {as : List Addr} {H : Hp} {p : Addr} {o : HO} (n : H p = none) : Ev as H as (upd H p o) := ⟨⟨[], by simp⟩, Pers.new n⟩
/-- an object is changed -/
theorem RH.evPut {K : PySem.W.Frag} {as : List Addr} {H : Hp} {mh : MH} (R : RH K as H mh) {i : Nat} {a : Addr} {o' : HO} {m : MO} (h : mh[i]? = some m) (e : as[i]? = some a) (hm : ∀ kvs, m ≠ .lk kvs := by intro _ z; cases z) : Ev as H as (upd H a o') := by
  obtain ⟨ho, h3, h4⟩ := R.at_ i m a h e
  exact ⟨⟨[], by simp⟩, Pers.put h3 (h4.im hm)⟩
theorem RH.put {K : PySem.W.Frag} {as : List Addr} {H : Hp} {mh : MH} (R : RH K as H mh) {i : Nat} {a : Addr} {o' : HO} {m m' : MO} (h : mh[i]? = some m) (e : as[i]? = some a) (r : RO K as H m' o') (hm : ∀ kvs, m ≠ .lk kvs := by intro _ z; cases z) : RH K as (upd H a o') (mh.set i m') := by
  have ev := R.evPut (o' := o') h e hm
  refine ⟨by simp [R.len], R.nd, fun j o b h1 h2 => ?_, fun as' H' h => R.cz as' H' (ev.trans h)⟩
  by_cases ij : i = j
  · subst ij
    rw [List.getElem?_set_self (List.getElem?_eq_some_iff.mp h).1] at h1
    cases h1
    rw [e] at h2
    cases h2
    exact ⟨o', upd_same, r.ev ev⟩
  · rw [List.getElem?_set_ne ij] at h1
    obtain ⟨ho, h3, h4⟩ := R.at_ j o b h1 h2
    have ne : b ≠ a := fun z => by
      subst z
      exact ij (ndIx R.nd e h2)
    exact ⟨ho, by rw [upd_ne ne]; exact h3, h4.ev ev⟩

/-! ### slots -/
structure RS (K : PySem.W.Frag) (as : List Addr) (H : Hp) (sl : Sl) (σ : L2.St) : Prop where
  len : sl.length = σ.length
  at_ : ∀ (i : Nat) (u : U), sl[i]? = some (some u) → ∃ v, σ[i]? = some (some v) ∧ RV K as H u v
theorem RS.ev {K : PySem.W.Frag} {as as' : List Addr} {H H' : Hp} {sl : Sl} {σ : L2.St} (e : Ev as H as' H') (h : RS K as H sl σ) : RS K as' H' sl σ := ⟨h.len, fun i u q => by
  obtain ⟨v, h1, h2⟩ := h.at_ i u q
  exact ⟨v, h1, h2.ev e⟩⟩
theorem RS.set {K : PySem.W.Frag} {as : List Addr} {H : Hp} {sl : Sl} {σ : L2.St} {u : U} {v : V} (h : RS K as H sl σ) (i : Nat) (r : RV K as H u v) : RS K as H (sl.set i (some u)) (σ.set i (some v)) := by
  refine ⟨by simp [h.len], fun j w q => ?_⟩
  by_cases ij : i = j
  · subst ij
    have hi : i < sl.length := by
      have := (List.getElem?_eq_some_iff.mp q).1
      simpa using this
    rw [List.getElem?_set_self hi] at q
    cases q
    exact ⟨v, by rw [List.getElem?_set_self (by rw [← h.len]; exact hi)], r⟩
  · rw [List.getElem?_set_ne ij] at q
    obtain ⟨v', h1, h2⟩ := h.at_ j w q
    exact ⟨v', by rw [List.getElem?_set_ne ij]; exact h1, h2⟩
end Sm

/-! What a piece of a program does to the plain heap, from the wanted end backwards; each construct's piece, and that the program's construct keeps to it. -/
namespace Sm
open PySem PySem.Spec PyProof.Rows L2 Tk
variable [ZC]

abbrev MK := U → MH → Prop
abbrev ME := Sl → MH → MK → Prop
abbrev MA := Sl → MH → (List U → MH → Prop) → Prop
abbrev MT := Sl → MH → (Bool → MH → Prop) → Prop
structure MEnds where
  nx : Sl → MH → Prop
  rt : MK
  bk : Sl → MH → Prop := fun _ _ => False
  ct : Sl → MH → Prop := fun _ _ => False
abbrev MS := MEnds → Sl → MH → Prop
abbrev MG := U → Sl → MH → (Sl → MH → Prop) → Prop
def Got (K : PySem.W.Frag) (as : List Addr) (H : Hp) (Q : VK) (u : U) (mh' : MH) : Prop := ∀ v H' as', Ev as H as' H' → RV K as' H' u v → RH K as' H' mh' → Q v H'
def GotS (K : PySem.W.Frag) (as : List Addr) (H : Hp) (Q : L2.St → Hp → Prop) (sl : Sl) (mh' : MH) : Prop := ∀ σ' H' as', Ev as H as' H' → RS K as' H' sl σ' → RH K as' H' mh' → Q σ' H'
def GotL (K : PySem.W.Frag) (as : List Addr) (H : Hp) (Q : List V → Hp → Prop) (us : List U) (mh' : MH) : Prop := ∀ vs H' as', Ev as H as' H' → RVs K as' H' us vs → RH K as' H' mh' → Q vs H'
def GotT (K : PySem.W.Frag) (as : List Addr) (H : Hp) (Q : Bool → Hp → Prop) (b : Bool) (mh' : MH) : Prop := ∀ H' as', Ev as H as' H' → RH K as' H' mh' → Q b H'
section
variable {K : PySem.W.Frag} {as as1 : List Addr} {H H1 : Hp}
theorem Got.at {Q : VK} {u : U} {mh : MH} (g : Got K as H Q u mh) (e : Ev as H as1 H1) : Got K as1 H1 Q u mh := fun v H' as' e2 => g v H' as' (e.trans e2)
theorem GotS.at {Q : L2.St → Hp → Prop} {u : Sl} {mh : MH} (g : GotS K as H Q u mh) (e : Ev as H as1 H1) : GotS K as1 H1 Q u mh := fun v H' as' e2 => g v H' as' (e.trans e2)
theorem GotL.at {Q : List V → Hp → Prop} {u : List U} {mh : MH} (g : GotL K as H Q u mh) (e : Ev as H as1 H1) : GotL K as1 H1 Q u mh := fun v H' as' e2 => g v H' as' (e.trans e2)
theorem GotT.at {Q : Bool → Hp → Prop} {u : Bool} {mh : MH} (g : GotT K as H Q u mh) (e : Ev as H as1 H1) : GotT K as1 H1 Q u mh := fun H' as' e2 => g H' as' (e.trans e2)
end
def tM (K : PySem.W.Frag) (m : ME) : TE := fun σ H Q => ∃ sl mh as P, RS K as H sl σ ∧ RH K as H mh ∧ m sl mh P ∧ ∀ u mh', P u mh' → Got K as H Q u mh'
def tMT (K : PySem.W.Frag) (m : MT) : TT := fun σ H Q => ∃ sl mh as P, RS K as H sl σ ∧ RH K as H mh ∧ m sl mh P ∧ ∀ u mh', P u mh' → GotT K as H Q u mh'
def tMA (K : PySem.W.Frag) (m : MA) : TA := fun σ H Q => ∃ sl mh as P, RS K as H sl σ ∧ RH K as H mh ∧ m sl mh P ∧ ∀ u mh', P u mh' → GotL K as H Q u mh'
structure EO (K : PySem.W.Frag) (as : List Addr) (H : Hp) (N : MEnds) (D : Ends) : Prop where
  nx : ∀ sl mh, N.nx sl mh → GotS K as H D.nx sl mh
  rt : ∀ u mh, N.rt u mh → Got K as H D.rt u mh
  bk : ∀ sl mh, N.bk sl mh → GotS K as H D.bk sl mh
  ct : ∀ sl mh, N.ct sl mh → GotS K as H D.ct sl mh
theorem EO.at {K : PySem.W.Frag} {as as1 : List Addr} {H H1 : Hp} {N : MEnds} {D : Ends} (o : EO K as H N D) (e : Ev as H as1 H1) : EO K as1 H1 N D :=
  ⟨fun _ _ h => (o.nx _ _ h).at e, fun _ _ h => (o.rt _ _ h).at e, fun _ _ h => (o.bk _ _ h).at e, fun _ _ h => (o.ct _ _ h).at e⟩
def tMS (K : PySem.W.Frag) (m : MS) : TS := fun D σ H => ∃ sl mh as N, RS K as H sl σ ∧ RH K as H mh ∧ m N sl mh ∧ EO K as H N D
def tMG (K : PySem.W.Frag) (m : MG) : TG := fun v σ H Q => ∃ u sl mh as P, RV K as H u v ∧ RS K as H sl σ ∧ RH K as H mh ∧ m u sl mh P ∧ ∀ sl' mh', P sl' mh' → GotS K as H Q sl' mh'
abbrev MGs := List U → Sl → MH → (Sl → MH → Prop) → Prop
def tMGs (K : PySem.W.Frag) (m : MGs) : TGs := fun vs σ H Q => ∃ us sl mh as P, RVs K as H us vs ∧ RS K as H sl σ ∧ RH K as H mh ∧ m us sl mh P ∧ ∀ sl' mh', P sl' mh' → GotS K as H Q sl' mh'

theorem _root_.L2.PE.imp {X : Cx} {e : Expr} {t t' : TE} (h : PE X e t) (i : ∀ σ H Q, t' σ H Q → t σ H Q) : PE X e t' := ⟨fun pins s σ H Q I q => h.run pins s σ H Q I (i _ _ _ q)⟩
theorem _root_.L2.PT.imp {X : Cx} {e : Expr} {t t' : TT} (h : PT X e t) (i : ∀ σ H Q, t' σ H Q → t σ H Q) : PT X e t' := ⟨fun pins s σ H Q I q => h.run pins s σ H Q I (i _ _ _ q)⟩
theorem _root_.L2.PW.imp {X : Cx} {e : Expr} {t t' : TT} (h : PW X e t) (i : ∀ σ H Q, t' σ H Q → t σ H Q) : PW X e t' := ⟨fun wh pins s σ H Q I q => h.run wh pins s σ H Q I (i _ _ _ q)⟩
theorem _root_.L2.PA.imp {X : Cx} {e : List Expr} {t t' : TA} (h : PA X e t) (i : ∀ σ H Q, t' σ H Q → t σ H Q) : PA X e t' := ⟨fun pos pins s σ H Q I q => h.run pos pins s σ H Q I (i _ _ _ q)⟩
theorem _root_.L2.PK.imp {X : Cx} {e : List Keyword} {t t' : TA} (h : PK X e t) (i : ∀ σ H Q, t' σ H Q → t σ H Q) : PK X e t' := ⟨fun pos pins s σ H Q I q => h.run pos pins s σ H Q I (i _ _ _ q)⟩
theorem _root_.L2.PS.imp {X : Cx} {e : Stmt} {t t' : TS} (h : PS X e t) (i : ∀ D σ H, t' D σ H → t D σ H) : PS X e t' := ⟨fun pins s σ H D I q => h.run pins s σ H D I (i _ _ _ q)⟩
theorem _root_.L2.PSs.imp {X : Cx} {e : List Stmt} {t t' : TS} (h : PSs X e t) (i : ∀ D σ H, t' D σ H → t D σ H) : PSs X e t' := ⟨fun pins s σ H D I q => h.run pins s σ H D I (i _ _ _ q)⟩
theorem _root_.L2.PG.imp {X : Cx} {e : Expr} {t t' : TG} (h : PG X e t) (i : ∀ v σ H Q, t' v σ H Q → t v σ H Q) : PG X e t' := ⟨fun pins s σ H v u Q I r q => h.run pins s σ H v u Q I r (i _ _ _ _ q)⟩
theorem _root_.L2.PGs.imp {X : Cx} {e : List Expr} {t t' : TGs} (h : PGs X e t) (i : ∀ v σ H Q, t' v σ H Q → t v σ H Q) : PGs X e t' := ⟨fun pins s σ H v u Q I r q => h.run pins s σ H v u Q I r (i _ _ _ _ q)⟩
theorem pe_alt {X : Cx} {e : Expr} {t t' : TE} (h : PE X e t) (h' : PE X e t') : PE X e (fun σ H Q => t σ H Q ∨ t' σ H Q) := ⟨fun pins s σ H Q I q => q.elim (h.run pins s σ H Q I) (h'.run pins s σ H Q I)⟩

/-! ### names and constants -/
def mVar (i : Nat) : ME := fun sl mh P => match sl[i]? with | some (some u) => P u mh | _ => False
def mC (u : U) : ME := fun _ mh P => P u mh
section
variable {X : Cx}
theorem tm_var {K : PySem.W.Frag} {i : Nat} (σ : L2.St) (H : Hp) (Q : VK) (h : tM K (mVar i) σ H Q) : tVar i σ H Q := by
  obtain ⟨sl, mh, as, P, rs, rh, h, k⟩ := h
  unfold mVar at h
  split at h
  · rename_i u e
    obtain ⟨v, e1, e2⟩ := rs.at_ _ _ e
    exact ⟨v, e1, k _ _ h _ _ _ .refl e2 rh⟩
  · exact h.elim
theorem s_var {i : Nat} {x : Str} {pos : Pos} (hN : X.N[i]? = some x := by rfl) (hv : Vis X.env.scope x := by first | exact .inl rfl | exact .inr (.inl rfl) | exact .inr (.inr rfl)) (hd : (x == ("__debug__" : Str)) = false := by decide) (hcd : (x == ("__classdict__" : Str)) = false := by decide) : PE X (.Name x pos) (tM X.K (mVar i)) :=
  (pe_var hN hv hd hcd).imp fun σ H Q h => tm_var σ H Q h
theorem tm_c {K : PySem.W.Frag} {u : U} {v : V} (r : ∀ as H, RV K as H u v) (σ : L2.St) (H : Hp) (Q : VK) (h : tM K (mC u) σ H Q) : tC v σ H Q := by
  obtain ⟨sl, mh, as, P, rs, rh, h, k⟩ := h
  exact k _ _ h _ _ _ .refl (r _ _) rh
theorem s_int {i : Int} {j pos} : PE X (.Constant (.int i) j pos) (tM X.K (mC (.int i))) := pe_int.imp (tm_c fun _ _ => .int i)
theorem s_bl {b : Bool} {j pos} : PE X (.Constant (.bool b) j pos) (tM X.K (mC (.bl b))) := pe_bl.imp (tm_c fun _ _ => .bl b)
theorem s_non {j pos} : PE X (.Constant .none j pos) (tM X.K (mC .non)) := pe_non.imp (tm_c fun _ _ => .non)
theorem s_str {x : Str} {j pos} : PE X (.Constant (.str x) j pos) (tM X.K (mC (.str x))) := pe_str.imp (tm_c fun _ _ => .str x)
/-- a module's constant -/
def CV (K : PySem.W.Frag) (mg : Str → Option Value) (x : Str) (u : U) : Prop := ∃ (v : V) (w : Value), mg x = some w ∧ L2.RelV v w ∧ ∀ as H, ZC.Z as H → RV K as H u v
theorem s_glob {x : Str} {u : U} {pos : Pos} (c : CV X.K X.mg x u) (hg : Gl X x := by rfl) (hd : (x == ("__debug__" : Str)) = false := by decide) : PE X (.Name x pos) (tM X.K (mC u)) := by
  obtain ⟨v, w, h1, h2, h3⟩ := c
  exact (pe_glob hg h1 h2 hd).imp fun σ H Q ⟨sl, mh, as, P, rs, rh, h, k⟩ => k _ _ h _ _ _ .refl (h3 _ _ (rh.cz _ _ .refl)) rh
end

/-! ### operators by values -/
abbrev M1 := U → MH → MK → Prop
abbrev M2 := U → U → MH → MK → Prop
abbrev ML := List U → MH → MK → Prop
def r1 (K : PySem.W.Frag) (g : M1) : V → Hp → VK → Prop := fun x H Q => ∃ ux mh as P, RV K as H ux x ∧ RH K as H mh ∧ g ux mh P ∧ ∀ u mh', P u mh' → Got K as H Q u mh'
def r2 (K : PySem.W.Frag) (g : M2) : R2 := fun x y H Q => ∃ ux uy mh as P, RV K as H ux x ∧ RV K as H uy y ∧ RH K as H mh ∧ g ux uy mh P ∧ ∀ u mh', P u mh' → Got K as H Q u mh'
def rl (K : PySem.W.Frag) (g : ML) : List V → Hp → VK → Prop := fun xs H Q => ∃ us mh as P, RVs K as H us xs ∧ RH K as H mh ∧ g us mh P ∧ ∀ u mh', P u mh' → Got K as H Q u mh'
def mUn (g : M1) (ma : ME) : ME := fun sl mh P => ma sl mh fun u mh1 => g u mh1 P
def mBin (g : M2) (ma mb : ME) : ME := fun sl mh P => ma sl mh fun u mh1 => mb sl mh1 fun w mh2 => g u w mh2 P
def mCallB (g : ML) (ma : MA) : ME := fun sl mh P => ma sl mh fun us mh1 => g us mh1 P
def mNil : MA := fun _ mh P => P [] mh
def mCons (ma : ME) (mr : MA) : MA := fun sl mh P => ma sl mh fun u mh1 => mr sl mh1 fun us mh2 => P (u :: us) mh2
section
variable {K : PySem.W.Frag}
theorem tm_un {g : M1} {ma : ME} (σ : L2.St) (H : Hp) (Q : VK) (h : tM K (mUn g ma) σ H Q) : tUn (r1 K g) (tM K ma) σ H Q := by
  obtain ⟨sl, mh, as, P, rs, rh, h, k⟩ := h
  exact ⟨sl, mh, as, _, rs, rh, h, fun u mh1 p x H1 as1 e r rh1 => ⟨u, mh1, as1, P, r, rh1, p, fun w mh2 q => (k _ _ q).at e⟩⟩
theorem tm_bin {g : M2} {ma mb : ME} (σ : L2.St) (H : Hp) (Q : VK) (h : tM K (mBin g ma mb) σ H Q) : tOp (r2 K g) (tM K ma) (tM K mb) σ H Q := by
  obtain ⟨sl, mh, as, P, rs, rh, h, k⟩ := h
  exact ⟨sl, mh, as, _, rs, rh, h, fun u mh1 p x H1 as1 e r rh1 => ⟨sl, mh1, as1, _, rs.ev e, rh1, p, fun w mh2 p2 y H2 as2 e2 r2 rh2 => ⟨u, w, mh2, as2, P, r.ev e2, r2, rh2, p2, fun z mh3 q => (k _ _ q).at (e.trans e2)⟩⟩⟩
theorem tm_callB {g : ML} {ma : MA} (σ : L2.St) (H : Hp) (Q : VK) (h : tM K (mCallB g ma) σ H Q) : tCB (rl K g) (tMA K ma) σ H Q := by
  obtain ⟨sl, mh, as, P, rs, rh, h, k⟩ := h
  exact ⟨sl, mh, as, _, rs, rh, h, fun u mh1 p x H1 as1 e r rh1 => ⟨u, mh1, as1, P, r, rh1, p, fun w mh2 q => (k _ _ q).at e⟩⟩
end
section
variable {X : Cx} {a b c : Expr} {ma mb mc : ME} {pos : Pos}
theorem sa_nil : PA X [] (tMA X.K mNil) := pa_nil.imp fun σ H Q ⟨sl, mh, as, P, rs, rh, h, k⟩ => k _ _ h _ _ _ .refl .nil rh
theorem sa_cons {es : List Expr} {mr : MA} (ha : PE X a (tM X.K ma)) (hr : PA X es (tMA X.K mr)) (hs : starEach (a :: es) X.env = (false, eval a X.env) :: starEach es X.env := by rfl) : PA X (a :: es) (tMA X.K (mCons ma mr)) := by
  refine (pa_cons ha hr hs).imp fun σ H Q h => ?_
  obtain ⟨sl, mh, as, P, rs, rh, h, k⟩ := h
  exact ⟨sl, mh, as, _, rs, rh, h, fun u mh1 p x H1 as1 e r rh1 => ⟨sl, mh1, as1, _, rs.ev e, rh1, p, fun w mh2 p2 y H2 as2 e2 r2 rh2 => (k _ _ p2).at (e.trans e2) _ _ _ .refl (.cons (r.ev e2) r2) rh2⟩⟩
theorem s_op {op : Operator} {g : M2} (ho : OpR X (binaryOp op) (r2 X.K g)) (ha : PE X a (tM X.K ma)) (hb : PE X b (tM X.K mb)) : PE X (.BinOp a op b pos) (tM X.K (mBin g ma mb)) := (pe_op ho ha hb).imp tm_bin
theorem s_un {op : UnaryOp} {g : M1} (ho : UnR X (unaryOp op) (r1 X.K g)) (ha : PE X a (tM X.K ma)) : PE X (.UnaryOp op a pos) (tM X.K (mUn g ma)) := (pe_un ho ha).imp tm_un
theorem s_cmp {op : CmpOp} {g : M2} (ho : OpR X (compareOp op) (r2 X.K g)) (ha : PE X a (tM X.K ma)) (hb : PE X b (tM X.K mb)) (hm : behindInMarks op b = false := by first | exact nomark _ | with_unfolding_all rfl) : PE X (.Compare a [op] [b] pos) (tM X.K (mBin g ma mb)) := (pe_cmpR ho ha hb hm).imp tm_bin
end

/-! ### tests -/
/-- a value that is a bool, as a test -/
def mB (m : ME) : MT := fun sl mh P => m sl mh fun u mh1 => match u with | .bl b => P b mh1 | _ => False
/-- a value's truth -/
def mTru (u : U) (mh : MH) (P : Bool → Prop) : Prop := match u with
  | .non => P false
  | .bl b => P b
  | .int i => P (i != 0)
  | .str y => y.length ≤ sizeLine ∧ P ((y.length : Int) != 0)
  | .tup us => P (!us.isEmpty)
  | .fz us => P (!us.isEmpty)
  | .ref n => match mh[n]? with
    | some (.lst us) => P (!us.isEmpty)
    | some (.dK kvs) => P (!kvs.isEmpty)
    | _ => False
  | .ob _ => False
theorem isEmptyP {α β : Type} {F : α → β → Prop} {xs : List α} {ys : List β} (h : Paired F xs ys) : xs.isEmpty = ys.isEmpty := by cases h <;> rfl
theorem mTru_ok {K : PySem.W.Frag} {as : List Addr} {H : Hp} {u : U} {v : V} {mh : MH} {P : Bool → Prop} (r : RV K as H u v) (R : RH K as H mh) (h : mTru u mh P) : ∃ k, TruV K v H k ∧ P k := by
  cases u with
  | non => cases r; exact ⟨_, rfl, h⟩
  | bl b => cases r; exact ⟨_, rfl, h⟩
  | int i => cases r; exact ⟨_, rfl, h⟩
  | str y => cases r; exact ⟨_, ⟨h.1, rfl⟩, h.2⟩
  | tup us =>
    obtain ⟨a, vs, rfl, h1, h2⟩ := r.of_tup
    exact ⟨_, .inr (.inl ⟨vs, h1, rfl⟩), by rw [← isEmptyP h2]; exact h⟩
  | fz us =>
    obtain ⟨a, vs, rfl, h1, h2⟩ := r.of_fz
    exact ⟨_, .inl ⟨vs, h1.l, rfl⟩, by rw [← isEmptyP h2]; exact h⟩
  | ref n =>
    obtain ⟨a, rfl, e⟩ := r.of_ref
    simp only [mTru] at h
    split at h
    · rename_i us q
      obtain ⟨vs, h1, h2⟩ := R.lst q e
      exact ⟨_, .inl ⟨vs, SqL.of h1, rfl⟩, by rw [← isEmptyP h2]; exact h⟩
    · rename_i us q
      obtain ⟨vs, h1, h2⟩ := R.dK q e
      exact ⟨_, .inr (.inr ⟨vs, h1, rfl⟩), by rw [← isEmptyP h2]; exact h⟩
    · exact h.elim
  | ob a => exact h.elim
def mTr (m : ME) : MT := fun sl mh P => m sl mh fun u mh1 => mTru u mh1 fun b => P b mh1
def mAnd (s t : MT) : MT := fun sl mh P => s sl mh fun c mh1 => if c = true then t sl mh1 P else P false mh1
def mOr (s t : MT) : MT := fun sl mh P => s sl mh fun c mh1 => if c = true then P true mh1 else t sl mh1 P
def mNot (s : MT) : MT := fun sl mh P => s sl mh fun c mh1 => P (!c) mh1
def mIfE (t : MT) (ma mb : ME) : ME := fun sl mh P => t sl mh fun c mh1 => if c = true then ma sl mh1 P else mb sl mh1 P
def mAndV (ma mb : ME) : ME := fun sl mh P => ma sl mh fun u mh1 => mTru u mh1 fun c => if c = true then mb sl mh1 P else P u mh1
def mOrV (ma mb : ME) : ME := fun sl mh P => ma sl mh fun u mh1 => mTru u mh1 fun c => if c = true then P u mh1 else mb sl mh1 P
def mNotV (ma : ME) : ME := fun sl mh P => ma sl mh fun u mh1 => mTru u mh1 fun c => P (.bl (!c)) mh1
section
variable {X : Cx} {a b c : Expr} {ma mb mc : ME} {s t : MT} {pos : Pos} {rest : List Expr}
theorem tm_b {K : PySem.W.Frag} {m : ME} (σ : L2.St) (H : Hp) (Q : Bool → Hp → Prop) (h : tMT K (mB m) σ H Q) : tM K m σ H (fun x H1 => ∃ c, x = .bl c ∧ Q c H1) := by
  obtain ⟨sl, mh, as, P, rs, rh, h, k⟩ := h
  refine ⟨sl, mh, as, _, rs, rh, h, fun u mh1 p x H1 as1 e r rh1 => ?_⟩
  cases r with
  | bl b => exact ⟨b, rfl, k _ _ p _ _ e rh1⟩
  | _ => exact False.elim p
theorem st_cmp {op : CmpOp} {g : M2} (ho : OpR X (compareOp op) (r2 X.K g)) (ha : PE X a (tM X.K ma)) (hb : PE X b (tM X.K mb)) (hm : behindInMarks op b = false := by first | exact nomark _ | with_unfolding_all rfl) : PT X (.Compare a [op] [b] pos) (tMT X.K (mB (mBin g ma mb))) :=
  (pt_cmpR ho ha hb hm).imp fun σ H Q h => tm_bin σ H _ (tm_b σ H Q h)
theorem st_tru (ha : PE X a (tM X.K ma)) (he : ∀ whole, isTrue a X.env whole = (do let v ← whole; standAt a.pos; holding [v] (truthy v)) := by intro _; rfl) : PT X a (tMT X.K (mTr ma)) := by
  refine (pt_truth ha he).imp fun σ H Q h => ?_
  obtain ⟨sl, mh, as, P, rs, rh, h, k⟩ := h
  refine ⟨sl, mh, as, _, rs, rh, h, fun u mh1 p x H1 as1 e r rh1 => ?_⟩
  obtain ⟨c, h1, h2⟩ := mTru_ok r rh1 p
  exact ⟨c, h1, k _ _ h2 _ _ e rh1⟩
theorem st_not (ha : PT X a (tMT X.K s)) : PT X (.UnaryOp .Not a pos) (tMT X.K (mNot s)) := by
  refine (pt_not ha).imp fun σ H Q h => ?_
  obtain ⟨sl, mh, as, P, rs, rh, h, k⟩ := h
  exact ⟨sl, mh, as, _, rs, rh, h, fun u mh1 p => k _ _ p⟩
theorem sw_and1 (ha : PT X a (tMT X.K s)) : PW X (.BoolOp .And [a] pos) (tMT X.K s) := pw_and1 ha
theorem sw_or1 (ha : PT X a (tMT X.K s)) : PW X (.BoolOp .Or [a] pos) (tMT X.K s) := pw_or1 ha
theorem sw_and (ha : PT X a (tMT X.K s)) (hb : PW X (.BoolOp .And (b :: rest) pos) (tMT X.K t)) : PW X (.BoolOp .And (a :: b :: rest) pos) (tMT X.K (mAnd s t)) := by
  refine (pw_and ha hb).imp fun σ H Q h => ?_
  obtain ⟨sl, mh, as, P, rs, rh, h, k⟩ := h
  refine ⟨sl, mh, as, _, rs, rh, h, fun u mh1 p H1 as1 e rh1 => ?_⟩
  cases u with
  | true => exact ⟨sl, mh1, as1, P, rs.ev e, rh1, p, fun _ _ q => (k _ _ q).at e⟩
  | false => exact k _ _ p _ _ e rh1
theorem sw_or (ha : PT X a (tMT X.K s)) (hb : PW X (.BoolOp .Or (b :: rest) pos) (tMT X.K t)) : PW X (.BoolOp .Or (a :: b :: rest) pos) (tMT X.K (mOr s t)) := by
  refine (pw_or ha hb).imp fun σ H Q h => ?_
  obtain ⟨sl, mh, as, P, rs, rh, h, k⟩ := h
  refine ⟨sl, mh, as, _, rs, rh, h, fun u mh1 p H1 as1 e rh1 => ?_⟩
  cases u with
  | false => exact ⟨sl, mh1, as1, P, rs.ev e, rh1, p, fun _ _ q => (k _ _ q).at e⟩
  | true => exact k _ _ p _ _ e rh1
theorem s_ifExp (hc : PT X c (tMT X.K s)) (ha : PE X a (tM X.K ma)) (hb : PE X b (tM X.K mb)) : PE X (.IfExp c a b pos) (tM X.K (mIfE s ma mb)) := by
  refine (pe_ifExp hc ha hb).imp fun σ H Q h => ?_
  obtain ⟨sl, mh, as, P, rs, rh, h, k⟩ := h
  refine ⟨sl, mh, as, _, rs, rh, h, fun u mh1 p H1 as1 e rh1 => ?_⟩
  cases u with
  | false => exact ⟨sl, mh1, as1, P, rs.ev e, rh1, p, fun _ _ q => (k _ _ q).at e⟩
  | true => exact ⟨sl, mh1, as1, P, rs.ev e, rh1, p, fun _ _ q => (k _ _ q).at e⟩
theorem s_one {op} (h : PE X a (tM X.K ma)) : PE X (.BoolOp op [a] pos) (tM X.K ma) := pe_one h
theorem s_and (ha : PE X a (tM X.K ma)) (hb : PE X (.BoolOp .And (b :: rest) pos) (tM X.K mb)) : PE X (.BoolOp .And (a :: b :: rest) pos) (tM X.K (mAndV ma mb)) := by
  refine (pe_andT ha hb).imp fun σ H Q h => ?_
  obtain ⟨sl, mh, as, P, rs, rh, h, k⟩ := h
  refine ⟨sl, mh, as, _, rs, rh, h, fun u mh1 p x H1 as1 e r rh1 => ?_⟩
  obtain ⟨c, h1, h2⟩ := mTru_ok r rh1 p
  refine ⟨c, h1, ?_⟩
  cases c with
  | true => exact ⟨sl, mh1, as1, P, rs.ev e, rh1, h2, fun _ _ q => (k _ _ q).at e⟩
  | false => exact k _ _ h2 _ _ _ e r rh1
theorem s_or (ha : PE X a (tM X.K ma)) (hb : PE X (.BoolOp .Or (b :: rest) pos) (tM X.K mb)) : PE X (.BoolOp .Or (a :: b :: rest) pos) (tM X.K (mOrV ma mb)) := by
  refine (pe_orT ha hb).imp fun σ H Q h => ?_
  obtain ⟨sl, mh, as, P, rs, rh, h, k⟩ := h
  refine ⟨sl, mh, as, _, rs, rh, h, fun u mh1 p x H1 as1 e r rh1 => ?_⟩
  obtain ⟨c, h1, h2⟩ := mTru_ok r rh1 p
  refine ⟨c, h1, ?_⟩
  cases c with
  | false => exact ⟨sl, mh1, as1, P, rs.ev e, rh1, h2, fun _ _ q => (k _ _ q).at e⟩
  | true => exact k _ _ h2 _ _ _ e r rh1
theorem s_not (ha : PE X a (tM X.K ma)) : PE X (.UnaryOp .Not a pos) (tM X.K (mNotV ma)) := by
  refine (pe_notT ha).imp fun σ H Q h => ?_
  obtain ⟨sl, mh, as, P, rs, rh, h, k⟩ := h
  refine ⟨sl, mh, as, _, rs, rh, h, fun u mh1 p x H1 as1 e r rh1 => ?_⟩
  obtain ⟨c, h1, h2⟩ := mTru_ok r rh1 p
  exact ⟨c, h1, k _ _ h2 _ _ _ e (.bl _) rh1⟩
end
/-- a op1 b op2 c -/
def mChain (g g' : M2) (ma mb mc : ME) : ME := fun sl mh P => ma sl mh fun x mh1 => mb sl mh1 fun y mh2 => g x y mh2 fun z mh3 => match z with
  | .bl k => if k = true then mc sl mh3 fun w mh4 => g' y w mh4 P else P (.bl false) mh3
  | _ => False
section
variable {X : Cx} {a b c : Expr} {ma mb mc : ME} {pos : Pos}
theorem tm_chain {K : PySem.W.Frag} {g g' : M2} (σ : L2.St) (H : Hp) (Q : VK) (h : tM K (mChain g g' ma mb mc) σ H Q) : tChain (r2 K g) (r2 K g') (tM K ma) (tM K mb) (tM K mc) σ H Q := by
  obtain ⟨sl, mh, as, P, rs, rh, h, k⟩ := h
  refine ⟨sl, mh, as, _, rs, rh, h, fun u mh1 p x H1 as1 e r rh1 => ⟨sl, mh1, as1, _, rs.ev e, rh1, p, fun w mh2 p2 y H2 as2 e2 r2' rh2 => ⟨u, w, mh2, as2, _, r.ev e2, r2', rh2, p2, fun z mh3 q v H3 as3 e3 r3 rh3 => ?_⟩⟩⟩
  cases r3 with
  | bl d =>
    refine ⟨d, rfl, ?_⟩
    cases d with
    | true => exact ⟨sl, mh3, as3, _, ((rs.ev e).ev e2).ev e3, rh3, q, fun o mh4 p4 v4 H4 as4 e4 r4 rh4 => ⟨w, o, mh4, as4, P, (r2'.ev e3).ev e4, r4, rh4, p4, fun _ _ q5 => (k _ _ q5).at (((e.trans e2).trans e3).trans e4)⟩⟩
    | false => exact k _ _ q _ _ _ ((e.trans e2).trans e3) (.bl _) rh3
  | _ => exact False.elim q
theorem s_chain {op op' : CmpOp} {g g' : M2} (ho : OpR X (compareOp op) (r2 X.K g)) (ho' : OpR X (compareOp op') (r2 X.K g')) (ha : PE X a (tM X.K ma)) (hb : PE X b (tM X.K mb)) (hc : PE X c (tM X.K mc))
    (hm : lastMarks [op, op'] [b, c] = false := by with_unfolding_all rfl) : PE X (.Compare a [op, op'] [b, c] pos) (tM X.K (mChain g g' ma mb mc)) := (pe_chain ho ho' ha hb hc hm).imp tm_chain
theorem st_chain {op op' : CmpOp} {g g' : M2} (ho : OpR X (compareOp op) (r2 X.K g)) (ho' : OpR X (compareOp op') (r2 X.K g')) (ha : PE X a (tM X.K ma)) (hb : PE X b (tM X.K mb)) (hc : PE X c (tM X.K mc))
    (hm : lastMarks [op, op'] [b, c] = false := by with_unfolding_all rfl) : PT X (.Compare a [op, op'] [b, c] pos) (tMT X.K (mB (mChain g g' ma mb mc))) := (pt_chain ho ho' ha hb hc hm).imp fun σ H Q h => tm_chain σ H _ (tm_b σ H Q h)
end

/-! ### statements -/
def mNext : MS := fun N sl mh => N.nx sl mh
def mSeq (s t : MS) : MS := fun N sl mh => s { N with nx := t N } sl mh
def mDrop (m : ME) : MS := fun N sl mh => m sl mh fun _ mh1 => N.nx sl mh1
def mRet (m : ME) : MS := fun N sl mh => m sl mh N.rt
def mRetN : MS := fun N _ mh => N.rt .non mh
def mIfS (c : MT) (s t : MS) : MS := fun N sl mh => c sl mh fun b mh1 => if b = true then s N sl mh1 else t N sl mh1
def mNever : MS := fun _ _ _ => False
def mBrk : MS := fun N sl mh => N.bk sl mh
def mCt : MS := fun N sl mh => N.ct sl mh
def mAsg (m : ME) (g : MG) : MS := fun N sl mh => m sl mh fun u mh1 => g u sl mh1 N.nx
def gN (i : Nat) : MG := fun u sl mh P => P (sl.set i (some u)) mh
section
variable {X : Cx} {st : Stmt} {rest : List Stmt} {s t : MS} {e : Expr} {m : ME} {pos : Pos}
theorem ss_nil : PSs X [] (tMS X.K mNext) := pss_nil.imp fun D σ H ⟨sl, mh, as, N, rs, rh, h, k⟩ => k.nx _ _ h _ _ _ .refl rs rh
theorem ss_cons (h1 : PS X st (tMS X.K s)) (h2 : PSs X rest (tMS X.K t)) : PSs X (st :: rest) (tMS X.K (mSeq s t)) := by
  refine (pss_cons h1 h2).imp fun D σ H h => ?_
  obtain ⟨sl, mh, as, N, rs, rh, h, k⟩ := h
  exact ⟨sl, mh, as, _, rs, rh, h, ⟨fun sl1 mh1 p σ1 H1 as1 e rs1 rh1 => ⟨sl1, mh1, as1, N, rs1, rh1, p, k.at e⟩, k.rt, k.bk, k.ct⟩⟩
theorem ss_one (h1 : PS X st (tMS X.K s)) : PSs X [st] (tMS X.K s) := pss_one h1
theorem sp_pass : PS X (.Pass pos) (tMS X.K mNext) := ps_pass.imp fun D σ H ⟨sl, mh, as, N, rs, rh, h, k⟩ => k.nx _ _ h _ _ _ .refl rs rh
theorem sp_break : PS X (.Break pos) (tMS X.K mBrk) := ps_break.imp fun D σ H ⟨sl, mh, as, N, rs, rh, h, k⟩ => k.bk _ _ h _ _ _ .refl rs rh
theorem sp_continue : PS X (.Continue pos) (tMS X.K mCt) := ps_continue.imp fun D σ H ⟨sl, mh, as, N, rs, rh, h, k⟩ => k.ct _ _ h _ _ _ .refl rs rh
theorem sp_never : PS X st (tMS X.K mNever) := ps_never.imp fun D σ H ⟨sl, mh, as, N, rs, rh, h, k⟩ => h.elim
theorem sp_expr (he : PE X e (tM X.K m)) (hs : swapsWith e none pos.line X.env = pure false := by rfl) : PS X (.Expr e pos) (tMS X.K (mDrop m)) := by
  refine (ps_expr he hs).imp fun D σ H h => ?_
  obtain ⟨sl, mh, as, N, rs, rh, h, k⟩ := h
  exact ⟨sl, mh, as, _, rs, rh, h, fun u mh1 p v H1 as1 e r rh1 => k.nx _ _ p _ _ _ e (rs.ev e) rh1⟩
theorem sp_ret (he : PE X e (tM X.K m)) : PS X (.Return (some e) pos) (tMS X.K (mRet m)) := by
  refine (ps_ret he).imp fun D σ H h => ?_
  obtain ⟨sl, mh, as, N, rs, rh, h, k⟩ := h
  exact ⟨sl, mh, as, _, rs, rh, h, fun u mh1 p => k.rt _ _ p⟩
theorem sp_retN : PS X (.Return none pos) (tMS X.K mRetN) := ps_retN.imp fun D σ H ⟨sl, mh, as, N, rs, rh, h, k⟩ => k.rt _ _ h _ _ _ .refl .non rh
theorem sp_if {c : Expr} {a b : List Stmt} {mc : MT} (hc : PT X c (tMT X.K mc)) (ha : PSs X a (tMS X.K s)) (hb : PSs X b (tMS X.K t)) : PS X (.If c a b pos) (tMS X.K (mIfS mc s t)) := by
  refine (ps_if hc ha hb).imp fun D σ H h => ?_
  obtain ⟨sl, mh, as, N, rs, rh, h, k⟩ := h
  refine ⟨sl, mh, as, _, rs, rh, h, fun u mh1 p H1 as1 e rh1 => ?_⟩
  cases u with
  | true => exact ⟨sl, mh1, as1, N, rs.ev e, rh1, p, k.at e⟩
  | false => exact ⟨sl, mh1, as1, N, rs.ev e, rh1, p, k.at e⟩
theorem tg_name {K : PySem.W.Frag} {i : Nat} (v : V) (σ : L2.St) (H : Hp) (Q : L2.St → Hp → Prop) (h : tMG K (gN i) v σ H Q) : gName i v σ H Q := by
  obtain ⟨u, sl, mh, as, P, r, rs, rh, h, k⟩ := h
  exact k _ _ h _ _ _ .refl (rs.set i r) rh
theorem sg_name {i : Nat} {x : Str} (hN : X.N.Nodup) (hi : X.N[i]? = some x := by rfl) (hx : Loc X.env.scope x := by first | exact Or.inl rfl | exact Or.inr rfl) (hf : X.fn x = true ∨ X.env.scope.names.lookup x = some .local := by first | exact .inl rfl | exact .inr rfl | assumption) : PG X (.Name x pos) (tMG X.K (gN i)) :=
  (pg_name hN hi hx hf).imp tg_name
theorem tm_asg {K : PySem.W.Frag} {m : ME} {g : MG} (D : Ends) (σ : L2.St) (H : Hp) (h : tMS K (mAsg m g) D σ H) : tAsg (tM K m) (tMG K g) D σ H := by
  obtain ⟨sl, mh, as, N, rs, rh, h, k⟩ := h
  exact ⟨sl, mh, as, _, rs, rh, h, fun u mh1 p v H1 as1 e r rh1 => ⟨u, sl, mh1, as1, _, r, rs.ev e, rh1, p, fun sl2 mh2 q => (k.nx _ _ q).at e⟩⟩
theorem sp_asg {tg : Expr} {g : MG} (he : PE X e (tM X.K m)) (hg : PG X tg (tMG X.K g)) (hs : swapsWithSole [tg] e pos.line X.env = pure false := by rfl) (hw : swappedStores [tg] e X.env = pure none := by rfl)
    (h1 : (assignEach [tg] X.env).map (·.2) = [assign tg X.env] := by rfl) : PS X (.Assign [tg] e pos) (tMS X.K (mAsg m g)) := (ps_asg he hg hs hw h1).imp tm_asg
theorem sp_set {i : Nat} {x : Str} {pos' : Pos} (hN : X.N.Nodup) (he : PE X e (tM X.K m)) (hi : X.N[i]? = some x := by rfl) (hx : Loc X.env.scope x := by first | exact Or.inl rfl | exact Or.inr rfl) (hs : swapsWith e (some (.Name x pos')) pos.line X.env = pure false := by rfl) (hf : X.fn x = true ∨ X.env.scope.names.lookup x = some .local := by first | exact .inl rfl | exact .inr rfl | assumption) :
    PS X (.Assign [.Name x pos'] e pos) (tMS X.K (mAsg m (gN i))) :=
  (ps_set hN hi hx he hs hf).imp fun D σ H h => by
    obtain ⟨sl, mh, as, N, rs, rh, h, k⟩ := h
    exact ⟨sl, mh, as, _, rs, rh, h, fun u mh1 p v H1 as1 e r rh1 => k.nx _ _ p _ _ _ e ((rs.ev e).set i r) rh1⟩
/-- a, b = x, y -/
def mPar (i j : Nat) (ma mb : ME) : MS := fun N sl mh => ma sl mh fun u mh1 => mb sl mh1 fun w mh2 => N.nx ((sl.set i (some u)).set j (some w)) mh2
theorem sp_par {i j : Nat} {x y : Str} {a b : Expr} {ma mb : ME} {px py pt : Pos} {kt k2 pt2} (hN : X.N.Nodup) (ha : PE X a (tM X.K ma)) (hb : PE X b (tM X.K mb)) (hc : X.calm = true := by rfl) (hi : X.N[i]? = some x := by rfl) (hj : X.N[j]? = some y := by rfl) (hij : i ≠ j := by decide)
    (hx : X.env.scope.names.lookup x = some .local := by rfl) (hy : X.env.scope.names.lookup y = some .local := by rfl)
    (hw : swappedStores [.Tuple [.Name x px, .Name y py] kt pt] (.Tuple [a, b] k2 pt2) X.env = pure (some [x, y]) := by rfl)
    (hs : swapsWithSole [.Tuple [.Name x px, .Name y py] kt pt] (.Tuple [a, b] k2 pt2) pos.line X.env = pure false := by rfl) (s1 : starEach [a, b] X.env = (false, eval a X.env) :: starEach [b] X.env := by rfl) (s2 : starEach [b] X.env = (false, eval b X.env) :: starEach [] X.env := by rfl) :
    PS X (.Assign [.Tuple [.Name x px, .Name y py] kt pt] (.Tuple [a, b] k2 pt2) pos) (tMS X.K (mPar i j ma mb)) := by
  refine (ps_par hc hN hi hj hij hx hy (sa_cons ha (sa_cons hb sa_nil s2) s1) hw hs).imp fun D σ H h => ?_
  obtain ⟨sl, mh, as, N, rs, rh, h, k⟩ := h
  refine ⟨sl, mh, as, fun us mh2 => match us with | [u, w] => N.nx ((sl.set i (some u)).set j (some w)) mh2 | _ => False, rs, rh, h, fun us mh1 p vs H1 as1 e r rh1 => ?_⟩
  cases r with
  | nil => exact p.elim
  | cons r1 r =>
    cases r with
    | nil => exact p.elim
    | cons r2 r =>
      cases r with
      | cons _ _ => exact p.elim
      | nil => exact ⟨_, _, rfl, k.nx _ _ p _ _ _ e (((rs.ev e).set i r1).set j r2) rh1⟩
end
end Sm

namespace Tk
open PySem PySem.Spec PyProof.Rows L2

/-! ### the law's own def, entered by the checker: around it stands callerA, and nothing is shown by repr -/
section
variable {P : Program} {w : World} {K : PySem.W.Frag} {mg : Str → Option Value} {base : Heap}
/-- the body of a def, run once, at a known around -/
theorem def_run {x qual : Str} {st : Stmt} {f : Addr} {fd : FuncData} {N ps : List Str} {k : Nat} {A : Around} {outer : List Env} {s : Shared} {H : Hp} {args : Args} {us : List Value} {vs : List V} {Q : VK} {E : XK}
    (F : Fun K x qual st f fd) (S : FnScope N ps (defScope st)) (hl : vs.length = ps.length) (hr : Room (k + 1) A) (e0 : Env0 P w K mg base A outer s H) (hb : BindsTo s fd args (ps.zip us)) (r : Vals vs us)
    (body : ∀ cdv : Value, ∃ t, PSs (cxOf CX0 P w K mg base N qual (defScope st) f cdv A outer s H E).nox (defBody st) t ∧ t { nx := fun _ H' => Q .non H', rt := Q } (start N vs) H) :
    codeAny (model P w) A (.call (.ref f) args) (CR CX0 outer P w H s Q E) s := by
  obtain ⟨oc, od, kV, doc, pm, an, cdv, ct, osl, hfd, lk, hcd⟩ := F.ex
  subst hfd
  have keepB : ∀ b o, base.get? b = some o → s.heap.get? b = some o := fun b o e => (e0.bs b o e).1
  have inK := e0.mod.kin.keeps keepB
  refine codeAny_call_function hr.depth (inK _ _ lk) rfl S.co S.gen rfl
    (PySem.W.codeRec_of inK hcd) (hb _ _ _ _ ?_)
  refine wpAny_newFunctionEnv_cells S.kind (fun y hy => ?_) fun env he s1 ent => ?_
  · rcases S.par y.1 (List.of_mem_zip (show (y.1, y.2) ∈ ps.zip us from hy)).1 with q | q
    · exact .inl q
    · exact .inr ⟨q, PySem.W.cellsFrom_some _ _ _ (.inl q)⟩
  · subst he
    have noLim := e0.mod.nolimit.keeps keepB
    refine ⟨noLim.keeps ent.toInCall.keep, codeAny_func ?_⟩
    obtain ⟨t, ht0, hq⟩ := body cdv
    have ht := ht0.nox
    have I0 := inv_start (CX := CX0) (E := E) S hr.hd e0 hl r ent
    refine wpAny_mono (ht.run [] s1 (start N vs) H _ I0 hq) (fun fl s' hs => ?_)
      (fun _ _ h => h)
    cases fl with
    | ret u =>
      obtain ⟨v, σ', H', J, rv, qq⟩ := hs
      exact ⟨v, H', J.os, J.bare, J.base, J.hok, rv, qq⟩
    | next =>
      obtain ⟨σ', H', J, qq⟩ := hs
      exact ⟨V.non, H', J.os, J.bare, J.base, J.hok, rfl, qq⟩
    | brk => exact (let ⟨_, _, _, qq⟩ := hs; qq.elim)
    | cont => exact (let ⟨_, _, _, qq⟩ := hs; qq.elim)
end
end Tk
namespace Tk
open PySem PySem.Spec PyProof.Rows L2
/-- only known, locked things are tracked -/
def OnlyF (H : Hp) : Prop := ∀ b, H b = none ∨ ∃ o u, H b = some (.frz o u)
section
variable {P : Program} {w : World} {K : PySem.W.Frag} {mg mb : Str → Option Value}
theorem law_core {s₁ : Shared} {fa : Addr} {args : Args} {H : Hp} (KX : K.In s₁.heap) (hns : s₁.heap.Ns mainGlobals mg) (hb : s₁.heap.Ns builtinsNs mb) (hbb : ∀ x : Str, x ≠ "__name__" → mb x = bootBuiltins x)
    (hlim : s₁.heap.NoLimit) (hg : s₁.gens = #[]) (hO : OnlyF H) (hok : HOk P w H s₁.heap) (hK : ∀ b, H b ≠ none → K.lookup b = none)
    (hD : ∀ b ob es ep, s₁.heap.get? b = some ob → ob.data = .dict es ep → H b = none)
    (run : ∀ base : Heap, K.In base → base.Ns mainGlobals mg → Env0 P w K mg base callerA [] s₁ H →
      codeAny (model P w) callerA (.call (.ref fa) args) (CR CX0 [] P w H s₁ (fun v _ => v = .bl true) E0) s₁) :
    codeAny (model P w) callerA (.call (.ref fa) args) (fun r s' => r = .ok (.ret (.bool true)) ∧ OldK s₁.heap s'.heap ∧ s'.os = s₁.os ∧ AllBare s'.gens) s₁ := by
  have toBase : ∀ {b : Addr} {o : Obj}, s₁.heap.get? b = some o → H b = none → (hidT s₁.heap H).get? b = some o := fun e n => hidT_get e n
  have nsB : ∀ {b : Addr} {m : Str → Option Value}, s₁.heap.Ns b m → (hidT s₁.heap H).Ns b m := fun {b m} hh => by
    obtain ⟨o, es, ep, e, dd, rr⟩ := hh
    exact ⟨o, es, ep, toBase e (hD _ _ _ _ e dd), dd, rr⟩
  have KB : K.In (hidT s₁.heap H) := fun b o e => toBase (KX b o e) (by
    cases q : H b with
    | none => rfl
    | some u =>
      have z := hK b (by rw [q]; exact nofun)
      rw [z] at e
      cases e)
  have md : Mod K mg (hidT s₁.heap H) := by
    obtain ⟨mc, l1, l2⟩ := hlim
    exact ⟨KB, nsB hns, ⟨mb, nsB hb, hbb⟩, ⟨mc, nsB l1, l2⟩⟩
  have en : Env0 P w K mg (hidT s₁.heap H) callerA [] s₁ H :=
    ⟨rfl, md, fun b o e => of_hidT e, Nat.le_of_eq (hidT_size _ _), trivial, fun b hb' => absurd hb' List.not_mem_nil, hok, .of_eq hg⟩
  refine codeAny_mono (run _ KB (nsB hns) en) fun r s' h => ?_
  cases r with
  | error e => exact (show False from h).elim
  | ok fl =>
    cases fl with
    | ret u =>
      obtain ⟨v, H', os, bare, un, hok', r', q⟩ := h
      obtain rfl : v = .bl true := q
      obtain rfl : u = Value.bool true := r'
      refine ⟨rfl, OldK.of_keep fun b o e => ?_, os, bare⟩
      rcases hO b with z | ⟨ob, uu, z⟩
      · exact un.keep b o e z (fun y => absurd y List.not_mem_nil) List.not_mem_nil
      · have z2 := un.frzs b ob _ z
        have e1 := (hok b _ z).1
        have e2 := (hok' b _ z2).1
        rw [e] at e1
        cases e1
        exact e2
    | next => exact (show False from h).elim
    | brk => exact (show False from h).elim
    | cont => exact (show False from h).elim

/-- what a tuple of the module's own is, before the law -/
structure TupAt (h : Heap) (a : Addr) (xs : List V) : Prop where
  ex : ∃ (o : Obj) (its : List Value) (n : Nat), h.get? a = some o ∧ o.cls = .type "tuple" ∧ o.data = .seq its.toArray n ∧ Vals xs its ∧ xs.length ≤ sizeLine
/-- the end: from the law's run at any tracked heap in which the script and the tuple t are to be read -/
theorem walk_law {l : PySem.W.OpenLaw} {n : Nat} {q : Program} {loose : List Str} {XP : (Str → Option Value) → Heap → Prop} {YP : World → Heap → Prop} {d : DefRec} {K : Params → PySem.W.Frag} {x : Str} {zs : List V}
    (hn : l.most = some n) (hn2 : n ≤ sizeLine) (hdf : d.params.defaults = []) (hY : ∀ (w : World) (h : Heap), YP w h → (K w.params).In h)
    (F : ∀ (w : World) (mg : Str → Option Value) (fa : Addr) (h : Heap), (K w.params).In h → h.Ns mainGlobals mg → XP mg h → mg d.name = some (.ref fa) →
      ∃ (fd : FuncData) (t : Addr), TupAt h t zs ∧ (∀ (s : Shared) (u : Value), BindsTo s fd ⟨[u], []⟩ [(x, u)]) ∧
        ∀ (base : Heap) (s₁ : Shared) (H : Hp) (a : Addr) (u : Value) (ns : List Int), Env0 l.prog w (K w.params) mg base callerA [] s₁ H → BindsTo s₁ fd ⟨[u], []⟩ [(x, u)] → u = .ref a →
          SqL (K w.params) H a (ns.map V.int) → ns.length ≤ n → SqT (K w.params) H t zs → (∀ b, H b ≠ none → b = a ∨ b = t) →
          codeAny (model l.prog w) callerA (.call (.ref fa) ⟨[u], []⟩) (CR CX0 [] l.prog w H s₁ (fun v _ => v = .bl true) E0) s₁) :
    PySem.W.WalkO q loose XP YP l.row.toRowW d [] (fun f vs => PySem.call f vs) := by
  refine Att.attach_call hn hdf fun w s₀ s₁ mg mb fa o pm cd doc a vs ns G Y ho hd hcd hmg hobj hints hlen hg => ?_
  have KX := hY w _ Y
  obtain ⟨fd, t, ht, hbind, run⟩ := F w mg fa _ KX G.T.g G.X hmg
  obtain ⟨ot, its, nt, e1, e2, e3, e4, e5⟩ := ht.ex
  have rv := vals_ints hints
  have hz : (ns.map V.int).length ≤ sizeLine := by rw [List.length_map]; exact Nat.le_trans hlen hn2
  have nat : t ≠ a := fun z => by
    rw [z, hobj] at e1
    cases e1
    exact absurd (show Value.type "list" = Value.type "tuple" from e2) (by decide)
  let Ha : Option HO := match (K w.params).lookup a with
    | none => some (.frz { cls := .type "list", data := .seq vs.toArray } (.lst (ns.map V.int)))
    | some _ => none
  let Ht : Option HO := match (K w.params).lookup t with
    | none => some (.frz ot (.tup zs))
    | some _ => none
  let H : Hp := fun b => if b = a then Ha else if b = t then Ht else none
  have hHa : H a = Ha := if_pos rfl
  have hHt : H t = Ht := by
    show (if t = a then Ha else if t = t then Ht else none) = Ht
    rw [if_neg nat, if_pos rfl]
  have hHo : ∀ b, b ≠ a → b ≠ t → H b = none := fun b n1 n2 => by
    show (if b = a then Ha else if b = t then Ht else none) = none
    rw [if_neg n1, if_neg n2]
  have cases3 : ∀ b, H b ≠ none → b = a ∨ b = t := fun b z => by
    by_cases n1 : b = a
    · exact .inl n1
    · by_cases n2 : b = t
      · exact .inr n2
      · exact absurd (hHo b n1 n2) z
  have Sa : SqL (K w.params) H a (ns.map V.int) := by
    cases k : (K w.params).lookup a with
    | none => exact .inl (.inr ⟨_, by rw [hHa]; show (match (K w.params).lookup a with | none => _ | some _ => _) = _; rw [k]⟩)
    | some oa =>
      have e := KX a oa k
      rw [hobj] at e
      cases e
      exact .inr ⟨_, vs.toArray, _, k, rfl, rfl, rfl, by rw [List.size_toArray, hints.length]; exact Nat.le_trans hlen hn2, by simpa using rv⟩
  have St : SqT (K w.params) H t zs := by
    cases k : (K w.params).lookup t with
    | none => exact .inl (.inr ⟨_, by rw [hHt]; show (match (K w.params).lookup t with | none => _ | some _ => _) = _; rw [k]⟩)
    | some oa =>
      have e := KX t oa k
      rw [e1] at e
      cases e
      exact .inr ⟨_, its.toArray, _, k, e2, e3, by rw [List.size_toArray, ← e4.length]; exact e5, by simpa using e4⟩
  refine law_core (H := H) KX G.T.g G.T.b G.T.builtins G.T.nolimit hg (fun b => ?_) (fun b u z => ?_) (fun b z => ?_) (fun b ob es ep e dd => ?_)
    (fun base _ _ en => run base s₁ H a _ ns en (hbind s₁ _) rfl Sa hlen St cases3)
  · by_cases n1 : b = a
    · subst n1
      cases k : (K w.params).lookup b with
      | none => exact .inr ⟨_, _, by rw [hHa]; show (match (K w.params).lookup b with | none => _ | some _ => _) = _; rw [k]⟩
      | some oa => exact .inl (by rw [hHa]; show (match (K w.params).lookup b with | none => _ | some _ => _) = _; rw [k])
    · by_cases n2 : b = t
      · subst n2
        cases k : (K w.params).lookup b with
        | none => exact .inr ⟨_, _, by rw [hHt]; show (match (K w.params).lookup b with | none => _ | some _ => _) = _; rw [k]⟩
        | some oa => exact .inl (by rw [hHt]; show (match (K w.params).lookup b with | none => _ | some _ => _) = _; rw [k])
      · exact .inl (hHo b n1 n2)
  · rcases cases3 b (by rw [z]; exact nofun) with n1 | n2
    · subst n1
      cases k : (K w.params).lookup b with
      | none =>
        have y : H b = some (.frz { cls := .type "list", data := .seq vs.toArray } (.lst (ns.map V.int))) := by rw [hHa]; show (match (K w.params).lookup b with | none => _ | some _ => _) = _; rw [k]
        rw [z] at y
        cases y
        exact ⟨hobj, hz, vs, _, rv, hobj⟩
      | some oa =>
        have y : H b = none := by rw [hHa]; show (match (K w.params).lookup b with | none => _ | some _ => _) = _; rw [k]
        rw [z] at y
        cases y
    · subst n2
      cases k : (K w.params).lookup b with
      | none =>
        have y : H b = some (.frz ot (.tup zs)) := by rw [hHt]; show (match (K w.params).lookup b with | none => _ | some _ => _) = _; rw [k]
        rw [z] at y
        cases y
        exact ⟨e1, e5, its, e4, ot, e1, e2, _, e3⟩
      | some oa =>
        have y : H b = none := by rw [hHt]; show (match (K w.params).lookup b with | none => _ | some _ => _) = _; rw [k]
        rw [z] at y
        cases y
  · rcases cases3 b z with n1 | n2
    · subst n1
      cases k : (K w.params).lookup b with
      | none => rfl
      | some oa => exact absurd (by rw [hHa]; show (match (K w.params).lookup b with | none => _ | some _ => _) = _; rw [k]) z
    · subst n2
      cases k : (K w.params).lookup b with
      | none => rfl
      | some oa => exact absurd (by rw [hHt]; show (match (K w.params).lookup b with | none => _ | some _ => _) = _; rw [k]) z
  · by_cases n1 : b = a
    · subst n1
      rw [hobj] at e
      cases e
      cases dd
    · by_cases n2 : b = t
      · subst n2
        rw [e1] at e
        cases e
        rw [e3] at dd
        cases dd
      · exact hHo b n1 n2
end
end Tk

namespace Tk
open PySem PySem.Spec PyProof.Rows L2
/-- f(k = v, ..): keywords alone -/
def tCallKw (n : Nat) (sp : Sp) (gV : List V → List V → List V) (tk : TA) : TE := fun σ H Q => tk σ H fun zs H2 => zs.length = n ∧ sp (gV [] zs) H2 Q E0
section
variable {X : Cx} {k j : Nat} {x : Str} {ps ks : List Str} {sp : Sp} {tk : TA} {p pos : Pos} {kws : List Keyword} {g : List Value → List Value → List Value} {gV : List V → List V → List V}
theorem pcK (D : Cal X.prog X.w X.K X.mg X.base k x ps sp) (hb : KBn X.K D.fd ps 0 ks g gV) (hr : Room j X.A) (hkw : PK X kws tk) (hj : k ≤ j := by decide) (hg : Gl X x := by rfl)
    (hall : (backToKw pos (keywordEach kws X.env)).all (·.1.isSome) = true := by rfl) (hks : (backToKw pos (keywordEach kws X.env)).filterMap (·.1) = ks := by rfl) (hdb : (x == ("__debug__" : Str)) = false := by decide)
    (hpl : ((backTo pos (starEach [] X.env)).any (·.1) || (backToKw pos (keywordEach kws X.env)).any (·.1.isNone)) = false := by rfl) : PE X (.Call (.Name x p) [] kws pos) (tCallKw ks.length sp gV tk) := by
  constructor
  intro pins s σ H Q I h
  refine wpAny_Call_Name_kw (ld_glob I hg D.g ?_ hdb)
  refine PySem.W.callWith_KW0 (h₀ := X.base) I.ok.mod.kin D.kp hall (thn (hkw.run pos pins s σ H _ I h) fun ws s2 hz => ?_) hpl
  obtain ⟨zs, H2, I2, rz, l2, q2⟩ := hz
  refine ⟨I2.kIn, ?_⟩
  rw [hks]
  exact run_fnN (us := []) (vs := []) D.ok (hr.mono hj) hb pass0 I2 .nil rz rfl l2 q2
end
/-- three parameters by keywords, in the turned order -/
def turn3 {α : Type} (_ ws : List α) : List α := match ws with
  | [a, b, c] => [c, b, a]
  | r => r
theorem turn3_rel {vs : List V} {us : List Value} {zs : List V} {ws : List Value} (_ : Vals vs us) (r : Vals zs ws) : Vals (turn3 vs zs) (turn3 us ws) := by
  cases r with
  | nil => exact .nil
  | cons r1 t1 =>
    cases t1 with
    | nil => exact .cons r1 .nil
    | cons r2 t2 =>
      cases t2 with
      | nil => exact .cons r1 (.cons r2 .nil)
      | cons r3 t3 =>
        cases t3 with
        | nil => exact .cons r3 (.cons r2 (.cons r1 .nil))
        | cons r4 t4 => exact .cons r1 (.cons r2 (.cons r3 (.cons r4 t4)))
end Tk

namespace Tk
open PySem PySem.Spec PyProof.Rows L2
/-- data that repr shows, in at most n signs, at most k deep -/
structure Sh (d : PyData) (n k : Nat) : Prop where
  sh : d.showable = true
  nd : d.hasDict = false
  dp : d.depth ≤ k
  ln : d.shown.length ≤ n
structure ShAll (ds : List PyData) (n k : Nat) : Prop where
  sh : PyData.showableAll ds = true
  nd : PyData.hasDictAll ds = false
  dp : PyData.depthAll ds ≤ k
  ln : ((PyData.shownAll ds).map (·.length)).sum + 2 * ds.length ≤ n
theorem shownAll_len : ∀ ds : List PyData, (PyData.shownAll ds).length = ds.length
  | [] => by simp [PyData.shownAll]
  | d :: ds => by simp [PyData.shownAll, shownAll_len ds]
theorem Sh.none : Sh .none 4 0 := ⟨by simp [PyData.showable], by simp [PyData.hasDict], by simp [PyData.depth], by simp only [PyData.shown]; decide⟩
theorem Sh.int {i : Int} (h0 : 0 ≤ i) (h1 : i < 100000000000) : Sh (.int i) 12 0 := by
  have a : i.natAbs < 10 ^ 11 := by omega
  have b : i.natAbs.log2 < 1920 := by
    by_cases z : i.natAbs = 0
    · rw [z]; decide
    · have c : i.natAbs < 2 ^ 37 := by omega
      exact (Nat.log2_lt z).mpr (Nat.lt_of_lt_of_le c (Nat.pow_le_pow_right (by decide) (by decide)))
  refine ⟨by simp [PyData.showable, b], by simp [PyData.hasDict], by simp [PyData.depth], ?_⟩
  simp only [PyData.shown]
  show (Str.ofString (toString i)).length ≤ 12
  have q := int_text_length_le10 (a := i) (k := 11) (by decide) a
  rw [PySem.ofString_length]
  exact q
theorem ShAll.nil {k : Nat} : ShAll [] 0 k := ⟨by simp [PyData.showableAll], by simp [PyData.hasDictAll], by simp [PyData.depthAll], by simp [PyData.shownAll]⟩
theorem ShAll.cons {d : PyData} {ds : List PyData} {n m k : Nat} (h : Sh d n k) (t : ShAll ds m k) : ShAll (d :: ds) (n + 2 + m) k := by
  obtain ⟨a1, a2, a3, a4⟩ := h
  obtain ⟨b1, b2, b3, b4⟩ := t
  refine ⟨by simp [PyData.showableAll, a1, b1], by simp [PyData.hasDictAll, a2, b2], ?_, ?_⟩
  · simp only [PyData.depthAll]; exact Nat.max_le.mpr ⟨a3, b3⟩
  · simp only [PyData.shownAll, List.map_cons, List.sum_cons, List.length_cons]; omega
theorem Sh.tup {ds : List PyData} {n k : Nat} (h : ShAll ds n k) : Sh (.tuple ds) (n + 3) (k + 1) := by
  obtain ⟨b1, b2, b3, b4⟩ := h
  refine ⟨by simpa [PyData.showable] using b1, by simpa [PyData.hasDict] using b2, by simp only [PyData.depth]; omega, ?_⟩
  simp only [PyData.shown]
  have z := tupleText_len_le (PyData.shownAll ds)
  rw [shownAll_len] at z
  omega
theorem Sh.lst {ds : List PyData} {n k : Nat} (h : ShAll ds n k) : Sh (.list ds) (n + 3) (k + 1) := by
  obtain ⟨b1, b2, b3, b4⟩ := h
  refine ⟨by simpa [PyData.showable] using b1, by simpa [PyData.hasDict] using b2, by simp only [PyData.depth]; omega, ?_⟩
  simp only [PyData.shown]
  have z := listText_len_le (PyData.shownAll ds)
  rw [shownAll_len] at z
  omega
theorem ShAll.all {n k : Nat} : ∀ {ds : List PyData}, (∀ d ∈ ds, Sh d n k) → ShAll ds ((n + 2) * ds.length) k
  | [], _ => ShAll.nil
  | d :: ds, h => by
    have q := ShAll.cons (h d List.mem_cons_self) (ShAll.all fun e he => h e (List.mem_cons_of_mem _ he))
    have e : n + 2 + (n + 2) * ds.length = (n + 2) * (d :: ds).length := by rw [List.length_cons, Nat.mul_add]; omega
    rw [e] at q; exact q
theorem Sh.up {d : PyData} {n k m j : Nat} (h : Sh d n k) (h1 : n ≤ m) (h2 : k ≤ j) : Sh d m j := ⟨h.sh, h.nd, Nat.le_trans h.dp h2, Nat.le_trans h.ln h1⟩
/-- repr of such -/
def rShow (K : PySem.W.Frag) : List V → Hp → VK → Prop := fun xs H Q => ∃ (x : V) (d : PyData), xs = [x] ∧ Dp K H x d ∧ Sh d 16000000 50 ∧ Q (.str d.shown) H
section
variable {X : Cx}
theorem call_show (hg : X.A.guards = some []) (hu : X.A.units + 64 < cLine) : CallR X (.builtin "repr") (rShow X.K) := by
  intro pins s σ H xs us Q I r h
  obtain ⟨x, d, e, hd, hs, q⟩ := h
  exact call_repr hg hu pins s σ H xs us Q I r ⟨x, d, e, hd, hs.sh, hs.nd, Nat.le_trans hs.dp (by decide), Nat.le_trans hs.ln (by decide), q⟩
/-- max of a tuple of things that are all one datum: one of them -/
def rMaxOne (K : PySem.W.Frag) : List V → Hp → VK → Prop := fun vs H Q => ∃ (a : Addr) (xs : List V) (d : PyData), vs = [.ref a] ∧ SqT K H a xs ∧ xs ≠ [] ∧ (∀ x ∈ xs, Dp K H x d) ∧ PySem.W.alike d d = true ∧ d ≠ .none ∧ d.depth ≤ 50 ∧ ∀ x ∈ xs, Q x H
theorem dpAll_rep {K : PySem.W.Frag} {H : Hp} {d : PyData} : ∀ {xs : List V}, (∀ x ∈ xs, Dp K H x d) → DpAll K H xs (List.replicate xs.length d)
  | [], _ => .nil
  | x :: xs, h => .cons (h x List.mem_cons_self) (dpAll_rep fun y hy => h y (List.mem_cons_of_mem _ hy))
theorem depth_rep (d : PyData) : ∀ n, PyData.depthAll (List.replicate n d) ≤ d.depth
  | 0 => by simp [PyData.depthAll]
  | n + 1 => by
    rw [List.replicate_succ]
    simp only [PyData.depthAll]
    exact Nat.max_le.mpr ⟨Nat.le_refl _, depth_rep d n⟩
theorem call_maxOne (hc : X.calm = true) (hu : X.A.units + 64 < cLine) : CallR X (.builtin "max") (rMaxOne X.K) := by
  intro pins s σ H vs us Q I r h
  obtain ⟨a, xs, d, rfl, ha, hne, hd, al, nn, dp, q⟩ := h
  obtain ⟨u, rfl, ru⟩ := vals1 r
  obtain rfl : u = Value.ref a := ru
  obtain ⟨its, rv, ⟨o, ho, hcl, n, hdt⟩, _⟩ := I.tuple ha
  obtain ⟨as, hr⟩ := Dp.readsAll I _ _ its (dpAll_rep hd) rv
  cases hx : xs.length with
  | zero => exact absurd (List.eq_nil_of_length_eq_zero hx) hne
  | succ m =>
    rw [hx, List.replicate_succ] at hr
    have all : ∀ x ∈ d :: List.replicate m d, x = d := fun x hm => by
      rw [← List.replicate_succ] at hm
      exact List.eq_of_mem_replicate hm
    have dpa : PyData.depthAll (d :: List.replicate m d) ≤ d.depth := by
      rw [← List.replicate_succ]; exact depth_rep d _
    refine PySem.W.max_tuple_data (vs := its.toArray) (I.ok.hd hc) ⟨o, ho, hcl, n, hdt⟩ (by simpa using hr) ⟨fun x hx y hy => by rw [all x hx, all y hy]; exact al, fun x hx => by rw [all x hx]; exact nn⟩ (by omega) fun i v h' tk bs hi _ hk => ?_
    have hi2 : its[i]? = some v := by simpa using hi
    have hil : i < its.length := (List.getElem?_eq_some_iff.mp hi2).1
    have hxl : i < xs.length := by rw [rv.length]; exact hil
    obtain ⟨w, hw, rw'⟩ := rv.get (i := i) (x := xs[i]) (List.getElem?_eq_getElem hxl)
    rw [hi2] at hw
    cases hw
    exact ⟨xs[i], H, I.kept hk, rw', q _ (List.getElem_mem hxl)⟩
end
end Tk

namespace Tk
open PySem PySem.Spec PyProof.Rows L2
section
variable (l : Addr) (items : Array Value) (n : Nat) (dd : Option Addr) (sl : Array (Option Value)) (u : Tok)
/-- t * 1 is t -/
theorem mul_once : Meets (Builtin.«tuple.__mul__» ⟨[.ref l, .int 1 u], []⟩) (fun _ R s => s.heap.get? l = some { cls := .type "tuple", dict := dd, data := .seq items n, slots := sl } ∧ R (.ok (.ret (Value.ref l))) s) :=
  .of_wp fun prog w A R s h => by
    obtain ⟨hp, g, d, tk, os⟩ := s
    obtain ⟨hl, h⟩ := h
    have f1 := AutoSeq1.idx_int
    have c1 : (items.isEmpty || (1 : Int) == 1) = true := by simp
    wp_walk using wpAny_loadPart' hl
    repeat (first
      | (refine wpAny_ite_true (by rw [c1]) ?_; wp_walk using wpAny_loadPart' hl)
      | (refine wpAny_ite_false (by decide) ?_; wp_walk using wpAny_loadPart' hl))
    all_goals exact ⟨_, rfl, h⟩
/-- t * 0, t * -3: a new empty one -/
theorem mul_none (x : Int) (hx : x ≤ 0) (hb : -(2 ^ 63) ≤ x) (hi : items.isEmpty = false) : Meets (Builtin.«tuple.__mul__» ⟨[.ref l, .int x u], []⟩) (fun _ R s => s.heap.get? l = some { cls := .type "tuple", dict := dd, data := .seq items n, slots := sl } ∧
      R (.ok (.ret (Value.ref s.heap.objs.size))) { s with heap := s.heap.push { cls := Value.type "tuple", data := Data.seq #[] }, toks := s.toks }) :=
  .of_wp fun prog w A R s h => by
    obtain ⟨hp, g, d, tk, os⟩ := s
    obtain ⟨hl, h⟩ := h
    have f1 := AutoSeq1.idx_int
    have c0 : (decide (x < -(2 ^ 63)) || decide (x ≥ 2 ^ 63)) = false := by rw [decide_eq_false (by omega), decide_eq_false (by omega)]; rfl
    have c1 : (items.isEmpty || x == 1) = false := by rw [hi, Bool.false_or]; exact beq_eq_false_iff_ne.mpr (by omega)
    have c2 : (decide (x ≤ 0) || items.isEmpty) = true := by rw [decide_eq_true hx]; rfl
    wp_walk using wpAny_loadPart' hl
    repeat (first
      | (refine wpAny_ite_true (by rw [c2]) ?_; wp_walk using wpAny_loadPart' hl)
      | (refine wpAny_ite_false (decide_eq_false (by rw [c0]; exact Bool.false_ne_true)) ?_; wp_walk using wpAny_loadPart' hl)
      | (refine wpAny_ite_false (by rw [c0]; exact Bool.false_ne_true) ?_; wp_walk using wpAny_loadPart' hl)
      | (refine wpAny_ite_false (by rw [c1]; exact Bool.false_ne_true) ?_; wp_walk using wpAny_loadPart' hl)
      | (refine wpAny_ite_false (decide_eq_false (by rw [c1]; exact Bool.false_ne_true)) ?_; wp_walk using wpAny_loadPart' hl))
    all_goals exact ⟨_, rfl, h⟩
end
/-- t * k, whatever k is -/
def rRepA (K : PySem.W.Frag) : R2 := fun x y H Q => ∃ (l : Addr) (k : Int) (xs : List V), x = .ref l ∧ y = .int k ∧ SqT K H l xs ∧ xs ≠ [] ∧ -1000 ≤ k ∧ k ≤ 1000 ∧ xs.length ≤ 1000 ∧
  ∀ p H', ((k = 1 ∧ p = l ∧ H' = H) ∨ (k ≠ 1 ∧ H p = none ∧ H' = upd H p (.tup (List.replicate k.toNat xs).flatten))) → Q (.ref p) H'
section
variable {X : Cx}
theorem op_repA : OpR X (binaryOp .Mult) (rRepA X.K) := by
  intro pins s σ H x y v u Q I rx ry h
  obtain ⟨l, k, xs, rfl, rfl, hT, hne, h1, h2, hz, q⟩ := h
  by_cases hk2 : 2 ≤ k
  · exact op_repT pins s σ H _ _ v u Q I rx ry ⟨l, k, xs, rfl, rfl, hT, hne, hk2, h2, hz, fun p hp => q p _ (.inr ⟨by omega, hp, rfl⟩)⟩
  · cases rx
    obtain ⟨t, rfl⟩ := ry
    obtain ⟨its, r, ⟨⟨cls, dd, data, sl⟩, ho, hc, n, hd⟩, hs⟩ := I.tuple hT
    simp only at hc hd
    subst hc hd
    have hi : its.toArray.isEmpty = false := by
      cases its with
      | nil => cases r; exact absurd rfl hne
      | cons a b => rfl
    by_cases hk1 : k = 1
    · subst hk1
      refine wpAny_binaryOp_repeat_ref (T := "tuple") (U := "int") (by decide) ⟨_, ho, rfl⟩ (fun s' => typeIs_int s' 1 t) noFill_tuple_mul F.fills_int_mul F.slot_int_rmul repeat_tuple F.slot_int_index.lookup
        (call_meets F.slot_int_rmul (typeIs_int s 1 t) F.entry_int_rmul (F.args_int_rmul_2 _ _) (int_rmul_tuple 1 t l its.toArray n dd sl)
          ⟨ho, rfl, ⟨_, ho, rfl⟩, call_meets F.slot_tuple_mul ⟨_, ho, rfl⟩ F.entry_tuple_mul (F.args_tuple_mul_2 _ _) (mul_once l its.toArray n dd sl t) ⟨ho, ?_⟩⟩)
      exact ⟨.ref l, H, I, rfl, q l H (.inl ⟨rfl, rfl, rfl⟩)⟩
    · have hk0 : k ≤ 0 := by omega
      refine wpAny_binaryOp_repeat_ref (T := "tuple") (U := "int") (by decide) ⟨_, ho, rfl⟩ (fun s' => typeIs_int s' k t) noFill_tuple_mul F.fills_int_mul F.slot_int_rmul repeat_tuple F.slot_int_index.lookup
        (call_meets F.slot_int_rmul (typeIs_int s k t) F.entry_int_rmul (F.args_int_rmul_2 _ _) (int_rmul_tuple k t l its.toArray n dd sl)
          ⟨ho, rfl, ⟨_, ho, rfl⟩, call_meets F.slot_tuple_mul ⟨_, ho, rfl⟩ F.entry_tuple_mul (F.args_tuple_mul_2 _ _) (mul_none l its.toArray n dd sl t k hk0 (by omega) hi) ⟨ho, ?_⟩⟩)
      have ef : (List.replicate k.toNat xs).flatten = [] := by rw [Int.toNat_of_nonpos hk0]; rfl
      refine ⟨.ref s.heap.objs.size, _, I.laid (t' := s.toks) (o := .tup []) (fun b ob z => Heap.get?_push_of_some _ z) (Nat.le_refl _) ?_, rfl, q _ _ (.inr ⟨hk1, I.hok.fresh (Nat.le_refl _), by rw [ef]⟩)⟩
      exact ⟨Nat.zero_le _, [], .nil, IsTup.new _ _⟩
end
end Tk

/-! Operators over the plain heap. -/
namespace Sm
open PySem PySem.Spec PyProof.Rows L2 Tk
variable [ZC]
/-! ### data -/
mutual
def toD (mh : MH) : Nat → U → Option PyData
  | 0, _ => none
  | _ + 1, .non => some .none
  | _ + 1, .bl b => some (.bool b)
  | _ + 1, .int i => some (.int i)
  | _ + 1, .str x => some (.str x)
  | n + 1, .tup us => (toDs mh n us).map .tuple
  | n + 1, .fz us => (toDs mh n us).map .list
  | n + 1, .ref k => match mh[k]? with
    | some (.lst us) => (toDs mh n us).map .list
    | _ => none
  | _ + 1, .ob _ => none
def toDs (mh : MH) : Nat → List U → Option (List PyData)
  | 0, _ => none
  | _ + 1, [] => some []
  | n + 1, u :: us => match toD mh n u, toDs mh n us with
    | some d, some ds => some (d :: ds)
    | _, _ => none
end
section
variable {K : PySem.W.Frag} {as : List Addr} {H : Hp} {mh : MH}
mutual
theorem dp_of (R : RH K as H mh) : ∀ (n : Nat) {u : U} {v : V} {d : PyData}, RV K as H u v → toD mh n u = some d → Dp K H v d
  | 0, _, _, _, _, h => by simp [toD] at h
  | n + 1, u, v, d, r, h => by
    cases u with
    | non => cases r; simp [toD] at h; subst h; exact .non
    | bl b => cases r; simp [toD] at h; subst h; exact .bl b
    | int i => cases r; simp [toD] at h; subst h; exact .int i
    | str x => cases r; simp [toD] at h; subst h; exact .str x
    | tup us =>
      obtain ⟨a, vs, rfl, h1, h2⟩ := r.of_tup
      simp only [toD, Option.map_eq_some_iff] at h
      obtain ⟨ds, e, rfl⟩ := h
      exact .tup h1 (dps_of R n h2 e)
    | fz us =>
      obtain ⟨a, vs, rfl, h1, h2⟩ := r.of_fz
      simp only [toD, Option.map_eq_some_iff] at h
      obtain ⟨ds, e, rfl⟩ := h
      exact .lst h1.l (dps_of R n h2 e)
    | ref k =>
      obtain ⟨a, rfl, e0⟩ := r.of_ref
      simp only [toD] at h
      split at h
      · rename_i us q
        obtain ⟨vs, h1, h2⟩ := R.lst q e0
        simp only [Option.map_eq_some_iff] at h
        obtain ⟨ds, e, rfl⟩ := h
        exact .lst (SqL.of h1) (dps_of R n h2 e)
      · cases h
    | ob a => simp [toD] at h
theorem dps_of (R : RH K as H mh) : ∀ (n : Nat) {us : List U} {vs : List V} {ds : List PyData}, RVs K as H us vs → toDs mh n us = some ds → DpAll K H vs ds
  | 0, _, _, _, _, h => by simp [toDs] at h
  | n + 1, [], _, _, r, h => by
    cases r
    simp [toDs] at h
    subst h
    exact .nil
  | n + 1, u :: us, _, ds, r, h => by
    cases r with
    | cons r1 r2 =>
      simp only [toDs] at h
      split at h
      · rename_i d ds' e1 e2
        cases h
        exact .cons (dp_of R n r1 e1) (dps_of R n r2 e2)
      · cases h
end
end
/-! ### binary operators -/
def uAdd : M2 := fun x y mh P => match x, y with
  | .int i, .int j => P (.int (i + j)) mh
  | .tup xs, .tup ys => xs.length + ys.length ≤ sizeLine ∧ P (.tup (xs ++ ys)) mh
  | .str a, .str b => a.length + b.length ≤ sizeLine ∧ P (.str (a ++ b)) mh
  | .ref a, .ref b => match mh[a]?, mh[b]? with
    | some (.lst xs), some (.lst ys) => xs.length + ys.length ≤ sizeLine ∧ P (.ref mh.length) (mh ++ [.lst (xs ++ ys)])
    | _, _ => False
  | _, _ => False
def uSub : M2 := fun x y mh P => match x, y with
  | .int i, .int j => P (.int (i - j)) mh
  | _, _ => False
def uMul : M2 := fun x y mh P => match x, y with
  | .int i, .int j => CMul i j ∧ P (.int (i * j)) mh
  | .tup xs, .int k => xs ≠ [] ∧ -1000 ≤ k ∧ k ≤ 1000 ∧ xs.length ≤ 1000 ∧ P (.tup (List.replicate k.toNat xs).flatten) mh
  | .ref a, .int k => match mh[a]? with
    | some (.lst xs) => -(2 ^ 63) ≤ k ∧ k < 2 ^ 63 ∧ xs.length * k.toNat ≤ sizeLine ∧ P (.ref mh.length) (mh ++ [.lst (List.replicate k.toNat xs).flatten])
    | _ => False
  | _, _ => False
def uDiv : M2 := fun x y mh P => match x, y with
  | .int i, .int j => CDivN i j ∧ P (.int (i.fdiv j)) mh
  | _, _ => False
def uMod : M2 := fun x y mh P => match x, y with
  | .int i, .int j => j ≠ 0 ∧ P (.int (i.fmod j)) mh
  | _, _ => False
def uPow : M2 := fun x y mh P => match x, y with
  | .int i, .int j => CPow i j ∧ P (.int (i ^ j.toNat)) mh
  | _, _ => False
def uNeg : M1 := fun x mh P => match x with
  | .int i => P (.int (-i)) mh
  | _ => False
section
variable {X : Cx}
theorem RV.nn {K : PySem.W.Frag} {as : List Addr} {H : Hp} {i : Int} {v : V} (r : RV K as H (.int i) v) : v = .int i := by cases r; rfl
theorem RV.ss {K : PySem.W.Frag} {as : List Addr} {H : Hp} {i : Str} {v : V} (r : RV K as H (.str i) v) : v = .str i := by cases r; rfl
theorem RV.bb {K : PySem.W.Frag} {as : List Addr} {H : Hp} {i : Bool} {v : V} (r : RV K as H (.bl i) v) : v = .bl i := by cases r; rfl
theorem o_add : OpR X (binaryOp .Add) (r2 X.K uAdd) := by
  intro pins s σ H x y v u Q I rx ry h
  obtain ⟨ux, uy, mh, as, P, r1, r2, rh, h, k⟩ := h
  unfold uAdd at h
  split at h
  · obtain rfl := r1.nn; obtain rfl := r2.nn
    exact op_add pins s σ H _ _ v u Q I rx ry ⟨_, _, rfl, rfl, k _ _ h _ _ _ .refl (.int _) rh⟩
  · obtain ⟨a, vs, rfl, h1, h2⟩ := r1.of_tup
    obtain ⟨b, ws, rfl, h3, h4⟩ := r2.of_tup
    have l1 := Paired.length h2
    have l2 := Paired.length h4
    refine op_catA pins s σ H _ _ v u Q I rx ry ⟨a, b, vs, ws, rfl, rfl, h1, h3, by rw [← l1, ← l2]; exact h.1, fun e => ?_, fun _ e => ?_, fun _ _ p hp => ?_⟩
    · subst e
      cases h2
      exact k _ _ h.2 _ _ _ .refl (RV.tups h3 h4) rh
    · subst e
      cases h4
      have h' := h.2
      rw [List.append_nil] at h'
      exact k _ _ h' _ _ _ .refl (RV.tups h1 h2) rh
    · have e := RH.evGrow (as := as) (o := .tup (vs ++ ws)) hp
      exact k _ _ h.2 _ _ _ e (RV.tups (SqT.of upd_same) (RVs.ev e (prd_app h2 h4))) (rh.grow hp)
  · obtain rfl := r1.ss; obtain rfl := r2.ss
    exact op_add_str pins s σ H _ _ v u Q I rx ry ⟨_, _, rfl, rfl, h.1, k _ _ h.2 _ _ _ .refl (.str _) rh⟩
  · obtain ⟨a, rfl, e1⟩ := r1.of_ref
    obtain ⟨b, rfl, e2⟩ := r2.of_ref
    split at h
    · rename_i xs ys q1 q2
      obtain ⟨vs, h1, h2⟩ := rh.lst q1 e1
      obtain ⟨ws, h3, h4⟩ := rh.lst q2 e2
      have l1 := Paired.length h2
      have l2 := Paired.length h4
      refine op_cat pins s σ H _ _ v u Q I rx ry ⟨a, b, vs, ws, rfl, rfl, h1, h3, by rw [← l1, ← l2]; exact h.1, fun p hp => ?_⟩
      have e := RH.evNew (as := as) (o := .lst (vs ++ ws)) hp
      exact k _ _ h.2 _ _ _ e (.ref (by rw [← rh.len]; simp)) (rh.new hp (.lst (prd_app h2 h4)))
    · exact h.elim
  · exact h.elim
theorem o_sub : OpR X (binaryOp .Sub) (r2 X.K uSub) := by
  intro pins s σ H x y v u Q I rx ry h
  obtain ⟨ux, uy, mh, as, P, r1, r2, rh, h, k⟩ := h
  unfold uSub at h
  split at h
  · obtain rfl := r1.nn; obtain rfl := r2.nn
    exact op_sub pins s σ H _ _ v u Q I rx ry ⟨_, _, rfl, rfl, k _ _ h _ _ _ .refl (.int _) rh⟩
  · exact h.elim
theorem o_div : OpR X (binaryOp .FloorDiv) (r2 X.K uDiv) := by
  intro pins s σ H x y v u Q I rx ry h
  obtain ⟨ux, uy, mh, as, P, r1, r2, rh, h, k⟩ := h
  unfold uDiv at h
  split at h
  · obtain rfl := r1.nn; obtain rfl := r2.nn
    exact op_fdivN pins s σ H _ _ v u Q I rx ry ⟨_, _, rfl, rfl, h.1, k _ _ h.2 _ _ _ .refl (.int _) rh⟩
  · exact h.elim
theorem o_mod : OpR X (binaryOp .Mod) (r2 X.K uMod) := by
  intro pins s σ H x y v u Q I rx ry h
  obtain ⟨ux, uy, mh, as, P, r1, r2, rh, h, k⟩ := h
  unfold uMod at h
  split at h
  · obtain rfl := r1.nn; obtain rfl := r2.nn
    exact op_modN pins s σ H _ _ v u Q I rx ry ⟨_, _, rfl, rfl, h.1, k _ _ h.2 _ _ _ .refl (.int _) rh⟩
  · exact h.elim
theorem o_pow : OpR X (binaryOp .Pow) (r2 X.K uPow) := by
  intro pins s σ H x y v u Q I rx ry h
  obtain ⟨ux, uy, mh, as, P, r1, r2, rh, h, k⟩ := h
  unfold uPow at h
  split at h
  · obtain rfl := r1.nn; obtain rfl := r2.nn
    exact op_pow pins s σ H _ _ v u Q I rx ry ⟨_, _, rfl, rfl, h.1, k _ _ h.2 _ _ _ .refl (.int _) rh⟩
  · exact h.elim
theorem o_mul : OpR X (binaryOp .Mult) (r2 X.K uMul) := by
  intro pins s σ H x y v u Q I rx ry h
  obtain ⟨ux, uy, mh, as, P, r1, r2, rh, h, k⟩ := h
  unfold uMul at h
  split at h
  · obtain rfl := r1.nn; obtain rfl := r2.nn
    exact op_mul pins s σ H _ _ v u Q I rx ry ⟨_, _, rfl, rfl, h.1, k _ _ h.2 _ _ _ .refl (.int _) rh⟩
  · rename_i xs kk
    obtain ⟨a, vs, rfl, h1, h2⟩ := r1.of_tup
    obtain rfl := r2.nn
    have l1 := Paired.length h2
    obtain ⟨hx, k0, k1, hl, h⟩ := h
    refine op_repA pins s σ H _ _ v u Q I rx ry ⟨a, kk, vs, rfl, rfl, h1, fun e => hx (List.length_eq_zero_iff.mp (by rw [l1, e]; rfl)), k0, k1, by rw [← l1]; exact hl, fun p H' hc => ?_⟩
    rcases hc with ⟨e1, e2, e3⟩ | ⟨_, hp, rfl⟩
    · subst e1; subst e2; subst e3
      refine k _ _ h _ _ _ .refl ?_ rh
      have : (List.replicate (1 : Int).toNat xs).flatten = xs := by simp
      rw [this]
      exact RV.tups h1 h2
    · have e := RH.evGrow (as := as) (o := .tup (List.replicate kk.toNat vs).flatten) hp
      exact k _ _ h _ _ _ e (RV.tups (SqT.of upd_same) (RVs.ev e (prd_rep h2 _))) (rh.grow hp)
  · obtain ⟨a, rfl, e1⟩ := r1.of_ref
    obtain rfl := r2.nn
    split at h
    · rename_i xs q1
      obtain ⟨vs, h1, h2⟩ := rh.lst q1 e1
      have l1 := Paired.length h2
      refine op_rep pins s σ H _ _ v u Q I rx ry ⟨a, _, vs, rfl, rfl, h1, h.1, h.2.1, by rw [← l1]; exact h.2.2.1, fun p hp => ?_⟩
      exact k _ _ h.2.2.2 _ _ _ (RH.evNew hp) (.ref (by rw [← rh.len]; simp)) (rh.new hp (.lst (prd_rep h2 _)))
    · exact h.elim
  · exact h.elim
theorem o_neg : UnR X (unaryOp .USub) (r1 X.K uNeg) := by
  intro pins s σ H x v Q I rx h
  obtain ⟨ux, mh, as, P, r1, rh, h, k⟩ := h
  unfold uNeg at h
  split at h
  · obtain rfl := r1.nn
    exact un_neg pins s σ H _ v Q I rx ⟨_, rfl, k _ _ h _ _ _ .refl (.int _) rh⟩
  · exact h.elim
end
/-! ### comparisons -/
def uCmp (f : Int → Int → Bool) : M2 := fun x y mh P => match x, y with
  | .int i, .int j => P (.bl (f i j)) mh
  | _, _ => False
def uEq (neg : Bool) : M2 := fun x y mh P => match x, y with
  | .int i, .int j => P (.bl (if neg then !decide (i = j) else decide (i = j))) mh
  | .str i, .str j => P (.bl (if neg then !decide (i = j) else decide (i = j))) mh
  | .bl i, .bl j => P (.bl (if neg then !decide (i = j) else decide (i = j))) mh
  | _, _ => ∃ n d e, toD mh n x = some d ∧ toD mh n y = some e ∧ SeqAt.shaped d = true ∧ SeqAt.shaped e = true ∧ P (.bl (if neg then !PyData.eqv d e else PyData.eqv d e)) mh
def uIs (neg : Bool) : M2 := fun x y mh P => match y with
  | .non => P (.bl (match x with | .non => !neg | _ => neg)) mh
  | _ => False
section
variable {X : Cx}
theorem o_cmp {f : Int → Int → Bool} {op : CmpOp} (h0 : OpR X (compareOp op) (rI0 fun i j => .bl (f i j))) : OpR X (compareOp op) (r2 X.K (uCmp f)) := by
  intro pins s σ H x y v u Q I rx ry h
  obtain ⟨ux, uy, mh, as, P, r1, r2, rh, h, k⟩ := h
  unfold uCmp at h
  split at h
  · obtain rfl := r1.nn; obtain rfl := r2.nn
    exact h0 pins s σ H _ _ v u Q I rx ry ⟨_, _, rfl, rfl, k _ _ h _ _ _ .refl (.bl _) rh⟩
  · exact h.elim
theorem o_lt : OpR X (compareOp .Lt) (r2 X.K (uCmp fun i j => decide (i < j))) := o_cmp op_lt
theorem o_le : OpR X (compareOp .LtE) (r2 X.K (uCmp fun i j => decide (i ≤ j))) := o_cmp op_le
theorem o_gt : OpR X (compareOp .Gt) (r2 X.K (uCmp fun i j => decide (j < i))) := o_cmp op_gt
theorem o_ge : OpR X (compareOp .GtE) (r2 X.K (uCmp fun i j => decide (j ≤ i))) := o_cmp op_ge
theorem o_eq (hu : X.A.units + 64 < cLine) : OpR X (compareOp .Eq) (r2 X.K (uEq false)) := by
  intro pins s σ H x y v u Q I rx ry h
  obtain ⟨ux, uy, mh, as, P, r1, r2, rh, h, k⟩ := h
  unfold uEq at h
  split at h
  · obtain rfl := r1.nn; obtain rfl := r2.nn
    refine op_eq pins s σ H _ _ v u Q I rx ry ⟨rfl, ?_⟩
    rename_i i j
    have e : decide (V.int i = V.int j) = decide (i = j) := by simp
    rw [e]
    exact k _ _ h _ _ _ .refl (.bl _) rh
  · obtain rfl := r1.ss; obtain rfl := r2.ss
    refine op_eq pins s σ H _ _ v u Q I rx ry ⟨rfl, ?_⟩
    rename_i i j
    have e : decide (V.str i = V.str j) = decide (i = j) := by simp
    rw [e]
    exact k _ _ h _ _ _ .refl (.bl _) rh
  · obtain rfl := r1.bb; obtain rfl := r2.bb
    refine op_eq pins s σ H _ _ v u Q I rx ry ⟨rfl, ?_⟩
    rename_i i j
    have e : decide (V.bl i = V.bl j) = decide (i = j) := by simp
    rw [e]
    exact k _ _ h _ _ _ .refl (.bl _) rh
  · obtain ⟨n, d, e, h1, h2, h3, h4, h⟩ := h
    exact op_eqD hu pins s σ H _ _ v u Q I rx ry ⟨d, e, dp_of rh _ r1 h1, dp_of rh _ r2 h2, h3, h4, k _ _ h _ _ _ .refl (.bl _) rh⟩
theorem o_ne (hu : X.A.units + 64 < cLine) : OpR X (compareOp .NotEq) (r2 X.K (uEq true)) := by
  intro pins s σ H x y v u Q I rx ry h
  obtain ⟨ux, uy, mh, as, P, r1, r2, rh, h, k⟩ := h
  unfold uEq at h
  split at h
  · obtain rfl := r1.nn; obtain rfl := r2.nn
    refine op_ne pins s σ H _ _ v u Q I rx ry ⟨rfl, ?_⟩
    rename_i i j
    have e : decide (V.int i = V.int j) = decide (i = j) := by simp
    rw [e]
    exact k _ _ h _ _ _ .refl (.bl _) rh
  · obtain rfl := r1.ss; obtain rfl := r2.ss
    refine op_ne pins s σ H _ _ v u Q I rx ry ⟨rfl, ?_⟩
    rename_i i j
    have e : decide (V.str i = V.str j) = decide (i = j) := by simp
    rw [e]
    exact k _ _ h _ _ _ .refl (.bl _) rh
  · obtain rfl := r1.bb; obtain rfl := r2.bb
    refine op_ne pins s σ H _ _ v u Q I rx ry ⟨rfl, ?_⟩
    rename_i i j
    have e : decide (V.bl i = V.bl j) = decide (i = j) := by simp
    rw [e]
    exact k _ _ h _ _ _ .refl (.bl _) rh
  · obtain ⟨n, d, e, h1, h2, h3, h4, h⟩ := h
    exact op_neD hu pins s σ H _ _ v u Q I rx ry ⟨d, e, dp_of rh _ r1 h1, dp_of rh _ r2 h2, h3, h4, k _ _ h _ _ _ .refl (.bl _) rh⟩
theorem RV.nonD {K : PySem.W.Frag} {as : List Addr} {H : Hp} {u : U} {v : V} (r : RV K as H u v) : decide (v = .non) = (match u with | .non => true | _ => false) := by
  cases r <;> simp
theorem o_is : OpR X (compareOp .Is) (r2 X.K (uIs false)) := by
  intro pins s σ H x y v u Q I rx ry h
  obtain ⟨ux, uy, mh, as, P, r1, r2, rh, h, k⟩ := h
  unfold uIs at h
  split at h
  · cases r2
    refine op_isN pins s σ H _ _ v u Q I rx ry ⟨rfl, ?_⟩
    rw [r1.nonD]
    refine k _ _ ?_ _ _ _ .refl (.bl _) rh
    revert h; cases ux <;> exact id
  · exact h.elim
theorem o_isnt : OpR X (compareOp .IsNot) (r2 X.K (uIs true)) := by
  intro pins s σ H x y v u Q I rx ry h
  obtain ⟨ux, uy, mh, as, P, r1, r2, rh, h, k⟩ := h
  unfold uIs at h
  split at h
  · cases r2
    refine op_notN pins s σ H _ _ v u Q I rx ry ⟨rfl, ?_⟩
    rw [r1.nonD]
    refine k _ _ ?_ _ _ _ .refl (.bl _) rh
    revert h; cases ux <;> exact id
  · exact h.elim
end
end Sm

/-! Subscripts, slices, membership, methods, displays, fields. -/
namespace Sm
open PySem PySem.Spec PyProof.Rows L2 Tk
variable [ZC]
/-! ### dicts with int and text keys -/
def uKey : U → Option Key
  | .int i => some (.inl i)
  | .str x => some (.inr x)
  | _ => none
def valU (kvs : List (Key × U)) (k : Key) : Option U := (kvs.find? fun kv => decide (kv.1 = k)).map (·.2)
def putU (kvs : List (Key × U)) (k : Key) (v : U) : List (Key × U) :=
  if (kvs.any fun kv => decide (kv.1 = k)) = true then kvs.map (fun kv => if kv.1 = k then (kv.1, v) else kv) else kvs ++ [(k, v)]
def dropU (kvs : List (Key × U)) (k : Key) : List (Key × U) := kvs.filter fun kv => decide (kv.1 ≠ k)
section
variable {K : PySem.W.Frag} {as : List Addr} {H : Hp}
theorem uKey_rv {u : U} {v : V} {k : Key} (r : RV K as H u v) (h : uKey u = some k) : v = kV k := by
  cases u <;> simp [uKey] at h
  · subst h; exact r.nn
  · subst h; exact r.ss
theorem valU_some {k : Key} : ∀ {us : List (Key × U)} {vs : List (Key × V)} {u : U}, Paired (RKv K as H) us vs → valU us k = some u → ∃ v, valV vs k = some v ∧ RV K as H u v := by
  intro us vs u h
  induction h with
  | nil => intro e; simp [valU] at e
  | @cons p q ps qs r t ih =>
    intro e
    by_cases z : p.1 = k
    · have z2 : q.1 = k := r.1 ▸ z
      simp [valU, List.find?_cons, z] at e
      subst e
      exact ⟨q.2, valV_pos z2, r.2⟩
    · have z2 : ¬ q.1 = k := fun y => z (r.1.trans y)
      have e' : valU ps k = some u := by simpa [valU, List.find?_cons, z] using e
      obtain ⟨v, h1, h2⟩ := ih e'
      exact ⟨v, by rw [valV_neg z2]; exact h1, h2⟩
theorem valU_none {k : Key} : ∀ {us : List (Key × U)} {vs : List (Key × V)}, Paired (RKv K as H) us vs → valU us k = none → valV vs k = none := by
  intro us vs h
  induction h with
  | nil => intro e; rfl
  | @cons p q ps qs r t ih =>
    intro e
    by_cases z : p.1 = k
    · simp [valU, List.find?_cons, z] at e
    · have z2 : ¬ q.1 = k := fun y => z (r.1.trans y)
      have e' : valU ps k = none := by simpa [valU, List.find?_cons, z] using e
      rw [valV_neg z2]; exact ih e'
theorem anyK {k : Key} {us : List (Key × U)} {vs : List (Key × V)} (h : Paired (RKv K as H) us vs) : (us.any fun kv => decide (kv.1 = k)) = (vs.any fun kv => decide (kv.1 = k)) := by
  induction h with
  | nil => rfl
  | cons r t ih => rw [List.any_cons, List.any_cons, ih, r.1]
theorem putU_ok {k : Key} {u : U} {v : V} {us : List (Key × U)} {vs : List (Key × V)} (h : Paired (RKv K as H) us vs) (r : RV K as H u v) : Paired (RKv K as H) (putU us k u) (putK vs k v) := by
  unfold putU putK
  rw [anyK h]
  split
  · rename_i hany
    clear hany
    induction h with
    | nil => exact .nil
    | @cons p q ps qs r1 t ih =>
      refine .cons ?_ ih
      show RKv K as H (if p.1 = k then _ else _) (if q.1 = k then _ else _)
      rw [r1.1]
      by_cases z : q.1 = k
      · rw [if_pos z, if_pos z]; exact ⟨rfl, r⟩
      · rw [if_neg z, if_neg z]; exact r1
  · exact prd_app h (.cons ⟨rfl, r⟩ .nil)
theorem dropU_ok {k : Key} {us : List (Key × U)} {vs : List (Key × V)} (h : Paired (RKv K as H) us vs) : Paired (RKv K as H) (dropU us k) (dropK vs k) := by
  induction h with
  | nil => exact .nil
  | @cons p q ps qs r1 t ih =>
    unfold dropU dropK at ih ⊢
    rw [List.filter_cons, List.filter_cons, r1.1]
    split
    · exact .cons r1 ih
    · exact ih
end
/-! ### a[b] -/
def atU (us : List U) (i : Int) : Option U := atI us i
def uIx : M2 := fun x y mh P => match x, y with
  | .tup us, .int i => match atI us i with | some u => P u mh | none => False
  | .fz us, .int i => match atI us i with | some u => P u mh | none => False
  | .ref n, k => match mh[n]? with
    | some (.lst us) => match k with
      | .int i => match atI us i with | some u => P u mh | none => False
      | _ => False
    | some (.dK kvs) => match uKey k with
      | some k => match valU kvs k with | some u => P u mh | none => False
      | none => False
    | _ => False
  | .str z, .int i => z.length ≤ sizeLine ∧ match atI z.cps.toList i with | some c => P (.str ⟨#[c]⟩) mh | none => False
  | _, _ => False
theorem atI_rv {K : PySem.W.Frag} {as : List Addr} {H : Hp} {us : List U} {vs : List V} {i : Int} {u : U} (h : RVs K as H us vs) (e : atI us i = some u) : ∃ v, atI vs i = some v ∧ RV K as H u v := by
  unfold atI at e ⊢
  rw [← Paired.length h]
  cases q : ixN us.length i with
  | none => rw [q] at e; cases e
  | some j =>
    rw [q] at e
    exact prd_get h e
section
variable {X : Cx}
theorem ix_dict (hu : X.A.units + 1 < cLine) : IxR X (fun x y H Q => ∃ a v, x = .ref a ∧ DGet H a y (some v) ∧ Q v H) := by
  intro value slice pins s σ H x y v u Q I rx ry h hs
  obtain ⟨a, z, rfl, g, q⟩ := h
  cases rx
  exact tail_any (dict_typeIs I g) PySem.F.slot_dict_getitem.lookup (d_getItem hu I g ry fun w' s3 I3 rw' => ⟨z, H, I3, rw', q⟩) hs
theorem o_ix (hu : X.A.units + 1 < cLine) : IxR X (r2 X.K uIx) := by
  intro value slice pins s σ H x y v u Q I rx ry h hs
  obtain ⟨ux, uy, mh, as, P, r1, r2, rh, h, k⟩ := h
  unfold uIx at h
  split at h
  · obtain ⟨a, vs, rfl, h1, h2⟩ := r1.of_tup
    obtain rfl := r2.nn
    split at h
    · rename_i e
      obtain ⟨w, e2, rw'⟩ := atI_rv h2 e
      exact ix_tup value slice pins s σ H _ _ v u Q I rx ry ⟨a, vs, _, w, rfl, rfl, h1, e2, k _ _ h _ _ _ .refl rw' rh⟩ hs
    · exact h.elim
  · obtain ⟨a, vs, rfl, h1, h2⟩ := r1.of_fz
    obtain rfl := r2.nn
    split at h
    · rename_i e
      obtain ⟨w, e2, rw'⟩ := atI_rv h2 e
      exact ix_list value slice pins s σ H _ _ v u Q I rx ry ⟨a, vs, _, w, rfl, rfl, h1.l, e2, k _ _ h _ _ _ .refl rw' rh⟩ hs
    · exact h.elim
  · obtain ⟨a, rfl, e0⟩ := r1.of_ref
    split at h
    · rename_i us q
      obtain ⟨vs, h1, h2⟩ := rh.lst q e0
      split at h
      · obtain rfl := r2.nn
        split at h
        · rename_i e
          obtain ⟨w, e2, rw'⟩ := atI_rv h2 e
          exact ix_list value slice pins s σ H _ _ v u Q I rx ry ⟨a, vs, _, w, rfl, rfl, SqL.of h1, e2, k _ _ h _ _ _ .refl rw' rh⟩ hs
        · exact h.elim
      · exact h.elim
    · rename_i kvs q
      obtain ⟨vs, h1, h2⟩ := rh.dK q e0
      split at h
      · rename_i kk ek
        obtain rfl := uKey_rv r2 ek
        split at h
        · rename_i e
          obtain ⟨w, e2, rw'⟩ := valU_some h2 e
          exact ix_dict hu value slice pins s σ H _ _ v u Q I rx ry ⟨a, w, rfl, by rw [← e2]; exact DGet.k h1, k _ _ h _ _ _ .refl rw' rh⟩ hs
        · exact h.elim
      · exact h.elim
    · exact h.elim
  · obtain rfl := r1.ss
    obtain rfl := r2.nn
    obtain ⟨hz, h⟩ := h
    split at h
    · rename_i e
      exact ix_str value slice pins s σ H _ _ v u Q I rx ry ⟨_, _, _, rfl, rfl, hz, e, k _ _ h _ _ _ .refl (.str _) rh⟩ hs
    · exact h.elim
  · exact h.elim
theorem s_ix {a b : Expr} {ma mb : ME} {pos : Pos} (hu : X.A.units + 1 < cLine) (ha : PE X a (tM X.K ma)) (hb : PE X b (tM X.K mb)) (hs : PlainIx b := by intro _ _; rfl) : PE X (.Subscript a b pos) (tM X.K (mBin uIx ma mb)) := (pe_ix (o_ix hu) ha hb hs).imp tm_bin
end
/-! ### a[lo:hi] -/
def cutU (us : List U) (lo hi : Option Int) : List U := (us.drop (HT.sIx us.length 0 lo)).take (HT.sIx us.length us.length hi - HT.sIx us.length 0 lo)
def uSl (x : U) (lo hi : Option Int) (mh : MH) (P : MK) : Prop := match x with
  | .tup us => P (.tup (cutU us lo hi)) mh
  | .fz us => P (.ref mh.length) (mh ++ [.lst (cutU us lo hi)])
  | .ref n => match mh[n]? with
    | some (.lst us) => P (.ref mh.length) (mh ++ [.lst (cutU us lo hi)])
    | _ => False
  | _ => False
theorem cutU_ok {K : PySem.W.Frag} {as : List Addr} {H : Hp} {us : List U} {vs : List V} (h : RVs K as H us vs) (lo hi : Option Int) : RVs K as H (cutU us lo hi) (cutV vs lo hi) := by
  unfold cutU cutV
  rw [Paired.length h]
  exact prd_take _ (prd_drop _ h)
theorem cutU_all {us : List U} {lo hi : Option Int} (h : HT.sIx us.length 0 lo = 0 ∧ HT.sIx us.length us.length hi = us.length) : cutU us lo hi = us := by
  unfold cutU
  rw [h.1, h.2, List.drop_zero, Nat.sub_zero, List.take_length]
abbrev MOp := Sl → MH → (Option Int → MH → Prop) → Prop
def tMO (K : PySem.W.Frag) (m : MOp) : TO := fun σ H Q => ∃ sl mh as P, RS K as H sl σ ∧ RH K as H mh ∧ m sl mh P ∧ ∀ u mh', P u mh' → ∀ H' as', Ev as H as' H' → RH K as' H' mh' → Q u H'
def mPNone : MOp := fun _ mh P => P none mh
def mPSome (m : ME) : MOp := fun sl mh P => m sl mh fun u mh1 => match u with | .int i => P (some i) mh1 | _ => False
def mSl (ma : ME) (ml mu : MOp) : ME := fun sl mh P => ma sl mh fun u mh1 => ml sl mh1 fun lo mh2 => mu sl mh2 fun hi mh3 => uSl u lo hi mh3 P
section
variable {X : Cx}
theorem so_none : PO X none (tMO X.K mPNone) := ⟨fun pins s σ H Q I h => po_none.run pins s σ H Q I (let ⟨sl, mh, as, P, rs, rh, h, k⟩ := h; k _ _ h _ _ .refl rh)⟩
theorem so_some {e : Expr} {m : ME} (he : PE X e (tM X.K m)) : PO X (some e) (tMO X.K (mPSome m)) := ⟨fun pins s σ H Q I h => (po_some he).run pins s σ H Q I (by
  obtain ⟨sl, mh, as, P, rs, rh, h, k⟩ := h
  refine ⟨sl, mh, as, _, rs, rh, h, fun u mh1 p v H1 as1 e r rh1 => ?_⟩
  cases r with
  | int i => exact ⟨i, rfl, k _ _ p _ _ e rh1⟩
  | _ => exact False.elim p)⟩
def rSlM (K : PySem.W.Frag) : V → Option Int → Option Int → Hp → VK → Prop := fun x lo hi H Q => ∃ u mh as P, RV K as H u x ∧ RH K as H mh ∧ uSl u lo hi mh P ∧ ∀ u mh', P u mh' → Got K as H Q u mh'
theorem sl_any : SlR X (rSlM X.K) := by
  intro pins s σ H x v vl vu lo hi sl Q I rx hs pl pu h
  obtain ⟨ux, mh, as, P, r1, rh, h, k⟩ := h
  unfold uSl at h
  split at h
  · obtain ⟨a, vs, rfl, h1, h2⟩ := r1.of_tup
    refine sl_tupA pins s σ H _ v vl vu lo hi sl Q I rx hs pl pu ⟨a, vs, rfl, h1, fun e => ?_, fun _ p hp => ?_⟩
    · rw [← Paired.length h2] at e
      rw [cutU_all e] at h
      exact k _ _ h _ _ _ .refl (RV.tups h1 h2) rh
    · have e := RH.evGrow (as := as) (o := .tup (cutV vs lo hi)) hp
      exact k _ _ h _ _ _ e (RV.tups (SqT.of upd_same) (RVs.ev e (cutU_ok h2 lo hi))) (rh.grow hp)
  · obtain ⟨a, vs, rfl, h1, h2⟩ := r1.of_fz
    refine sl_list pins s σ H _ v vl vu lo hi sl Q I rx hs pl pu ⟨a, vs, rfl, h1.l, fun p hp => ?_⟩
    exact k _ _ h _ _ _ (RH.evNew hp) (.ref (by rw [← rh.len]; simp)) (rh.new hp (.lst (cutU_ok h2 lo hi)))
  · obtain ⟨a, rfl, e0⟩ := r1.of_ref
    split at h
    · rename_i us q
      obtain ⟨vs, h1, h2⟩ := rh.lst q e0
      refine sl_list pins s σ H _ v vl vu lo hi sl Q I rx hs pl pu ⟨a, vs, rfl, SqL.of h1, fun p hp => ?_⟩
      exact k _ _ h _ _ _ (RH.evNew hp) (.ref (by rw [← rh.len]; simp)) (rh.new hp (.lst (cutU_ok h2 lo hi)))
    · exact h.elim
  · exact h.elim
theorem s_slice {e : Expr} {lo hi : Option Expr} {ma : ME} {ml mu : MOp} {pos p2 : Pos} (he : PE X e (tM X.K ma)) (hl : PO X lo (tMO X.K ml)) (hu : PO X hi (tMO X.K mu)) : PE X (.Subscript e (.Slice lo hi none p2) pos) (tM X.K (mSl ma ml mu)) := by
  refine (pe_slice sl_any he hl hu).imp fun σ H Q h => ?_
  obtain ⟨sl, mh, as, P, rs, rh, h, k⟩ := h
  exact ⟨sl, mh, as, _, rs, rh, h, fun u mh1 p x H1 as1 e1 r rh1 => ⟨sl, mh1, as1, _, rs.ev e1, rh1, p, fun o mh2 p2 H2 as2 e2 rh2 => ⟨sl, mh2, as2, _, (rs.ev e1).ev e2, rh2, p2, fun o' mh3 p3 H3 as3 e3 rh3 => ⟨u, mh3, as3, P, (r.ev e2).ev e3, rh3, p3, fun _ _ q => (k _ _ q).at ((e1.trans e2).trans e3)⟩⟩⟩⟩
/-- xs[::-1] of a list -/
def uRev : M1 := fun x mh P => match x with
  | .ref n => match mh[n]? with
    | some (.lst us) => P (.ref mh.length) (mh ++ [.lst us.reverse])
    | _ => False
  | _ => False
theorem s_rev {e : Expr} {ma : ME} {k : Nat} {p1 p2 p3 pos : Pos} (he : PE X e (tM X.K ma)) : PE X (.Subscript e (.Slice none none (some (.UnaryOp .USub (.Constant (.int 1) k p1) p2)) p3) pos) (tM X.K (mUn uRev ma)) := by
  refine (pe_revL he).imp fun σ H Q h => ?_
  obtain ⟨sl, mh, as, P, rs, rh, h, k⟩ := h
  refine ⟨sl, mh, as, _, rs, rh, h, fun u mh1 p x H1 as1 e1 r rh1 => ?_⟩
  unfold uRev at p
  split at p
  · obtain ⟨a, rfl, e0⟩ := r.of_ref
    split at p
    · rename_i us q
      obtain ⟨vs, h1, h2⟩ := rh1.lst q e0
      exact ⟨a, vs, rfl, SqL.of h1, fun p' hp => k _ _ p _ _ _ (e1.trans (RH.evNew hp)) (.ref (by rw [← rh1.len]; simp)) (rh1.new hp (.lst (prd_rev h2)))⟩
    · exact p.elim
  · exact p.elim
end
/-! ### x in y -/
def flatU : U → Bool
  | .non => true
  | .bl _ => true
  | .int _ => true
  | .str _ => true
  | _ => false
def eqF : U → U → Bool
  | .non, .non => true
  | .bl a, .bl b => a == b
  | .bl a, .int b => (if a then 1 else 0) == b
  | .int a, .bl b => a == (if b then 1 else 0)
  | .int a, .int b => a == b
  | .str a, .str b => a == b
  | _, _ => false
def inU (x : U) (us : List U) : Bool := us.any fun y => eqF y x
theorem flat_rv {K : PySem.W.Frag} {as : List Addr} {H : Hp} {u : U} {v : V} (r : RV K as H u v) : flatU u = true → flatV v = true := by
  cases r <;> simp [flatU, flatV]
theorem flats_rv {K : PySem.W.Frag} {as : List Addr} {H : Hp} {us : List U} {vs : List V} (h : RVs K as H us vs) : us.all flatU = true → vs.all flatV = true := by
  induction h with
  | nil => exact id
  | cons r t ih =>
    rw [List.all_cons, List.all_cons, Bool.and_eq_true, Bool.and_eq_true]
    exact fun z => ⟨flat_rv r z.1, ih z.2⟩
theorem eqF_rv {K : PySem.W.Frag} {as : List Addr} {H : Hp} {u u' : U} {v v' : V} (r : RV K as H u v) (r' : RV K as H u' v') (f : flatU u = true) (f' : flatU u' = true) : eqV v v' = eqF u u' := by
  cases r <;> simp [flatU] at f <;> cases r' <;> simp [flatU] at f' <;> rfl
theorem inU_rv {K : PySem.W.Frag} {as : List Addr} {H : Hp} {u : U} {v : V} {us : List U} {vs : List V} (r : RV K as H u v) (f : flatU u = true) (h : RVs K as H us vs) (fs : us.all flatU = true) : inV v vs = inU u us := by
  unfold inV inU
  induction h with
  | nil => rfl
  | cons r1 t ih =>
    rw [List.all_cons, Bool.and_eq_true] at fs
    rw [List.any_cons, List.any_cons, ih fs.2, eqF_rv r1 r fs.1 f]
def uIn (neg : Bool) : M2 := fun x y mh P => match y with
  | .tup us => flatU x = true ∧ us.all flatU = true ∧ P (.bl (if neg then !inU x us else inU x us)) mh
  | .ref n => match mh[n]? with
    | some (.lst us) => flatU x = true ∧ us.all flatU = true ∧ P (.bl (if neg then !inU x us else inU x us)) mh
    | some (.dK kvs) => match uKey x with
      | some k => P (.bl (if neg then !(valU kvs k).isSome else (valU kvs k).isSome)) mh
      | none => False
    | _ => False
  | _ => False
section
variable {X : Cx}
theorem isSomeU {K : PySem.W.Frag} {as : List Addr} {H : Hp} {us : List (Key × U)} {vs : List (Key × V)} {k : Key} (h : Paired (RKv K as H) us vs) : (valV vs k).isSome = (valU us k).isSome := by
  cases e : valU us k with
  | none => rw [valU_none h e]; rfl
  | some u => obtain ⟨v, h1, _⟩ := valU_some h e; rw [h1]; rfl
theorem o_in (hu : X.A.units + 1 < cLine) : OpR X (compareOp .In) (r2 X.K (uIn false)) := by
  intro pins s σ H x y v u Q I rx ry h
  obtain ⟨ux, uy, mh, as, P, r1, r2, rh, h, k⟩ := h
  unfold uIn at h
  split at h
  · obtain ⟨a, vs, rfl, h1, h2⟩ := r2.of_tup
    refine op_in_seq pins s σ H _ _ v u Q I rx ry ⟨a, vs, rfl, .inr h1, flat_rv r1 h.1, flats_rv h2 h.2.1, ?_⟩
    have e := inU_rv r1 h.1 h2 h.2.1
    rw [e]
    exact k _ _ h.2.2 _ _ _ .refl (.bl _) rh
  · obtain ⟨a, rfl, e0⟩ := r2.of_ref
    split at h
    · rename_i us q
      obtain ⟨vs, h1, h2⟩ := rh.lst q e0
      refine op_in_seq pins s σ H _ _ v u Q I rx ry ⟨a, vs, rfl, .inl (SqL.of h1), flat_rv r1 h.1, flats_rv h2 h.2.1, ?_⟩
      have e := inU_rv r1 h.1 h2 h.2.1
      rw [e]
      exact k _ _ h.2.2 _ _ _ .refl (.bl _) rh
    · rename_i kvs q
      obtain ⟨vs, h1, h2⟩ := rh.dK q e0
      split at h
      · rename_i kk ek
        obtain rfl := uKey_rv r1 ek
        cases ry
        refine d_in hu I (DGet.k h1) rx fun s3 I3 => ⟨.bl _, H, I3, rfl, ?_⟩
        rw [isSomeU h2]
        exact k _ _ h _ _ _ .refl (.bl _) rh
      · exact h.elim
    · exact h.elim
  · exact h.elim
theorem o_notin (hu : X.A.units + 1 < cLine) : OpR X (compareOp .NotIn) (r2 X.K (uIn true)) := by
  intro pins s σ H x y v u Q I rx ry h
  obtain ⟨ux, uy, mh, as, P, r1, r2, rh, h, k⟩ := h
  unfold uIn at h
  split at h
  · obtain ⟨a, vs, rfl, h1, h2⟩ := r2.of_tup
    refine op_notIn_seq pins s σ H _ _ v u Q I rx ry ⟨a, vs, rfl, .inr h1, flat_rv r1 h.1, flats_rv h2 h.2.1, ?_⟩
    have e := inU_rv r1 h.1 h2 h.2.1
    rw [e]
    exact k _ _ h.2.2 _ _ _ .refl (.bl _) rh
  · obtain ⟨a, rfl, e0⟩ := r2.of_ref
    split at h
    · rename_i us q
      obtain ⟨vs, h1, h2⟩ := rh.lst q e0
      refine op_notIn_seq pins s σ H _ _ v u Q I rx ry ⟨a, vs, rfl, .inl (SqL.of h1), flat_rv r1 h.1, flats_rv h2 h.2.1, ?_⟩
      have e := inU_rv r1 h.1 h2 h.2.1
      rw [e]
      exact k _ _ h.2.2 _ _ _ .refl (.bl _) rh
    · rename_i kvs q
      obtain ⟨vs, h1, h2⟩ := rh.dK q e0
      split at h
      · rename_i kk ek
        obtain rfl := uKey_rv r1 ek
        cases ry
        refine d_notIn hu I (DGet.k h1) rx fun s3 I3 => ⟨.bl _, H, I3, rfl, ?_⟩
        rw [isSomeU h2]
        exact k _ _ h _ _ _ .refl (.bl _) rh
      · exact h.elim
    · exact h.elim
  · exact h.elim
end
/-! ### displays -/
def mTup (ma : MA) : ME := fun sl mh P => ma sl mh fun us mh1 => us.length ≤ sizeLine ∧ P (.tup us) mh1
def mLst (ma : MA) : ME := fun sl mh P => ma sl mh fun us mh1 => us.length ≤ sizeLine ∧ P (.ref mh1.length) (mh1 ++ [.lst us])
def mDict0 : ME := fun _ mh P => P (.ref mh.length) (mh ++ [.dK []])
section
variable {X : Cx} {es : List Expr} {ma : MA} {pos : Pos}
theorem s_tup {x1} (h : PA X es (tMA X.K ma)) : PE X (.Tuple es x1 pos) (tM X.K (mTup ma)) := by
  refine (pe_tup h).imp fun σ H Q h => ?_
  obtain ⟨sl, mh, as, P, rs, rh, h, k⟩ := h
  refine ⟨sl, mh, as, _, rs, rh, h, fun us mh1 p vs H1 as1 e r rh1 => ⟨by rw [← Paired.length r]; exact p.1, fun q hq => ?_⟩⟩
  have e2 := RH.evGrow (as := as1) (o := .tup vs) hq
  exact k _ _ p.2 _ _ _ (e.trans e2) (RV.tups (SqT.of upd_same) (RVs.ev e2 r)) (rh1.grow hq)
theorem s_lst (h : PA X es (tMA X.K ma)) : PE X (.List es pos) (tM X.K (mLst ma)) := by
  refine (pe_lst h).imp fun σ H Q h => ?_
  obtain ⟨sl, mh, as, P, rs, rh, h, k⟩ := h
  refine ⟨sl, mh, as, _, rs, rh, h, fun us mh1 p vs H1 as1 e r rh1 => ⟨by rw [← Paired.length r]; exact p.1, fun q hq => ?_⟩⟩
  exact k _ _ p.2 _ _ _ (e.trans (RH.evNew hq)) (.ref (by rw [← rh1.len]; simp)) (rh1.new hq (.lst r))
theorem s_dict0 : PE X (.Dict [] [] pos) (tM X.K mDict0) := by
  refine pe_dnewK.imp fun σ H Q h => ?_
  obtain ⟨sl, mh, as, P, rs, rh, h, k⟩ := h
  exact fun q hq => k _ _ h _ _ _ (RH.evNew hq) (.ref (by rw [← rh.len]; simp)) (rh.new hq (.dK .nil))
end
/-- {k: v, ..}: the new dict stands empty while the pairs are made -/
def mPairs : List (ME × ME) → Sl → MH → (List (U × U) → MH → Prop) → Prop
  | [], _, mh, P => P [] mh
  | (mk, mv) :: r, sl, mh, P => mk sl mh fun x mh1 => mv sl mh1 fun y mh2 => mPairs r sl mh2 fun ps mh3 => P ((x, y) :: ps) mh3
def uKeys : List (U × U) → Option (List (Key × U))
  | [] => some []
  | (k, v) :: r => match uKey k, uKeys r with
    | some k, some r => some ((k, v) :: r)
    | _, _ => none
def mDisp (ms : List (ME × ME)) : ME := fun sl mh P => mPairs ms sl (mh ++ [.dK []]) fun ps mh1 => match mh1[mh.length]? with
  | some (.dK []) => match uKeys ps with
    | some kvs => kvs.length ≤ 15 ∧ P (.ref mh.length) (mh1.set mh.length (.dK (kvs.foldl (fun acc kv => putU acc kv.1 kv.2) [])))
    | none => False
  | _ => False
abbrev VVu (K : PySem.W.Frag) (as : List Addr) (H : Hp) : List (U × U) → List (V × V) → Prop := Paired fun p q => RV K as H p.1 q.1 ∧ RV K as H p.2 q.2
theorem tm_pairs {K : PySem.W.Frag} : ∀ (ms : List (ME × ME)) {sl : Sl} {σ : L2.St} {H : Hp} {mh : MH} {as : List Addr} {P : List (U × U) → MH → Prop} {Q : List (V × V) → Hp → Prop}, RS K as H sl σ → RH K as H mh → mPairs ms sl mh P →
    (∀ ps mh', P ps mh' → ∀ qs H' as', Ev as H as' H' → VVu K as' H' ps qs → RH K as' H' mh' → Q qs H') → tPairs (ms.map fun p => (tM K p.1, tM K p.2)) σ H Q
  | [], sl, σ, H, mh, as, P, Q, rs, rh, h, k => k _ _ h _ _ _ .refl .nil rh
  | (mk, mv) :: r, sl, σ, H, mh, as, P, Q, rs, rh, h, k => by
    refine ⟨sl, mh, as, _, rs, rh, h, fun x mh1 p v H1 as1 e r1 rh1 => ⟨sl, mh1, as1, _, rs.ev e, rh1, p, fun y mh2 p2 w H2 as2 e2 r2 rh2 => ?_⟩⟩
    exact tm_pairs r ((rs.ev e).ev e2) rh2 p2 fun ps mh3 p3 qs H3 as3 e3 r3 rh3 => k _ _ p3 _ _ _ ((e.trans e2).trans e3) (.cons ⟨(r1.ev e2).ev e3, r2.ev e3⟩ r3) rh3
theorem uKeys_ok {K : PySem.W.Frag} {as : List Addr} {H : Hp} : ∀ {ps : List (U × U)} {qs : List (V × V)} {kvs : List (Key × U)}, VVu K as H ps qs → uKeys ps = some kvs → ∃ ks : List (Key × V), qs = ks.map (fun kv => (kV kv.1, kv.2)) ∧ Paired (RKv K as H) kvs ks
  | [], _, _, r, h => by cases r; cases h; exact ⟨[], rfl, .nil⟩
  | (k, v) :: ps, _, kvs, r, h => by
    cases r with
    | @cons _ q _ qs r1 r2 =>
      simp only [uKeys] at h
      split at h
      · rename_i k' r' e1 e2
        cases h
        obtain ⟨ks, h1, h2⟩ := uKeys_ok r2 e2
        refine ⟨(k', q.2) :: ks, ?_, .cons ⟨rfl, r1.2⟩ h2⟩
        have := uKey_rv r1.1 e1
        rw [List.map_cons, ← h1]
        show q :: _ = (kV k', q.2) :: _
        rw [← this]
      · cases h
theorem mergeU_ok {K : PySem.W.Frag} {as : List Addr} {H : Hp} {kvs : List (Key × U)} {ks : List (Key × V)} (h : Paired (RKv K as H) kvs ks) : ∀ {a0 : List (Key × U)} {b0 : List (Key × V)}, Paired (RKv K as H) a0 b0 → Paired (RKv K as H) (kvs.foldl (fun acc kv => putU acc kv.1 kv.2) a0) (ks.foldl (fun acc kv => putK acc kv.1 kv.2) b0) := by
  induction h with
  | nil => exact fun z => z
  | @cons p q ps qs r t ih =>
    intro a0 b0 z
    rw [List.foldl_cons, List.foldl_cons, ← r.1]
    exact ih (putU_ok z r.2)
section
variable {X : Cx} {pos : Pos}
theorem s_disp {keys : List (Option Expr)} {values : List Expr} {ms : List (ME × ME)} (h : PPs X pos keys values (ms.map fun p => (tM X.K p.1, tM X.K p.2))) (hall : keys.all (·.isSome) = true := by rfl) (hl : keys.length = values.length := by rfl) (h0 : keys ≠ [] := by intro z; cases z)
    (h15 : keys.length ≤ 15 := by decide) : PE X (.Dict keys values pos) (tM X.K (mDisp ms)) := by
  refine (pe_disp h hall hl h0 h15).imp fun σ H Q h => ?_
  obtain ⟨sl, mh, as, P, rs, rh, h, k⟩ := h
  intro p hp
  have e := RH.evNew (as := as) (o := .dK []) hp
  refine tm_pairs ms (rs.ev e) (rh.new hp (.dK .nil)) h fun ps mh' q qs H' as' e2 r rh' => ?_
  have ep : as'[mh.length]? = some p := by
    obtain ⟨t, rfl⟩ := e2.ap
    rw [List.getElem?_append_left (by simp [rh.len]), ← rh.len]
    simp
  split at q
  · rename_i e3
    obtain ⟨vs, g1, g2⟩ := rh'.dK e3 ep
    cases g2
    split at q
    · rename_i kvs ek
      obtain ⟨ks, rfl, rk⟩ := uKeys_ok r ek
      refine ⟨g1, ks, rfl, by rw [← Paired.length rk]; exact q.1, ?_⟩
      have rr := mergeU_ok rk (a0 := []) (b0 := []) .nil
      exact k _ _ q.2 _ _ _ ((e.trans e2).trans (rh'.evPut e3 ep)) (.ref ep) (rh'.put e3 ep (.dK rr))
    · exact q.elim
  · exact q.elim
theorem sps_nil : PPs X pos [] [] (([] : List (ME × ME)).map fun p => (tM X.K p.1, tM X.K p.2)) := pps_nil
theorem sps_cons {k v : Expr} {ks : List (Option Expr)} {vs : List Expr} {mk mv : ME} {ms : List (ME × ME)} (hk : PE X k (tM X.K mk)) (hv : PE X v (tM X.K mv)) (hr : PPs X pos ks vs (ms.map fun p => (tM X.K p.1, tM X.K p.2))) : PPs X pos (some k :: ks) (v :: vs) (((mk, mv) :: ms).map fun p => (tM X.K p.1, tM X.K p.2)) := pps_cons hk hv hr
end
/-! ### fields -/
def lookF (f : Str) (fs : List (Str × U)) : Option U := fs.lookup f
def putFU (f : Str) (v : U) : List (Str × U) → List (Str × U)
  | [] => [(f, v)]
  | (g, x) :: r => if g = f then (g, v) :: r else (g, x) :: putFU f v r
/-- the fields of the classes in Cs may be read and set -/
def Flds (K : PySem.W.Frag) (Cs : List Addr) (f : Str) : Prop := ∀ C ∈ Cs, Cls K C ∧ NoAttr K C f
def uFld (Cs : List Addr) (f : Str) : M1 := fun x mh P => match x with
  | .ref n => match mh[n]? with
    | some (.ins C fs) => C ∈ Cs ∧ match fs.lookup f with | some u => P u mh | none => False
    | _ => False
  | _ => False
theorem lookF_rv {K : PySem.W.Frag} {as : List Addr} {H : Hp} {f : Str} : ∀ {us : List (Str × U)} {vs : List (Str × V)} {u : U}, Paired (RFv K as H) us vs → us.lookup f = some u → ∃ v, vs.lookup f = some v ∧ RV K as H u v := by
  intro us vs u h
  induction h with
  | nil => intro e; cases e
  | @cons p q ps qs r t ih =>
    obtain ⟨p1, p2⟩ := p
    obtain ⟨q1, q2⟩ := q
    obtain ⟨rfl, r⟩ := r
    intro e
    rw [List.lookup_cons] at e ⊢
    split at e
    · rename_i z
      cases e
      exact ⟨q2, by simp only [z], r⟩
    · rename_i z
      obtain ⟨v, h1, h2⟩ := ih e
      exact ⟨v, by simp only [z]; exact h1, h2⟩
theorem putFU_ok {K : PySem.W.Frag} {as : List Addr} {H : Hp} {f : Str} {u : U} {v : V} (r0 : RV K as H u v) : ∀ {us : List (Str × U)} {vs : List (Str × V)}, Paired (RFv K as H) us vs → Paired (RFv K as H) (putFU f u us) (putF f v vs) := by
  intro us vs h
  induction h with
  | nil => exact .cons ⟨rfl, r0⟩ .nil
  | @cons p q ps qs r t ih =>
    obtain ⟨p1, p2⟩ := p
    obtain ⟨q1, q2⟩ := q
    obtain ⟨rfl, r⟩ := r
    show Paired _ (if p1 = f then _ else _) (if p1 = f then _ else _)
    split
    · exact .cons ⟨rfl, r0⟩ t
    · exact .cons ⟨rfl, r⟩ ih
def mSetF (Cs : List Addr) (f : Str) (mo mv : ME) : MS := fun N sl mh => mv sl mh fun u mh1 => mo sl mh1 fun x mh2 => match x with
  | .ref n => match mh2[n]? with
    | some (.ins C fs) => C ∈ Cs ∧ fs.length < 1000 ∧ N.nx sl (mh2.set n (.ins C (putFU f u fs)))
    | _ => False
  | _ => False
def mAugF (Cs : List Addr) (f : Str) (g : M2) (mo mv : ME) : MS := fun N sl mh => mo sl mh fun x mh1 => match x with
  | .ref n => match mh1[n]? with
    | some (.ins C fs) => C ∈ Cs ∧ match fs.lookup f with
      | some u => mv sl mh1 fun w mh2 => g u w mh2 fun z mh3 => match mh3[n]? with
        | some (.ins C' fs') => C' = C ∧ fs'.length < 1000 ∧ N.nx sl (mh3.set n (.ins C (putFU f z fs')))
        | _ => False
      | none => False
    | _ => False
  | _ => False
section
variable {X : Cx} {pos pos' tpos : Pos}
theorem s_fld {e : Expr} {f : Str} {ma : ME} {Cs : List Addr} (F : Flds X.K Cs f) (he : PE X e (tM X.K ma)) (hb : attributeBase e f X.env (eval e X.env) = eval e X.env := by rfl) : PE X (.Attribute e f pos) (tM X.K (mUn (uFld Cs f) ma)) := by
  refine (pe_fld he hb).imp fun σ H Q h => ?_
  obtain ⟨sl, mh, as, P, rs, rh, h, k⟩ := h
  refine ⟨sl, mh, as, _, rs, rh, h, fun u mh1 p x H1 as1 e1 r rh1 => ?_⟩
  unfold uFld at p
  split at p
  · obtain ⟨a, rfl, e0⟩ := r.of_ref
    split at p
    · rename_i C fs q
      obtain ⟨dx, vs, h1, h2⟩ := rh1.ins q e0
      obtain ⟨hC, p⟩ := p
      split at p
      · rename_i u' eu
        obtain ⟨v, g1, g2⟩ := lookF_rv h2 eu
        exact ⟨a, C, dx, vs, v, rfl, h1, (F C hC).1, (F C hC).2, g1, k _ _ p _ _ _ e1 g2 rh1⟩
      · exact p.elim
    · exact p.elim
  · exact p.elim
theorem sp_fld {o value : Expr} {f : Str} {mo mv : ME} {Cs : List Addr} (F : Flds X.K Cs f) (ho : PE X o (tM X.K mo)) (hv : PE X value (tM X.K mv)) (hs : swapsWith value (some (.Attribute o f pos')) pos.line X.env = pure false := by rfl) :
    PS X (.Assign [.Attribute o f pos'] value pos) (tMS X.K (mSetF Cs f mo mv)) := by
  refine (ps_fld ho hv hs).imp fun D σ H h => ?_
  obtain ⟨sl, mh, as, N, rs, rh, h, k⟩ := h
  refine ⟨sl, mh, as, _, rs, rh, h, fun u mh1 p y H1 as1 e1 r rh1 => ⟨sl, mh1, as1, _, rs.ev e1, rh1, p, fun x mh2 p2 w H2 as2 e2 r2 rh2 => ?_⟩⟩
  split at p2
  · obtain ⟨a, rfl, e0⟩ := r2.of_ref
    split at p2
    · rename_i C fs q
      obtain ⟨dx, vs, h1, h2⟩ := rh2.ins q e0
      obtain ⟨hC, hl, p2⟩ := p2
      refine ⟨a, C, dx, vs, rfl, h1, (F C hC).1, (F C hC).2, by rw [← Paired.length h2]; exact hl, ?_⟩
      have e3 := rh2.evPut (o' := .ins C dx (putF f y vs)) q e0
      exact k.nx _ _ p2 _ _ _ ((e1.trans e2).trans e3) (((rs.ev e1).ev e2).ev e3) (rh2.put q e0 (.ins (putFU_ok (r.ev e2) h2)))
    · exact p2.elim
  · exact p2.elim
/-- an augmented operation: += and -= of ints -/
def In2 (X : Cx) (op : Operator) (g : M2) : Prop := InOp X op (r2 X.K g)
theorem in2_add : In2 X .Add (fun x y mh P => match x, y with | .int i, .int j => P (.int (i + j)) mh | _, _ => False) := by
  intro pins s σ H x y u v Q I rx ry h
  obtain ⟨ux, uy, mh, as, P, r1, r2, rh, h, k⟩ := h
  split at h
  · obtain rfl := r1.nn; obtain rfl := r2.nn
    exact in_add pins s σ H _ _ u v Q I rx ry ⟨_, _, rfl, rfl, k _ _ h _ _ _ .refl (.int _) rh⟩
  · exact h.elim
theorem in2_sub : In2 X .Sub uSub := by
  intro pins s σ H x y u v Q I rx ry h
  obtain ⟨ux, uy, mh, as, P, r1, r2, rh, h, k⟩ := h
  unfold uSub at h
  split at h
  · obtain rfl := r1.nn; obtain rfl := r2.nn
    exact in_sub pins s σ H _ _ u v Q I rx ry ⟨_, _, rfl, rfl, k _ _ h _ _ _ .refl (.int _) rh⟩
  · exact h.elim
theorem sp_fldaug {o value : Expr} {f : Str} {mo mv : ME} {Cs : List Addr} {op : Operator} {g : M2} (F : Flds X.K Cs f) (ho : PE X o (tM X.K mo)) (hv : PE X value (tM X.K mv)) (hop : In2 X op g) : PS X (.AugAssign (.Attribute o f tpos) op value pos) (tMS X.K (mAugF Cs f g mo mv)) := by
  refine (ps_fldaug ho hv hop).imp fun D σ H h => ?_
  obtain ⟨sl, mh, as, N, rs, rh, h, k⟩ := h
  refine ⟨sl, mh, as, _, rs, rh, h, fun x mh1 p y H1 as1 e1 r rh1 => ?_⟩
  split at p
  · rename_i n
    obtain ⟨a, rfl, e0⟩ := r.of_ref
    split at p
    · rename_i C fs q
      obtain ⟨dx, vs, h1, h2⟩ := rh1.ins q e0
      obtain ⟨hC, p⟩ := p
      split at p
      · rename_i u' eu
        obtain ⟨v, g1, g2⟩ := lookF_rv h2 eu
        refine ⟨a, C, dx, vs, v, rfl, h1, (F C hC).1, (F C hC).2, g1, sl, mh1, as1, _, rs.ev e1, rh1, p, fun w mh2 p2 y2 H2 as2 e2 r2 rh2 => ⟨u', w, mh2, as2, _, g2.ev e2, r2, rh2, p2, fun z mh3 p3 v3 H3 as3 e3 r3 rh3 => ?_⟩⟩
        have e0' : as3[n]? = some a := by
          obtain ⟨t, rfl⟩ := (e2.trans e3).ap
          rw [List.getElem?_append_left (List.getElem?_eq_some_iff.mp e0).1]; exact e0
        split at p3
        · rename_i C' fs' q3
          obtain ⟨dx', vs', h3, h4⟩ := rh3.ins q3 e0'
          obtain ⟨rfl, hl, p3⟩ := p3
          refine ⟨dx', vs', h3, by rw [← Paired.length h4]; exact hl, ?_⟩
          have e4 := rh3.evPut (o' := .ins C' dx' (putF f v3 vs')) q3 e0'
          exact k.nx _ _ p3 _ _ _ (((e1.trans e2).trans e3).trans e4) ((((rs.ev e1).ev e2).ev e3).ev e4) (rh3.put q3 e0' (.ins (putFU_ok r3 h4)))
        · exact p3.elim
      · exact p.elim
    · exact p.elim
  · exact p.elim
end
/-! ### a[i] = v -/
def uSet : U → U → U → MH → (MH → Prop) → Prop := fun o i v mh P => match o with
  | .ref n => match mh[n]? with
    | some (.lst us) => match i with
      | .int k => match ixN us.length k with
        | some j => P (mh.set n (.lst (us.set j v)))
        | none => False
      | _ => False
    | some (.dK kvs) => match uKey i with
      | some k => kvs.length < sizeLine ∧ P (mh.set n (.dK (putU kvs k v)))
      | none => False
    | _ => False
  | _ => False
def gSet (mo mi : ME) : MG := fun u sl mh P => mo sl mh fun o mh1 => mi sl mh1 fun i mh2 => uSet o i u mh2 fun mh3 => P sl mh3
section
variable {X : Cx} {pos : Pos}
def tSetM (K : PySem.W.Frag) : TSet := fun o i v H Q => ∃ uo ui u mh as P, RV K as H uo o ∧ RV K as H ui i ∧ RV K as H u v ∧ RH K as H mh ∧ uSet uo ui u mh P ∧ ∀ mh', P mh' → ∀ H' as', Ev as H as' H' → RH K as' H' mh' → Q H'
theorem set_any (hu : X.A.units + 1 < cLine) : PSet X (tSetM X.K) := by
  intro pins s σ H o i v ov iv u Q I ro ri rv h
  obtain ⟨uo, ui, uu, mh, as, P, r1, r2, r3, rh, h, k⟩ := h
  unfold uSet at h
  split at h
  · obtain ⟨a, rfl, e0⟩ := r1.of_ref
    split at h
    · rename_i us q
      obtain ⟨vs, h1, h2⟩ := rh.lst q e0
      split at h
      · obtain rfl := r2.nn
        split at h
        · rename_i j ej
          exact set_list pins s σ H _ _ v ov iv u Q I ro ri rv ⟨a, vs, _, j, rfl, rfl, h1, by rw [← Paired.length h2]; exact ej, k _ h _ _ (rh.evPut q e0) (rh.put q e0 (.lst (prd_set r3 j h2)))⟩
        · exact h.elim
      · exact h.elim
    · rename_i kvs q
      obtain ⟨vs, h1, h2⟩ := rh.dK q e0
      split at h
      · rename_i kk ek
        obtain rfl := uKey_rv r2 ek
        cases ro
        exact d_setItem hu I (DPut.k h1 (by rw [← Paired.length h2]; exact h.1)) ri rv fun s4 I4 => ⟨_, I4, k _ h.2 _ _ (rh.evPut q e0) (rh.put q e0 (.dK (putU_ok h2 r3)))⟩
      · exact h.elim
    · exact h.elim
  · exact h.elim
theorem sg_sub {o i : Expr} {mo mi : ME} (hu : X.A.units + 1 < cLine) (ho : PE X o (tM X.K mo)) (hi : PE X i (tM X.K mi))
    (ha : ∀ v, assign (.Subscript o i pos) X.env v = (do
      let ov ← holding [v] (eval o X.env)
      let iv ← holding [v, ov] (eval i X.env)
      standAt pos
      holding [v, ov, iv] (setItem ov iv v)
      release [v, ov, iv] []) := by intro _; rfl) : PG X (.Subscript o i pos) (tMG X.K (gSet mo mi)) := by
  refine (pg_sub ho hi (set_any hu) ha).imp fun v σ H Q h => ?_
  obtain ⟨u, sl, mh, as, P, r, rs, rh, h, k⟩ := h
  exact ⟨sl, mh, as, _, rs, rh, h, fun o' mh1 p x H1 as1 e1 r1 rh1 => ⟨sl, mh1, as1, _, rs.ev e1, rh1, p, fun i' mh2 p2 y H2 as2 e2 r2 rh2 => ⟨o', i', u, mh2, as2, _, r1.ev e2, r2, (r.ev e1).ev e2, rh2, p2, fun mh3 p3 H3 as3 e3 rh3 => k _ _ p3 _ _ _ ((e1.trans e2).trans e3) (((rs.ev e1).ev e2).ev e3) rh3⟩⟩⟩
theorem sp_sub {o i e : Expr} {mo mi m : ME} {pos' : Pos} (hu : X.A.units + 1 < cLine) (ho : PE X o (tM X.K mo)) (hi : PE X i (tM X.K mi)) (he : PE X e (tM X.K m)) (hs : swapsWith e (some (.Subscript o i pos')) pos.line X.env = pure false := by rfl)
    (ha : ∀ v, assign (.Subscript o i pos') X.env v = (do
      let ov ← holding [v] (eval o X.env)
      let iv ← holding [v, ov] (eval i X.env)
      standAt pos'
      holding [v, ov, iv] (setItem ov iv v)
      release [v, ov, iv] []) := by intro _; rfl) : PS X (.Assign [.Subscript o i pos'] e pos) (tMS X.K (mAsg m (gSet mo mi))) := by
  refine ⟨fun pins s σ H D I h => ?_⟩
  obtain ⟨sl, mh, as, N, rs, rh, h, k⟩ := h
  refine wpAny_Assign_Subscript (thn (he.run pins s σ H (fun v H1 => ∃ u mh1 as1, Ev as H as1 H1 ∧ RV X.K as1 H1 u v ∧ RH X.K as1 H1 mh1 ∧ gSet mo mi u sl mh1 N.nx) I ⟨sl, mh, as, _, rs, rh, h, fun u mh1 p v H1 as1 e1 r rh1 => ⟨u, mh1, as1, e1, r, rh1, p⟩⟩) fun r s1 ⟨v, H1, I1, rv, u, mh1, as1, e1, ru, rh1, p1⟩ => ?_) hs
  refine thn (ho.run pins s1 σ H1 (fun x H2 => ∃ uo mh2 as2, Ev as1 H1 as2 H2 ∧ RV X.K as2 H2 uo x ∧ RH X.K as2 H2 mh2 ∧ mi sl mh2 fun i mh2 => uSet uo i u mh2 fun mh3 => N.nx sl mh3) I1 ⟨sl, mh1, as1, _, rs.ev e1, rh1, p1, fun u mh1 p v H1 as1 e1 r rh1 => ⟨u, mh1, as1, e1, r, rh1, p⟩⟩) fun ov s2 ⟨x, H2, I2, rx, uo, mh2, as2, e2, ro, rh2, p2⟩ => ?_
  refine thn (hi.run pins s2 σ H2 (fun y H3 => ∃ ui mh3 as3, Ev as2 H2 as3 H3 ∧ RV X.K as3 H3 ui y ∧ RH X.K as3 H3 mh3 ∧ uSet uo ui u mh3 fun mh3 => N.nx sl mh3) I2 ⟨sl, mh2, as2, _, (rs.ev e1).ev e2, rh2, p2, fun u mh1 p v H1 as1 e1 r rh1 => ⟨u, mh1, as1, e1, r, rh1, p⟩⟩) fun iv s3 ⟨y, H3, I3, ry, ui, mh3, as3, e3, ri, rh3, p3⟩ => ?_
  refine thn (set_any hu pins s3 σ H3 x y v ov iv r (fun H4 => D.nx σ H4) I3 rx ry rv ⟨uo, ui, u, mh3, as3, _, ro.ev e3, ri, (ru.ev e2).ev e3, rh3, p3, fun mh4 p4 H4 as4 e4 rh4 => ?_⟩) fun _ s4 ⟨H4, I4, q⟩ => ⟨σ, H4, I4, q⟩
  exact k.nx _ _ p4 _ _ _ (((e1.trans e2).trans e3).trans e4) ((((rs.ev e1).ev e2).ev e3).ev e4) rh4
end
end Sm

namespace Tk
open PySem PySem.Spec PyProof.Rows L2
/-- zip of a list and a tuple: the items as they stand, in new pairs -/
def ItzM (K : PySem.W.Frag) (a b : Addr) : It :=
  ⟨fun i H => ∃ (xs ys : List V) (x y : V), SqL K H a xs ∧ SqT K H b ys ∧ xs[i]? = some x ∧ ys[i]? = some y,
    fun i H v H' => ∃ T x y, v = .ref T ∧ H T = none ∧ H' = upd H T (.tup [x, y]) ∧ (∀ l, SqL K H a l → l[i]? = some x) ∧ ∀ l, SqT K H b l → l[i]? = some y,
    fun i H => ∃ xs ys : List V, SqL K H a xs ∧ SqT K H b ys ∧ i ≤ xs.length ∧ i ≤ ys.length ∧ (xs.length = i ∨ ys.length = i)⟩
def MixTn (z TO TI i1 i2 a b : Addr) (i : Nat) (h : Heap) : Prop :=
  IsZip h z TI TO .none ∧ IsTupOf2 h TI (.ref i1) (.ref i2) ∧ (∃ x y, IsTupOf2 h TO x y) ∧ h.IsListIter i1 a i ∧ h.IsTupleIter i2 b i
theorem inList5 {c z TI TO i1 i2 : Addr} (h : c ∈ [z, TI, TO, i1, i2]) : c = z ∨ c = TI ∨ c = TO ∨ c = i1 ∨ c = i2 := by simpa using h
theorem turn_mix {P : Program} {w : World} {K : PySem.W.Frag} {elts : List Expr} {kk : Nat} {tpos : Pos} {a b z TI TO i1 i2 : Addr} (S : ZipSep2 z TI TO i1 i2 [i1, a] [i2, b]) :
    Turn P w K (.Tuple elts kk tpos) (ItzM K a b) [z, TI, TO, i1, i2] z (MixTn z TO TI i1 i2 a b) where
  mem := List.mem_cons_self
  obj := fun i h st c hc => by
    obtain ⟨g1, g2, ⟨x, y, g3⟩, ⟨o1, e1, _, d1⟩, ⟨o2, e2, _, d2⟩⟩ := st
    rcases inList5 hc with rfl | rfl | rfl | rfl | rfl
    · exact ⟨_, g1, fun v q => nomatch q⟩
    · exact ⟨_, g2, fun v q => nomatch q⟩
    · exact ⟨_, g3, fun v q => nomatch q⟩
    · exact ⟨o1, e1, fun v q => by rw [d1] at q; cases q⟩
    · exact ⟨o2, e2, fun v q => by rw [d2] at q; cases q⟩
  keep := fun i h h' st k => by
    obtain ⟨g1, g2, ⟨x, y, g3⟩, g4, g5⟩ := st
    refine ⟨k z (by simp) _ g1, k TI (by simp) _ g2, ⟨x, y, k TO (by simp) _ g3⟩, g4.at fun o q => k i1 (by simp) o q, g5.at fun o q => k i2 (by simp) o q⟩
  self := fun A i s Q E st h => wpAny_pyIter_zip st.1 h
  item := by
    intro X hP hw hK hc i pins s σ H E I hf st hg
    subst hP hw hK
    obtain ⟨g1, g2, ⟨x0, y0, g3⟩, g4, g5⟩ := st
    obtain ⟨xs, ys, x, y, hqx, hqy, hx, hy⟩ := hg
    obtain ⟨its, rv, p, _⟩ := I.list hqx
    obtain ⟨its2, rv2, p2, _⟩ := I.tuple hqy
    obtain ⟨u, hu, ru⟩ := rv.get hx
    obtain ⟨u2, hu2, ru2⟩ := rv2.get hy
    have hh := I.ok.hd hc
    have l1 : i < its.toArray.size := by rw [List.size_toArray]; exact (List.getElem?_eq_some_iff.mp hu).1
    have l2 : i < its2.toArray.size := by rw [List.size_toArray]; exact (List.getElem?_eq_some_iff.mp hu2).1
    have nea : a ≠ i1 := fun e => by
      obtain ⟨o, ho, hcl, _⟩ := g4
      obtain ⟨o', ho', hcl', _⟩ := p.isList
      rw [e, ho] at ho'
      cases ho'
      rw [hcl] at hcl'
      exact absurd hcl' (by decide)
    have neb : b ≠ i2 := fun e => by
      obtain ⟨o, ho, hcl, _⟩ := g5
      obtain ⟨o', ho', hcl', _⟩ := p2
      rw [e, ho] at ho'
      cases ho'
      rw [hcl] at hcl'
      exact absurd hcl' (by decide)
    have hzl : z < s.heap.objs.size := Heap.lt_size g1
    refine wpAny_pyNext_zipD2_item S (Draws.list (A := X.A.in1) hh i1 a nea its.toArray) (Draws.tuple (A := X.A.in1) hh i2 b neb its2.toArray) g1 g2 g3 ⟨g4, p.isList⟩ ⟨g5, p2⟩ l1 l2
      fun x1 x2 h' tk q1 q2 z' TO' st1 st2 hT hsz hk => ?_
    have e1 : x1 = u := by have q := q1.symm.trans (show its.toArray[i]? = some u by simpa using hu); exact Option.some.inj q
    have e2 : x2 = u2 := by have q := q2.symm.trans (show its2.toArray[i]? = some u2 by simpa using hu2); exact Option.some.inj q
    subst e1 e2
    refine ⟨_, rfl, wpAny_letOwnedTupleGo_zip (s := { s with heap := h', toks := tk }) z' fun h'' z'' sb => ?_⟩
    have hT2 : h''.get? s.heap.objs.size = some { cls := .type "tuple", data := .seq #[x1, x2] } := (sb.2 _ (Nat.ne_of_gt hzl)).trans hT
    have newP : ObjOk X.prog X.w (upd H s.heap.objs.size (.tup [x, y])) h'' s.heap.objs.size (.tup [x, y]) :=
      ⟨by show 2 ≤ sizeLine; decide, [x1, x2], .cons ru (.cons ru2 .nil), ⟨_, hT2, rfl, _, rfl⟩⟩
    have kk2 : ∀ c o, c ∉ [z, TI, TO, i1, i2] → s.heap.get? c = some o → h''.get? c = some o := fun c o hb q => by
      simp only [List.mem_cons, List.not_mem_nil, or_false, not_or] at hb
      exact (sb.2 c hb.1).trans (hk c o hb.1 hb.2.2.1 hb.2.2.2.1 hb.2.2.2.2 q)
    have I1 : Inv X pins σ (upd H s.heap.objs.size (.tup [x, y])) { s with heap := h'', toks := tk } := I.turnedNew (t' := tk) (ch := [z, TI, TO, i1, i2]) kk2 hf (Nat.le_refl _) newP
    refine ⟨.ref s.heap.objs.size, _, I1, rfl, ⟨_, x, y, rfl, I.hok.fresh (Nat.le_refl _), rfl, fun l hl => ?_, fun l hl => by rw [I.tuple_inj hl hqy]; exact hy⟩, ⟨z'', ?_, ⟨x1, x2, ?_⟩, ?_, ?_⟩, fun c hcm => ?_⟩
    · obtain ⟨its', rv', p', _⟩ := I.list hl
      have ea : its'.toArray = its.toArray := by
        obtain ⟨o, n1, ho, _, _, hd1⟩ := p
        obtain ⟨o', n2, ho', _, _, hd2⟩ := p'
        rw [ho] at ho'
        cases ho'
        rw [hd1] at hd2
        cases hd2
        rfl
      have eb : its' = its := by simpa using ea
      subst eb
      rw [Vals.inj rv' rv]
      exact hx
    · exact (sb.2 _ S.TIz).trans (hk _ _ S.TIz S.TITO S.TIi1 S.TIi2 g2)
    · exact (sb.2 _ S.TOz).trans TO'
    · exact st1.1.at fun o q => (sb.2 _ S.zi1.symm).trans q
    · exact st2.1.at fun o q => (sb.2 _ S.zi2.symm).trans q
    · have hlt : c < s.heap.objs.size := by
        rcases inList5 hcm with rfl | rfl | rfl | rfl | rfl
        · exact hzl
        · exact Heap.lt_size g2
        · exact Heap.lt_size g3
        · obtain ⟨_, e1, _⟩ := g4; exact Heap.lt_size e1
        · obtain ⟨_, e1, _⟩ := g5; exact Heap.lt_size e1
      rw [upd_ne (Nat.ne_of_lt hlt)]
      exact (hf c hcm).1
  done := by
    intro X hP hw hK hc i pins s σ H E I hf st hg
    subst hP hw hK
    obtain ⟨g1, g2, ⟨x0, y0, g3⟩, g4, g5⟩ := st
    obtain ⟨xs, ys, hqx, hqy, m1, m2, hend⟩ := hg
    obtain ⟨its, rv, p, _⟩ := I.list hqx
    obtain ⟨its2, rv2, p2, _⟩ := I.tuple hqy
    have hh := I.ok.hd hc
    have nea : a ≠ i1 := fun e => by
      obtain ⟨o, ho, hcl, _⟩ := g4
      obtain ⟨o', ho', hcl', _⟩ := p.isList
      rw [e, ho] at ho'
      cases ho'
      rw [hcl] at hcl'
      exact absurd hcl' (by decide)
    have neb : b ≠ i2 := fun e => by
      obtain ⟨o, ho, hcl, _⟩ := g5
      obtain ⟨o', ho', hcl', _⟩ := p2
      rw [e, ho] at ho'
      cases ho'
      rw [hcl] at hcl'
      exact absurd hcl' (by decide)
    have l1 := rv.length
    have l2 := rv2.length
    refine wpAny_pyNext_zipD2_end S (Draws.list (A := X.A.in1) hh i1 a nea its.toArray) (Draws.tuple (A := X.A.in1) hh i2 b neb its2.toArray) g1 g2 g3 ⟨g4, p.isList⟩ ⟨g5, p2⟩
      (by rw [List.size_toArray]; omega) (by rw [List.size_toArray]; omega) (by rw [List.size_toArray, List.size_toArray]; omega) fun h' tk hk => ⟨rfl, I.turnedL (t' := tk) (ch := [z, TI, TO, i1, i2]) (fun c o hb q => ?_) hf⟩
    simp only [List.mem_cons, List.not_mem_nil, or_false, not_or] at hb
    exact hk c o hb.1 hb.2.2.1 hb.2.2.2.1 hb.2.2.2.2 q

def iZipM (K : PySem.W.Frag) (ta : TA) : TI := fun σ H R => ta σ H fun vs H1 => ∃ a b xs ys, vs = [.ref a, .ref b] ∧ SqL K H1 a xs ∧ SqT K H1 b ys ∧ R (ItzM K a b) H1
theorem pi_zipM {X : Cx} {e e2 : Expr} {ta : TA} {p pos tpos : Pos} {elts : List Expr} {kk : Nat} (hg : Gl X "zip") (hm : X.mg "zip" = none) (ha : PA X [e, e2] ta)
    (hs : starEach [e, e2] X.env = (false, eval e X.env) :: starEach [e2] X.env := by rfl) (hpl : (backTo pos (starEach [e2] X.env)).any (·.1) = false := by rfl) :
    PI X (.Tuple elts kk tpos) (.Call (.Name "zip" p) [e, e2] [] pos) (iZipM X.K ta) := by
  constructor
  intro pins s σ H R I h
  refine Call_ (ld_blt I hg hm PyProof.Rows.boot_zip (PyProof.Rows.callWith_type1 (thn (ha.run pos pins s σ H _ I h) fun us s1 hq => ?_) hs hpl))
  obtain ⟨vs, H1, I1, r1, a, b, xs, ys, ex, hqx, hqy, q⟩ := hq
  subst ex
  obtain ⟨u, u2, rfl, ru, ru2⟩ := vals2 r1
  obtain rfl : u = Value.ref a := ru
  obtain rfl : u2 = Value.ref b := ru2
  obtain ⟨its, rv, p1, _⟩ := I1.list hqx
  obtain ⟨its2, rv2, p2, _⟩ := I1.tuple hqy
  obtain ⟨oa, hoa, _⟩ := id p1.isList
  obtain ⟨ob, hob, _⟩ := id p2
  have la := Heap.lt_size hoa
  have lb := Heap.lt_size hob
  refine zip_begins2 (begins_list a its.toArray) (begins_tuple b its2.toArray) p1.isList p2 fun h' hz hTI hTO h1 h2 hsz hk => wpAny_pyIter_zip hz ?_
  have I2 : Inv X pins σ H1 { s1 with heap := h' } := I1.kept (t' := s1.toks) hk
  refine ⟨s1.heap.objs.size + 4, [s1.heap.objs.size + 4, s1.heap.objs.size + 2, s1.heap.objs.size + 3, s1.heap.objs.size, s1.heap.objs.size + 1], _, _, H1, rfl, I2,
    turn_mix (zip_sep2 (fun c hc => by rw [List.mem_singleton.mp hc]; exact la) (fun c hc => by rw [List.mem_singleton.mp hc]; exact lb)), ⟨hz, hTI, ⟨_, _, hTO⟩, ⟨_, h1, rfl, rfl⟩, ⟨_, h2, rfl, rfl⟩⟩, fun c hcm => ?_, q⟩
  have hle : s1.heap.objs.size ≤ c := by
    rcases inList5 hcm with z | z | z | z | z <;> (rw [z]; first | exact Nat.le_add_right _ _ | exact Nat.le_refl _)
  exact I1.fpOk hle (I1.hok.fresh hle)
/-- a loop over such a zip: as many turns as the shorter one has items -/
theorem for_zipM {K : PySem.W.Frag} {a b : Addr} {xs ys : List V} {g : TG} {tb : TS} {D : Ends} {σ : L2.St} {H : Hp} (Pv : Nat → L2.St → Hp → Prop) (h0 : Pv 0 σ H) (hq : ∀ i σ H, Pv i σ H → SqL K H a xs ∧ SqT K H b ys)
    (hs : ∀ (i : Nat) (x y : V) (T : Addr) (σ : L2.St) (H : Hp), xs[i]? = some x → ys[i]? = some y → Pv i σ H → H T = none → g (.ref T) σ (upd H T (.tup [x, y])) fun σ2 H2 => tb { D with nx := Pv (i + 1), ct := Pv (i + 1), bk := D.nx } σ2 H2)
    (hd : ∀ σ H, Pv (min xs.length ys.length) σ H → D.nx σ H) :
    ∃ W : Nat → Nat → L2.St → Hp → Prop, (∃ m, W 0 m σ H) ∧ ∀ i m σ H, W i m σ H →
      ((ItzM K a b).stop i H ∧ D.nx σ H) ∨ ((ItzM K a b).go i H ∧ ∃ N : L2.St → Hp → Prop, (∀ σ' H', N σ' H' → ∃ m', m' < m ∧ W (i + 1) m' σ' H') ∧ ∀ v H', (ItzM K a b).yld i H v H' → g v σ H' fun σ2 H2 => tb { D with nx := N, ct := N, bk := D.nx } σ2 H2) := by
  refine ⟨fun i m σ H => m = min xs.length ys.length - i ∧ i ≤ min xs.length ys.length ∧ Pv i σ H, ⟨_, rfl, Nat.zero_le _, h0⟩, ?_⟩
  rintro i m σ H ⟨rfl, hi, pp⟩
  obtain ⟨qx, qy⟩ := hq i σ H pp
  by_cases hlt : i < min xs.length ys.length
  · have lx : i < xs.length := by omega
    have ly : i < ys.length := by omega
    refine .inr ⟨⟨xs, ys, _, _, qx, qy, List.getElem?_eq_getElem lx, List.getElem?_eq_getElem ly⟩, Pv (i + 1), fun σ' H' p' => ⟨_, by omega, rfl, by omega, p'⟩, ?_⟩
    rintro v H' ⟨T, x, y, rfl, hT, rfl, f1, f2⟩
    exact hs i x y T σ H (f1 _ qx) (f2 _ qy) pp hT
  · have e : i = min xs.length ys.length := by omega
    refine .inl ⟨⟨xs, ys, qx, qy, by omega, by omega, by omega⟩, hd σ H ?_⟩
    rw [← e]; exact pp
end Tk

namespace Tk
open PySem PySem.Spec PyProof.Rows L2
/-- o.m(k = v, ..): keywords alone -/
def tMethKw (C : Addr) (m : Str) (n : Nat) (sp : Sp) (gV : List V → List V → List V) (ta : TE) (tk : TA) : TE := fun σ H Q => ta σ H fun x H1 => ∃ a dx fs, x = .ref a ∧ H1 a = some (.ins C dx fs) ∧ fs.lookup m = none ∧
  tk σ H1 fun zs H2 => zs.length = n ∧ sp (gV [x] zs) H2 Q E0
section
variable {X : Cx} {k j : Nat} {x m : Str} {ps ks : List Str} {sp : Sp} {C : Addr} {o : Expr} {tk : TA} {ta : TE} {p pos apos : Pos} {kws : List Keyword} {g : List Value → List Value → List Value} {gV : List V → List V → List V}
theorem pmK {pl : Sem Bool} (c : Cls X.K C) (M : MCal X.prog X.w X.K X.mg X.base C k m ps sp) (hb : KBn X.K M.fd ps 1 ks g gV) (hr : Room j X.A) (he : PE X o ta) (hkw : PK X kws tk) (hj : k ≤ j := by decide)
    (hall : (backToKw pos (keywordEach kws X.env)).all (·.1.isSome) = true := by rfl) (hks : (backToKw pos (keywordEach kws X.env)).filterMap (·.1) = ks := by rfl)
    (hpl : ((backTo pos (starEach [] X.env)).any (·.1) || (backToKw pos (keywordEach kws X.env)).any (·.1.isNone)) = false := by rfl)
    (ht : eval (.Call (.Attribute o m apos) [] kws pos) X.env = (do let ob ← eval o X.env; standAt apos.atName; let (g, fs) ← holding [ob] (getMethod ob m pl); callWith pos g fs (backTo pos (starEach [] X.env)) (backToKw pos (keywordEach kws X.env))) := by rfl) :
    PE X (.Call (.Attribute o m apos) [] kws pos) (tMethKw C m ks.length sp gV ta tk) := by
  refine ⟨fun pins s σ H Q I h => ?_⟩
  refine PySem.W.methodCall_KW (pl := pl) (thn (he.run pins s σ H _ I h) fun u s1 ⟨x, H1, I1, rx, a, dx, fs, ex, ea, l, q⟩ => ?_) ht
  subst ex
  obtain rfl : u = Value.ref a := rx
  refine getmeth_ok I1 ea c M.me l ?_
  refine PySem.W.callWith_KW0 (first := [.ref a]) (h₀ := X.base) I.ok.mod.kin M.me.kp hall (thn (hkw.run pos pins s1 σ H1 _ I1 q) fun ws s2 hz => ?_) hpl
  obtain ⟨zs, H2, I2, rz, l2, q2⟩ := hz
  refine ⟨I2.kIn, ?_⟩
  rw [hks]
  exact run_fnN (us := [.ref a]) (vs := [.ref a]) M.ok (hr.mono hj) hb pass0 I2 (.cons rfl .nil) rz rfl l2 q2
/-- C(k = v, ..) -/
theorem pmkK {C f : Addr} {fd : FuncData} (hM : Mk X.K C f) (F : FnOk X.prog X.w X.K X.mg X.base CX0 k f fd ps sp) (hb : KBn X.K fd ps 1 ks g gV) (hr : Room j X.A) (hm : X.mg x = some (.ref C)) (hkw : PK X kws tk) (hj : k + 1 ≤ j := by decide) (hg : Gl X x := by rfl)
    (hall : (backToKw pos (keywordEach kws X.env)).all (·.1.isSome) = true := by rfl) (hks : (backToKw pos (keywordEach kws X.env)).filterMap (·.1) = ks := by rfl) (hdb : (x == ("__debug__" : Str)) = false := by decide)
    (hpl : ((backTo pos (starEach [] X.env)).any (·.1) || (backToKw pos (keywordEach kws X.env)).any (·.1.isNone)) = false := by rfl) :
    PE X (.Call (.Name x p) [] kws pos) (tMakeK C 0 ks.length sp gV E0 tNil tk) := pe_makeK0 hM F (hr.mono hj) hg hm hb pass0 hkw hall hks hdb hpl
end
/-- one keyword behind the first argument -/
def one1 {α : Type} (us ws : List α) : List α := us ++ ws
theorem one1_rel {vs : List V} {us : List Value} {zs : List V} {ws : List Value} (r1 : Vals vs us) (r : Vals zs ws) : Vals (one1 vs zs) (one1 us ws) := r1.append r
/-- two keywords, turned, behind the first argument -/
def two1 {α : Type} (us ws : List α) : List α := us ++ ws.reverse
theorem vals_rev : ∀ {zs : List V} {ws : List Value}, Vals zs ws → Vals zs.reverse ws.reverse
  | _, _, .nil => .nil
  | _, _, .cons r t => by
    rw [List.reverse_cons, List.reverse_cons]
    exact (vals_rev t).append (.cons r .nil)
theorem two1_rel {vs : List V} {us : List Value} {zs : List V} {ws : List Value} (r1 : Vals vs us) (r : Vals zs ws) : Vals (two1 vs zs) (two1 us ws) := r1.append (vals_rev r)
end Tk

namespace Tk
open PySem PySem.Spec PyProof.Rows L2
/-! ### a def that calls repr: its promise holds where nothing is shown yet -/
structure FnG (P : Program) (w : World) (K : PySem.W.Frag) (mg : Str → Option Value) (base : Heap) (k : Nat) (f : Addr) (fd : FuncData) (ps : List Str) (sp : Sp) : Prop where
  len : ∀ vs H Q E, sp vs H Q E → vs.length = ps.length
  run : ∀ (A : Around) (outer : List Env) (s : Shared) (H : Hp) (args : Args) (us : List Value) (vs : List V) (Q : VK) (E : XK), Room k A → A.guards = some [] → Env0 P w K mg base A outer s H → BindsTo s fd args (ps.zip us) → Vals vs us → sp vs H Q E →
    codeAny (model P w) A (.call (.ref f) args) (CR CX0 outer P w H s Q E) s
section
variable {P : Program} {w : World} {K : PySem.W.Frag} {mg : Str → Option Value} {base : Heap}
theorem okG {x qual : Str} {st : Stmt} {f : Addr} {fd : FuncData} {N ps : List Str} {k : Nat} {sp : Sp} (F : Fun K x qual st f fd) (S : FnScope N ps (defScope st)) (len : ∀ vs H Q E, sp vs H Q E → vs.length = ps.length)
    (hbody : ∀ (cdv : Value) (A : Around) (outer : List Env) (s : Shared) (H : Hp) (vs : List V) (Q : VK) (E : XK), Room k (A.deeper (envOfC qual (defScope st) s.heap.objs.size f cdv)) → (A.deeper (envOfC qual (defScope st) s.heap.objs.size f cdv)).guards = some [] → sp vs H Q E →
      ∃ t, PSs (cxOf CX0 P w K mg base N qual (defScope st) f cdv A outer s H E).nox (defBody st) t ∧ t { nx := fun _ H' => Q .non H', rt := Q } (start N vs) H) : FnG P w K mg base (k + 1) f fd ps sp :=
  ⟨len, fun A outer s H args us vs Q E hr hg e0 hb r hs => def_run F S (len _ _ _ _ hs) hr e0 hb r fun cdv => hbody cdv A outer s H vs Q E (hr.deeper _) hg hs⟩
end
structure CalG (P : Program) (w : World) (K : PySem.W.Frag) (mg : Str → Option Value) (base : Heap) (k : Nat) (x : Str) (ps : List Str) (sp : Sp) where
  f : Addr
  fd : FuncData
  g : mg x = some (.ref f)
  kp : PySem.W.keepIn K (.ref f) = true
  b : Binds K fd ps []
  ok : FnG P w K mg base k f fd ps sp
def DefT.calG {P : Program} {w : World} {K : PySem.W.Frag} {mg : Str → Option Value} {base : Heap} {x : Str} {st : Stmt} {k : Nat} {ps : List Str} {sp : Sp} (D : DefT K mg x st) (b : Binds K D.fd ps []) (ok : FnG P w K mg base k D.f D.fd ps sp) : CalG P w K mg base k x ps sp := ⟨D.f, D.fd, D.g, D.F.kp, b, ok⟩
theorem FnG.mono {P : Program} {w : World} {K : PySem.W.Frag} {mg : Str → Option Value} {base : Heap} {j k : Nat} {f : Addr} {fd : FuncData} {ps : List Str} {sp : Sp} (F : FnG P w K mg base j f fd ps sp) (h : j ≤ k) : FnG P w K mg base k f fd ps sp :=
  ⟨F.len, fun A outer s H args us vs Q E hr => F.run A outer s H args us vs Q E (hr.mono h)⟩
section
variable {X : Cx} {k j : Nat} {x m : Str} {ps : List Str} {sp : Sp} {e : Expr} {es : List Expr} {t : TA} {p pos : Pos}
theorem pcG (D : CalG X.prog X.w X.K X.mg X.base k x ps sp) (hr : Room j X.A) (hgd : X.A.guards = some []) (ha : PA X (e :: es) t) (hj : k ≤ j := by decide) (hg : Gl X x := by rfl)
    (hdb : (x == ("__debug__" : Str)) = false := by decide) (he : starEach (e :: es) X.env = (false, eval e X.env) :: starEach es X.env := by rfl) (hpl : (backTo pos (starEach es X.env)).any (·.1) = false := by rfl) :
    PE X (.Call (.Name x p) (e :: es) [] pos) (tCall sp [] E0 t) := by
  refine ⟨fun pins s σ H Q I h => ?_⟩
  refine wpAny_Call_Name_kw (ld_glob I hg D.g ?_ hdb)
  refine PySem.W.callWith_K (h₀ := X.base) I.ok.mod.kin D.kp (thn (ha.run pos pins s σ H _ I h) fun us s1 ⟨vs, H1, I1, r, q⟩ => ⟨I1.kIn, ?_⟩) he hpl
  have r2 : Vals (vs ++ []) (us ++ []) := r.append .nil
  have hl : (us ++ []).length = ps.length := by rw [← r2.length]; exact D.ok.len _ _ _ _ q
  refine wpAny_call (codeAny_mono (D.ok.run X.A X.stack s1 H1 ⟨us, []⟩ (us ++ []) (vs ++ []) Q E0 (hr.mono hj) hgd I1.env0 (D.b s1 us I1.kIn hl) r2 q) fun r s' hq => ?_)
  cases r with
  | error e => exact pass0 pins σ H1 s1 e s' I1 hq
  | ok fl =>
    cases fl with
    | ret u => exact I1.after hq
    | next => exact False.elim hq
    | brk => exact False.elim hq
    | cont => exact False.elim hq
end
end Tk

namespace Tk
open PySem PySem.Spec PyProof.Rows L2
/-! ### C() of an exception of the program over Exception, whose own __init__ does nothing -/
abbrev exTail : List Value := [.type "Exception", .type "BaseException", .type "object"]
def refsEx : List Value → Bool
  | .ref _ :: r => refsEx r
  | l => l == exTail
theorem refsEx_cases : ∀ l : List Value, refsEx l = true → (∃ c r, l = .ref c :: r ∧ refsEx r = true) ∨ l = exTail
  | [], e => .inr (beq_iff_eq.mp e)
  | .ref c :: r, e => .inl ⟨c, r, rfl, e⟩
  | .none :: _, e => .inr (beq_iff_eq.mp e)
  | .ellipsis :: _, e => .inr (beq_iff_eq.mp e)
  | .notImplemented :: _, e => .inr (beq_iff_eq.mp e)
  | .bool _ :: _, e => .inr (beq_iff_eq.mp e)
  | .int _ _ :: _, e => .inr (beq_iff_eq.mp e)
  | .float _ _ :: _, e => .inr (beq_iff_eq.mp e)
  | .str _ _ :: _, e => .inr (beq_iff_eq.mp e)
  | .bytes _ _ :: _, e => .inr (beq_iff_eq.mp e)
  | .type _ :: _, e => .inr (beq_iff_eq.mp e)
  | .builtin _ :: _, e => .inr (beq_iff_eq.mp e)
theorem refsEx_contains (X : String) : ∀ l : List Value, refsEx l = true → l.contains (.type X) = exTail.contains (.type X) := by
  intro l
  induction l with
  | nil => intro e; exact absurd e (by decide)
  | cons a r ih =>
    intro e
    rcases refsEx_cases (a :: r) e with ⟨c, r', q, h⟩ | q
    · obtain ⟨rfl, rfl⟩ := List.cons.inj q
      rw [List.contains_cons, ih h]; rfl
    · rw [q]
structure OexE (K : PySem.W.Frag) (C : Addr) : Prop where
  cls : ∃ nm q N bs bm sn sub ab col dd k0 k1 k2 k3 k5, K.lookup C = some (excClassObj nm q C N bs bm true sn sub ab col dd k0 k1 k2 k3 k5 "Exception.__new__") ∧ refsEx bm = true
  exC : PySem.W.subIn K (.ref C) (.type "BaseException") = some true
  tyC : PySem.W.typeIn K (.ref C) = some (.type "type")
  kC : PySem.W.keepIn K (.ref C) = true
def spInit0 : Sp := fun vs H Q _ => ∃ a : Addr, vs = [.ref a] ∧ Q .non H
section
variable {X : Cx}
theorem mk_end00 {pins : List (Addr × Obj)} {σ : L2.St} {H1 : Hp} {hp hp2 h2 : Heap} {g1 g2 : Array GenState} {d1 d2 : Drawn} {t1 t2 : Nat} {os1 os2 : OsState} {a C : Addr} (I1 : Inv X pins σ H1 ⟨hp, g1, d1, t1, os1⟩)
    (ha : hp.objs.size ≤ a) (k : ∀ b o, hp.get? b = some o → hp2.get? b = some o) (un : Un (frs X.stack) [] (upd H1 a (exo a C none)) (upd H1 a (exo a C none)) hp2 h2) (hok : HOk X.prog X.w (upd H1 a (exo a C none)) h2) (ho : os2 = os1) (hb : AllBare g2) :
    ∃ (t0 : Addr) (G : Heap), Inv X pins σ H1 ⟨G, g2, d2, t2, os2⟩ ∧ (∀ b o, G.get? b = some o → h2.get? b = some o) ∧ G.get? a = none ∧
      h2.get? a = some ({ cls := .ref C, dict := none, data := .fields #[.ref t0, .none, .none, .none, .bool false, .none] } : Obj) ∧ H1 a = none := by
  obtain ⟨t0, hoe⟩ := exo_at hok upd_same
  have hn : H1 a = none := I1.hok.fresh ha
  obtain ⟨G, g1', g2'⟩ := restrict h2 fun b => decide (b ≠ a)
  have gk : ∀ b, b ≠ a → G.get? b = h2.get? b := fun b hb => g1' b (decide_eq_true hb)
  have ge : G.get? a = none := g2' a (by simp)
  have nha : ∀ {b : Addr} {o : Obj}, hp.get? b = some o → b ≠ a := fun {b o} z => Nat.ne_of_lt (Nat.lt_of_lt_of_le (Heap.lt_size z) ha)
  have up : ∀ {b : Addr}, b ≠ a → H1 b = none → upd H1 a (exo a C none) b = none := fun {b} hb n => by rw [upd_ne hb]; exact n
  have U : Un (frs X.stack) [] H1 H1 hp G := {
    keep := fun b o z n hf hx => by
      rw [gk b (nha z)]
      exact un.keep b o (k b o z) (up (nha z) n) hf hx
    slot := fun b o z n hf hx => by
      rw [gk b (nha z)]
      exact un.slot b o (k b o z) (up (nha z) n) hf hx
    free := fun b o z n hx => n
    there := fun b o z hx => by
      rw [gk b (nha z)]
      exact un.there b o (k b o z) hx
    tups := fun b xs z => z
    frzs := fun b o v z => z
    tbls := fun b ps z => ⟨#[], by simpa using z⟩ }
  have hok3 : HOk X.prog X.w H1 G := fun b o z => by
    have hba : b ≠ a := ne_of_none z hn
    have z' : upd H1 a (exo a C none) b = some o := by rw [upd_ne hba]; exact z
    have noa : ∀ {c : Addr}, upd H1 a (exo a C none) c = some (.own b) → c ≠ a := fun {c} hc => at_ne upd_same hc exo_own
    exact (hok b o z').stay (fun c v hc y => by
        have hca : c ≠ a := by
          rcases hc with hc | hc
          · rw [hc]
            exact hba
          · exact noa hc
        rw [gk c hca]
        exact y)
      (fun c hc => by rw [upd_ne (noa hc)] at hc; exact hc) (fun c xs hc => by rw [upd_ne (at_ne upd_same hc exo_tup)] at hc; exact hc)
  have J : Inv X pins σ H1 ⟨G, g2, d2, t2, os2⟩ := I1.call' (ch := []) ho U hok3 hb (fun b z => absurd z (by simp))
  refine ⟨t0, G, J, fun b o z => ?_, ge, hoe, hn⟩
  by_cases hba : b = a
  · rw [hba, ge] at z
    cases z
  · exact (gk b hba).symm.trans z
theorem pmk_ex0 {x : Str} {C fI : Addr} {k j : Nat} {fd : FuncData} {p pos : Pos} (T : OexE X.K C) (iC : PySem.W.findIn X.K (.ref C) "__init__" = some (some (.ref fI))) (tI : PySem.W.typeIn X.K (.ref fI) = some (.type "function"))
    (F1 : FnOk X.prog X.w X.K X.mg X.base CX0 k fI fd ["self"] spInit0) (hr : Room j X.A) (hb : Binds X.K fd ["self"] []) (hm : X.mg x = some (.ref C)) (hj : k + 1 ≤ j := by decide) (hg : Gl X x := by rfl)
    (hdb : (x == ("__debug__" : Str)) = false := by decide) :
    PMk X (.Call (.Name x p) [] [] pos) (fun _ H Q => Q (.ref C) none H) := by
  intro pins s σ H Q I h
  have hr := hr.mono hj
  obtain ⟨nm, q, N, bs, bm, sn, sub, ab, col, dd, k0, k1, k2, k3, k5, hC, hbm⟩ := T.cls
  refine wpAny_Call_Name_kw (ld_glob I hg hm ?_ hdb)
  refine PySem.W.callWith_K0 I.kIn T.kC ?_
  show wpAny _ _ (call (.ref C) []) _ _ _
  obtain ⟨hp, g, dr, tk, os⟩ := s
  have hsz : hp.objs.size ≤ hp.objs.size + 1 := Nat.le_succ _
  have kk : ∀ b o, hp.get? b = some o → ((hp.push (PySem.W.kdv_tup [])).push (PySem.HandSPX.excO C hp.objs.size)).get? b = some o := fun b o e => Heap.get?_push_of_some _ (Heap.get?_push_of_some _ e)
  have hget : ((hp.push (PySem.W.kdv_tup [])).push (PySem.HandSPX.excO C hp.objs.size)).get? (hp.objs.size + 1) = some (PySem.HandSPX.excO C hp.objs.size) := by heap_get
  have I2 : Inv X pins σ (upd H (hp.objs.size + 1) (exo (hp.objs.size + 1) C none)) ⟨(hp.push (PySem.W.kdv_tup [])).push (PySem.HandSPX.excO C hp.objs.size), g, dr, tk, os⟩ :=
    I.laid (t' := tk) (a := hp.objs.size + 1) (o := exo (hp.objs.size + 1) C none) (h' := (hp.push (PySem.W.kdv_tup [])).push (PySem.HandSPX.excO C hp.objs.size)) kk hsz (exo_ok hget)
  have hq : spInit0 [V.ref (hp.objs.size + 1)] (upd H (hp.objs.size + 1) (exo (hp.objs.size + 1) C none)) (fun v H2 => v = .non ∧ H2 = upd H (hp.objs.size + 1) (exo (hp.objs.size + 1) C none)) (fun _ _ _ => False) := ⟨_, rfl, rfl, rfl⟩
  refine wpAny_call (PySem.HandSPX.call_own PySem.F.excBase_Exception (fun Y => refsEx_contains Y bm hbm) (I.kIn _ _ hC) (PySem.W.looks_findIn I.kIn iC) (fun self => PySem.W.bind_fn I.kIn self tI) (Nat.zero_le _)
    (codeAny_mono (F1.run _ X.stack _ _ ⟨[Value.ref (hp.objs.size + 1)], []⟩ [Value.ref (hp.objs.size + 1)] _ _ (fun _ _ _ => False) (hr.make C [] []) (I2.env0.make C [] []) (hb _ [Value.ref (hp.objs.size + 1)] I2.kIn rfl) (show Vals [V.ref (hp.objs.size + 1)] [Value.ref (hp.objs.size + 1)] from .cons rfl .nil) hq) fun r s' hq' => ?_))
  cases r with
  | error er => exact (show False from hq').elim
  | ok fl =>
    cases fl with
    | ret u =>
      obtain ⟨v, H2, os2, bare2, un2, hok2, rv, ev, eH⟩ := hq'
      subst ev eH
      obtain ⟨h2, g2, d2, t2, os'⟩ := s'
      obtain ⟨t0, G, J, kG, ge, hoe, na⟩ := mk_end00 (d2 := d2) (t2 := t2) I hsz kk un2 hok2 os2 bare2
      exact ⟨rv, ⟨hp.objs.size + 1, _, _, ⟨G, g2, d2, t2, os'⟩, _, .ref C, none, rfl, J, kG, ge, hoe, ⟨rfl, rfl⟩, rfl, rfl, na, rfl, bare2, raises_own T.exC T.tyC, h⟩⟩
    | next => exact False.elim hq'
    | brk => exact False.elim hq'
    | cont => exact False.elim hq'
end
end Tk

namespace Tk
open PySem PySem.Spec PyProof.Rows L2
/-! ### methods and defs that may raise -/
structure MCalX (P : Program) (w : World) (K : PySem.W.Frag) (mg : Str → Option Value) (base : Heap) (C : Addr) (k : Nat) (m : Str) (ps : List Str) (sp : Sp) where
  f : Addr
  fd : FuncData
  me : Meth K C m f
  b : Binds K fd ps []
  ok : FnOk P w K mg base (L2.CX P w) k f fd ps sp
def MthT.calX {P : Program} {w : World} {K : PySem.W.Frag} {mg : Str → Option Value} {base : Heap} {m qual : Str} {st : Stmt} {k : Nat} {ps : List Str} {sp : Sp} {C : Addr} (D : MthT K C m qual st) (b : Binds K D.fd ps []) (ok : FnOk P w K mg base (L2.CX P w) k D.f D.fd ps sp) : MCalX P w K mg base C k m ps sp := ⟨D.f, D.fd, D.me, b, ok⟩
section
variable {X : Cx} {k j n : Nat} {x m : Str} {ps ks : List Str} {sp : Sp} {C : Addr} {e o : Expr} {es : List Expr} {t tk : TA} {ta : TE} {p pos apos : Pos} {E : XK} {kws : List Keyword} {g : List Value → List Value → List Value} {gV : List V → List V → List V}
theorem pmX {pl : Sem Bool} (c : Cls X.K C) (M : MCalX X.prog X.w X.K X.mg X.base C k m ps sp) (hx : Passes (L2.CX X.prog X.w) X E) (hr : Room j X.A) (he : PE X o ta) (ha : PA X (e :: es) t) (hj : k ≤ j := by decide)
    (hst : starEach (e :: es) X.env = (false, eval e X.env) :: starEach es X.env := by rfl) (hpl : (backTo pos (starEach es X.env)).any (·.1) = false := by rfl)
    (ht : eval (.Call (.Attribute o m apos) (e :: es) [] pos) X.env = (do let ob ← eval o X.env; standAt apos.atName; let (g, fs) ← holding [ob] (getMethod ob m pl); callWith pos g fs (backTo pos (starEach (e :: es) X.env)) (backToKw pos (keywordEach [] X.env))) := by rfl) :
    PE X (.Call (.Attribute o m apos) (e :: es) [] pos) (tMeth C m sp [] E ta t) := pe_meth he c M.me M.ok (hr.mono hj) M.b .nil hx ha hst hpl ht
theorem pmX0 {pl : Sem Bool} (c : Cls X.K C) (M : MCalX X.prog X.w X.K X.mg X.base C k m ps sp) (hx : Passes (L2.CX X.prog X.w) X E) (hr : Room j X.A) (he : PE X o ta) (hj : k ≤ j := by decide)
    (ht : eval (.Call (.Attribute o m apos) [] [] pos) X.env = (do let ob ← eval o X.env; standAt apos.atName; let (g, fs) ← holding [ob] (getMethod ob m pl); callWith pos g fs (backTo pos (starEach [] X.env)) (backToKw pos (keywordEach [] X.env))) := by rfl) :
    PE X (.Call (.Attribute o m apos) [] [] pos) (tMeth C m sp [] E ta tNil) := pe_meth0 he c M.me M.ok (hr.mono hj) M.b .nil hx ht
/-- o.m(k = v, ..): keywords alone, and it may raise -/
def tMethKwX (C : Addr) (m : Str) (n : Nat) (sp : Sp) (gV : List V → List V → List V) (E : XK) (ta : TE) (tk : TA) : TE := fun σ H Q => ta σ H fun x H1 => ∃ a dx fs, x = .ref a ∧ H1 a = some (.ins C dx fs) ∧ fs.lookup m = none ∧
  tk σ H1 fun zs H2 => zs.length = n ∧ sp (gV [x] zs) H2 Q E
theorem pmXK {pl : Sem Bool} (c : Cls X.K C) (M : MCalX X.prog X.w X.K X.mg X.base C k m ps sp) (hx : Passes (L2.CX X.prog X.w) X E) (hb : KBn X.K M.fd ps 1 ks g gV) (hr : Room j X.A) (he : PE X o ta) (hkw : PK X kws tk) (hj : k ≤ j := by decide)
    (hall : (backToKw pos (keywordEach kws X.env)).all (·.1.isSome) = true := by rfl) (hks : (backToKw pos (keywordEach kws X.env)).filterMap (·.1) = ks := by rfl)
    (hpl : ((backTo pos (starEach [] X.env)).any (·.1) || (backToKw pos (keywordEach kws X.env)).any (·.1.isNone)) = false := by rfl)
    (ht : eval (.Call (.Attribute o m apos) [] kws pos) X.env = (do let ob ← eval o X.env; standAt apos.atName; let (g, fs) ← holding [ob] (getMethod ob m pl); callWith pos g fs (backTo pos (starEach [] X.env)) (backToKw pos (keywordEach kws X.env))) := by rfl) :
    PE X (.Call (.Attribute o m apos) [] kws pos) (tMethKwX C m ks.length sp gV E ta tk) := by
  refine ⟨fun pins s σ H Q I h => ?_⟩
  refine PySem.W.methodCall_KW (pl := pl) (thn (he.run pins s σ H _ I h) fun u s1 ⟨x, H1, I1, rx, a, dx, fs, ex, ea, l, q⟩ => ?_) ht
  subst ex
  obtain rfl : u = Value.ref a := rx
  refine getmeth_ok I1 ea c M.me l ?_
  refine PySem.W.callWith_KW0 (first := [.ref a]) (h₀ := X.base) I.ok.mod.kin M.me.kp hall (thn (hkw.run pos pins s1 σ H1 _ I1 q) fun ws s2 hz => ?_) hpl
  obtain ⟨zs, H2, I2, rz, l2, q2⟩ := hz
  refine ⟨I2.kIn, ?_⟩
  rw [hks]
  exact run_fnN (us := [.ref a]) (vs := [.ref a]) M.ok (hr.mono hj) hb hx I2 (.cons rfl .nil) rz rfl l2 q2
end
end Tk

namespace Tk
open PySem PySem.Spec PyProof.Rows L2
/-! ### in a try: a method that may raise, the wish by the slots -/
def tMethS (C : Addr) (m : Str) (sp : Sp) (E : L2.St → XK) (ta : TE) : TE := fun σ H Q => ta σ H fun x H1 => ∃ a dx fs, x = .ref a ∧ H1 a = some (.ins C dx fs) ∧ fs.lookup m = none ∧ sp [x] H1 Q (E σ)
def tMethKwS (C : Addr) (m : Str) (n : Nat) (sp : Sp) (gV : List V → List V → List V) (E : L2.St → XK) (ta : TE) (tk : TA) : TE := fun σ H Q => ta σ H fun x H1 => ∃ a dx fs, x = .ref a ∧ H1 a = some (.ins C dx fs) ∧ fs.lookup m = none ∧
  tk σ H1 fun zs H2 => zs.length = n ∧ sp (gV [x] zs) H2 Q (E σ)
section
variable {X : Cx} {k j n : Nat} {x m : Str} {ps ks : List Str} {sp : Sp} {C : Addr} {e o : Expr} {es : List Expr} {t tk : TA} {ta : TE} {p pos apos : Pos} {E : L2.St → XK} {kws : List Keyword} {g : List Value → List Value → List Value} {gV : List V → List V → List V}
theorem pmS0 {pl : Sem Bool} (c : Cls X.K C) (M : MCalX X.prog X.w X.K X.mg X.base C k m ps sp) (hx : ∀ σ, PassesAt (L2.CX X.prog X.w) X σ (E σ)) (hr : Room j X.A) (he : PE X o ta) (hj : k ≤ j := by decide)
    (ht : eval (.Call (.Attribute o m apos) [] [] pos) X.env = (do let ob ← eval o X.env; standAt apos.atName; let (g, fs) ← holding [ob] (getMethod ob m pl); callWith pos g fs (backTo pos (starEach [] X.env)) (backToKw pos (keywordEach [] X.env))) := by rfl) :
    PE X (.Call (.Attribute o m apos) [] [] pos) (tMethS C m sp E ta) := by
  refine ⟨fun pins s σ H Q I h => ?_⟩
  refine PySem.W.methodCall_KW (pl := pl) (thn (he.run pins s σ H _ I h) fun u s1 ⟨x, H1, I1, rx, a, dx, fs, ex, ea, l, q⟩ => ?_) ht
  subst ex
  obtain rfl : u = Value.ref a := rx
  refine getmeth_ok I1 ea c M.me l ?_
  exact PySem.W.callWith_K0 (first := [.ref a]) I1.kIn M.me.kp (run_fnS (us := [.ref a]) (vs := [.ref a]) M.ok (hr.mono hj) M.b (hx σ) I1 (.cons rfl .nil) q)
theorem pmKS {pl : Sem Bool} (c : Cls X.K C) (M : MCalX X.prog X.w X.K X.mg X.base C k m ps sp) (hx : ∀ σ, PassesAt (L2.CX X.prog X.w) X σ (E σ)) (hb : KBn X.K M.fd ps 1 ks g gV) (hr : Room j X.A) (he : PE X o ta) (hkw : PK X kws tk) (hj : k ≤ j := by decide)
    (hall : (backToKw pos (keywordEach kws X.env)).all (·.1.isSome) = true := by rfl) (hks : (backToKw pos (keywordEach kws X.env)).filterMap (·.1) = ks := by rfl)
    (hpl : ((backTo pos (starEach [] X.env)).any (·.1) || (backToKw pos (keywordEach kws X.env)).any (·.1.isNone)) = false := by rfl)
    (ht : eval (.Call (.Attribute o m apos) [] kws pos) X.env = (do let ob ← eval o X.env; standAt apos.atName; let (g, fs) ← holding [ob] (getMethod ob m pl); callWith pos g fs (backTo pos (starEach [] X.env)) (backToKw pos (keywordEach kws X.env))) := by rfl) :
    PE X (.Call (.Attribute o m apos) [] kws pos) (tMethKwS C m ks.length sp gV E ta tk) := by
  refine ⟨fun pins s σ H Q I h => ?_⟩
  refine PySem.W.methodCall_KW (pl := pl) (thn (he.run pins s σ H _ I h) fun u s1 ⟨x, H1, I1, rx, a, dx, fs, ex, ea, l, q⟩ => ?_) ht
  subst ex
  obtain rfl : u = Value.ref a := rx
  refine getmeth_ok I1 ea c M.me l ?_
  refine PySem.W.callWith_KW0 (first := [.ref a]) (h₀ := X.base) I.ok.mod.kin M.me.kp hall (thn (hkw.run pos pins s1 σ H1 _ I1 q) fun ws s2 hz => ?_) hpl
  obtain ⟨zs, H2, I2, rz, l2, q2⟩ := hz
  refine ⟨I2.kIn, ?_⟩
  rw [hks]
  have r2 := hb.rel (vs := [.ref a]) (us := [.ref a]) (.cons rfl .nil) rz
  refine wpAny_call (codeAny_mono (M.ok.run X.A X.stack s2 H2 ⟨[.ref a], ks.zip ws⟩ (g [.ref a] ws) (gV [.ref a] zs) Q (E σ) (hr.mono hj) I2.env0 (hb.to s2 [.ref a] ws I2.kIn rfl (rz.length.symm.trans l2)) r2 q2) fun r s' hq => ?_)
  cases r with
  | error e => exact hx σ pins H2 s2 e s' I2 hq
  | ok fl =>
    cases fl with
    | ret u => exact I2.after hq
    | next => exact False.elim hq
    | brk => exact False.elim hq
    | cont => exact False.elim hq
end
end Tk

namespace Tk
open PySem PySem.Spec PyProof.Rows L2
/-- a class of the program whose instances are equal only to themselves -/
structure CmpC (K : PySem.W.Frag) (C : Addr) : Prop where
  ex : ∃ nm q N bs hdct sn sub ab col dd k0 k1 k2 k3 k5 newId, K.lookup C = some (excClassObj nm q C N bs [.type "object"] hdct sn sub ab col dd k0 k1 k2 k3 k5 newId) ∧ PySem.W.nsIn K N "__eq__" = some none ∧ PySem.W.nsIn K N "__ne__" = some none ∧ ∀ h : Heap, K.In h → ∃ mN, h.Ns N mN
def rEqIns (C : Addr) : R2 := fun x y H Q => ∃ a b dx dy fs gs, x = .ref a ∧ y = .ref b ∧ H a = some (.ins C dx fs) ∧ H b = some (.ins C dy gs) ∧ Q (.bl (decide (a = b))) H
section
variable {X : Cx}
theorem op_eqIns {C : Addr} (T : CmpC X.K C) (hu : X.A.units + 64 < cLine) : OpR X (compareOp .Eq) (rEqIns C) := by
  intro pins s σ H x y v u Q I rx ry h
  obtain ⟨a, b, dx, dy, fs, gs, rfl, rfl, ha, hb, q⟩ := h
  cases rx
  cases ry
  obtain ⟨nm, qn, N, bs, hdct, sn, sub, ab, col, dd, k0, k1, k2, k3, k5, newId, hC, n1, n2, hn⟩ := T.ex
  obtain ⟨mN, hN⟩ := hn _ I.kIn
  have ci : ∀ {c dz : Addr} {hs : List (Str × V)}, H c = some (.ins C dz hs) → s.heap.CmpInst c C [.type "object"] := fun {c dz hs} e =>
    ⟨_, nm, qn, N, bs, hdct, sn, sub, ab, col, dd, k0, k1, k2, k3, k5, newId, mN, (I.hok _ _ e).2.2.2.1, rfl, I.kIn _ _ hC, hN, PySem.W.ns_none_of I.kIn hN n1, PySem.W.ns_none_of I.kIn hN n2⟩
  have hu0 : X.A.units < cLine := by omega
  obtain ⟨hp, g, d, t, os⟩ := s
  by_cases e : a = b
  · subst e
    exact compareOp_eq_same PySem.F.cmp_object (ci ha) hu0 (fin_bl I q (by simp))
  · exact compareOp_eq_other PySem.F.cmp_object PySem.F.cmp_object (ci ha) (ci hb) e hu0 (fin_bl I q (by simp [e]))
end
theorem lc_zip {K : PySem.W.Frag} {a b : Addr} {xs ys : List V} {g : TG} {tt : TT} {te : TE} {vs : List Nat} {σ : L2.St} {H1 : Hp} {D : Addr} {Qd : Hp → Prop} (hl : xs.length = ys.length) (Pv : Nat → Hp → Prop) (h0 : Pv 0 (upd H1 D (.lst []))) (hq : ∀ i H, Pv i H → SqL K H a xs ∧ SqL K H b ys)
    (hs : ∀ i x y T H, xs[i]? = some x → ys[i]? = some y → Pv i H → H T = none → g (.ref T) (wipe σ vs) (upd H T (.tup [x, y])) fun σ2 H2 => wipe σ2 vs = wipe σ vs ∧ tt σ2 H2 fun b H3 =>
      if b = true then te σ2 H3 fun y H4 => ∃ acc, H4 D = some (.lst acc) ∧ acc.length < sizeLine ∧ Pv (i + 1) (upd H4 D (.lst (acc ++ [y]))) else Pv (i + 1) H3) (hd : ∀ H, Pv xs.length H → Qd H) :
    ∃ W : Nat → Nat → Hp → Prop, (∃ m, W 0 m (upd H1 D (.lst []))) ∧ ∀ i m H, W i m H →
      ((Itz K a b).stop i H ∧ Qd H) ∨ ((Itz K a b).go i H ∧ ∃ Nx : Hp → Prop, (∀ H', Nx H' → ∃ m', m' < m ∧ W (i + 1) m' H') ∧ ∀ x H', (Itz K a b).yld i H x H' → g x (wipe σ vs) H' fun σ2 H2 => wipe σ2 vs = wipe σ vs ∧ tt σ2 H2 fun b H3 =>
        if b = true then te σ2 H3 fun y H4 => ∃ acc, H4 D = some (.lst acc) ∧ acc.length < sizeLine ∧ Nx (upd H4 D (.lst (acc ++ [y]))) else Nx H3) := by
  refine ⟨fun i m H => m = xs.length - i ∧ i ≤ xs.length ∧ Pv i H, ⟨xs.length, rfl, Nat.zero_le _, h0⟩, ?_⟩
  rintro i m H ⟨rfl, hi, p⟩
  obtain ⟨qx, qy⟩ := hq i H p
  by_cases hlt : i < xs.length
  · refine .inr ⟨⟨xs, ys, _, _, qx, qy, List.getElem?_eq_getElem hlt, List.getElem?_eq_getElem (hl ▸ hlt)⟩, Pv (i + 1), fun H' p' => ⟨_, by omega, rfl, by omega, p'⟩, ?_⟩
    rintro x H' ⟨T, u, v, rfl, hT, rfl, f1, f2⟩
    exact hs i u v T H (f1 _ qx) (f2 _ qy) p hT
  · have e : i = xs.length := by omega
    exact .inl ⟨⟨xs, ys, qx, qy, .inl (by omega)⟩, hd H (by rw [← e]; exact p)⟩
end Tk

/-! sorted of a tuple of ints and of a dict with ints as keys, any length. -/
namespace Tk
open PySem PySem.Spec PyProof.Rows L2
section
variable {X : Cx}
theorem sorted_tail {pins : List (Addr × Obj)} {σ : L2.St} {H : Hp} {s : Shared} {Q : VK} {h' : Heap} {tk : Nat} {vs : List Value} {ks : List Int} (I1 : Inv X pins σ H { s with heap := h', toks := tk }) (hS : IntsAre vs ks) (hz : vs.length ≤ sizeLine)
    (q : ∀ (ys : List Int) (p : Addr), ys.Perm ks → ys.Pairwise (· ≤ ·) → H p = none → Q (.ref p) (upd H p (.lst (ys.map V.int)))) :
    ∀ out : List Value, SrtO.Srtd SrtO.ltIv out → SrtO.Stb SrtO.ltIv out vs → EP X pins σ Q (.ref h'.objs.size) { s with heap := sortedHeap (h'.push (seqObj "list" vs.toArray 0)) h'.objs.size vs out.toArray, toks := tk } := by
  intro out h1 h2
  obtain ⟨k1, k2, k3⟩ := SrtO.ints_out hS h1 h2
  have hoL : (h'.push (seqObj "list" vs.toArray 0)).get? h'.objs.size = some (seqObj "list" vs.toArray 0) := Heap.get?_push_size _ rfl
  obtain ⟨e', he'⟩ := PyProof.Rows.sortedHeap_at (vs := vs) (out := out.toArray) hoL
  have hlen : ((out.map SrtO.iv).map V.int).length ≤ sizeLine := by
    rw [List.length_map, k2.length_eq, ← PyProof.Rows.IntsAre.length hS]
    exact hz
  refine ⟨.ref h'.objs.size, upd H h'.objs.size (.lst ((out.map SrtO.iv).map V.int)), I1.laid (t' := tk) (fun b u e => ?_) (Nat.le_refl _)
    (show ObjOk X.prog X.w _ _ _ (.lst ((out.map SrtO.iv).map V.int)) from ⟨hlen, out, e', vals_of_ints k1, he'⟩), rfl, q _ _ k2 k3 (I1.hok.fresh (Nat.le_refl _))⟩
  have hb : b < h'.objs.size := Heap.lt_size e
  rw [PyProof.Rows.sortedHeap_old (Nat.ne_of_lt hb) (by rw [size_push']; exact Nat.lt_succ_of_lt hb)]
  exact Heap.get?_push_of_some _ e
theorem sorted_run2 {pins : List (Addr × Obj)} {σ : L2.St} {H : Hp} {s : Shared} {Q : VK} {h' : Heap} {tk : Nat} {vs : List Value} {ks : List Int} (I1 : Inv X pins σ H { s with heap := h', toks := tk }) (hS : IntsAre vs ks) (hz : vs.length ≤ sizeLine)
    (q : ∀ (ys : List Int) (p : Addr), ys.Perm ks → ys.Pairwise (· ≤ ·) → H p = none → Q (.ref p) (upd H p (.lst (ys.map V.int)))) {R : PySem.Fin → Shared → Prop} {E : Value → Shared → Prop} (hR : ∀ v s', EP X pins σ Q v s' → R (.done (.ret v)) s') {kw : List (Str × Value)} (hkw : kw = []) :
    wpAny (model X.prog X.w) X.A.in1 (do
      let l ← newList vs
      let _ ← holding [l] (call (.builtin "list.sort") [l] kw)
      ret l) R E { s with heap := h', toks := tk } := by
  subst hkw
  refine wpAny_bind (wpAny_newList ?_ hz)
  have hoL : (h'.push (seqObj "list" vs.toArray 0)).get? h'.objs.size = some (seqObj "list" vs.toArray 0) := Heap.get?_push_size _ rfl
  show wpAny _ _ _ _ _ { s with heap := h'.push (seqObj "list" vs.toArray 0), toks := tk }
  refine wpAny_bind (wpAny_holding (wpAny_call_entry PyProof.Rows.slot_list_sort ⟨_, hoL, rfl⟩ PyProof.Rows.entry_list_sort
    (SrtO.list_sort_ord (s := { s with heap := h'.push (seqObj "list" vs.toArray 0), toks := tk }) SrtO.swo_int hoL hz (fun h2 => SrtO.ints_sortable hS h2) fun out g1 g2 => ⟨_, rfl, ?_⟩) (PyProof.Rows.args_list_sort _)))
  exact wpAny_pure (hR _ _ (sorted_tail I1 hS hz q out g1 g2))
end
end Tk
namespace Tk
open PySem PySem.Spec PyProof.Rows L2
section
variable {X : Cx}
theorem call_sortedT : CallR X (.builtin "sorted") (fun xs H Q => ∃ (a : Addr) (ks : List Int), xs = [.ref a] ∧ SqT X.K H a (ks.map V.int) ∧
    ∀ (ys : List Int) (p : Addr), ys.Perm ks → ys.Pairwise (· ≤ ·) → H p = none → Q (.ref p) (upd H p (.lst (ys.map V.int)))) := by
  intro pins s σ H xs us Q I r q
  obtain ⟨a, ks, rfl, hs, q⟩ := q
  obtain rfl := Vals.ref1 r
  obtain ⟨its, rv, hl, hz⟩ := I.tuple hs
  have hi := rv.ints
  have hz' : its.length ≤ sizeLine := by rw [← rv.length]; exact hz
  obtain ⟨o, ho, hc, n, hd⟩ := hl
  refine Calls.call_function_entry PyProof.Rows.kind_sorted PyProof.Rows.plain_sorted PyProof.Rows.entry_sorted (PyProof.Rows.args_sorted1 _) ?_
  unfold Builtin.«sorted»
  refine wpAny_bind (m := checkCount "sorted" 1 1 _) (wpAny_pure ?_)
  refine wpAny_bind (wpAny_collect_seq a (.inr rfl) ho hc hd (fun h' hk => ?_) (by simpa using hz'))
  have I1 : Inv X pins σ H { s with heap := h', toks := s.toks } := I.kept hk
  exact sorted_run2 I1 (by simpa using hi) (by simpa using hz') q (fun v s' h => ⟨_, rfl, h⟩) rfl
theorem call_sortedDA (hcalm : X.calm = true) : CallR X (.builtin "sorted") (fun xs H Q => ∃ (a : Addr) (kvs : List (Key × V)) (ks : List Int), xs = [.ref a] ∧ Rd H a (.dK kvs) ∧ kvs.map (·.1) = ks.map Sum.inl ∧
    ∀ (ys : List Int) (p : Addr), ys.Perm ks → ys.Pairwise (· ≤ ·) → H p = none → Q (.ref p) (upd H p (.lst (ys.map V.int)))) := by
  intro pins s σ H xs us Q I r q
  obtain ⟨a, kvs, ks, ex, hd, hks, q⟩ := q
  subst ex
  obtain ⟨u, eu, rx⟩ := vals1 r
  subst eu
  cases rx
  obtain ⟨z, lo, vs, rel, dd⟩ := dk_rd I.hok hd
  obtain ⟨ep, hat⟩ := dd.dictAt
  have hkeys : vs.map (·.1) = ks.map Sum.inl := rel.keys.symm.trans hks
  have hl : vs.length = ks.length := by
    have e := congrArg List.length hkeys
    rw [List.length_map, List.length_map] at e
    exact e
  have h16 : vs.length ≤ sizeLine := by rw [← rel.length]; exact z
  refine Calls.call_function_entry PyProof.Rows.kind_sorted PyProof.Rows.plain_sorted PyProof.Rows.entry_sorted (PyProof.Rows.args_sorted1 _) ?_
  unfold Builtin.«sorted»
  refine wpAny_bind (m := checkCount "sorted" 1 1 _) (wpAny_pure ?_)
  refine wpAny_bind (PySem.W.kdu_collect (A := X.A.in1) (PySem.W.kdl_dict (knd := mixKind X.prog X.w) (kvs := vs) (ep := ep) lo) (I.ok.hd hcalm) hat h16 fun h' tk acc hk hacc => ?_)
  have hal : acc.toList.length = ks.length := by rw [Array.length_toList, hacc.1, hl]
  have hS : IntsAre acc.toList ks := ints_each hal fun j v e => by
    obtain ⟨k, x, e1, e2⟩ := hacc.2 j v (by rw [← Array.getElem?_toList]; exact e)
    have e3 : (vs.map (·.1))[j]? = some k := by rw [List.getElem?_map, e1]; rfl
    rw [hkeys, List.getElem?_map] at e3
    cases e4 : ks[j]? with
    | none => rw [e4] at e3; cases e3
    | some y =>
      rw [e4] at e3
      have e5 : Sum.inl y = k := Option.some.inj e3
      subst e5
      rcases keyIs_shape (show keyIs (Sum.inl y) v = true from e2) with ⟨i, t, ek, ev⟩ | ⟨z, t, ek, ev⟩
      · cases ek
        exact ⟨y, t, rfl, ev⟩
      · cases ek
  have I1 : Inv X pins σ H { s with heap := h', toks := tk } := I.kept hk
  exact sorted_run2 I1 hS (by rw [hal, ← hl]; exact h16) q (fun v s' h => ⟨_, rfl, h⟩) rfl
end
end Tk

/-! Built-in calls, methods, loops, comprehensions. -/
namespace Sm
open PySem PySem.Spec PyProof.Rows L2 Tk
variable [ZC]
/-! ### built-ins by name -/
section
variable {X : Cx} {e : Expr} {es : List Expr} {ma : MA} {x : Str} {p pos : Pos} {g : ML} {id T : String}
theorem s_callB (hc : CallR X (.builtin id) (rl X.K g)) (hm : X.mg x = none) (ha : PA X (e :: es) (tMA X.K ma)) (hv : bootBuiltins x = some (.builtin id) := by decide +kernel) (hg : Gl X x := by rfl) (hn : x ≠ "__name__" := by decide) (hdb : (x == ("__debug__" : Str)) = false := by decide)
    (he : starEach (e :: es) X.env = (false, eval e X.env) :: starEach es X.env := by rfl) (hpl : (backTo pos (starEach es X.env)).any (·.1) = false := by rfl) : PE X (.Call (.Name x p) (e :: es) [] pos) (tM X.K (mCallB g ma)) := (pe_callB hc hg hm hv ha hn hdb he hpl).imp tm_callB
theorem s_callTy (hc : CallR X (.type T) (rl X.K g)) (hm : X.mg x = none) (ha : PA X (e :: es) (tMA X.K ma)) (hv : bootBuiltins x = some (.type T) := by decide +kernel) (hg : Gl X x := by rfl) (hn : x ≠ "__name__" := by decide) (hdb : (x == ("__debug__" : Str)) = false := by decide)
    (he : starEach (e :: es) X.env = (false, eval e X.env) :: starEach es X.env := by rfl) (hpl : (backTo pos (starEach es X.env)).any (·.1) = false := by rfl) : PE X (.Call (.Name x p) (e :: es) [] pos) (tM X.K (mCallB g ma)) := (pe_callTy hc hg hm hv ha hn hdb he hpl).imp tm_callB
end
/-- the one argument -/
def u1 (g : U → MH → MK → Prop) : ML := fun us mh P => match us with | [u] => g u mh P | _ => False
def u2 (g : U → U → MH → MK → Prop) : ML := fun us mh P => match us with | [u, v] => g u v mh P | _ => False
/-- the items of a row -/
def rowU (u : U) (mh : MH) (P : List U → Prop) : Prop := match u with
  | .tup us => P us
  | .fz us => P us
  | .ref n => match mh[n]? with | some (.lst us) => P us | _ => False
  | _ => False
theorem rowU_ok {K : PySem.W.Frag} {as : List Addr} {H : Hp} {u : U} {v : V} {mh : MH} {P : List U → Prop} (r : RV K as H u v) (R : RH K as H mh) (h : rowU u mh P) : ∃ a us vs, v = .ref a ∧ (SqL K H a vs ∨ SqT K H a vs) ∧ RVs K as H us vs ∧ P us := by
  unfold rowU at h
  split at h
  · obtain ⟨a, vs, rfl, h1, h2⟩ := r.of_tup
    exact ⟨a, _, vs, rfl, .inr h1, h2, h⟩
  · obtain ⟨a, vs, rfl, h1, h2⟩ := r.of_fz
    exact ⟨a, _, vs, rfl, .inl h1.l, h2, h⟩
  · obtain ⟨a, rfl, e⟩ := r.of_ref
    split at h
    · rename_i us q
      obtain ⟨vs, h1, h2⟩ := R.lst q e
      exact ⟨a, _, vs, rfl, .inl (SqL.of h1), h2, h⟩
    · exact h.elim
  · exact h.elim
def uLen : ML := u1 fun u mh P => match u with
  | .str z => z.length ≤ sizeLine ∧ P (.int z.length) mh
  | .ref n => match mh[n]? with
    | some (.lst us) => P (.int us.length) mh
    | some (.dK kvs) => P (.int kvs.length) mh
    | _ => False
  | .tup us => P (.int us.length) mh
  | .fz us => P (.int us.length) mh
  | _ => False
def uInt : ML := u1 fun u mh P => match u with
  | .int i => P (.int i) mh
  | .bl b => P (.int (if b then 1 else 0)) mh
  | _ => False
/-- a new list with the items of a row, or a dict's keys -/
def uList : ML := u1 fun u mh P => match u with
  | .ref n => match mh[n]? with
    | some (.lst us) => P (.ref mh.length) (mh ++ [.lst us])
    | some (.dK kvs) => P (.ref mh.length) (mh ++ [.lst (kvs.map fun kv => match kv.1 with | .inl i => U.int i | .inr x => U.str x)])
    | _ => False
  | .tup us => P (.ref mh.length) (mh ++ [.lst us])
  | .fz us => P (.ref mh.length) (mh ++ [.lst us])
  | _ => False
def uTuple : ML := u1 fun u mh P => rowU u mh fun us => P (.tup us) mh
def pairU : U → Option (Key × U)
  | .tup [k, v] => (uKey k).map fun k => (k, v)
  | _ => none
def pairsU : List U → Option (List (Key × U))
  | [] => some []
  | u :: us => match pairU u, pairsU us with
    | some p, some ps => some (p :: ps)
    | _, _ => none
def mergeU (kvs : List (Key × U)) : List (Key × U) := kvs.foldl (fun acc kv => putU acc kv.1 kv.2) []
/-- a dict's copy, or a dict of a list of pairs -/
def uDictC : ML := u1 fun u mh P => match u with
  | .ref n => match mh[n]? with
    | some (.dK kvs) => P (.ref mh.length) (mh ++ [.dK kvs])
    | some (.lst us) => match pairsU us with
      | some kvs => P (.ref mh.length) (mh ++ [.dK (mergeU kvs)])
      | none => False
    | _ => False
  | _ => False
def intsU : List U → Option (List Int)
  | [] => some []
  | .int i :: r => (intsU r).map (i :: ·)
  | _ => none
def blsU : List U → Option (List Bool)
  | [] => some []
  | .bl i :: r => (blsU r).map (i :: ·)
  | _ => none
def listRow (u : U) (mh : MH) (P : List U → Prop) : Prop := match u with
  | .ref n => match mh[n]? with | some (.lst us) => P us | _ => False
  | .fz us => P us
  | _ => False
theorem listRow_ok {K : PySem.W.Frag} {as : List Addr} {H : Hp} {u : U} {v : V} {mh : MH} {P : List U → Prop} (r : RV K as H u v) (R : RH K as H mh) (h : listRow u mh P) : ∃ a us vs, v = .ref a ∧ SqL K H a vs ∧ RVs K as H us vs ∧ P us := by
  unfold listRow at h
  split at h
  · obtain ⟨a, rfl, e⟩ := r.of_ref
    split at h
    · rename_i us q
      obtain ⟨vs, h1, h2⟩ := R.lst q e
      exact ⟨a, _, vs, rfl, SqL.of h1, h2, h⟩
    · exact h.elim
  · obtain ⟨a, vs, rfl, h1, h2⟩ := r.of_fz
    exact ⟨a, _, vs, rfl, h1.l, h2, h⟩
  · exact h.elim
theorem intsU_ok {K : PySem.W.Frag} {as : List Addr} {H : Hp} : ∀ {us : List U} {vs : List V} {ns : List Int}, RVs K as H us vs → intsU us = some ns → vs = ns.map V.int
  | [], _, _, r, h => by cases r; cases h; rfl
  | u :: us, _, ns, r, h => by
    cases r with
    | cons r1 r2 =>
      cases u <;> simp only [intsU] at h <;> try (cases h; done)
      obtain ⟨ms, h1, rfl⟩ := Option.map_eq_some_iff.mp h
      rw [intsU_ok r2 h1, r1.nn]; rfl
theorem blsU_ok {K : PySem.W.Frag} {as : List Addr} {H : Hp} : ∀ {us : List U} {vs : List V} {ns : List Bool}, RVs K as H us vs → blsU us = some ns → vs = ns.map V.bl
  | [], _, _, r, h => by cases r; cases h; rfl
  | u :: us, _, ns, r, h => by
    cases r with
    | cons r1 r2 =>
      cases u <;> simp only [blsU] at h <;> try (cases h; done)
      obtain ⟨ms, h1, rfl⟩ := Option.map_eq_some_iff.mp h
      rw [blsU_ok r2 h1, r1.bb]; rfl
def uAll : ML := u1 fun u mh P => listRow u mh fun us => match blsU us with | some bs => P (.bl (bs.all id)) mh | none => False
def uAny : ML := u1 fun u mh P => listRow u mh fun us => match blsU us with | some bs => P (.bl (bs.any id)) mh | none => False
def uSum : ML := u1 fun u mh P => listRow u mh fun us => match intsU us with | some ns => P (.int ns.sum) mh | none => False
def sortI (ns : List Int) : List Int := ns.mergeSort (fun a b => decide (a ≤ b))
/-- max(a, b), max(a row of ints) -/
theorem depI0 : ∀ xs : List Int, PyData.depthAll (xs.map PyData.int) = 0
  | [] => by simp [PyData.depthAll]
  | x :: xs => by simp [PyData.depthAll, PyData.depth, depI0 xs]
/-- max of a tuple of ints -/
def rMaxT (K : PySem.W.Frag) : List V → Hp → VK → Prop := fun vs H Q => ∃ (a : Addr) (ns : List Int), vs = [.ref a] ∧ SqT K H a (ns.map V.int) ∧ ns ≠ [] ∧ ∀ m, m ∈ ns → (∀ y ∈ ns, y ≤ m) → Q (.int m) H
theorem dp_ints {K : PySem.W.Frag} {H : Hp} : ∀ ns : List Int, DpAll K H (ns.map V.int) (ns.map PyData.int)
  | [] => .nil
  | n :: ns => .cons (.int n) (dp_ints ns)
theorem foldl_max (n : Int) : ∀ ns : List Int, ns.foldl max n ∈ n :: ns ∧ ∀ y ∈ n :: ns, y ≤ ns.foldl max n := by
  intro ns
  induction ns generalizing n with
  | nil => exact ⟨by simp, fun y hy => by simp at hy; subst hy; exact Int.le_refl _⟩
  | cons k r ih =>
    obtain ⟨h1, h2⟩ := ih (max n k)
    rw [List.foldl_cons]
    have h3 := h2 (max n k) List.mem_cons_self
    refine ⟨?_, fun y hy => ?_⟩
    · rcases List.mem_cons.mp h1 with h | h
      · rw [h]
        rcases Int.le_total n k with z | z
        · rw [Int.max_eq_right z]; simp
        · rw [Int.max_eq_left z]; simp
      · exact List.mem_cons_of_mem _ (List.mem_cons_of_mem _ h)
    · rcases List.mem_cons.mp hy with rfl | hy
      · exact Int.le_trans (Int.le_max_left _ _) h3
      · rcases List.mem_cons.mp hy with rfl | hy
        · exact Int.le_trans (Int.le_max_right _ _) h3
        · exact h2 y (List.mem_cons_of_mem _ hy)
theorem call_maxT {X : Cx} (hc : X.calm = true) (hu : X.A.units + 64 < cLine) : CallR X (.builtin "max") (rMaxT X.K) := by
  intro pins s σ H vs us Q I r h
  obtain ⟨a, ns, rfl, ha, hne, q⟩ := h
  obtain ⟨u, rfl, ru⟩ := vals1 r
  obtain rfl : u = Value.ref a := ru
  obtain ⟨its, rv, ⟨o, ho, hcl, n, hdt⟩, _⟩ := I.tuple ha
  obtain ⟨as, hr⟩ := Dp.readsAll I _ _ its (dp_ints ns) rv
  cases ns with
  | nil => exact absurd rfl hne
  | cons x xs =>
    have dp0 : PyData.depthAll (PyData.int x :: xs.map PyData.int) = 0 := by
      have := depI0 (x :: xs)
      simpa using this
    refine PySem.W.max_tuple_data (vs := its.toArray) (x := .int x) (xs := xs.map .int) (I.ok.hd hc) ⟨o, ho, hcl, n, hdt⟩ (by simpa using hr) ⟨fun y hy z hz => ?_, fun y hy => ?_⟩ (by rw [dp0]; omega) fun i v h' tk bs hi hrd hk => ?_
    · rw [← List.map_cons, List.mem_map] at hy hz
      obtain ⟨y', _, rfl⟩ := hy
      obtain ⟨z', _, rfl⟩ := hz
      simp [PySem.W.alike]
    · rw [← List.map_cons, List.mem_map] at hy
      obtain ⟨y', _, rfl⟩ := hy
      exact nofun
    · rw [PySem.W.maxD_ints] at hrd
      obtain ⟨h1, h2⟩ := foldl_max x xs
      cases hrd with
      | int t => exact ⟨.int (xs.foldl max x), H, I.kept hk, ⟨_, rfl⟩, q _ h1 h2⟩
def uMax : ML := fun us mh P => match us with
  | [.int i, .int j] => P (.int (if j > i then j else i)) mh
  | [.tup us] => match intsU us with | some ns => ns ≠ [] ∧ ∀ m, m ∈ ns → (∀ y ∈ ns, y ≤ m) → P (.int m) mh | none => False
  | [u] => listRow u mh fun us => match intsU us with | some ns => ns ≠ [] ∧ ∀ m, m ∈ ns → (∀ y ∈ ns, y ≤ m) → P (.int m) mh | none => False
  | _ => False
def uMin : ML := fun us mh P => match us with
  | [.int i, .int j] => P (.int (if j < i then j else i)) mh
  | [u] => listRow u mh fun us => match intsU us with | some ns => ns ≠ [] ∧ ∀ m, m ∈ ns → (∀ y ∈ ns, m ≤ y) → P (.int m) mh | none => False
  | _ => False
/-- sorted(a list of ints) -/
def strsU : List U → Option (List Str)
  | [] => some []
  | .str x :: us => (strsU us).map (x :: ·)
  | _ => none
def keyU : Key → U
  | .inl i => .int i
  | .inr x => .str x
def keysU (kvs : List (Key × U)) : List U := kvs.map fun kv => keyU kv.1
def sortM (us : List U) (mh : MH) (P : MK) : Prop := match intsU us with
  | some ns => P (.ref mh.length) (mh ++ [.lst ((sortI ns).map U.int)])
  | none => match strsU us with
    | some xs => xs.length < 64 ∧ ∀ ys : List Str, ys.Perm xs → sortedS ys = true → P (.ref mh.length) (mh ++ [.lst (ys.map U.str)])
    | none => False
def sortT (us : List U) (mh : MH) (P : MK) : Prop := match intsU us with
  | some ns => P (.ref mh.length) (mh ++ [.lst ((sortI ns).map U.int)])
  | none => False
/-- sorted: ints (any number) of a list, a tuple, a dict's keys; texts (below 64) of a list, a dict's keys -/
def uSorted : ML := u1 fun u mh P => match u with
  | .tup us => sortT us mh P
  | .fz us => sortM us mh P
  | .ref n => match mh[n]? with
    | some (.lst us) => sortM us mh P
    | some (.dK kvs) => sortM (keysU kvs) mh P
    | _ => False
  | _ => False
/-- repr(x) of data -/
def uRepr : ML := u1 fun u mh P => ∃ n d, toD mh n u = some d ∧ Sh d 16000000 50 ∧ P (.str d.shown) mh
theorem intsU_rv {K : PySem.W.Frag} {as : List Addr} {H : Hp} : ∀ ns : List Int, RVs K as H (ns.map U.int) (ns.map V.int)
  | [] => .nil
  | n :: ns => .cons (.int n) (intsU_rv ns)
theorem keysU_ok {K : PySem.W.Frag} {as : List Addr} {H : Hp} {kvs : List (Key × U)} {vs : List (Key × V)} (h : Paired (RKv K as H) kvs vs) : RVs K as H (kvs.map fun kv => match kv.1 with | .inl i => U.int i | .inr x => U.str x) (vs.map fun kv => kV kv.1) := by
  induction h with
  | nil => exact .nil
  | @cons p q ps qs r t ih =>
    refine .cons ?_ ih
    show RV K as H (match p.1 with | .inl i => U.int i | .inr x => U.str x) (kV q.1)
    rw [← r.1]
    cases p.1 with
    | inl i => exact .int i
    | inr i => exact .str i
section
variable {X : Cx}
theorem b_len : CallR X (.builtin "len") (rl X.K uLen) := by
  intro pins s σ H xs us Q I r h
  obtain ⟨ws, mh, as, P, rr, rh, h, k⟩ := h
  unfold uLen u1 at h
  split at h
  · cases rr with
    | cons r1 r2 =>
      cases r2
      split at h
      · obtain rfl := r1.ss
        exact call_len_str pins s σ H _ us Q I r ⟨_, rfl, h.1, k _ _ h.2 _ _ _ .refl (.int _) rh⟩
      · obtain ⟨a, rfl, e⟩ := r1.of_ref
        split at h
        · rename_i q
          obtain ⟨vs, h1, h2⟩ := rh.lst q e
          refine call_len_seq pins s σ H _ us Q I r ⟨a, vs, rfl, .inl (SqL.of h1), ?_⟩
          rw [← Paired.length h2]
          exact k _ _ h _ _ _ .refl (.int _) rh
        · rename_i q
          obtain ⟨vs, h1, h2⟩ := rh.dK q e
          refine call_lenD pins s σ H _ us Q I r ⟨a, vs, rfl, h1, ?_⟩
          rw [← Paired.length h2]
          exact k _ _ h _ _ _ .refl (.int _) rh
        · exact h.elim
      · obtain ⟨a, vs, rfl, h1, h2⟩ := r1.of_tup
        refine call_len_seq pins s σ H _ us Q I r ⟨a, vs, rfl, .inr h1, ?_⟩
        rw [← Paired.length h2]
        exact k _ _ h _ _ _ .refl (.int _) rh
      · obtain ⟨a, vs, rfl, h1, h2⟩ := r1.of_fz
        refine call_len_seq pins s σ H _ us Q I r ⟨a, vs, rfl, .inl h1.l, ?_⟩
        rw [← Paired.length h2]
        exact k _ _ h _ _ _ .refl (.int _) rh
      · exact h.elim
  · exact h.elim
theorem b_int : CallR X (.type "int") (rl X.K uInt) := by
  intro pins s σ H xs us Q I r h
  obtain ⟨ws, mh, as, P, rr, rh, h, k⟩ := h
  unfold uInt u1 at h
  split at h
  · cases rr with
    | cons r1 r2 =>
      cases r2
      split at h
      · obtain rfl := r1.nn
        exact call_int1 pins s σ H _ us Q I r (.inl ⟨_, rfl, k _ _ h _ _ _ .refl (.int _) rh⟩)
      · obtain rfl := r1.bb
        exact call_int1 pins s σ H _ us Q I r (.inr ⟨_, rfl, k _ _ h _ _ _ .refl (.int _) rh⟩)
      · exact h.elim
  · exact h.elim
theorem b_list (hc : X.calm = true) : CallR X (.type "list") (rl X.K uList) := by
  intro pins s σ H xs us Q I r h
  obtain ⟨ws, mh, as, P, rr, rh, h, k⟩ := h
  unfold uList u1 at h
  split at h
  · cases rr with
    | cons r1 r2 =>
      cases r2
      split at h
      · obtain ⟨a, rfl, e⟩ := r1.of_ref
        split at h
        · rename_i q
          obtain ⟨vs, h1, h2⟩ := rh.lst q e
          exact call_list_of pins s σ H _ us Q I r ⟨a, vs, rfl, .inl (SqL.of h1), fun l hl => k _ _ h _ _ _ (RH.evNew hl) (.ref (by rw [← rh.len]; simp)) (rh.new hl (.lst h2))⟩
        · rename_i kvs q
          obtain ⟨vs, h1, h2⟩ := rh.dK q e
          refine call_listD hc pins s σ H _ us Q I r ⟨a, vs, rfl, .inl h1, fun l hl => k _ _ h _ _ _ (RH.evNew hl) (.ref (by rw [← rh.len]; simp)) (rh.new hl (.lst (keysU_ok h2)))⟩
        · exact h.elim
      · obtain ⟨a, vs, rfl, h1, h2⟩ := r1.of_tup
        exact call_list_of pins s σ H _ us Q I r ⟨a, vs, rfl, .inr h1, fun l hl => k _ _ h _ _ _ (RH.evNew hl) (.ref (by rw [← rh.len]; simp)) (rh.new hl (.lst h2))⟩
      · obtain ⟨a, vs, rfl, h1, h2⟩ := r1.of_fz
        exact call_list_of pins s σ H _ us Q I r ⟨a, vs, rfl, .inl h1.l, fun l hl => k _ _ h _ _ _ (RH.evNew hl) (.ref (by rw [← rh.len]; simp)) (rh.new hl (.lst h2))⟩
      · exact h.elim
  · exact h.elim
theorem b_tuple : CallR X (.type "tuple") (rl X.K uTuple) := by
  intro pins s σ H xs us Q I r h
  obtain ⟨ws, mh, as, P, rr, rh, h, k⟩ := h
  unfold uTuple u1 at h
  split at h
  · cases rr with
    | cons r1 r2 =>
      cases r2
      obtain ⟨a, us', vs, rfl, hq, h2, p⟩ := rowU_ok r1 rh h
      rcases hq with h1 | h1
      · refine call_tuple_of pins s σ H _ us Q I r ⟨a, vs, rfl, .inl ⟨h1, fun l hl => ?_⟩⟩
        have e := RH.evGrow (as := as) (o := .tup vs) hl
        exact k _ _ p _ _ _ e (RV.tups (SqT.of upd_same) (RVs.ev e h2)) (rh.grow hl)
      · exact call_tuple_of pins s σ H _ us Q I r ⟨a, vs, rfl, .inr ⟨h1, k _ _ p _ _ _ .refl (RV.tups h1 h2) rh⟩⟩
  · exact h.elim
theorem pairsU_ok {K : PySem.W.Frag} {as : List Addr} {H : Hp} : ∀ {us : List U} {vs : List V} {kvs : List (Key × U)}, RVs K as H us vs → pairsU us = some kvs → ∃ (ps : List Addr) (ws : List (Key × V)), vs = ps.map V.ref ∧ Paired (fun p kv => SqT K H p [kV kv.1, kv.2]) ps ws ∧ Paired (RKv K as H) kvs ws
  | [], _, _, r, h => by cases r; cases h; exact ⟨[], [], rfl, .nil, .nil⟩
  | u :: us, _, kvs, r, h => by
    cases r with
    | cons r1 r2 =>
      simp only [pairsU] at h
      split at h
      · rename_i p ps e1 e2
        cases h
        obtain ⟨qs, ws, rfl, h2, h3⟩ := pairsU_ok r2 e2
        unfold pairU at e1
        split at e1
        · rename_i k v
          obtain ⟨a, vs', rfl, g1, g2⟩ := r1.of_tup
          rw [Option.map_eq_some_iff] at e1
          obtain ⟨kk, ek, rfl⟩ := e1
          cases g2 with
          | cons g3 g4 =>
            cases g4 with
            | cons g5 g6 =>
              cases g6
              obtain rfl := uKey_rv g3 ek
              exact ⟨a :: qs, (kk, _) :: ws, rfl, .cons g1 h2, .cons ⟨rfl, g5⟩ h3⟩
        · cases e1
      · cases h
theorem b_dictC (hc : X.calm = true) : CallR X (.type "dict") (rl X.K uDictC) := by
  intro pins s σ H xs us Q I r h
  obtain ⟨ws, mh, as, P, rr, rh, h, k⟩ := h
  unfold uDictC u1 at h
  split at h
  · cases rr with
    | cons r1 r2 =>
      cases r2
      split at h
      · obtain ⟨a, rfl, e⟩ := r1.of_ref
        split at h
        · rename_i q
          obtain ⟨vs, h1, h2⟩ := rh.dK q e
          exact call_dictD pins s σ H _ us Q I r ⟨a, vs, rfl, .inl h1, fun l hl => k _ _ h _ _ _ (RH.evNew hl) (.ref (by rw [← rh.len]; simp)) (rh.new hl (.dK h2))⟩
        · rename_i q
          obtain ⟨vs, h1, h2⟩ := rh.lst q e
          split at h
          · rename_i kvs ek
            obtain ⟨ps, ws, rfl, g1, g2⟩ := pairsU_ok h2 ek
            exact call_dictP hc pins s σ H _ us Q I r ⟨a, ps, ws, rfl, SqL.of h1, g1, fun l hl => k _ _ h _ _ _ (RH.evNew hl) (.ref (by rw [← rh.len]; simp)) (rh.new hl (.dK (mergeU_ok g2 .nil)))⟩
          · exact h.elim
        · exact h.elim
      · exact h.elim
  · exact h.elim
theorem b_all (hc : X.calm = true) : CallR X (.builtin "all") (rl X.K uAll) := by
  intro pins s σ H xs us Q I r h
  obtain ⟨ws, mh, as, P, rr, rh, h, k⟩ := h
  unfold uAll u1 at h
  split at h
  · cases rr with
    | cons r1 r2 =>
      cases r2
      obtain ⟨a, us', vs, rfl, h1, h2, p⟩ := listRow_ok r1 rh h
      split at p
      · rename_i bs eb
        obtain rfl := blsU_ok h2 eb
        exact cr_all hc pins s σ H _ us Q I r ⟨a, bs, rfl, h1, k _ _ p _ _ _ .refl (.bl _) rh⟩
      · exact p.elim
  · exact h.elim
theorem b_any (hc : X.calm = true) : CallR X (.builtin "any") (rl X.K uAny) := by
  intro pins s σ H xs us Q I r h
  obtain ⟨ws, mh, as, P, rr, rh, h, k⟩ := h
  unfold uAny u1 at h
  split at h
  · cases rr with
    | cons r1 r2 =>
      cases r2
      obtain ⟨a, us', vs, rfl, h1, h2, p⟩ := listRow_ok r1 rh h
      split at p
      · rename_i bs eb
        obtain rfl := blsU_ok h2 eb
        exact cr_any hc pins s σ H _ us Q I r ⟨a, bs, rfl, h1, k _ _ p _ _ _ .refl (.bl _) rh⟩
      · exact p.elim
  · exact h.elim
theorem b_sum (hc : X.calm = true) : CallR X (.builtin "sum") (rl X.K uSum) := by
  intro pins s σ H xs us Q I r h
  obtain ⟨ws, mh, as, P, rr, rh, h, k⟩ := h
  unfold uSum u1 at h
  split at h
  · cases rr with
    | cons r1 r2 =>
      cases r2
      obtain ⟨a, us', vs, rfl, h1, h2, p⟩ := listRow_ok r1 rh h
      split at p
      · rename_i bs eb
        obtain rfl := intsU_ok h2 eb
        exact cr_sum hc pins s σ H _ us Q I r ⟨a, bs, rfl, h1, k _ _ p _ _ _ .refl (.int _) rh⟩
      · exact p.elim
  · exact h.elim
theorem b_max (hc : X.calm = true) (hu : X.A.units + 64 < cLine) : CallR X (.builtin "max") (rl X.K uMax) := by
  intro pins s σ H xs us Q I r h
  obtain ⟨ws, mh, as, P, rr, rh, h, k⟩ := h
  unfold uMax at h
  split at h
  · cases rr with
    | cons r1 r2 =>
      cases r2 with
      | cons r3 r4 =>
        cases r4
        obtain rfl := r1.nn; obtain rfl := r3.nn
        exact call_max2 hc pins s σ H _ us Q I r ⟨_, _, rfl, k _ _ h _ _ _ .refl (.int _) rh⟩
  · cases rr with
    | cons r1 r2 =>
      cases r2
      obtain ⟨a, vs, rfl, h1, h2⟩ := r1.of_tup
      split at h
      · rename_i bs eb
        obtain rfl := intsU_ok h2 eb
        exact call_maxT hc hu pins s σ H _ us Q I r ⟨a, bs, rfl, h1, h.1, fun m hm hy => k _ _ (h.2 m hm hy) _ _ _ .refl (.int _) rh⟩
      · exact h.elim
  · cases rr with
    | cons r1 r2 =>
      cases r2
      obtain ⟨a, us', vs, rfl, h1, h2, p⟩ := listRow_ok r1 rh h
      split at p
      · rename_i bs eb
        obtain rfl := intsU_ok h2 eb
        exact cr_max hc pins s σ H _ us Q I r ⟨a, bs, rfl, h1, List.length_pos_iff.mpr p.1, fun m hm hy => k _ _ (p.2 m hm hy) _ _ _ .refl (.int _) rh⟩
      · exact p.elim
  · exact h.elim
theorem b_min (hc : X.calm = true) : CallR X (.builtin "min") (rl X.K uMin) := by
  intro pins s σ H xs us Q I r h
  obtain ⟨ws, mh, as, P, rr, rh, h, k⟩ := h
  unfold uMin at h
  split at h
  · cases rr with
    | cons r1 r2 =>
      cases r2 with
      | cons r3 r4 =>
        cases r4
        obtain rfl := r1.nn; obtain rfl := r3.nn
        exact call_min2 hc pins s σ H _ us Q I r ⟨_, _, rfl, k _ _ h _ _ _ .refl (.int _) rh⟩
  · cases rr with
    | cons r1 r2 =>
      cases r2
      obtain ⟨a, us', vs, rfl, h1, h2, p⟩ := listRow_ok r1 rh h
      split at p
      · rename_i bs eb
        obtain rfl := intsU_ok h2 eb
        exact cr_min hc pins s σ H _ us Q I r ⟨a, bs, rfl, h1, List.length_pos_iff.mpr p.1, fun m hm hy => k _ _ (p.2 m hm hy) _ _ _ .refl (.int _) rh⟩
      · exact p.elim
  · exact h.elim
theorem b_repr (hg : X.A.guards = some []) (hu : X.A.units + 64 < cLine) : CallR X (.builtin "repr") (rl X.K uRepr) := by
  intro pins s σ H xs us Q I r h
  obtain ⟨ws, mh, as, P, rr, rh, h, k⟩ := h
  unfold uRepr u1 at h
  split at h
  · cases rr with
    | cons r1 r2 =>
      cases r2
      obtain ⟨n, d, h1, h2, p⟩ := h
      exact call_show hg hu pins s σ H _ us Q I r ⟨_, d, rfl, dp_of rh _ r1 h1, h2, k _ _ p _ _ _ .refl (.str _) rh⟩
  · exact h.elim
theorem sortI_perm (ns : List Int) : (sortI ns).Perm ns := List.mergeSort_perm ns _
theorem sortI_sorted (ns : List Int) : (sortI ns).Pairwise (· ≤ ·) := by
  have h := List.pairwise_mergeSort (le := fun a b : Int => decide (a ≤ b)) (fun a b c h1 h2 => by simp at *; omega) (fun a b => by simp; omega) ns
  exact h.imp fun h => by simpa using h
theorem sortI_uniq {ns ms : List Int} (h : ms.Perm ns) (s : ms.Pairwise (· ≤ ·)) : ms = sortI ns :=
  List.Perm.eq_of_pairwise (fun a b _ _ h1 h2 => by omega) s (sortI_sorted ns) (h.trans (sortI_perm ns).symm)
theorem strsU_ok {K : PySem.W.Frag} {as : List Addr} {H : Hp} : ∀ {us : List U} {vs : List V} {ns : List Str}, RVs K as H us vs → strsU us = some ns → vs = ns.map V.str
  | [], _, _, r, h => by cases r; cases h; rfl
  | u :: us, _, ns, r, h => by
    cases r with
    | cons r1 r2 =>
      cases u with
      | str x =>
        obtain rfl := r1.ss
        simp only [strsU, Option.map_eq_some_iff] at h
        obtain ⟨xs, h1, rfl⟩ := h
        rw [strsU_ok r2 h1]; rfl
      | _ => simp [strsU] at h
theorem strsU_rv {K : PySem.W.Frag} {as : List Addr} {H : Hp} : ∀ ns : List Str, RVs K as H (ns.map U.str) (ns.map V.str)
  | [] => .nil
  | n :: ns => .cons (.str n) (strsU_rv ns)
theorem keys_ints : ∀ {kvs : List (Key × U)} {ns : List Int}, intsU (keysU kvs) = some ns → kvs.map (·.1) = ns.map Sum.inl
  | [], _, h => by cases h; rfl
  | (k, v) :: r, ns, h => by
    cases k with
    | inl i =>
      simp only [keysU, List.map_cons, keyU, intsU, Option.map_eq_some_iff] at h
      obtain ⟨xs, h1, rfl⟩ := h
      rw [List.map_cons, keys_ints h1]; rfl
    | inr x => simp [keysU, keyU, intsU] at h
theorem keys_strs : ∀ {kvs : List (Key × U)} {ns : List Str}, strsU (keysU kvs) = some ns → kvs.map (·.1) = ns.map Sum.inr
  | [], _, h => by cases h; rfl
  | (k, v) :: r, ns, h => by
    cases k with
    | inr i =>
      simp only [keysU, List.map_cons, keyU, strsU, Option.map_eq_some_iff] at h
      obtain ⟨xs, h1, rfl⟩ := h
      rw [List.map_cons, keys_strs h1]; rfl
    | inl x => simp [keysU, keyU, strsU] at h
theorem keys_same {K : PySem.W.Frag} {as : List Addr} {H : Hp} {us : List (Key × U)} {vs : List (Key × V)} (h : Paired (RKv K as H) us vs) : vs.map (·.1) = us.map (·.1) := by
  induction h with
  | nil => rfl
  | cons r t ih => rw [List.map_cons, List.map_cons, ih, r.1]
theorem sortM_ok {pins : List (Addr × Obj)} {σ : L2.St} {H : Hp} {s : Shared} {Q : VK} {as : List Addr} {mh : MH} {P : MK} {us : List U} {a : Addr} {vs : List V} {u : Value} (I : Inv X pins σ H s) (hu : RelV (.ref a) u) (rh : RH X.K as H mh) (h1 : SqL X.K H a vs) (h2 : RVs X.K as H us vs) (p : sortM us mh P)
    (k : ∀ u mh', P u mh' → Got X.K as H Q u mh') : wpAny (model X.prog X.w) X.A (call (.builtin "sorted") [u]) (EP X pins σ Q) X.xe s := by
  unfold sortM at p
  split at p
  · rename_i ns eb
    obtain rfl := intsU_ok h2 eb
    cases hu
    refine sorted_run (b := false) I h1 (fun a => rfl) (by rfl) (fun a => by rfl) fun ns' q pm od hq => ?_
    have e := sortI_uniq pm od
    subst e
    exact k _ _ p _ _ _ (RH.evNew hq) (.ref (by rw [← rh.len]; simp)) (rh.new hq (.lst (intsU_rv _)))
  · split at p
    · rename_i xs eb
      obtain rfl := strsU_ok h2 eb
      exact cr_sortedS pins s σ H _ [u] Q I (.cons hu .nil) ⟨a, xs, rfl, h1, p.1, fun ys q pm od hq => k _ _ (p.2 ys pm od) _ _ _ (RH.evNew hq) (.ref (by rw [← rh.len]; simp)) (rh.new hq (.lst (strsU_rv _)))⟩
    · exact p.elim
theorem b_sorted (hc : X.calm = true) : CallR X (.builtin "sorted") (rl X.K uSorted) := by
  intro pins s σ H xs us Q I r h
  obtain ⟨ws, mh, as, P, rr, rh, h, k⟩ := h
  unfold uSorted u1 at h
  split at h
  · cases rr with
    | cons r1 r2 =>
      cases r2
      split at h
      · obtain ⟨a, vs, rfl, h1, h2⟩ := r1.of_tup
        unfold sortT at h
        split at h
        · rename_i ns eb
          obtain rfl := intsU_ok h2 eb
          refine call_sortedT pins s σ H _ us Q I r ⟨a, ns, rfl, h1, fun ys q pm od hq => ?_⟩
          have e := sortI_uniq pm od
          subst e
          exact k _ _ h _ _ _ (RH.evNew hq) (.ref (by rw [← rh.len]; simp)) (rh.new hq (.lst (intsU_rv _)))
        · exact h.elim
      · obtain ⟨a, vs, rfl, h1, h2⟩ := r1.of_fz
        obtain ⟨u, rfl, ru⟩ := vals1 r
        exact sortM_ok I ru rh h1.l h2 h k
      · obtain ⟨a, rfl, e0⟩ := r1.of_ref
        split at h
        · rename_i us' q
          obtain ⟨vs, h1, h2⟩ := rh.lst q e0
          obtain ⟨u, rfl, ru⟩ := vals1 r
          exact sortM_ok I ru rh (SqL.of h1) h2 h k
        · rename_i kvs q
          obtain ⟨vs, h1, h2⟩ := rh.dK q e0
          have hk := keys_same h2
          unfold sortM at h
          split at h
          · rename_i ns eb
            refine call_sortedDA hc pins s σ H _ us Q I r ⟨a, vs, ns, rfl, .inl h1, by rw [hk]; exact keys_ints eb, fun ys q pm od hq => ?_⟩
            have e := sortI_uniq pm od
            subst e
            exact k _ _ h _ _ _ (RH.evNew hq) (.ref (by rw [← rh.len]; simp)) (rh.new hq (.lst (intsU_rv _)))
          · split at h
            · rename_i xs eb
              exact call_sortedD hc pins s σ H _ us Q I r ⟨a, vs, xs, rfl, .inl h1, by rw [hk]; exact keys_strs eb, h.1, fun ys q pm od hq => k _ _ (h.2 ys pm od) _ _ _ (RH.evNew hq) (.ref (by rw [← rh.len]; simp)) (rh.new hq (.lst (strsU_rv _)))⟩
            · exact h.elim
        · exact h.elim
      · exact h.elim
  · exact h.elim
end
end Sm

/-! Targets, walks, loops, comprehensions. -/
namespace Sm
open PySem PySem.Spec PyProof.Rows L2 Tk
variable [ZC]
/-! ### targets that store in the slots vs alone -/
def tMGv (K : PySem.W.Frag) (ws : List Nat) (m : MG) : TG := fun v σ H Q => ∃ u sl mh as P, RV K as H u v ∧ RS K as H sl σ ∧ RH K as H mh ∧ m u sl mh P ∧ ∀ sl' mh', P sl' mh' → ∀ σ' H' as', Ev as H as' H' → RS K as' H' sl' σ' → RH K as' H' mh' → wipe σ' ws = wipe σ ws → Q σ' H'
def tMGvs (K : PySem.W.Frag) (ws : List Nat) (m : MGs) : TGs := fun vs σ H Q => ∃ us sl mh as P, RVs K as H us vs ∧ RS K as H sl σ ∧ RH K as H mh ∧ m us sl mh P ∧ ∀ sl' mh', P sl' mh' → ∀ σ' H' as', Ev as H as' H' → RS K as' H' sl' σ' → RH K as' H' mh' → wipe σ' ws = wipe σ ws → Q σ' H'
theorem tMGv_of {K : PySem.W.Frag} {ws : List Nat} {m : MG} (v : V) (σ : L2.St) (H : Hp) (Q : L2.St → Hp → Prop) (h : tMG K m v σ H Q) : tMGv K ws m v σ H Q := by
  obtain ⟨u, sl, mh, as, P, r, rs, rh, h, k⟩ := h
  exact ⟨u, sl, mh, as, P, r, rs, rh, h, fun sl' mh' p σ' H' as' e rs' rh' _ => k _ _ p _ _ _ e rs' rh'⟩
theorem sg_of {X : Cx} {e : Expr} {ws : List Nat} {m : MG} (h : PG X e (tMGv X.K ws m)) : PG X e (tMG X.K m) := h.imp tMGv_of
theorem getW (σ : L2.St) : ∀ (ws : List Nat) (j : Nat), (wipe σ ws)[j]? = if j ∈ ws ∧ j < σ.length then some none else σ[j]?
  | [], j => by simp [wipe]
  | w :: ws, j => by
    show ((wipe σ ws).set w none)[j]? = _
    rw [List.getElem?_set, wipe_length, getW σ ws j]
    by_cases e : w = j
    · subst e
      by_cases l : w < σ.length
      · simp [l]
      · simp [l]
    · have : ¬ j = w := fun z => e z.symm
      simp [e, this]
theorem wipe_set (σ : L2.St) (x : Option V) {i : Nat} {ws : List Nat} (h : i ∈ ws) : wipe (σ.set i x) ws = wipe σ ws := by
  apply List.ext_getElem?
  intro j
  rw [getW, getW, List.length_set, List.getElem?_set]
  by_cases e : i = j
  · subst e
    by_cases l : i < σ.length
    · simp [h, l]
    · simp [l]
  · simp [e]
def gNilM : MGs := fun us sl mh P => us = [] ∧ P sl mh
def gConsM (g : MG) (gs : MGs) : MGs := fun us sl mh P => match us with | u :: us => g u sl mh fun sl1 mh1 => gs us sl1 mh1 P | [] => False
/-- (a, b, ..) = a tuple or a list of that length -/
def gTupM (n : Nat) (gs : MGs) : MG := fun u sl mh P => match u with
  | .tup us => us.length = n ∧ gs us sl mh P
  | .fz us => us.length = n ∧ gs us sl mh P
  | .ref k => match mh[k]? with
    | some (.lst us) => us.length = n ∧ gs us sl mh P
    | _ => False
  | _ => False
theorem pg_alt {X : Cx} {e : Expr} {t t' : TG} (h : PG X e t) (h' : PG X e t') : PG X e (fun v σ H Q => t v σ H Q ∨ t' v σ H Q) := ⟨fun pins s σ H v u Q I r q => q.elim (h.run pins s σ H v u Q I r) (h'.run pins s σ H v u Q I r)⟩
section
variable {X : Cx} {pos : Pos} {ws : List Nat}
theorem sgv_name {i : Nat} {x : Str} (hN : X.N.Nodup) (hw : i ∈ ws := by decide) (hi : X.N[i]? = some x := by rfl) (hx : Loc X.env.scope x := by first | exact Or.inl rfl | exact Or.inr rfl) (hf : X.fn x = true ∨ X.env.scope.names.lookup x = some .local := by first | exact .inl rfl | exact .inr rfl | assumption) : PG X (.Name x pos) (tMGv X.K ws (gN i)) :=
  (pg_name hN hi hx hf).imp fun v σ H Q h => by
    obtain ⟨u, sl, mh, as, P, r, rs, rh, h, k⟩ := h
    exact k _ _ h _ _ _ .refl (rs.set i r) rh (wipe_set σ _ hw)
theorem sgs_nil : PGs X [] (tMGvs X.K ws gNilM) := pgs_nil.imp fun v σ H Q h => by
  obtain ⟨u, sl, mh, as, P, r, rs, rh, h, k⟩ := h
  obtain ⟨rfl, h⟩ := h
  cases r
  exact ⟨rfl, k _ _ h _ _ _ .refl rs rh rfl⟩
theorem sgs_cons {e : Expr} {es : List Expr} {g : MG} {gs : MGs} (h1 : PG X e (tMGv X.K ws g)) (h2 : PGs X es (tMGvs X.K ws gs)) (hs : (assignEach (e :: es) X.env).map (·.2) = assign e X.env :: (assignEach es X.env).map (·.2) := by rfl) : PGs X (e :: es) (tMGvs X.K ws (gConsM g gs)) :=
  (pgs_cons h1 h2 hs).imp fun v σ H Q h => by
    obtain ⟨u, sl, mh, as, P, r, rs, rh, h, k⟩ := h
    cases r with
    | nil => exact h.elim
    | cons r1 r2 => exact ⟨_, _, rfl, _, sl, mh, as, _, r1, rs, rh, h, fun sl1 mh1 p σ1 H1 as1 e rs1 rh1 w1 => ⟨_, sl1, mh1, as1, P, RVs.ev e r2, rs1, rh1, p, fun sl2 mh2 p2 σ2 H2 as2 e2 rs2 rh2 w2 => k _ _ p2 _ _ _ (e.trans e2) rs2 rh2 (w2.trans w1)⟩⟩
theorem sgv_tup {es : List Expr} {k : Nat} {gs : MGs} {n : Nat} (hc : X.calm = true) (h : PGs X es (tMGvs X.K ws gs)) (hn : (assignEach es X.env).length = n := by rfl) (hst : (assignEach es X.env).findIdx? (·.1) = none := by rfl) : PG X (.Tuple es k pos) (tMGv X.K ws (gTupM n gs)) :=
  (pg_alt (pg_tup hc h hn hst) (pg_lst hc h hn hst)).imp fun v σ H Q h => by
    obtain ⟨u, sl, mh, as, P, r, rs, rh, h, k⟩ := h
    unfold gTupM at h
    split at h
    · obtain ⟨a, vs, rfl, h1, h2⟩ := r.of_tup
      exact .inl ⟨a, vs, rfl, h1, by rw [← Paired.length h2]; exact h.1, _, sl, mh, as, P, h2, rs, rh, h.2, k⟩
    · obtain ⟨a, vs, rfl, h1, h2⟩ := r.of_fz
      exact .inr ⟨a, vs, rfl, h1.l, by rw [← Paired.length h2]; exact h.1, _, sl, mh, as, P, h2, rs, rh, h.2, k⟩
    · obtain ⟨a, rfl, e⟩ := r.of_ref
      split at h
      · rename_i us q
        obtain ⟨vs, h1, h2⟩ := rh.lst q e
        exact .inr ⟨a, vs, rfl, SqL.of h1, by rw [← Paired.length h2]; exact h.1, _, sl, mh, as, P, h2, rs, rh, h.2, k⟩
      · exact h.elim
    · exact h.elim
end
/-! ### walks -/
structure Wlk (K : PySem.W.Frag) (as0 : List Addr) (H0 : Hp) (J : It) (items : List U) (chk : MH → Prop) : Prop where
  go : ∀ as H mh i u, Ev as0 H0 as H → RH K as H mh → chk mh → items[i]? = some u → J.go i H ∧ ∀ x H', J.yld i H x H' → ∃ as', Ev as H as' H' ∧ RH K as' H' mh ∧ RV K as' H' u x
  stop : ∀ as H mh, Ev as0 H0 as H → RH K as H mh → chk mh → J.stop items.length H
abbrev MI := Sl → MH → (List U → (MH → Prop) → MH → Prop) → Prop
def tMI (K : PySem.W.Frag) (m : MI) : TI := fun σ H R => ∃ sl mh as P, RS K as H sl σ ∧ RH K as H mh ∧ m sl mh P ∧ ∀ items chk mh', P items chk mh' → ∀ H' as', Ev as H as' H' → RH K as' H' mh' → ∀ J, Wlk K as' H' J items chk → R J H'
/-- a row that is walked, and what must stay of it -/
def rowW (u : U) (mh : MH) (P : List U → (MH → Prop) → Prop) : Prop := match u with
  | .tup us => P us fun _ => True
  | .fz us => P us fun _ => True
  | .ref n => match mh[n]? with
    | some (.lst us) => P us fun mh' => mh'[n]? = some (.lst us)
    | _ => False
  | _ => False
def mIt (m : ME) : MI := fun sl mh P => m sl mh fun u mh1 => rowW u mh1 fun us chk => P us chk mh1
def rngU (lo : Int) (n : Nat) : List U := (List.range n).map fun i => U.int (lo + (i : Nat))
def mRng1 (m : ME) : MI := fun sl mh P => m sl mh fun u mh1 => match u with | .int j => -(2 ^ 62) ≤ j ∧ j < 2 ^ 62 ∧ P (rngU 0 j.toNat) (fun _ => True) mh1 | _ => False
def mRng2 (m m' : ME) : MI := fun sl mh P => m sl mh fun u mh1 => m' sl mh1 fun v mh2 => match u, v with | .int i, .int j => (-(2 ^ 62) ≤ i ∧ i < 2 ^ 62 ∧ -(2 ^ 62) ≤ j ∧ j < 2 ^ 62) ∧ P (rngU i (j - i).toNat) (fun _ => True) mh2 | _, _ => False
def enumU (us : List U) : List U := us.mapIdx fun i u => U.tup [.int (i : Nat), u]
def mEnum (m : ME) : MI := fun sl mh P => m sl mh fun u mh1 => rowW u mh1 fun us chk => P (enumU us) chk mh1
def isTup : U → Bool | .tup _ => true | _ => false
def mZip (m m' : ME) : MI := fun sl mh P => m sl mh fun u mh1 => m' sl mh1 fun v mh2 => rowW u mh2 fun us chk => rowW v mh2 fun vs chk' => (!isTup u || isTup v) = true ∧ P (List.zipWith (fun a b => U.tup [a, b]) us vs) (fun mh => chk mh ∧ chk' mh) mh2
/-- what a row is while chk holds of it -/
inductive RowAt (K : PySem.W.Frag) (as0 : List Addr) (H0 : Hp) (a : Addr) (us : List U) (chk : MH → Prop) : Bool → Prop
  | tup : (∀ as H mh, Ev as0 H0 as H → RH K as H mh → chk mh → ∃ vs, SqT K H a vs ∧ RVs K as H us vs) → RowAt K as0 H0 a us chk true
  | lst : (∀ as H mh, Ev as0 H0 as H → RH K as H mh → chk mh → ∃ vs, SqL K H a vs ∧ RVs K as H us vs) → RowAt K as0 H0 a us chk false
theorem rowW_ok {K : PySem.W.Frag} {as : List Addr} {H : Hp} {u : U} {v : V} {mh : MH} {P : List U → (MH → Prop) → Prop} (r : RV K as H u v) (R : RH K as H mh) (h : rowW u mh P) :
    ∃ a us chk b, v = .ref a ∧ P us chk ∧ chk mh ∧ b = isTup u ∧ RowAt K as H a us chk b := by
  unfold rowW at h
  split at h
  · obtain ⟨a, vs, rfl, h1, h2⟩ := r.of_tup
    exact ⟨a, _, _, true, rfl, h, trivial, rfl, .tup fun as' H' mh' e _ _ => ⟨vs, e.pe.sqT h1, RVs.ev e h2⟩⟩
  · obtain ⟨a, vs, rfl, h1, h2⟩ := r.of_fz
    exact ⟨a, _, _, false, rfl, h, trivial, rfl, .lst fun as' H' mh' e _ _ => ⟨vs, (e.pe.sqF h1).l, RVs.ev e h2⟩⟩
  · obtain ⟨a, rfl, e0⟩ := r.of_ref
    split at h
    · rename_i us q
      refine ⟨a, us, _, false, rfl, h, q, rfl, .lst fun as' H' mh' e R' c => ?_⟩
      have e0' := e0
      obtain ⟨t, rfl⟩ := e.ap
      obtain ⟨vs, h1, h2⟩ := R'.lst c (by rw [List.getElem?_append_left (List.getElem?_eq_some_iff.mp e0).1]; exact e0)
      exact ⟨vs, SqL.of h1, h2⟩
    · exact h.elim
  · exact h.elim
theorem sqT_inj {K : PySem.W.Frag} {H : Hp} {a : Addr} {xs ys : List V} (hok : True) (h : SqT K H a xs) (h' : SqT K H a ys) (u : ∀ us : List Value, Vals xs us → Vals ys us → xs = ys) : True := trivial
section
variable {K : PySem.W.Frag} {as0 : List Addr} {H0 : Hp}
theorem wlk_lst {a : Addr} {us : List U} {chk : MH → Prop} (h : ∀ as H mh, Ev as0 H0 as H → RH K as H mh → chk mh → ∃ vs, SqL K H a vs ∧ RVs K as H us vs) : Wlk K as0 H0 (Itl K a) us chk := by
  refine ⟨fun as H mh i u e R c hu => ?_, fun as H mh e R c => ?_⟩
  · obtain ⟨vs, h1, h2⟩ := h as H mh e R c
    obtain ⟨v, e1, e2⟩ := prd_get h2 hu
    refine ⟨⟨vs, v, h1, e1⟩, fun x H' y => ?_⟩
    obtain ⟨rfl, y⟩ := y
    have := y vs h1
    rw [e1] at this
    cases this
    exact ⟨as, .refl, R, e2⟩
  · obtain ⟨vs, h1, h2⟩ := h as H mh e R c
    exact ⟨vs, h1, Nat.le_of_eq (Paired.length h2).symm⟩
theorem wlk_tup {a : Addr} {us : List U} {chk : MH → Prop} (h : ∀ as H mh, Ev as0 H0 as H → RH K as H mh → chk mh → ∃ vs, SqT K H a vs ∧ RVs K as H us vs) : Wlk K as0 H0 (Itt K a) us chk := by
  refine ⟨fun as H mh i u e R c hu => ?_, fun as H mh e R c => ?_⟩
  · obtain ⟨vs, h1, h2⟩ := h as H mh e R c
    obtain ⟨v, e1, e2⟩ := prd_get h2 hu
    refine ⟨⟨vs, v, h1, e1⟩, fun x H' y => ?_⟩
    obtain ⟨rfl, y⟩ := y
    have := y vs h1
    rw [e1] at this
    cases this
    exact ⟨as, .refl, R, e2⟩
  · obtain ⟨vs, h1, h2⟩ := h as H mh e R c
    exact ⟨vs, h1, Nat.le_of_eq (Paired.length h2).symm⟩
theorem wlk_rng (lo : Int) (n : Nat) : Wlk K as0 H0 (Itr lo n) (rngU lo n) fun _ => True := by
  refine ⟨fun as H mh i u e R c hu => ?_, fun as H mh e R c => ?_⟩
  · have hi : i < n := by
      have := (List.getElem?_eq_some_iff.mp hu).1
      simpa [rngU] using this
    refine ⟨hi, fun x H' y => ?_⟩
    obtain ⟨rfl, rfl⟩ := y
    have e : u = U.int (lo + (i : Nat)) := by
      unfold rngU at hu
      rw [List.getElem?_map, List.getElem?_range hi] at hu
      cases hu; rfl
    subst e
    exact ⟨as, .refl, R, .int _⟩
  · show n ≤ (rngU lo n).length
    simp [rngU]
theorem wlk_enum {a : Addr} {us : List U} {chk : MH → Prop} (h : ∀ as H mh, Ev as0 H0 as H → RH K as H mh → chk mh → ∃ vs, SqL K H a vs ∧ RVs K as H us vs) : Wlk K as0 H0 (Ite K a) (enumU us) chk := by
  refine ⟨fun as H mh i u e R c hu => ?_, fun as H mh e R c => ?_⟩
  · obtain ⟨vs, h1, h2⟩ := h as H mh e R c
    obtain ⟨w, hw, rfl⟩ : ∃ w, us[i]? = some w ∧ u = U.tup [.int (i : Nat), w] := by
      unfold enumU at hu
      rw [List.getElem?_mapIdx] at hu
      cases q : us[i]? with
      | none => rw [q] at hu; cases hu
      | some w => rw [q] at hu; cases hu; exact ⟨w, rfl, rfl⟩
    obtain ⟨v, e1, e2⟩ := prd_get h2 hw
    refine ⟨⟨vs, v, h1, e1⟩, fun x H' y => ?_⟩
    obtain ⟨T, z, rfl, hT, rfl, y⟩ := y
    have := y vs h1
    rw [e1] at this
    cases this
    have ev := RH.evGrow (as := as) (o := .tup [.int (i : Nat), v]) hT
    exact ⟨as, ev, R.grow hT, RV.tups (SqT.of upd_same) (.cons (.int _) (.cons (e2.ev ev) .nil))⟩
  · obtain ⟨vs, h1, h2⟩ := h as H mh e R c
    exact ⟨vs, h1, by simp [enumU, Paired.length h2]⟩
theorem zipGet {us ws : List U} {i : Nat} {u : U} (h : (List.zipWith (fun a b => U.tup [a, b]) us ws)[i]? = some u) : ∃ x y, us[i]? = some x ∧ ws[i]? = some y ∧ u = .tup [x, y] := by
  rw [List.getElem?_zipWith] at h
  cases e1 : us[i]? with
  | none => rw [e1] at h; cases h
  | some x =>
    cases e2 : ws[i]? with
    | none => rw [e1, e2] at h; cases h
    | some y => rw [e1, e2] at h; cases h; exact ⟨x, y, rfl, rfl, rfl⟩
theorem wlk_zip {a b : Addr} {us ws : List U} {chk chk' : MH → Prop} (h : ∀ as H mh, Ev as0 H0 as H → RH K as H mh → chk mh → ∃ vs, SqL K H a vs ∧ RVs K as H us vs) (h' : ∀ as H mh, Ev as0 H0 as H → RH K as H mh → chk' mh → ∃ vs, SqL K H b vs ∧ RVs K as H ws vs) :
    Wlk K as0 H0 (Itz K a b) (List.zipWith (fun a b => U.tup [a, b]) us ws) fun mh => chk mh ∧ chk' mh := by
  refine ⟨fun as H mh i u e R c hu => ?_, fun as H mh e R c => ?_⟩
  · obtain ⟨vs, h1, h2⟩ := h as H mh e R c.1
    obtain ⟨vs', h1', h2'⟩ := h' as H mh e R c.2
    obtain ⟨x, y, hx, hy, rfl⟩ := zipGet hu
    obtain ⟨v, e1, e2⟩ := prd_get h2 hx
    obtain ⟨v', e1', e2'⟩ := prd_get h2' hy
    refine ⟨⟨vs, vs', v, v', h1, h1', e1, e1'⟩, fun z H' q => ?_⟩
    obtain ⟨T, z1, z2, rfl, hT, rfl, q1, q2⟩ := q
    have g1 := q1 vs h1
    rw [e1] at g1
    cases g1
    have g2 := q2 vs' h1'
    rw [e1'] at g2
    cases g2
    have ev := RH.evGrow (as := as) (o := .tup [v, v']) hT
    exact ⟨as, ev, R.grow hT, RV.tups (SqT.of upd_same) (.cons (e2.ev ev) (.cons (e2'.ev ev) .nil))⟩
  · obtain ⟨vs, h1, h2⟩ := h as H mh e R c.1
    obtain ⟨vs', h1', h2'⟩ := h' as H mh e R c.2
    refine ⟨vs, vs', h1, h1', ?_⟩
    rw [List.length_zipWith, ← Paired.length h2, ← Paired.length h2']
    omega
theorem wlk_zipT {a b : Addr} {us ws : List U} {chk chk' : MH → Prop} (h : ∀ as H mh, Ev as0 H0 as H → RH K as H mh → chk mh → ∃ vs, SqT K H a vs ∧ RVs K as H us vs) (h' : ∀ as H mh, Ev as0 H0 as H → RH K as H mh → chk' mh → ∃ vs, SqT K H b vs ∧ RVs K as H ws vs) :
    Wlk K as0 H0 (RZ.ItzT K a b) (List.zipWith (fun a b => U.tup [a, b]) us ws) fun mh => chk mh ∧ chk' mh := by
  refine ⟨fun as H mh i u e R c hu => ?_, fun as H mh e R c => ?_⟩
  · obtain ⟨vs, h1, h2⟩ := h as H mh e R c.1
    obtain ⟨vs', h1', h2'⟩ := h' as H mh e R c.2
    obtain ⟨x, y, hx, hy, rfl⟩ := zipGet hu
    obtain ⟨v, e1, e2⟩ := prd_get h2 hx
    obtain ⟨v', e1', e2'⟩ := prd_get h2' hy
    refine ⟨⟨vs, vs', v, v', h1, h1', e1, e1'⟩, fun z H' q => ?_⟩
    obtain ⟨T, z1, z2, rfl, hT, rfl, q1, q2⟩ := q
    have g1 := q1 vs h1
    rw [e1] at g1
    cases g1
    have g2 := q2 vs' h1'
    rw [e1'] at g2
    cases g2
    have ev := RH.evGrow (as := as) (o := .tup [v, v']) hT
    exact ⟨as, ev, R.grow hT, RV.tups (SqT.of upd_same) (.cons (e2.ev ev) (.cons (e2'.ev ev) .nil))⟩
  · obtain ⟨vs, h1, h2⟩ := h as H mh e R c.1
    obtain ⟨vs', h1', h2'⟩ := h' as H mh e R c.2
    refine ⟨vs, vs', h1, h1', ?_⟩
    rw [List.length_zipWith, ← Paired.length h2, ← Paired.length h2']
    omega
theorem wlk_zipM {a b : Addr} {us ws : List U} {chk chk' : MH → Prop} (h : ∀ as H mh, Ev as0 H0 as H → RH K as H mh → chk mh → ∃ vs, SqL K H a vs ∧ RVs K as H us vs) (h' : ∀ as H mh, Ev as0 H0 as H → RH K as H mh → chk' mh → ∃ vs, SqT K H b vs ∧ RVs K as H ws vs) :
    Wlk K as0 H0 (ItzM K a b) (List.zipWith (fun a b => U.tup [a, b]) us ws) fun mh => chk mh ∧ chk' mh := by
  refine ⟨fun as H mh i u e R c hu => ?_, fun as H mh e R c => ?_⟩
  · obtain ⟨vs, h1, h2⟩ := h as H mh e R c.1
    obtain ⟨vs', h1', h2'⟩ := h' as H mh e R c.2
    obtain ⟨x, y, hx, hy, rfl⟩ := zipGet hu
    obtain ⟨v, e1, e2⟩ := prd_get h2 hx
    obtain ⟨v', e1', e2'⟩ := prd_get h2' hy
    refine ⟨⟨vs, vs', v, v', h1, h1', e1, e1'⟩, fun z H' q => ?_⟩
    obtain ⟨T, z1, z2, rfl, hT, rfl, q1, q2⟩ := q
    have g1 := q1 vs h1
    rw [e1] at g1
    cases g1
    have g2 := q2 vs' h1'
    rw [e1'] at g2
    cases g2
    have ev := RH.evGrow (as := as) (o := .tup [v, v']) hT
    exact ⟨as, ev, R.grow hT, RV.tups (SqT.of upd_same) (.cons (e2.ev ev) (.cons (e2'.ev ev) .nil))⟩
  · obtain ⟨vs, h1, h2⟩ := h as H mh e R c.1
    obtain ⟨vs', h1', h2'⟩ := h' as H mh e R c.2
    refine ⟨vs, vs', h1, h1', ?_⟩
    rw [List.length_zipWith, ← Paired.length h2, ← Paired.length h2']
    omega
end
section
variable {X : Cx} {tg : Expr} {pos p : Pos}
/-- a list or a tuple, walked -/
def iSeq (K : PySem.W.Frag) (tl : TE) : TI := fun σ H R => tl σ H fun x H1 => ∃ a, x = .ref a ∧ (((∃ xs, SqL K H1 a xs) ∧ R (Itl K a) H1) ∨ ((∃ xs, SqT K H1 a xs) ∧ R (Itt K a) H1))
theorem pi_seq {l : Expr} {tl : TE} (hl : PE X l tl) : PI X tg l (iSeq X.K tl) := by
  refine ⟨fun pins s σ H R I h => ?_⟩
  refine thn (hl.run pins s σ H _ I h) fun v s1 ⟨x, H1, I1, r1, q1⟩ => ?_
  obtain ⟨a, e, q1⟩ := q1
  subst e
  cases r1
  rcases q1 with ⟨⟨xs, hq⟩, q⟩ | ⟨⟨xs, hq⟩, q⟩
  · obtain ⟨its, rv, p, hz⟩ := I1.list hq
    refine wpAny_pyIter_list p.isList ?_
    refine ⟨s1.heap.objs.size, [s1.heap.objs.size], _, _, H1, rfl, I1.kept (t' := s1.toks) fun b o e => Heap.get?_push_of_some _ e, turn_list a _, ⟨_, Heap.get?_push_size _ rfl, rfl, rfl⟩, fun b hb => ?_, q⟩
    have e : b = s1.heap.objs.size := by simpa using hb
    subst e
    exact I1.fpOk (Nat.le_refl _) (I1.hok.fresh (Nat.le_refl _))
  · obtain ⟨its, rv, p, hz⟩ := I1.tuple hq
    refine wpAny_pyIter_tuple (show s1.heap.IsTuple a its.toArray from p) ?_
    refine ⟨s1.heap.objs.size, [s1.heap.objs.size], _, _, H1, rfl, I1.kept (t' := s1.toks) fun b o e => Heap.get?_push_of_some _ e, turn_tuple a _, ⟨_, Heap.get?_push_size _ rfl, rfl, rfl⟩, fun b hb => ?_, q⟩
    have e : b = s1.heap.objs.size := by simpa using hb
    subst e
    exact I1.fpOk (Nat.le_refl _) (I1.hok.fresh (Nat.le_refl _))
theorem si_seq {l : Expr} {m : ME} (hl : PE X l (tM X.K m)) : PI X tg l (tMI X.K (mIt m)) := ⟨fun pins s σ H R I h => (pi_seq hl).run pins s σ H R I (by
  obtain ⟨sl, mh, as, P, rs, rh, h, k⟩ := h
  refine ⟨sl, mh, as, _, rs, rh, h, fun u mh1 q x H1 as1 e r rh1 => ?_⟩
  obtain ⟨a, us, chk, b, rfl, q, c, _, ra⟩ := rowW_ok r rh1 q
  refine ⟨a, rfl, ?_⟩
  cases ra with
  | tup f =>
    obtain ⟨vs, h1, _⟩ := f as1 H1 mh1 .refl rh1 c
    exact .inr ⟨⟨vs, h1⟩, k _ _ _ q _ _ e rh1 _ (wlk_tup f)⟩
  | lst f =>
    obtain ⟨vs, h1, _⟩ := f as1 H1 mh1 .refl rh1 c
    exact .inl ⟨⟨vs, h1⟩, k _ _ _ q _ _ e rh1 _ (wlk_lst f)⟩)⟩
theorem si_rng1 {a : Expr} {m : ME} (ha : PE X a (tM X.K m)) (hm : X.mg "range" = none) (hg : Gl X "range" := by rfl) (hs : starEach [a] X.env = [(false, eval a X.env)] := by rfl) : PI X tg (.Call (.Name "range" p) [a] [] pos) (tMI X.K (mRng1 m)) := ⟨fun pins s σ H R I h => (pi_range1 hg hm (sa_cons ha sa_nil hs) hs).run pins s σ H R I (by
  obtain ⟨sl, mh, as, P, rs, rh, h, k⟩ := h
  refine ⟨sl, mh, as, fun us mh1 => match us with | [.int j] => -(2 ^ 62) ≤ j ∧ j < 2 ^ 62 ∧ P (rngU 0 j.toNat) (fun _ => True) mh1 | _ => False, rs, rh, ?_, fun us mh1 q vs H1 as1 e r rh1 => ?_⟩
  · show m sl mh fun u mh1 => (match [u] with | [.int j] => -(2 ^ 62) ≤ j ∧ j < 2 ^ 62 ∧ P (rngU 0 j.toNat) (fun _ => True) mh1 | _ => False)
    have e : (fun (u : U) (mh1 : MH) => (match [u] with | [.int j] => -(2 ^ 62) ≤ j ∧ j < 2 ^ 62 ∧ P (rngU 0 j.toNat) (fun _ => True) mh1 | _ => False : Prop)) = fun u mh1 => match u with | .int j => -(2 ^ 62) ≤ j ∧ j < 2 ^ 62 ∧ P (rngU 0 j.toNat) (fun _ => True) mh1 | _ => False := by
      funext u mh1
      cases u <;> rfl
    rw [e]
    exact h
  · dsimp only at q
    split at q
    · cases r with
      | cons r1 r2 =>
        cases r2
        obtain rfl := r1.nn
        exact ⟨_, rfl, q.1, q.2.1, k _ _ _ q.2.2 _ _ e rh1 _ (wlk_rng _ _)⟩
    · exact q.elim)⟩
theorem si_rng2 {a b : Expr} {m m' : ME} (ha : PE X a (tM X.K m)) (hb : PE X b (tM X.K m')) (hm : X.mg "range" = none) (hg : Gl X "range" := by rfl) (hs : starEach [a, b] X.env = [(false, eval a X.env), (false, eval b X.env)] := by rfl) (hs2 : starEach [b] X.env = [(false, eval b X.env)] := by rfl) :
    PI X tg (.Call (.Name "range" p) [a, b] [] pos) (tMI X.K (mRng2 m m')) := ⟨fun pins s σ H R I h => (pi_range2 hg hm (sa_cons ha (sa_cons hb sa_nil hs2) (by rw [hs, hs2])) hs hs2).run pins s σ H R I (by
  obtain ⟨sl, mh, as, P, rs, rh, h, k⟩ := h
  refine ⟨sl, mh, as, fun us mh2 => ∃ u v, us = [u, v] ∧ match u, v with | .int i, .int j => (-(2 ^ 62) ≤ i ∧ i < 2 ^ 62 ∧ -(2 ^ 62) ≤ j ∧ j < 2 ^ 62) ∧ P (rngU i (j - i).toNat) (fun _ => True) mh2 | _, _ => False, rs, rh, ?_, fun us mh1 q vs H1 as1 e r rh1 => ?_⟩
  · have e : (fun (u : U) (mh1 : MH) => m' sl mh1 fun v mh2 => ∃ u' v', [u, v] = [u', v'] ∧ (match u', v' with | .int i, .int j => (-(2 ^ 62) ≤ i ∧ i < 2 ^ 62 ∧ -(2 ^ 62) ≤ j ∧ j < 2 ^ 62) ∧ P (rngU i (j - i).toNat) (fun _ => True) mh2 | _, _ => False : Prop)) = fun u mh1 => m' sl mh1 fun v mh2 => (match u, v with | .int i, .int j => (-(2 ^ 62) ≤ i ∧ i < 2 ^ 62 ∧ -(2 ^ 62) ≤ j ∧ j < 2 ^ 62) ∧ P (rngU i (j - i).toNat) (fun _ => True) mh2 | _, _ => False : Prop) := by
      funext u mh1
      congr 1
      funext v mh2
      apply propext
      constructor
      · rintro ⟨u', v', z, h⟩
        cases z
        exact h
      · exact fun h => ⟨u, v, rfl, h⟩
    show m sl mh fun u mh1 => m' sl mh1 fun v mh2 => ∃ u' v', [u, v] = [u', v'] ∧ _
    rw [e]
    exact h
  · obtain ⟨u, v, rfl, q⟩ := q
    split at q
    · cases r with
      | cons r1 r2 =>
        cases r2 with
        | cons r3 r4 =>
          cases r4
          obtain rfl := r1.nn
          obtain rfl := r3.nn
          exact ⟨_, _, rfl, q.1, k _ _ _ q.2 _ _ e rh1 _ (wlk_rng _ _)⟩
    · exact q.elim)⟩
end
/-! ### for -/
def forW (chk : MH → Prop) (g : MG) (b : MS) (N : MEnds) : List U → Sl → MH → Prop
  | [] => fun sl mh => chk mh ∧ N.nx sl mh
  | u :: us => fun sl mh => chk mh ∧ g u sl mh fun sl1 mh1 => b { nx := forW chk g b N us, rt := N.rt, bk := N.nx, ct := forW chk g b N us } sl1 mh1
def mFor (mi : MI) (g : MG) (b : MS) : MS := fun N sl mh => mi sl mh fun items chk mh1 => forW chk g b N items sl mh1
theorem drop_some {α : Type} {xs : List α} {i : Nat} {u : α} {r : List α} (h : xs.drop i = u :: r) : xs[i]? = some u ∧ xs.drop (i + 1) = r ∧ i < xs.length := by
  have hi : i < xs.length := by
    apply Nat.lt_of_not_le
    intro z
    rw [List.drop_eq_nil_of_le z] at h
    cases h
  rw [List.drop_eq_getElem_cons hi] at h
  cases h
  exact ⟨List.getElem?_eq_getElem hi, rfl, hi⟩
section
variable {X : Cx} {tg iter : Expr} {body : List Stmt} {mi : MI} {g : MG} {b : MS} {pos : Pos}
theorem sp_for (hi : PI X tg iter (tMI X.K mi)) (hg : PG X tg (tMG X.K g)) (hb : PSs X body (tMS X.K b)) (hp : PassesOwn (model X.prog X.w) X.A X.env X.xe := by exact PassesOwn.never) (hc : X.calm = true := by rfl)
    (hs : ∀ x, foldedSetIterable iter X.env x = pure x := by intro _; rfl) : PS X (.For tg iter body [] pos) (tMS X.K (mFor mi g b)) := by
  refine (ps_for hp hc hi hg hb hs).imp fun D σ H h => ?_
  obtain ⟨sl, mh, as, N, rs, rh, h, k⟩ := h
  refine ⟨sl, mh, as, _, rs, rh, h, fun items chk mh1 p H1 as1 e rh1 J w => ?_⟩
  refine ⟨fun i m σ' H' => ∃ sl' mh' as', i + m = items.length ∧ Ev as1 H1 as' H' ∧ RS X.K as' H' sl' σ' ∧ RH X.K as' H' mh' ∧ forW chk g b N (items.drop i) sl' mh', ⟨items.length, sl, mh1, as1, by omega, .refl, rs.ev e, rh1, p⟩, ?_⟩
  rintro i m σ' H' ⟨sl', mh', as', him, e', rs', rh', f⟩
  cases q : items.drop i with
  | nil =>
    rw [q] at f
    have hi' : i = items.length := by
      have : items.length ≤ i := List.drop_eq_nil_iff.mp q
      omega
    subst hi'
    exact .inl ⟨w.stop _ _ _ e' rh' f.1, k.nx _ _ f.2 _ _ _ (e.trans e') rs' rh'⟩
  | cons u r =>
    rw [q] at f
    obtain ⟨hu, hr, hlt⟩ := drop_some q
    obtain ⟨g1, g2⟩ := w.go _ _ _ i u e' rh' f.1 hu
    refine .inr ⟨g1, fun σ2 H2 => ∃ sl' mh' as', i + 1 + (m - 1) = items.length ∧ Ev as1 H1 as' H2 ∧ RS X.K as' H2 sl' σ2 ∧ RH X.K as' H2 mh' ∧ forW chk g b N (items.drop (i + 1)) sl' mh', fun σ2 H2 n => ⟨m - 1, by omega, n⟩, fun x H2 y => ?_⟩
    obtain ⟨as2, e2, rh2, rv⟩ := g2 x H2 y
    refine ⟨u, sl', mh', as2, _, rv, rs'.ev e2, rh2, f.2, fun sl3 mh3 p3 σ3 H3 as3 e3 rs3 rh3 => ?_⟩
    have back : ∀ sl4 mh4, forW chk g b N r sl4 mh4 → GotS X.K as3 H3 (fun σ2 H2 => ∃ sl' mh' as', i + 1 + (m - 1) = items.length ∧ Ev as1 H1 as' H2 ∧ RS X.K as' H2 sl' σ2 ∧ RH X.K as' H2 mh' ∧ forW chk g b N (items.drop (i + 1)) sl' mh') sl4 mh4 := fun sl4 mh4 p4 σ4 H4 as4 e4 rs4 rh4 =>
      ⟨sl4, mh4, as4, by omega, ((e'.trans e2).trans e3).trans e4, rs4, rh4, by rw [hr]; exact p4⟩
    have ee := ((e.trans e').trans e2).trans e3
    exact ⟨sl3, mh3, as3, _, rs3, rh3, p3, ⟨back, fun _ _ q => (k.rt _ _ q).at ee, fun _ _ q => (k.nx _ _ q).at ee, back⟩⟩
end
/-! ### while -/
def whileW (c : MT) (b : MS) (N : MEnds) : Nat → Sl → MH → Prop
  | 0 => fun _ _ => False
  | n + 1 => fun sl mh => c sl mh fun k mh1 => if k = true then b { nx := whileW c b N n, rt := N.rt, bk := N.nx, ct := whileW c b N n } sl mh1 else N.nx sl mh1
def mWhile (c : MT) (b : MS) : MS := fun N sl mh => ∃ n, whileW c b N n sl mh
section
variable {X : Cx} {c : Expr} {body : List Stmt} {mc : MT} {b : MS} {pos : Pos}
theorem sp_while (hc : PT X c (tMT X.K mc)) (hb : PSs X body (tMS X.K b)) (hp : PassesOwn (model X.prog X.w) X.A X.env X.xe := by exact PassesOwn.never) : PS X (.While c body [] pos) (tMS X.K (mWhile mc b)) := by
  refine (ps_while hp hc hb).imp fun D σ H h => ?_
  obtain ⟨sl, mh, as, N, rs, rh, ⟨n, h⟩, k⟩ := h
  refine ⟨fun m σ' H' => ∃ sl' mh' as', Ev as H as' H' ∧ RS X.K as' H' sl' σ' ∧ RH X.K as' H' mh' ∧ whileW mc b N m sl' mh', ⟨n, sl, mh, as, .refl, rs, rh, h⟩, ?_⟩
  rintro m σ' H' ⟨sl', mh', as', e, rs', rh', w⟩
  cases m with
  | zero => exact w.elim
  | succ m =>
    refine ⟨sl', mh', as', _, rs', rh', w, fun d mh1 p H1 as1 e1 rh1 => ?_⟩
    cases d with
    | true =>
      refine ⟨fun σ2 H2 => ∃ sl' mh' as', Ev as H as' H2 ∧ RS X.K as' H2 sl' σ2 ∧ RH X.K as' H2 mh' ∧ whileW mc b N m sl' mh', fun σ2 H2 q => ⟨m, by omega, q⟩, ?_⟩
      have back : ∀ sl4 mh4, whileW mc b N m sl4 mh4 → GotS X.K as1 H1 (fun σ2 H2 => ∃ sl' mh' as', Ev as H as' H2 ∧ RS X.K as' H2 sl' σ2 ∧ RH X.K as' H2 mh' ∧ whileW mc b N m sl' mh') sl4 mh4 := fun sl4 mh4 p4 σ4 H4 as4 e4 rs4 rh4 => ⟨sl4, mh4, as4, (e.trans e1).trans e4, rs4, rh4, p4⟩
      have ee := e.trans e1
      exact ⟨sl', mh1, as1, _, rs'.ev e1, rh1, p, ⟨back, fun _ _ q => (k.rt _ _ q).at ee, fun _ _ q => (k.nx _ _ q).at ee, back⟩⟩
    | false => exact k.nx _ _ p _ _ _ (e.trans e1) (rs'.ev e1) rh1
end
end Sm

/-! Comprehensions, enumerate, zip, methods of lists and dicts. -/
namespace Sm
open PySem PySem.Spec PyProof.Rows L2 Tk
variable [ZC]
def wipeU (sl : Sl) : List Nat → Sl
  | [] => sl
  | v :: vs => (wipeU sl vs).set v none
theorem RS.none {K : PySem.W.Frag} {as : List Addr} {H : Hp} {sl : Sl} {σ : L2.St} (h : RS K as H sl σ) (i : Nat) : RS K as H (sl.set i none) (σ.set i none) := by
  refine ⟨by simp [h.len], fun j w q => ?_⟩
  by_cases ij : i = j
  · subst ij
    have hi : i < sl.length := by
      have := (List.getElem?_eq_some_iff.mp q).1
      simpa using this
    rw [List.getElem?_set_self hi] at q
    cases q
  · rw [List.getElem?_set_ne ij] at q
    obtain ⟨v', h1, h2⟩ := h.at_ j w q
    exact ⟨v', by rw [List.getElem?_set_ne ij]; exact h1, h2⟩
theorem RS.wipe {K : PySem.W.Frag} {as : List Addr} {H : Hp} {sl : Sl} {σ : L2.St} (h : RS K as H sl σ) : ∀ vs, RS K as H (wipeU sl vs) (wipe σ vs)
  | [] => h
  | v :: vs => RS.none (RS.wipe h vs) v
theorem wipe_wipe (σ : L2.St) (vs : List Nat) : wipe (wipe σ vs) vs = wipe σ vs := by
  apply List.ext_getElem?
  intro j
  rw [getW, getW, wipe_length]
  by_cases e : j ∈ vs ∧ j < σ.length
  · simp [e]
  · simp [e]
/-! ### comprehensions -/
def lcW (n : Nat) (chk : MH → Prop) (g : MG) (tt : MT) (e : ME) (sl : Sl) (P : MK) : List U → List U → MH → Prop
  | [] => fun acc mh => chk mh ∧ P (.ref n) mh
  | u :: us => fun acc mh => chk mh ∧ g u sl mh fun sl2 mh2 => tt sl2 mh2 fun b mh3 =>
    if b = true then e sl2 mh3 fun y mh4 => mh4[n]? = some (.lst acc) ∧ acc.length < sizeLine ∧ lcW n chk g tt e sl P us (acc ++ [y]) (mh4.set n (.lst (acc ++ [y]))) else lcW n chk g tt e sl P us acc mh3
def mLc (mi : MI) (g : MG) (tt : MT) (e : ME) (vs : List Nat) : ME := fun sl mh P => mi sl mh fun items chk mh1 => lcW mh1.length chk g tt e (wipeU sl vs) P items [] (mh1 ++ [.lst []])
def mYes : MT := fun _ mh P => P true mh
section
variable {X : Cx}
theorem stc_nil : PTs X [] (tMT X.K mYes) := ⟨fun pins s σ H Q I h => pts_nil.run pins s σ H Q I (let ⟨sl, mh, as, P, rs, rh, h, k⟩ := h; k _ _ h _ _ .refl rh)⟩
theorem stc_one {c : Expr} {t : MT} (h : PT X c (tMT X.K t)) : PTs X [c] (tMT X.K t) := pts_one h
theorem tm_lc {K : PySem.W.Frag} {mi : MI} {g : MG} {tt : MT} {e : ME} {vs : List Nat} (σ : L2.St) (H : Hp) (Q : VK) (h : tM K (mLc mi g tt e vs) σ H Q) : tLc (tMI K mi) (tMGv K vs g) (tMT K tt) (tM K e) vs σ H Q := by
  obtain ⟨sl, mh, as, P, rs, rh, h, k⟩ := h
  refine ⟨sl, mh, as, _, rs, rh, h, fun items chk mh1 p H1 as1 e1 rh1 J w D hD => ?_⟩
  have eN := RH.evNew (as := as1) (o := .lst []) hD
  have rhN := rh1.new (m := .lst []) hD (.lst .nil)
  have rsN := ((rs.ev e1).ev eN).wipe vs
  have eD : (as1 ++ [D])[mh1.length]? = some D := by rw [← rh1.len]; simp
  refine ⟨fun i m H' => ∃ acc mh' as', i + m = items.length ∧ Ev (as1 ++ [D]) (upd H1 D (.lst [])) as' H' ∧ RH K as' H' mh' ∧ lcW mh1.length chk g tt e (wipeU sl vs) P (items.drop i) acc mh', ⟨items.length, [], _, _, by omega, .refl, rhN, p⟩, ?_⟩
  rintro i m H' ⟨acc, mh', as', him, e', rh', f⟩
  have eD' : as'[mh1.length]? = some D := by
    obtain ⟨t, rfl⟩ := e'.ap
    rw [List.getElem?_append_left (List.getElem?_eq_some_iff.mp eD).1]; exact eD
  cases q : items.drop i with
  | nil =>
    rw [q] at f
    have hi' : i = items.length := by
      have : items.length ≤ i := List.drop_eq_nil_iff.mp q
      omega
    subst hi'
    exact .inl ⟨w.stop _ _ _ (eN.trans e') rh' f.1, k _ _ f.2 _ _ _ ((e1.trans eN).trans e') (.ref eD') rh'⟩
  | cons u r =>
    rw [q] at f
    obtain ⟨hu, hr, hlt⟩ := drop_some q
    obtain ⟨g1, g2⟩ := w.go _ _ _ i u (eN.trans e') rh' f.1 hu
    refine .inr ⟨g1, fun H2 => ∃ acc mh' as', i + 1 + (m - 1) = items.length ∧ Ev (as1 ++ [D]) (upd H1 D (.lst [])) as' H2 ∧ RH K as' H2 mh' ∧ lcW mh1.length chk g tt e (wipeU sl vs) P (items.drop (i + 1)) acc mh', fun H2 n => ⟨m - 1, by omega, n⟩, fun x H2 y => ?_⟩
    obtain ⟨as2, e2, rh2, rv⟩ := g2 x H2 y
    refine ⟨u, _, mh', as2, _, rv, (rsN.ev e').ev e2, rh2, f.2, fun sl3 mh3 p3 σ3 H3 as3 e3 rs3 rh3 w3 => ⟨w3.trans (wipe_wipe σ vs), ?_⟩⟩
    refine ⟨sl3, mh3, as3, _, rs3, rh3, p3, fun b mh4 p4 H4 as4 e4 rh4 => ?_⟩
    cases b with
    | false => exact ⟨acc, mh4, as4, by omega, ((e'.trans e2).trans e3).trans e4, rh4, by rw [hr]; exact p4⟩
    | true =>
      refine ⟨sl3, mh4, as4, _, rs3.ev e4, rh4, p4, fun z mh5 p5 v5 H5 as5 e5 r5 rh5 => ?_⟩
      have ee := (((e'.trans e2).trans e3).trans e4).trans e5
      have eD5 : as5[mh1.length]? = some D := by
        obtain ⟨t, rfl⟩ := ee.ap
        rw [List.getElem?_append_left (List.getElem?_eq_some_iff.mp eD).1]; exact eD
      obtain ⟨a5, a6, a7⟩ := p5
      obtain ⟨vs5, h5, h6⟩ := rh5.lst a5 eD5
      refine ⟨vs5, h5, by rw [← Paired.length h6]; exact a6, acc ++ [z], _, as5, by omega, ee.trans (rh5.evPut a5 eD5), rh5.put a5 eD5 (.lst (prd_app h6 (.cons r5 .nil))), by rw [hr]; exact a7⟩
theorem s_lc {elt tg iter : Expr} {ifs : List Expr} {scope : Scope} {own : List (Str × Nat)} {pos : Pos} {mi : MI} {g : MG} {tt : MT} {m : ME} (hN : X.N.Nodup) (hi : PI X tg iter (tMI X.K mi)) (ok : BlkOk X.N X.env.scope scope own)
    (hg : ∀ (s : Shared) (H : Hp) (C : Addr) (cl : List (Str × Addr)) (fp : List Addr), PG (X.blk s H scope (compEnvC scope cl C X.env) fp) tg (tMGv X.K (own.map (·.2)) g)) (ht : ∀ (s : Shared) (H : Hp) (C : Addr) (cl : List (Str × Addr)) (fp : List Addr), PTs (X.blk s H scope (compEnvC scope cl C X.env) fp) ifs (tMT X.K tt))
    (he : ∀ (s : Shared) (H : Hp) (C : Addr) (cl : List (Str × Addr)) (fp : List Addr), PE (X.blk s H scope (compEnvC scope cl C X.env) fp) elt (tM X.K m)) (hc : X.calm = true := by rfl) (hs : ∀ x, foldedSetIterable iter X.env x = pure x := by intro _; rfl) :
    PE X (.ListComp elt [⟨tg, iter, ifs, 0⟩] scope pos) (tM X.K (mLc mi g tt m (own.map (·.2)))) := (pe_lc hc hN hi ok hg ht he hs).imp tm_lc
theorem sp_setLc {i : Nat} {y : Str} {py : Pos} {elt tg iter : Expr} {ifs : List Expr} {scope : Scope} {own : List (Str × Nat)} {pos spos : Pos} {mi : MI} {g : MG} {tt : MT} {m : ME} (hN : X.N.Nodup) (hi : PI X tg iter (tMI X.K mi)) (ok : BlkOk X.N X.env.scope scope own)
    (hg : ∀ (s : Shared) (H : Hp) (C : Addr) (cl : List (Str × Addr)) (fp : List Addr), PG (X.blk s H scope (compEnvC scope cl C X.env) fp) tg (tMGv X.K (own.map (·.2)) g)) (ht : ∀ (s : Shared) (H : Hp) (C : Addr) (cl : List (Str × Addr)) (fp : List Addr), PTs (X.blk s H scope (compEnvC scope cl C X.env) fp) ifs (tMT X.K tt))
    (he : ∀ (s : Shared) (H : Hp) (C : Addr) (cl : List (Str × Addr)) (fp : List Addr), PE (X.blk s H scope (compEnvC scope cl C X.env) fp) elt (tM X.K m)) (hy : X.N[i]? = some y := by rfl) (hyl : X.env.scope.names.lookup y = some .local := by rfl) (hsw : swapsWith (.ListComp elt [⟨tg, iter, ifs, 0⟩] scope pos) (some (.Name y py)) spos.line X.env = pure true := by exact sw_true rfl rfl rfl rfl)
    (hc : X.calm = true := by rfl) (hs : ∀ x, foldedSetIterable iter X.env x = pure x := by intro _; rfl) :
    PS X (.Assign [.Name y py] (.ListComp elt [⟨tg, iter, ifs, 0⟩] scope pos) spos) (tMS X.K (mAsg (mLc mi g tt m (own.map (·.2))) (gN i))) := by
  refine (ps_setLc hc hN hy hyl hsw hi ok hg ht he hs).imp fun D σ H h => ?_
  obtain ⟨sl, mh, as, N, rs, rh, h, k⟩ := h
  exact tm_lc (K := X.K) (mi := mi) (g := g) (tt := tt) (e := m) (vs := own.map (fun x : Str × Nat => x.2)) σ H (fun x H1 => D.nx (σ.set i (some x)) H1) ⟨sl, mh, as, fun u mh1 => N.nx (sl.set i (some u)) mh1, rs, rh, h, fun u mh1 p v H1 as1 e r rh1 => k.nx _ _ p _ _ _ e ((rs.ev e).set i r) rh1⟩
end
/-! ### enumerate, zip -/
/-- zip of two rows: two lists, two tuples, a list and a tuple -/
def iZip3 (K : PySem.W.Frag) (ta : TA) : TI := fun σ H R => ta σ H fun vs H1 => ∃ a b, vs = [.ref a, .ref b] ∧ ((∃ xs ys, SqL K H1 a xs ∧ SqL K H1 b ys ∧ R (Itz K a b) H1) ∨ (∃ xs ys, SqT K H1 a xs ∧ SqT K H1 b ys ∧ R (RZ.ItzT K a b) H1) ∨ (∃ xs ys, SqL K H1 a xs ∧ SqT K H1 b ys ∧ R (ItzM K a b) H1))
theorem pi_zip3 {X : Cx} {e e2 : Expr} {ta : TA} {p pos tpos : Pos} {elts : List Expr} {kk : Nat} (hg : Gl X "zip") (hm : X.mg "zip" = none) (ha : PA X [e, e2] ta)
    (hs : starEach [e, e2] X.env = (false, eval e X.env) :: starEach [e2] X.env := by rfl) (hpl : (backTo pos (starEach [e2] X.env)).any (·.1) = false := by rfl) :
    PI X (.Tuple elts kk tpos) (.Call (.Name "zip" p) [e, e2] [] pos) (iZip3 X.K ta) := by
  refine ⟨fun pins s σ H R I h => ?_⟩
  refine Call_ (ld_blt I hg hm PyProof.Rows.boot_zip (PyProof.Rows.callWith_type1 (thn (ha.run pos pins s σ H _ I h) fun us s1 ⟨vs, H1, I1, r1, q1⟩ => ?_) hs hpl))
  obtain ⟨a, b, ex, q1⟩ := q1
  subst ex
  obtain ⟨u, u2, rfl, ru, ru2⟩ := vals2 r1
  obtain rfl : u = Value.ref a := ru
  obtain rfl : u2 = Value.ref b := ru2
  have fresh5 : ∀ c, c ∈ [s1.heap.objs.size + 4, s1.heap.objs.size + 2, s1.heap.objs.size + 3, s1.heap.objs.size, s1.heap.objs.size + 1] → FpOk X pins H1 c := fun c hcm => by
    have hle : s1.heap.objs.size ≤ c := by
      rcases inList5 hcm with z | z | z | z | z <;> (rw [z]; first | exact Nat.le_add_right _ _ | exact Nat.le_refl _)
    exact I1.fpOk hle (I1.hok.fresh hle)
  rcases q1 with ⟨xs, ys, hqx, hqy, q⟩ | ⟨xs, ys, hqx, hqy, q⟩ | ⟨xs, ys, hqx, hqy, q⟩
  · obtain ⟨its, rv, p1, _⟩ := I1.list hqx
    obtain ⟨its2, rv2, p2, _⟩ := I1.list hqy
    refine call_zip_2 p1.isList p2.isList fun h' hz hTI hTO h1 h2 hsz hk => wpAny_pyIter_zip hz ?_
    have I2 : Inv X pins σ H1 { s1 with heap := h' } := I1.kept (t' := s1.toks) hk
    exact ⟨s1.heap.objs.size + 4, [s1.heap.objs.size + 4, s1.heap.objs.size + 2, s1.heap.objs.size + 3, s1.heap.objs.size, s1.heap.objs.size + 1], _, _, H1, rfl, I2, turn_zip (PySem.W.ktu_apart s1.heap.objs.size a b p1.lt p2.lt), ⟨hz, hTI, ⟨_, _, hTO⟩, h1, h2⟩, fresh5, q⟩
  · obtain ⟨its, rv, p1, _⟩ := I1.tuple hqx
    obtain ⟨its2, rv2, p2, _⟩ := I1.tuple hqy
    obtain ⟨o1, ho1, _⟩ := id p1
    obtain ⟨o2, ho2, _⟩ := id p2
    refine RZ.call_zipT (show s1.heap.IsTuple a its.toArray from p1) (show s1.heap.IsTuple b its2.toArray from p2) fun h' hz hTI hTO h1 h2 hsz hk => wpAny_pyIter_zip hz ?_
    have I2 : Inv X pins σ H1 { s1 with heap := h' } := I1.kept (t' := s1.toks) hk
    exact ⟨s1.heap.objs.size + 4, [s1.heap.objs.size + 4, s1.heap.objs.size + 2, s1.heap.objs.size + 3, s1.heap.objs.size, s1.heap.objs.size + 1], _, _, H1, rfl, I2, RZ.turn_zipT (PySem.W.ktu_apart s1.heap.objs.size a b (Heap.lt_size ho1) (Heap.lt_size ho2)), ⟨hz, hTI, ⟨_, _, hTO⟩, h1, h2⟩, fresh5, q⟩
  · obtain ⟨its, rv, p1, _⟩ := I1.list hqx
    obtain ⟨its2, rv2, p2, _⟩ := I1.tuple hqy
    obtain ⟨oa, hoa, _⟩ := id p1.isList
    obtain ⟨ob, hob, _⟩ := id p2
    have la := Heap.lt_size hoa
    have lb := Heap.lt_size hob
    refine zip_begins2 (begins_list a its.toArray) (begins_tuple b its2.toArray) p1.isList p2 fun h' hz hTI hTO h1 h2 hsz hk => wpAny_pyIter_zip hz ?_
    have I2 : Inv X pins σ H1 { s1 with heap := h' } := I1.kept (t' := s1.toks) hk
    exact ⟨s1.heap.objs.size + 4, [s1.heap.objs.size + 4, s1.heap.objs.size + 2, s1.heap.objs.size + 3, s1.heap.objs.size, s1.heap.objs.size + 1], _, _, H1, rfl, I2,
      turn_mix (zip_sep2 (fun c hc => by rw [List.mem_singleton.mp hc]; exact la) (fun c hc => by rw [List.mem_singleton.mp hc]; exact lb)), ⟨hz, hTI, ⟨_, _, hTO⟩, ⟨_, h1, rfl, rfl⟩, ⟨_, h2, rfl, rfl⟩⟩, fresh5, q⟩
section
variable {X : Cx} {p pos tpos : Pos} {elts : List Expr} {kk : Nat}
theorem si_zip {a b : Expr} {m m' : ME} (ha : PE X a (tM X.K m)) (hb : PE X b (tM X.K m')) (hm : X.mg "zip" = none) (hg : Gl X "zip" := by rfl) (hs : starEach [a, b] X.env = (false, eval a X.env) :: starEach [b] X.env := by rfl) (hs2 : starEach [b] X.env = (false, eval b X.env) :: starEach [] X.env := by rfl) (hpl : (backTo pos (starEach [b] X.env)).any (·.1) = false := by rfl) :
    PI X (.Tuple elts kk tpos) (.Call (.Name "zip" p) [a, b] [] pos) (tMI X.K (mZip m m')) := by
  refine ⟨fun pins s σ H R I h => (pi_zip3 hg hm (sa_cons ha (sa_cons hb sa_nil hs2) hs) hs hpl).run pins s σ H R I ?_⟩
  obtain ⟨sl, mh, as, P, rs, rh, h, k⟩ := h
  refine ⟨sl, mh, as, fun us mh2 => ∃ u v, us = [u, v] ∧ rowW u mh2 fun us chk => rowW v mh2 fun vs chk' => (!isTup u || isTup v) = true ∧ P (List.zipWith (fun a b => U.tup [a, b]) us vs) (fun mh => chk mh ∧ chk' mh) mh2, rs, rh, ?_, fun us mh1 q vs H1 as1 e r rh1 => ?_⟩
  · have e : (fun (u : U) (mh1 : MH) => m' sl mh1 fun v mh2 => ∃ u' v', [u, v] = [u', v'] ∧ rowW u' mh2 fun us chk => rowW v' mh2 fun vs chk' => (!isTup u' || isTup v') = true ∧ P (List.zipWith (fun a b => U.tup [a, b]) us vs) (fun mh => chk mh ∧ chk' mh) mh2) = fun u mh1 => m' sl mh1 fun v mh2 => rowW u mh2 fun us chk => rowW v mh2 fun vs chk' => (!isTup u || isTup v) = true ∧ P (List.zipWith (fun a b => U.tup [a, b]) us vs) (fun mh => chk mh ∧ chk' mh) mh2 := by
      funext u mh1
      congr 1
      funext v mh2
      apply propext
      constructor
      · rintro ⟨u', v', z, h⟩
        cases z
        exact h
      · exact fun h => ⟨u, v, rfl, h⟩
    show m sl mh fun u mh1 => m' sl mh1 fun v mh2 => ∃ u' v', [u, v] = [u', v'] ∧ _
    rw [e]
    exact h
  · obtain ⟨u, v, rfl, q⟩ := q
    cases r with
    | cons r1 r2 =>
      cases r2 with
      | cons r3 r4 =>
        cases r4
        obtain ⟨a', us, chk, b1, rfl, q, c, eb1, ra⟩ := rowW_ok r1 rh1 q
        obtain ⟨b', ws, chk', b2, rfl, q, c', eb2, rb⟩ := rowW_ok r3 rh1 q
        obtain ⟨hz, q⟩ := q
        rw [← eb1, ← eb2] at hz
        refine ⟨a', b', rfl, ?_⟩
        cases ra with
        | tup f =>
          cases rb with
          | tup f' =>
            obtain ⟨x1, h1, _⟩ := f as1 H1 mh1 .refl rh1 c
            obtain ⟨x2, h2, _⟩ := f' as1 H1 mh1 .refl rh1 c'
            exact .inr (.inl ⟨x1, x2, h1, h2, k _ _ _ q _ _ e rh1 _ (wlk_zipT f f')⟩)
          | lst f' =>
            cases hz
        | lst f =>
          cases rb with
          | tup f' =>
            obtain ⟨x1, h1, _⟩ := f as1 H1 mh1 .refl rh1 c
            obtain ⟨x2, h2, _⟩ := f' as1 H1 mh1 .refl rh1 c'
            exact .inr (.inr ⟨x1, x2, h1, h2, k _ _ _ q _ _ e rh1 _ (wlk_zipM f f')⟩)
          | lst f' =>
            obtain ⟨x1, h1, _⟩ := f as1 H1 mh1 .refl rh1 c
            obtain ⟨x2, h2, _⟩ := f' as1 H1 mh1 .refl rh1 c'
            exact .inl ⟨x1, x2, h1, h2, k _ _ _ q _ _ e rh1 _ (wlk_zip f f')⟩
end
/-! ### methods -/
abbrev MM := U → List U → MH → MK → Prop
def rmM (K : PySem.W.Frag) (g : MM) : V → List V → Hp → VK → Prop := fun x xs H Q => ∃ u us mh as P, RV K as H u x ∧ RVs K as H us xs ∧ RH K as H mh ∧ g u us mh P ∧ ∀ u mh', P u mh' → Got K as H Q u mh'
/-- o.m(..) of a list: the object is a list -/
def mBm (g : MM) (mo : ME) (ma : MA) : ME := fun sl mh P => mo sl mh fun u mh1 => (∃ n us, u = .ref n ∧ mh1[n]? = some (.lst us)) ∧ ma sl mh1 fun us mh2 => g u us mh2 P
def uAppend : MM := fun o us mh P => match o, us with
  | .ref n, [u] => match mh[n]? with
    | some (.lst xs) => xs.length < sizeLine ∧ P .non (mh.set n (.lst (xs ++ [u])))
    | _ => False
  | _, _ => False
def uExtend : MM := fun o us mh P => match o, us with
  | .ref n, [.tup ys] => match mh[n]? with
    | some (.lst xs) => xs.length + ys.length ≤ sizeLine ∧ P .non (mh.set n (.lst (xs ++ ys)))
    | _ => False
  | .ref n, [.ref b] => match mh[n]?, mh[b]? with
    | some (.lst xs), some (.lst ys) => xs.length + ys.length ≤ sizeLine ∧ P .non (mh.set n (.lst (xs ++ ys)))
    | _, _ => False
  | _, _ => False
def uPop : MM := fun o us mh P => match o, us with
  | .ref n, [] => match mh[n]? with
    | some (.lst xs) => match xs[xs.length - 1]? with
      | some y => P y (mh.set n (.lst xs.dropLast))
      | none => False
    | _ => False
  | .ref n, [.int i] => match mh[n]? with
    | some (.lst xs) => (-(2 ^ 63) ≤ i ∧ i < 2 ^ 63) ∧ match seqIndex? i xs.length with
      | some k => match xs[k]? with
        | some y => P y (mh.set n (.lst (xs.eraseIdx k)))
        | none => False
      | none => False
    | _ => False
  | _, _ => False
section
variable {X : Cx}
theorem m_append : MtR X "list.append" (rmM X.K uAppend) := by
  intro pins s σ H x xs v us Q I rx rxs h
  obtain ⟨u, ws, mh, as, P, r1, rr, rh, h, k⟩ := h
  unfold uAppend at h
  split at h
  · obtain ⟨a, rfl, e⟩ := r1.of_ref
    cases rr with
    | cons r2 r3 =>
      cases r3
      split at h
      · rename_i q
        obtain ⟨vs, h1, h2⟩ := rh.lst q e
        exact mt_append pins s σ H _ _ v us Q I rx rxs ⟨a, vs, _, rfl, rfl, h1, by rw [← Paired.length h2]; exact h.1, k _ _ h.2 _ _ _ (rh.evPut q e) .non (rh.put q e (.lst (prd_app h2 (.cons r2 .nil))))⟩
      · exact h.elim
  · exact h.elim
end
open PySem.AutoSeq1 in
theorem extend_tup (l : Addr) (items : Array Value) (n : Nat) (b : Addr) (items2 : Array Value) (n2 : Nat) (d : Option Addr) (sl : Array (Option Value)) (hs0 : ¬(!items.isEmpty && Builtin.List.listTooLong (items.size + items2.size)) = true) (hs1 : items.size ≤ sizeLine) (hs2 : items.size + items2.size ≤ sizeLine + 1) :
    Meets (Builtin.«list.extend» ⟨[.ref l, .ref b], []⟩) (fun _ R s => s.heap.get? l = some { cls := .type "list", dict := none, data := .seq items n, slots := #[] } ∧ s.heap.get? b = some { cls := .type "tuple", dict := d, data := .seq items2 n2, slots := sl } ∧ R (.ok (.ret Value.none)) { s with heap := s.heap.update l (Obj.mapSeq fun x => x ++ items2), toks := s.toks }) :=
  .of_wp fun prog w A R s h => by
    obtain ⟨hp, g, dd, tk, os⟩ := s; obtain ⟨hl, hb, h⟩ := h; have f1 := AutoSeq1.idx_int; have f2 := AutoSeq1.sub_tuple_tuple; have f3 := AutoSeq1.sub_list_list; have f4 := AutoSeq1.sub_tuple_list; have f5 := AutoSeq1.sub_list_tuple;
    have hz' : (items ++ items2).size ≤ sizeLine + 1 := by rw [Array.size_append]; exact hs2
    wp_walk using (wpAny_updateSeq hl rfl (hz := hs1) (_hz' := hz')), wpAny_loadPart' hl, wpAny_loadPart' hb; exact ⟨_, rfl, h⟩
section
variable {X : Cx}
def rExtendT (K : PySem.W.Frag) : V → List V → Hp → VK → Prop := fun x vs H Q => ∃ l b xs zs, x = .ref l ∧ vs = [.ref b] ∧ H l = some (.lst xs) ∧ SqT K H b zs ∧ xs.length + zs.length ≤ sizeLine ∧ Q .non (upd H l (.lst (xs ++ zs)))
theorem mt_extendT : MtM X "list.extend" (rExtendT X.K) := by
  intro pins s σ H x vs v us Q I rx rv h
  obtain ⟨l, b, xs, zs, rfl, rfl, hH, hB, hz, q⟩ := h
  cases rx
  obtain ⟨u, rfl, ru⟩ := rv.one
  cases ru
  obtain ⟨z, its, n, r, hl, e⟩ := I.lstM hH
  obtain ⟨its2, r2, ⟨⟨oc, od, odt, osl⟩, e2, c2, n2, d2⟩, hz2⟩ := I.tuple hB
  cases c2
  cases d2
  have hl2 := r2.length
  have hsz : its.toArray.size + its2.toArray.size ≤ sizeLine := by rw [List.size_toArray, List.size_toArray]; omega
  have hlong : ¬ (!its.toArray.isEmpty && Builtin.List.listTooLong (its.toArray.size + its2.toArray.size)) = true := by
    rw [notLongL hsz, Bool.and_false]
    exact Bool.false_ne_true
  refine call_meets F.slot_list_extend ⟨_, e, rfl⟩ F.entry_list_extend (F.args_list_extend_2 _ _)
    (extend_tup l its.toArray n b its2.toArray n2 _ _ hlong (by rw [List.size_toArray]; omega) (by omega)) ⟨e, e2, ?_⟩
  refine ⟨.non, _, I.lset (its' := its ++ its2) hH e (by simp) (r.append r2) ?_, rfl, q⟩
  rw [List.length_append]
  omega
theorem m_extend : MtR X "list.extend" (rmM X.K uExtend) := by
  intro pins s σ H x xs v us Q I rx rxs h
  obtain ⟨u, ws, mh, as, P, r1, rr, rh, h, k⟩ := h
  unfold uExtend at h
  split at h
  · obtain ⟨a, rfl, e⟩ := r1.of_ref
    cases rr with
    | cons r2 r3 =>
      cases r3
      obtain ⟨b, ws, rfl, h3, h4⟩ := r2.of_tup
      split at h
      · rename_i q
        obtain ⟨vs, h1, h2⟩ := rh.lst q e
        exact mt_extendT pins s σ H _ _ v us Q I rx rxs ⟨a, b, vs, ws, rfl, rfl, h1, h3, by rw [← Paired.length h2, ← Paired.length h4]; exact h.1, k _ _ h.2 _ _ _ (rh.evPut q e) .non (rh.put q e (.lst (prd_app h2 h4)))⟩
      · exact h.elim
  · obtain ⟨a, rfl, e⟩ := r1.of_ref
    cases rr with
    | cons r2 r3 =>
      cases r3
      obtain ⟨b, rfl, e2⟩ := r2.of_ref
      split at h
      · rename_i q q2
        obtain ⟨vs, h1, h2⟩ := rh.lst q e
        obtain ⟨ws, h3, h4⟩ := rh.lst q2 e2
        exact mt_extend pins s σ H _ _ v us Q I rx rxs ⟨a, b, vs, ws, rfl, rfl, h1, h3, by rw [← Paired.length h2, ← Paired.length h4]; exact h.1, k _ _ h.2 _ _ _ (rh.evPut q e) .non (rh.put q e (.lst (prd_app h2 h4)))⟩
      · exact h.elim
  · exact h.elim
theorem m_pop : MtR X "list.pop" (rmM X.K uPop) := by
  intro pins s σ H x xs v us Q I rx rxs h
  obtain ⟨u, ws, mh, as, P, r1, rr, rh, h, k⟩ := h
  unfold uPop at h
  split at h
  · obtain ⟨a, rfl, e⟩ := r1.of_ref
    cases rr
    split at h
    · rename_i q
      obtain ⟨vs, h1, h2⟩ := rh.lst q e
      split at h
      · rename_i y ey
        obtain ⟨w, e1, e2⟩ := prd_get h2 ey
        refine mt_pop pins s σ H _ _ v us Q I rx rxs ⟨a, vs, w, rfl, rfl, h1, by rw [← Paired.length h2]; exact e1, ?_⟩
        have ev := rh.evPut (o' := .lst vs.dropLast) q e
        exact k _ _ h _ _ _ ev (e2.ev ev) (rh.put q e (.lst (prd_dropLast h2)))
      · exact h.elim
    · exact h.elim
  · obtain ⟨a, rfl, e⟩ := r1.of_ref
    cases rr with
    | cons r2 r3 =>
      cases r3
      obtain rfl := r2.nn
      split at h
      · rename_i q
        obtain ⟨vs, h1, h2⟩ := rh.lst q e
        obtain ⟨hb, h⟩ := h
        split at h
        · rename_i kk ek
          split at h
          · rename_i y ey
            obtain ⟨w, e1, e2⟩ := prd_get h2 ey
            refine mt_popAt pins s σ H _ _ v us Q I rx rxs ⟨a, vs, _, kk, w, rfl, rfl, h1, hb.1, hb.2, by rw [← Paired.length h2]; exact ek, e1, ?_⟩
            have ev := rh.evPut (o' := .lst (vs.eraseIdx kk)) q e
            exact k _ _ h _ _ _ ev (e2.ev ev) (rh.put q e (.lst (prd_erase _ h2)))
          · exact h.elim
        · exact h.elim
      · exact h.elim
  · exact h.elim
theorem tm_bm {K : PySem.W.Frag} {g : MM} {mo : ME} {ma : MA} (σ : L2.St) (H : Hp) (Q : VK) (h : tM K (mBm g mo ma) σ H Q) : tBM K "list" (rmM K g) (tM K mo) (tMA K ma) σ H Q := by
  obtain ⟨sl, mh, as, P, rs, rh, h, k⟩ := h
  refine ⟨sl, mh, as, _, rs, rh, h, fun u mh1 p x H1 as1 e1 r rh1 => ?_⟩
  obtain ⟨⟨n, us, rfl, q⟩, p⟩ := p
  obtain ⟨a, rfl, e0⟩ := r.of_ref
  obtain ⟨vs, h1, h2⟩ := rh1.lst q e0
  exact ⟨.inl ⟨rfl, vs, SqL.of h1⟩, sl, mh1, as1, _, rs.ev e1, rh1, p, fun us mh2 p2 xs H2 as2 e2 r2 rh2 => ⟨_, us, mh2, as2, P, (RV.ref e0).ev e2, r2, rh2, p2, fun _ _ q => (k _ _ q).at (e1.trans e2)⟩⟩
theorem tm_bm0 {K : PySem.W.Frag} {g : MM} {mo : ME} (σ : L2.St) (H : Hp) (Q : VK) (h : tM K (mBm g mo mNil) σ H Q) : tBM0 K "list" (rmM K g) (tM K mo) σ H Q := by
  obtain ⟨sl, mh, as, P, rs, rh, h, k⟩ := h
  refine ⟨sl, mh, as, _, rs, rh, h, fun u mh1 p x H1 as1 e1 r rh1 => ?_⟩
  obtain ⟨⟨n, us, rfl, q⟩, p⟩ := p
  obtain ⟨a, rfl, e0⟩ := r.of_ref
  obtain ⟨vs, h1, h2⟩ := rh1.lst q e0
  exact ⟨.inl ⟨rfl, vs, SqL.of h1⟩, _, [], mh1, as1, P, .ref e0, .nil, rh1, p, fun _ _ q => (k _ _ q).at e1⟩
variable {o e : Expr} {es : List Expr} {mo : ME} {ma : MA} {apos cpos : Pos}
theorem s_append (ho : PE X o (tM X.K mo)) (ha : PA X [e] (tMA X.K ma)) (hbase : attributeBase o "append" X.env (eval o X.env) = eval o X.env := by rfl) (hline : (apos.endLine == cpos.line) = true := by rfl) (hs : starEach (e :: []) X.env = (false, eval e X.env) :: starEach [] X.env := by rfl) : PE X (.Call (.Attribute o "append" apos) [e] [] cpos) (tM X.K (mBm uAppend mo ma)) :=
  (pe_bm PySem.F.plainAttrs_list PySem.F.slot_list_append PySem.F.type_list_append m_append ho ha hbase (by simp [backTo, backToKw, starEach, keywordEach, hs]) hline hs (by rfl)).imp tm_bm
end
end Sm

/-! Defs by their bodies; calls of defs, methods, classes. -/
namespace Sm
open PySem PySem.Spec PyProof.Rows L2 Tk
variable [ZC]
abbrev MF := List U → MH → MK → Prop
def spM (K : PySem.W.Frag) (n : Nat) (F : MF) : Sp := fun vs H Q _ => vs.length = n ∧ ∃ us mh as P, RVs K as H us vs ∧ RH K as H mh ∧ F us mh P ∧ ∀ u mh', P u mh' → Got K as H Q u mh'
/-- a def's body, from its arguments: n names in all -/
def mBody (n : Nat) (m : MS) : MF := fun us mh P => m { nx := fun _ mh' => P .non mh', rt := P } (us.map some ++ List.replicate (n - us.length) none) mh
theorem rs_start {K : PySem.W.Frag} {as : List Addr} {H : Hp} {N : List Str} {us : List U} {vs : List V} (h : RVs K as H us vs) : RS K as H (us.map some ++ List.replicate (N.length - us.length) none) (L2.start N vs) := by
  have hl := Paired.length h
  refine ⟨by simp [L2.start, hl], fun i u q => ?_⟩
  by_cases hi : i < us.length
  · rw [List.getElem?_append_left (by simpa using hi), List.getElem?_map] at q
    obtain ⟨w, e1, e2⟩ := Option.map_eq_some_iff.mp q
    cases e2
    obtain ⟨v, h1, h2⟩ := prd_get h e1
    refine ⟨v, ?_, h2⟩
    unfold L2.start
    rw [List.getElem?_append_left (by simpa [← hl] using hi), List.getElem?_map, h1]
    rfl
  · rw [List.getElem?_append_right (by simpa using hi)] at q
    have := List.mem_of_getElem? q
    rw [List.mem_replicate] at this
    cases this.2
section
variable {P : Program} {w : World} {K : PySem.W.Frag} {mg : Str → Option Value} {base : Heap}
/-- a def keeps to its body's piece -/
theorem fn_mk {x qual : Str} {st : Stmt} {f : Addr} {fd : FuncData} {N ps : List Str} {k : Nat} {m : MS} (F : Fun K x qual st f fd) (S : FnScope N ps (defScope st)) (np : Nat) (hnp : ps.length = np) (nn : Nat) (hnn : N.length = nn)
    (hbody : ∀ (cdv : Value) (A : Around) (outer : List Env) (s : Shared) (H : Hp) (E : XK), Room k (A.deeper (envOfC qual (defScope st) s.heap.objs.size f cdv)) → (A.deeper (envOfC qual (defScope st) s.heap.objs.size f cdv)).guards = some [] →
      PSs (cxOf CX0 P w K mg base N qual (defScope st) f cdv A outer s H E).nox (defBody st) (tMS K m)) : FnG P w K mg base (k + 1) f fd ps (spM K np (mBody nn m)) := by
  refine okG F S (fun vs H Q E h => by rw [hnp]; exact h.1) fun cdv A outer s H vs Q E hr hg h => ?_
  obtain ⟨hl, us, mh, as, P', r, rh, h, k'⟩ := h
  subst hnn
  exact ⟨_, hbody cdv A outer s H E hr hg, _, mh, as, _, rs_start r, rh, h, ⟨fun sl' mh' p σ' H' as' e rs' rh' => k' _ _ p _ _ _ e .non rh', fun u mh' p => k' _ _ p, fun _ _ p => p.elim, fun _ _ p => p.elim⟩⟩
end
theorem _root_.Tk.FnG.imp {P : Program} {w : World} {K : PySem.W.Frag} {mg : Str → Option Value} {base : Heap} {k : Nat} {f : Addr} {fd : FuncData} {ps : List Str} {sp sp' : Sp} (F : FnG P w K mg base k f fd ps sp)
    (h : ∀ vs H Q E, sp' vs H Q E → sp vs H Q E) : FnG P w K mg base k f fd ps sp' :=
  ⟨fun vs H Q E q => F.len vs H Q E (h _ _ _ _ q), fun A outer s H args us vs Q E hr hg he hb hv hs => F.run A outer s H args us vs Q E hr hg he hb hv (h _ _ _ _ hs)⟩
/-- a weaker piece in the body's place -/
theorem _root_.Tk.FnG.piece {P : Program} {w : World} {K : PySem.W.Frag} {mg : Str → Option Value} {base : Heap} {k n : Nat} {f : Addr} {fd : FuncData} {ps : List Str} {F F' : MF} (G : FnG P w K mg base k f fd ps (spM K n F))
    (h : ∀ us mh P, F' us mh P → F us mh P) : FnG P w K mg base k f fd ps (spM K n F') := G.imp fun vs H Q E ⟨hl, us, mh, as, P, r, rh, q, k⟩ => ⟨hl, us, mh, as, P, r, rh, h _ _ _ q, k⟩
structure MCalG (P : Program) (w : World) (K : PySem.W.Frag) (mg : Str → Option Value) (base : Heap) (C : Addr) (k : Nat) (m : Str) (ps : List Str) (sp : Sp) where
  f : Addr
  fd : FuncData
  me : Meth K C m f
  b : Binds K fd ps []
  ok : FnG P w K mg base k f fd ps sp
structure ICalG (P : Program) (w : World) (K : PySem.W.Frag) (mg : Str → Option Value) (base : Heap) (C : Addr) (k : Nat) (ps : List Str) (sp : Sp) where
  f : Addr
  fd : FuncData
  mkC : Mk K C f
  b : Binds K fd ps []
  ok : FnG P w K mg base k f fd ps sp
def pk {α : Type} (is : List Nat) (ws : List α) : List α := is.filterMap fun i => ws[i]?
theorem pk_rel (is : List Nat) {zs : List V} {ws : List Value} (r : Vals zs ws) : Vals (pk is zs) (pk is ws) := by
  unfold pk
  induction is with
  | nil => exact .nil
  | cons i is ih =>
    rw [List.filterMap_cons, List.filterMap_cons]
    cases e : zs[i]? with
    | none => rw [r.none_of e]; exact ih
    | some x =>
      obtain ⟨u, h1, h2⟩ := r.get e
      rw [h1]
      exact .cons h2 ih
theorem prd_pk {K : PySem.W.Frag} {as : List Addr} {H : Hp} (is : List Nat) {us : List U} {vs : List V} (r : RVs K as H us vs) : RVs K as H (pk is us) (pk is vs) := by
  unfold pk
  induction is with
  | nil => exact .nil
  | cons i is ih =>
    rw [List.filterMap_cons, List.filterMap_cons]
    cases e : us[i]? with
    | none =>
      have : vs[i]? = none := by
        rw [List.getElem?_eq_none_iff] at e ⊢
        rw [← Paired.length r]; exact e
      rw [this]; exact ih
    | some x =>
      obtain ⟨u, h1, h2⟩ := prd_get r e
      rw [h1]
      exact .cons h2 ih
/-- how keywords come to the parameters: n values, then those at is of the keywords' values -/
abbrev KB (K : PySem.W.Frag) (fd : FuncData) (ps : List Str) (n : Nat) (ks : List Str) (is : List Nat) : Prop := KBn K fd ps n ks (fun us ws => us ++ pk is ws) (fun us ws => us ++ pk is ws)
theorem kb_mk {K : PySem.W.Frag} {fd : FuncData} {ps : List Str} {n : Nat} {ks : List Str} {is : List Nat} (h : ∀ (us ws : List Value), us.length = n → ws.length = ks.length → bindArgs fd ⟨us, ks.zip ws⟩ = pure (ps.zip (us ++ pk is ws))) : KB K fd ps n ks is :=
  ⟨fun s us ws _ h1 h2 => .of_eq (h us ws h1 h2), fun r1 r2 => r1.append (pk_rel is r2)⟩
section
variable {X : Cx} {k j n np nk : Nat} {f C : Addr} {fd : FuncData} {ps ks : List Str} {sp : Sp} {F : MF} {x m : Str} {p pos apos : Pos} {e o : Expr} {es : List Expr} {kws : List Keyword} {ma mk : MA} {mo : ME} {is : List Nat}
theorem run_fnG {pins : List (Addr × Obj)} {σ : L2.St} {H : Hp} {s : Shared} {Q : VK} {us : List Value} {vs : List V} (F : FnG X.prog X.w X.K X.mg X.base k f fd ps sp) (hr : Room k X.A) (hgd : X.A.guards = some []) (hb : Binds X.K fd ps [])
    (I : Inv X pins σ H s) (r : Vals vs us) (h : sp vs H Q E0) : wpAny (model X.prog X.w) X.A (call (.ref f) us) (EP X pins σ Q) X.xe s := by
  have hl : us.length = ps.length := by rw [← r.length]; exact F.len _ _ _ _ h
  have hb' := hb s us I.kIn (by rw [List.append_nil]; exact hl)
  rw [List.append_nil] at hb'
  refine wpAny_call (codeAny_mono (F.run X.A X.stack s H ⟨us, []⟩ us vs Q E0 hr hgd I.env0 hb' r h) fun r s' hq => ?_)
  cases r with
  | error e => exact pass0 pins σ H s e s' I hq
  | ok fl =>
    cases fl with
    | ret u => exact I.after hq
    | next => exact False.elim hq
    | brk => exact False.elim hq
    | cont => exact False.elim hq
theorem run_fnGK {pins : List (Addr × Obj)} {σ : L2.St} {H : Hp} {s : Shared} {Q : VK} {us ws : List Value} {vs zs : List V} (F : FnG X.prog X.w X.K X.mg X.base k f fd ps sp) (hr : Room k X.A) (hgd : X.A.guards = some []) (hb : KB X.K fd ps n ks is)
    (I : Inv X pins σ H s) (r : Vals vs us) (rz : Vals zs ws) (l1 : vs.length = n) (l2 : zs.length = ks.length) (h : sp (vs ++ pk is zs) H Q E0) : wpAny (model X.prog X.w) X.A (call (.ref f) us (ks.zip ws)) (EP X pins σ Q) X.xe s := by
  have r2 := hb.rel r rz
  refine wpAny_call (codeAny_mono (F.run X.A X.stack s H ⟨us, ks.zip ws⟩ (us ++ pk is ws) (vs ++ pk is zs) Q E0 hr hgd I.env0 (hb.to s us ws I.kIn (r.length.symm.trans l1) (rz.length.symm.trans l2)) r2 h) fun r s' hq => ?_)
  cases r with
  | error e => exact pass0 pins σ H s e s' I hq
  | ok fl =>
    cases fl with
    | ret u => exact I.after hq
    | next => exact False.elim hq
    | brk => exact False.elim hq
    | cont => exact False.elim hq
/-! ### f(..) -/
def mCall (np : Nat) (F : MF) (ma : MA) : ME := fun sl mh P => ma sl mh fun us mh1 => us.length = np ∧ F us mh1 P
theorem s_call (D : CalG X.prog X.w X.K X.mg X.base k x ps (spM X.K np F)) (hr : Room j X.A) (hgd : X.A.guards = some []) (ha : PA X (e :: es) (tMA X.K ma)) (hj : k ≤ j := by decide) (hg : Gl X x := by rfl)
    (hdb : (x == ("__debug__" : Str)) = false := by decide) (he : starEach (e :: es) X.env = (false, eval e X.env) :: starEach es X.env := by rfl) (hpl : (backTo pos (starEach es X.env)).any (·.1) = false := by rfl) :
    PE X (.Call (.Name x p) (e :: es) [] pos) (tM X.K (mCall np F ma)) := by
  refine ⟨fun pins s σ H Q I h => ?_⟩
  obtain ⟨sl, mh, as, P, rs, rh, h, kk⟩ := h
  refine wpAny_Call_Name_kw (ld_glob I hg D.g ?_ hdb)
  refine PySem.W.callWith_K (h₀ := X.base) I.ok.mod.kin D.kp (thn (ha.run pos pins s σ H (fun vs H1 => spM X.K np F vs H1 Q E0) I ⟨sl, mh, as, _, rs, rh, h, fun us mh1 p vs H1 as1 e1 r rh1 => ⟨by rw [← Paired.length r]; exact p.1, us, mh1, as1, P, r, rh1, p.2, fun _ _ q => (kk _ _ q).at e1⟩⟩) fun us s1 ⟨vs, H1, I1, r, q⟩ => ⟨I1.kIn, ?_⟩) he hpl
  exact run_fnG D.ok (hr.mono hj) hgd D.b I1 r q
/-- f(k = v, ..), keywords alone or behind values -/
def mCallK (n np : Nat) (is : List Nat) (nk : Nat) (F : MF) (ma mk : MA) : ME := fun sl mh P => ma sl mh fun us mh1 => mk sl mh1 fun ws mh2 => us.length = n ∧ ws.length = nk ∧ (us ++ pk is ws).length = np ∧ F (us ++ pk is ws) mh2 P
theorem sk_nil : PK X [] (tMA X.K mNil) := pk_nil.imp fun σ H Q ⟨sl, mh, as, P, rs, rh, h, k⟩ => k _ _ h _ _ _ .refl .nil rh
theorem sk_cons {kpos : Pos} {nm : Option Str} {m1 : ME} (ha : PE X e (tM X.K m1)) (hr : PK X kws (tMA X.K ma)) : PK X (⟨nm, e, kpos⟩ :: kws) (tMA X.K (mCons m1 ma)) := by
  refine (pk_cons ha hr).imp fun σ H Q h => ?_
  obtain ⟨sl, mh, as, P, rs, rh, h, k⟩ := h
  exact ⟨sl, mh, as, _, rs, rh, h, fun u mh1 p x H1 as1 e r rh1 => ⟨sl, mh1, as1, _, rs.ev e, rh1, p, fun w mh2 p2 y H2 as2 e2 r2 rh2 => (k _ _ p2).at (e.trans e2) _ _ _ .refl (.cons (r.ev e2) r2) rh2⟩⟩
theorem s_callK0 (D : CalG X.prog X.w X.K X.mg X.base k x ps (spM X.K np F)) (hb : KB X.K D.fd ps 0 ks is) (hr : Room j X.A) (hgd : X.A.guards = some []) (hkw : PK X kws (tMA X.K mk)) (hj : k ≤ j := by decide) (hnk : ks.length = nk := by rfl) (hg : Gl X x := by rfl)
    (hall : (backToKw pos (keywordEach kws X.env)).all (·.1.isSome) = true := by rfl) (hks : (backToKw pos (keywordEach kws X.env)).filterMap (·.1) = ks := by rfl) (hdb : (x == ("__debug__" : Str)) = false := by decide)
    (hpl : ((backTo pos (starEach [] X.env)).any (·.1) || (backToKw pos (keywordEach kws X.env)).any (·.1.isNone)) = false := by rfl) : PE X (.Call (.Name x p) [] kws pos) (tM X.K (mCallK 0 np is nk F mNil mk)) := by
  subst hnk
  refine ⟨fun pins s σ H Q I h => ?_⟩
  obtain ⟨sl, mh, as, P, rs, rh, h, kk⟩ := h
  refine wpAny_Call_Name_kw (ld_glob I hg D.g ?_ hdb)
  refine PySem.W.callWith_KW0 (h₀ := X.base) I.ok.mod.kin D.kp hall (thn (hkw.run pos pins s σ H (fun zs H1 => zs.length = ks.length ∧ spM X.K np F (pk is zs) H1 Q E0) I ⟨sl, mh, as, _, rs, rh, h, fun ws mh1 p vs H1 as1 e1 r rh1 => ⟨by rw [← Paired.length r]; exact p.2.1, by rw [← Paired.length (prd_pk is r)]; exact p.2.2.1, pk is ws, mh1, as1, P, prd_pk is r, rh1, p.2.2.2, fun _ _ q => (kk _ _ q).at e1⟩⟩) fun ws s2 hz => ?_) hpl
  obtain ⟨zs, H2, I2, rz, l2, q2⟩ := hz
  refine ⟨I2.kIn, ?_⟩
  rw [hks]
  exact run_fnGK (us := []) (vs := []) D.ok (hr.mono hj) hgd hb I2 .nil rz rfl l2 q2
theorem s_callK (D : CalG X.prog X.w X.K X.mg X.base k x ps (spM X.K np F)) (hb : KB X.K D.fd ps n ks is) (hr : Room j X.A) (hgd : X.A.guards = some []) (ha : PA X (e :: es) (tMA X.K ma)) (hkw : PK X kws (tMA X.K mk)) (hj : k ≤ j := by decide) (hnk : ks.length = nk := by rfl) (hg : Gl X x := by rfl)
    (hall : (backToKw pos (keywordEach kws X.env)).all (·.1.isSome) = true := by rfl) (hks : (backToKw pos (keywordEach kws X.env)).filterMap (·.1) = ks := by rfl) (hdb : (x == ("__debug__" : Str)) = false := by decide)
    (he : starEach (e :: es) X.env = (false, eval e X.env) :: starEach es X.env := by rfl) (hpl : ((backTo pos (starEach (e :: es) X.env)).any (·.1) || (backToKw pos (keywordEach kws X.env)).any (·.1.isNone)) = false := by rfl) :
    PE X (.Call (.Name x p) (e :: es) kws pos) (tM X.K (mCallK n np is nk F ma mk)) := by
  subst hnk
  refine ⟨fun pins s σ H Q I h => ?_⟩
  obtain ⟨sl, mh, as, P, rs, rh, h, kk⟩ := h
  refine wpAny_Call_Name_kw (ld_glob I hg D.g ?_ hdb)
  refine PySem.W.callWith_KW (h₀ := X.base) I.ok.mod.kin D.kp hall (thn (ha.run pos pins s σ H _ I ⟨sl, mh, as, _, rs, rh, h, fun us mh1 p vs H1 as1 e1 r rh1 => (⟨us, mh1, as1, e1, r, rh1, p⟩ : (fun vs H1 => ∃ us mh1 as1, Ev as H as1 H1 ∧ RVs X.K as1 H1 us vs ∧ RH X.K as1 H1 mh1 ∧ mk sl mh1 fun ws mh2 => us.length = n ∧ ws.length = ks.length ∧ (us ++ pk is ws).length = np ∧ F (us ++ pk is ws) mh2 P) vs H1)⟩) fun us s1 ⟨vs, H1, I1, r, us', mh1, as1, e1, r1, rh1, p1⟩ => ?_) hpl he
  refine thn (hkw.run pos pins s1 σ H1 (fun zs H2 => vs.length = n ∧ zs.length = ks.length ∧ spM X.K np F (vs ++ pk is zs) H2 Q E0) I1 ⟨sl, mh1, as1, _, rs.ev e1, rh1, p1, fun ws mh2 p zs H2 as2 e2 r2 rh2 => ⟨by rw [← Paired.length r1]; exact p.1, by rw [← Paired.length r2]; exact p.2.1, by rw [← Paired.length (prd_app (RVs.ev e2 r1) (prd_pk is r2))]; exact p.2.2.1, us' ++ pk is ws, mh2, as2, P, prd_app (RVs.ev e2 r1) (prd_pk is r2), rh2, p.2.2.2, fun _ _ q => (kk _ _ q).at (e1.trans e2)⟩⟩) fun ws s2 hz => ?_
  obtain ⟨zs, H2, I2, rz, l1, l2, q2⟩ := hz
  refine ⟨I2.kIn, ?_⟩
  rw [hks]
  exact run_fnGK D.ok (hr.mono hj) hgd hb I2 r rz l1 l2 q2
/-! ### o.m(..) of an instance of the class at C -/
def insOf (C : Addr) (m : Str) (u : U) (mh : MH) : Prop := match u with
  | .ref n => match mh[n]? with | some (.ins C' fs) => C' = C ∧ fs.lookup m = none | _ => False
  | _ => False
theorem lookF_none {K : PySem.W.Frag} {as : List Addr} {H : Hp} {f : Str} : ∀ {us : List (Str × U)} {vs : List (Str × V)}, Paired (RFv K as H) us vs → us.lookup f = none → vs.lookup f = none := by
  intro us vs h
  induction h with
  | nil => intro e; rfl
  | @cons p q ps qs r t ih =>
    obtain ⟨p1, p2⟩ := p
    obtain ⟨q1, q2⟩ := q
    obtain ⟨rfl, r⟩ := r
    intro e
    rw [List.lookup_cons] at e ⊢
    split at e
    · cases e
    · rename_i z
      simp only [z]; exact ih e
theorem insOf_ok {K : PySem.W.Frag} {as : List Addr} {H : Hp} {C : Addr} {m : Str} {u : U} {v : V} {mh : MH} (r : RV K as H u v) (R : RH K as H mh) (h : insOf C m u mh) : ∃ a dx fs, v = .ref a ∧ H a = some (.ins C dx fs) ∧ fs.lookup m = none := by
  unfold insOf at h
  split at h
  · obtain ⟨a, rfl, e⟩ := r.of_ref
    split at h
    · rename_i q
      obtain ⟨dx, vs, h1, h2⟩ := R.ins q e
      obtain ⟨rfl, h⟩ := h
      exact ⟨a, dx, vs, rfl, h1, lookF_none h2 h⟩
    · exact h.elim
  · exact h.elim
def mMeth (C : Addr) (m : Str) (np : Nat) (F : MF) (mo : ME) (ma : MA) : ME := fun sl mh P => mo sl mh fun u mh1 => insOf C m u mh1 ∧ ma sl mh1 fun us mh2 => us.length + 1 = np ∧ F (u :: us) mh2 P
theorem s_meth {pl : Sem Bool} (c : Cls X.K C) (M : MCalG X.prog X.w X.K X.mg X.base C k m ps (spM X.K np F)) (hr : Room j X.A) (hgd : X.A.guards = some []) (ho : PE X o (tM X.K mo)) (ha : PA X (e :: es) (tMA X.K ma)) (hj : k ≤ j := by decide)
    (hst : starEach (e :: es) X.env = (false, eval e X.env) :: starEach es X.env := by rfl) (hpl : (backTo pos (starEach es X.env)).any (·.1) = false := by rfl)
    (ht : eval (.Call (.Attribute o m apos) (e :: es) [] pos) X.env = (do let ob ← eval o X.env; standAt apos.atName; let (g, fs) ← holding [ob] (getMethod ob m pl); callWith pos g fs (backTo pos (starEach (e :: es) X.env)) (backToKw pos (keywordEach [] X.env))) := by rfl) :
    PE X (.Call (.Attribute o m apos) (e :: es) [] pos) (tM X.K (mMeth C m np F mo ma)) := by
  refine ⟨fun pins s σ H Q I h => ?_⟩
  obtain ⟨sl, mh, as, P, rs, rh, h, kk⟩ := h
  refine PySem.W.methodCall_KW (pl := pl) (thn (ho.run pins s σ H (fun x H1 => ∃ u mh1 as1, Ev as H as1 H1 ∧ RV X.K as1 H1 u x ∧ RH X.K as1 H1 mh1 ∧ insOf C m u mh1 ∧ ma sl mh1 fun us mh2 => us.length + 1 = np ∧ F (u :: us) mh2 P) I ⟨sl, mh, as, _, rs, rh, h, fun u mh1 p x H1 as1 e1 r rh1 => ⟨u, mh1, as1, e1, r, rh1, p⟩⟩) fun u s1 ⟨x, H1, I1, rx, uu, mh1, as1, e1, r1, rh1, hi, p1⟩ => ?_) ht
  obtain ⟨a, dx, fs, rfl, ea, l⟩ := insOf_ok r1 rh1 hi
  obtain rfl : u = Value.ref a := rx
  refine getmeth_ok I1 ea c M.me l ?_
  refine PySem.W.callWith_K (first := [.ref a]) (h₀ := X.base) I1.ok.mod.kin M.me.kp (thn (ha.run pos pins s1 σ H1 (fun vs H2 => spM X.K np F (.ref a :: vs) H2 Q E0) I1 ⟨sl, mh1, as1, _, rs.ev e1, rh1, p1, fun us mh2 p vs H2 as2 e2 r2 rh2 => ⟨by rw [List.length_cons, ← Paired.length r2]; exact p.1, uu :: us, mh2, as2, P, .cons (r1.ev e2) r2, rh2, p.2, fun _ _ q => (kk _ _ q).at (e1.trans e2)⟩⟩) fun us s2 ⟨vs, H2, I2, r, q2⟩ => ⟨I2.kIn, ?_⟩) hst hpl
  exact run_fnG (us := .ref a :: us) (vs := .ref a :: vs) M.ok (hr.mono hj) hgd M.b I2 (.cons rfl r) q2
theorem s_meth0 {pl : Sem Bool} (c : Cls X.K C) (M : MCalG X.prog X.w X.K X.mg X.base C k m ps (spM X.K np F)) (hr : Room j X.A) (hgd : X.A.guards = some []) (ho : PE X o (tM X.K mo)) (hj : k ≤ j := by decide)
    (ht : eval (.Call (.Attribute o m apos) [] [] pos) X.env = (do let ob ← eval o X.env; standAt apos.atName; let (g, fs) ← holding [ob] (getMethod ob m pl); callWith pos g fs (backTo pos (starEach [] X.env)) (backToKw pos (keywordEach [] X.env))) := by rfl) :
    PE X (.Call (.Attribute o m apos) [] [] pos) (tM X.K (mMeth C m np F mo mNil)) := by
  refine ⟨fun pins s σ H Q I h => ?_⟩
  obtain ⟨sl, mh, as, P, rs, rh, h, kk⟩ := h
  refine PySem.W.methodCall_KW (pl := pl) (thn (ho.run pins s σ H (fun x H1 => ∃ u mh1 as1, Ev as H as1 H1 ∧ RV X.K as1 H1 u x ∧ RH X.K as1 H1 mh1 ∧ insOf C m u mh1 ∧ mNil sl mh1 fun us mh2 => us.length + 1 = np ∧ F (u :: us) mh2 P) I ⟨sl, mh, as, _, rs, rh, h, fun u mh1 p x H1 as1 e1 r rh1 => ⟨u, mh1, as1, e1, r, rh1, p⟩⟩) fun u s1 ⟨x, H1, I1, rx, uu, mh1, as1, e1, r1, rh1, hi, p1⟩ => ?_) ht
  obtain ⟨a, dx, fs, rfl, ea, l⟩ := insOf_ok r1 rh1 hi
  obtain rfl : u = Value.ref a := rx
  refine getmeth_ok I1 ea c M.me l ?_
  obtain ⟨p1, p2⟩ := p1
  exact PySem.W.callWith_K0 (first := [.ref a]) I1.kIn M.me.kp (run_fnG (us := [.ref a]) (vs := [.ref a]) M.ok (hr.mono hj) hgd M.b I1 (.cons rfl .nil) ⟨p1, [uu], mh1, as1, P, .cons r1 .nil, rh1, p2, fun _ _ q => (kk _ _ q).at e1⟩)
def mMethK (C : Addr) (m : Str) (np : Nat) (is : List Nat) (nk : Nat) (F : MF) (mo : ME) (mk : MA) : ME := fun sl mh P => mo sl mh fun u mh1 => insOf C m u mh1 ∧ mk sl mh1 fun ws mh2 => ws.length = nk ∧ (u :: pk is ws).length = np ∧ F (u :: pk is ws) mh2 P
theorem s_methK {pl : Sem Bool} (c : Cls X.K C) (M : MCalG X.prog X.w X.K X.mg X.base C k m ps (spM X.K np F)) (hb : KB X.K M.fd ps 1 ks is) (hr : Room j X.A) (hgd : X.A.guards = some []) (ho : PE X o (tM X.K mo)) (hkw : PK X kws (tMA X.K mk)) (hj : k ≤ j := by decide) (hnk : ks.length = nk := by rfl)
    (hall : (backToKw pos (keywordEach kws X.env)).all (·.1.isSome) = true := by rfl) (hks : (backToKw pos (keywordEach kws X.env)).filterMap (·.1) = ks := by rfl)
    (hpl : ((backTo pos (starEach [] X.env)).any (·.1) || (backToKw pos (keywordEach kws X.env)).any (·.1.isNone)) = false := by rfl)
    (ht : eval (.Call (.Attribute o m apos) [] kws pos) X.env = (do let ob ← eval o X.env; standAt apos.atName; let (g, fs) ← holding [ob] (getMethod ob m pl); callWith pos g fs (backTo pos (starEach [] X.env)) (backToKw pos (keywordEach kws X.env))) := by rfl) :
    PE X (.Call (.Attribute o m apos) [] kws pos) (tM X.K (mMethK C m np is nk F mo mk)) := by
  subst hnk
  refine ⟨fun pins s σ H Q I h => ?_⟩
  obtain ⟨sl, mh, as, P, rs, rh, h, kk⟩ := h
  refine PySem.W.methodCall_KW (pl := pl) (thn (ho.run pins s σ H (fun x H1 => ∃ u mh1 as1, Ev as H as1 H1 ∧ RV X.K as1 H1 u x ∧ RH X.K as1 H1 mh1 ∧ insOf C m u mh1 ∧ mk sl mh1 fun ws mh2 => ws.length = ks.length ∧ (u :: pk is ws).length = np ∧ F (u :: pk is ws) mh2 P) I ⟨sl, mh, as, _, rs, rh, h, fun u mh1 p x H1 as1 e1 r rh1 => ⟨u, mh1, as1, e1, r, rh1, p⟩⟩) fun u s1 ⟨x, H1, I1, rx, uu, mh1, as1, e1, r1, rh1, hi, p1⟩ => ?_) ht
  obtain ⟨a, dx, fs, rfl, ea, l⟩ := insOf_ok r1 rh1 hi
  obtain rfl : u = Value.ref a := rx
  refine getmeth_ok I1 ea c M.me l ?_
  refine PySem.W.callWith_KW0 (first := [.ref a]) (h₀ := X.base) I1.ok.mod.kin M.me.kp hall (thn (hkw.run pos pins s1 σ H1 (fun zs H2 => zs.length = ks.length ∧ spM X.K np F (.ref a :: pk is zs) H2 Q E0) I1 ⟨sl, mh1, as1, _, rs.ev e1, rh1, p1, fun ws mh2 p zs H2 as2 e2 r2 rh2 => ⟨by rw [← Paired.length r2]; exact p.1, by rw [List.length_cons, ← Paired.length (prd_pk is r2)]; exact p.2.1, uu :: pk is ws, mh2, as2, P, .cons (r1.ev e2) (prd_pk is r2), rh2, p.2.2, fun _ _ q => (kk _ _ q).at (e1.trans e2)⟩⟩) fun ws s2 hz => ?_) hpl
  obtain ⟨zs, H2, I2, rz, l2, q2⟩ := hz
  refine ⟨I2.kIn, ?_⟩
  rw [hks]
  exact run_fnGK (us := [.ref a]) (vs := [.ref a]) M.ok (hr.mono hj) hgd hb I2 (.cons rfl .nil) rz rfl l2 q2
/-! ### C(..): a new instance, then __init__ -/
def mMake (C : Addr) (np : Nat) (F : MF) (ma : MA) : ME := fun sl mh P => ma sl mh fun us mh1 => us.length + 1 = np ∧ F (.ref mh1.length :: us) (mh1 ++ [.ins C []]) fun u mh2 => u = .non ∧ P (.ref mh1.length) mh2
theorem s_make (D : ICalG X.prog X.w X.K X.mg X.base C k ps (spM X.K np F)) (hm : X.mg x = some (.ref C)) (hr : Room j X.A) (hgd : X.A.guards = some []) (ha : PA X (e :: es) (tMA X.K ma)) (hj : k + 1 ≤ j := by decide) (hg : Gl X x := by rfl)
    (hdb : (x == ("__debug__" : Str)) = false := by decide) (he : starEach (e :: es) X.env = (false, eval e X.env) :: starEach es X.env := by rfl) (hpl : (backTo pos (starEach es X.env)).any (·.1) = false := by rfl) :
    PE X (.Call (.Name x p) (e :: es) [] pos) (tM X.K (mMake C np F ma)) := by
  refine ⟨fun pins s σ H Q I h => ?_⟩
  obtain ⟨sl, mh, as, P, rs, rh, h, kk⟩ := h
  refine wpAny_Call_Name_kw (ld_glob I hg hm ?_ hdb)
  refine PySem.W.callWith_K (h₀ := X.base) I.ok.mod.kin D.mkC.kp (thn (ha.run pos pins s σ H (fun vs H1 => ∃ us mh1 as1, Ev as H as1 H1 ∧ RVs X.K as1 H1 us vs ∧ RH X.K as1 H1 mh1 ∧ us.length + 1 = np ∧ F (.ref mh1.length :: us) (mh1 ++ [.ins C []]) fun u mh2 => u = .non ∧ P (.ref mh1.length) mh2) I ⟨sl, mh, as, _, rs, rh, h, fun us mh1 p vs H1 as1 e1 r rh1 => ⟨us, mh1, as1, e1, r, rh1, p⟩⟩) fun us s1 ⟨vs, H1, I1, r, us', mh1, as1, e1, r1, rh1, hl, p1⟩ => ⟨I1.kIn, ?_⟩) he hpl
  have hx : H1 (s1.heap.objs.size + 1) = none := I1.hok.fresh (Nat.le_succ _)
  have hdx : H1 s1.heap.objs.size = none := I1.hok.fresh (Nat.le_refl _)
  have hne : s1.heap.objs.size ≠ s1.heap.objs.size + 1 := Nat.ne_of_lt (Nat.lt_succ_self _)
  have I2 := Inv.made (C := C) I1
  have eG := RH.evGrow (as := as1) (o := .own (s1.heap.objs.size + 1)) hdx
  have rhG := rh1.grow (o := .own (s1.heap.objs.size + 1)) hdx
  have hx2 : (upd H1 s1.heap.objs.size (.own (s1.heap.objs.size + 1))) (s1.heap.objs.size + 1) = none := by rw [upd_ne hne.symm]; exact hx
  have eN := RH.evNew (as := as1) (o := .ins C s1.heap.objs.size []) hx2
  have rhN := rhG.new (m := .ins C []) (o := .ins C s1.heap.objs.size []) hx2 (.ins .nil)
  have er : (as1 ++ [s1.heap.objs.size + 1])[mh1.length]? = some (s1.heap.objs.size + 1) := by rw [← rh1.len]; simp
  have ee := eG.trans eN
  have hq : spM X.K np F (.ref (s1.heap.objs.size + 1) :: vs) (upd (upd H1 s1.heap.objs.size (.own (s1.heap.objs.size + 1))) (s1.heap.objs.size + 1) (.ins C s1.heap.objs.size [])) (fun v H2 => v = .non ∧ Q (.ref (s1.heap.objs.size + 1)) H2) E0 := by
    refine ⟨by rw [List.length_cons, ← Paired.length r1]; exact hl, _, _, _, _, .cons (.ref er) (RVs.ev ee r1), rhN, p1, fun u mh2 p v H2 as2 e2 r2 rh2 => ?_⟩
    obtain ⟨rfl, p⟩ := p
    cases r2
    exact ⟨rfl, kk _ _ p _ _ _ ((e1.trans ee).trans e2) ((RV.ref er).ev e2) rh2⟩
  have r2 : Vals (V.ref (s1.heap.objs.size + 1) :: vs) (Value.ref (s1.heap.objs.size + 1) :: us) := .cons rfl r
  have hl2 : (Value.ref (s1.heap.objs.size + 1) :: us).length = ps.length := by
    rw [← r2.length]
    exact D.ok.len _ _ _ _ hq
  have hb' := D.b _ (Value.ref (s1.heap.objs.size + 1) :: us) I2.kIn (by rw [List.append_nil]; exact hl2)
  rw [List.append_nil] at hb'
  refine wpAny_call (make_map (f := D.f) I1.kIn D.mkC.makes D.mkC.init (beq_iff_eq.mp D.mkC.fn) (codeAny_mono (D.ok.run _ X.stack _ _ ⟨Value.ref (s1.heap.objs.size + 1) :: us, []⟩ (Value.ref (s1.heap.objs.size + 1) :: us) _ _ E0 ((hr.mono hj).make C us [])
    hgd (I2.env0.make C us []) hb' r2 hq) fun r s' hq' => ?_))
  cases r with
  | error e => exact pass0 pins σ _ _ e s' I2 hq'
  | ok fl =>
    cases fl with
    | ret u =>
      obtain ⟨v, H', I3, rv, ev, q3⟩ := I2.after hq'
      subst ev
      exact ⟨rv, ⟨V.ref (s1.heap.objs.size + 1), H', I3, rfl, q3⟩⟩
    | next => exact False.elim hq'
    | brk => exact False.elim hq'
    | cont => exact False.elim hq'
end
end Sm

/-! isinstance, methods of built-in types, list(range(..)), enumerate of a list. -/
namespace Sm
open PySem PySem.Spec PyProof.Rows L2 Tk
variable [ZC]
def tyU (u : U) (mh : MH) : Option String := match u with
  | .non => some "NoneType"
  | .bl _ => some "bool"
  | .int _ => some "int"
  | .str _ => some "str"
  | .tup _ => some "tuple"
  | .fz _ => some "list"
  | .ref n => match mh[n]? with | some (.lst _) => some "list" | some (.dK _) => some "dict" | _ => none
  | .ob _ => none
theorem tyU_ok {K : PySem.W.Frag} {as : List Addr} {H : Hp} {u : U} {v : V} {mh : MH} {t : String} (r : RV K as H u v) (R : RH K as H mh) (h : tyU u mh = some t) : TyX K H v (.type t) ∧ (t = "NoneType" ∨ t = "bool" ∨ t = "int" ∨ t = "str" ∨ t = "tuple" ∨ t = "list" ∨ t = "dict") := by
  cases u with
  | non => cases r; cases h; exact ⟨.base .non, by simp⟩
  | bl b => cases r; cases h; exact ⟨.base (.bl b), by simp⟩
  | int i => cases r; cases h; exact ⟨.base (.int i), by simp⟩
  | str x => cases r; cases h; exact ⟨.base (.str x), by simp⟩
  | tup us =>
    obtain ⟨a, vs, rfl, h1, h2⟩ := r.of_tup
    cases h
    refine ⟨?_, by simp⟩
    rcases h1 with (h | ⟨o, h⟩) | ⟨o, its, n, hk, hc, _⟩
    · exact .base (.tup h)
    · exact .fTuple h
    · exact .kTuple hk hc
  | fz us =>
    obtain ⟨a, vs, rfl, h1, h2⟩ := r.of_fz
    cases h
    refine ⟨?_, by simp⟩
    rcases h1 with ⟨o, h⟩ | ⟨o, its, n, hk, hc, _⟩
    · exact .base (.frz h)
    · exact .kList hk hc
  | ref n =>
    obtain ⟨a, rfl, e⟩ := r.of_ref
    simp only [tyU] at h
    split at h
    · rename_i q
      obtain ⟨vs, h1, h2⟩ := R.lst q e
      cases h
      exact ⟨.base (.lst h1), by simp⟩
    · rename_i q
      obtain ⟨vs, h1, h2⟩ := R.dK q e
      cases h
      exact ⟨.base (.dK h1), by simp⟩
    · cases h
  | ob a => cases h
def isSubT (t T : String) : Bool := t == T || (t == "bool" && T == "int")
/-- isinstance(x, T), T a built-in type -/
def uIsT (T : String) : M1 := fun u mh P => match tyU u mh with | some t => P (.bl (isSubT t T)) mh | none => False
def KitT (T : String) : Prop := ∀ (K : PySem.W.Frag) (t : String), (t = "NoneType" ∨ t = "bool" ∨ t = "int" ∨ t = "str" ∨ t = "tuple" ∨ t = "list" ∨ t = "dict") → PySem.W.kitOne K (.type t) (.type T) = some (isSubT t T)
theorem kit_int : KitT "int" := fun K t h => by rcases h with h | h | h | h | h | h | h <;> subst h <;> exact kit_ty (by decide +kernel)
theorem kit_bool : KitT "bool" := fun K t h => by rcases h with h | h | h | h | h | h | h <;> subst h <;> exact kit_ty (by decide +kernel)
theorem kit_tuple : KitT "tuple" := fun K t h => by rcases h with h | h | h | h | h | h | h <;> subst h <;> exact kit_ty (by decide +kernel)
theorem kit_str : KitT "str" := fun K t h => by rcases h with h | h | h | h | h | h | h <;> subst h <;> exact kit_ty (by decide +kernel)
section
variable {X : Cx} {e : Expr} {m : ME} {p p2 pos : Pos} {T : String} {x : Str}
theorem s_isT (kt : KitT T) (hi : X.mg "isinstance" = none) (hm : X.mg x = none) (he : PE X e (tM X.K m)) (hv : bootBuiltins x = some (.type T) := by decide +kernel) (hn : x ≠ "__name__" := by decide) (hd : (x == ("__debug__" : Str)) = false := by decide) (hg : Gl X "isinstance" := by rfl) (hg2 : Gl X x := by rfl)
    (hs : starEach [e, .Name x p2] X.env = (false, eval e X.env) :: starEach [.Name x p2] X.env := by rfl) (hs2 : starEach [.Name x p2] X.env = (false, eval (.Name x p2) X.env) :: starEach [] X.env := by rfl) (hpl : (backTo pos (starEach [.Name x p2] X.env)).any (·.1) = false := by rfl) :
    PE X (.Call (.Name "isinstance" p) [e, .Name x p2] [] pos) (tM X.K (mUn (uIsT T) m)) := by
  refine (pe_callB call_isi hg hi PyProof.Rows.boot_isinstance (pa_cons he (pa_cons (pe_bltn (v := .ty T) hg2 hm hv rfl hn hd) pa_nil hs2) hs) (by decide) (by decide) hs hpl).imp fun σ H Q h => ?_
  obtain ⟨sl, mh, as, P, rs, rh, h, k⟩ := h
  refine ⟨sl, mh, as, _, rs, rh, h, fun u mh1 p v H1 as1 e1 r rh1 => ?_⟩
  unfold uIsT at p
  split at p
  · rename_i t et
    obtain ⟨ty, hc⟩ := tyU_ok r rh1 et
    exact ⟨v, .ty T, .type t, .type T, _, rfl, .ty T, ty, kt _ t hc, k _ _ p _ _ _ e1 (.bl _) rh1⟩
  · exact p.elim
/-- isinstance(x, C): x an instance of just this class -/
def uIsC (C : Addr) : M1 := fun u mh P => match u with
  | .ref n => match mh[n]? with | some (.ins C' _) => C' = C ∧ P (.bl true) mh | _ => False
  | _ => False
theorem s_isC {C : Addr} (c : C8.InsC X.K C) (hi : X.mg "isinstance" = none) (hm : X.mg x = some (.ref C)) (he : PE X e (tM X.K m)) (hd : (x == ("__debug__" : Str)) = false := by decide) (hg : Gl X "isinstance" := by rfl) (hg2 : Gl X x := by rfl)
    (hs : starEach [e, .Name x p2] X.env = (false, eval e X.env) :: starEach [.Name x p2] X.env := by rfl) (hs2 : starEach [.Name x p2] X.env = (false, eval (.Name x p2) X.env) :: starEach [] X.env := by rfl) (hpl : (backTo pos (starEach [.Name x p2] X.env)).any (·.1) = false := by rfl) :
    PE X (.Call (.Name "isinstance" p) [e, .Name x p2] [] pos) (tM X.K (mUn (uIsC C) m)) := by
  refine (pe_callB (C8.call_isC c) hg hi PyProof.Rows.boot_isinstance (pa_cons he (pa_cons (pe_glob (v := .ref C) hg2 hm rfl hd) pa_nil hs2) hs) (by decide) (by decide) hs hpl).imp fun σ H Q h => ?_
  obtain ⟨sl, mh, as, P, rs, rh, h, k⟩ := h
  refine ⟨sl, mh, as, _, rs, rh, h, fun u mh1 p v H1 as1 e1 r rh1 => ?_⟩
  unfold uIsC at p
  split at p
  · obtain ⟨a, rfl, e0⟩ := r.of_ref
    split at p
    · rename_i q
      obtain ⟨dx, vs, h1, h2⟩ := rh1.ins q e0
      obtain ⟨rfl, p⟩ := p
      exact ⟨a, dx, vs, rfl, h1, k _ _ p _ _ _ e1 (.bl _) rh1⟩
    · exact p.elim
  · exact p.elim
end
/-! ### methods of lists -/
section
variable {X : Cx} {o e : Expr} {mo : ME} {ma : MA} {apos cpos : Pos} {name : Str}
theorem s_bm {id : String} {g : MM} (slot : Slot "list" name id) (hty : typeOf (.builtin id) = pure (.type "method_descriptor")) (hm : MtR X id (rmM X.K g)) (ho : PE X o (tM X.K mo)) (ha : PA X [e] (tMA X.K ma)) (hbase : attributeBase o name X.env (eval o X.env) = eval o X.env := by rfl)
    (hfew : ((backTo cpos (starEach [e] X.env)).all (fun x => !x.1) && (backToKw cpos (keywordEach [] X.env)).all (fun x => x.1.isSome) && decide (([e] : List Expr).length + ([] : List Keyword).length + (if ([] : List Keyword).isEmpty then 0 else 1) < 30)) = true := by rfl)
    (hline : (apos.endLine == cpos.line) = true := by rfl) (hs : starEach [e] X.env = (false, eval e X.env) :: starEach [] X.env := by rfl) (hplain : (backTo cpos (starEach [] X.env)).any (·.1) = false := by rfl) : PE X (.Call (.Attribute o name apos) [e] [] cpos) (tM X.K (mBm g mo ma)) :=
  (pe_bm PySem.F.plainAttrs_list slot hty hm ho ha hbase hfew hline hs hplain).imp tm_bm
theorem s_bm0 {id : String} {g : MM} (slot : Slot "list" name id) (hty : typeOf (.builtin id) = pure (.type "method_descriptor")) (hm : MtR X id (rmM X.K g)) (ho : PE X o (tM X.K mo)) (hbase : attributeBase o name X.env (eval o X.env) = eval o X.env := by rfl) (hline : (apos.endLine == cpos.line) = true := by rfl) :
    PE X (.Call (.Attribute o name apos) [] [] cpos) (tM X.K (mBm g mo mNil)) := (pe_bm0 PySem.F.plainAttrs_list slot hty hm ho hbase hline).imp tm_bm0
/-- d.get(k, x) -/
def mGet2 (mo mk mx : ME) : ME := fun sl mh P => mo sl mh fun o mh1 => match o with
  | .ref n => (∃ kvs, mh1[n]? = some (.dK kvs)) ∧ mk sl mh1 fun kx mh2 => mx sl mh2 fun z mh3 => match mh3[n]?, uKey kx with
    | some (.dK kvs), some k => P ((valU kvs k).getD z) mh3
    | _, _ => False
  | _ => False
theorem s_get2 {f : Expr} {mk mx : ME} (hu : X.A.units + 1 < cLine) (ho : PE X o (tM X.K mo)) (he : PE X e (tM X.K mk)) (hf : PE X f (tM X.K mx)) (m : L2.M2 X o "get" apos e f cpos := by exact ⟨rfl, rfl, rfl, rfl⟩) : PE X (.Call (.Attribute o "get" apos) [e, f] [] cpos) (tM X.K (mGet2 mo mk mx)) := by
  refine (pe_dget2 hu ho he hf m).imp fun σ H Q h => ?_
  obtain ⟨sl, mh, as, P, rs, rh, h, k⟩ := h
  refine ⟨sl, mh, as, _, rs, rh, h, fun u mh1 p v H1 as1 e1 r rh1 => ?_⟩
  split at p
  · rename_i n
    obtain ⟨a, rfl, e0⟩ := r.of_ref
    obtain ⟨⟨kvs, q⟩, p⟩ := p
    obtain ⟨vs, h1, h2⟩ := rh1.dK q e0
    refine ⟨a, rfl, .inl ⟨vs, .inl h1⟩, sl, mh1, as1, _, rs.ev e1, rh1, p, fun kx mh2 p2 y H2 as2 e2 r2 rh2 => ⟨sl, mh2, as2, _, (rs.ev e1).ev e2, rh2, p2, fun z mh3 p3 w H3 as3 e3 r3 rh3 => ?_⟩⟩
    have e0' : as3[n]? = some a := by
      obtain ⟨t, rfl⟩ := (e2.trans e3).ap
      rw [List.getElem?_append_left (List.getElem?_eq_some_iff.mp e0).1]; exact e0
    split at p3
    · rename_i kvs3 kk q3 ek
      obtain ⟨vs3, g1, g2⟩ := rh3.dK q3 e0'
      obtain rfl := uKey_rv r2 ek
      refine ⟨_, DGet.k g1, ?_⟩
      cases ev : valU kvs3 kk with
      | none =>
        rw [ev] at p3
        rw [valU_none g2 ev]
        exact k _ _ p3 _ _ _ ((e1.trans e2).trans e3) r3 rh3
      | some u' =>
        rw [ev] at p3
        obtain ⟨v', g3, g4⟩ := valU_some g2 ev
        rw [g3]
        exact k _ _ p3 _ _ _ ((e1.trans e2).trans e3) g4 rh3
    · exact p3.elim
  · exact p.elim
end
/-! ### list(range(..)) -/
def mLstRg1 (m : ME) : ME := fun sl mh P => m sl mh fun u mh1 => match u with | .int j => RgOk 0 j ∧ P (.ref mh1.length) (mh1 ++ [.lst (rngU 0 j.toNat)]) | _ => False
theorem rng_rv {K : PySem.W.Frag} {as : List Addr} {H : Hp} (lo : Int) (n : Nat) : RVs K as H (rngU lo n) ((List.range n).map fun i => V.int (lo + (i : Nat))) := by
  unfold rngU
  generalize List.range n = l
  induction l with
  | nil => exact .nil
  | cons x l ih => exact .cons (.int _) ih
section
variable {X : Cx} {a : Expr} {m : ME} {p p2 pos pos2 : Pos}
theorem s_lstRg1 (hm : X.mg "list" = none) (hm2 : X.mg "range" = none) (ha : PE X a (tM X.K m)) (hc : X.calm = true := by rfl) (hg : Gl X "list" := by rfl) (hg2 : Gl X "range" := by rfl) (na : starEach [.Call (.Name "range" p2) [a] [] pos2] X.env = (false, eval (.Call (.Name "range" p2) [a] [] pos2) X.env) :: starEach [] X.env := by rfl) (na2 : starEach [a] X.env = (false, eval a X.env) :: starEach [] X.env := by rfl) :
    PE X (.Call (.Name "list" p) [.Call (.Name "range" p2) [a] [] pos2] [] pos) (tM X.K (mLstRg1 m)) := by
  refine (pe_listRg hc hg hm (prg_1 hg2 hm2 ha na2) na).imp fun σ H Q h => ?_
  obtain ⟨sl, mh, as, P, rs, rh, h, k⟩ := h
  refine ⟨sl, mh, as, _, rs, rh, h, fun u mh1 p v H1 as1 e1 r rh1 => ?_⟩
  split at p
  · obtain rfl := r.nn
    refine ⟨_, rfl, p.1, fun q hq => ?_⟩
    refine k _ _ p.2 _ _ _ (e1.trans (RH.evNew hq)) (.ref (by rw [← rh1.len]; simp)) (rh1.new hq (.lst ?_))
    unfold rgV
    rw [Int.sub_zero]
    exact rng_rv 0 _
  · exact p.elim
end
/-! ### enumerate of a tuple -/
end Sm
namespace Tk
open PySem PySem.Spec PyProof.Rows L2
open Sem (wp)
open AutoSeq1 (wpAny_loadPart')
theorem meets_enumT (l : Addr) (items : Array Value) (n : Nat) (dct : Option Addr) (sl : Array (Option Value)) :
    Meets (Builtin.«enumerate.__new__» ⟨[.type "enumerate", .ref l], []⟩) (fun _ R s => s.heap.get? l = some { cls := .type "tuple", dict := dct, data := .seq items n, slots := sl } ∧
      R (.ok (.ret (.ref (s.heap.push { cls := .type "tuple_iterator", data := .fields #[.ref l, .int 0 0] }).objs.size)))
        { s with heap := (s.heap.push { cls := .type "tuple_iterator", data := .fields #[.ref l, .int 0 0] }).push { cls := .type "enumerate", data := .fields #[.none, .bool false, .ref s.heap.objs.size, rawInt 0, .none, .none] } }) :=
  .of_wp fun prog w A R s h => by
    obtain ⟨hp, g, d, tk, os⟩ := s; obtain ⟨hl, h⟩ := h
    have hsub := sub_enumerate
    have hL : Heap.IsTuple (Shared.heap ⟨hp, g, d, tk, os⟩) l items := ⟨_, hl, rfl, n, rfl⟩
    wp_walk using wpAny_loadPart' hl
    refine wpAny_stack_any fun st => wpAny_pure ?_
    split
    · rename_i c _ _ _ _ _
      cases (c == Value.type "enumerate")
      · wp_walk using wpAny_loadPart' hl, wpAny_pyIter_tuple hL
        exact ⟨_, rfl, h⟩
      · wp_walk using wpAny_loadPart' hl, wpAny_pyIter_tuple hL
        exact ⟨_, rfl, h⟩
    · wp_walk using wpAny_loadPart' hl, wpAny_pyIter_tuple hL
      exact ⟨_, rfl, h⟩
section
variable {prog : Program} {w : World} {A : Around} {E : Value → Shared → Prop} {s : Shared}
theorem call_enumT {l : Addr} {items : Array Value} {Q : Value → Shared → Prop} (hL : s.heap.IsTuple l items)
    (h : ∀ h', IsEnum h' (s.heap.objs.size + 1) s.heap.objs.size 0 .none → h'.IsTupleIter s.heap.objs.size l 0 → h'.objs.size = s.heap.objs.size + 2 →
      (∀ b o, s.heap.get? b = some o → h'.get? b = some o) → Q (.ref (s.heap.objs.size + 1)) { s with heap := h' }) :
    wpAny (model prog w) A (call (.type "enumerate") [.ref l]) Q E s := by
  obtain ⟨⟨c, dct, dt, sl⟩, hl, hc, n, hd⟩ := hL
  replace hc : c = .type "tuple" := hc
  replace hd : dt = .seq items n := hd
  subst hc hd
  refine callType_new F.called_enumerate (by decide) (F.typeCall_enumerate_1 _) (F.newCall_enumerate_1 _) (fun obj => F.args_object_init_2 obj _) F.entry_enumerate_new
    (meets_enumT l items n dct sl) ⟨hl, ?_⟩
  have hz : (s.heap.push { cls := .type "tuple_iterator", data := .fields #[.ref l, .int 0 0] }).objs.size = s.heap.objs.size + 1 := Heap.size_push ..
  show _ ∧ _
  rw [hz]
  have he : IsEnum ((s.heap.push { cls := .type "tuple_iterator", data := .fields #[.ref l, .int 0 0] }).push
      { cls := .type "enumerate", data := .fields #[.none, .bool false, .ref s.heap.objs.size, rawInt 0, .none, .none] }) (s.heap.objs.size + 1) s.heap.objs.size 0 .none := by
    have := Heap.get?_push_size (s.heap.push { cls := .type "tuple_iterator", data := .fields #[.ref l, .int 0 0] })
      (o := { cls := .type "enumerate", data := .fields #[.none, .bool false, .ref s.heap.objs.size, rawInt 0, .none, .none] }) rfl
    rw [hz] at this; exact this
  refine ⟨⟨_, he, rfl⟩, h _ he ⟨_, Heap.get?_push_of_some _ (Heap.get?_push_size _ rfl), rfl, rfl⟩ (by rw [Heap.size_push, hz]) fun b o x => Heap.get?_push_of_some _ (Heap.get?_push_of_some _ x)⟩
theorem pyNext_enumT_end {e it l : Addr} {items : Array Value} {i : Nat} {c : Int} {old : Value} {Q : Option Value → Shared → Prop} (hh : A.handled = none)
    (he : IsEnum s.heap e it c old) (hit : s.heap.IsTupleIter it l i) (hl : s.heap.IsTuple l items) (hx : items[i]? = none)
    (hQ : ∀ h', Heap.ExtBut it s.heap h' → Q none { s with heap := h' }) : wpAny (model prog w) A (pyNext (.ref e)) Q E s := by
  have hT : s.TypeIs (.ref e) "enumerate" := ⟨_, he, rfl⟩
  unfold pyNext
  refine wpAny_bind (wpAny_attempt (wpAny_callSpecial?_slot (name := Str.ofString "__next__") hT F.slot_enumerate_next
    (wpAny_call_entry F.slot_enumerate_next hT F.entry_enumerate_next ?_ (F.args_enumerate_next_1 _))))
  show wpAny _ _ (field (.ref e) 2 >>= _) _ _ _
  refine wpAny_bind (wpAny_field he rfl (x := .ref it) rfl ?_)
  refine wpAny_bind (wpAny_nextOf_tuple_end hh hit hl hx fun h' x he' hx' => ?_)
  obtain ⟨o, ho, hc⟩ := hx'
  refine wpAny_bind (wpAny_isInstance (T := "StopIteration") (b := true) ⟨o, ho, hc⟩ isSubtype_stop ?_)
  exact wpAny_pure (hQ _ he')
end
/-- the tuple at a at each turn, each item in a new pair -/
def IteT (K : PySem.W.Frag) (a : Addr) : It :=
  ⟨fun i H => ∃ (xs : List V) (x : V), SqT K H a xs ∧ xs[i]? = some x, fun i H v H' => ∃ T x, v = .ref T ∧ H T = none ∧ H' = upd H T (.tup [.int (i : Nat), x]) ∧ ∀ xs, SqT K H a xs → xs[i]? = some x, fun i H => ∃ xs : List V, SqT K H a xs ∧ xs.length ≤ i⟩
theorem turn_enumT {P : Program} {w : World} {K : PySem.W.Frag} {elts : List Expr} {kk : Nat} {tpos : Pos} (a e it : Addr) :
    Turn P w K (.Tuple elts kk tpos) (IteT K a) [e, it] e (fun i h => (∃ old, IsEnum h e it ((i : Nat) : Int) old) ∧ h.IsTupleIter it a i ∧ e ≠ it) where
  mem := by simp
  obj := fun i h st b hb => by
    obtain ⟨⟨old, he⟩, ⟨o, ho, hc, hd⟩, _⟩ := st
    have e' : b = e ∨ b = it := by simpa using hb
    rcases e' with z | z
    · rw [z]; exact ⟨_, he, fun v q => nomatch q⟩
    · rw [z]; exact ⟨o, ho, fun v q => by rw [hd] at q; cases q⟩
  keep := fun i h h' st k => let ⟨⟨old, he⟩, hi, hne⟩ := st; ⟨⟨old, k e (by simp) _ he⟩, hi.at fun o q => k it (by simp) o q, hne⟩
  item := by
    intro X hP hw hK hc i pins s σ H E I hf st hg
    subst hP hw hK
    obtain ⟨⟨old, he⟩, hit, hne⟩ := st
    obtain ⟨xs, x, hq, hx⟩ := hg
    obtain ⟨its, rv, p, hz⟩ := I.tuple hq
    obtain ⟨u, hu, ru⟩ := rv.get hx
    have hel : e < s.heap.objs.size := Heap.lt_size he
    have hil : it < s.heap.objs.size := by obtain ⟨_, q, _⟩ := hit; exact Heap.lt_size q
    have nit : a ≠ it := fun z => by
      obtain ⟨o1, q1, c1, _⟩ := p
      obtain ⟨o2, q2, c2, _⟩ := hit
      rw [z, q2] at q1
      cases q1
      rw [c2] at c1
      exact absurd c1 (by decide)
    have nea : e ≠ a := fun z => by
      obtain ⟨o1, q1, c1, _⟩ := p
      rw [← z] at q1
      have he' : s.heap.get? e = some _ := he
      rw [he'] at q1
      cases q1
      exact absurd (show Value.type "enumerate" = Value.type "tuple" from c1) (by decide)
    refine wpAny_pyNext_enum_itemC (P := fun i v => its.toArray[i]? = some v) (St := fun i h => h.IsTupleIter it a i ∧ h.IsTuple a its.toArray) (fp := [it, a]) (n := its.toArray.size) (i := i) (Draws.tuple (A := X.A.in1) (I.ok.hd hc) it a nit its.toArray) he ⟨hit, p⟩ (by
      have := (Array.getElem?_eq_some_iff.mp (show its.toArray[i]? = some u by simpa using hu)).1
      exact this) hne (by simp; exact ⟨hne, nea⟩) fun y h' tk hy ho st' hT hsz hk => ?_
    have hy' : y = u := by
      have : its.toArray[i]? = some u := by simpa using hu
      exact Option.some.inj (hy.symm.trans this)
    subst hy'
    refine ⟨_, rfl, wpAny_letOwnedTupleGo_enum (s := { s with heap := h', toks := tk + 1 }) ho fun h'' he' sb => ?_⟩
    have hT2 : h''.get? s.heap.objs.size = some { cls := .type "tuple", data := .seq #[.int i tk, y] } := (sb.2 _ (Nat.ne_of_gt hel)).trans hT
    have new : ObjOk X.prog X.w (upd H s.heap.objs.size (.tup [.int (i : Nat), x])) h'' s.heap.objs.size (.tup [.int (i : Nat), x]) :=
      ⟨by show 2 ≤ sizeLine; decide, [.int i tk, y], .cons ⟨_, rfl⟩ (.cons ru .nil), ⟨_, hT2, rfl, _, rfl⟩⟩
    have I1 : Inv X pins σ (upd H s.heap.objs.size (.tup [.int (i : Nat), x])) { s with heap := h'', toks := tk + 1 } :=
      I.turnedNew (ch := [e, it]) (fun b ob hb q => (sb.2 b (fun z => hb (by simp [z]))).trans (hk b ob (fun z => hb (by simp [z])) (fun z => hb (by simp [z])) q)) hf (Nat.le_refl _) new
    refine ⟨.ref s.heap.objs.size, _, I1, rfl, ⟨_, x, rfl, I.hok.fresh (Nat.le_refl _), rfl, fun ys hy => by rw [I.tuple_inj hy hq]; exact hx⟩, ⟨⟨y, ?_⟩, st'.1.at fun o q => (sb.2 it (Ne.symm hne)).trans q, hne⟩, fun b hb => ?_⟩
    · have e1 : ((i + 1 : Nat) : Int) = (i : Int) + 1 := by omega
      rw [e1]; exact he'
    · have hb' : b < s.heap.objs.size := by
        have e' : b = e ∨ b = it := by simpa using hb
        rcases e' with z | z
        · rw [z]; exact hel
        · rw [z]; exact hil
      rw [upd_ne (Nat.ne_of_lt hb')]
      exact (hf b hb).1
  done := by
    intro X hP hw hK hc i pins s σ H E I hf st hg
    subst hP hw hK
    obtain ⟨⟨old, he⟩, hit, hne⟩ := st
    obtain ⟨xs, hq, hx⟩ := hg
    obtain ⟨its, rv, p, hz⟩ := I.tuple hq
    obtain ⟨f0, f1, f2, f3, f4, f5⟩ := hf it (by simp)
    have hl := rv.length
    exact pyNext_enumT_end (I.ok.hd hc) he hit p (by simp; omega) fun h' eb => ⟨rfl, I.turned (t' := s.toks) (fun b o hb q => eb b o hb q) f0 f1 f3 f4 f5⟩
  self := fun A i s Q E st h => let ⟨⟨_, he⟩, _⟩ := st; wpAny_pyIter_enum he h
def iEnumA (K : PySem.W.Frag) (ta : TA) : TI := fun σ H R => ta σ H fun vs H1 => ∃ a, vs = [.ref a] ∧ ((∃ xs, SqL K H1 a xs ∧ R (Ite K a) H1) ∨ (∃ xs, SqT K H1 a xs ∧ R (IteT K a) H1))
theorem pi_enumA {X : Cx} {e : Expr} {ta : TA} {p pos tpos : Pos} {elts : List Expr} {kk : Nat} (hg : Gl X "enumerate") (hm : X.mg "enumerate" = none) (ha : PA X [e] ta) (hs : starEach [e] X.env = [(false, eval e X.env)] := by rfl) :
    PI X (.Tuple elts kk tpos) (.Call (.Name "enumerate" p) [e] [] pos) (iEnumA X.K ta) := by
  refine ⟨fun pins s σ H R I h => ?_⟩
  refine Call_ (ld_blt I hg hm boot_enumerate (PyProof.Rows.callWith_type1 (thn (ha.run pos pins s σ H _ I h) fun us s1 ⟨vs, H1, I1, r1, q1⟩ => ?_) hs rfl))
  obtain ⟨a, ex, q⟩ := q1
  subst ex
  cases r1 with
  | cons r rr =>
    cases rr
    cases r
    rcases q with ⟨xs, hq, q⟩ | ⟨xs, hq, q⟩
    · obtain ⟨its, rv, p', hz⟩ := I1.list hq
      refine call_enumerate_list p'.isList fun h' he hit hsz hk => wpAny_pyIter_enum he ?_
      have I2 : Inv X pins σ H1 { s1 with heap := h' } := I1.kept (t' := s1.toks) hk
      refine ⟨s1.heap.objs.size + 1, [s1.heap.objs.size + 1, s1.heap.objs.size], _, _, H1, rfl, I2, turn_enum a (s1.heap.objs.size + 1) s1.heap.objs.size, ⟨⟨.none, he⟩, hit, Nat.succ_ne_self _⟩, fun b hb => ?_, q⟩
      have e' : b = s1.heap.objs.size + 1 ∨ b = s1.heap.objs.size := by simpa using hb
      have hle : s1.heap.objs.size ≤ b := by
        rcases e' with z | z
        · rw [z]; exact Nat.le_add_right _ _
        · rw [z]; exact Nat.le_refl _
      exact I1.fpOk hle (I1.hok.fresh hle)
    · obtain ⟨its, rv, p', hz⟩ := I1.tuple hq
      refine call_enumT p' fun h' he hit hsz hk => wpAny_pyIter_enum he ?_
      have I2 : Inv X pins σ H1 { s1 with heap := h' } := I1.kept (t' := s1.toks) hk
      refine ⟨s1.heap.objs.size + 1, [s1.heap.objs.size + 1, s1.heap.objs.size], _, _, H1, rfl, I2, turn_enumT a (s1.heap.objs.size + 1) s1.heap.objs.size, ⟨⟨.none, he⟩, hit, Nat.succ_ne_self _⟩, fun b hb => ?_, q⟩
      have e' : b = s1.heap.objs.size + 1 ∨ b = s1.heap.objs.size := by simpa using hb
      have hle : s1.heap.objs.size ≤ b := by
        rcases e' with z | z
        · rw [z]; exact Nat.le_add_right _ _
        · rw [z]; exact Nat.le_refl _
      exact I1.fpOk hle (I1.hok.fresh hle)
end Tk
namespace Sm
open PySem PySem.Spec PyProof.Rows L2 Tk
variable [ZC]
theorem wlk_enumT {K : PySem.W.Frag} {as0 : List Addr} {H0 : Hp} {a : Addr} {us : List U} {chk : MH → Prop} (h : ∀ as H mh, Ev as0 H0 as H → RH K as H mh → chk mh → ∃ vs, SqT K H a vs ∧ RVs K as H us vs) : Wlk K as0 H0 (IteT K a) (enumU us) chk := by
  refine ⟨fun as H mh i u e R c hu => ?_, fun as H mh e R c => ?_⟩
  · obtain ⟨vs, h1, h2⟩ := h as H mh e R c
    obtain ⟨w, hw, rfl⟩ : ∃ w, us[i]? = some w ∧ u = U.tup [.int (i : Nat), w] := by
      unfold enumU at hu
      rw [List.getElem?_mapIdx] at hu
      cases q : us[i]? with
      | none => rw [q] at hu; cases hu
      | some w => rw [q] at hu; cases hu; exact ⟨w, rfl, rfl⟩
    obtain ⟨v, e1, e2⟩ := prd_get h2 hw
    refine ⟨⟨vs, v, h1, e1⟩, fun x H' y => ?_⟩
    obtain ⟨T, z, rfl, hT, rfl, y⟩ := y
    have := y vs h1
    rw [e1] at this
    cases this
    have ev := RH.evGrow (as := as) (o := .tup [.int (i : Nat), v]) hT
    exact ⟨as, ev, R.grow hT, RV.tups (SqT.of upd_same) (.cons (.int _) (.cons (e2.ev ev) .nil))⟩
  · obtain ⟨vs, h1, h2⟩ := h as H mh e R c
    exact ⟨vs, h1, by simp [enumU, Paired.length h2]⟩
def mEnumL (m : ME) : MI := fun sl mh P => m sl mh fun u mh1 => rowW u mh1 fun us chk => P (enumU us) chk mh1
section
variable {X : Cx} {a : Expr} {m : ME} {p pos tpos : Pos} {elts : List Expr} {kk : Nat}
theorem si_enum (ha : PE X a (tM X.K m)) (hm : X.mg "enumerate" = none) (hg : Gl X "enumerate" := by rfl) (hs : starEach [a] X.env = [(false, eval a X.env)] := by rfl) : PI X (.Tuple elts kk tpos) (.Call (.Name "enumerate" p) [a] [] pos) (tMI X.K (mEnumL m)) := by
  refine ⟨fun pins s σ H R I h => (pi_enumA hg hm (sa_cons ha sa_nil hs) hs).run pins s σ H R I ?_⟩
  obtain ⟨sl, mh, as, P, rs, rh, h, k⟩ := h
  refine ⟨sl, mh, as, fun us mh1 => ∃ u, us = [u] ∧ rowW u mh1 fun us chk => P (enumU us) chk mh1, rs, rh, ?_, fun us mh1 q vs H1 as1 e r rh1 => ?_⟩
  · have e : (fun (u : U) (mh1 : MH) => ∃ u', [u] = [u'] ∧ rowW u' mh1 fun us chk => P (enumU us) chk mh1) = fun u mh1 => rowW u mh1 fun us chk => P (enumU us) chk mh1 := by
      funext u mh1
      apply propext
      constructor
      · rintro ⟨u', z, h⟩
        cases z
        exact h
      · exact fun h => ⟨u, rfl, h⟩
    show m sl mh fun u mh1 => ∃ u', [u] = [u'] ∧ _
    rw [e]
    exact h
  · obtain ⟨u, rfl, q⟩ := q
    cases r with
    | cons r1 r2 =>
      cases r2
      obtain ⟨a', us, chk, b1, rfl, q, c, eb1, ra⟩ := rowW_ok r1 rh1 q
      cases ra with
      | lst f =>
        obtain ⟨x1, h1, _⟩ := f as1 H1 mh1 .refl rh1 c
        exact ⟨a', rfl, .inl ⟨x1, h1, k _ _ _ q _ _ e rh1 _ (wlk_enum f)⟩⟩
      | tup f =>
        obtain ⟨x1, h1, _⟩ := f as1 H1 mh1 .refl rh1 c
        exact ⟨a', rfl, .inr ⟨x1, h1, k _ _ _ q _ _ e rh1 _ (wlk_enumT f)⟩⟩
end
/-! ### a, b, c = x, y, z -/
def mPar3 (i j l : Nat) (ma mb mc : ME) : MS := fun N sl mh => ma sl mh fun u mh1 => mb sl mh1 fun w mh2 => mc sl mh2 fun z mh3 => N.nx (((sl.set i (some u)).set j (some w)).set l (some z)) mh3
theorem sp_par3 {X : Cx} {i j l : Nat} {x y z : Str} {a b d : Expr} {ma mb mc : ME} {px py pz pt pos : Pos} {kt k2 pt2} (hN : X.N.Nodup) (ha : PE X a (tM X.K ma)) (hb : PE X b (tM X.K mb)) (hd : PE X d (tM X.K mc)) (hc : X.calm = true := by rfl) (hi : X.N[i]? = some x := by rfl) (hj : X.N[j]? = some y := by rfl) (hl : X.N[l]? = some z := by rfl) (hij : i ≠ j := by decide) (hil : i ≠ l := by decide) (hjl : j ≠ l := by decide)
    (hx : X.env.scope.names.lookup x = some .local := by rfl) (hy : X.env.scope.names.lookup y = some .local := by rfl) (hz : X.env.scope.names.lookup z = some .local := by rfl)
    (hw : swappedStores [.Tuple [.Name x px, .Name y py, .Name z pz] kt pt] (.Tuple [a, b, d] k2 pt2) X.env = pure (some [x, y, z]) := by rfl)
    (hs : swapsWithSole [.Tuple [.Name x px, .Name y py, .Name z pz] kt pt] (.Tuple [a, b, d] k2 pt2) pos.line X.env = pure false := by rfl) (s1 : starEach [a, b, d] X.env = (false, eval a X.env) :: starEach [b, d] X.env := by rfl) (s2 : starEach [b, d] X.env = (false, eval b X.env) :: starEach [d] X.env := by rfl) (s3 : starEach [d] X.env = (false, eval d X.env) :: starEach [] X.env := by rfl) :
    PS X (.Assign [.Tuple [.Name x px, .Name y py, .Name z pz] kt pt] (.Tuple [a, b, d] k2 pt2) pos) (tMS X.K (mPar3 i j l ma mb mc)) := by
  refine (ps_par3 hc hN hi hj hl hij hil hjl hx hy hz (sa_cons ha (sa_cons hb (sa_cons hd sa_nil s3) s2) s1) hw hs).imp fun D σ H h => ?_
  obtain ⟨sl, mh, as, N, rs, rh, h, k⟩ := h
  refine ⟨sl, mh, as, fun us mh2 => match us with | [u, w, z] => N.nx (((sl.set i (some u)).set j (some w)).set l (some z)) mh2 | _ => False, rs, rh, h, fun us mh1 p vs H1 as1 e r rh1 => ?_⟩
  cases r with
  | nil => exact p.elim
  | cons r1 r =>
    cases r with
    | nil => exact p.elim
    | cons r2 r =>
      cases r with
      | nil => exact p.elim
      | cons r3 r =>
        cases r with
        | cons _ _ => exact p.elim
        | nil => exact ⟨_, _, _, rfl, k.nx _ _ p _ _ _ e ((((rs.ev e).set i r1).set j r2).set l r3) rh1⟩
end Sm

/-! Subscripts as targets among others. -/
namespace Sm
open PySem PySem.Spec PyProof.Rows L2 Tk
variable [ZC]
section
variable {X : Cx} {pos : Pos} {ws : List Nat}
theorem sgv_sub {o i : Expr} {mo mi : ME} (hu : X.A.units + 1 < cLine) (ho : PE X o (tM X.K mo)) (hi : PE X i (tM X.K mi))
    (ha : ∀ v, assign (.Subscript o i pos) X.env v = (do
      let ov ← holding [v] (eval o X.env)
      let iv ← holding [v, ov] (eval i X.env)
      standAt pos
      holding [v, ov, iv] (setItem ov iv v)
      release [v, ov, iv] []) := by intro _; rfl) : PG X (.Subscript o i pos) (tMGv X.K ws (gSet mo mi)) := by
  refine (pg_sub ho hi (set_any hu) ha).imp fun v σ H Q h => ?_
  obtain ⟨u, sl, mh, as, P, r, rs, rh, h, k⟩ := h
  exact ⟨sl, mh, as, _, rs, rh, h, fun o' mh1 p x H1 as1 e1 r1 rh1 => ⟨sl, mh1, as1, _, rs.ev e1, rh1, p, fun i' mh2 p2 y H2 as2 e2 r2 rh2 => ⟨o', i', u, mh2, as2, _, r1.ev e2, r2, (r.ev e1).ev e2, rh2, p2, fun mh3 p3 H3 as3 e3 rh3 => k _ _ p3 _ _ _ ((e1.trans e2).trans e3) (((rs.ev e1).ev e2).ev e3) rh3 rfl⟩⟩⟩
end
end Sm

/-! Dict comprehensions, dicts walked under a lock, d.pop(k, x), sorted(set(..)). -/
namespace Sm
open PySem PySem.Spec PyProof.Rows L2 Tk
variable [ZC]
/-! ### dict comprehensions -/
def dcW (n : Nat) (chk : MH → Prop) (g : MG) (tt : MT) (ek ev : ME) (sl : Sl) (P : MK) : List U → List (Key × U) → MH → Prop
  | [] => fun acc mh => chk mh ∧ P (.ref n) mh
  | u :: us => fun acc mh => chk mh ∧ g u sl mh fun sl2 mh2 => tt sl2 mh2 fun b mh3 =>
    if b = true then ek sl2 mh3 fun y mh4 => ev sl2 mh4 fun z mh5 => ∃ k, uKey y = some k ∧ mh5[n]? = some (.dK acc) ∧ acc.length < sizeLine ∧ dcW n chk g tt ek ev sl P us (putU acc k z) (mh5.set n (.dK (putU acc k z)))
    else dcW n chk g tt ek ev sl P us acc mh3
def mDc (mi : MI) (g : MG) (tt : MT) (ek ev : ME) (vs : List Nat) : ME := fun sl mh P => mi sl mh fun items chk mh1 => dcW mh1.length chk g tt ek ev (wipeU sl vs) P items [] (mh1 ++ [.dK []])
section
variable {X : Cx}
theorem tm_dc {K : PySem.W.Frag} {mi : MI} {g : MG} {tt : MT} {ek ev : ME} {vs : List Nat} (σ : L2.St) (H : Hp) (Q : VK) (h : tM K (mDc mi g tt ek ev vs) σ H Q) : tDc (tMI K mi) (tMGv K vs g) (tMT K tt) (tM K ek) (tM K ev) vs σ H Q := by
  obtain ⟨sl, mh, as, P, rs, rh, h, k⟩ := h
  refine ⟨sl, mh, as, _, rs, rh, h, fun items chk mh1 p H1 as1 e1 rh1 J w D hD => ?_⟩
  have eN := RH.evNew (as := as1) (o := .dK []) hD
  have rhN := rh1.new (m := .dK []) hD (.dK .nil)
  have rsN := ((rs.ev e1).ev eN).wipe vs
  have eD : (as1 ++ [D])[mh1.length]? = some D := by rw [← rh1.len]; simp
  refine ⟨fun i m H' => ∃ acc mh' as', i + m = items.length ∧ Ev (as1 ++ [D]) (upd H1 D (.dK [])) as' H' ∧ RH K as' H' mh' ∧ dcW mh1.length chk g tt ek ev (wipeU sl vs) P (items.drop i) acc mh', ⟨items.length, [], _, _, by omega, .refl, rhN, p⟩, ?_⟩
  rintro i m H' ⟨acc, mh', as', him, e', rh', f⟩
  have eD' : as'[mh1.length]? = some D := by
    obtain ⟨t, rfl⟩ := e'.ap
    rw [List.getElem?_append_left (List.getElem?_eq_some_iff.mp eD).1]; exact eD
  cases q : items.drop i with
  | nil =>
    rw [q] at f
    have hi' : i = items.length := by
      have : items.length ≤ i := List.drop_eq_nil_iff.mp q
      omega
    subst hi'
    exact .inl ⟨w.stop _ _ _ (eN.trans e') rh' f.1, k _ _ f.2 _ _ _ ((e1.trans eN).trans e') (.ref eD') rh'⟩
  | cons u r =>
    rw [q] at f
    obtain ⟨hu, hr, hlt⟩ := drop_some q
    obtain ⟨g1, g2⟩ := w.go _ _ _ i u (eN.trans e') rh' f.1 hu
    refine .inr ⟨g1, fun H2 => ∃ acc mh' as', i + 1 + (m - 1) = items.length ∧ Ev (as1 ++ [D]) (upd H1 D (.dK [])) as' H2 ∧ RH K as' H2 mh' ∧ dcW mh1.length chk g tt ek ev (wipeU sl vs) P (items.drop (i + 1)) acc mh', fun H2 n => ⟨m - 1, by omega, n⟩, fun x H2 y => ?_⟩
    obtain ⟨as2, e2, rh2, rv⟩ := g2 x H2 y
    refine ⟨u, _, mh', as2, _, rv, (rsN.ev e').ev e2, rh2, f.2, fun sl3 mh3 p3 σ3 H3 as3 e3 rs3 rh3 w3 => ⟨w3.trans (wipe_wipe σ vs), ?_⟩⟩
    refine ⟨sl3, mh3, as3, _, rs3, rh3, p3, fun b mh4 p4 H4 as4 e4 rh4 => ?_⟩
    cases b with
    | false => exact ⟨acc, mh4, as4, by omega, ((e'.trans e2).trans e3).trans e4, rh4, by rw [hr]; exact p4⟩
    | true =>
      refine ⟨sl3, mh4, as4, _, rs3.ev e4, rh4, p4, fun y mh5 p5 v5 H5 as5 e5 r5 rh5 => ?_⟩
      refine ⟨sl3, mh5, as5, _, (rs3.ev e4).ev e5, rh5, p5, fun z mh6 p6 v6 H6 as6 e6 r6 rh6 => ?_⟩
      have ee := ((((e'.trans e2).trans e3).trans e4).trans e5).trans e6
      have eD6 : as6[mh1.length]? = some D := by
        obtain ⟨t, rfl⟩ := ee.ap
        rw [List.getElem?_append_left (List.getElem?_eq_some_iff.mp eD).1]; exact eD
      obtain ⟨kk, a4, a5, a6, a7⟩ := p6
      obtain ⟨vs5, h5, h6⟩ := rh6.dK a5 eD6
      have := uKey_rv r5 a4
      exact ⟨vs5, kk, this, h5, by rw [← Paired.length h6]; exact a6, putU acc kk z, _, as6, by omega, ee.trans (rh6.evPut a5 eD6), rh6.put a5 eD6 (.dK (putU_ok h6 r6)), by rw [hr]; exact a7⟩
theorem s_dc {kx vx tg iter : Expr} {ifs : List Expr} {scope : Scope} {own : List (Str × Nat)} {pos : Pos} {mi : MI} {g : MG} {tt : MT} {mk mv : ME} (hN : X.N.Nodup) (hi : PI X tg iter (tMI X.K mi)) (ok : BlkOk X.N X.env.scope scope own)
    (hg : ∀ (s : Shared) (H : Hp) (C : Addr) (cl : List (Str × Addr)) (fp : List Addr), PG (X.blk s H scope (compEnvC scope cl C X.env) fp) tg (tMGv X.K (own.map (·.2)) g)) (ht : ∀ (s : Shared) (H : Hp) (C : Addr) (cl : List (Str × Addr)) (fp : List Addr), PTs (X.blk s H scope (compEnvC scope cl C X.env) fp) ifs (tMT X.K tt))
    (hk : ∀ (s : Shared) (H : Hp) (C : Addr) (cl : List (Str × Addr)) (fp : List Addr), PE (X.blk s H scope (compEnvC scope cl C X.env) fp) kx (tM X.K mk))
    (he : ∀ (s : Shared) (H : Hp) (C : Addr) (cl : List (Str × Addr)) (fp : List Addr), PE (X.blk s H scope (compEnvC scope cl C X.env) fp) vx (tM X.K mv)) (hc : X.calm = true := by rfl) (hs : ∀ x, foldedSetIterable iter X.env x = pure x := by intro _; rfl) :
    PE X (.DictComp kx vx [⟨tg, iter, ifs, 0⟩] scope pos) (tM X.K (mDc mi g tt mk mv (own.map (·.2)))) := (pe_dc hc hN hi ok hg ht hk he hs).imp tm_dc
end
/-! ### d.pop(k, x) -/
def mPop2 (mo mk mx : ME) : ME := fun sl mh P => mo sl mh fun o mh1 => match o with
  | .ref n => (∃ kvs, mh1[n]? = some (.dK kvs)) ∧ mk sl mh1 fun kx mh2 => mx sl mh2 fun z mh3 => match mh3[n]?, uKey kx with
    | some (.dK kvs), some k => P ((valU kvs k).getD z) (mh3.set n (.dK (dropU kvs k)))
    | _, _ => False
  | _ => False
theorem valU_drop {kvs : List (Key × U)} {k : Key} (h : valU kvs k = none) : dropU kvs k = kvs := by
  unfold dropU
  rw [List.filter_eq_self]
  intro p hp
  by_cases e : p.1 = k
  · exfalso
    unfold valU at h
    rw [Option.map_eq_none_iff, List.find?_eq_none] at h
    exact h p hp (by simp [e])
  · simpa using e
theorem set_same {mh : MH} {n : Nat} {o : MO} (h : mh[n]? = some o) : mh.set n o = mh := by
  obtain ⟨hn, e⟩ := List.getElem?_eq_some_iff.mp h
  rw [← e]; exact List.set_getElem_self hn
section
variable {X : Cx} {o e f : Expr} {mo mk mx : ME} {apos cpos : Pos}
theorem s_pop2 (ho : PE X o (tM X.K mo)) (he : PE X e (tM X.K mk)) (hf : PE X f (tM X.K mx)) (m : L2.M2 X o "pop" apos e f cpos := by exact ⟨rfl, rfl, rfl, rfl⟩) : PE X (.Call (.Attribute o "pop" apos) [e, f] [] cpos) (tM X.K (mPop2 mo mk mx)) := by
  refine (pe_dpop2 ho he hf m).imp fun σ H Q h => ?_
  obtain ⟨sl, mh, as, P, rs, rh, h, k⟩ := h
  refine ⟨sl, mh, as, _, rs, rh, h, fun u mh1 p v H1 as1 e1 r rh1 => ?_⟩
  split at p
  · rename_i n
    obtain ⟨a, rfl, e0⟩ := r.of_ref
    obtain ⟨⟨kvs, q⟩, p⟩ := p
    obtain ⟨vs, h1, h2⟩ := rh1.dK q e0
    refine ⟨a, rfl, .inl ⟨vs, .inl h1⟩, sl, mh1, as1, _, rs.ev e1, rh1, p, fun kx mh2 p2 y H2 as2 e2 r2 rh2 => ⟨sl, mh2, as2, _, (rs.ev e1).ev e2, rh2, p2, fun z mh3 p3 w H3 as3 e3 r3 rh3 => ?_⟩⟩
    have e0' : as3[n]? = some a := by
      obtain ⟨t, rfl⟩ := (e2.trans e3).ap
      rw [List.getElem?_append_left (List.getElem?_eq_some_iff.mp e0).1]; exact e0
    split at p3
    · rename_i kvs3 kk q3 ek
      obtain ⟨vs3, g1, g2⟩ := rh3.dK q3 e0'
      obtain rfl := uKey_rv r2 ek
      have evp := rh3.evPut (o' := .dK (dropK vs3 kk)) q3 e0'
      have rhp := rh3.put (o' := .dK (dropK vs3 kk)) (m' := .dK (dropU kvs3 kk)) q3 e0' (.dK (dropU_ok g2))
      refine ⟨vs3, kk, g1, rfl, fun v hv => ?_, fun hv => ?_⟩
      · cases ev : valU kvs3 kk with
        | none => rw [valU_none g2 ev] at hv; cases hv
        | some u' =>
          rw [ev] at p3
          obtain ⟨v', g3, g4⟩ := valU_some g2 ev
          rw [hv] at g3
          cases g3
          exact k _ _ p3 _ _ _ (((e1.trans e2).trans e3).trans evp) (g4.ev evp) rhp
      · cases ev : valU kvs3 kk with
        | none =>
          rw [ev, valU_drop ev, set_same q3] at p3
          exact k _ _ p3 _ _ _ ((e1.trans e2).trans e3) r3 rh3
        | some u' =>
          obtain ⟨v', g3, g4⟩ := valU_some g2 ev
          rw [hv] at g3; cases g3
    · exact p3.elim
  · exact p.elim
end
/-! ### paths: names, fields, entries -/
inductive Pth where
  | var (i : Nat) | fld (Cs : List Addr) (f : Str) (p : Pth) | key (x : Str) (p : Pth)
def pev : Pth → Sl → MH → Option U
  | .var i, sl, mh => (sl[i]?).join
  | .fld Cs f p, sl, mh => match pev p sl mh with
    | some (.ref n) => match mh[n]? with
      | some (.ins C fs) => if C ∈ Cs then fs.lookup f else none
      | _ => none
    | _ => none
  | .key x p, sl, mh => match pev p sl mh with
    | some (.ref n) => match mh[n]? with
      | some (.dK kvs) => valU kvs (.inr x)
      | _ => none
    | _ => none
def mP (p : Pth) : ME := fun sl mh P => match pev p sl mh with | some u => P u mh | none => False
section
variable {X : Cx}
theorem tM_imp {K : PySem.W.Frag} {m m' : ME} (h : ∀ sl mh P, m' sl mh P → m sl mh P) : ∀ σ H Q, tM K m' σ H Q → tM K m σ H Q := fun _ _ _ ⟨sl, mh, as, P, rs, rh, q, k⟩ => ⟨sl, mh, as, P, rs, rh, h _ _ _ q, k⟩
theorem s_pvar {i : Nat} {x : Str} {pos : Pos} (hN : X.N[i]? = some x := by rfl) (hv : Vis X.env.scope x := by first | exact .inl rfl | exact .inr (.inl rfl) | exact .inr (.inr rfl)) (hd : (x == ("__debug__" : Str)) = false := by decide) (hcd : (x == ("__classdict__" : Str)) = false := by decide) : PE X (.Name x pos) (tM X.K (mP (.var i))) :=
  (s_var hN hv hd hcd).imp (tM_imp fun sl mh P h => by
    unfold mP pev at h
    unfold mVar
    cases e : sl[i]? with
    | none => rw [e] at h; exact h
    | some o => cases o with
      | none => rw [e] at h; exact h
      | some u => rw [e] at h; exact h)
theorem s_pfld {e : Expr} {f : Str} {p : Pth} {Cs : List Addr} {pos : Pos} (F : Flds X.K Cs f) (he : PE X e (tM X.K (mP p))) (hb : attributeBase e f X.env (eval e X.env) = eval e X.env := by rfl) : PE X (.Attribute e f pos) (tM X.K (mP (.fld Cs f p))) :=
  (s_fld F he hb).imp (tM_imp fun sl mh P h => by
    unfold mP pev at h
    unfold mUn mP uFld
    cases e : pev p sl mh with
    | none => rw [e] at h; exact h
    | some u =>
      rw [e] at h
      cases u with
      | ref n =>
        dsimp only at h ⊢
        cases e2 : mh[n]? with
        | none => rw [e2] at h; exact h
        | some o => cases o with
          | ins C fs =>
            rw [e2] at h
            dsimp only at h ⊢
            by_cases hC : C ∈ Cs
            · rw [if_pos hC] at h; exact ⟨hC, h⟩
            · rw [if_neg hC] at h; exact h.elim
          | lst us => rw [e2] at h; exact h
          | dK us => rw [e2] at h; exact h
          | lk us => rw [e2] at h; exact h
      | _ => exact h.elim)
theorem s_pkey {e : Expr} {x : Str} {j : Nat} {p : Pth} {pos p2 : Pos} (hu : X.A.units + 1 < cLine) (he : PE X e (tM X.K (mP p))) (hs : PlainIx (.Constant (.str x) j p2) := by intro _ _; rfl) : PE X (.Subscript e (.Constant (.str x) j p2) pos) (tM X.K (mP (.key x p))) :=
  (s_ix hu he s_str hs).imp (tM_imp fun sl mh P h => by
    unfold mP pev at h
    unfold mBin mP mC uIx
    cases e : pev p sl mh with
    | none => rw [e] at h; exact h
    | some u =>
      rw [e] at h
      cases u with
      | ref n =>
        dsimp only at h ⊢
        cases e2 : mh[n]? with
        | none => rw [e2] at h; exact h
        | some o => cases o with
          | dK kvs =>
            rw [e2] at h
            dsimp only [uKey] at h ⊢
            exact h
          | lst us => rw [e2] at h; exact h
          | ins C us => rw [e2] at h; exact h
          | lk us => rw [e2] at h; exact h
      | _ => exact h.elim)
end
/-! ### a dict locked while it is walked -/
def mLk (p : Pth) (m : ME) : ME := fun sl mh P => match pev p sl mh with
  | some (.ref n) => match mh[n]? with
    | some (.dK kvs) => m sl (mh.set n (.lk kvs)) fun v mh' => P v (mh'.set n (.dK kvs))
    | _ => False
  | _ => False
def mLkS (p : Pth) (s : MS) : MS := fun N sl mh => match pev p sl mh with
  | some (.ref n) => match mh[n]? with
    | some (.dK kvs) => s ⟨fun sl mh' => N.nx sl (mh'.set n (.dK kvs)), fun v mh' => N.rt v (mh'.set n (.dK kvs)), fun sl mh' => N.bk sl (mh'.set n (.dK kvs)), fun sl mh' => N.ct sl (mh'.set n (.dK kvs))⟩ sl (mh.set n (.lk kvs))
    | _ => False
  | _ => False
def lkI (f : List (Key × U) → List U) (p : Pth) : MI := fun sl mh R => match pev p sl mh with
  | some (.ref n) => match mh[n]? with
    | some (.lk kvs) => R (f kvs) (fun _ => True) mh
    | _ => False
  | _ => False
def valsU (kvs : List (Key × U)) : List U := kvs.map (·.2)
def itemsU (kvs : List (Key × U)) : List U := kvs.map fun kv => .tup [keyU kv.1, kv.2]
section
variable {K : PySem.W.Frag}
theorem keyU_rv {as : List Addr} {H : Hp} (k : Key) : RV K as H (keyU k) (kV k) := by
  cases k with
  | inl i => exact .int _
  | inr x => exact .str _
theorem RV.unl {as : List Addr} {H : Hp} {a : Addr} {od : Obj} {ws : List (Key × V)} (hf : H a = some (.frz od (.dK ws))) {u : U} {v : V} (r : RV K as H u v) : RV K as (upd H a (.dK ws)) u v := by
  have ne : ∀ {b : Addr} {o : HO}, H b = some o → (∀ od ws, o ≠ .frz od (.dK ws)) → (upd H a (.dK ws)) b = some o := fun {b o} hb n => by
    have : b ≠ a := fun z => by subst z; rw [hf] at hb; cases hb; exact n _ _ rfl
    rw [upd_ne this]; exact hb
  induction r with
  | non => exact .non
  | bl b => exact .bl b
  | int i => exact .int i
  | str x => exact .str x
  | tup h1 h2 _ ih =>
    refine .tup ?_ h2 ih
    rcases h1 with (h | ⟨o, h⟩) | h
    · exact .inl (.inl (ne h (fun _ _ z => by cases z)))
    · exact .inl (.inr ⟨o, ne h (fun _ _ z => by cases z)⟩)
    · exact .inr h
  | fz h1 h2 _ ih =>
    refine .fz ?_ h2 ih
    rcases h1 with ⟨o, h⟩ | h
    · exact .inl ⟨o, ne h (fun _ _ z => by cases z)⟩
    · exact .inr h
  | ref h => exact .ref h
  | ob a => exact .ob a
theorem RO.unl {as : List Addr} {H : Hp} {a : Addr} {od : Obj} {ws : List (Key × V)} (hf : H a = some (.frz od (.dK ws))) {u : MO} {v : HO} (r : RO K as H u v) : RO K as (upd H a (.dK ws)) u v := by
  cases r with
  | lst h => exact .lst (Paired.mapP h fun _ _ q => q.unl hf)
  | dK h => exact .dK (Paired.mapP h fun _ _ q => ⟨q.1, q.2.unl hf⟩)
  | ins h => exact .ins (Paired.mapP h fun _ _ q => ⟨q.1, q.2.unl hf⟩)
  | lk h => exact .lk (Paired.mapP h fun _ _ q => ⟨q.1, q.2.unl hf⟩)
/-- from a lock to its end -/
theorem lk_end {as as' : List Addr} {H H' : Hp} {mh mh' : MH} {n : Nat} {a : Addr} {od : Obj} {kvs : List (Key × U)} {ws : List (Key × V)} (rh : RH K as H mh) (e0 : as[n]? = some a) (hd : H a = some (.dK ws)) (pr : Paired (RKv K as H) kvs ws)
    (e : Ev as (upd H a (.frz od (.dK ws))) as' H') (rh' : RH K as' H' mh') : H' a = some (.frz od (.dK ws)) ∧ Ev as H as' (upd H' a (.dK ws)) ∧ RH K as' (upd H' a (.dK ws)) (mh'.set n (.dK kvs)) := by
  have hf : H' a = some (.frz od (.dK ws)) := e.pe _ _ upd_same rfl
  have ev : Ev as H as' (upd H' a (.dK ws)) := ⟨e.ap, fun b o hb im => by
    have ne : b ≠ a := fun z => by subst z; rw [hd] at hb; cases hb; cases im
    rw [upd_ne ne]
    exact e.pe _ _ (by rw [upd_ne ne]; exact hb) im⟩
  have ea : as'[n]? = some a := by
    obtain ⟨t, rfl⟩ := e.ap
    rw [List.getElem?_append_left (List.getElem?_eq_some_iff.mp e0).1]; exact e0
  refine ⟨hf, ev, by simp [rh'.len], rh'.nd, fun j o b h1 h2 => ?_, fun as2 H2 h => rh.cz as2 H2 (ev.trans h)⟩
  by_cases ij : n = j
  · subst ij
    have hl : n < mh'.length := by
      have := (List.getElem?_eq_some_iff.mp h1).1
      simpa using this
    rw [List.getElem?_set_self hl] at h1
    cases h1
    rw [ea] at h2
    cases h2
    exact ⟨_, upd_same, .dK (Paired.mapP pr fun _ _ q => ⟨q.1, q.2.ev ev⟩)⟩
  · rw [List.getElem?_set_ne ij] at h1
    obtain ⟨ho, h3, h4⟩ := rh'.at_ j o b h1 h2
    have ne : b ≠ a := fun z => by
      subst z
      exact ij (ndIx rh'.nd ea h2)
    exact ⟨ho, by rw [upd_ne ne]; exact h3, h4.unl hf⟩
theorem wlk_vals {as0 : List Addr} {H0 : Hp} {a : Addr} {od : Obj} {kvs : List (Key × U)} {ws : List (Key × V)} (hf : H0 a = some (.frz od (.dK ws))) (pr : Paired (RKv K as0 H0) kvs ws) : Wlk K as0 H0 (Itd a od ws) (valsU kvs) fun _ => True := by
  refine ⟨fun as H mh i u e R c hu => ?_, fun as H mh e R c => ⟨e.pe _ _ hf rfl, by simp [valsU, Paired.length pr]⟩⟩
  unfold valsU at hu
  rw [List.getElem?_map, Option.map_eq_some_iff] at hu
  obtain ⟨p, hp, rfl⟩ := hu
  obtain ⟨q, hq, h1, h2⟩ := prd_get pr hp
  refine ⟨⟨e.pe _ _ hf rfl, (List.getElem?_eq_some_iff.mp hq).1⟩, fun x H' y => ?_⟩
  obtain ⟨rfl, k, y⟩ := y
  rw [hq] at y
  cases y
  exact ⟨as, .refl, R, h2.ev e⟩
theorem wlk_keys {as0 : List Addr} {H0 : Hp} {a : Addr} {od : Obj} {kvs : List (Key × U)} {ws : List (Key × V)} (hf : H0 a = some (.frz od (.dK ws))) (pr : Paired (RKv K as0 H0) kvs ws) : Wlk K as0 H0 (Itk a od ws) (keysU kvs) fun _ => True := by
  refine ⟨fun as H mh i u e R c hu => ?_, fun as H mh e R c => ⟨e.pe _ _ hf rfl, by simp [keysU, Paired.length pr]⟩⟩
  unfold keysU at hu
  rw [List.getElem?_map, Option.map_eq_some_iff] at hu
  obtain ⟨p, hp, rfl⟩ := hu
  obtain ⟨q, hq, h1, h2⟩ := prd_get pr hp
  refine ⟨⟨e.pe _ _ hf rfl, (List.getElem?_eq_some_iff.mp hq).1⟩, fun x H' y => ?_⟩
  obtain ⟨rfl, k, v, y, rfl⟩ := y
  rw [hq] at y
  cases y
  rw [h1]
  exact ⟨as, .refl, R, keyU_rv _⟩
theorem wlk_items {as0 : List Addr} {H0 : Hp} {a : Addr} {od : Obj} {kvs : List (Key × U)} {ws : List (Key × V)} (hf : H0 a = some (.frz od (.dK ws))) (pr : Paired (RKv K as0 H0) kvs ws) : Wlk K as0 H0 (Iti a od ws) (itemsU kvs) fun _ => True := by
  refine ⟨fun as H mh i u e R c hu => ?_, fun as H mh e R c => ⟨e.pe _ _ hf rfl, by simp [itemsU, Paired.length pr]⟩⟩
  unfold itemsU at hu
  rw [List.getElem?_map, Option.map_eq_some_iff] at hu
  obtain ⟨p, hp, rfl⟩ := hu
  obtain ⟨q, hq, h1, h2⟩ := prd_get pr hp
  refine ⟨⟨e.pe _ _ hf rfl, (List.getElem?_eq_some_iff.mp hq).1⟩, fun x H' y => ?_⟩
  obtain ⟨T, k, v, y, rfl, hT, rfl⟩ := y
  rw [hq] at y
  cases y
  have ev := RH.evGrow (as := as) (o := .tup [kV k, v]) hT
  exact ⟨as, ev, R.grow hT, RV.tups (SqT.of upd_same) (.cons (by rw [h1]; exact keyU_rv _) (.cons ((h2.ev e).ev ev) .nil))⟩
end
section
variable {X : Cx}
theorem s_lk {e : Expr} {p : Pth} {m : ME} (h : PE X e (tM X.K m)) : PE X e (tM X.K (mLk p m)) := by
  refine (pe_lock h).imp fun σ H Q h => ?_
  obtain ⟨sl, mh, as, P, rs, rh, h, k⟩ := h
  unfold mLk at h
  split at h
  · rename_i n ep
    split at h
    · rename_i kvs en
      have hn : n < as.length := by rw [rh.len]; exact (List.getElem?_eq_some_iff.mp en).1
      have e0 : as[n]? = some as[n] := List.getElem?_eq_getElem hn
      obtain ⟨ws, h1, h2⟩ := rh.dK en e0
      refine ⟨as[n], .dK ws, h1, trivial, fun od => ?_⟩
      have e1 := rh.evPut (o' := .frz od (.dK ws)) en e0
      have rh1 := rh.put (o' := .frz od (.dK ws)) (m' := .lk kvs) en e0 (.lk h2)
      refine ⟨sl, _, as, _, rs.ev e1, rh1, h, fun u mh' q v H' as' e r rh' => ?_⟩
      obtain ⟨g1, g2, g3⟩ := lk_end rh e0 h1 h2 e rh'
      exact ⟨g1, k _ _ q _ _ _ g2 (r.unl g1) g3⟩
    · exact h.elim
  · exact h.elim
theorem sp_lk {st : Stmt} {p : Pth} {s : MS} (h : PS X st (tMS X.K s)) : PS X st (tMS X.K (mLkS p s)) := by
  refine (ps_lock h).imp fun D σ H h => ?_
  obtain ⟨sl, mh, as, N, rs, rh, h, k⟩ := h
  unfold mLkS at h
  split at h
  · rename_i n ep
    split at h
    · rename_i kvs en
      have hn : n < as.length := by rw [rh.len]; exact (List.getElem?_eq_some_iff.mp en).1
      have e0 : as[n]? = some as[n] := List.getElem?_eq_getElem hn
      obtain ⟨ws, h1, h2⟩ := rh.dK en e0
      refine ⟨as[n], .dK ws, h1, trivial, fun od => ?_⟩
      have e1 := rh.evPut (o' := .frz od (.dK ws)) en e0
      have rh1 := rh.put (o' := .frz od (.dK ws)) (m' := .lk kvs) en e0 (.lk h2)
      have rsu : ∀ {sl' : Sl} {σ' : L2.St} {as' : List Addr} {H' : Hp}, H' as[n] = some (.frz od (.dK ws)) → RS X.K as' H' sl' σ' → RS X.K as' (upd H' as[n] (.dK ws)) sl' σ' := fun hf r => ⟨r.len, fun i u q => by
        obtain ⟨v, h1, h2⟩ := r.at_ i u q
        exact ⟨v, h1, h2.unl hf⟩⟩
      refine ⟨sl, _, as, _, rs.ev e1, rh1, h, ⟨fun sl' mh' q σ' H' as' e r rh' => ?_, fun u mh' q v H' as' e r rh' => ?_, fun sl' mh' q σ' H' as' e r rh' => ?_, fun sl' mh' q σ' H' as' e r rh' => ?_⟩⟩
      · obtain ⟨g1, g2, g3⟩ := lk_end rh e0 h1 h2 e rh'
        exact ⟨g1, k.nx _ _ q _ _ _ g2 (rsu g1 r) g3⟩
      · obtain ⟨g1, g2, g3⟩ := lk_end rh e0 h1 h2 e rh'
        exact ⟨g1, k.rt _ _ q _ _ _ g2 (r.unl g1) g3⟩
      · obtain ⟨g1, g2, g3⟩ := lk_end rh e0 h1 h2 e rh'
        exact ⟨g1, k.bk _ _ q _ _ _ g2 (rsu g1 r) g3⟩
      · obtain ⟨g1, g2, g3⟩ := lk_end rh e0 h1 h2 e rh'
        exact ⟨g1, k.ct _ _ q _ _ _ g2 (rsu g1 r) g3⟩
    · exact h.elim
  · exact h.elim
theorem tmi_lk {K : PySem.W.Frag} {f : List (Key × U) → List U} {p : Pth} {J : Addr → Obj → List (Key × V) → It} (w : ∀ {as0 : List Addr} {H0 : Hp} {a : Addr} {od : Obj} {kvs : List (Key × U)} {ws : List (Key × V)}, H0 a = some (.frz od (.dK ws)) → Paired (RKv K as0 H0) kvs ws → Wlk K as0 H0 (J a od ws) (f kvs) fun _ => True)
    {σ : L2.St} {H : Hp} {R : It → Hp → Prop} (h : tMI K (lkI f p) σ H R) : tM K (mP p) σ H fun x H1 => ∃ d o kvs, x = .ref d ∧ H1 d = some (.frz o (.dK kvs)) ∧ R (J d o kvs) H1 := by
  obtain ⟨sl, mh, as, P, rs, rh, h, k⟩ := h
  unfold lkI at h
  split at h
  · rename_i n ep
    split at h
    · rename_i kvs en
      refine ⟨sl, mh, as, fun u mh1 => u = .ref n ∧ mh1 = mh, rs, rh, by unfold mP; rw [ep]; exact ⟨rfl, rfl⟩, fun u mh1 q v H' as' e r rh' => ?_⟩
      obtain ⟨rfl, rfl⟩ := q
      obtain ⟨a, rfl, e0⟩ := r.of_ref
      obtain ⟨o, ws, h1, h2⟩ := rh'.lk en e0
      exact ⟨a, o, ws, rfl, h1, k _ _ _ h _ _ e rh' _ (w h1 h2)⟩
    · exact h.elim
  · exact h.elim
theorem si_vals {tg e : Expr} {p : Pth} {apos cpos : Pos} (he : PE X e (tM X.K (mP p))) (hbase : attributeBase e "values" X.env (eval e X.env) = eval e X.env := by rfl) (hline : (apos.endLine == cpos.line) = true := by rfl) : PI X tg (.Call (.Attribute e "values" apos) [] [] cpos) (tMI X.K (lkI valsU p)) :=
  ⟨fun pins s σ H R I h => (pi_values he hbase hline).run pins s σ H R I (tmi_lk (J := Itd) wlk_vals h)⟩
theorem si_keysM {tg e : Expr} {p : Pth} {apos cpos : Pos} (he : PE X e (tM X.K (mP p))) (hbase : attributeBase e "keys" X.env (eval e X.env) = eval e X.env := by rfl) (hline : (apos.endLine == cpos.line) = true := by rfl) : PI X tg (.Call (.Attribute e "keys" apos) [] [] cpos) (tMI X.K (lkI keysU p)) :=
  ⟨fun pins s σ H R I h => (pi_keysM he hbase hline).run pins s σ H R I (tmi_lk (J := Itk) wlk_keys h)⟩
theorem si_items {e : Expr} {p : Pth} {elts : List Expr} {kk : Nat} {tpos apos cpos : Pos} (he : PE X e (tM X.K (mP p))) (hbase : attributeBase e "items" X.env (eval e X.env) = eval e X.env := by rfl) (hline : (apos.endLine == cpos.line) = true := by rfl) : PI X (.Tuple elts kk tpos) (.Call (.Attribute e "items" apos) [] [] cpos) (tMI X.K (lkI itemsU p)) :=
  ⟨fun pins s σ H R I h => (pi_items he hbase hline).run pins s σ H R I (tmi_lk (J := Iti) wlk_items h)⟩
theorem si_keys {tg e : Expr} {p : Pth} (he : PE X e (tM X.K (mP p))) : PI X tg e (tMI X.K (lkI keysU p)) := by
  refine ⟨fun pins s σ H R I h => (pi_keys (he.imp (t' := fun σ H Q => ∃ R, (∀ x H1, (∃ d o kvs, x = .ref d ∧ H1 d = some (.frz o (.dK kvs)) ∧ R (Itk d o kvs) H1) → Q x H1) ∧ tMI X.K (lkI keysU p) σ H R) fun σ H Q h => ?_)).run pins s σ H R I ?_⟩
  · obtain ⟨R, hR, h⟩ := h
    obtain ⟨sl, mh, as, P, rs, rh, q, k⟩ := tmi_lk (J := Itk) wlk_keys h
    exact ⟨sl, mh, as, P, rs, rh, q, fun u mh' p v H' as' e r rh' => hR _ _ (k u mh' p v H' as' e r rh')⟩
  · exact ⟨R, fun x H1 ⟨d, o, kvs, h1, h2, h3⟩ => ⟨d, o, h1, .inl ⟨kvs, h2, h3⟩⟩, h⟩
end
/-! ### sorted(set(t)) of a tuple of ints -/
def sortS (ns : List Int) : List Int := (sortI ns).eraseDups
def uSortSet : M1 := fun u mh P => match u with
  | .tup us => match intsU us with
    | some ns => ns.length < 64 ∧ ∀ ms : List Int, ms.Pairwise (· < ·) → (∀ k, k ∈ ms ↔ k ∈ ns) → P (.ref mh.length) (mh ++ [.lst (ms.map U.int)])
    | none => False
  | _ => False
section
variable {X : Cx}
def rSetT (K : PySem.W.Frag) (w : World) : List V → Hp → VK → Prop := fun vs H Q => ∃ (a : Addr) (ns : List Int), vs = [.ref a] ∧ SqT K H a (ns.map V.int) ∧ ns.length < 64 ∧ ∀ p c, H p = none → c ≤ ns.length → Q (.ref p) (upd H p (SetO w p (fun j => decide (j ∈ ns)) c))
theorem cr_setT (hc : X.calm = true) : CallR X (.type "set") (rSetT X.K X.w) := by
  intro pins s σ H vs us Q I r h
  obtain ⟨a, ns, rfl, hs, hl, q⟩ := h
  obtain rfl := Vals.ref1 r
  obtain ⟨its, rv, hq, hz⟩ := I.tuple hs
  refine call_set_tupI ns (I.ok.hd hc) hq (by simpa using rv.ints) (Nat.lt_of_lt_of_le (show ns.length + 1 < 100 by omega) (by decide)) fun h' tk c R hc' hk => ?_
  exact ⟨.ref _, upd H s.heap.objs.size (SetO X.w s.heap.objs.size (fun j => decide (j ∈ ns)) c), I.laid (t' := tk) (fun b u e => hk b u e) (Nat.le_refl _) (setO_new R), rfl, q _ _ (I.hok.fresh (Nat.le_refl _)) hc'⟩
theorem s_sortSet {e : Expr} {m : ME} {p p2 pos pos2 : Pos} (hm1 : X.mg "sorted" = none) (hm2 : X.mg "set" = none) (he : PE X e (tM X.K m)) (hc : X.calm = true := by rfl) (hg : Gl X "sorted" := by rfl) (hg2 : Gl X "set" := by rfl)
    (na : starEach [e] X.env = (false, eval e X.env) :: starEach [] X.env := by rfl) (na2 : starEach [.Call (.Name "set" p2) [e] [] pos2] X.env = (false, eval (.Call (.Name "set" p2) [e] [] pos2) X.env) :: starEach [] X.env := by rfl)
    (hv : bootBuiltins "sorted" = some (.builtin "sorted") := by decide +kernel) (hv2 : bootBuiltins "set" = some (.type "set") := by decide +kernel) :
    PE X (.Call (.Name "sorted" p) [.Call (.Name "set" p2) [e] [] pos2] [] pos) (tM X.K (mUn uSortSet m)) := by
  have h2 := pe_callTy (p := p2) (pos := pos2) (cr_setT hc) hg2 hm2 hv2 (pa_cons he pa_nil na) (he := na)
  refine (pe_callB (cr_sortedSet hc) hg hm1 hv (pa_cons h2 pa_nil na2) (he := na2)).imp fun σ H Q h => ?_
  obtain ⟨sl, mh, as, P, rs, rh, h, k⟩ := h
  refine ⟨sl, mh, as, _, rs, rh, h, fun u mh1 q v H1 as1 e1 r rh1 => ?_⟩
  unfold uSortSet at q
  split at q
  · rename_i us
    obtain ⟨a, vs, rfl, h1, h2⟩ := r.of_tup
    split at q
    · rename_i ns en
      obtain rfl := intsU_ok h2 en
      refine ⟨a, ns, rfl, h1, q.1, fun p c hp hcl => ?_⟩
      refine ⟨p, fun j => decide (j ∈ ns), c, rfl, upd_same, by omega, fun ms p' hs hmem _ hp' => ?_⟩
      have rhG := rh1.grow (o := SetO X.w p (fun j => decide (j ∈ ns)) c) hp
      have eG := RH.evGrow (as := as1) (o := SetO X.w p (fun j => decide (j ∈ ns)) c) hp
      exact k _ _ (q.2 ms hs fun j => by rw [hmem j]; simp) _ _ _ ((e1.trans eG).trans (RH.evNew hp')) (.ref (by rw [← rh1.len]; simp)) (rhG.new hp' (.lst (intsU_rv ms)))
    · exact q.elim
  · exact q.elim
end
end Sm

/-! C(k = v, ..): a new instance, then __init__, by keywords alone. -/
namespace Sm
open PySem PySem.Spec PyProof.Rows L2 Tk
variable [ZC]
def mMakeK (C : Addr) (np : Nat) (is : List Nat) (nk : Nat) (F : MF) (mk : MA) : ME := fun sl mh P => mk sl mh fun ws mh1 => ws.length = nk ∧ (pk is ws).length + 1 = np ∧ F (.ref mh1.length :: pk is ws) (mh1 ++ [.ins C []]) fun u mh2 => u = .non ∧ P (.ref mh1.length) mh2
section
variable {X : Cx}
theorem s_makeK {C : Addr} {k np nk : Nat} {is : List Nat} {ps ks : List Str} {F : MF} {mk : MA} {x : Str} {p pos : Pos} {j : Nat} {kws : List Keyword} (D : ICalG X.prog X.w X.K X.mg X.base C k ps (spM X.K np F)) (hb : KB X.K D.fd ps 1 ks is) (hm : X.mg x = some (.ref C)) (hr : Room j X.A) (hgd : X.A.guards = some []) (hkw : PK X kws (tMA X.K mk)) (hj : k + 1 ≤ j := by decide) (hnk : ks.length = nk := by rfl) (hg : Gl X x := by rfl)
    (hall : (backToKw pos (keywordEach kws X.env)).all (·.1.isSome) = true := by rfl) (hks : (backToKw pos (keywordEach kws X.env)).filterMap (·.1) = ks := by rfl) (hdb : (x == ("__debug__" : Str)) = false := by decide)
    (hpl : ((backTo pos (starEach [] X.env)).any (·.1) || (backToKw pos (keywordEach kws X.env)).any (·.1.isNone)) = false := by rfl) :
    PE X (.Call (.Name x p) [] kws pos) (tM X.K (mMakeK C np is nk F mk)) := by
  subst hnk
  refine ⟨fun pins s σ H Q I h => ?_⟩
  obtain ⟨sl, mh, as, P, rs, rh, h, kk⟩ := h
  refine wpAny_Call_Name_kw (ld_glob I hg hm ?_ hdb)
  refine PySem.W.callWith_KW0 (h₀ := X.base) I.ok.mod.kin D.mkC.kp hall (thn (hkw.run pos pins s σ H (fun zs H1 => ∃ ws mh1 as1, Ev as H as1 H1 ∧ RVs X.K as1 H1 ws zs ∧ RH X.K as1 H1 mh1 ∧ ws.length = ks.length ∧ (pk is ws).length + 1 = np ∧ F (.ref mh1.length :: pk is ws) (mh1 ++ [.ins C []]) fun u mh2 => u = .non ∧ P (.ref mh1.length) mh2) I ⟨sl, mh, as, _, rs, rh, h, fun ws mh1 p zs H1 as1 e1 r rh1 => ⟨ws, mh1, as1, e1, r, rh1, p⟩⟩) fun us s1 ⟨zs, H1, I1, rz, ws', mh1, as1, e1, r1, rh1, lz, hl, p1⟩ => ⟨I1.kIn, ?_⟩) hpl
  rw [hks]
  have hx : H1 (s1.heap.objs.size + 1) = none := I1.hok.fresh (Nat.le_succ _)
  have hdx : H1 s1.heap.objs.size = none := I1.hok.fresh (Nat.le_refl _)
  have hne : s1.heap.objs.size ≠ s1.heap.objs.size + 1 := Nat.ne_of_lt (Nat.lt_succ_self _)
  have I2 := Inv.made (C := C) I1
  have eG := RH.evGrow (as := as1) (o := .own (s1.heap.objs.size + 1)) hdx
  have rhG := rh1.grow (o := .own (s1.heap.objs.size + 1)) hdx
  have hx2 : (upd H1 s1.heap.objs.size (.own (s1.heap.objs.size + 1))) (s1.heap.objs.size + 1) = none := by rw [upd_ne hne.symm]; exact hx
  have eN := RH.evNew (as := as1) (o := .ins C s1.heap.objs.size []) hx2
  have rhN := rhG.new (m := .ins C []) (o := .ins C s1.heap.objs.size []) hx2 (.ins .nil)
  have er : (as1 ++ [s1.heap.objs.size + 1])[mh1.length]? = some (s1.heap.objs.size + 1) := by rw [← rh1.len]; simp
  have ee := eG.trans eN
  have hq : spM X.K np F (.ref (s1.heap.objs.size + 1) :: pk is zs) (upd (upd H1 s1.heap.objs.size (.own (s1.heap.objs.size + 1))) (s1.heap.objs.size + 1) (.ins C s1.heap.objs.size [])) (fun v H2 => v = .non ∧ Q (.ref (s1.heap.objs.size + 1)) H2) E0 := by
    refine ⟨by rw [List.length_cons, ← Paired.length (prd_pk is r1)]; exact hl, _, _, _, _, .cons (.ref er) (prd_pk is (RVs.ev ee r1)), rhN, p1, fun u mh2 p v H2 as2 e2 r2 rh2 => ?_⟩
    obtain ⟨rfl, p⟩ := p
    cases r2
    exact ⟨rfl, kk _ _ p _ _ _ ((e1.trans ee).trans e2) ((RV.ref er).ev e2) rh2⟩
  have rs1 : Vals [V.ref (s1.heap.objs.size + 1)] [Value.ref (s1.heap.objs.size + 1)] := .cons rfl .nil
  have r2 := hb.rel rs1 rz
  have l2 : us.length = ks.length := by rw [← rz.length, ← Paired.length r1]; exact lz
  refine wpAny_call (make_map (f := D.f) I1.kIn D.mkC.makes D.mkC.init (beq_iff_eq.mp D.mkC.fn) (codeAny_mono (D.ok.run _ X.stack _ _ ⟨[Value.ref (s1.heap.objs.size + 1)], ks.zip us⟩ ([Value.ref (s1.heap.objs.size + 1)] ++ pk is us) _ _ E0 ((hr.mono hj).make C [] (ks.zip us))
    hgd (I2.env0.make C [] (ks.zip us)) (hb.to _ [Value.ref (s1.heap.objs.size + 1)] us I2.kIn rfl l2) r2 hq) fun r s' hq' => ?_))
  cases r with
  | error e => exact pass0 pins σ _ _ e s' I2 hq'
  | ok fl =>
    cases fl with
    | ret u =>
      obtain ⟨v, H', I3, rv, ev, q3⟩ := I2.after hq'
      subst ev
      exact ⟨rv, ⟨V.ref (s1.heap.objs.size + 1), H', I3, rfl, q3⟩⟩
    | next => exact False.elim hq'
    | brk => exact False.elim hq'
    | cont => exact False.elim hq'
end
end Sm

namespace Tk13
open PySem PySem.Spec PyProof.Rows L2 Tk Sm
def top (i : Nat) : Stmt := PySem.Challenge.pw_trailkeep_k13_whole_cuts_lose_keep_and_t.main.body.getD i (.Pass ⟨0, 0, 0, 0⟩)
abbrev S_BadSize___init__ : Stmt := inClass (top 3) 0
theorem sc_BadSize___init__ : FnScope ["self", "thing"] ["self", "thing"] (defScope S_BadSize___init__) := ⟨rfl, rfl, rfl, by decide +kernel, rfl, by decide +kernel, by decide +kernel⟩
abbrev S_BadPlace___init__ : Stmt := inClass (top 4) 0
theorem sc_BadPlace___init__ : FnScope ["self", "thing"] ["self", "thing"] (defScope S_BadPlace___init__) := ⟨rfl, rfl, rfl, by decide +kernel, rfl, by decide +kernel, by decide +kernel⟩
abbrev S_BadBlock___init__ : Stmt := inClass (top 5) 0
theorem sc_BadBlock___init__ : FnScope ["self", "thing"] ["self", "thing"] (defScope S_BadBlock___init__) := ⟨rfl, rfl, rfl, by decide +kernel, rfl, by decide +kernel, by decide +kernel⟩
abbrev S_PowerCut___init__ : Stmt := inClass (top 6) 0
theorem sc_PowerCut___init__ : FnScope ["self"] ["self"] (defScope S_PowerCut___init__) := ⟨rfl, rfl, rfl, by decide +kernel, rfl, by decide +kernel, by decide +kernel⟩
abbrev S_BadCut___init__ : Stmt := inClass (top 7) 0
theorem sc_BadCut___init__ : FnScope ["self", "thing"] ["self", "thing"] (defScope S_BadCut___init__) := ⟨rfl, rfl, rfl, by decide +kernel, rfl, by decide +kernel, by decide +kernel⟩
abbrev S_BadNumber___init__ : Stmt := inClass (top 8) 0
theorem sc_BadNumber___init__ : FnScope ["self", "thing"] ["self", "thing"] (defScope S_BadNumber___init__) := ⟨rfl, rfl, rfl, by decide +kernel, rfl, by decide +kernel, by decide +kernel⟩
abbrev S_is_integer : Stmt := top 12
theorem sc_is_integer : FnScope ["thing"] ["thing"] (defScope S_is_integer) := ⟨rfl, rfl, rfl, by decide +kernel, rfl, by decide +kernel, by decide +kernel⟩
abbrev S_is_within : Stmt := top 13
theorem sc_is_within : FnScope ["thing", "least", "most"] ["thing", "least", "most"] (defScope S_is_within) := ⟨rfl, rfl, rfl, by decide +kernel, rfl, by decide +kernel, by decide +kernel⟩
abbrev S_are_within : Stmt := top 14
theorem sc_are_within : FnScope ["thing", "least", "most", "part"] ["thing", "least", "most"] (defScope S_are_within) := ⟨rfl, rfl, rfl, by decide +kernel, rfl, by decide +kernel, by decide +kernel⟩
abbrev S_are_words : Stmt := top 15
theorem sc_are_words : FnScope ["thing"] ["thing"] (defScope S_are_words) := ⟨rfl, rfl, rfl, by decide +kernel, rfl, by decide +kernel, by decide +kernel⟩
abbrev S_is_block : Stmt := top 24
theorem sc_is_block : FnScope ["thing"] ["thing"] (defScope S_is_block) := ⟨rfl, rfl, rfl, by decide +kernel, rfl, by decide +kernel, by decide +kernel⟩
abbrev S_is_keep : Stmt := top 25
theorem sc_is_keep : FnScope ["thing"] ["thing"] (defScope S_is_keep) := ⟨rfl, rfl, rfl, by decide +kernel, rfl, by decide +kernel, by decide +kernel⟩
abbrev S_is_fuse : Stmt := top 26
theorem sc_is_fuse : FnScope ["thing"] ["thing"] (defScope S_is_fuse) := ⟨rfl, rfl, rfl, by decide +kernel, rfl, by decide +kernel, by decide +kernel⟩
abbrev S_Disk___init__ : Stmt := inClass (top 27) 0
theorem sc_Disk___init__ : FnScope ["self", "segments", "blocks", "keys", "area"] ["self", "segments", "blocks"] (defScope S_Disk___init__) := ⟨rfl, rfl, rfl, by decide +kernel, rfl, by decide +kernel, by decide +kernel⟩
abbrev S_Disk_sizes : Stmt := inClass (top 27) 1
theorem sc_Disk_sizes : FnScope ["self"] ["self"] (defScope S_Disk_sizes) := ⟨rfl, rfl, rfl, by decide +kernel, rfl, by decide +kernel, by decide +kernel⟩
abbrev S_Disk_many : Stmt := inClass (top 27) 2
theorem sc_Disk_many : FnScope ["self"] ["self"] (defScope S_Disk_many) := ⟨rfl, rfl, rfl, by decide +kernel, rfl, by decide +kernel, by decide +kernel⟩
abbrev S_Disk_read : Stmt := inClass (top 27) 3
theorem sc_Disk_read : FnScope ["self", "place"] ["self", "place"] (defScope S_Disk_read) := ⟨rfl, rfl, rfl, by decide +kernel, rfl, by decide +kernel, by decide +kernel⟩
abbrev S_Disk_write : Stmt := inClass (top 27) 4
theorem sc_Disk_write : FnScope ["self", "place", "block"] ["self", "place", "block"] (defScope S_Disk_write) := ⟨rfl, rfl, rfl, by decide +kernel, rfl, by decide +kernel, by decide +kernel⟩
abbrev S_Disk_force : Stmt := inClass (top 27) 5
theorem sc_Disk_force : FnScope ["self", "place", "block"] ["self"] (defScope S_Disk_force) := ⟨rfl, rfl, rfl, by decide +kernel, rfl, by decide +kernel, by decide +kernel⟩
abbrev S_Disk_waiting : Stmt := inClass (top 27) 6
theorem sc_Disk_waiting : FnScope ["self"] ["self"] (defScope S_Disk_waiting) := ⟨rfl, rfl, rfl, by decide +kernel, rfl, by decide +kernel, by decide +kernel⟩
abbrev S_Disk_standing : Stmt := inClass (top 27) 7
theorem sc_Disk_standing : FnScope ["self"] ["self"] (defScope S_Disk_standing) := ⟨rfl, rfl, rfl, by decide +kernel, rfl, by decide +kernel, by decide +kernel⟩
abbrev S_Disk_cut : Stmt := inClass (top 27) 8
theorem sc_Disk_cut : FnScope ["self", "keep", "place", "block", "many"] ["self", "keep"] (defScope S_Disk_cut) := ⟨rfl, rfl, rfl, by decide +kernel, rfl, by decide +kernel, by decide +kernel⟩
abbrev S_Disk_fuse : Stmt := inClass (top 27) 9
theorem sc_Disk_fuse : FnScope ["self", "many"] ["self", "many"] (defScope S_Disk_fuse) := ⟨rfl, rfl, rfl, by decide +kernel, rfl, by decide +kernel, by decide +kernel⟩
abbrev S_Disk_copied : Stmt := inClass (top 27) 10
theorem sc_Disk_copied : FnScope ["self"] ["self"] (defScope S_Disk_copied) := ⟨rfl, rfl, rfl, by decide +kernel, rfl, by decide +kernel, by decide +kernel⟩
abbrev S_Disk__check_place : Stmt := inClass (top 27) 11
theorem sc_Disk__check_place : FnScope ["self", "place"] ["self", "place"] (defScope S_Disk__check_place) := ⟨rfl, rfl, rfl, by decide +kernel, rfl, by decide +kernel, by decide +kernel⟩
abbrev S_Disk__burn : Stmt := inClass (top 27) 12
theorem sc_Disk__burn : FnScope ["self"] ["self"] (defScope S_Disk__burn) := ⟨rfl, rfl, rfl, by decide +kernel, rfl, by decide +kernel, by decide +kernel⟩
abbrev S_Disk__wait_for_none : Stmt := inClass (top 27) 13
theorem sc_Disk__wait_for_none : FnScope ["self"] ["self"] (defScope S_Disk__wait_for_none) := ⟨rfl, rfl, rfl, by decide +kernel, rfl, by decide +kernel, by decide +kernel⟩
abbrev S__law_deck : Stmt := top 29
theorem sc__law_deck : FnScope ["script", "mixed", "cell"] ["script"] (defScope S__law_deck) := ⟨rfl, rfl, rfl, by decide +kernel, rfl, by decide +kernel, by decide +kernel⟩
abbrev S__law_draw : Stmt := top 30
theorem sc__law_draw : FnScope ["deck", "below", "figure", "cell"] ["deck", "below"] (defScope S__law_draw) := ⟨rfl, rfl, rfl, by decide +kernel, rfl, by decide +kernel, by decide +kernel⟩
abbrev S__law_pick : Stmt := top 31
theorem sc__law_pick : FnScope ["deck", "some"] ["deck", "some"] (defScope S__law_pick) := ⟨rfl, rfl, rfl, by decide +kernel, rfl, by decide +kernel, by decide +kernel⟩
abbrev S__law_sizes : Stmt := top 32
theorem sc__law_sizes : FnScope ["segments", "blocks", "room"] ["segments", "blocks"] (defScope S__law_sizes) := ⟨rfl, rfl, rfl, by decide +kernel, rfl, by decide +kernel, by decide +kernel⟩
abbrev S__law_many : Stmt := top 33
theorem sc__law_many : FnScope ["sizes"] ["sizes"] (defScope S__law_many) := ⟨rfl, rfl, rfl, by decide +kernel, rfl, by decide +kernel, by decide +kernel⟩
abbrev S__law_blank : Stmt := top 34
theorem sc__law_blank : FnScope ["sizes"] ["sizes"] (defScope S__law_blank) := ⟨rfl, rfl, rfl, by decide +kernel, rfl, by decide +kernel, by decide +kernel⟩
abbrev S__law_forced : Stmt := top 35
theorem sc__law_forced : FnScope ["it", "stand", "place", "block"] ["it"] (defScope S__law_forced) := ⟨rfl, rfl, rfl, by decide +kernel, rfl, by decide +kernel, by decide +kernel⟩
abbrev S__law_fell : Stmt := top 36
theorem sc__law_fell : FnScope ["it", "keep", "stand", "at", "place", "block", "many"] ["it", "keep"] (defScope S__law_fell) := ⟨rfl, rfl, rfl, by decide +kernel, rfl, by decide +kernel, by decide +kernel⟩
abbrev S__law_word : Stmt := top 37
theorem sc__law_word : FnScope ["deck"] ["deck"] (defScope S__law_word) := ⟨rfl, rfl, rfl, by decide +kernel, rfl, by decide +kernel, by decide +kernel⟩
abbrev S__law_block : Stmt := top 38
theorem sc__law_block : FnScope ["deck", "way", "word", "i"] ["deck"] (defScope S__law_block) := ⟨rfl, rfl, rfl, by decide +kernel, rfl, by decide +kernel, by decide +kernel⟩
abbrev S__law_keep : Stmt := top 39
theorem sc__law_keep : FnScope ["deck", "many", "length", "i"] ["deck", "many"] (defScope S__law_keep) := ⟨rfl, rfl, rfl, by decide +kernel, rfl, by decide +kernel, by decide +kernel⟩
abbrev S__law_drawn_sizes : Stmt := top 40
theorem sc__law_drawn_sizes : FnScope ["deck"] ["deck"] (defScope S__law_drawn_sizes) := ⟨rfl, rfl, rfl, by decide +kernel, rfl, by decide +kernel, by decide +kernel⟩
abbrev S_law : Stmt := top 41
theorem sc_law : FnScope ["script", "deck", "sizes", "disk", "it", "go", "few", "turn", "place", "block", "many", "way", "keep"] ["script"] (defScope S_law) := ⟨rfl, rfl, rfl, by decide +kernel, rfl, by decide +kernel, by decide +kernel⟩
structure Cl where
  Disk : Addr
def fc__fuse (c : Cl) : List Addr := [c.Disk]
def fc__newest (c : Cl) : List Addr := [c.Disk]
def fc__sizes (c : Cl) : List Addr := [c.Disk]
def fc__standing (c : Cl) : List Addr := [c.Disk]
def fc__waiting (c : Cl) : List Addr := [c.Disk]
def k_BLANK : U := (.tup ((List.replicate 32 (0 : Int)).map U.int))
def k_BLOCK_WORDS : U := (.int 32)
def k_CONTENT_WORDS : U := (.int 28)
def k_LEAST_BLOCKS : U := (.int 4)
def k_LEAST_SEGMENTS : U := (.int 6)
def k_MOST_BLOCKS : U := (.int 24)
def k_MOST_SEGMENTS : U := (.int 40)
def k_MOST_WORD : U := (.int 1000000000)
def k_ROOT_WORDS : U := (.int 4)
variable [ZC]
structure Fx (K : PySem.W.Frag) (mg : Str → Option Value) (c : Cl) : Prop where
  z_all : mg "all" = none
  z_bool : mg "bool" = none
  z_enumerate : mg "enumerate" = none
  z_int : mg "int" = none
  z_isinstance : mg "isinstance" = none
  z_len : mg "len" = none
  z_max : mg "max" = none
  z_range : mg "range" = none
  z_repr : mg "repr" = none
  z_tuple : mg "tuple" = none
  z_zip : mg "zip" = none
  k_BLANK : CV K mg "BLANK" k_BLANK
  k_BLOCK_WORDS : CV K mg "BLOCK_WORDS" k_BLOCK_WORDS
  k_CONTENT_WORDS : CV K mg "CONTENT_WORDS" k_CONTENT_WORDS
  k_LEAST_BLOCKS : CV K mg "LEAST_BLOCKS" k_LEAST_BLOCKS
  k_LEAST_SEGMENTS : CV K mg "LEAST_SEGMENTS" k_LEAST_SEGMENTS
  k_MOST_BLOCKS : CV K mg "MOST_BLOCKS" k_MOST_BLOCKS
  k_MOST_SEGMENTS : CV K mg "MOST_SEGMENTS" k_MOST_SEGMENTS
  k_MOST_WORD : CV K mg "MOST_WORD" k_MOST_WORD
  k_ROOT_WORDS : CV K mg "ROOT_WORDS" k_ROOT_WORDS
  f__fuse : Flds K (fc__fuse c) "_fuse"
  f__newest : Flds K (fc__newest c) "_newest"
  f__sizes : Flds K (fc__sizes c) "_sizes"
  f__standing : Flds K (fc__standing c) "_standing"
  f__waiting : Flds K (fc__waiting c) "_waiting"
  c_Disk : Cls K c.Disk
  g_Disk : mg "Disk" = some (.ref c.Disk)
section
variable {P : Program} {w : World} {K : PySem.W.Frag} {mg : Str → Option Value} {base : Heap} {c : Cl}
def w__law_deck (c : Cl) : MF := mBody 3 ((mSeq (mAsg (mC (.int 13746409)) (gN 1))
    (mSeq (mFor (mIt (mSl (mVar 0) mPNone (mPSome (mC (.int 63))))) (gN 2) (mAsg (mBin uMod (mCallB uInt (mCons (mBin uAdd (mBin uAdd (mBin uMul (mVar 1) (mC (.int 40014))) (mBin uMod (mCallB uInt (mCons (mVar 2) mNil)) (mC (.int 2147483249)))) (mC (.int 59))) mNil)) (mC (.int 2147483563))) (gN 1)))
    (mRet (mDisp [((mC (.str "cells")), (mUn uRev (mLc (mIt (mSl (mVar 0) mPNone (mPSome (mC (.int 63))))) (gN 2) mYes (mCallB uInt (mCons (mVar 2) mNil)) [2]))), ((mC (.str "mixed")), (mVar 1)), ((mC (.str "turn")), (mC (.int 0)))])))))
theorem ok__law_deck (X : Fx K mg c) (D : DefT K mg "_law_deck" S__law_deck)  : FnG P w K mg base 1 D.f D.fd ["script"] (spM K 1 (w__law_deck c)) := by
  refine fn_mk D.F sc__law_deck 1 rfl 3 rfl fun cdv A outer s H E hr hgd => ?_
  have nd := sc__law_deck.nd
  have hu := hu_of hr
  exact (ss_cons (sp_set (i := 1) nd s_int)
    (ss_cons (sp_for (si_seq (s_slice (s_var (i := 0)) so_none (so_some s_int))) (sg_of (sgv_name (ws := [0, 1, 2]) (i := 2) nd)) (ss_one (sp_set (i := 1) nd (s_op o_mod (s_callTy b_int X.z_int (sa_cons (s_op o_add (s_op o_add (s_op o_mul (s_var (i := 1)) s_int) (s_op o_mod (s_callTy b_int X.z_int (sa_cons (s_var (i := 2)) sa_nil)) s_int)) s_int) sa_nil)) s_int))))
    (ss_one (sp_ret (s_disp (ms := [((mC (.str "cells")), (mUn uRev (mLc (mIt (mSl (mVar 0) mPNone (mPSome (mC (.int 63))))) (gN 2) mYes (mCallB uInt (mCons (mVar 2) mNil)) [2]))), ((mC (.str "mixed")), (mVar 1)), ((mC (.str "turn")), (mC (.int 0)))]) (sps_cons s_str (s_rev (s_lc (own := [("cell", 2)]) nd (si_seq (s_slice (s_var (i := 0)) so_none (so_some s_int))) (blkOk_by (N := ["script", "mixed", "cell"]) (sc := defScope S__law_deck) (by decide +kernel)) (fun _ _ _ _ _ => (sgv_name (ws := [2]) (i := 2) nd)) (fun _ _ _ _ _ => stc_nil) (fun _ _ _ _ _ => (s_callTy b_int X.z_int (sa_cons (s_var (i := 2)) sa_nil))))) (sps_cons s_str (s_var (i := 1)) (sps_cons s_str s_int sps_nil))))))))
def w__law_draw (c : Cl) : MF := mBody 4 ((mSeq (mAsg (mBin uAdd (mBin uIx (mVar 0) (mC (.str "turn"))) (mC (.int 1))) (gSet (mVar 0) (mC (.str "turn"))))
    (mSeq (mAsg (mBin uAdd (mBin uIx (mVar 0) (mC (.str "mixed"))) (mBin uMul (mC (.int 84307)) (mBin uIx (mVar 0) (mC (.str "turn"))))) (gN 2))
    (mSeq (mIfS (mB (mBin (uEq true) (mBin uIx (mVar 0) (mC (.str "cells"))) (mLst mNil))) (mSeq (mAsg (mBm uPop (mBin uIx (mVar 0) (mC (.str "cells"))) mNil) (gN 3))
    (mSeq (mIfS (mB (mBin (uCmp fun i j => decide (j ≤ i)) (mVar 3) (mBin uPow (mC (.int 10)) (mC (.int 18))))) (mSeq (mDrop (mBm uAppend (mBin uIx (mVar 0) (mC (.str "cells"))) (mCons (mBin uDiv (mVar 3) (mCallB uMax (mCons (mC (.int 2)) (mCons (mVar 1) mNil)))) mNil)))
    (mRet (mBin uMod (mCallB uInt (mCons (mVar 3) mNil)) (mVar 1)))) mNext)
    (mAsg (mBin uAdd (mVar 2) (mBin uMod (mCallB uInt (mCons (mVar 3) mNil)) (mC (.int 2147483249)))) (gN 2)))) mNext)
    (mSeq (mAsg (mBin uMod (mCallB uInt (mCons (mBin uAdd (mBin uMul (mVar 2) (mC (.int 69621))) (mC (.int 59))) mNil)) (mC (.int 2147483497))) (gN 2))
    (mSeq (mAsg (mBin uMod (mCallB uInt (mCons (mBin uAdd (mBin uAdd (mBin uMul (mVar 2) (mVar 2)) (mBin uMul (mC (.int 52063)) (mBin uIx (mVar 0) (mC (.str "turn"))))) (mC (.int 59))) mNil)) (mC (.int 2147483563))) (gN 2))
    (mSeq (mAsg (mBin uMod (mCallB uInt (mCons (mBin uMul (mVar 2) (mC (.int 40014))) mNil)) (mC (.int 2147483587))) (gN 2))
    (mRet (mBin uMod (mCallB uInt (mCons (mBin uDiv (mVar 2) (mC (.int 64))) mNil)) (mVar 1))))))))))
theorem ok__law_draw (X : Fx K mg c) (D : DefT K mg "_law_draw" S__law_draw)  : FnG P w K mg base 1 D.f D.fd ["deck", "below"] (spM K 2 (w__law_draw c)) := by
  refine fn_mk D.F sc__law_draw 2 rfl 4 rfl fun cdv A outer s H E hr hgd => ?_
  have nd := sc__law_draw.nd
  have hu := hu_of hr
  exact (ss_cons (sp_sub hu (s_var (i := 0)) s_str (s_op o_add (s_ix hu (s_var (i := 0)) s_str) s_int))
    (ss_cons (sp_set (i := 2) nd (s_op o_add (s_ix hu (s_var (i := 0)) s_str) (s_op o_mul s_int (s_ix hu (s_var (i := 0)) s_str))))
    (ss_cons (sp_if (st_cmp (o_ne hr.units) (s_ix hu (s_var (i := 0)) s_str) (s_lst sa_nil)) (ss_cons (sp_set (i := 3) nd (s_bm0 PySem.F.slot_list_pop PySem.F.type_list_pop m_pop (s_ix hu (s_var (i := 0)) s_str)))
    (ss_cons (sp_if (st_cmp o_ge (s_var (i := 3)) (s_op o_pow s_int s_int)) (ss_cons (sp_expr (s_bm PySem.F.slot_list_append PySem.F.type_list_append m_append (s_ix hu (s_var (i := 0)) s_str) (sa_cons (s_op o_div (s_var (i := 3)) (s_callB (b_max rfl hr.units) X.z_max (sa_cons s_int (sa_cons (s_var (i := 1)) sa_nil)))) sa_nil)))
    (ss_one (sp_ret (s_op o_mod (s_callTy b_int X.z_int (sa_cons (s_var (i := 3)) sa_nil)) (s_var (i := 1)))))) ss_nil)
    (ss_one (sp_set (i := 2) nd (s_op o_add (s_var (i := 2)) (s_op o_mod (s_callTy b_int X.z_int (sa_cons (s_var (i := 3)) sa_nil)) s_int)))))) ss_nil)
    (ss_cons (sp_set (i := 2) nd (s_op o_mod (s_callTy b_int X.z_int (sa_cons (s_op o_add (s_op o_mul (s_var (i := 2)) s_int) s_int) sa_nil)) s_int))
    (ss_cons (sp_set (i := 2) nd (s_op o_mod (s_callTy b_int X.z_int (sa_cons (s_op o_add (s_op o_add (s_op o_mul (s_var (i := 2)) (s_var (i := 2))) (s_op o_mul s_int (s_ix hu (s_var (i := 0)) s_str))) s_int) sa_nil)) s_int))
    (ss_cons (sp_set (i := 2) nd (s_op o_mod (s_callTy b_int X.z_int (sa_cons (s_op o_mul (s_var (i := 2)) s_int) sa_nil)) s_int))
    (ss_one (sp_ret (s_op o_mod (s_callTy b_int X.z_int (sa_cons (s_op o_div (s_var (i := 2)) s_int) sa_nil)) (s_var (i := 1)))))))))))
def w__law_sizes (c : Cl) : MF := mBody 3 ((mSeq (mAsg (mBin uMul (mBin uSub (mVar 0) (mC (.int 4))) (mBin uSub (mVar 1) (mC (.int 1)))) (gN 2))
    (mRet (mTup (mCons (mVar 0) (mCons (mVar 1) (mCons (mVar 2) (mCons (mBin uDiv (mBin uAdd (mBin uAdd (mVar 2) (mC (.int 4))) (mC (.int 27))) (mC (.int 28))) mNil))))))))
theorem ok__law_sizes (X : Fx K mg c) (D : DefT K mg "_law_sizes" S__law_sizes)  : FnG P w K mg base 1 D.f D.fd ["segments", "blocks"] (spM K 2 (w__law_sizes c)) := by
  refine fn_mk D.F sc__law_sizes 2 rfl 3 rfl fun cdv A outer s H E hr hgd => ?_
  have nd := sc__law_sizes.nd
  have hu := hu_of hr
  exact (ss_cons (sp_set (i := 2) nd (s_op o_mul (s_op o_sub (s_var (i := 0)) s_int) (s_op o_sub (s_var (i := 1)) s_int)))
    (ss_one (sp_ret (s_tup (sa_cons (s_var (i := 0)) (sa_cons (s_var (i := 1)) (sa_cons (s_var (i := 2)) (sa_cons (s_op o_div (s_op o_add (s_op o_add (s_var (i := 2)) s_int) s_int) s_int) sa_nil))))))))
def w__law_drawn_sizes (c : Cl) : MF := mBody 1 ((mSeq (mIfS (mB (mBin (uEq false) (mCall 2 (w__law_draw c) (mCons (mVar 0) (mCons (mC (.int 16)) mNil))) (mC (.int 0)))) (mRet (mCall 2 (w__law_sizes c) (mCons (mBin uAdd (mC (.int 6)) (mCall 2 (w__law_draw c) (mCons (mVar 0) (mCons (mC (.int 35)) mNil)))) (mCons (mBin uAdd (mC (.int 4)) (mCall 2 (w__law_draw c) (mCons (mVar 0) (mCons (mC (.int 21)) mNil)))) mNil)))) mNext)
    (mRet (mCall 2 (w__law_sizes c) (mCons (mBin uAdd (mC (.int 6)) (mCall 2 (w__law_draw c) (mCons (mVar 0) (mCons (mC (.int 4)) mNil)))) (mCons (mBin uAdd (mC (.int 4)) (mCall 2 (w__law_draw c) (mCons (mVar 0) (mCons (mC (.int 5)) mNil)))) mNil))))))
theorem ok__law_drawn_sizes (X : Fx K mg c) (D : DefT K mg "_law_drawn_sizes" S__law_drawn_sizes) (g__law_draw : CalG P w K mg base 1 "_law_draw" ["deck", "below"] (spM K 2 (w__law_draw c))) (g__law_sizes : CalG P w K mg base 1 "_law_sizes" ["segments", "blocks"] (spM K 2 (w__law_sizes c))) : FnG P w K mg base 2 D.f D.fd ["deck"] (spM K 1 (w__law_drawn_sizes c)) := by
  refine fn_mk D.F sc__law_drawn_sizes 1 rfl 1 rfl fun cdv A outer s H E hr hgd => ?_
  have nd := sc__law_drawn_sizes.nd
  have hu := hu_of hr
  exact (ss_cons (sp_if (st_cmp (o_eq hr.units) (s_call g__law_draw hr hgd (sa_cons (s_var (i := 0)) (sa_cons s_int sa_nil))) s_int) (ss_one (sp_ret (s_call g__law_sizes hr hgd (sa_cons (s_op o_add s_int (s_call g__law_draw hr hgd (sa_cons (s_var (i := 0)) (sa_cons s_int sa_nil)))) (sa_cons (s_op o_add s_int (s_call g__law_draw hr hgd (sa_cons (s_var (i := 0)) (sa_cons s_int sa_nil)))) sa_nil))))) ss_nil)
    (ss_one (sp_ret (s_call g__law_sizes hr hgd (sa_cons (s_op o_add s_int (s_call g__law_draw hr hgd (sa_cons (s_var (i := 0)) (sa_cons s_int sa_nil)))) (sa_cons (s_op o_add s_int (s_call g__law_draw hr hgd (sa_cons (s_var (i := 0)) (sa_cons s_int sa_nil)))) sa_nil))))))
def w_is_integer (c : Cl) : MF := mBody 1 ((mRet (mAndV (mUn (uIsT "int") (mVar 0)) (mNotV (mUn (uIsT "bool") (mVar 0))))))
theorem ok_is_integer (X : Fx K mg c) (D : DefT K mg "is_integer" S_is_integer)  : FnG P w K mg base 1 D.f D.fd ["thing"] (spM K 1 (w_is_integer c)) := by
  refine fn_mk D.F sc_is_integer 1 rfl 1 rfl fun cdv A outer s H E hr hgd => ?_
  have nd := sc_is_integer.nd
  have hu := hu_of hr
  exact (ss_one (sp_ret (s_and (s_isT kit_int X.z_isinstance X.z_int (s_var (i := 0))) (s_one (s_not (s_isT kit_bool X.z_isinstance X.z_bool (s_var (i := 0))))))))
def w_is_within (c : Cl) : MF := mBody 3 ((mRet (mAndV (mCall 1 (w_is_integer c) (mCons (mVar 0) mNil)) (mChain (uCmp fun i j => decide (i ≤ j)) (uCmp fun i j => decide (i ≤ j)) (mVar 1) (mVar 0) (mVar 2)))))
theorem ok_is_within (X : Fx K mg c) (D : DefT K mg "is_within" S_is_within) (g_is_integer : CalG P w K mg base 1 "is_integer" ["thing"] (spM K 1 (w_is_integer c))) : FnG P w K mg base 2 D.f D.fd ["thing", "least", "most"] (spM K 3 (w_is_within c)) := by
  refine fn_mk D.F sc_is_within 3 rfl 3 rfl fun cdv A outer s H E hr hgd => ?_
  have nd := sc_is_within.nd
  have hu := hu_of hr
  exact (ss_one (sp_ret (s_and (s_call g_is_integer hr hgd (sa_cons (s_var (i := 0)) sa_nil)) (s_one (s_chain o_le o_le (s_var (i := 1)) (s_var (i := 0)) (s_var (i := 2)))))))
def w_Disk___init__ (c : Cl) : MF := mBody 5 ((mSeq (mIfS (mNot (mTr (mCall 3 (w_is_within c) (mCons (mVar 1) (mCons (mC k_LEAST_SEGMENTS) (mCons (mC k_MOST_SEGMENTS) mNil)))))) mNever mNext)
    (mSeq (mIfS (mNot (mTr (mCall 3 (w_is_within c) (mCons (mVar 2) (mCons (mC k_LEAST_BLOCKS) (mCons (mC k_MOST_BLOCKS) mNil)))))) mNever mNext)
    (mSeq (mAsg (mBin uMul (mBin uSub (mVar 1) (mC (.int 4))) (mBin uSub (mVar 2) (mC (.int 1)))) (gN 3))
    (mSeq (mAsg (mBin uDiv (mBin uSub (mBin uAdd (mBin uAdd (mVar 3) (mC k_ROOT_WORDS)) (mC k_CONTENT_WORDS)) (mC (.int 1))) (mC k_CONTENT_WORDS)) (gN 4))
    (mSeq (mSetF (fc__sizes c) "_sizes" (mVar 0) (mTup (mCons (mVar 1) (mCons (mVar 2) (mCons (mVar 3) (mCons (mVar 4) mNil))))))
    (mSeq (mSetF (fc__standing c) "_standing" (mVar 0) (mBin uMul (mLst (mCons (mC k_BLANK) mNil)) (mBin uAdd (mBin uMul (mC (.int 2)) (mVar 4)) (mBin uMul (mVar 1) (mVar 2)))))
    (mSeq (mSetF (fc__waiting c) "_waiting" (mVar 0) (mLst mNil))
    (mSeq (mSetF (fc__newest c) "_newest" (mVar 0) mDict0)
    (mSetF (fc__fuse c) "_fuse" (mVar 0) (mC .non)))))))))))
theorem ok_Disk___init__ (X : Fx K mg c) (D : MthT K c.Disk "__init__" "Disk.__init__" S_Disk___init__) (g_is_within : CalG P w K mg base 2 "is_within" ["thing", "least", "most"] (spM K 3 (w_is_within c))) : FnG P w K mg base 3 D.f D.fd ["self", "segments", "blocks"] (spM K 3 (w_Disk___init__ c)) := by
  refine fn_mk D.F sc_Disk___init__ 3 rfl 5 rfl fun cdv A outer s H E hr hgd => ?_
  have nd := sc_Disk___init__.nd
  have hu := hu_of hr
  exact (ss_cons (sp_if (st_not (st_tru (s_call g_is_within hr hgd (sa_cons (s_var (i := 1)) (sa_cons (s_glob X.k_LEAST_SEGMENTS) (sa_cons (s_glob X.k_MOST_SEGMENTS) sa_nil)))))) (ss_one sp_never) ss_nil)
    (ss_cons (sp_if (st_not (st_tru (s_call g_is_within hr hgd (sa_cons (s_var (i := 2)) (sa_cons (s_glob X.k_LEAST_BLOCKS) (sa_cons (s_glob X.k_MOST_BLOCKS) sa_nil)))))) (ss_one sp_never) ss_nil)
    (ss_cons (sp_set (i := 3) nd (s_op o_mul (s_op o_sub (s_var (i := 1)) s_int) (s_op o_sub (s_var (i := 2)) s_int)))
    (ss_cons (sp_set (i := 4) nd (s_op o_div (s_op o_sub (s_op o_add (s_op o_add (s_var (i := 3)) (s_glob X.k_ROOT_WORDS)) (s_glob X.k_CONTENT_WORDS)) s_int) (s_glob X.k_CONTENT_WORDS)))
    (ss_cons (sp_fld X.f__sizes (s_var (i := 0)) (s_tup (sa_cons (s_var (i := 1)) (sa_cons (s_var (i := 2)) (sa_cons (s_var (i := 3)) (sa_cons (s_var (i := 4)) sa_nil))))))
    (ss_cons (sp_fld X.f__standing (s_var (i := 0)) (s_op o_mul (s_lst (sa_cons (s_glob X.k_BLANK) sa_nil)) (s_op o_add (s_op o_mul s_int (s_var (i := 4))) (s_op o_mul (s_var (i := 1)) (s_var (i := 2))))))
    (ss_cons (sp_fld X.f__waiting (s_var (i := 0)) (s_lst sa_nil))
    (ss_cons (sp_fld X.f__newest (s_var (i := 0)) s_dict0)
    (ss_one (sp_fld X.f__fuse (s_var (i := 0)) s_non))))))))))
def w__law_many (c : Cl) : MF := mBody 1 ((mRet (mBin uAdd (mBin uMul (mC (.int 2)) (mBin uIx (mVar 0) (mC (.int 3)))) (mBin uMul (mBin uIx (mVar 0) (mC (.int 0))) (mBin uIx (mVar 0) (mC (.int 1)))))))
theorem ok__law_many (X : Fx K mg c) (D : DefT K mg "_law_many" S__law_many)  : FnG P w K mg base 1 D.f D.fd ["sizes"] (spM K 1 (w__law_many c)) := by
  refine fn_mk D.F sc__law_many 1 rfl 1 rfl fun cdv A outer s H E hr hgd => ?_
  have nd := sc__law_many.nd
  have hu := hu_of hr
  exact (ss_one (sp_ret (s_op o_add (s_op o_mul s_int (s_ix hu (s_var (i := 0)) s_int)) (s_op o_mul (s_ix hu (s_var (i := 0)) s_int) (s_ix hu (s_var (i := 0)) s_int)))))
def w__law_blank (c : Cl) : MF := mBody 1 ((mRet (mDisp [((mC (.str "sizes")), (mVar 0)), ((mC (.str "stand")), (mBin uMul (mLst (mCons (mBin uMul (mTup (mCons (mC (.int 0)) mNil)) (mC (.int 32))) mNil)) (mCall 1 (w__law_many c) (mCons (mVar 0) mNil)))), ((mC (.str "wait")), (mLst mNil)), ((mC (.str "fuse")), (mC .non))])))
theorem ok__law_blank (X : Fx K mg c) (D : DefT K mg "_law_blank" S__law_blank) (g__law_many : CalG P w K mg base 1 "_law_many" ["sizes"] (spM K 1 (w__law_many c))) : FnG P w K mg base 2 D.f D.fd ["sizes"] (spM K 1 (w__law_blank c)) := by
  refine fn_mk D.F sc__law_blank 1 rfl 1 rfl fun cdv A outer s H E hr hgd => ?_
  have nd := sc__law_blank.nd
  have hu := hu_of hr
  exact (ss_one (sp_ret (s_disp (ms := [((mC (.str "sizes")), (mVar 0)), ((mC (.str "stand")), (mBin uMul (mLst (mCons (mBin uMul (mTup (mCons (mC (.int 0)) mNil)) (mC (.int 32))) mNil)) (mCall 1 (w__law_many c) (mCons (mVar 0) mNil)))), ((mC (.str "wait")), (mLst mNil)), ((mC (.str "fuse")), (mC .non))]) (sps_cons s_str (s_var (i := 0)) (sps_cons s_str (s_op o_mul (s_lst (sa_cons (s_op o_mul (s_tup (sa_cons s_int sa_nil)) s_int) sa_nil)) (s_call g__law_many hr hgd (sa_cons (s_var (i := 0)) sa_nil))) (sps_cons s_str (s_lst sa_nil) (sps_cons s_str s_non sps_nil)))))))
def w__law_pick (c : Cl) : MF := mBody 2 ((mRet (mBin uIx (mVar 1) (mCall 2 (w__law_draw c) (mCons (mVar 0) (mCons (mCallB uLen (mCons (mVar 1) mNil)) mNil))))))
theorem ok__law_pick (X : Fx K mg c) (D : DefT K mg "_law_pick" S__law_pick) (g__law_draw : CalG P w K mg base 1 "_law_draw" ["deck", "below"] (spM K 2 (w__law_draw c))) : FnG P w K mg base 2 D.f D.fd ["deck", "some"] (spM K 2 (w__law_pick c)) := by
  refine fn_mk D.F sc__law_pick 2 rfl 2 rfl fun cdv A outer s H E hr hgd => ?_
  have nd := sc__law_pick.nd
  have hu := hu_of hr
  exact (ss_one (sp_ret (s_ix hu (s_var (i := 1)) (s_call g__law_draw hr hgd (sa_cons (s_var (i := 0)) (sa_cons (s_callB b_len X.z_len (sa_cons (s_var (i := 1)) sa_nil)) sa_nil))))))
def w__law_word (c : Cl) : MF := mBody 1 ((mRet (mCall 2 (w__law_pick c) (mCons (mVar 0) (mCons (mLst (mCons (mC (.int 0)) (mCons (mC (.int 1)) (mCons (mC (.int 2)) (mCons (mC (.int 3)) (mCons (mC (.int 5)) (mCons (mBin uPow (mC (.int 10)) (mC (.int 9))) (mCons (mCall 2 (w__law_draw c) (mCons (mVar 0) (mCons (mC (.int 100)) mNil))) (mCons (mCall 2 (w__law_draw c) (mCons (mVar 0) (mCons (mBin uAdd (mBin uPow (mC (.int 10)) (mC (.int 9))) (mC (.int 1))) mNil))) mNil))))))))) mNil)))))
theorem ok__law_word (X : Fx K mg c) (D : DefT K mg "_law_word" S__law_word) (g__law_pick : CalG P w K mg base 2 "_law_pick" ["deck", "some"] (spM K 2 (w__law_pick c))) (g__law_draw : CalG P w K mg base 1 "_law_draw" ["deck", "below"] (spM K 2 (w__law_draw c))) : FnG P w K mg base 3 D.f D.fd ["deck"] (spM K 1 (w__law_word c)) := by
  refine fn_mk D.F sc__law_word 1 rfl 1 rfl fun cdv A outer s H E hr hgd => ?_
  have nd := sc__law_word.nd
  have hu := hu_of hr
  exact (ss_one (sp_ret (s_call g__law_pick hr hgd (sa_cons (s_var (i := 0)) (sa_cons (s_lst (sa_cons s_int (sa_cons s_int (sa_cons s_int (sa_cons s_int (sa_cons s_int (sa_cons (s_op o_pow s_int s_int) (sa_cons (s_call g__law_draw hr hgd (sa_cons (s_var (i := 0)) (sa_cons s_int sa_nil))) (sa_cons (s_call g__law_draw hr hgd (sa_cons (s_var (i := 0)) (sa_cons (s_op o_add (s_op o_pow s_int s_int) s_int) sa_nil))) sa_nil))))))))) sa_nil)))))
def w__law_block (c : Cl) : MF := mBody 4 ((mSeq (mPar 1 2 (mCall 2 (w__law_draw c) (mCons (mVar 0) (mCons (mC (.int 5)) mNil))) (mCall 1 (w__law_word c) (mCons (mVar 0) mNil)))
    (mSeq (mIfS (mB (mBin (uEq false) (mVar 1) (mC (.int 0)))) (mRet (mBin uMul (mTup (mCons (mVar 2) mNil)) (mC (.int 32)))) mNext)
    (mSeq (mIfS (mB (mBin (uEq false) (mVar 1) (mC (.int 1)))) (mRet (mBin uMul (mTup (mCons (mC (.int 0)) mNil)) (mC (.int 32)))) mNext)
    (mSeq (mIfS (mB (mBin (uEq false) (mVar 1) (mC (.int 2)))) (mRet (mBin uAdd (mBin uAdd (mTup (mCons (mVar 2) (mCons (mBin uAdd (mC (.int 1)) (mCall 2 (w__law_draw c) (mCons (mVar 0) (mCons (mC (.int 3)) mNil)))) mNil))) (mCallB uTuple (mCons (mLc (mRng1 (mC (.int 29))) (gN 3) mYes (mCall 2 (w__law_draw c) (mCons (mVar 0) (mCons (mC (.int 9)) mNil))) [3]) mNil))) (mTup (mCons (mVar 2) mNil)))) mNext)
    (mRet (mCallB uTuple (mCons (mLc (mRng1 (mC (.int 32))) (gN 3) mYes (mIfE (mB (mBin (uEq false) (mCall 2 (w__law_draw c) (mCons (mVar 0) (mCons (mC (.int 2)) mNil))) (mC (.int 0)))) (mCall 1 (w__law_word c) (mCons (mVar 0) mNil)) (mVar 3)) [3]) mNil))))))))
theorem ok__law_block (X : Fx K mg c) (D : DefT K mg "_law_block" S__law_block) (g__law_draw : CalG P w K mg base 1 "_law_draw" ["deck", "below"] (spM K 2 (w__law_draw c))) (g__law_word : CalG P w K mg base 3 "_law_word" ["deck"] (spM K 1 (w__law_word c))) : FnG P w K mg base 4 D.f D.fd ["deck"] (spM K 1 (w__law_block c)) := by
  refine fn_mk D.F sc__law_block 1 rfl 4 rfl fun cdv A outer s H E hr hgd => ?_
  have nd := sc__law_block.nd
  have hu := hu_of hr
  exact (ss_cons (sp_par (i := 1) (j := 2) nd (s_call g__law_draw hr hgd (sa_cons (s_var (i := 0)) (sa_cons s_int sa_nil))) (s_call g__law_word hr hgd (sa_cons (s_var (i := 0)) sa_nil)))
    (ss_cons (sp_if (st_cmp (o_eq hr.units) (s_var (i := 1)) s_int) (ss_one (sp_ret (s_op o_mul (s_tup (sa_cons (s_var (i := 2)) sa_nil)) s_int))) ss_nil)
    (ss_cons (sp_if (st_cmp (o_eq hr.units) (s_var (i := 1)) s_int) (ss_one (sp_ret (s_op o_mul (s_tup (sa_cons s_int sa_nil)) s_int))) ss_nil)
    (ss_cons (sp_if (st_cmp (o_eq hr.units) (s_var (i := 1)) s_int) (ss_one (sp_ret (s_op o_add (s_op o_add (s_tup (sa_cons (s_var (i := 2)) (sa_cons (s_op o_add s_int (s_call g__law_draw hr hgd (sa_cons (s_var (i := 0)) (sa_cons s_int sa_nil)))) sa_nil))) (s_callTy b_tuple X.z_tuple (sa_cons (s_lc (own := [("i", 3)]) nd (si_rng1 s_int X.z_range) (blkOk_by (N := ["deck", "way", "word", "i"]) (sc := defScope S__law_block) (by decide +kernel)) (fun _ _ _ _ _ => (sgv_name (ws := [3]) (i := 3) nd)) (fun _ _ _ _ _ => stc_nil) (fun _ _ _ _ _ => (s_call g__law_draw hr hgd (sa_cons (s_var (i := 0)) (sa_cons s_int sa_nil))))) sa_nil))) (s_tup (sa_cons (s_var (i := 2)) sa_nil))))) ss_nil)
    (ss_one (sp_ret (s_callTy b_tuple X.z_tuple (sa_cons (s_lc (own := [("i", 3)]) nd (si_rng1 s_int X.z_range) (blkOk_by (N := ["deck", "way", "word", "i"]) (sc := defScope S__law_block) (by decide +kernel)) (fun _ _ _ _ _ => (sgv_name (ws := [3]) (i := 3) nd)) (fun _ _ _ _ _ => stc_nil) (fun _ _ _ _ _ => (s_ifExp (st_cmp (o_eq hr.units) (s_call g__law_draw hr hgd (sa_cons (s_var (i := 0)) (sa_cons s_int sa_nil))) s_int) (s_call g__law_word hr hgd (sa_cons (s_var (i := 0)) sa_nil)) (s_var (i := 3))))) sa_nil))))))))
def w_Disk__check_place (c : Cl) : MF := mBody 2 ((mIfS (mNot (mTr (mCall 3 (w_is_within c) (mCons (mVar 1) (mCons (mC (.int 0)) (mCons (mBin uSub (mCallB uLen (mCons (mUn (uFld (fc__standing c) "_standing") (mVar 0)) mNil)) (mC (.int 1))) mNil)))))) mNever mNext))
theorem ok_Disk__check_place (X : Fx K mg c) (D : MthT K c.Disk "_check_place" "Disk._check_place" S_Disk__check_place) (g_is_within : CalG P w K mg base 2 "is_within" ["thing", "least", "most"] (spM K 3 (w_is_within c))) : FnG P w K mg base 3 D.f D.fd ["self", "place"] (spM K 2 (w_Disk__check_place c)) := by
  refine fn_mk D.F sc_Disk__check_place 2 rfl 2 rfl fun cdv A outer s H E hr hgd => ?_
  have nd := sc_Disk__check_place.nd
  have hu := hu_of hr
  exact (ss_one (sp_if (st_not (st_tru (s_call g_is_within hr hgd (sa_cons (s_var (i := 1)) (sa_cons s_int (sa_cons (s_op o_sub (s_callB b_len X.z_len (sa_cons (s_fld X.f__standing (s_var (i := 0))) sa_nil)) s_int) sa_nil)))))) (ss_one sp_never) ss_nil))
def w_are_within (c : Cl) : MF := mBody 4 ((mRet (mAndV (mUn (uIsT "tuple") (mVar 0)) (mCallB uAll (mCons (mLc (mIt (mVar 0)) (gN 3) mYes (mCall 3 (w_is_within c) (mCons (mVar 3) (mCons (mVar 1) (mCons (mVar 2) mNil)))) [3]) mNil)))))
theorem ok_are_within (X : Fx K mg c) (D : DefT K mg "are_within" S_are_within) (g_is_within : CalG P w K mg base 2 "is_within" ["thing", "least", "most"] (spM K 3 (w_is_within c))) : FnG P w K mg base 3 D.f D.fd ["thing", "least", "most"] (spM K 3 (w_are_within c)) := by
  refine fn_mk D.F sc_are_within 3 rfl 4 rfl fun cdv A outer s H E hr hgd => ?_
  have nd := sc_are_within.nd
  have hu := hu_of hr
  exact (ss_one (sp_ret (s_and (s_isT kit_tuple X.z_isinstance X.z_tuple (s_var (i := 0))) (s_one (s_callB (b_all rfl) X.z_all (sa_cons (s_lc (own := [("part", 3)]) nd (si_seq (s_var (i := 0))) (blkOk_by (N := ["thing", "least", "most", "part"]) (sc := defScope S_are_within) (by decide +kernel)) (fun _ _ _ _ _ => (sgv_name (ws := [3]) (i := 3) nd)) (fun _ _ _ _ _ => stc_nil) (fun _ _ _ _ _ => (s_call g_is_within hr hgd (sa_cons (s_var (i := 3)) (sa_cons (s_var (i := 1)) (sa_cons (s_var (i := 2)) sa_nil)))))) sa_nil))))))
def w_are_words (c : Cl) : MF := mBody 1 ((mRet (mCall 3 (w_are_within c) (mCons (mVar 0) (mCons (mC (.int 0)) (mCons (mC k_MOST_WORD) mNil))))))
theorem ok_are_words (X : Fx K mg c) (D : DefT K mg "are_words" S_are_words) (g_are_within : CalG P w K mg base 3 "are_within" ["thing", "least", "most"] (spM K 3 (w_are_within c))) : FnG P w K mg base 4 D.f D.fd ["thing"] (spM K 1 (w_are_words c)) := by
  refine fn_mk D.F sc_are_words 1 rfl 1 rfl fun cdv A outer s H E hr hgd => ?_
  have nd := sc_are_words.nd
  have hu := hu_of hr
  exact (ss_one (sp_ret (s_call g_are_within hr hgd (sa_cons (s_var (i := 0)) (sa_cons s_int (sa_cons (s_glob X.k_MOST_WORD) sa_nil))))))
def w_is_block (c : Cl) : MF := mBody 1 ((mRet (mAndV (mCall 1 (w_are_words c) (mCons (mVar 0) mNil)) (mBin (uEq false) (mCallB uLen (mCons (mVar 0) mNil)) (mC k_BLOCK_WORDS)))))
theorem ok_is_block (X : Fx K mg c) (D : DefT K mg "is_block" S_is_block) (g_are_words : CalG P w K mg base 4 "are_words" ["thing"] (spM K 1 (w_are_words c))) : FnG P w K mg base 5 D.f D.fd ["thing"] (spM K 1 (w_is_block c)) := by
  refine fn_mk D.F sc_is_block 1 rfl 1 rfl fun cdv A outer s H E hr hgd => ?_
  have nd := sc_is_block.nd
  have hu := hu_of hr
  exact (ss_one (sp_ret (s_and (s_call g_are_words hr hgd (sa_cons (s_var (i := 0)) sa_nil)) (s_one (s_cmp (o_eq hr.units) (s_callB b_len X.z_len (sa_cons (s_var (i := 0)) sa_nil)) (s_glob X.k_BLOCK_WORDS))))))
def w_Disk__burn (c : Cl) : MF := mBody 1 ((mSeq (mIfS (mB (mBin (uIs false) (mUn (uFld (fc__fuse c) "_fuse") (mVar 0)) (mC .non))) mRetN mNext)
    (mSeq (mIfS (mB (mBin (uEq false) (mUn (uFld (fc__fuse c) "_fuse") (mVar 0)) (mC (.int 0)))) mNever mNext)
    (mAugF (fc__fuse c) "_fuse" uSub (mVar 0) (mC (.int 1))))))
theorem ok_Disk__burn (X : Fx K mg c) (D : MthT K c.Disk "_burn" "Disk._burn" S_Disk__burn)  : FnG P w K mg base 1 D.f D.fd ["self"] (spM K 1 (w_Disk__burn c)) := by
  refine fn_mk D.F sc_Disk__burn 1 rfl 1 rfl fun cdv A outer s H E hr hgd => ?_
  have nd := sc_Disk__burn.nd
  have hu := hu_of hr
  exact (ss_cons (sp_if (st_cmp o_is (s_fld X.f__fuse (s_var (i := 0))) s_non) (ss_one sp_retN) ss_nil)
    (ss_cons (sp_if (st_cmp (o_eq hr.units) (s_fld X.f__fuse (s_var (i := 0))) s_int) (ss_one sp_never) ss_nil)
    (ss_one (sp_fldaug X.f__fuse (s_var (i := 0)) s_int in2_sub))))
def w_Disk_write (c : Cl) : MF := mBody 3 ((mSeq (mDrop (mMeth c.Disk "_check_place" 2 (w_Disk__check_place c) (mVar 0) (mCons (mVar 1) mNil)))
    (mSeq (mIfS (mNot (mTr (mCall 1 (w_is_block c) (mCons (mVar 2) mNil)))) mNever mNext)
    (mSeq (mDrop (mMeth c.Disk "_burn" 1 (w_Disk__burn c) (mVar 0) mNil))
    (mSeq (mDrop (mBm uAppend (mUn (uFld (fc__waiting c) "_waiting") (mVar 0)) (mCons (mTup (mCons (mVar 1) (mCons (mVar 2) mNil))) mNil)))
    (mAsg (mVar 2) (gSet (mUn (uFld (fc__newest c) "_newest") (mVar 0)) (mVar 1))))))))
theorem ok_Disk_write (X : Fx K mg c) (D : MthT K c.Disk "write" "Disk.write" S_Disk_write) (g_Disk__check_place : MCalG P w K mg base c.Disk 3 "_check_place" ["self", "place"] (spM K 2 (w_Disk__check_place c))) (g_is_block : CalG P w K mg base 5 "is_block" ["thing"] (spM K 1 (w_is_block c))) (g_Disk__burn : MCalG P w K mg base c.Disk 1 "_burn" ["self"] (spM K 1 (w_Disk__burn c))) : FnG P w K mg base 6 D.f D.fd ["self", "place", "block"] (spM K 3 (w_Disk_write c)) := by
  refine fn_mk D.F sc_Disk_write 3 rfl 3 rfl fun cdv A outer s H E hr hgd => ?_
  have nd := sc_Disk_write.nd
  have hu := hu_of hr
  exact (ss_cons (sp_expr (s_meth X.c_Disk g_Disk__check_place hr hgd (s_var (i := 0)) (sa_cons (s_var (i := 1)) sa_nil)))
    (ss_cons (sp_if (st_not (st_tru (s_call g_is_block hr hgd (sa_cons (s_var (i := 2)) sa_nil)))) (ss_one sp_never) ss_nil)
    (ss_cons (sp_expr (s_meth0 X.c_Disk g_Disk__burn hr hgd (s_var (i := 0))))
    (ss_cons (sp_expr (s_bm PySem.F.slot_list_append PySem.F.type_list_append m_append (s_fld X.f__waiting (s_var (i := 0))) (sa_cons (s_tup (sa_cons (s_var (i := 1)) (sa_cons (s_var (i := 2)) sa_nil))) sa_nil)))
    (ss_one (sp_sub hu (s_fld X.f__newest (s_var (i := 0))) (s_var (i := 1)) (s_var (i := 2))))))))
def w_Disk__wait_for_none (c : Cl) : MF := mBody 1 ((mSeq (mSetF (fc__waiting c) "_waiting" (mVar 0) (mLst mNil))
    (mSetF (fc__newest c) "_newest" (mVar 0) mDict0)))
theorem ok_Disk__wait_for_none (X : Fx K mg c) (D : MthT K c.Disk "_wait_for_none" "Disk._wait_for_none" S_Disk__wait_for_none)  : FnG P w K mg base 1 D.f D.fd ["self"] (spM K 1 (w_Disk__wait_for_none c)) := by
  refine fn_mk D.F sc_Disk__wait_for_none 1 rfl 1 rfl fun cdv A outer s H E hr hgd => ?_
  have nd := sc_Disk__wait_for_none.nd
  have hu := hu_of hr
  exact (ss_cons (sp_fld X.f__waiting (s_var (i := 0)) (s_lst sa_nil))
    (ss_one (sp_fld X.f__newest (s_var (i := 0)) s_dict0)))
def w_Disk_force (c : Cl) : MF := mBody 3 ((mSeq (mDrop (mMeth c.Disk "_burn" 1 (w_Disk__burn c) (mVar 0) mNil))
    (mSeq (mFor (mIt (mUn (uFld (fc__waiting c) "_waiting") (mVar 0))) (gTupM 2 (gConsM (gN 1) (gConsM (gN 2) gNilM))) (mAsg (mVar 2) (gSet (mUn (uFld (fc__standing c) "_standing") (mVar 0)) (mVar 1))))
    (mDrop (mMeth c.Disk "_wait_for_none" 1 (w_Disk__wait_for_none c) (mVar 0) mNil)))))
theorem ok_Disk_force (X : Fx K mg c) (D : MthT K c.Disk "force" "Disk.force" S_Disk_force) (g_Disk__burn : MCalG P w K mg base c.Disk 1 "_burn" ["self"] (spM K 1 (w_Disk__burn c))) (g_Disk__wait_for_none : MCalG P w K mg base c.Disk 1 "_wait_for_none" ["self"] (spM K 1 (w_Disk__wait_for_none c))) : FnG P w K mg base 2 D.f D.fd ["self"] (spM K 1 (w_Disk_force c)) := by
  refine fn_mk D.F sc_Disk_force 1 rfl 3 rfl fun cdv A outer s H E hr hgd => ?_
  have nd := sc_Disk_force.nd
  have hu := hu_of hr
  exact (ss_cons (sp_expr (s_meth0 X.c_Disk g_Disk__burn hr hgd (s_var (i := 0))))
    (ss_cons (sp_for (si_seq (s_fld X.f__waiting (s_var (i := 0)))) (sg_of (sgv_tup rfl (sgs_cons (sgv_name (ws := [0, 1, 2]) (i := 1) nd) (sgs_cons (sgv_name (ws := [0, 1, 2]) (i := 2) nd) sgs_nil)))) (ss_one (sp_sub hu (s_fld X.f__standing (s_var (i := 0))) (s_var (i := 1)) (s_var (i := 2)))))
    (ss_one (sp_expr (s_meth0 X.c_Disk g_Disk__wait_for_none hr hgd (s_var (i := 0)))))))
def w__law_forced (c : Cl) : MF := mBody 4 ((mSeq (mAsg (mBin uIx (mVar 0) (mC (.str "stand"))) (gN 1))
    (mSeq (mFor (mIt (mBin uIx (mVar 0) (mC (.str "wait")))) (gTupM 2 (gConsM (gN 2) (gConsM (gN 3) gNilM))) (mAsg (mVar 3) (gSet (mVar 1) (mVar 2))))
    (mAsg (mLst mNil) (gSet (mVar 0) (mC (.str "wait")))))))
theorem ok__law_forced (X : Fx K mg c) (D : DefT K mg "_law_forced" S__law_forced)  : FnG P w K mg base 1 D.f D.fd ["it"] (spM K 1 (w__law_forced c)) := by
  refine fn_mk D.F sc__law_forced 1 rfl 4 rfl fun cdv A outer s H E hr hgd => ?_
  have nd := sc__law_forced.nd
  have hu := hu_of hr
  exact (ss_cons (sp_set (i := 1) nd (s_ix hu (s_var (i := 0)) s_str))
    (ss_cons (sp_for (si_seq (s_ix hu (s_var (i := 0)) s_str)) (sg_of (sgv_tup rfl (sgs_cons (sgv_name (ws := [0, 1, 2, 3]) (i := 2) nd) (sgs_cons (sgv_name (ws := [0, 1, 2, 3]) (i := 3) nd) sgs_nil)))) (ss_one (sp_sub hu (s_var (i := 1)) (s_var (i := 2)) (s_var (i := 3)))))
    (ss_one (sp_sub hu (s_var (i := 0)) s_str (s_lst sa_nil)))))
def w__law_keep (c : Cl) : MF := mBody 4 ((mSeq (mAsg (mCallB uMax (mCons (mC (.int 0)) (mCons (mBin uAdd (mVar 1) (mCall 2 (w__law_pick c) (mCons (mVar 0) (mCons (mLst (mCons (mC (.int 0)) (mCons (mC (.int 0)) (mCons (mUn uNeg (mC (.int 1))) (mCons (mC (.int 2)) (mCons (mUn uNeg (mVar 1)) mNil)))))) mNil)))) mNil))) (gN 2))
    (mRet (mCallB uTuple (mCons (mLc (mRng1 (mVar 2)) (gN 3) mYes (mCall 2 (w__law_pick c) (mCons (mVar 0) (mCons (mLst (mCons (mC (.int 0)) (mCons (mC (.int 32)) (mCons (mC (.int 32)) (mCons (mC (.int 0)) (mCons (mC (.int 1)) (mCons (mC (.int 31)) (mCons (mCall 2 (w__law_draw c) (mCons (mVar 0) (mCons (mC (.int 33)) mNil))) mNil)))))))) mNil))) [3]) mNil)))))
theorem ok__law_keep (X : Fx K mg c) (D : DefT K mg "_law_keep" S__law_keep) (g__law_pick : CalG P w K mg base 2 "_law_pick" ["deck", "some"] (spM K 2 (w__law_pick c))) (g__law_draw : CalG P w K mg base 1 "_law_draw" ["deck", "below"] (spM K 2 (w__law_draw c))) : FnG P w K mg base 3 D.f D.fd ["deck", "many"] (spM K 2 (w__law_keep c)) := by
  refine fn_mk D.F sc__law_keep 2 rfl 4 rfl fun cdv A outer s H E hr hgd => ?_
  have nd := sc__law_keep.nd
  have hu := hu_of hr
  exact (ss_cons (sp_set (i := 2) nd (s_callB (b_max rfl hr.units) X.z_max (sa_cons s_int (sa_cons (s_op o_add (s_var (i := 1)) (s_call g__law_pick hr hgd (sa_cons (s_var (i := 0)) (sa_cons (s_lst (sa_cons s_int (sa_cons s_int (sa_cons (s_un o_neg s_int) (sa_cons s_int (sa_cons (s_un o_neg (s_var (i := 1))) sa_nil)))))) sa_nil)))) sa_nil))))
    (ss_one (sp_ret (s_callTy b_tuple X.z_tuple (sa_cons (s_lc (own := [("i", 3)]) nd (si_rng1 (s_var (i := 2)) X.z_range) (blkOk_by (N := ["deck", "many", "length", "i"]) (sc := defScope S__law_keep) (by decide +kernel)) (fun _ _ _ _ _ => (sgv_name (ws := [3]) (i := 3) nd)) (fun _ _ _ _ _ => stc_nil) (fun _ _ _ _ _ => (s_call g__law_pick hr hgd (sa_cons (s_var (i := 0)) (sa_cons (s_lst (sa_cons s_int (sa_cons s_int (sa_cons s_int (sa_cons s_int (sa_cons s_int (sa_cons s_int (sa_cons (s_call g__law_draw hr hgd (sa_cons (s_var (i := 0)) (sa_cons s_int sa_nil))) sa_nil)))))))) sa_nil))))) sa_nil)))))
def w_is_keep (c : Cl) : MF := mBody 1 ((mRet (mCall 3 (w_are_within c) (mCons (mVar 0) (mCons (mC (.int 0)) (mCons (mC k_BLOCK_WORDS) mNil))))))
theorem ok_is_keep (X : Fx K mg c) (D : DefT K mg "is_keep" S_is_keep) (g_are_within : CalG P w K mg base 3 "are_within" ["thing", "least", "most"] (spM K 3 (w_are_within c))) : FnG P w K mg base 4 D.f D.fd ["thing"] (spM K 1 (w_is_keep c)) := by
  refine fn_mk D.F sc_is_keep 1 rfl 1 rfl fun cdv A outer s H E hr hgd => ?_
  have nd := sc_is_keep.nd
  have hu := hu_of hr
  exact (ss_one (sp_ret (s_call g_are_within hr hgd (sa_cons (s_var (i := 0)) (sa_cons s_int (sa_cons (s_glob X.k_BLOCK_WORDS) sa_nil))))))
def w_Disk_cut (c : Cl) : MF := mBody 5 ((mSeq (mIfS (mNot (mTr (mCall 1 (w_is_keep c) (mCons (mVar 1) mNil)))) mNever mNext)
    (mSeq (mFor (mZip (mUn (uFld (fc__waiting c) "_waiting") (mVar 0)) (mVar 1)) (gTupM 2 (gConsM (gTupM 2 (gConsM (gN 2) (gConsM (gN 3) gNilM))) (gConsM (gN 4) gNilM))) (mAsg (mBin uAdd (mSl (mVar 3) mPNone (mPSome (mVar 4))) (mSl (mBin uIx (mUn (uFld (fc__standing c) "_standing") (mVar 0)) (mVar 2)) (mPSome (mVar 4)) mPNone)) (gSet (mUn (uFld (fc__standing c) "_standing") (mVar 0)) (mVar 2))))
    (mSeq (mDrop (mMeth c.Disk "_wait_for_none" 1 (w_Disk__wait_for_none c) (mVar 0) mNil))
    (mSetF (fc__fuse c) "_fuse" (mVar 0) (mC .non))))))
theorem ok_Disk_cut (X : Fx K mg c) (D : MthT K c.Disk "cut" "Disk.cut" S_Disk_cut) (g_is_keep : CalG P w K mg base 4 "is_keep" ["thing"] (spM K 1 (w_is_keep c))) (g_Disk__wait_for_none : MCalG P w K mg base c.Disk 1 "_wait_for_none" ["self"] (spM K 1 (w_Disk__wait_for_none c))) : FnG P w K mg base 5 D.f D.fd ["self", "keep"] (spM K 2 (w_Disk_cut c)) := by
  refine fn_mk D.F sc_Disk_cut 2 rfl 5 rfl fun cdv A outer s H E hr hgd => ?_
  have nd := sc_Disk_cut.nd
  have hu := hu_of hr
  exact (ss_cons (sp_if (st_not (st_tru (s_call g_is_keep hr hgd (sa_cons (s_var (i := 1)) sa_nil)))) (ss_one sp_never) ss_nil)
    (ss_cons (sp_for (si_zip (s_fld X.f__waiting (s_var (i := 0))) (s_var (i := 1)) X.z_zip) (sg_of (sgv_tup rfl (sgs_cons (sgv_tup rfl (sgs_cons (sgv_name (ws := [0, 1, 2, 3, 4]) (i := 2) nd) (sgs_cons (sgv_name (ws := [0, 1, 2, 3, 4]) (i := 3) nd) sgs_nil))) (sgs_cons (sgv_name (ws := [0, 1, 2, 3, 4]) (i := 4) nd) sgs_nil)))) (ss_one (sp_sub hu (s_fld X.f__standing (s_var (i := 0))) (s_var (i := 2)) (s_op o_add (s_slice (s_var (i := 3)) so_none (so_some (s_var (i := 4)))) (s_slice (s_ix hu (s_fld X.f__standing (s_var (i := 0))) (s_var (i := 2))) (so_some (s_var (i := 4))) so_none)))))
    (ss_cons (sp_expr (s_meth0 X.c_Disk g_Disk__wait_for_none hr hgd (s_var (i := 0))))
    (ss_one (sp_fld X.f__fuse (s_var (i := 0)) s_non)))))
def w__law_fell (c : Cl) : MF := mBody 7 ((mSeq (mAsg (mBin uIx (mVar 0) (mC (.str "stand"))) (gN 2))
    (mSeq (mFor (mEnumL (mBin uIx (mVar 0) (mC (.str "wait")))) (gTupM 2 (gConsM (gN 3) (gConsM (gTupM 2 (gConsM (gN 4) (gConsM (gN 5) gNilM))) gNilM))) (mSeq (mAsg (mIfE (mB (mBin (uCmp fun i j => decide (i < j)) (mVar 3) (mCallB uLen (mCons (mVar 1) mNil)))) (mBin uIx (mVar 1) (mVar 3)) (mC (.int 0))) (gN 6))
    (mAsg (mBin uAdd (mSl (mVar 5) mPNone (mPSome (mVar 6))) (mSl (mBin uIx (mVar 2) (mVar 4)) (mPSome (mVar 6)) mPNone)) (gSet (mVar 2) (mVar 4)))))
    (mSeq (mAsg (mLst mNil) (gSet (mVar 0) (mC (.str "wait"))))
    (mAsg (mC .non) (gSet (mVar 0) (mC (.str "fuse"))))))))
theorem ok__law_fell (X : Fx K mg c) (D : DefT K mg "_law_fell" S__law_fell)  : FnG P w K mg base 1 D.f D.fd ["it", "keep"] (spM K 2 (w__law_fell c)) := by
  refine fn_mk D.F sc__law_fell 2 rfl 7 rfl fun cdv A outer s H E hr hgd => ?_
  have nd := sc__law_fell.nd
  have hu := hu_of hr
  exact (ss_cons (sp_set (i := 2) nd (s_ix hu (s_var (i := 0)) s_str))
    (ss_cons (sp_for (si_enum (s_ix hu (s_var (i := 0)) s_str) X.z_enumerate) (sg_of (sgv_tup rfl (sgs_cons (sgv_name (ws := [0, 1, 2, 3, 4, 5, 6]) (i := 3) nd) (sgs_cons (sgv_tup rfl (sgs_cons (sgv_name (ws := [0, 1, 2, 3, 4, 5, 6]) (i := 4) nd) (sgs_cons (sgv_name (ws := [0, 1, 2, 3, 4, 5, 6]) (i := 5) nd) sgs_nil))) sgs_nil)))) (ss_cons (sp_set (i := 6) nd (s_ifExp (st_cmp o_lt (s_var (i := 3)) (s_callB b_len X.z_len (sa_cons (s_var (i := 1)) sa_nil))) (s_ix hu (s_var (i := 1)) (s_var (i := 3))) s_int))
    (ss_one (sp_sub hu (s_var (i := 2)) (s_var (i := 4)) (s_op o_add (s_slice (s_var (i := 5)) so_none (so_some (s_var (i := 6)))) (s_slice (s_ix hu (s_var (i := 2)) (s_var (i := 4))) (so_some (s_var (i := 6))) so_none))))))
    (ss_cons (sp_sub hu (s_var (i := 0)) s_str (s_lst sa_nil))
    (ss_one (sp_sub hu (s_var (i := 0)) s_str s_non)))))
def w_Disk_standing (c : Cl) : MF := mBody 1 ((mRet (mCallB uTuple (mCons (mUn (uFld (fc__standing c) "_standing") (mVar 0)) mNil))))
theorem ok_Disk_standing (X : Fx K mg c) (D : MthT K c.Disk "standing" "Disk.standing" S_Disk_standing)  : FnG P w K mg base 1 D.f D.fd ["self"] (spM K 1 (w_Disk_standing c)) := by
  refine fn_mk D.F sc_Disk_standing 1 rfl 1 rfl fun cdv A outer s H E hr hgd => ?_
  have nd := sc_Disk_standing.nd
  have hu := hu_of hr
  exact (ss_one (sp_ret (s_callTy b_tuple X.z_tuple (sa_cons (s_fld X.f__standing (s_var (i := 0))) sa_nil))))
def w_Disk_waiting (c : Cl) : MF := mBody 1 ((mRet (mCallB uTuple (mCons (mUn (uFld (fc__waiting c) "_waiting") (mVar 0)) mNil))))
theorem ok_Disk_waiting (X : Fx K mg c) (D : MthT K c.Disk "waiting" "Disk.waiting" S_Disk_waiting)  : FnG P w K mg base 1 D.f D.fd ["self"] (spM K 1 (w_Disk_waiting c)) := by
  refine fn_mk D.F sc_Disk_waiting 1 rfl 1 rfl fun cdv A outer s H E hr hgd => ?_
  have nd := sc_Disk_waiting.nd
  have hu := hu_of hr
  exact (ss_one (sp_ret (s_callTy b_tuple X.z_tuple (sa_cons (s_fld X.f__waiting (s_var (i := 0))) sa_nil))))
def w_Disk_read (c : Cl) : MF := mBody 2 ((mSeq (mDrop (mMeth c.Disk "_check_place" 2 (w_Disk__check_place c) (mVar 0) (mCons (mVar 1) mNil)))
    (mRet (mIfE (mB (mBin (uIn false) (mVar 1) (mUn (uFld (fc__newest c) "_newest") (mVar 0)))) (mBin uIx (mUn (uFld (fc__newest c) "_newest") (mVar 0)) (mVar 1)) (mBin uIx (mUn (uFld (fc__standing c) "_standing") (mVar 0)) (mVar 1))))))
theorem ok_Disk_read (X : Fx K mg c) (D : MthT K c.Disk "read" "Disk.read" S_Disk_read) (g_Disk__check_place : MCalG P w K mg base c.Disk 3 "_check_place" ["self", "place"] (spM K 2 (w_Disk__check_place c))) : FnG P w K mg base 4 D.f D.fd ["self", "place"] (spM K 2 (w_Disk_read c)) := by
  refine fn_mk D.F sc_Disk_read 2 rfl 2 rfl fun cdv A outer s H E hr hgd => ?_
  have nd := sc_Disk_read.nd
  have hu := hu_of hr
  exact (ss_cons (sp_expr (s_meth X.c_Disk g_Disk__check_place hr hgd (s_var (i := 0)) (sa_cons (s_var (i := 1)) sa_nil)))
    (ss_one (sp_ret (s_ifExp (st_cmp (o_in hu) (s_var (i := 1)) (s_fld X.f__newest (s_var (i := 0)))) (s_ix hu (s_fld X.f__newest (s_var (i := 0))) (s_var (i := 1))) (s_ix hu (s_fld X.f__standing (s_var (i := 0))) (s_var (i := 1)))))))
def w_law (c : Cl) : MF := mBody 13 ((mSeq (mAsg (mCall 1 (w__law_deck c) (mCons (mVar 0) mNil)) (gN 1))
    (mSeq (mAsg (mCall 1 (w__law_drawn_sizes c) (mCons (mVar 1) mNil)) (gN 2))
    (mSeq (mAsg (mTup (mCons (mMakeK c.Disk 3 [1, 0] 2 (w_Disk___init__ c) (mCons (mBin uIx (mVar 2) (mC (.int 1))) (mCons (mBin uIx (mVar 2) (mC (.int 0))) mNil))) (mCons (mCall 1 (w__law_blank c) (mCons (mVar 2) mNil)) mNil))) (gTupM 2 (gConsM (gN 3) (gConsM (gN 4) gNilM))))
    (mSeq (mFor (mRng1 (mC (.int 4))) (gN 5) (mSeq (mAsg (mLc (mRng1 (mC (.int 3))) (gN 7) mYes (mCall 2 (w__law_draw c) (mCons (mVar 1) (mCons (mCall 1 (w__law_many c) (mCons (mVar 2) mNil)) mNil))) [7]) (gN 6))
    (mSeq (mFor (mRng1 (mCall 2 (w__law_draw c) (mCons (mVar 1) (mCons (mC (.int 3)) mNil)))) (gN 7) (mSeq (mPar 8 9 (mCall 2 (w__law_pick c) (mCons (mVar 1) (mCons (mVar 6) mNil))) (mCall 1 (w__law_block c) (mCons (mVar 1) mNil)))
    (mSeq (mDrop (mMeth c.Disk "write" 3 (w_Disk_write c) (mVar 3) (mCons (mVar 8) (mCons (mVar 9) mNil))))
    (mAsg (mBin uAdd (mBin uIx (mVar 4) (mC (.str "wait"))) (mLst (mCons (mTup (mCons (mVar 8) (mCons (mVar 9) mNil))) mNil))) (gSet (mVar 4) (mC (.str "wait")))))))
    (mSeq (mDrop (mMeth c.Disk "force" 1 (w_Disk_force c) (mVar 3) mNil))
    (mSeq (mDrop (mCall 1 (w__law_forced c) (mCons (mVar 4) mNil)))
    (mSeq (mAsg (mCall 2 (w__law_draw c) (mCons (mVar 1) (mCons (mC (.int 10)) mNil))) (gN 10))
    (mSeq (mFor (mRng1 (mVar 10)) (gN 7) (mSeq (mPar 8 9 (mCall 2 (w__law_pick c) (mCons (mVar 1) (mCons (mVar 6) mNil))) (mCall 1 (w__law_block c) (mCons (mVar 1) mNil)))
    (mSeq (mDrop (mMeth c.Disk "write" 3 (w_Disk_write c) (mVar 3) (mCons (mVar 8) (mCons (mVar 9) mNil))))
    (mAsg (mBin uAdd (mBin uIx (mVar 4) (mC (.str "wait"))) (mLst (mCons (mTup (mCons (mVar 8) (mCons (mVar 9) mNil))) mNil))) (gSet (mVar 4) (mC (.str "wait")))))))
    (mSeq (mAsg (mCall 2 (w__law_draw c) (mCons (mVar 1) (mCons (mC (.int 6)) mNil))) (gN 11))
    (mSeq (mAsg (mIfE (mB (mBin (uEq false) (mVar 11) (mC (.int 0)))) (mBin uMul (mTup (mCons (mC (.int 32)) mNil)) (mVar 10)) (mIfE (mB (mBin (uEq false) (mVar 11) (mC (.int 1)))) (mTup mNil) (mIfE (mB (mBin (uEq false) (mVar 11) (mC (.int 2)))) (mBin uMul (mTup (mCons (mCall 2 (w__law_draw c) (mCons (mVar 1) (mCons (mC (.int 33)) mNil))) mNil)) (mVar 10)) (mCall 2 (w__law_keep c) (mCons (mVar 1) (mCons (mVar 10) mNil)))))) (gN 12))
    (mSeq (mIfS (mB (mBin (uEq true) (mCallB uRepr (mCons (mIfE (mB (mBin (uCmp fun i j => decide (i < j)) (mVar 5) (mC (.int 2)))) (mMeth c.Disk "cut" 2 (w_Disk_cut c) (mVar 3) (mCons (mVar 12) mNil)) (mMethK c.Disk "cut" 2 [0] 1 (w_Disk_cut c) (mVar 3) (mCons (mVar 12) mNil))) mNil)) (mC (.str "None")))) (mRet (mC (.bl false))) mNext)
    (mSeq (mDrop (mCall 2 (w__law_fell c) (mCons (mVar 4) (mCons (mVar 12) mNil))))
    (mSeq (mIfS (mB (mBin (uEq true) (mCallB uRepr (mCons (mTup (mCons (mMeth c.Disk "waiting" 1 (w_Disk_waiting c) (mVar 3) mNil) (mCons (mMeth c.Disk "standing" 1 (w_Disk_standing c) (mVar 3) mNil) mNil))) mNil)) (mCallB uRepr (mCons (mTup (mCons (mTup mNil) (mCons (mCallB uTuple (mCons (mBin uIx (mVar 4) (mC (.str "stand"))) mNil)) mNil))) mNil)))) (mRet (mC (.bl false))) mNext)
    (mSeq (mIfS (mB (mBin (uEq true) (mCallB uRepr (mCons (mLc (mIt (mVar 6)) (gN 8) mYes (mMeth c.Disk "read" 2 (w_Disk_read c) (mVar 3) (mCons (mVar 8) mNil)) [8]) mNil)) (mCallB uRepr (mCons (mLc (mIt (mVar 6)) (gN 8) mYes (mBin uIx (mBin uIx (mVar 4) (mC (.str "stand"))) (mVar 8)) [8]) mNil)))) (mRet (mC (.bl false))) mNext)
    (mSeq (mDrop (mMeth c.Disk "cut" 2 (w_Disk_cut c) (mVar 3) (mCons (mBin uMul (mTup (mCons (mC (.int 32)) mNil)) (mBin uAdd (mC (.int 1)) (mVar 10))) mNil)))
    (mIfS (mB (mBin (uEq true) (mCallB uRepr (mCons (mMeth c.Disk "standing" 1 (w_Disk_standing c) (mVar 3) mNil) mNil)) (mCallB uRepr (mCons (mCallB uTuple (mCons (mBin uIx (mVar 4) (mC (.str "stand"))) mNil)) mNil)))) (mRet (mC (.bl false))) mNext)))))))))))))))
    (mRet (mC (.bl true))))))))
theorem ok_law (X : Fx K mg c) (D : DefT K mg "law" S_law) (g__law_deck : CalG P w K mg base 1 "_law_deck" ["script"] (spM K 1 (w__law_deck c))) (g__law_drawn_sizes : CalG P w K mg base 2 "_law_drawn_sizes" ["deck"] (spM K 1 (w__law_drawn_sizes c))) (g_Disk___init__ : ICalG P w K mg base c.Disk 3 ["self", "segments", "blocks"] (spM K 3 (w_Disk___init__ c))) (g__law_blank : CalG P w K mg base 2 "_law_blank" ["sizes"] (spM K 1 (w__law_blank c))) (g__law_draw : CalG P w K mg base 1 "_law_draw" ["deck", "below"] (spM K 2 (w__law_draw c))) (g__law_many : CalG P w K mg base 1 "_law_many" ["sizes"] (spM K 1 (w__law_many c))) (g__law_pick : CalG P w K mg base 2 "_law_pick" ["deck", "some"] (spM K 2 (w__law_pick c))) (g__law_block : CalG P w K mg base 4 "_law_block" ["deck"] (spM K 1 (w__law_block c))) (g_Disk_write : MCalG P w K mg base c.Disk 6 "write" ["self", "place", "block"] (spM K 3 (w_Disk_write c))) (g_Disk_force : MCalG P w K mg base c.Disk 2 "force" ["self"] (spM K 1 (w_Disk_force c))) (g__law_forced : CalG P w K mg base 1 "_law_forced" ["it"] (spM K 1 (w__law_forced c))) (g__law_keep : CalG P w K mg base 3 "_law_keep" ["deck", "many"] (spM K 2 (w__law_keep c))) (g_Disk_cut : MCalG P w K mg base c.Disk 5 "cut" ["self", "keep"] (spM K 2 (w_Disk_cut c))) (g__law_fell : CalG P w K mg base 1 "_law_fell" ["it", "keep"] (spM K 2 (w__law_fell c))) (g_Disk_standing : MCalG P w K mg base c.Disk 1 "standing" ["self"] (spM K 1 (w_Disk_standing c))) (g_Disk_waiting : MCalG P w K mg base c.Disk 1 "waiting" ["self"] (spM K 1 (w_Disk_waiting c))) (g_Disk_read : MCalG P w K mg base c.Disk 4 "read" ["self", "place"] (spM K 2 (w_Disk_read c))) (kb_Disk___init___1_blocks_segments : KB K g_Disk___init__.fd ["self", "segments", "blocks"] 1 ["blocks", "segments"] [1, 0]) (kb_Disk_cut_1_keep : KB K g_Disk_cut.fd ["self", "keep"] 1 ["keep"] [0]) : FnG P w K mg base 7 D.f D.fd ["script"] (spM K 1 (w_law c)) := by
  refine fn_mk D.F sc_law 1 rfl 13 rfl fun cdv A outer s H E hr hgd => ?_
  have nd := sc_law.nd
  have hu := hu_of hr
  exact (ss_cons (sp_set (i := 1) nd (s_call g__law_deck hr hgd (sa_cons (s_var (i := 0)) sa_nil)))
    (ss_cons (sp_set (i := 2) nd (s_call g__law_drawn_sizes hr hgd (sa_cons (s_var (i := 1)) sa_nil)))
    (ss_cons (sp_asg (s_tup (sa_cons (s_makeK g_Disk___init__ kb_Disk___init___1_blocks_segments X.g_Disk hr hgd (sk_cons (s_ix hu (s_var (i := 2)) s_int) (sk_cons (s_ix hu (s_var (i := 2)) s_int) sk_nil))) (sa_cons (s_call g__law_blank hr hgd (sa_cons (s_var (i := 2)) sa_nil)) sa_nil))) (sg_of (sgv_tup rfl (sgs_cons (sgv_name (ws := [0, 1, 2, 3, 4, 5, 6, 7, 8, 9, 10, 11, 12]) (i := 3) nd) (sgs_cons (sgv_name (ws := [0, 1, 2, 3, 4, 5, 6, 7, 8, 9, 10, 11, 12]) (i := 4) nd) sgs_nil)))))
    (ss_cons (sp_for (si_rng1 s_int X.z_range) (sg_of (sgv_name (ws := [0, 1, 2, 3, 4, 5, 6, 7, 8, 9, 10, 11, 12]) (i := 5) nd)) (ss_cons (by first | exact (sp_setLc (i := 6) (own := [("turn", 7)]) nd (si_rng1 s_int X.z_range) (blkOk_by (N := ["script", "deck", "sizes", "disk", "it", "go", "few", "turn", "place", "block", "many", "way", "keep"]) (sc := defScope S_law) (by decide +kernel)) (fun _ _ _ _ _ => (sgv_name (ws := [7]) (i := 7) nd)) (fun _ _ _ _ _ => stc_nil) (fun _ _ _ _ _ => (s_call g__law_draw hr hgd (sa_cons (s_var (i := 1)) (sa_cons (s_call g__law_many hr hgd (sa_cons (s_var (i := 2)) sa_nil)) sa_nil))))) | exact (sp_set (i := 6) nd (s_lc (own := [("turn", 7)]) nd (si_rng1 s_int X.z_range) (blkOk_by (N := ["script", "deck", "sizes", "disk", "it", "go", "few", "turn", "place", "block", "many", "way", "keep"]) (sc := defScope S_law) (by decide +kernel)) (fun _ _ _ _ _ => (sgv_name (ws := [7]) (i := 7) nd)) (fun _ _ _ _ _ => stc_nil) (fun _ _ _ _ _ => (s_call g__law_draw hr hgd (sa_cons (s_var (i := 1)) (sa_cons (s_call g__law_many hr hgd (sa_cons (s_var (i := 2)) sa_nil)) sa_nil)))))))
    (ss_cons (sp_for (si_rng1 (s_call g__law_draw hr hgd (sa_cons (s_var (i := 1)) (sa_cons s_int sa_nil))) X.z_range) (sg_of (sgv_name (ws := [0, 1, 2, 3, 4, 5, 6, 7, 8, 9, 10, 11, 12]) (i := 7) nd)) (ss_cons (sp_par (i := 8) (j := 9) nd (s_call g__law_pick hr hgd (sa_cons (s_var (i := 1)) (sa_cons (s_var (i := 6)) sa_nil))) (s_call g__law_block hr hgd (sa_cons (s_var (i := 1)) sa_nil)))
    (ss_cons (sp_expr (s_meth X.c_Disk g_Disk_write hr hgd (s_var (i := 3)) (sa_cons (s_var (i := 8)) (sa_cons (s_var (i := 9)) sa_nil))))
    (ss_one (sp_sub hu (s_var (i := 4)) s_str (s_op o_add (s_ix hu (s_var (i := 4)) s_str) (s_lst (sa_cons (s_tup (sa_cons (s_var (i := 8)) (sa_cons (s_var (i := 9)) sa_nil))) sa_nil))))))))
    (ss_cons (sp_expr (s_meth0 X.c_Disk g_Disk_force hr hgd (s_var (i := 3))))
    (ss_cons (sp_expr (s_call g__law_forced hr hgd (sa_cons (s_var (i := 4)) sa_nil)))
    (ss_cons (sp_set (i := 10) nd (s_call g__law_draw hr hgd (sa_cons (s_var (i := 1)) (sa_cons s_int sa_nil))))
    (ss_cons (sp_for (si_rng1 (s_var (i := 10)) X.z_range) (sg_of (sgv_name (ws := [0, 1, 2, 3, 4, 5, 6, 7, 8, 9, 10, 11, 12]) (i := 7) nd)) (ss_cons (sp_par (i := 8) (j := 9) nd (s_call g__law_pick hr hgd (sa_cons (s_var (i := 1)) (sa_cons (s_var (i := 6)) sa_nil))) (s_call g__law_block hr hgd (sa_cons (s_var (i := 1)) sa_nil)))
    (ss_cons (sp_expr (s_meth X.c_Disk g_Disk_write hr hgd (s_var (i := 3)) (sa_cons (s_var (i := 8)) (sa_cons (s_var (i := 9)) sa_nil))))
    (ss_one (sp_sub hu (s_var (i := 4)) s_str (s_op o_add (s_ix hu (s_var (i := 4)) s_str) (s_lst (sa_cons (s_tup (sa_cons (s_var (i := 8)) (sa_cons (s_var (i := 9)) sa_nil))) sa_nil))))))))
    (ss_cons (sp_set (i := 11) nd (s_call g__law_draw hr hgd (sa_cons (s_var (i := 1)) (sa_cons s_int sa_nil))))
    (ss_cons (sp_set (i := 12) nd (s_ifExp (st_cmp (o_eq hr.units) (s_var (i := 11)) s_int) (s_op o_mul (s_tup (sa_cons s_int sa_nil)) (s_var (i := 10))) (s_ifExp (st_cmp (o_eq hr.units) (s_var (i := 11)) s_int) (s_tup sa_nil) (s_ifExp (st_cmp (o_eq hr.units) (s_var (i := 11)) s_int) (s_op o_mul (s_tup (sa_cons (s_call g__law_draw hr hgd (sa_cons (s_var (i := 1)) (sa_cons s_int sa_nil))) sa_nil)) (s_var (i := 10))) (s_call g__law_keep hr hgd (sa_cons (s_var (i := 1)) (sa_cons (s_var (i := 10)) sa_nil)))))))
    (ss_cons (sp_if (st_cmp (o_ne hr.units) (s_callB (b_repr hgd hr.units) X.z_repr (sa_cons (s_ifExp (st_cmp o_lt (s_var (i := 5)) s_int) (s_meth X.c_Disk g_Disk_cut hr hgd (s_var (i := 3)) (sa_cons (s_var (i := 12)) sa_nil)) (s_methK X.c_Disk g_Disk_cut kb_Disk_cut_1_keep hr hgd (s_var (i := 3)) (sk_cons (s_var (i := 12)) sk_nil))) sa_nil)) s_str) (ss_one (sp_ret s_bl)) ss_nil)
    (ss_cons (sp_expr (s_call g__law_fell hr hgd (sa_cons (s_var (i := 4)) (sa_cons (s_var (i := 12)) sa_nil))))
    (ss_cons (sp_if (st_cmp (o_ne hr.units) (s_callB (b_repr hgd hr.units) X.z_repr (sa_cons (s_tup (sa_cons (s_meth0 X.c_Disk g_Disk_waiting hr hgd (s_var (i := 3))) (sa_cons (s_meth0 X.c_Disk g_Disk_standing hr hgd (s_var (i := 3))) sa_nil))) sa_nil)) (s_callB (b_repr hgd hr.units) X.z_repr (sa_cons (s_tup (sa_cons (s_tup sa_nil) (sa_cons (s_callTy b_tuple X.z_tuple (sa_cons (s_ix hu (s_var (i := 4)) s_str) sa_nil)) sa_nil))) sa_nil))) (ss_one (sp_ret s_bl)) ss_nil)
    (ss_cons (sp_if (st_cmp (o_ne hr.units) (s_callB (b_repr hgd hr.units) X.z_repr (sa_cons (s_lc (own := [("place", 8)]) nd (si_seq (s_var (i := 6))) (blkOk_by (N := ["script", "deck", "sizes", "disk", "it", "go", "few", "turn", "place", "block", "many", "way", "keep"]) (sc := defScope S_law) (by decide +kernel)) (fun _ _ _ _ _ => (sgv_name (ws := [8]) (i := 8) nd)) (fun _ _ _ _ _ => stc_nil) (fun _ _ _ _ _ => (s_meth X.c_Disk g_Disk_read hr hgd (s_var (i := 3)) (sa_cons (s_var (i := 8)) sa_nil)))) sa_nil)) (s_callB (b_repr hgd hr.units) X.z_repr (sa_cons (s_lc (own := [("place", 8)]) nd (si_seq (s_var (i := 6))) (blkOk_by (N := ["script", "deck", "sizes", "disk", "it", "go", "few", "turn", "place", "block", "many", "way", "keep"]) (sc := defScope S_law) (by decide +kernel)) (fun _ _ _ _ _ => (sgv_name (ws := [8]) (i := 8) nd)) (fun _ _ _ _ _ => stc_nil) (fun _ _ _ _ _ => (s_ix hu (s_ix hu (s_var (i := 4)) s_str) (s_var (i := 8))))) sa_nil))) (ss_one (sp_ret s_bl)) ss_nil)
    (ss_cons (sp_expr (s_meth X.c_Disk g_Disk_cut hr hgd (s_var (i := 3)) (sa_cons (s_op o_mul (s_tup (sa_cons s_int sa_nil)) (s_op o_add s_int (s_var (i := 10)))) sa_nil)))
    (ss_one (sp_if (st_cmp (o_ne hr.units) (s_callB (b_repr hgd hr.units) X.z_repr (sa_cons (s_meth0 X.c_Disk g_Disk_standing hr hgd (s_var (i := 3))) sa_nil)) (s_callB (b_repr hgd hr.units) X.z_repr (sa_cons (s_callTy b_tuple X.z_tuple (sa_cons (s_ix hu (s_var (i := 4)) s_str) sa_nil)) sa_nil))) (ss_one (sp_ret s_bl)) ss_nil))))))))))))))))
    (ss_one (sp_ret s_bl))))))
end
end Tk13

namespace Tk
open PySem PySem.Spec PyProof.Rows L2
section
variable {P : Program} {w : World} {K : PySem.W.Frag} {mg mb : Str → Option Value}
/-- the end: from the law's run at any tracked heap in which the script and the tuple t are to be read -/
theorem walk_lawF {l : PySem.W.OpenLaw} {n : Nat} {q : Program} {loose : List Str} {XP : (Str → Option Value) → Heap → Prop} {YP : World → Heap → Prop} {d : DefRec} {K : Params → PySem.W.Frag} {x : Str} {zs : List V}
    (hn : l.most = some n) (hn2 : n ≤ sizeLine) (hdf : d.params.defaults = []) (hY : ∀ (w : World) (h : Heap), YP w h → (K w.params).In h)
    (F : ∀ (w : World) (mg : Str → Option Value) (fa : Addr) (h : Heap), (K w.params).In h → h.Ns mainGlobals mg → XP mg h → mg d.name = some (.ref fa) →
      ∃ (fd : FuncData) (t : Addr), TupAt h t zs ∧ (∀ (s : Shared) (u : Value), BindsTo s fd ⟨[u], []⟩ [(x, u)]) ∧
        ∀ (base : Heap) (s₁ : Shared) (H : Hp) (a : Addr) (u : Value) (ns : List Int), Env0 l.prog w (K w.params) mg base callerA [] s₁ H → BindsTo s₁ fd ⟨[u], []⟩ [(x, u)] → u = .ref a →
          Sm.SqF (K w.params) H a (ns.map V.int) → ns.length ≤ n → SqT (K w.params) H t zs → (∀ b, H b ≠ none → b = a ∨ b = t) →
          codeAny (model l.prog w) callerA (.call (.ref fa) ⟨[u], []⟩) (CR CX0 [] l.prog w H s₁ (fun v _ => v = .bl true) E0) s₁) :
    PySem.W.WalkO q loose XP YP l.row.toRowW d [] (fun f vs => PySem.call f vs) := by
  refine Att.attach_call hn hdf fun w s₀ s₁ mg mb fa o pm cd doc a vs ns G Y ho hd hcd hmg hobj hints hlen hg => ?_
  have KX := hY w _ Y
  obtain ⟨fd, t, ht, hbind, run⟩ := F w mg fa _ KX G.T.g G.X hmg
  obtain ⟨ot, its, nt, e1, e2, e3, e4, e5⟩ := ht.ex
  have rv := vals_ints hints
  have hz : (ns.map V.int).length ≤ sizeLine := by rw [List.length_map]; exact Nat.le_trans hlen hn2
  have nat : t ≠ a := fun z => by
    rw [z, hobj] at e1
    cases e1
    exact absurd (show Value.type "list" = Value.type "tuple" from e2) (by decide)
  let Ha : Option HO := match (K w.params).lookup a with
    | none => some (.frz { cls := .type "list", data := .seq vs.toArray } (.lst (ns.map V.int)))
    | some _ => none
  let Ht : Option HO := match (K w.params).lookup t with
    | none => some (.frz ot (.tup zs))
    | some _ => none
  let H : Hp := fun b => if b = a then Ha else if b = t then Ht else none
  have hHa : H a = Ha := if_pos rfl
  have hHt : H t = Ht := by
    show (if t = a then Ha else if t = t then Ht else none) = Ht
    rw [if_neg nat, if_pos rfl]
  have hHo : ∀ b, b ≠ a → b ≠ t → H b = none := fun b n1 n2 => by
    show (if b = a then Ha else if b = t then Ht else none) = none
    rw [if_neg n1, if_neg n2]
  have cases3 : ∀ b, H b ≠ none → b = a ∨ b = t := fun b z => by
    by_cases n1 : b = a
    · exact .inl n1
    · by_cases n2 : b = t
      · exact .inr n2
      · exact absurd (hHo b n1 n2) z
  have Sa : Sm.SqF (K w.params) H a (ns.map V.int) := by
    cases k : (K w.params).lookup a with
    | none => exact .inl (⟨_, by rw [hHa]; show (match (K w.params).lookup a with | none => _ | some _ => _) = _; rw [k]⟩)
    | some oa =>
      have e := KX a oa k
      rw [hobj] at e
      cases e
      exact .inr ⟨_, vs.toArray, _, k, rfl, rfl, rfl, by rw [List.size_toArray, hints.length]; exact Nat.le_trans hlen hn2, by simpa using rv⟩
  have St : SqT (K w.params) H t zs := by
    cases k : (K w.params).lookup t with
    | none => exact .inl (.inr ⟨_, by rw [hHt]; show (match (K w.params).lookup t with | none => _ | some _ => _) = _; rw [k]⟩)
    | some oa =>
      have e := KX t oa k
      rw [e1] at e
      cases e
      exact .inr ⟨_, its.toArray, _, k, e2, e3, by rw [List.size_toArray, ← e4.length]; exact e5, by simpa using e4⟩
  refine law_core (H := H) KX G.T.g G.T.b G.T.builtins G.T.nolimit hg (fun b => ?_) (fun b u z => ?_) (fun b z => ?_) (fun b ob es ep e dd => ?_)
    (fun base _ _ en => run base s₁ H a _ ns en (hbind s₁ _) rfl Sa hlen St cases3)
  · by_cases n1 : b = a
    · subst n1
      cases k : (K w.params).lookup b with
      | none => exact .inr ⟨_, _, by rw [hHa]; show (match (K w.params).lookup b with | none => _ | some _ => _) = _; rw [k]⟩
      | some oa => exact .inl (by rw [hHa]; show (match (K w.params).lookup b with | none => _ | some _ => _) = _; rw [k])
    · by_cases n2 : b = t
      · subst n2
        cases k : (K w.params).lookup b with
        | none => exact .inr ⟨_, _, by rw [hHt]; show (match (K w.params).lookup b with | none => _ | some _ => _) = _; rw [k]⟩
        | some oa => exact .inl (by rw [hHt]; show (match (K w.params).lookup b with | none => _ | some _ => _) = _; rw [k])
      · exact .inl (hHo b n1 n2)
  · rcases cases3 b (by rw [z]; exact nofun) with n1 | n2
    · subst n1
      cases k : (K w.params).lookup b with
      | none =>
        have y : H b = some (.frz { cls := .type "list", data := .seq vs.toArray } (.lst (ns.map V.int))) := by rw [hHa]; show (match (K w.params).lookup b with | none => _ | some _ => _) = _; rw [k]
        rw [z] at y
        cases y
        exact ⟨hobj, hz, vs, _, rv, hobj⟩
      | some oa =>
        have y : H b = none := by rw [hHa]; show (match (K w.params).lookup b with | none => _ | some _ => _) = _; rw [k]
        rw [z] at y
        cases y
    · subst n2
      cases k : (K w.params).lookup b with
      | none =>
        have y : H b = some (.frz ot (.tup zs)) := by rw [hHt]; show (match (K w.params).lookup b with | none => _ | some _ => _) = _; rw [k]
        rw [z] at y
        cases y
        exact ⟨e1, e5, its, e4, ot, e1, e2, _, e3⟩
      | some oa =>
        have y : H b = none := by rw [hHt]; show (match (K w.params).lookup b with | none => _ | some _ => _) = _; rw [k]
        rw [z] at y
        cases y
  · rcases cases3 b z with n1 | n2
    · subst n1
      cases k : (K w.params).lookup b with
      | none => rfl
      | some oa => exact absurd (by rw [hHa]; show (match (K w.params).lookup b with | none => _ | some _ => _) = _; rw [k]) z
    · subst n2
      cases k : (K w.params).lookup b with
      | none => rfl
      | some oa => exact absurd (by rw [hHt]; show (match (K w.params).lookup b with | none => _ | some _ => _) = _; rw [k]) z
  · by_cases n1 : b = a
    · subst n1
      rw [hobj] at e
      cases e
      cases dd
    · by_cases n2 : b = t
      · subst n2
        rw [e1] at e
        cases e
        rw [e3] at dd
        cases dd
      · exact hHo b n1 n2
end
end Tk

namespace Sm
open PySem PySem.Spec PyProof.Rows L2 Tk
theorem lit_ints {h : Heap} : ∀ {vs : List Value} {zs : List Int} {as : List Addr}, PySem.W.ReadsAllW [] (fun _ => none) h vs (zs.map PySem.W.WData.int) as → Vals (zs.map V.int) vs
  | _, [], _, r => by cases r; exact .nil
  | _, z :: zs, _, r => by
    cases r with
    | cons r1 r2 =>
      cases r1
      exact .cons ⟨_, rfl⟩ (lit_ints r2)
theorem loose_int {lv : List (Str × PySem.W.WData)} {mg : Str → Option Value} {h : Heap} {n : Str} {i : Int} (L : PySem.W.LooseAre lv mg h) (m : (n, PySem.W.WData.int i) ∈ lv) : ∃ t, mg n = some (.int i t) := by
  obtain ⟨v, e, r⟩ := L.val _ m
  cases r
  exact ⟨_, e⟩
theorem loose_tup {lv : List (Str × PySem.W.WData)} {mg : Str → Option Value} {h : Heap} {n : Str} {zs : List Int} (L : PySem.W.LooseAre lv mg h) (m : (n, PySem.W.WData.tuple (zs.map PySem.W.WData.int)) ∈ lv) (hz : zs.length ≤ sizeLine) : ∃ b, mg n = some (.ref b) ∧ TupAt h b (zs.map V.int) := by
  obtain ⟨v, e, r⟩ := L.val _ m
  cases r with
  | @tuple a o vs k xs as h1 h2 h3 h4 =>
    exact ⟨a, e, ⟨o, vs.toList, k, h1, h2, by simpa using h3, lit_ints h4, by rw [List.length_map]; exact hz⟩⟩
/-- the law's run, from its def's piece -/
theorem run_of {P : Program} {w : World} {K : PySem.W.Frag} {mg : Str → Option Value} {base : Heap} {k : Nat} {f : Addr} {fd : FuncData} [ZC] {F : MF} {s₁ : Shared} {H : Hp} {a : Addr} {u : Value} {ns : List Int} (G : FnG P w K mg base k f fd ["script"] (spM K 1 F)) (hk : k ≤ 40) (en : Env0 P w K mg base callerA [] s₁ H)
    (hb : BindsTo s₁ fd ⟨[u], []⟩ [("script", u)]) (hu : u = .ref a) (hS : SqF K H a (ns.map V.int)) (hZ : ∀ as' H', Ev [] H as' H' → ZC.Z as' H') (main : F [.fz (ns.map U.int)] [] fun u _ => u = .bl true) :
    codeAny (model P w) callerA (.call (.ref f) ⟨[u], []⟩) (CR CX0 [] P w H s₁ (fun v _ => v = .bl true) E0) s₁ := by
  subst hu
  refine G.run callerA [] s₁ H ⟨[.ref a], []⟩ [.ref a] [.ref a] _ E0 ((⟨rfl, by decide, by decide⟩ : Room 40 callerA).mono hk) rfl en hb (.cons rfl .nil) ⟨rfl, [.fz (ns.map U.int)], [], [], fun u _ => u = .bl true, .cons (.fz hS (by simp) (prd_ix (intsU_rv ns))) .nil, ⟨rfl, List.nodup_nil, fun i o b h => by simp at h, hZ⟩, main, fun u mh e v H' as' ev r rh => ?_⟩
  subst e
  exact r.bb
end Sm

/-! What the pure propositions over plain heaps want: frames, loops, comprehensions, data. -/
namespace Sm
open PySem PySem.Spec PyProof.Rows L2 Tk

/-! ### frames -/
/-- what lay before lies there still, but for X -/
def Fr (X : List Nat) (mh mh' : MH) : Prop := mh.length ≤ mh'.length ∧ ∀ i : Nat, i < mh.length → i ∉ X → mh'[i]? = mh[i]?
theorem Fr.refl {X : List Nat} {mh : MH} : Fr X mh mh := ⟨Nat.le_refl _, fun _ _ _ => rfl⟩
theorem Fr.trans {X : List Nat} {a b c : MH} (h : Fr X a b) (k : Fr X b c) : Fr X a c :=
  ⟨Nat.le_trans h.1 k.1, fun i l n => (k.2 i (Nat.lt_of_lt_of_le l h.1) n).trans (h.2 i l n)⟩
theorem Fr.mono {X Y : List Nat} {a b : MH} (h : Fr X a b) (s : ∀ i, i ∈ X → i ∈ Y) : Fr Y a b := ⟨h.1, fun i l n => h.2 i l fun z => n (s i z)⟩
theorem Fr.up {Y : List Nat} {a b : MH} (h : Fr [] a b) : Fr Y a b := h.mono fun i z => by cases z
theorem Fr.new {X : List Nat} {a b : MH} {t : List MO} (h : Fr X a b) : Fr X a (b ++ t) :=
  ⟨by rw [List.length_append]; exact Nat.le_trans h.1 (Nat.le_add_right _ _), fun i l n => by
    rw [List.getElem?_append_left (Nat.lt_of_lt_of_le l h.1)]; exact h.2 i l n⟩
theorem Fr.app {X : List Nat} {a : MH} {t : List MO} : Fr X a (a ++ t) := Fr.refl.new
theorem Fr.put {X : List Nat} {a b : MH} {n : Nat} {o : MO} (h : Fr X a b) (e : n ∈ X ∨ a.length ≤ n) : Fr X a (b.set n o) :=
  ⟨by rw [List.length_set]; exact h.1, fun i l m => by
    have : n ≠ i := by
      rintro rfl
      rcases e with e | e
      · exact m e
      · omega
    rw [List.getElem?_set_ne this]; exact h.2 i l m⟩
/-- X may hold objects that are new -/
theorem Fr.less {X Y : List Nat} {a b : MH} (h : Fr X a b) (s : ∀ i, i ∈ X → i < a.length → i ∈ Y) : Fr Y a b := ⟨h.1, fun i l n => h.2 i l fun z => n (s i z l)⟩
theorem Fr.then {X Y : List Nat} {a b c : MH} (h : Fr Y a b) (k : Fr X b c) (s : ∀ i, i ∈ X → i < a.length → i ∈ Y) : Fr Y a c :=
  ⟨Nat.le_trans h.1 k.1, fun i l n => (k.2 i (Nat.lt_of_lt_of_le l h.1) fun z => n (s i z l)).trans (h.2 i l n)⟩
theorem Fr.get {X : List Nat} {a b : MH} {i : Nat} {o : MO} (h : Fr X a b) (e : a[i]? = some o) (n : i ∉ X) : b[i]? = some o := by
  rw [h.2 i (List.getElem?_eq_some_iff.mp e).1 n]; exact e
theorem Fr.get0 {a b : MH} {i : Nat} {o : MO} (h : Fr [] a b) (e : a[i]? = some o) : b[i]? = some o := h.get e (by simp)
theorem lt_of {a : MH} {i : Nat} {o : MO} (e : a[i]? = some o) : i < a.length := (List.getElem?_eq_some_iff.mp e).1
theorem ne_len {a : MH} {i : Nat} {o : MO} (e : a[i]? = some o) : i ≠ a.length := Nat.ne_of_lt (lt_of e)
theorem ne_of2 {a : MH} {i j : Nat} {o p : MO} (e : a[i]? = some o) (f : a[j]? = some p) (h : o ≠ p) : i ≠ j := fun z => by subst z; rw [e] at f; exact h (Option.some.inj f)
theorem get_app {a t : MH} {i : Nat} {o : MO} (e : a[i]? = some o) : (a ++ t)[i]? = some o := by
  rw [List.getElem?_append_left (lt_of e)]; exact e
theorem get_new {a : MH} {o : MO} : (a ++ [o])[a.length]? = some o := by simp
theorem get_set {a : MH} {i : Nat} {o p : MO} (e : a[i]? = some o) : (a.set i p)[i]? = some p := by
  rw [List.getElem?_set_self (lt_of e)]
theorem get_put {a : MH} {i j : Nat} {o p : MO} (e : a[j]? = some o) (n : i ≠ j) : (a.set i p)[j]? = some o := by
  rw [List.getElem?_set_ne n]; exact e

/-! ### loops -/
theorem forW_ind {chk : MH → Prop} {g : MG} {b : MS} {N : MEnds} (I : Nat → Sl → MH → Prop) {items : List U}
    (st : ∀ (i : Nat) (u : U) sl mh (k : Sl → MH → Prop), items[i]? = some u → I i sl mh → (∀ sl' mh', I (i + 1) sl' mh' → k sl' mh') →
      chk mh ∧ g u sl mh fun sl1 mh1 => b { nx := k, rt := N.rt, bk := N.nx, ct := k } sl1 mh1)
    (en : ∀ sl mh, I items.length sl mh → chk mh ∧ N.nx sl mh) : ∀ (sl : Sl) (mh : MH), I 0 sl mh → forW chk g b N items sl mh := by
  suffices h : ∀ (us : List U) (j : Nat), (∀ i u, us[i]? = some u → items[j + i]? = some u) → j + us.length = items.length → ∀ sl mh, I j sl mh → forW chk g b N us sl mh from
    h items 0 (fun i u e => by simpa using e) (by simp)
  intro us
  induction us with
  | nil => intro j _ l sl mh i; exact en sl mh (by simp at l; rw [← l]; exact i)
  | cons u us ih =>
    intro j e l sl mh i
    exact st j u sl mh _ (e 0 u rfl) i (ih (j + 1) (fun i' u' z => by have := e (i' + 1) u' (by simpa using z); rw [← this]; congr 1; omega) (by simp at l ⊢ <;> omega))
theorem mFor_ind {g : MG} {b : MS} {N : MEnds} {items : List U} {chk : MH → Prop} {sl0 : Sl} {mh0 : MH} (I : Nat → Sl → MH → Prop)
    (i0 : I 0 sl0 mh0)
    (st : ∀ (i : Nat) (u : U) sl mh (k : Sl → MH → Prop), items[i]? = some u → I i sl mh → (∀ sl' mh', I (i + 1) sl' mh' → k sl' mh') →
      chk mh ∧ g u sl mh fun sl1 mh1 => b { nx := k, rt := N.rt, bk := N.nx, ct := k } sl1 mh1)
    (en : ∀ sl mh, I items.length sl mh → chk mh ∧ N.nx sl mh) : forW chk g b N items sl0 mh0 := forW_ind I st en _ _ i0
theorem rngU_get {lo : Int} {n i : Nat} {u : U} (h : (rngU lo n)[i]? = some u) : u = .int (lo + (i : Nat)) ∧ i < n := by
  unfold rngU at h
  rw [List.getElem?_map, Option.map_eq_some_iff] at h
  obtain ⟨a, h1, h2⟩ := h
  obtain ⟨h3, h4⟩ := List.getElem?_eq_some_iff.mp h1
  rw [List.getElem_range] at h4
  subst h4
  exact ⟨h2.symm, by simpa using h3⟩
theorem rngU_len {lo : Int} {n : Nat} : (rngU lo n).length = n := by simp [rngU]

/-! ### comprehensions -/
/-- each item gives one value, or none; what was there lies still -/
theorem lcW_filt {chk : MH → Prop} {g : MG} {tt : MT} {e : ME} {sl : Sl} {P : MK} {mh0 : MH} {items : List U} (f : U → Option U)
    (hl : items.length < sizeLine)
    (ck : ∀ mh, Fr [] mh0 mh → chk mh)
    (st : ∀ (i : Nat) (u : U) mh (k : MK) (F : MH → Prop), items[i]? = some u → Fr [] mh0 mh → mh0.length < mh.length → (∀ mh' y, f u = some y → Fr [] mh mh' → k y mh') → (∀ mh', f u = none → Fr [] mh mh' → F mh') →
      g u sl mh fun sl2 mh2 => tt sl2 mh2 fun b mh3 => if b = true then e sl2 mh3 k else F mh3)
    (en : ∀ mh', Fr [] mh0 mh' → mh'[mh0.length]? = some (.lst (items.filterMap f)) → P (.ref mh0.length) mh') :
    lcW mh0.length chk g tt e sl P items [] (mh0 ++ [.lst []]) := by
  suffices h : ∀ (us : List U) (j : Nat) (acc : List U), (∀ i u, us[i]? = some u → items[j + i]? = some u) → j + us.length = items.length → acc.length ≤ j → acc ++ us.filterMap f = items.filterMap f → ∀ mh, Fr [] mh0 mh → mh[mh0.length]? = some (.lst acc) → lcW mh0.length chk g tt e sl P us acc mh from
    h items 0 [] (fun i u e => by simpa using e) (by simp) (by simp) (by simp) _ Fr.app get_new
  intro us
  induction us with
  | nil =>
    intro j acc _ _ _ ea mh fr h
    simp at ea
    subst ea
    exact ⟨ck mh fr, en mh fr h⟩
  | cons u us ih =>
    intro j acc ei l al ea mh fr h
    refine ⟨ck mh fr, st j u mh _ _ (ei 0 u rfl) fr (lt_of h) (fun mh' y fy f' => ?_) fun mh' fy f' => ?_⟩
    · have h' := f'.get0 h
      refine ⟨h', by simp at l; omega, ?_⟩
      refine ih (j + 1) _ (fun i' u' z => by have := ei (i' + 1) u' (by simpa using z); rw [← this]; congr 1; omega) (by simp at l ⊢ <;> omega) (by simp <;> omega) ?_ _ ((fr.trans f').put (.inr (Nat.le_refl _))) (get_set h')
      rw [← ea, List.filterMap_cons, fy, List.append_assoc]
      rfl
    · have h' := f'.get0 h
      refine ih (j + 1) _ (fun i' u' z => by have := ei (i' + 1) u' (by simpa using z); rw [← this]; congr 1; omega) (by simp at l ⊢ <;> omega) (by omega) ?_ _ (fr.trans f') h'
      rw [← ea, List.filterMap_cons, fy]
/-- each item gives one value, by where it stands; what was there lies still -/
theorem lcW_map {chk : MH → Prop} {g : MG} {tt : MT} {e : ME} {sl : Sl} {P : MK} {mh0 : MH} {items : List U} (f : Nat → U → U)
    (hl : items.length < sizeLine)
    (ck : ∀ mh, Fr [] mh0 mh → chk mh)
    (st : ∀ (i : Nat) (u : U) mh (k : MK) (F : MH → Prop), items[i]? = some u → Fr [] mh0 mh → mh0.length < mh.length → (∀ mh', Fr [] mh mh' → k (f i u) mh') →
      g u sl mh fun sl2 mh2 => tt sl2 mh2 fun b mh3 => if b = true then e sl2 mh3 k else F mh3)
    (en : ∀ mh', Fr [] mh0 mh' → mh'[mh0.length]? = some (.lst (items.mapIdx f)) → P (.ref mh0.length) mh') :
    lcW mh0.length chk g tt e sl P items [] (mh0 ++ [.lst []]) := by
  suffices h : ∀ (us : List U) (j : Nat) (acc : List U), (∀ i u, us[i]? = some u → items[j + i]? = some u) → j + us.length = items.length → acc.length = j → acc ++ (us.mapIdx fun i => f (j + i)) = items.mapIdx f → ∀ mh, Fr [] mh0 mh → mh[mh0.length]? = some (.lst acc) → lcW mh0.length chk g tt e sl P us acc mh from
    h items 0 [] (fun i u e => by simpa using e) (by simp) rfl (by simp) _ Fr.app get_new
  intro us
  induction us with
  | nil =>
    intro j acc _ _ _ ea mh fr h
    simp at ea
    subst ea
    exact ⟨ck mh fr, en mh fr h⟩
  | cons u us ih =>
    intro j acc ei l al ea mh fr h
    refine ⟨ck mh fr, st j u mh _ _ (ei 0 u rfl) fr (lt_of h) fun mh' f' => ?_⟩
    have h' := f'.get0 h
    refine ⟨h', by simp at l; omega, ?_⟩
    refine ih (j + 1) _ (fun i' u' z => by have := ei (i' + 1) u' (by simpa using z); rw [← this]; congr 1; omega) (by simp at l ⊢ <;> omega) (by simp [al]) ?_ _ ((fr.trans f').put (.inr (Nat.le_refl _))) (get_set h')
    rw [← ea, List.mapIdx_cons, List.append_assoc]
    congr 1
    simp only [Nat.add_zero, List.singleton_append, List.cons.injEq, true_and]
    congr 1
    funext i
    congr 1
    omega

/-! ### rows of ints as data -/
abbrev iU (ns : List Int) : List U := ns.map U.int
abbrev tU (ns : List Int) : U := .tup (iU ns)
theorem toDs_of {mh : MH} {us : List U} {ds : List PyData} {n : Nat} (hl : us.length = ds.length) (h : ∀ (i : Nat) u d, us[i]? = some u → ds[i]? = some d → ∀ m, n ≤ m → toD mh m u = some d) : ∀ m, n + us.length < m → toDs mh m us = some ds := by
  induction us generalizing ds with
  | nil =>
    intro m l
    cases ds with
    | nil => cases m with
      | zero => omega
      | succ m => rfl
    | cons d ds => simp at hl
  | cons u us ih =>
    intro m l
    cases ds with
    | nil => simp at hl
    | cons d ds =>
      cases m with
      | zero => omega
      | succ m =>
        simp at hl l
        simp only [toDs]
        rw [h 0 u d rfl rfl m (by omega), ih hl (fun i u d e1 e2 => h (i + 1) u d (by simpa using e1) (by simpa using e2)) m (by omega)]
theorem toD_int {mh : MH} {i : Int} : ∀ m, 1 ≤ m → toD mh m (.int i) = some (.int i) := fun m l => by
  cases m with
  | zero => omega
  | succ m => rfl
theorem toDs_ints {mh : MH} (ns : List Int) : ∀ m, 1 + ns.length < m → toDs mh m (iU ns) = some (ns.map PyData.int) := fun m l =>
  toDs_of (n := 1) (by simp) (fun i u d e1 e2 => by
    simp at e1 e2
    obtain ⟨a, e, rfl⟩ := e1
    rw [e] at e2
    simp at e2
    subst e2
    exact toD_int) m (by simpa using l)
theorem toD_tU {mh : MH} (ns : List Int) : ∀ m, 2 + ns.length < m → toD mh m (tU ns) = some (.tuple (ns.map PyData.int)) := fun m l => by
  cases m with
  | zero => omega
  | succ m =>
    simp only [toD]
    rw [toDs_ints ns m (by omega)]
    rfl
theorem eqvAll_int : ∀ xs ys : List Int, PyData.eqvAll (xs.map PyData.int) (ys.map PyData.int) = decide (xs = ys)
  | [], [] => by simp [PyData.eqvAll]
  | [], _ :: _ => by simp [PyData.eqvAll]
  | _ :: _, [] => by simp [PyData.eqvAll]
  | x :: xs, y :: ys => by
    simp only [List.map_cons, PyData.eqvAll, PyData.eqv, eqvAll_int xs ys]
    by_cases h : x = y <;> simp [h]
theorem eqv_tI (xs ys : List Int) : PyData.eqv (.tuple (xs.map PyData.int)) (.tuple (ys.map PyData.int)) = decide (xs = ys) := by
  simp only [PyData.eqv, eqvAll_int]
theorem eqv_lI (xs ys : List Int) : PyData.eqv (.list (xs.map PyData.int)) (.list (ys.map PyData.int)) = decide (xs = ys) := by
  simp only [PyData.eqv, eqvAll_int]
theorem canI : ∀ xs : List Int, PyData.canLayAll0 (xs.map PyData.int) = true
  | [] => by simp [PyData.canLayAll0]
  | x :: xs => by simp [PyData.canLayAll0, PyData.canLay0, canI xs]
theorem depI : ∀ xs : List Int, PyData.depthAll (xs.map PyData.int) = 0
  | [] => by simp [PyData.depthAll]
  | x :: xs => by simp [PyData.depthAll, PyData.depth, depI xs]
theorem shpT (xs : List Int) : SeqAt.shaped (.tuple (xs.map PyData.int)) = true := by
  simp [SeqAt.shaped, PyData.canLay0, PyData.depth, canI, depI]
theorem shpL (xs : List Int) : SeqAt.shaped (.list (xs.map PyData.int)) = true := by
  simp [SeqAt.shaped, PyData.canLay0, PyData.depth, canI, depI]
/-- tuples of ints held together -/
theorem uEq_tI {neg : Bool} {xs ys : List Int} {mh : MH} {P : MK} (h : P (.bl (if neg then !decide (xs = ys) else decide (xs = ys))) mh) : uEq neg (tU xs) (tU ys) mh P :=
  ⟨xs.length + ys.length + 3, _, _, toD_tU xs _ (by omega), toD_tU ys _ (by omega), shpT xs, shpT ys, by rw [eqv_tI]; exact h⟩
/-- lists of ints held together -/
theorem toD_lU {mh : MH} {n : Nat} {ns : List Int} (h : mh[n]? = some (.lst (iU ns))) : ∀ m, 2 + ns.length < m → toD mh m (.ref n) = some (.list (ns.map PyData.int)) := fun m l => by
  cases m with
  | zero => omega
  | succ m =>
    simp only [toD, h]
    rw [toDs_ints ns m (by omega)]
    rfl
theorem uEq_lI {neg : Bool} {a b : Nat} {xs ys : List Int} {mh : MH} {P : MK} (h1 : mh[a]? = some (.lst (iU xs))) (h2 : mh[b]? = some (.lst (iU ys))) (h : P (.bl (if neg then !decide (xs = ys) else decide (xs = ys))) mh) : uEq neg (.ref a) (.ref b) mh P :=
  ⟨xs.length + ys.length + 3, _, _, toD_lU h1 _ (by omega), toD_lU h2 _ (by omega), shpL xs, shpL ys, by rw [eqv_lI]; exact h⟩
end Sm

/-! Running a piece by rewriting: each piece of syntax as an equation, with the rest of the run left alone until it is reached. -/
namespace Sm
open PySem PySem.Spec PyProof.Rows L2 Tk
/-- what is left of a run; rewriting does not look into it -/
class Kc (α : Type) where
  f : α
theorem kf {α : Type} {a : α} : @Kc.f α ⟨a⟩ = a := rfl
def ap {α β : Type} (X : (α → β → Prop) → Prop) [k : Kc (α → β → Prop)] : Prop := X k.f
theorem apI {α β : Type} {X : (α → β → Prop) → Prop} {F : α → β → Prop} (h : X F) : @ap α β X ⟨F⟩ := h
theorem apM {α β : Type} {X : (α → β → Prop) → Prop} {F : α → β → Prop} (h : @ap α β X ⟨F⟩) : X F := h
def mSel (b : Bool) [X : Kc Prop] [Y : Kc Prop] : Prop := if b = true then X.f else Y.f
theorem x_selt {X Y : Kc Prop} : @mSel true X Y = X.f := rfl
theorem x_self {X Y : Kc Prop} : @mSel false X Y = Y.f := rfl
theorem sel {b : Bool} {X Y : Prop} (h1 : b = true → X) (h2 : b = false → Y) : @mSel b ⟨X⟩ ⟨Y⟩ := by
  cases b with
  | true => exact h1 rfl
  | false => exact h2 rfl
theorem sel1 {b : Bool} {X Y : Prop} (h : b = true) (x : X) : @mSel b ⟨X⟩ ⟨Y⟩ := by subst h; exact x
theorem sel0 {b : Bool} {X Y : Prop} (h : b = false) (x : Y) : @mSel b ⟨X⟩ ⟨Y⟩ := by subst h; exact x
def onO (o : Option MO) [F : Kc (List U → Prop)] [G : Kc (List (Key × U) → Prop)] [I : Kc (Addr → List (Str × U) → Prop)] : Prop := match o with
  | some (.lst us) => F.f us
  | some (.dK kvs) => G.f kvs
  | some (.ins C fs) => I.f C fs
  | _ => False
theorem x_onl {us : List U} {F G I} : @onO (some (.lst us)) F G I = F.f us := rfl
theorem x_ond {kvs : List (Key × U)} {F G I} : @onO (some (.dK kvs)) F G I = G.f kvs := rfl
theorem x_oni {C : Addr} {fs : List (Str × U)} {F G I} : @onO (some (.ins C fs)) F G I = I.f C fs := rfl
def onU {α : Type} (o : Option α) [F : Kc (α → Prop)] : Prop := match o with | some u => F.f u | none => False
theorem x_onU {α : Type} {u : α} {F : Kc (α → Prop)} : @onU α (some u) F = F.f u := rfl
abbrev F1 : Kc (List U → Prop) := ⟨fun _ => False⟩
abbrev F2 : Kc (List (Key × U) → Prop) := ⟨fun _ => False⟩
abbrev F3 : Kc (Addr → List (Str × U) → Prop) := ⟨fun _ _ => False⟩
abbrev KM := Kc (U → MH → Prop)
abbrev KH := Kc (MH → Prop)
def apH (X : (MH → Prop) → Prop) [k : KH] : Prop := X k.f
def apP {α : Type} (X : (α → Prop) → Prop) [k : Kc (α → Prop)] : Prop := X k.f
def apW (X : (List U → (MH → Prop) → Prop) → Prop) [k : Kc (List U → (MH → Prop) → Prop)] : Prop := X k.f
section
variable {sl : Sl} {mh : MH} {P : MK} {k : KM} {N : MEnds} {ma mb mc mo mk mi : ME} {s t : MS} {tc ts tt : MT} {xs ys us : List U} {a b n : Nat} {i j : Int} {u : U} {x y : Str}
theorem x_body {q : Nat} {m : MS} : ap (mBody q m us mh) = m { nx := fun _ mh' => k.f .non mh', rt := k.f } (us.map some ++ List.replicate (q - us.length) none) mh := rfl
def slot (o : Option (Option U)) [F : Kc (U → Prop)] : Prop := match o with | some (some u) => F.f u | _ => False
theorem x_slot {F : Kc (U → Prop)} : @slot (some (some u)) F = F.f u := rfl
theorem x_var {q : Nat} : mVar q sl mh P = @slot sl[q]? ⟨fun u => P u mh⟩ := rfl
theorem x_c : mC u sl mh P = P u mh := rfl
theorem x_un {g : M1} : mUn g ma sl mh P = ma sl mh fun u mh1 => @ap _ _ (g u mh1) ⟨P⟩ := rfl
theorem x_bin {g : M2} : mBin g ma mb sl mh P = ma sl mh fun u mh1 => mb sl mh1 fun w mh2 => @ap _ _ (g u w mh2) ⟨P⟩ := rfl
theorem x_callB {g : ML} {m : MA} : mCallB g m sl mh P = m sl mh fun us mh1 => @ap _ _ (g us mh1) ⟨P⟩ := rfl
theorem x_nil {Q : List U → MH → Prop} : mNil sl mh Q = Q [] mh := rfl
theorem x_cons {m : MA} {Q : List U → MH → Prop} : mCons ma m sl mh Q = ma sl mh fun u mh1 => m sl mh1 fun us mh2 => Q (u :: us) mh2 := rfl
def boolK (u : U) [F : Kc (Bool → Prop)] : Prop := match u with | .bl b => F.f b | _ => False
theorem x_boolK {q : Bool} {F : Kc (Bool → Prop)} : @boolK (.bl q) F = F.f q := rfl
theorem x_b {Q : Bool → MH → Prop} : mB ma sl mh Q = ma sl mh fun u mh1 => @boolK u ⟨fun q => Q q mh1⟩ := rfl
def tru (u : U) (mh : MH) [F : Kc (Bool → Prop)] : Prop := mTru u mh F.f
theorem x_tru_non {Q : Kc (Bool → Prop)} : tru .non mh = Q.f false := rfl
theorem x_tru_bl {Q : Kc (Bool → Prop)} {q : Bool} : tru (.bl q) mh = Q.f q := rfl
theorem x_tru_int {Q : Kc (Bool → Prop)} : tru (.int i) mh = Q.f (i != 0) := rfl
theorem x_tru_tup {Q : Kc (Bool → Prop)} : tru (.tup us) mh = Q.f (!us.isEmpty) := rfl
theorem x_tru_ref {Q : Kc (Bool → Prop)} : tru (.ref n) mh = @onO mh[n]? ⟨fun us => Q.f (!us.isEmpty)⟩ ⟨fun kvs => Q.f (!kvs.isEmpty)⟩ F3 := by
  unfold tru mTru onO; dsimp only; generalize mh[n]? = o; cases o with
  | none => rfl
  | some o => cases o <;> rfl
theorem x_tr {Q : Bool → MH → Prop} : mTr ma sl mh Q = ma sl mh fun u mh1 => @tru u mh1 ⟨fun q => Q q mh1⟩ := rfl
theorem x_and {Q : Bool → MH → Prop} : mAnd ts tt sl mh Q = ts sl mh fun q mh1 => @mSel q ⟨tt sl mh1 Q⟩ ⟨Q false mh1⟩ := rfl
theorem x_or {Q : Bool → MH → Prop} : mOr ts tt sl mh Q = ts sl mh fun q mh1 => @mSel q ⟨Q true mh1⟩ ⟨tt sl mh1 Q⟩ := rfl
theorem x_not {Q : Bool → MH → Prop} : mNot ts sl mh Q = ts sl mh fun q mh1 => Q (!q) mh1 := rfl
theorem x_ifE : mIfE tc ma mb sl mh P = tc sl mh fun q mh1 => @mSel q ⟨ma sl mh1 P⟩ ⟨mb sl mh1 P⟩ := rfl
theorem x_andV : mAndV ma mb sl mh P = ma sl mh fun u mh1 => @tru u mh1 ⟨fun q => @mSel q ⟨mb sl mh1 P⟩ ⟨P u mh1⟩⟩ := rfl
theorem x_orV : mOrV ma mb sl mh P = ma sl mh fun u mh1 => @tru u mh1 ⟨fun q => @mSel q ⟨P u mh1⟩ ⟨mb sl mh1 P⟩⟩ := rfl
theorem x_notV : mNotV ma sl mh P = ma sl mh fun u mh1 => @tru u mh1 ⟨fun q => P (.bl (!q)) mh1⟩ := rfl
theorem x_chain {g g' : M2} : mChain g g' ma mb mc sl mh P = ma sl mh fun x mh1 => mb sl mh1 fun y mh2 => @ap _ _ (g x y mh2) ⟨fun z mh3 => @boolK z ⟨fun q => @mSel q ⟨mc sl mh3 fun w mh4 => @ap _ _ (g' y w mh4) ⟨P⟩⟩ ⟨P (.bl false) mh3⟩⟩⟩ := by
  unfold mChain boolK mSel ap
  rfl
theorem x_rep0 : List.replicate 0 (none : Option U) = [] := rfl
theorem x_repS {q : Nat} : List.replicate (q + 1) (none : Option U) = none :: List.replicate q none := rfl
theorem x_next : mNext N sl mh = N.nx sl mh := rfl
theorem x_seq : mSeq s t N sl mh = s { N with nx := t N } sl mh := rfl
theorem x_drop : mDrop ma N sl mh = ma sl mh fun _ mh1 => N.nx sl mh1 := rfl
theorem x_ret : mRet ma N sl mh = ma sl mh N.rt := rfl
theorem x_retN : mRetN N sl mh = N.rt .non mh := rfl
theorem x_ifS : mIfS tc s t N sl mh = tc sl mh fun q mh1 => @mSel q ⟨s N sl mh1⟩ ⟨t N sl mh1⟩ := rfl
theorem x_never : mNever N sl mh = False := rfl
theorem x_brk : mBrk N sl mh = N.bk sl mh := rfl
theorem x_ct : mCt N sl mh = N.ct sl mh := rfl
theorem x_asg {g : MG} : mAsg ma g N sl mh = ma sl mh fun u mh1 => g u sl mh1 N.nx := rfl
theorem x_gN {q : Nat} {Q : Sl → MH → Prop} : gN q u sl mh Q = Q (sl.set q (some u)) mh := rfl
theorem x_par {q l : Nat} : mPar q l ma mb N sl mh = ma sl mh fun u mh1 => mb sl mh1 fun w mh2 => N.nx ((sl.set q (some u)).set l (some w)) mh2 := rfl
theorem x_par3 {q l m : Nat} : mPar3 q l m ma mb mc N sl mh = ma sl mh fun u mh1 => mb sl mh1 fun w mh2 => mc sl mh2 fun z mh3 => N.nx (((sl.set q (some u)).set l (some w)).set m (some z)) mh3 := rfl
/-- what behind a statement is run, whichever way it goes -/
theorem joinS {X : MEnds → Sl → MH → Prop} {nx : Sl → MH → Prop} {rt : MK} {bk ct : Sl → MH → Prop} (Q : Sl → MH → Prop) (tail : ∀ sl mh, Q sl mh → nx sl mh)
    (main : ∀ nx' : Sl → MH → Prop, (∀ sl mh, Q sl mh → nx' sl mh) → X ⟨nx', rt, bk, ct⟩ sl mh) : X ⟨nx, rt, bk, ct⟩ sl mh := main nx tail
-- operators
theorem x_add_i : ap (uAdd (.int i) (.int j) mh) = k.f (.int (i + j)) mh := rfl
theorem x_add_t : ap (uAdd (.tup xs) (.tup ys) mh) = (xs.length + ys.length ≤ sizeLine ∧ k.f (.tup (xs ++ ys)) mh) := rfl
theorem x_add_s : ap (uAdd (.str x) (.str y) mh) = (x.length + y.length ≤ sizeLine ∧ k.f (.str (x ++ y)) mh) := rfl
theorem x_add_l : ap (uAdd (.ref a) (.ref b) mh) = @onO mh[a]? ⟨fun xs => @onO mh[b]? ⟨fun ys => xs.length + ys.length ≤ sizeLine ∧ k.f (.ref mh.length) (mh ++ [.lst (xs ++ ys)])⟩ F2 F3⟩ F2 F3 := by
  unfold ap uAdd onO; dsimp only; generalize mh[a]? = o; generalize mh[b]? = o2; cases o with
  | none => cases o2 with | none => rfl | some o2 => cases o2 <;> rfl
  | some o => cases o <;> (cases o2 with | none => rfl | some o2 => cases o2 <;> rfl)
theorem x_sub : ap (uSub (.int i) (.int j) mh) = k.f (.int (i - j)) mh := rfl
theorem x_mul_i : ap (uMul (.int i) (.int j) mh) = (CMul i j ∧ k.f (.int (i * j)) mh) := rfl
theorem x_mul_t : ap (uMul (.tup xs) (.int i) mh) = (xs ≠ [] ∧ -1000 ≤ i ∧ i ≤ 1000 ∧ xs.length ≤ 1000 ∧ k.f (.tup (List.replicate i.toNat xs).flatten) mh) := rfl
theorem x_mul_l : ap (uMul (.ref a) (.int i) mh) = @onO mh[a]? ⟨fun xs => -(2 ^ 63) ≤ i ∧ i < 2 ^ 63 ∧ xs.length * i.toNat ≤ sizeLine ∧ k.f (.ref mh.length) (mh ++ [.lst (List.replicate i.toNat xs).flatten])⟩ F2 F3 := by
  unfold ap uMul onO; dsimp only; generalize mh[a]? = o; cases o with
  | none => rfl
  | some o => cases o <;> rfl
theorem x_div : ap (uDiv (.int i) (.int j) mh) = (CDivN i j ∧ k.f (.int (i.fdiv j)) mh) := rfl
theorem x_mod : ap (uMod (.int i) (.int j) mh) = (j ≠ 0 ∧ k.f (.int (i.fmod j)) mh) := rfl
theorem x_pow : ap (uPow (.int i) (.int j) mh) = (CPow i j ∧ k.f (.int (i ^ j.toNat)) mh) := rfl
theorem x_neg : ap (uNeg (.int i) mh) = k.f (.int (-i)) mh := rfl
theorem x_cmp {f : Int → Int → Bool} : ap (uCmp f (.int i) (.int j) mh) = k.f (.bl (f i j)) mh := rfl
theorem x_eq_i : ap (uEq false (.int i) (.int j) mh) = k.f (.bl (decide (i = j))) mh := rfl
theorem x_ne_i : ap (uEq true (.int i) (.int j) mh) = k.f (.bl (!decide (i = j))) mh := rfl
theorem x_eq_s : ap (uEq false (.str x) (.str y) mh) = k.f (.bl (decide (x = y))) mh := rfl
theorem x_ne_s : ap (uEq true (.str x) (.str y) mh) = k.f (.bl (!decide (x = y))) mh := rfl
theorem x_eq_b {p q : Bool} : ap (uEq false (.bl p) (.bl q) mh) = k.f (.bl (decide (p = q))) mh := rfl
def isNon : U → Bool | .non => true | _ => false
theorem x_is {f : Bool} : ap (uIs f u .non mh) = k.f (.bl (if isNon u = true then !f else f)) mh := by cases u <;> rfl
theorem x_isN1 : isNon .non = true := rfl
theorem x_isN2 : isNon (.int i) = false := rfl
theorem x_isN3 : isNon (.ref n) = false := rfl
theorem x_isN4 : isNon (.tup us) = false := rfl
theorem x_isN5 : isNon (.str x) = false := rfl
theorem x_ix_t : ap (uIx (.tup us) (.int i) mh) = @onU _ (atI us i) ⟨fun u => k.f u mh⟩ := by
  unfold ap uIx onU; dsimp only [atU]; cases atI us i <;> rfl
theorem x_ix_f : ap (uIx (.fz us) (.int i) mh) = @onU _ (atI us i) ⟨fun u => k.f u mh⟩ := by
  unfold ap uIx onU; dsimp only [atU]; cases atI us i <;> rfl
theorem x_ix_ri : ap (uIx (.ref n) (.int i) mh) = @onO mh[n]? ⟨fun us => @onU _ (atI us i) ⟨fun u => k.f u mh⟩⟩ ⟨fun kvs => @onU _ (valU kvs (.inl i)) ⟨fun u => k.f u mh⟩⟩ F3 := by
  unfold ap uIx onO onU; dsimp only [uKey]; generalize mh[n]? = o; cases o with
  | none => rfl
  | some o => cases o with
    | lst us => dsimp only; cases atI us i <;> rfl
    | dK kvs => dsimp only; cases valU kvs (Sum.inl i) <;> rfl
    | ins C fs => rfl
    | lk kvs => rfl
theorem x_ix_rs : ap (uIx (.ref n) (.str x) mh) = @onO mh[n]? F1 ⟨fun kvs => @onU _ (valU kvs (.inr x)) ⟨fun u => k.f u mh⟩⟩ F3 := by
  unfold ap uIx onO onU; dsimp only [uKey]; generalize mh[n]? = o; cases o with
  | none => rfl
  | some o => cases o with
    | lst us => rfl
    | dK kvs => dsimp only; cases valU kvs (Sum.inr x) <;> rfl
    | ins C fs => rfl
    | lk kvs => rfl
theorem x_in_r {f : Bool} : ap (uIn f u (.ref n) mh) = @onO mh[n]? ⟨fun us => flatU u = true ∧ us.all flatU = true ∧ k.f (.bl (if f then !inU u us else inU u us)) mh⟩ ⟨fun kvs => @onU _ (uKey u) ⟨fun q => k.f (.bl (if f then !(valU kvs q).isSome else (valU kvs q).isSome)) mh⟩⟩ F3 := by
  unfold ap uIn onO onU; dsimp only; generalize mh[n]? = o; cases o with
  | none => rfl
  | some o => cases o with
    | lst us => rfl
    | dK kvs => dsimp only; cases uKey u <;> rfl
    | ins C fs => rfl
    | lk kvs => rfl
theorem x_in_t {f : Bool} : ap (uIn f u (.tup us) mh) = (flatU u = true ∧ us.all flatU = true ∧ k.f (.bl (if f then !inU u us else inU u us)) mh) := rfl
theorem x_sl {ml mu : MOp} : mSl ma ml mu sl mh P = ma sl mh fun u mh1 => ml sl mh1 fun lo mh2 => mu sl mh2 fun hi mh3 => @ap _ _ (uSl u lo hi mh3) ⟨P⟩ := rfl
theorem x_pn {Q : Option Int → MH → Prop} : mPNone sl mh Q = Q none mh := rfl
def intK (u : U) [F : Kc (Int → Prop)] : Prop := match u with | .int i => F.f i | _ => False
theorem x_intK {F : Kc (Int → Prop)} : @intK (.int i) F = F.f i := rfl
theorem x_ps {Q : Option Int → MH → Prop} : mPSome ma sl mh Q = ma sl mh fun u mh1 => @intK u ⟨fun i => Q (some i) mh1⟩ := rfl
theorem x_sl_t {lo hi : Option Int} : ap (uSl (.tup us) lo hi mh) = k.f (.tup (cutU us lo hi)) mh := rfl
theorem x_sl_f {lo hi : Option Int} : ap (uSl (.fz us) lo hi mh) = k.f (.ref mh.length) (mh ++ [.lst (cutU us lo hi)]) := rfl
theorem x_sl_r {lo hi : Option Int} : ap (uSl (.ref n) lo hi mh) = @onO mh[n]? ⟨fun us => k.f (.ref mh.length) (mh ++ [.lst (cutU us lo hi)])⟩ F2 F3 := by
  unfold ap uSl onO; dsimp only; generalize mh[n]? = o; cases o with
  | none => rfl
  | some o => cases o <;> rfl
theorem x_rev : ap (uRev (.ref n) mh) = @onO mh[n]? ⟨fun us => k.f (.ref mh.length) (mh ++ [.lst us.reverse])⟩ F2 F3 := by
  unfold ap uRev onO; dsimp only; generalize mh[n]? = o; cases o with
  | none => rfl
  | some o => cases o <;> rfl
theorem x_list_r : ap (uList [.ref n] mh) = @onO mh[n]? ⟨fun us => k.f (.ref mh.length) (mh ++ [.lst us])⟩ ⟨fun kvs => k.f (.ref mh.length) (mh ++ [.lst (kvs.map fun kv => match kv.1 with | .inl i => U.int i | .inr x => U.str x)])⟩ F3 := by
  unfold ap uList u1 onO; dsimp only; generalize mh[n]? = o; cases o with
  | none => rfl
  | some o => cases o <;> rfl
theorem x_tup {m : MA} : mTup m sl mh P = m sl mh fun us mh1 => us.length ≤ sizeLine ∧ P (.tup us) mh1 := rfl
theorem x_lst {m : MA} : mLst m sl mh P = m sl mh fun us mh1 => us.length ≤ sizeLine ∧ P (.ref mh1.length) (mh1 ++ [.lst us]) := rfl
theorem x_dict0 : mDict0 sl mh P = P (.ref mh.length) (mh ++ [.dK []]) := rfl
theorem x_pairs0 {Q : List (U × U) → MH → Prop} : mPairs [] sl mh Q = Q [] mh := rfl
theorem x_pairs1 {r : List (ME × ME)} {Q : List (U × U) → MH → Prop} : mPairs ((mk, mi) :: r) sl mh Q = mk sl mh fun x mh1 => mi sl mh1 fun y mh2 => mPairs r sl mh2 fun ps mh3 => Q ((x, y) :: ps) mh3 := rfl
def dispK (n : Nat) (ps : List (U × U)) (mh1 : MH) [k : KM] : Prop := match mh1[n]? with
  | some (.dK []) => match uKeys ps with
    | some kvs => kvs.length ≤ 15 ∧ k.f (.ref n) (mh1.set n (.dK (kvs.foldl (fun acc kv => putU acc kv.1 kv.2) [])))
    | none => False
  | _ => False
theorem x_disp {ms : List (ME × ME)} : mDisp ms sl mh P = mPairs ms sl (mh ++ [.dK []]) fun ps mh1 => @dispK mh.length ps mh1 ⟨P⟩ := rfl
theorem x_fld {Cs : List Addr} {f : Str} : ap (uFld Cs f (.ref n) mh) = @onO mh[n]? F1 F2 ⟨fun C fs => C ∈ Cs ∧ @onU _ (fs.lookup f) ⟨fun u => k.f u mh⟩⟩ := by
  unfold ap uFld onO onU; dsimp only; generalize mh[n]? = o; cases o with
  | none => rfl
  | some o => cases o with
    | lst us => rfl
    | dK kvs => rfl
    | ins C fs => dsimp only; cases fs.lookup f <;> rfl
    | lk kvs => rfl
def setFK (Cs : List Addr) (f : Str) (x u : U) (mh : MH) [Q : KH] : Prop := match x with
  | .ref n => @onO mh[n]? F1 F2 ⟨fun C fs => C ∈ Cs ∧ fs.length < 1000 ∧ Q.f (mh.set n (.ins C (putFU f u fs)))⟩
  | _ => False
theorem x_setFK {Cs : List Addr} {f : Str} {Q : KH} : setFK Cs f (.ref n) u mh = @onO mh[n]? F1 F2 ⟨fun C fs => C ∈ Cs ∧ fs.length < 1000 ∧ Q.f (mh.set n (.ins C (putFU f u fs)))⟩ := rfl
theorem x_setF {Cs : List Addr} {f : Str} {mv : ME} : mSetF Cs f mo mv N sl mh = mv sl mh fun u mh1 => mo sl mh1 fun x mh2 => @setFK Cs f x u mh2 ⟨fun mh3 => N.nx sl mh3⟩ := by
  unfold mSetF setFK onO
  congr 1; funext u mh1; congr 1; funext x mh2
  cases x <;> try rfl
  dsimp only
  rename_i n
  generalize mh2[n]? = o; cases o with
  | none => rfl
  | some o => cases o <;> rfl
-- storing
theorem x_gSet {Q : Sl → MH → Prop} : gSet mo mi u sl mh Q = mo sl mh fun o mh1 => mi sl mh1 fun i mh2 => @apH (uSet o i u mh2) ⟨fun mh3 => Q sl mh3⟩ := rfl
theorem x_set_i {Q : KH} : apH (uSet (.ref n) (.int i) u mh) = @onO mh[n]? ⟨fun us => @onU _ (ixN us.length i) ⟨fun j => Q.f (mh.set n (.lst (us.set j u)))⟩⟩ ⟨fun kvs => kvs.length < sizeLine ∧ Q.f (mh.set n (.dK (putU kvs (.inl i) u)))⟩ F3 := by
  unfold apH uSet onO onU; dsimp only [uKey]; generalize mh[n]? = o; cases o with
  | none => rfl
  | some o => cases o with
    | lst us => dsimp only; cases ixN us.length i <;> rfl
    | dK kvs => rfl
    | ins C fs => rfl
    | lk kvs => rfl
theorem x_set_s {Q : KH} : apH (uSet (.ref n) (.str x) u mh) = @onO mh[n]? F1 ⟨fun kvs => kvs.length < sizeLine ∧ Q.f (mh.set n (.dK (putU kvs (.inr x) u)))⟩ F3 := by
  unfold apH uSet onO; dsimp only [uKey]; generalize mh[n]? = o; cases o with
  | none => rfl
  | some o => cases o <;> rfl
-- built-ins
theorem x_len_t : ap (uLen [.tup us] mh) = k.f (.int us.length) mh := rfl
theorem x_len_f : ap (uLen [.fz us] mh) = k.f (.int us.length) mh := rfl
theorem x_len_r : ap (uLen [.ref n] mh) = @onO mh[n]? ⟨fun us => k.f (.int us.length) mh⟩ ⟨fun kvs => k.f (.int kvs.length) mh⟩ F3 := by
  unfold ap uLen u1 onO; dsimp only; generalize mh[n]? = o; cases o with
  | none => rfl
  | some o => cases o <;> rfl
theorem x_int_i : ap (uInt [.int i] mh) = k.f (.int i) mh := rfl
theorem x_list_t : ap (uList [.tup us] mh) = k.f (.ref mh.length) (mh ++ [.lst us]) := rfl
theorem x_list_f : ap (uList [.fz us] mh) = k.f (.ref mh.length) (mh ++ [.lst us]) := rfl
theorem x_tuple_t : ap (uTuple [.tup us] mh) = k.f (.tup us) mh := rfl
theorem x_tuple_r : ap (uTuple [.ref n] mh) = @onO mh[n]? ⟨fun us => k.f (.tup us) mh⟩ F2 F3 := by
  unfold ap uTuple u1 rowU onO; dsimp only; generalize mh[n]? = o; cases o with
  | none => rfl
  | some o => cases o <;> rfl
theorem x_max2 : ap (uMax [.int i, .int j] mh) = k.f (.int (if j > i then j else i)) mh := rfl
theorem x_min2 : ap (uMin [.int i, .int j] mh) = k.f (.int (if j < i then j else i)) mh := rfl
-- calls
theorem x_call {q : Nat} {F : MF} {m : MA} : mCall q F m sl mh P = m sl mh fun us mh1 => us.length = q ∧ @ap _ _ (F us mh1) ⟨P⟩ := rfl
theorem x_callK {p l q : Nat} {is : List Nat} {F : MF} {m m' : MA} : mCallK p l is q F m m' sl mh P = m sl mh fun us mh1 => m' sl mh1 fun ws mh2 => us.length = p ∧ ws.length = q ∧ (us ++ pk is ws).length = l ∧ @ap _ _ (F (us ++ pk is ws) mh2) ⟨P⟩ := rfl
theorem x_insOf {C : Addr} {m : Str} : insOf C m (.ref n) mh = @onO mh[n]? F1 F2 ⟨fun C' fs => C' = C ∧ fs.lookup m = none⟩ := by
  unfold insOf onO; dsimp only; generalize mh[n]? = o; cases o with
  | none => rfl
  | some o => cases o <;> rfl
theorem x_meth {C : Addr} {x : Str} {q : Nat} {F : MF} {m : MA} : mMeth C x q F mo m sl mh P = mo sl mh fun u mh1 => insOf C x u mh1 ∧ m sl mh1 fun us mh2 => us.length + 1 = q ∧ @ap _ _ (F (u :: us) mh2) ⟨P⟩ := rfl
theorem x_methK {C : Addr} {x : Str} {p q : Nat} {is : List Nat} {F : MF} {m : MA} : mMethK C x p is q F mo m sl mh P = mo sl mh fun u mh1 => insOf C x u mh1 ∧ m sl mh1 fun ws mh2 => ws.length = q ∧ (u :: pk is ws).length = p ∧ @ap _ _ (F (u :: pk is ws) mh2) ⟨P⟩ := rfl
theorem x_make {C : Addr} {q : Nat} {F : MF} {m : MA} : mMake C q F m sl mh P = m sl mh fun us mh1 => us.length + 1 = q ∧ @ap _ _ (F (.ref mh1.length :: us) (mh1 ++ [.ins C []])) ⟨fun u mh2 => u = .non ∧ P (.ref mh1.length) mh2⟩ := rfl
-- targets, loops
theorem x_makeK {C : Addr} {p q : Nat} {is : List Nat} {F : MF} {m : MA} : mMakeK C p is q F m sl mh P = m sl mh fun ws mh1 => ws.length = q ∧ (pk is ws).length + 1 = p ∧ @ap _ _ (F (.ref mh1.length :: pk is ws) (mh1 ++ [.ins C []])) ⟨fun u mh2 => u = .non ∧ P (.ref mh1.length) mh2⟩ := rfl
theorem x_gTup {q : Nat} {gs : MGs} {Q : Sl → MH → Prop} : gTupM q gs (.tup us) sl mh Q = (us.length = q ∧ gs us sl mh Q) := rfl
theorem x_gTupF {q : Nat} {gs : MGs} {Q : Sl → MH → Prop} : gTupM q gs (.fz us) sl mh Q = (us.length = q ∧ gs us sl mh Q) := rfl
theorem x_gTupR {q : Nat} {gs : MGs} {Q : Sl → MH → Prop} : gTupM q gs (.ref n) sl mh Q = @onO mh[n]? ⟨fun us => us.length = q ∧ gs us sl mh Q⟩ F2 F3 := by
  unfold gTupM onO; dsimp only; generalize mh[n]? = o; cases o with
  | none => rfl
  | some o => cases o <;> rfl
theorem x_gCons {g : MG} {gs : MGs} {Q : Sl → MH → Prop} : gConsM g gs (u :: us) sl mh Q = g u sl mh fun sl1 mh1 => gs us sl1 mh1 Q := rfl
theorem x_gNil {Q : Sl → MH → Prop} : gNilM [] sl mh Q = Q sl mh := by unfold gNilM; simp
theorem x_it {Q : List U → (MH → Prop) → MH → Prop} : mIt ma sl mh Q = ma sl mh fun u mh1 => @apW (rowW u mh1) ⟨fun us chk => Q us chk mh1⟩ := rfl
theorem x_row_t {Q : Kc (List U → (MH → Prop) → Prop)} : apW (rowW (.tup us) mh) = Q.f us fun _ => True := rfl
theorem x_row_f {Q : Kc (List U → (MH → Prop) → Prop)} : apW (rowW (.fz us) mh) = Q.f us fun _ => True := rfl
theorem x_row_r {Q : Kc (List U → (MH → Prop) → Prop)} : apW (rowW (.ref n) mh) = @onO mh[n]? ⟨fun us => Q.f us fun mh' => mh'[n]? = some (.lst us)⟩ F2 F3 := by
  unfold apW rowW onO; dsimp only; generalize mh[n]? = o; cases o with
  | none => rfl
  | some o => cases o <;> rfl
class Kf where
  ck : MH → Prop
  g : MG
  b : MS
  N : MEnds
def forA (us : List U) (sl : Sl) (mh : MH) [k : Kf] : Prop := forW k.ck k.g k.b k.N us sl mh
theorem x_for {m : MI} {g : MG} : mFor m g s N sl mh = m sl mh fun items chk mh1 => @forA items sl mh1 ⟨chk, g, s, N⟩ := rfl
theorem forA_ind {chk : MH → Prop} {g : MG} (I : Nat → Sl → MH → Prop) (i0 : I 0 sl mh)
    (st : ∀ (i : Nat) (u : U) sl mh (q : Sl → MH → Prop), us[i]? = some u → I i sl mh → (∀ sl' mh', I (i + 1) sl' mh' → q sl' mh') →
      chk mh ∧ g u sl mh fun sl1 mh1 => s { nx := q, rt := N.rt, bk := N.nx, ct := q } sl1 mh1)
    (en : ∀ sl mh, I us.length sl mh → chk mh ∧ N.nx sl mh) : @forA us sl mh ⟨chk, g, s, N⟩ := forW_ind I st en sl mh i0
class Kw where
  c : MT
  b : MS
  N : MEnds
def whileA (sl : Sl) (mh : MH) [k : Kw] : Prop := ∃ n, whileW k.c k.b k.N n sl mh
theorem whileA_ind (I : Nat → Sl → MH → Prop)
    (st : ∀ m sl mh (q : Sl → MH → Prop), I m sl mh → (∀ m' sl' mh', m' < m → I m' sl' mh' → q sl' mh') → tc sl mh fun b mh1 => @mSel b ⟨s { nx := q, rt := N.rt, bk := N.nx, ct := q } sl mh1⟩ ⟨N.nx sl mh1⟩)
    (n : Nat) (i0 : I n sl mh) : @whileA sl mh ⟨tc, s, N⟩ := by
  refine ⟨n + 1, ?_⟩
  suffices h : ∀ (n m : Nat) sl mh, m ≤ n → I m sl mh → whileW tc s N (n + 1) sl mh from h n n sl mh (Nat.le_refl _) i0
  intro n
  induction n with
  | zero => intro m sl mh hm i; exact st m sl mh _ i fun m' _ _ l _ => by omega
  | succ n ih => intro m sl mh hm i; exact st m sl mh _ i fun m' sl' mh' l i' => ih m' sl' mh' (by omega) i'
theorem x_while : mWhile tc s N sl mh = @whileA sl mh ⟨tc, s, N⟩ := rfl
theorem x_rng1 {Q : List U → (MH → Prop) → MH → Prop} : mRng1 ma sl mh Q = ma sl mh fun u mh1 => @intK u ⟨fun j => (-(2 ^ 62) ≤ j ∧ j < 2 ^ 62) ∧ Q (rngU 0 j.toNat) (fun _ => True) mh1⟩ := by
  unfold mRng1; congr 1; funext u mh1; cases u <;> try rfl
  simp [intK, and_assoc]
def int2K (u v : U) [F : Kc (Int → Int → Prop)] : Prop := match u, v with | .int i, .int j => F.f i j | _, _ => False
theorem x_int2K {F : Kc (Int → Int → Prop)} : @int2K (.int i) (.int j) F = F.f i j := rfl
theorem x_rng2 {Q : List U → (MH → Prop) → MH → Prop} : mRng2 ma mb sl mh Q = ma sl mh fun u mh1 => mb sl mh1 fun v mh2 => @int2K u v ⟨fun i j => (-(2 ^ 62) ≤ i ∧ i < 2 ^ 62 ∧ -(2 ^ 62) ≤ j ∧ j < 2 ^ 62) ∧ Q (rngU i (j - i).toNat) (fun _ => True) mh2⟩ := by
  unfold mRng2 int2K; rfl
theorem x_isTupR : isTup (.ref n) = false := rfl
theorem x_enumL {Q : List U → (MH → Prop) → MH → Prop} : mEnumL ma sl mh Q = ma sl mh fun u mh1 => @apW (rowW u mh1) ⟨fun us chk => Q (enumU us) chk mh1⟩ := rfl
theorem x_zip {Q : List U → (MH → Prop) → MH → Prop} : mZip ma mb sl mh Q = ma sl mh fun u mh1 => mb sl mh1 fun v mh2 => @apW (rowW u mh2) ⟨fun us chk => @apW (rowW v mh2) ⟨fun vs chk' => (!isTup u || isTup v) = true ∧ Q (List.zipWith (fun a b => U.tup [a, b]) us vs) (fun mh => chk mh ∧ chk' mh) mh2⟩⟩ := rfl
class Kl where
  ck : MH → Prop
  g : MG
  t : MT
  e : ME
  P : MK
def lcA (items : List U) (sl : Sl) (mh : MH) [k : Kl] : Prop := lcW mh.length k.ck k.g k.t k.e sl k.P items [] (mh ++ [.lst []])
theorem x_lc {m : MI} {g : MG} {vs : List Nat} : mLc m g tt ma vs sl mh P = m sl mh fun items chk mh1 => @lcA items (wipeU sl vs) mh1 ⟨chk, g, tt, ma, P⟩ := rfl
theorem lcA_filt {chk : MH → Prop} {g : MG} {e : ME} {Q : MK} (f : U → Option U) (hl : us.length < sizeLine)
    (ck : ∀ mh', Fr [] mh mh' → chk mh')
    (st : ∀ (i : Nat) (u : U) mh1 (k : MK) (F : MH → Prop), us[i]? = some u → Fr [] mh mh1 → mh.length < mh1.length → (∀ mh' y, f u = some y → Fr [] mh1 mh' → k y mh') → (∀ mh', f u = none → Fr [] mh1 mh' → F mh') →
      g u sl mh1 fun sl2 mh2 => tt sl2 mh2 fun b mh3 => @mSel b ⟨e sl2 mh3 k⟩ ⟨F mh3⟩)
    (en : ∀ mh', Fr [] mh mh' → mh'[mh.length]? = some (.lst (us.filterMap f)) → Q (.ref mh.length) mh') : @lcA us sl mh ⟨chk, g, tt, e, Q⟩ := lcW_filt f hl ck st en
theorem lcA_map {chk : MH → Prop} {g : MG} {e : ME} {Q : MK} (f : Nat → U → U) (hl : us.length < sizeLine)
    (ck : ∀ mh', Fr [] mh mh' → chk mh')
    (st : ∀ (i : Nat) (u : U) mh1 (k : MK), us[i]? = some u → Fr [] mh mh1 → mh.length < mh1.length → (∀ mh', Fr [] mh1 mh' → k (f i u) mh') →
      g u sl mh1 fun sl2 mh2 => e sl2 mh2 k)
    (en : ∀ mh', Fr [] mh mh' → mh'[mh.length]? = some (.lst (us.mapIdx f)) → Q (.ref mh.length) mh') : @lcA us sl mh ⟨chk, g, mYes, e, Q⟩ := lcW_map f hl ck (fun i u mh1 k _ a b c d => st i u mh1 k a b c d) en
theorem lcA_pure {chk : MH → Prop} {g : MG} {e : ME} {Q : MK} (f : Nat → U → U) (hl : us.length < sizeLine)
    (ck : ∀ t, chk (mh ++ t))
    (st : ∀ (i : Nat) (u : U) t (k : MK), us[i]? = some u → k (f i u) (mh ++ [t]) → g u sl (mh ++ [t]) fun sl2 mh2 => e sl2 mh2 k)
    (en : Q (.ref mh.length) (mh ++ [.lst (us.mapIdx f)])) : @lcA us sl mh ⟨chk, g, mYes, e, Q⟩ := by
  show lcW mh.length chk g mYes e sl Q us [] (mh ++ [.lst []])
  suffices h : ∀ (vs : List U) (j : Nat) (acc : List U), (∀ i u, vs[i]? = some u → us[j + i]? = some u) → j + vs.length = us.length → acc.length = j → acc ++ (vs.mapIdx fun i => f (j + i)) = us.mapIdx f → lcW mh.length chk g mYes e sl Q vs acc (mh ++ [.lst acc]) from
    h us 0 [] (fun i u e => by simpa using e) (by simp) rfl (by simp)
  intro vs
  induction vs with
  | nil =>
    intro j acc _ _ _ ea
    simp at ea
    subst ea
    exact ⟨ck _, en⟩
  | cons u vs ih =>
    intro j acc ei l al ea
    refine ⟨ck _, st j u _ _ (ei 0 u rfl) ?_⟩
    refine ⟨get_new, by simp at l; omega, ?_⟩
    have e2 : (mh ++ [MO.lst acc]).set mh.length (.lst (acc ++ [f j u])) = mh ++ [.lst (acc ++ [f j u])] := by simp
    rw [e2]
    refine ih (j + 1) _ (fun i' u' z => by have := ei (i' + 1) u' (by simpa using z); rw [← this]; congr 1; omega) (by simp at l ⊢ <;> omega) (by simp [al]) ?_
    rw [← ea, List.mapIdx_cons, List.append_assoc]
    congr 1
    simp only [Nat.add_zero, List.singleton_append, List.cons.injEq, true_and]
    congr 1
    funext i
    congr 1
    omega
theorem lcA_eq {chk : MH → Prop} {g : MG} {e : ME} {Q : MK} (f : Nat → U → U) (hl : us.length < sizeLine)
    (ck : ∀ t, chk (mh ++ t))
    (st : ∀ (i : Nat) (u : U) t (k : MK), us[i]? = some u → (g u sl (mh ++ [t]) fun sl2 mh2 => e sl2 mh2 k) = k (f i u) (mh ++ [t])) :
    @lcA us sl mh ⟨chk, g, mYes, e, Q⟩ = Q (.ref mh.length) (mh ++ [.lst (us.mapIdx f)]) := by
  show lcW mh.length chk g mYes e sl Q us [] (mh ++ [.lst []]) = _
  suffices h : ∀ (vs : List U) (j : Nat) (acc : List U), (∀ i u, vs[i]? = some u → us[j + i]? = some u) → j + vs.length = us.length → acc.length = j → acc ++ (vs.mapIdx fun i => f (j + i)) = us.mapIdx f → lcW mh.length chk g mYes e sl Q vs acc (mh ++ [.lst acc]) = Q (.ref mh.length) (mh ++ [.lst (us.mapIdx f)]) from
    h us 0 [] (fun i u e => by simpa using e) (by simp) rfl (by simp)
  intro vs
  induction vs with
  | nil =>
    intro j acc _ _ _ ea
    simp at ea
    subst ea
    show (chk _ ∧ _) = _
    simp only [ck, true_and]
  | cons u vs ih =>
    intro j acc ei l al ea
    have e2 : (mh ++ [MO.lst acc]).set mh.length (.lst (acc ++ [f j u])) = mh ++ [.lst (acc ++ [f j u])] := by simp
    have e3 : lcW mh.length chk g mYes e sl Q (u :: vs) acc (mh ++ [.lst acc]) = (chk (mh ++ [.lst acc]) ∧ g u sl (mh ++ [.lst acc]) fun sl2 mh2 => e sl2 mh2 fun y mh4 => mh4[mh.length]? = some (.lst acc) ∧ acc.length < sizeLine ∧ lcW mh.length chk g mYes e sl Q vs (acc ++ [y]) (mh4.set mh.length (.lst (acc ++ [y])))) := rfl
    rw [e3, st j u _ _ (ei 0 u rfl), e2]
    have e4 : acc.length < sizeLine := by simp at l; omega
    simp only [ck, get_new, e4, true_and]
    refine ih (j + 1) _ (fun i' u' z => by have := ei (i' + 1) u' (by simpa using z); rw [← this]; congr 1; omega) (by simp at l ⊢ <;> omega) (by simp [al]) ?_
    rw [← ea, List.mapIdx_cons, List.append_assoc]
    congr 1
    simp only [Nat.add_zero, List.singleton_append, List.cons.injEq, true_and]
    congr 1
    funext i
    congr 1
    omega
theorem rng_map {α : Type} {lo : Int} {m : Nat} {f : Nat → α} : (rngU lo m).mapIdx (fun i _ => f i) = (List.range m).map f := by
  apply List.ext_getElem
  · simp [rngU]
  · intro i h1 h2; simp
theorem lcA_rngE {lo : Int} {m : Nat} {chk : MH → Prop} {g : MG} {e : ME} {Q : MK} (f : Nat → U) (hl : m < sizeLine) (ck : ∀ t, chk (mh ++ t))
    (st : ∀ (i : Nat) t (k : MK), i < m → (g (.int (lo + (i : Nat))) sl (mh ++ [t]) fun sl2 mh2 => e sl2 mh2 k) = k (f i) (mh ++ [t])) :
    @lcA (rngU lo m) sl mh ⟨chk, g, mYes, e, Q⟩ = Q (.ref mh.length) (mh ++ [.lst ((List.range m).map f)]) := by
  rw [lcA_eq (fun i _ => f i) (by rw [rngU_len]; exact hl) ck, rng_map]
  intro i u t k hu
  obtain ⟨rfl, hi⟩ := rngU_get hu
  exact st i t k hi
theorem lcA_rngF {lo : Int} {m : Nat} {chk : MH → Prop} {g : MG} {e : ME} {Q : MK} (f : Nat → U) (hl : m < sizeLine) (ck : ∀ mh', Fr [] mh mh' → chk mh')
    (st : ∀ (i : Nat) mh1 (k : MK), i < m → Fr [] mh mh1 → mh.length < mh1.length → (∀ mh', Fr [] mh1 mh' → k (f i) mh') → g (.int (lo + (i : Nat))) sl mh1 fun sl2 mh2 => e sl2 mh2 k)
    (en : ∀ mh', Fr [] mh mh' → mh'[mh.length]? = some (.lst ((List.range m).map f)) → Q (.ref mh.length) mh') : @lcA (rngU lo m) sl mh ⟨chk, g, mYes, e, Q⟩ := by
  refine lcA_map (fun i _ => f i) (by rw [rngU_len]; exact hl) ck (fun i u mh1 k hu f1 l1 hk => ?_) fun mh' f1 h => en mh' f1 (by rw [h, rng_map])
  obtain ⟨rfl, hi⟩ := rngU_get hu
  exact st i mh1 k hi f1 l1 hk
theorem lcA_mapE {α : Type} {zs : List α} {φ : α → U} {chk : MH → Prop} {g : MG} {e : ME} {Q : MK} (f : α → U) (hl : zs.length < sizeLine) (ck : ∀ t, chk (mh ++ t))
    (st : ∀ z t (k : MK), z ∈ zs → (g (φ z) sl (mh ++ [t]) fun sl2 mh2 => e sl2 mh2 k) = k (f z) (mh ++ [t])) :
    @lcA (zs.map φ) sl mh ⟨chk, g, mYes, e, Q⟩ = Q (.ref mh.length) (mh ++ [.lst (zs.map f)]) := by
  rw [lcA_eq (fun i _ => match zs[i]? with | some z => f z | none => .non) (by simpa using hl) ck]
  · congr 4
    apply List.ext_getElem
    · simp
    · intro i h1 h2
      simp at h1
      simp [h1]
  · intro i u t k hu
    rw [List.getElem?_map, Option.map_eq_some_iff] at hu
    obtain ⟨z, hz, rfl⟩ := hu
    rw [hz]
    exact st z t k (List.mem_of_getElem? hz)
theorem lcA_zipE {α : Type} {zs : List α} {xs ys : List U} {φ : α → U} {chk : MH → Prop} {g : MG} {e : ME} {Q : MK} (f : α → U) (hz : List.zipWith (fun a b => U.tup [a, b]) xs ys = zs.map φ) (hl : zs.length < sizeLine) (ck : ∀ t, chk (mh ++ t))
    (st : ∀ z t (k : MK), z ∈ zs → (g (φ z) sl (mh ++ [t]) fun sl2 mh2 => e sl2 mh2 k) = k (f z) (mh ++ [t])) :
    @lcA (List.zipWith (fun a b => U.tup [a, b]) xs ys) sl mh ⟨chk, g, mYes, e, Q⟩ = Q (.ref mh.length) (mh ++ [.lst (zs.map f)]) := by
  rw [hz]; exact lcA_mapE f hl ck st
theorem zip_ints (xs ys : List Int) : List.zipWith (fun a b => U.tup [a, b]) (iU xs) (iU ys) = (xs.zip ys).map fun p => U.tup [.int p.1, .int p.2] := by
  rw [List.zipWith_map, List.zip, List.map_zipWith]
theorem lcA_filtI {α : Type} {zs : List α} {φ : α → U} {chk : MH → Prop} {g : MG} {tt : MT} {e : ME} {Q : MK} (p : α → Bool) (f : α → U) (hl : zs.length < sizeLine) (ck : ∀ mh', Fr [] mh mh' → chk mh')
    (st : ∀ z mh1 (k : MK) (F : MH → Prop), z ∈ zs → Fr [] mh mh1 → (p z = true → ∀ mh', Fr [] mh1 mh' → k (f z) mh') → (p z = false → ∀ mh', Fr [] mh1 mh' → F mh') →
      g (φ z) sl mh1 fun sl2 mh2 => tt sl2 mh2 fun b mh3 => @mSel b ⟨e sl2 mh3 k⟩ ⟨F mh3⟩)
    (en : ∀ mh', Fr [] mh mh' → mh'[mh.length]? = some (.lst ((zs.filter p).map f)) → Q (.ref mh.length) mh') : @lcA (zs.map φ) sl mh ⟨chk, g, tt, e, Q⟩ := by
  show lcW mh.length chk g tt e sl Q (zs.map φ) [] (mh ++ [.lst []])
  suffices h : ∀ (vs : List α) (acc : List U) mh', (∀ z ∈ vs, z ∈ zs) → acc.length + vs.length ≤ zs.length → acc ++ (vs.filter p).map f = (zs.filter p).map f → Fr [] mh mh' → mh'[mh.length]? = some (.lst acc) → lcW mh.length chk g tt e sl Q (vs.map φ) acc mh' from
    h zs [] _ (fun _ h => h) (by simp) (by simp) Fr.app get_new
  intro vs
  induction vs with
  | nil =>
    intro acc mh' _ _ ea f1 hacc
    simp at ea
    subst ea
    exact ⟨ck _ f1, en _ f1 hacc⟩
  | cons v vs ih =>
    intro acc mh' hm hln ea f1 hacc
    refine ⟨ck _ f1, st v mh' _ _ (hm v List.mem_cons_self) f1 (fun hp mh2 f2 => ?_) fun hp mh2 f2 => ?_⟩
    · have h2 := f2.get0 hacc
      simp only [List.length_cons] at hln
      refine ⟨h2, by omega, ih _ _ (fun z hz => hm z (List.mem_cons_of_mem _ hz)) (by simp; omega) ?_ ((f1.trans f2).put (.inr (Nat.le_refl _))) (get_set h2)⟩
      rw [← ea, List.filter_cons, if_pos hp, List.append_assoc]
      rfl
    · simp only [List.length_cons] at hln
      refine ih _ _ (fun z hz => hm z (List.mem_cons_of_mem _ hz)) (by omega) ?_ (f1.trans f2) (f2.get0 hacc)
      rw [← ea, List.filter_cons, if_neg (by simp [hp])]
theorem lcA_ind {chk : MH → Prop} {g : MG} {e : ME} {Q : MK} (I : Nat → List U → MH → Prop) (hl : us.length < sizeLine) (i0 : I 0 [] (mh ++ [.lst []]))
    (st : ∀ (i : Nat) (u : U) acc mh1 (k : MK), us[i]? = some u → acc.length = i → I i acc mh1 → (∀ y mh', mh'[mh.length]? = some (.lst acc) → I (i + 1) (acc ++ [y]) (mh'.set mh.length (.lst (acc ++ [y]))) → k y mh') → chk mh1 ∧ g u sl mh1 fun sl2 mh2 => e sl2 mh2 k)
    (en : ∀ acc mh', acc.length = us.length → I us.length acc mh' → chk mh' ∧ Q (.ref mh.length) mh') : @lcA us sl mh ⟨chk, g, mYes, e, Q⟩ := by
  show lcW mh.length chk g mYes e sl Q us [] (mh ++ [.lst []])
  suffices h : ∀ (vs : List U) (j : Nat) (acc : List U) mh', (∀ i u, vs[i]? = some u → us[j + i]? = some u) → j + vs.length = us.length → acc.length = j → I j acc mh' → lcW mh.length chk g mYes e sl Q vs acc mh' from
    h us 0 [] _ (fun i u e => by simpa using e) (by simp) rfl i0
  intro vs
  induction vs with
  | nil =>
    intro j acc mh' _ l al i
    simp at l
    subst l
    exact en acc mh' al i
  | cons u vs ih =>
    intro j acc mh' ei l al i
    obtain ⟨h1, h2⟩ := st j u acc mh' (fun y mh4 => mh4[mh.length]? = some (.lst acc) ∧ acc.length < sizeLine ∧ lcW mh.length chk g mYes e sl Q vs (acc ++ [y]) (mh4.set mh.length (.lst (acc ++ [y])))) (ei 0 u rfl) al i fun y mh4 h4 i4 => ⟨h4, by simp at l; omega, ih (j + 1) _ _ (fun i' u' z => by have := ei (i' + 1) u' (by simpa using z); rw [← this]; congr 1; omega) (by simp at l ⊢; omega) (by simp [al]) i4⟩
    exact ⟨h1, h2⟩
theorem lcA_indG {chk : MH → Prop} {g : MG} {tt : MT} {e : ME} {Q : MK} (I : Nat → List U → MH → Prop) (hl : us.length < sizeLine) (i0 : I 0 [] (mh ++ [.lst []]))
    (st : ∀ (i : Nat) (u : U) acc mh1 (k : MK) (F : MH → Prop), us[i]? = some u → acc.length ≤ i → I i acc mh1 → (∀ y mh', mh'[mh.length]? = some (.lst acc) → I (i + 1) (acc ++ [y]) (mh'.set mh.length (.lst (acc ++ [y]))) → k y mh') → (∀ mh', I (i + 1) acc mh' → F mh') →
      chk mh1 ∧ g u sl mh1 fun sl2 mh2 => tt sl2 mh2 fun b mh3 => @mSel b ⟨e sl2 mh3 k⟩ ⟨F mh3⟩)
    (en : ∀ acc mh', acc.length ≤ us.length → I us.length acc mh' → chk mh' ∧ Q (.ref mh.length) mh') : @lcA us sl mh ⟨chk, g, tt, e, Q⟩ := by
  show lcW mh.length chk g tt e sl Q us [] (mh ++ [.lst []])
  suffices h : ∀ (vs : List U) (j : Nat) (acc : List U) mh', (∀ i u, vs[i]? = some u → us[j + i]? = some u) → j + vs.length = us.length → acc.length ≤ j → I j acc mh' → lcW mh.length chk g tt e sl Q vs acc mh' from
    h us 0 [] _ (fun i u e => by simpa using e) (by simp) (Nat.zero_le _) i0
  intro vs
  induction vs with
  | nil =>
    intro j acc mh' _ l al i
    simp at l
    subst l
    exact en acc mh' al i
  | cons u vs ih =>
    intro j acc mh' ei l al i
    have ei' : ∀ i' u', vs[i']? = some u' → us[j + 1 + i']? = some u' := fun i' u' z => by have := ei (i' + 1) u' (by simpa using z); rw [← this]; congr 1; omega
    have l' : j + 1 + vs.length = us.length := by simp at l ⊢ <;> omega
    obtain ⟨h1, h2⟩ := st j u acc mh' (fun y mh4 => mh4[mh.length]? = some (.lst acc) ∧ acc.length < sizeLine ∧ lcW mh.length chk g tt e sl Q vs (acc ++ [y]) (mh4.set mh.length (.lst (acc ++ [y])))) (fun mh3 => lcW mh.length chk g tt e sl Q vs acc mh3) (ei 0 u rfl) al i
      (fun y mh4 h4 i4 => ⟨h4, by simp at l; omega, ih (j + 1) _ _ ei' l' (by simp; omega) i4⟩) fun mh4 i4 => ih (j + 1) _ _ ei' l' (by omega) i4
    exact ⟨h1, h2⟩
theorem x_wipe0 : wipeU sl [] = sl := rfl
theorem x_wipe1 {q : Nat} {vs : List Nat} : wipeU sl (q :: vs) = (wipeU sl vs).set q none := rfl
theorem x_yes {Q : Bool → MH → Prop} : mYes sl mh Q = Q true mh := rfl
-- methods of lists, dicts
def isLst (u : U) (mh : MH) : Prop := ∃ n us, u = .ref n ∧ mh[n]? = some (.lst us)
theorem x_isLst : isLst (.ref n) mh = @onO mh[n]? ⟨fun _ => True⟩ F2 F3 := by
  unfold isLst onO
  apply propext
  constructor
  · rintro ⟨m, us, e, h⟩
    cases e
    rw [h]
    trivial
  · intro h
    split at h
    · exact ⟨n, _, rfl, by assumption⟩
    · exact h.elim
    · exact h.elim
    · exact h.elim
theorem x_bm {g : MM} {m : MA} : mBm g mo m sl mh P = mo sl mh fun u mh1 => isLst u mh1 ∧ m sl mh1 fun us mh2 => @ap _ _ (g u us mh2) ⟨P⟩ := rfl
theorem x_append : ap (uAppend (.ref n) [u] mh) = @onO mh[n]? ⟨fun xs => xs.length < sizeLine ∧ k.f .non (mh.set n (.lst (xs ++ [u])))⟩ F2 F3 := by
  unfold ap uAppend onO; dsimp only; generalize mh[n]? = o; cases o with
  | none => rfl
  | some o => cases o <;> rfl
theorem x_extend : ap (uExtend (.ref n) [.ref b] mh) = @onO mh[n]? ⟨fun xs => @onO mh[b]? ⟨fun ys => xs.length + ys.length ≤ sizeLine ∧ k.f .non (mh.set n (.lst (xs ++ ys)))⟩ F2 F3⟩ F2 F3 := by
  unfold ap uExtend onO; dsimp only; generalize mh[n]? = o; generalize mh[b]? = o2; cases o with
  | none => cases o2 with | none => rfl | some o2 => cases o2 <;> rfl
  | some o => cases o <;> (cases o2 with | none => rfl | some o2 => cases o2 <;> rfl)
theorem x_extendT : ap (uExtend (.ref n) [.tup ys] mh) = @onO mh[n]? ⟨fun xs => xs.length + ys.length ≤ sizeLine ∧ k.f .non (mh.set n (.lst (xs ++ ys)))⟩ F2 F3 := by
  unfold ap uExtend onO; dsimp only; generalize mh[n]? = o; cases o with
  | none => rfl
  | some o => cases o <;> rfl
theorem x_pop0 : ap (uPop (.ref n) [] mh) = @onO mh[n]? ⟨fun xs => @onU _ xs[xs.length - 1]? ⟨fun y => k.f y (mh.set n (.lst xs.dropLast))⟩⟩ F2 F3 := by
  unfold ap uPop onO onU; dsimp only; generalize mh[n]? = o; cases o with
  | none => rfl
  | some o => cases o with
    | lst us => dsimp only; cases us[us.length - 1]? <;> rfl
    | dK kvs => rfl
    | ins C fs => rfl
    | lk kvs => rfl
theorem x_popI : ap (uPop (.ref n) [.int i] mh) = @onO mh[n]? ⟨fun xs => (-(2 ^ 63) ≤ i ∧ i < 2 ^ 63) ∧ @onU _ (seqIndex? i xs.length) ⟨fun q => @onU _ xs[q]? ⟨fun y => k.f y (mh.set n (.lst (xs.eraseIdx q)))⟩⟩⟩ F2 F3 := by
  unfold ap uPop onO onU; dsimp only; generalize mh[n]? = o; cases o with
  | none => rfl
  | some o => cases o with
    | lst us =>
      dsimp only
      cases seqIndex? i us.length with
      | none => rfl
      | some q => dsimp only; cases us[q]? <;> rfl
    | dK kvs => rfl
    | ins C fs => rfl
    | lk kvs => rfl
theorem x_dictC : ap (uDictC [.ref n] mh) = @onO mh[n]? ⟨fun us => @onU _ (pairsU us) ⟨fun kvs => k.f (.ref mh.length) (mh ++ [.dK (mergeU kvs)])⟩⟩ ⟨fun kvs => k.f (.ref mh.length) (mh ++ [.dK kvs])⟩ F3 := by
  unfold ap uDictC u1 onO onU; dsimp only; generalize mh[n]? = o; cases o with
  | none => rfl
  | some o => cases o with
    | lst us => dsimp only; cases pairsU us <;> rfl
    | dK kvs => rfl
    | ins C fs => rfl
    | lk kvs => rfl
def sortK (us : List U) (mh : MH) [k : KM] : Prop := sortM us mh k.f
def sortTK (us : List U) (mh : MH) [k : KM] : Prop := sortT us mh k.f
theorem x_sorted : ap (uSorted [.ref n] mh) = @onO mh[n]? ⟨fun us => @sortK us mh k⟩ ⟨fun kvs => @sortK (keysU kvs) mh k⟩ F3 := by
  unfold ap uSorted u1 onO; dsimp only; generalize mh[n]? = o; cases o with
  | none => rfl
  | some o => cases o <;> rfl
theorem x_sortedT : ap (uSorted [.tup us] mh) = @sortTK us mh k := rfl
theorem ints_map0 : ∀ (xs : List Int), intsU (iU xs) = some xs
  | [] => rfl
  | x :: xs => by
    have := ints_map0 xs
    simp only [iU] at this
    simp [intsU, this]
theorem x_sortK {ns : List Int} : @sortK (iU ns) mh k = k.f (.ref mh.length) (mh ++ [.lst (iU (sortI ns))]) := by
  unfold sortK sortM; rw [ints_map0]
theorem x_sortTK {ns : List Int} : @sortTK (iU ns) mh k = k.f (.ref mh.length) (mh ++ [.lst (iU (sortI ns))]) := by
  unfold sortTK sortT; rw [ints_map0]
theorem sortK_of {ns : List Int} (h : intsU us = some ns) : @sortK us mh k = k.f (.ref mh.length) (mh ++ [.lst (iU (sortI ns))]) := by
  unfold sortK sortM; rw [h]
theorem x_int_b {q : Bool} : ap (uInt [.bl q] mh) = k.f (.int (if q then 1 else 0)) mh := rfl
theorem x_isT {T : String} : ap (uIsT T u mh) = @onU _ (tyU u mh) ⟨fun t => k.f (.bl (isSubT t T)) mh⟩ := by
  unfold ap uIsT onU; cases tyU u mh <;> rfl
theorem x_ty_non : tyU .non mh = some "NoneType" := rfl
theorem x_ty_bl {q : Bool} : tyU (.bl q) mh = some "bool" := rfl
theorem x_ty_int : tyU (.int i) mh = some "int" := rfl
theorem x_ty_str : tyU (.str x) mh = some "str" := rfl
theorem x_ty_tup : tyU (.tup us) mh = some "tuple" := rfl
theorem x_st1 : isSubT "int" "int" = true := by decide
theorem x_st2 : isSubT "int" "bool" = false := by decide
theorem x_st3 : isSubT "tuple" "tuple" = true := by decide
theorem x_st4 : isSubT "int" "tuple" = false := by decide
theorem x_st5 : isSubT "tuple" "int" = false := by decide
theorem x_isC {C : Addr} : ap (uIsC C (.ref n) mh) = @onO mh[n]? F1 F2 ⟨fun C' _ => C' = C ∧ k.f (.bl true) mh⟩ := by
  unfold ap uIsC onO; dsimp only; generalize mh[n]? = o; cases o with
  | none => rfl
  | some o => cases o <;> rfl
def getK (mh1 : MH) (o : U) [Q : Kc (Nat → Prop)] : Prop := match o with
  | .ref n => (∃ kvs, mh1[n]? = some (.dK kvs)) ∧ Q.f n
  | _ => False
def isDct (n : Nat) (mh : MH) : Prop := ∃ kvs, mh[n]? = some (.dK kvs)
theorem x_isDct : isDct n mh = @onO mh[n]? F1 ⟨fun _ => True⟩ F3 := by
  unfold isDct onO
  apply propext
  constructor
  · rintro ⟨us, h⟩
    rw [h]
    trivial
  · intro h
    split at h
    · exact h.elim
    · exact ⟨_, by assumption⟩
    · exact h.elim
    · exact h.elim
theorem x_getK {Q : Kc (Nat → Prop)} : getK mh (.ref n) = (isDct n mh ∧ Q.f n) := rfl
theorem x_get2 : mGet2 mo mk mi sl mh P = mo sl mh fun o mh1 => @getK mh1 o ⟨fun n => mk sl mh1 fun kx mh2 => mi sl mh2 fun z mh3 => @onO mh3[n]? F1 ⟨fun kvs => @onU _ (uKey kx) ⟨fun q => P ((valU kvs q).getD z) mh3⟩⟩ F3⟩ := by
  unfold mGet2 getK onO onU
  congr 1; funext o mh1
  cases o <;> try rfl
  dsimp only
  rename_i n
  congr 1; congr 1; funext kx mh2; congr 1; funext z mh3
  generalize mh3[n]? = q; generalize uKey kx = w
  cases q with
  | none => rfl
  | some o => cases o <;> cases w <;> rfl
theorem x_pop2 : mPop2 mo mk mi sl mh P = mo sl mh fun o mh1 => @getK mh1 o ⟨fun n => mk sl mh1 fun kx mh2 => mi sl mh2 fun z mh3 => @onO mh3[n]? F1 ⟨fun kvs => @onU _ (uKey kx) ⟨fun q => P ((valU kvs q).getD z) (mh3.set n (.dK (dropU kvs q)))⟩⟩ F3⟩ := by
  unfold mPop2 getK onO onU
  congr 1; funext o mh1
  cases o <;> try rfl
  dsimp only
  rename_i n
  congr 1; congr 1; funext kx mh2; congr 1; funext z mh3
  generalize mh3[n]? = q; generalize uKey kx = w
  cases q with
  | none => rfl
  | some o => cases o <;> cases w <;> rfl
class Kd where
  ck : MH → Prop
  g : MG
  t : MT
  ek : ME
  ev : ME
  P : MK
def dcA (items : List U) (sl : Sl) (mh : MH) [k : Kd] : Prop := dcW mh.length k.ck k.g k.t k.ek k.ev sl k.P items [] (mh ++ [.dK []])
theorem x_dc {m : MI} {g : MG} {vs : List Nat} : mDc m g tt ma mb vs sl mh P = m sl mh fun items chk mh1 => @dcA items (wipeU sl vs) mh1 ⟨chk, g, tt, ma, mb, P⟩ := rfl
theorem dcA_ind {chk : MH → Prop} {g : MG} {tt : MT} {ek ev : ME} {Q : MK} (I : Nat → List (Key × U) → MH → Prop) (i0 : I 0 [] (mh ++ [.dK []]))
    (st : ∀ (i : Nat) (u : U) acc mh1 (k : U → U → MH → Prop) (F : MH → Prop), us[i]? = some u → I i acc mh1 → (∀ y z q mh', uKey y = some q → mh'[mh.length]? = some (.dK acc) → acc.length < sizeLine → I (i + 1) (putU acc q z) (mh'.set mh.length (.dK (putU acc q z))) → k y z mh') → (∀ mh', I (i + 1) acc mh' → F mh') →
      chk mh1 ∧ g u sl mh1 fun sl2 mh2 => tt sl2 mh2 fun b mh3 => @mSel b ⟨ek sl2 mh3 fun y mh4 => ev sl2 mh4 fun z mh5 => k y z mh5⟩ ⟨F mh3⟩)
    (en : ∀ acc mh', I us.length acc mh' → chk mh' ∧ Q (.ref mh.length) mh') : @dcA us sl mh ⟨chk, g, tt, ek, ev, Q⟩ := by
  show dcW mh.length chk g tt ek ev sl Q us [] (mh ++ [.dK []])
  suffices h : ∀ (vs : List U) (j : Nat) (acc : List (Key × U)) mh', (∀ i u, vs[i]? = some u → us[j + i]? = some u) → j + vs.length = us.length → I j acc mh' → dcW mh.length chk g tt ek ev sl Q vs acc mh' from
    h us 0 [] _ (fun i u e => by simpa using e) (by simp) i0
  intro vs
  induction vs with
  | nil =>
    intro j acc mh' _ l i
    simp at l
    subst l
    exact en acc mh' i
  | cons u vs ih =>
    intro j acc mh' ei l i
    have ei' : ∀ i' u', vs[i']? = some u' → us[j + 1 + i']? = some u' := fun i' u' z => by have := ei (i' + 1) u' (by simpa using z); rw [← this]; congr 1; omega
    have l' : j + 1 + vs.length = us.length := by simp at l ⊢ <;> omega
    exact st j u acc mh' (fun y z mh5 => ∃ k, uKey y = some k ∧ mh5[mh.length]? = some (.dK acc) ∧ acc.length < sizeLine ∧ dcW mh.length chk g tt ek ev sl Q vs (putU acc k z) (mh5.set mh.length (.dK (putU acc k z)))) (fun mh3 => dcW mh.length chk g tt ek ev sl Q vs acc mh3) (ei 0 u rfl) i
      (fun y z q mh4 hq h4 hs i4 => ⟨q, hq, h4, hs, ih (j + 1) _ _ ei' l' i4⟩) fun mh4 i4 => ih (j + 1) _ _ ei' l' i4
def pthK (o : Option U) (mh : MH) [F : Kc (Nat → List (Key × U) → Prop)] : Prop := match o with
  | some (.ref n) => match mh[n]? with
    | some (.dK kvs) => F.f n kvs
    | _ => False
  | _ => False
theorem x_pthK {F : Kc (Nat → List (Key × U) → Prop)} : @pthK (some (.ref n)) mh F = @onO mh[n]? F1 ⟨fun kvs => F.f n kvs⟩ F3 := by
  unfold pthK onO; dsimp only; generalize mh[n]? = o; cases o with
  | none => rfl
  | some o => cases o <;> rfl
def onL (o : Option MO) [F : Kc (List (Key × U) → Prop)] : Prop := match o with
  | some (.lk kvs) => F.f kvs
  | _ => False
theorem x_onL {kvs : List (Key × U)} {F : Kc (List (Key × U) → Prop)} : @onL (some (.lk kvs)) F = F.f kvs := rfl
def pthL (o : Option U) (mh : MH) [F : Kc (List (Key × U) → Prop)] : Prop := match o with
  | some (.ref n) => @onL mh[n]? F
  | _ => False
theorem x_pthL {F : Kc (List (Key × U) → Prop)} : @pthL (some (.ref n)) mh F = @onL mh[n]? F := rfl
theorem x_lkE {p : Pth} : mLk p ma sl mh P = @pthK (pev p sl mh) mh ⟨fun n kvs => ma sl (mh.set n (.lk kvs)) fun v mh' => P v (mh'.set n (.dK kvs))⟩ := rfl
theorem x_lkS {p : Pth} : mLkS p s N sl mh = @pthK (pev p sl mh) mh ⟨fun n kvs => s ⟨fun sl mh' => N.nx sl (mh'.set n (.dK kvs)), fun v mh' => N.rt v (mh'.set n (.dK kvs)), fun sl mh' => N.bk sl (mh'.set n (.dK kvs)), fun sl mh' => N.ct sl (mh'.set n (.dK kvs))⟩ sl (mh.set n (.lk kvs))⟩ := rfl
theorem x_lkI {f : List (Key × U) → List U} {p : Pth} {Q : List U → (MH → Prop) → MH → Prop} : lkI f p sl mh Q = @pthL (pev p sl mh) mh ⟨fun kvs => Q (f kvs) (fun _ => True) mh⟩ := by
  unfold lkI pthL onL
  generalize pev p sl mh = o
  cases o with
  | none => rfl
  | some u =>
    cases u <;> rfl
def pfl (o : Option U) (Cs : List Addr) (f : Str) (mh : MH) : Option U := match o with
  | some (.ref n) => match mh[n]? with
    | some (.ins C fs) => if C ∈ Cs then fs.lookup f else none
    | _ => none
  | _ => none
def fldO (o : Option MO) (Cs : List Addr) (f : Str) : Option U := match o with
  | some (.ins C fs) => if C ∈ Cs then fs.lookup f else none
  | _ => none
def pky (o : Option U) (x : Str) (mh : MH) : Option U := match o with
  | some (.ref n) => match mh[n]? with
    | some (.dK kvs) => valU kvs (.inr x)
    | _ => none
  | _ => none
def kyO (o : Option MO) (x : Str) : Option U := match o with
  | some (.dK kvs) => valU kvs (.inr x)
  | _ => none
theorem x_pv1 {q : Nat} : pev (.var q) sl mh = (sl[q]?).join := rfl
theorem x_pv2 {Cs : List Addr} {f : Str} {p : Pth} : pev (.fld Cs f p) sl mh = pfl (pev p sl mh) Cs f mh := rfl
theorem x_pv3 {p : Pth} : pev (.key x p) sl mh = pky (pev p sl mh) x mh := rfl
theorem x_pfl {Cs : List Addr} {f : Str} : pfl (some (.ref n)) Cs f mh = fldO mh[n]? Cs f := rfl
theorem x_pky : pky (some (.ref n)) x mh = kyO mh[n]? x := rfl
theorem x_fldO {C : Addr} {Cs : List Addr} {f : Str} {fs : List (Str × U)} : fldO (some (.ins C fs)) Cs f = if C ∈ Cs then fs.lookup f else none := rfl
theorem x_kyO {kvs : List (Key × U)} : kyO (some (.dK kvs)) x = valU kvs (.inr x) := rfl
theorem x_join : (some (some u)).join = some u := rfl
theorem x_valsU0 : valsU [] = [] := rfl
theorem sset_sp {ns : List Int} (h : ns.length < 64) (k : ∀ ms : List Int, ms.Pairwise (· < ·) → (∀ x, x ∈ ms ↔ x ∈ ns) → P (.ref mh.length) (mh ++ [.lst (iU ms)])) : uSortSet (tU ns) mh P := by
  unfold uSortSet
  dsimp only
  rw [ints_map0]
  exact ⟨h, k⟩
theorem x_lstRg1 : mLstRg1 ma sl mh P = ma sl mh fun u mh1 => @intK u ⟨fun j => RgOk 0 j ∧ P (.ref mh1.length) (mh1 ++ [.lst (rngU 0 j.toNat)])⟩ := rfl
-- rows by keys
theorem x_val1 {r : List (Key × U)} {q : Key} : valU ((q, u) :: r) q = some u := by simp [valU]
theorem x_val2 {r : List (Key × U)} {q p : Key} (h : p ≠ q) : valU ((p, u) :: r) q = valU r q := by simp [valU, h]
theorem x_val0 {q : Key} : valU [] q = none := rfl
theorem x_put1 {r : List (Key × U)} {q : Key} {v : U} (h : (r.all fun kv => decide (kv.1 ≠ q)) = true) : putU ((q, u) :: r) q v = (q, v) :: r := by
  have e : r.map (fun kv => if kv.1 = q then (kv.1, v) else kv) = r := by
    conv => rhs; rw [← List.map_id r]
    apply List.map_congr_left
    intro kv m
    have := List.all_eq_true.mp h kv m
    simp at this
    simp [this]
  simp [putU, e]
theorem x_put2 {r : List (Key × U)} {q p : Key} {v : U} (h : p ≠ q) : putU ((p, u) :: r) q v = (p, u) :: putU r q v := by
  unfold putU
  by_cases e : ((p, u) :: r).any fun kv => decide (kv.1 = q)
  · have e2 : (r.any fun kv => decide (kv.1 = q)) = true := by simpa [h] using e
    rw [if_pos e, if_pos e2]
    simp [h]
  · have e2 : ¬(r.any fun kv => decide (kv.1 = q)) = true := by simpa [h] using e
    rw [if_neg e, if_neg e2]
    rfl
theorem x_put0 {q : Key} {v : U} : putU [] q v = [(q, v)] := rfl
theorem x_lk1 {r : List (Str × U)} : List.lookup x ((x, u) :: r) = some u := by simp [List.lookup]
theorem x_lk2 {r : List (Str × U)} (h : x ≠ y) : List.lookup x ((y, u) :: r) = List.lookup x r := by
  have : (x == y) = false := by simpa using h
  simp [List.lookup, this]
theorem x_lk0 : List.lookup x ([] : List (Str × U)) = none := rfl
theorem x_pf1 {r : List (Str × U)} {v : U} : putFU x v ((x, u) :: r) = (x, v) :: r := by simp [putFU]
theorem x_pf2 {r : List (Str × U)} {v : U} (h : y ≠ x) : putFU x v ((y, u) :: r) = (y, u) :: putFU x v r := by simp [putFU, h]
theorem x_pf0 {v : U} : putFU x v [] = [(x, v)] := rfl
-- bounds
theorem x_sz1 {q : Nat} (h : q < sizeLine) : (q < sizeLine) = True := by simp [h]
theorem x_sz2 {q : Nat} (h : q ≤ sizeLine) : (q ≤ sizeLine) = True := by simp [h]
theorem x_k1000 {q : Nat} (h : q < 1000) : (q < 1000) = True := by simp [h]
theorem x_mulL (h : -(2 ^ 64) < i ∧ i < 2 ^ 64) : CMul i j = True := by simp only [CMul, h, and_self, true_or]
theorem x_mulR (h : -(2 ^ 64) < j ∧ j < 2 ^ 64) : CMul i j = True := by simp only [CMul, h, and_self, or_true]
theorem x_mulM (h : 0 < j ∧ j < 2 ^ 62) {z : Int} : CMul (i.fmod j) z = True := by
  have h1 := Int.fmod_nonneg_of_pos i h.1
  have h2 := Int.fmod_lt_of_pos i h.1
  exact x_mulL ⟨by omega, by omega⟩
theorem x_divB (h : 0 < j ∧ j < 1073741824) : CDivN i j = True := by simp only [CDivN, eq_iff_iff, iff_true]; omega
theorem x_powB (h : 0 ≤ j ∧ j ≤ 1000000 ∧ -(2 ^ 63) < i ∧ i < 2 ^ 63) : CPow i j = True := by simp only [CPow, eq_iff_iff, iff_true]; omega
theorem x_nz (h : 0 < j) : (j ≠ 0) = True := by simp only [eq_iff_iff, iff_true]; omega
theorem x_rgB (h : -(2 ^ 62) ≤ i ∧ i < 2 ^ 62) : (-(2 ^ 62) ≤ i ∧ i < 2 ^ 62) = True := by simp only [h, and_self]
theorem x_rgB2 (h : -(2 ^ 62) ≤ i ∧ i < 2 ^ 62) (h2 : -(2 ^ 62) ≤ j ∧ j < 2 ^ 62) : (-(2 ^ 62) ≤ i ∧ i < 2 ^ 62 ∧ -(2 ^ 62) ≤ j ∧ j < 2 ^ 62) = True := by simp only [h, h2, and_self]
-- data
theorem x_dispK {ps : List (U × U)} : dispK n ps mh = @onO mh[n]? F1 ⟨fun kvs => kvs = [] ∧ @onU _ (uKeys ps) ⟨fun kvs => kvs.length ≤ 15 ∧ k.f (.ref n) (mh.set n (.dK (kvs.foldl (fun acc kv => putU acc kv.1 kv.2) [])))⟩⟩ F3 := by
  unfold dispK onO onU; generalize mh[n]? = o; cases o with
  | none => rfl
  | some o => cases o with
    | lst us => rfl
    | ins C fs => rfl
    | lk kvs => rfl
    | dK kvs => cases kvs with
      | nil => dsimp only; cases uKeys ps <;> simp
      | cons a r => simp
theorem x_keys0 : uKeys [] = some [] := rfl
theorem x_keysS {v : U} {r : List (U × U)} : uKeys ((.str x, v) :: r) = (uKeys r).map fun r => (.inr x, v) :: r := by
  simp only [uKeys, uKey]; cases uKeys r <;> rfl
theorem x_keysI {v : U} {r : List (U × U)} : uKeys ((.int i, v) :: r) = (uKeys r).map fun r => (.inl i, v) :: r := by
  simp only [uKeys, uKey]; cases uKeys r <;> rfl
theorem x_omap {α β : Type} {f : α → β} {z : α} : (some z).map f = some (f z) := rfl
theorem cut_none {us : List U} {m : Int} (h : (us.length : Int) ≤ m) : cutU us none (some m) = us := by
  unfold cutU
  simp only [HT.sIx]
  rw [if_neg (by omega), Nat.min_eq_right (by omega)]
  simp
theorem cut_to {us : List U} {m : Int} (h0 : 0 ≤ m) : cutU us none (some m) = us.take m.toNat := by
  unfold cutU
  simp only [HT.sIx]
  rw [if_neg (by omega)]
  simp
theorem cut_from {us : List U} {m : Int} (h0 : 0 ≤ m) : cutU us (some m) none = us.drop m.toNat := by
  unfold cutU
  simp only [HT.sIx]
  rw [if_neg (by omega)]
  by_cases h : m.toNat ≤ us.length
  · rw [Nat.min_eq_left h, List.take_of_length_le (by simp)]
  · rw [Nat.min_eq_right (by omega), List.drop_of_length_le (Nat.le_refl _), List.drop_of_length_le (by omega)]
    simp
theorem cut_both {us : List U} {a b : Int} (h0 : 0 ≤ a) (h1 : a ≤ b) (h2 : b ≤ us.length) : cutU us (some a) (some b) = (us.drop a.toNat).take (b - a).toNat := by
  unfold cutU
  simp only [HT.sIx]
  rw [if_neg (by omega), if_neg (by omega), Nat.min_eq_left (by omega), Nat.min_eq_left (by omega)]
  congr 1
  omega
theorem at_nat {us : List U} {i : Int} (h0 : 0 ≤ i) (h : i < us.length) : atI us i = some (us[i.toNat]'(by omega)) := by
  unfold atI ixN
  rw [if_pos h0, if_pos h]
  simp
theorem at_map {α : Type} {xs : List α} {f : α → U} {i : Int} (h0 : 0 ≤ i) (h : i < xs.length) : atI (xs.map f) i = some (f (xs[i.toNat]'(by omega))) := by
  rw [at_nat h0 (by simpa using h)]
  simp
theorem at_last {us : List U} {u : U} : atI (us ++ [u]) (-1) = some u := by
  unfold atI ixN
  rw [if_neg (by decide)]
  simp only [List.length_append, List.length_cons, List.length_nil]
  rw [if_pos (by omega)]
  have : ((-1 : Int) + ((us.length + (0 + 1) : Nat) : Int)).toNat = us.length := by omega
  rw [this]
  simp
theorem ixN_nat {m : Nat} {i : Int} (h0 : 0 ≤ i) (h : i < m) : ixN m i = some i.toNat := by
  unfold ixN
  rw [if_pos h0, if_pos h]
theorem val_put {kvs : List (Key × U)} {p q : Key} {v : U} : valU (putU kvs p v) q = if p = q then some v else valU kvs q := by
  induction kvs with
  | nil => unfold putU valU; by_cases e : p = q <;> simp [e]
  | cons a r ih =>
    obtain ⟨x, y⟩ := a
    by_cases e : x = p
    · subst e
      unfold putU
      rw [if_pos (by simp)]
      simp only [List.map_cons, if_true]
      by_cases e2 : x = q
      · subst e2; simp [valU]
      · rw [x_val2 e2, x_val2 e2, if_neg e2]
        unfold valU
        clear ih
        induction r with
        | nil => rfl
        | cons b r ih =>
          obtain ⟨z, w⟩ := b
          simp only [List.map_cons]
          by_cases e3 : z = x
          · subst e3
            simp only [if_true, List.find?_cons]
            simp only [e2, decide_false]
            exact ih
          · simp only [e3, if_false, List.find?_cons]
            by_cases e4 : z = q
            · simp [e4]
            · simp only [e4, decide_false]
              exact ih
    · rw [x_put2 e]
      by_cases e2 : x = q
      · subst e2
        rw [x_val1, x_val1, if_neg (fun z => e z.symm)]
      · rw [x_val2 e2, x_val2 e2, ih]
theorem put_len {kvs : List (Key × U)} {p : Key} {v : U} : (putU kvs p v).length ≤ kvs.length + 1 := by
  unfold putU; split <;> simp
theorem enum_get {us : List U} {i : Nat} {u : U} (h : (enumU us)[i]? = some u) : ∃ v, us[i]? = some v ∧ u = .tup [.int (i : Nat), v] := by
  unfold enumU at h
  rw [List.getElem?_mapIdx, Option.map_eq_some_iff] at h
  obtain ⟨v, h1, h2⟩ := h
  exact ⟨v, h1, h2.symm⟩
theorem enum_len {us : List U} : (enumU us).length = us.length := by simp [enumU]
theorem x_at1 {u0 : U} : atI (u0 :: us) 0 = some u0 := by rw [at_nat (by decide) (by simp <;> omega)]; rfl
theorem x_at2 {u0 u1 : U} : atI (u0 :: u1 :: us) 1 = some u1 := by rw [at_nat (by decide) (by simp <;> omega)]; rfl
theorem x_at3 {u0 u1 u2 : U} : atI (u0 :: u1 :: u2 :: us) 2 = some u2 := by rw [at_nat (by decide) (by simp <;> omega)]; rfl
theorem x_at4 {u0 u1 u2 u3 : U} : atI (u0 :: u1 :: u2 :: u3 :: us) 3 = some u3 := by rw [at_nat (by decide) (by simp <;> omega)]; rfl
theorem x_at5 {u0 u1 u2 u3 u4 : U} : atI (u0 :: u1 :: u2 :: u3 :: u4 :: us) 4 = some u4 := by rw [at_nat (by decide) (by simp <;> omega)]; rfl
theorem flat_ints (xs : List Int) : (iU xs).all flatU = true := by
  induction xs with
  | nil => rfl
  | cons x xs ih => simpa [flatU] using ih
theorem in_ints {x : Int} (xs : List Int) : inU (.int x) (iU xs) = decide (x ∈ xs) := by
  unfold inU
  induction xs with
  | nil => simp
  | cons y ys ih =>
    simp only [iU, List.map_cons, List.any_cons] at ih ⊢
    rw [ih]
    simp only [eqF, List.mem_cons]
    by_cases h : y = x
    · subst h; simp
    · have h2 : ¬x = y := fun z => h z.symm
      simp [h, h2]
theorem seqIx {m : Nat} {i : Int} (h0 : 0 ≤ i) (h : i < m) : seqIndex? i m = some i.toNat := by
  unfold seqIndex?
  have e : (if i < 0 then i + (m : Int) else i) = i := if_neg (by omega)
  simp only [e]
  rw [if_pos (by simp; omega)]
theorem sort_mem {ns : List Int} {x : Int} : x ∈ sortI ns ↔ x ∈ ns := by
  unfold sortI
  exact (List.mergeSort_perm ns _).mem_iff
theorem sort_len {ns : List Int} : (sortI ns).length = ns.length := by
  unfold sortI
  exact (List.mergeSort_perm ns _).length_eq
-- data of values in which no object stands
theorem bls_map {α : Type} {f : α → Bool} : ∀ (xs : List α), blsU (xs.map fun x => U.bl (f x)) = some (xs.map f)
  | [] => rfl
  | x :: xs => by simp [blsU, bls_map xs]
theorem ints_map : ∀ (xs : List Int), intsU (iU xs) = some xs
  | [] => rfl
  | x :: xs => by
    have := ints_map xs
    simp only [iU] at this
    simp [intsU, this]
theorem x_all_r : ap (uAll [.ref n] mh) = @onO mh[n]? ⟨fun us => @onU _ (blsU us) ⟨fun bs => k.f (.bl (bs.all id)) mh⟩⟩ F2 F3 := by
  unfold ap uAll u1 listRow onO onU; dsimp only; generalize mh[n]? = o; cases o with
  | none => rfl
  | some o => cases o with
    | lst us => dsimp only; cases blsU us <;> rfl
    | dK kvs => rfl
    | ins C fs => rfl
    | lk kvs => rfl
theorem x_any_r : ap (uAny [.ref n] mh) = @onO mh[n]? ⟨fun us => @onU _ (blsU us) ⟨fun bs => k.f (.bl (bs.any id)) mh⟩⟩ F2 F3 := by
  unfold ap uAny u1 listRow onO onU; dsimp only; generalize mh[n]? = o; cases o with
  | none => rfl
  | some o => cases o with
    | lst us => dsimp only; cases blsU us <;> rfl
    | dK kvs => rfl
    | ins C fs => rfl
    | lk kvs => rfl
theorem max_sp {ns : List Int} (h : mh[n]? = some (.lst (iU ns))) (ne : ns ≠ []) (k : ∀ m, m ∈ ns → (∀ y ∈ ns, y ≤ m) → P (.int m) mh) : uMax [.ref n] mh P := by
  show listRow (.ref n) mh _
  unfold listRow
  simp only [h]
  rw [ints_map]
  exact ⟨ne, k⟩
theorem max_tup {ns : List Int} (ne : ns ≠ []) (k : ∀ m, m ∈ ns → (∀ y ∈ ns, y ≤ m) → P (.int m) mh) : uMax [tU ns] mh P := by
  unfold uMax
  simp only
  rw [ints_map]
  exact ⟨ne, k⟩
def Dat (u : U) (d : PyData) : Prop := ∃ m, ∀ (mh : MH) n, m ≤ n → toD mh n u = some d
def DatL (us : List U) (ds : List PyData) : Prop := ∃ m, ∀ (mh : MH) n, m ≤ n → toDs mh n us = some ds
theorem DatL.nil : DatL [] [] := ⟨1, fun mh n h => by cases n with | zero => omega | succ n => rfl⟩
theorem DatL.cons {d : PyData} {ds : List PyData} (h : Dat u d) (t : DatL us ds) : DatL (u :: us) (d :: ds) := by
  obtain ⟨a, h⟩ := h
  obtain ⟨b, t⟩ := t
  refine ⟨a + b + 1, fun mh n l => ?_⟩
  cases n with
  | zero => omega
  | succ n =>
    simp only [toDs]
    rw [h mh n (by omega), t mh n (by omega)]
theorem Dat.non : Dat .non .none := ⟨1, fun mh n h => by cases n with | zero => omega | succ n => rfl⟩
theorem Dat.int : Dat (.int i) (.int i) := ⟨1, fun mh n h => by cases n with | zero => omega | succ n => rfl⟩
theorem Dat.bl {q : Bool} : Dat (.bl q) (.bool q) := ⟨1, fun mh n h => by cases n with | zero => omega | succ n => rfl⟩
theorem Dat.str : Dat (.str x) (.str x) := ⟨1, fun mh n h => by cases n with | zero => omega | succ n => rfl⟩
theorem Dat.tup {ds : List PyData} (h : DatL us ds) : Dat (.tup us) (.tuple ds) := by
  obtain ⟨b, t⟩ := h
  refine ⟨b + 1, fun mh n l => ?_⟩
  cases n with
  | zero => omega
  | succ n =>
    simp only [toD]
    rw [t mh n (by omega)]
    rfl
/-- values that repr shows in at most p signs, at most q deep -/
def Shw (u : U) (p q : Nat) : Prop := ∃ d, Dat u d ∧ Sh d p q
def ShwL (us : List U) (p q : Nat) : Prop := ∃ ds, DatL us ds ∧ ShAll ds p q
theorem ShwL.nil {q : Nat} : ShwL [] 0 q := ⟨[], .nil, .nil⟩
theorem ShwL.cons {p p' q : Nat} (h : Shw u p q) (t : ShwL us p' q) : ShwL (u :: us) (p + 2 + p') q := by
  obtain ⟨d, a, b⟩ := h
  obtain ⟨ds, a', b'⟩ := t
  exact ⟨d :: ds, .cons a a', .cons b b'⟩
theorem ShwL.all {p q : Nat} : ∀ {us : List U}, (∀ u ∈ us, Shw u p q) → ShwL us ((p + 2) * us.length) q
  | [], _ => ShwL.nil
  | u :: us, h => by
    have t := ShwL.all (us := us) fun v hv => h v (List.mem_cons_of_mem _ hv)
    have c := ShwL.cons (h u List.mem_cons_self) t
    have e : p + 2 + (p + 2) * us.length = (p + 2) * (u :: us).length := by rw [List.length_cons, Nat.mul_succ]; omega
    rw [e] at c
    exact c
theorem Shw.tup {p q : Nat} (h : ShwL us p q) : Shw (.tup us) (p + 3) (q + 1) := by
  obtain ⟨ds, a, b⟩ := h
  exact ⟨_, .tup a, .tup b⟩
theorem Shw.up {p q p' q' : Nat} (h : Shw u p q) (h1 : p ≤ p') (h2 : q ≤ q') : Shw u p' q' := by
  obtain ⟨d, a, b⟩ := h
  exact ⟨d, a, b.up h1 h2⟩
theorem Shw.non : Shw .non 4 0 := ⟨_, .non, .none⟩
theorem Shw.int (h0 : 0 ≤ i) (h1 : i < 100000000000) : Shw (.int i) 12 0 := ⟨_, .int, .int h0 h1⟩
theorem Shw.str {p : Nat} (h : (reprText x).length ≤ p) : Shw (.str x) p 0 := ⟨_, .str, ⟨by simp [PyData.showable], by simp [PyData.hasDict], by simp [PyData.depth], by simpa only [PyData.shown] using h⟩⟩
theorem Shw.bl {q : Bool} : Shw (.bl q) 5 0 := ⟨_, .bl, ⟨by simp [PyData.showable], by simp [PyData.hasDict], by simp [PyData.depth], by simp only [PyData.shown]; cases q <;> decide⟩⟩
/-- two values that are the same are shown alike -/
theorem repr_val {p q : Nat} (h : Shw u p q) (h1 : p ≤ 16000000) (h2 : q ≤ 50) : ∃ x : Str, ∀ (mh : MH) (P : MK), P (.str x) mh → uRepr [u] mh P := by
  obtain ⟨d, ⟨m, a⟩, b⟩ := h
  exact ⟨d.shown, fun mh P p => ⟨m, d, a mh m (Nat.le_refl _), b.up h1 h2, p⟩⟩
theorem repr_lst {p q : Nat} (h : ShwL us p q) (h1 : p + 3 ≤ 16000000) (h2 : q + 1 ≤ 50) : ∃ x : Str, ∀ (mh : MH) (n : Nat) (P : MK), mh[n]? = some (.lst us) → P (.str x) mh → uRepr [.ref n] mh P := by
  obtain ⟨ds, ⟨m, a⟩, b⟩ := h
  refine ⟨(PyData.list ds).shown, fun mh n P hn p => ⟨m + 1, .list ds, ?_, (Sh.lst b).up h1 h2, p⟩⟩
  simp only [toD, hn]
  rw [a mh m (Nat.le_refl _)]
  rfl
-- heaps
theorem x_hleft {t : List MO} (h : n < mh.length) : (mh ++ t)[n]? = mh[n]? := List.getElem?_append_left h
theorem x_hat0 {o : MO} {t : List MO} {mb : MH} (h : mh.length = mb.length) : (mh ++ o :: t)[mb.length]? = some o := by rw [← h]; simp
theorem x_hatj {q : Nat} {t : List MO} {mb : MH} (h : mh.length = mb.length) : (mh ++ t)[mb.length + q]? = t[q]? := by rw [← h, List.getElem?_append_right (by omega)]; congr 1; omega
theorem x_hself {o : MO} (h : n < mh.length) : (mh.set n o)[n]? = some o := by rw [List.getElem?_set_self h]
theorem x_hput {o : MO} (h : n ≠ a) : (mh.set n o)[a]? = mh[a]? := List.getElem?_set_ne h
theorem x_hsetL {o : MO} {t : List MO} (h : n < mh.length) : (mh ++ t).set n o = mh.set n o ++ t := by rw [List.set_append, if_pos h]
theorem x_hset0 {o o2 : MO} {t : List MO} {mb : MH} (h : mh.length = mb.length) : (mh ++ o :: t).set mb.length o2 = mh ++ o2 :: t := by rw [← h]; simp
theorem x_hsetj {q : Nat} {o : MO} {t : List MO} {mb : MH} (h : mh.length = mb.length) : (mh ++ t).set (mb.length + q) o = mh ++ t.set q o := by rw [← h, List.set_append, if_neg (by omega)]; congr 2; omega
theorem x_hss {o o2 : MO} : (mh.set n o).set n o2 = mh.set n o2 := List.set_set _
theorem x_hlenS {o : MO} : (mh.set n o).length = mh.length := List.length_set
theorem x_hlenA {t : List MO} : (mh ++ t).length = mh.length + t.length := List.length_append
theorem x_hass {t t' : List MO} : (mh ++ t) ++ t' = mh ++ (t ++ t') := List.append_assoc _ _ _
theorem of_set {p : MO} {mh' : MH} (e : mh.set n p = mh') (h : n < mh.length) : mh'[n]? = some p := by rw [← e, List.getElem?_set_self h]
theorem of_put {o p : MO} {mh' : MH} (e : mh.set n p = mh') (h : mh[a]? = some o) (d : n ≠ a) : mh'[a]? = some o := by rw [← e, List.getElem?_set_ne d]; exact h
theorem fr_set {p : MO} {mh' : MH} {X : List Nat} (e : mh.set n p = mh') (h : n ∈ X) : Fr X mh mh' := e ▸ Fr.refl.put (.inl h)
theorem len_set {p : MO} {mh' : MH} (e : mh.set n p = mh') : mh'.length = mh.length := by rw [← e, List.length_set]
theorem of_app {o : MO} {t : List MO} {mh' : MH} (e : mh ++ t = mh') (h : mh[a]? = some o) : mh'[a]? = some o := e ▸ get_app h
theorem of_new {o : MO} {mh' : MH} (e : mh ++ [o] = mh') : mh'[mh.length]? = some o := e ▸ get_new
theorem fr_app {t : List MO} {mh' : MH} {X : List Nat} (e : mh ++ t = mh') : Fr X mh mh' := e ▸ Fr.app
end
end Sm

namespace Tk13
open PySem PySem.Spec PyProof.Rows L2 Tk Sm
local macro_rules | `(tactic| simp_all! only [$ls,*]) => `(tactic| simp -implicitDefEqProofs (disch := (first | assumption | decide | rfl | omega | (simp only [List.length_append, List.length_set, List.length_cons, List.length_nil] <;> omega) | fail)) only [↓x_body, ↓x_var, ↓x_c, ↓x_un, ↓x_bin, ↓x_callB, ↓x_nil, ↓x_cons, ↓x_b, ↓x_tr, ↓x_and, ↓x_or, ↓x_not, ↓x_ifE, ↓x_andV, ↓x_orV, ↓x_notV, ↓x_chain, ↓x_next, ↓x_seq, ↓x_drop, ↓x_ret, ↓x_retN, ↓x_ifS, ↓x_never, ↓x_brk, ↓x_ct, ↓x_asg, ↓x_gN, ↓x_par, ↓x_par3, ↓x_sl, ↓x_pn, ↓x_ps, ↓x_tup, ↓x_lst, ↓x_dict0, ↓x_pairs0, ↓x_pairs1, ↓x_disp, ↓x_setF, ↓x_gSet, ↓x_call, ↓x_callK, ↓x_meth, ↓x_methK, ↓x_make, ↓x_makeK, ↓x_it, ↓x_for, ↓x_while, ↓x_rng1, ↓x_rng2, ↓x_enumL, ↓x_zip, ↓x_lc, ↓x_dc, ↓x_pop2, ↓x_lkE, ↓x_lkS, ↓x_lkI, ↓x_pv1, ↓x_pv2, ↓x_pv3, ↓x_yes, ↓x_bm, ↓x_get2, ↓x_lstRg1, x_selt, x_self, x_onl, x_ond, x_oni, x_onU, x_slot, x_boolK, x_tru_non, x_tru_bl, x_tru_int, x_tru_tup, x_tru_ref, x_rep0, x_repS, x_add_i, x_add_t, x_add_s, x_add_l, x_sub, x_mul_i, x_mul_t, x_mul_l, x_div, x_mod, x_pow, x_neg, x_cmp, x_eq_i, x_ne_i, x_eq_s, x_ne_s, x_eq_b, x_is, x_isN1, x_isN2, x_isN3, x_isN4, x_isN5, x_ix_t, x_ix_f, x_ix_ri, x_ix_rs, x_in_r, x_in_t, x_intK, x_sl_t, x_sl_f, x_sl_r, x_rev, x_list_r, x_fld, x_setFK, x_set_i, x_set_s, x_len_t, x_len_f, x_len_r, x_int_i, x_list_t, x_list_f, x_tuple_t, x_tuple_r, x_max2, x_min2, x_insOf, x_gTup, x_gTupF, x_gTupR, x_gCons, x_gNil, x_row_t, x_row_f, x_row_r, x_int2K, x_isTupR, x_wipe0, x_wipe1, x_isLst, x_append, x_extend, x_extendT, x_pop0, x_popI, x_dictC, x_sorted, x_sortedT, x_sortK, x_sortTK, x_int_b, x_isT, x_ty_non, x_ty_bl, x_ty_int, x_ty_str, x_ty_tup, x_st1, x_st2, x_st3, x_st4, x_st5, x_isC, x_isDct, x_getK, x_pthK, x_onL, x_pthL, x_pfl, x_pky, x_fldO, x_kyO, x_join, x_valsU0, x_val1, x_val2, x_val0, x_put1, x_put2, x_put0, x_lk1, x_lk2, x_lk0, x_pf1, x_pf2, x_pf0, x_sz1, x_sz2, x_k1000, x_mulL, x_mulR, x_mulM, x_divB, x_powB, x_nz, x_rgB, x_rgB2, x_dispK, x_keys0, x_keysS, x_keysI, x_omap, x_at1, x_at2, x_at3, x_at4, x_at5, x_all_r, x_any_r, kf, List.getElem?_cons_zero, List.getElem?_cons_succ, List.set_cons_zero, List.set_cons_succ, List.set_nil, List.map_cons, List.map_nil, List.cons_append, List.nil_append, List.length_cons, List.length_nil, true_and, and_true, pk, List.filterMap_cons, List.filterMap_nil, Nat.reduceAdd, Nat.reduceSub, Nat.reduceEqDiff, uKey, List.foldl_cons, List.foldl_nil, decide_true, decide_false, Nat.add_assoc, Nat.reduceLeDiff, x_hleft, x_hat0, x_hatj, x_hself, x_hput, x_hsetL, x_hset0, x_hsetj, x_hss, x_hlenS, x_hlenA, x_hass, $ls,*])
local macro_rules | `(tactic| dsimp! only [$ls,*]) => `(tactic| simp -implicitDefEqProofs (disch := (first | assumption | decide | rfl | omega | (simp only [List.length_append, List.length_set, List.length_cons, List.length_nil] <;> omega) | fail)) only [↓x_body, ↓x_var, ↓x_c, ↓x_un, ↓x_bin, ↓x_callB, ↓x_nil, ↓x_cons, ↓x_b, ↓x_tr, ↓x_and, ↓x_or, ↓x_not, ↓x_ifE, ↓x_andV, ↓x_orV, ↓x_notV, ↓x_chain, ↓x_next, ↓x_seq, ↓x_drop, ↓x_ret, ↓x_retN, ↓x_never, ↓x_brk, ↓x_ct, ↓x_asg, ↓x_gN, ↓x_par, ↓x_par3, ↓x_sl, ↓x_pn, ↓x_ps, ↓x_tup, ↓x_lst, ↓x_dict0, ↓x_pairs0, ↓x_pairs1, ↓x_disp, ↓x_setF, ↓x_gSet, ↓x_call, ↓x_callK, ↓x_meth, ↓x_methK, ↓x_make, ↓x_makeK, ↓x_it, ↓x_for, ↓x_while, ↓x_rng1, ↓x_rng2, ↓x_enumL, ↓x_zip, ↓x_lc, ↓x_dc, ↓x_pop2, ↓x_lkE, ↓x_lkS, ↓x_lkI, ↓x_pv1, ↓x_pv2, ↓x_pv3, ↓x_yes, ↓x_bm, ↓x_get2, ↓x_lstRg1, x_selt, x_self, x_onl, x_ond, x_oni, x_onU, x_slot, x_boolK, x_tru_non, x_tru_bl, x_tru_int, x_tru_tup, x_tru_ref, x_rep0, x_repS, x_add_i, x_add_t, x_add_s, x_add_l, x_sub, x_mul_i, x_mul_t, x_mul_l, x_div, x_mod, x_pow, x_neg, x_cmp, x_eq_i, x_ne_i, x_eq_s, x_ne_s, x_eq_b, x_is, x_isN1, x_isN2, x_isN3, x_isN4, x_isN5, x_ix_t, x_ix_f, x_ix_ri, x_ix_rs, x_in_r, x_in_t, x_intK, x_sl_t, x_sl_f, x_sl_r, x_rev, x_list_r, x_fld, x_setFK, x_set_i, x_set_s, x_len_t, x_len_f, x_len_r, x_int_i, x_list_t, x_list_f, x_tuple_t, x_tuple_r, x_max2, x_min2, x_insOf, x_gTup, x_gTupF, x_gTupR, x_gCons, x_gNil, x_row_t, x_row_f, x_row_r, x_int2K, x_isTupR, x_wipe0, x_wipe1, x_isLst, x_append, x_extend, x_extendT, x_pop0, x_popI, x_dictC, x_sorted, x_sortedT, x_sortK, x_sortTK, x_int_b, x_isT, x_ty_non, x_ty_bl, x_ty_int, x_ty_str, x_ty_tup, x_st1, x_st2, x_st3, x_st4, x_st5, x_isC, x_isDct, x_getK, x_pthK, x_onL, x_pthL, x_pfl, x_pky, x_fldO, x_kyO, x_join, x_valsU0, x_val1, x_val2, x_val0, x_put1, x_put2, x_put0, x_lk1, x_lk2, x_lk0, x_pf1, x_pf2, x_pf0, x_sz1, x_sz2, x_k1000, x_mulL, x_mulR, x_mulM, x_divB, x_powB, x_nz, x_rgB, x_rgB2, x_dispK, x_keys0, x_keysS, x_keysI, x_omap, x_at1, x_at2, x_at3, x_at4, x_at5, x_all_r, x_any_r, kf, List.getElem?_cons_zero, List.getElem?_cons_succ, List.set_cons_zero, List.set_cons_succ, List.set_nil, List.map_cons, List.map_nil, List.cons_append, List.nil_append, List.length_cons, List.length_nil, true_and, and_true, pk, List.filterMap_cons, List.filterMap_nil, Nat.reduceAdd, Nat.reduceSub, Nat.reduceEqDiff, uKey, List.foldl_cons, List.foldl_nil, decide_true, decide_false, Nat.add_assoc, Nat.reduceLeDiff, x_hleft, x_hat0, x_hatj, x_hself, x_hput, x_hsetL, x_hset0, x_hsetj, x_hss, x_hlenS, x_hlenA, x_hass, $ls,*])
/-- the deck at dk, its cells at ck -/
structure Dk (mh : MH) (dk ck : Nat) : Prop where
  d : ∃ m n : Int, 0 ≤ m ∧ m < 2147483648 ∧ 0 ≤ n ∧ mh[dk]? = some (.dK [(.inr "cells", .ref ck), (.inr "mixed", .int m), (.inr "turn", .int n)])
  c : ∃ ns : List Int, ns.length ≤ 63 ∧ mh[ck]? = some (.lst (iU ns))
theorem deck_sp {c : Cl} {ns : List Int} {mh : MH} {P : MK} (hn : ns.length ≤ 63)
    (k : ∀ dk ck mh', Fr [] mh mh' → mh.length ≤ dk → mh.length ≤ ck → dk ≠ ck → Dk mh' dk ck → P (.ref dk) mh') : w__law_deck c [.fz (iU ns)] mh P := by
  unfold w__law_deck
  refine apM (F := P) ?_
  simp_all! only []
  have hc : cutU (iU ns) none (some 63) = iU ns := cut_none (by simp <;> omega)
  rw [hc]
  refine forA_ind (fun i sl mh' => ∃ (m : Int) (u : Option U), sl = [some (.fz (iU ns)), some (.int m), u] ∧ 0 ≤ m ∧ m < 2147483648 ∧ Fr [] mh mh' ∧ (mh'[mh.length]? = some (.lst (iU ns)))) ?_ ?_ ?_
  · refine ⟨_, _, rfl, ?_, ?_, Fr.app, get_new⟩ <;> decide
  · rintro i u sl mh1 q hu ⟨m, u', rfl, m0, m1, f1, hl⟩ hq
    obtain ⟨z, hz⟩ : ∃ z : Int, u = .int z := by
      rw [List.getElem?_map, Option.map_eq_some_iff] at hu
      obtain ⟨z, _, e⟩ := hu
      exact ⟨z, e.symm⟩
    subst hz
    simp_all! only [hl]
    exact hq _ _ ⟨_, _, rfl, Int.fmod_nonneg_of_pos _ (by decide), Int.lt_trans (Int.fmod_lt_of_pos _ (by decide)) (by decide), f1, hl⟩
  · rintro sl mh1 ⟨m, u', rfl, m0, m1, f1, hl⟩
    refine ⟨hl, ?_⟩
    simp_all! only [hl, hc]
    rw [lcA_mapE (φ := U.int) (f := U.int) (by exact Nat.lt_of_le_of_lt hn (by decide)) (fun t => by
      show ((mh1 ++ [MO.dK [], MO.lst (iU ns)]) ++ t)[mh1.length + 1]? = _
      rw [x_hass, x_hatj rfl]; rfl)]
    · simp_all! only []
      refine k mh1.length (mh1.length + 3) _ f1.new f1.1 (by have := f1.1; omega) (by omega) ⟨⟨m, 0, m0, m1, by decide, by simp⟩, ⟨ns.reverse, by simpa using hn, ?_⟩⟩
      rw [x_hatj rfl]
      simp
    · intro z t q _
      simp_all! only []
theorem draw_sp {c : Cl} {dk ck : Nat} {mh : MH} {P : MK} {many : Int} (D : Dk mh dk ck) (hm : 1 ≤ many) (hM : many < 1073741824)
    (k : ∀ r mh', Fr [dk, ck] mh mh' → Dk mh' dk ck → 0 ≤ r → r < many → P (.int r) mh') : w__law_draw c [.ref dk, .int many] mh P := by
  obtain ⟨⟨m, n, m0, m1, n0, hd⟩, ⟨ns, nl, hc⟩⟩ := D
  have ld := lt_of hd
  have lc := lt_of hc
  have ne : dk ≠ ck := ne_of2 hd hc (by simp)
  unfold w__law_draw
  refine apM (F := P) ?_
  simp_all! only [hd, hc]
  generalize e : List.set mh dk _ = mh1
  have f1 : Fr [dk, ck] mh mh1 := fr_set e (by simp)
  have hd1 := of_set e ld
  have hc1 := of_put e hc ne
  rw [← len_set e]
  clear e hd hc
  refine apI (uEq_lI (xs := ns) (ys := []) (get_app hc1) get_new ?_)
  generalize e2 : mh1 ++ [.lst []] = mh2
  have f2 : Fr [dk, ck] mh mh2 := f1.trans (fr_app e2)
  have hd2 := of_app e2 hd1
  have hc2 := of_app e2 hc1
  clear e2 f1 hd1 hc1 ld lc
  have ld2 := lt_of hd2
  have lc2 := lt_of hc2
  have fin : ∀ (mh3 : MH) (ns' : List Int) (v : Int), Fr [dk, ck] mh mh3 → mh3[dk]? = some (.dK [(.inr "cells", .ref ck), (.inr "mixed", .int m), (.inr "turn", .int (n + 1))]) → mh3[ck]? = some (.lst (iU ns')) → ns'.length ≤ 63 → P (.int (v.fmod many)) mh3 :=
    fun mh3 ns' v f h1 h2 h3 => k _ mh3 f ⟨⟨m, n + 1, m0, m1, by omega, h1⟩, ⟨ns', h3, h2⟩⟩ (Int.fmod_nonneg_of_pos _ (by omega)) (Int.fmod_lt_of_pos _ (by omega))
  refine (?_ : @boolK _ ⟨_⟩)
  simp_all! only [hd2, hc2]
  refine sel (fun h => ?_) fun h => ?_
  · have nn : ns ≠ [] := by simpa using h
    obtain ⟨xs, x, rfl⟩ : ∃ xs x, ns = xs ++ [x] := ⟨ns.dropLast, ns.getLast nn, (List.dropLast_concat_getLast nn).symm⟩
    have e1 : (iU (xs ++ [x]))[(iU (xs ++ [x])).length - 1]? = some (.int x) := by simp
    have e2 : (iU (xs ++ [x])).dropLast = iU xs := by simp
    simp_all! only [hd2, hc2, e1, e2]
    refine sel (fun h2 => ?_) fun h2 => ?_
    · have mx : 0 < (if many > 2 then many else 2) ∧ (if many > 2 then many else 2) < 1073741824 := by split <;> omega
      simp_all! only [hd2, hc2, e1, e2]
      generalize e3 : List.set mh2 ck _ = mh3
      have f3 : Fr [dk, ck] mh mh3 := f2.trans (fr_set e3 (by simp))
      refine ⟨by simp at nl ⊢ <;> exact Nat.lt_of_lt_of_le (show xs.length < 63 by omega) (by decide), fin _ (xs ++ [x.fdiv (if many > 2 then many else 2)]) _ f3 (of_put e3 hd2 ne.symm) ?_ ?_⟩
      · rw [of_set e3 lc2]; simp
      · simpa using nl
    · simp_all! only [hd2, hc2, e1, e2]
      generalize e4 : List.set mh2 ck _ = mh4
      have f4 : Fr [dk, ck] mh mh4 := f2.trans (fr_set e4 (by simp))
      exact fin _ xs _ f4 (of_put e4 hd2 ne.symm) (of_set e4 lc2) (by simp at nl; omega)
  · simp_all! only [hd2, hc2]
    exact fin _ ns _ f2 hd2 hc2 nl
theorem pick_sp {c : Cl} {dk ck sn : Nat} {us : List U} {mh : MH} {P : MK} (D : Dk mh dk ck) (hs : mh[sn]? = some (.lst us)) (n1 : sn ≠ dk) (n2 : sn ≠ ck) (hm : 0 < us.length) (hM : us.length < 1000)
    (k : ∀ (i : Nat) u mh', us[i]? = some u → Fr [dk, ck] mh mh' → Dk mh' dk ck → P u mh') : w__law_pick c [.ref dk, .ref sn] mh P := by
  unfold w__law_pick
  refine apM (F := P) ?_
  simp_all! only [hs]
  refine apI (draw_sp D (by omega) (by omega) fun r mh' f D' r0 r1 => ?_)
  have hs' := f.get hs (by simp [n1, n2])
  obtain ⟨i, rfl⟩ := Int.eq_ofNat_of_zero_le r0
  have hi : i < us.length := by omega
  have ha : atI us (i : Int) = some us[i] := by
    unfold atI ixN
    rw [if_pos (by omega), if_pos (by omega)]
    simp [hi]
  simp_all! only [hs', ha]
  exact k i _ _ (List.getElem?_eq_getElem hi) f D'
end Tk13

namespace Tk13
open PySem PySem.Spec PyProof.Rows L2 Tk Sm
local macro_rules | `(tactic| simp_all! only [$ls,*]) => `(tactic| simp -implicitDefEqProofs (disch := (first | assumption | decide | rfl | omega | (simp only [List.length_append, List.length_set, List.length_cons, List.length_nil] <;> omega) | fail)) only [↓x_body, ↓x_var, ↓x_c, ↓x_un, ↓x_bin, ↓x_callB, ↓x_nil, ↓x_cons, ↓x_b, ↓x_tr, ↓x_and, ↓x_or, ↓x_not, ↓x_ifE, ↓x_andV, ↓x_orV, ↓x_notV, ↓x_chain, ↓x_next, ↓x_seq, ↓x_drop, ↓x_ret, ↓x_retN, ↓x_ifS, ↓x_never, ↓x_brk, ↓x_ct, ↓x_asg, ↓x_gN, ↓x_par, ↓x_par3, ↓x_sl, ↓x_pn, ↓x_ps, ↓x_tup, ↓x_lst, ↓x_dict0, ↓x_pairs0, ↓x_pairs1, ↓x_disp, ↓x_setF, ↓x_gSet, ↓x_call, ↓x_callK, ↓x_meth, ↓x_methK, ↓x_make, ↓x_makeK, ↓x_it, ↓x_for, ↓x_while, ↓x_rng1, ↓x_rng2, ↓x_enumL, ↓x_zip, ↓x_lc, ↓x_dc, ↓x_pop2, ↓x_lkE, ↓x_lkS, ↓x_lkI, ↓x_pv1, ↓x_pv2, ↓x_pv3, ↓x_yes, ↓x_bm, ↓x_get2, ↓x_lstRg1, x_selt, x_self, x_onl, x_ond, x_oni, x_onU, x_slot, x_boolK, x_tru_non, x_tru_bl, x_tru_int, x_tru_tup, x_tru_ref, x_rep0, x_repS, x_add_i, x_add_t, x_add_s, x_add_l, x_sub, x_mul_i, x_mul_t, x_mul_l, x_div, x_mod, x_pow, x_neg, x_cmp, x_eq_i, x_ne_i, x_eq_s, x_ne_s, x_eq_b, x_is, x_isN1, x_isN2, x_isN3, x_isN4, x_isN5, x_ix_t, x_ix_f, x_ix_ri, x_ix_rs, x_in_r, x_in_t, x_intK, x_sl_t, x_sl_f, x_sl_r, x_rev, x_list_r, x_fld, x_setFK, x_set_i, x_set_s, x_len_t, x_len_f, x_len_r, x_int_i, x_list_t, x_list_f, x_tuple_t, x_tuple_r, x_max2, x_min2, x_insOf, x_gTup, x_gTupF, x_gTupR, x_gCons, x_gNil, x_row_t, x_row_f, x_row_r, x_int2K, x_isTupR, x_wipe0, x_wipe1, x_isLst, x_append, x_extend, x_extendT, x_pop0, x_popI, x_dictC, x_sorted, x_sortedT, x_sortK, x_sortTK, x_int_b, x_isT, x_ty_non, x_ty_bl, x_ty_int, x_ty_str, x_ty_tup, x_st1, x_st2, x_st3, x_st4, x_st5, x_isC, x_isDct, x_getK, x_pthK, x_onL, x_pthL, x_pfl, x_pky, x_fldO, x_kyO, x_join, x_valsU0, x_val1, x_val2, x_val0, x_put1, x_put2, x_put0, x_lk1, x_lk2, x_lk0, x_pf1, x_pf2, x_pf0, x_sz1, x_sz2, x_k1000, x_mulL, x_mulR, x_mulM, x_divB, x_powB, x_nz, x_rgB, x_rgB2, x_dispK, x_keys0, x_keysS, x_keysI, x_omap, x_at1, x_at2, x_at3, x_at4, x_at5, x_all_r, x_any_r, kf, List.getElem?_cons_zero, List.getElem?_cons_succ, List.set_cons_zero, List.set_cons_succ, List.set_nil, List.map_cons, List.map_nil, List.cons_append, List.nil_append, List.length_cons, List.length_nil, true_and, and_true, pk, List.filterMap_cons, List.filterMap_nil, Nat.reduceAdd, Nat.reduceSub, Nat.reduceEqDiff, uKey, List.foldl_cons, List.foldl_nil, decide_true, decide_false, Nat.add_assoc, Nat.reduceLeDiff, x_hleft, x_hat0, x_hatj, x_hself, x_hput, x_hsetL, x_hset0, x_hsetj, x_hss, x_hlenS, x_hlenA, x_hass, $ls,*])
local macro_rules | `(tactic| dsimp! only [$ls,*]) => `(tactic| simp -implicitDefEqProofs (disch := (first | assumption | decide | rfl | omega | (simp only [List.length_append, List.length_set, List.length_cons, List.length_nil] <;> omega) | fail)) only [↓x_body, ↓x_var, ↓x_c, ↓x_un, ↓x_bin, ↓x_callB, ↓x_nil, ↓x_cons, ↓x_b, ↓x_tr, ↓x_and, ↓x_or, ↓x_not, ↓x_ifE, ↓x_andV, ↓x_orV, ↓x_notV, ↓x_chain, ↓x_next, ↓x_seq, ↓x_drop, ↓x_ret, ↓x_retN, ↓x_never, ↓x_brk, ↓x_ct, ↓x_asg, ↓x_gN, ↓x_par, ↓x_par3, ↓x_sl, ↓x_pn, ↓x_ps, ↓x_tup, ↓x_lst, ↓x_dict0, ↓x_pairs0, ↓x_pairs1, ↓x_disp, ↓x_setF, ↓x_gSet, ↓x_call, ↓x_callK, ↓x_meth, ↓x_methK, ↓x_make, ↓x_makeK, ↓x_it, ↓x_for, ↓x_while, ↓x_rng1, ↓x_rng2, ↓x_enumL, ↓x_zip, ↓x_lc, ↓x_dc, ↓x_pop2, ↓x_lkE, ↓x_lkS, ↓x_lkI, ↓x_pv1, ↓x_pv2, ↓x_pv3, ↓x_yes, ↓x_bm, ↓x_get2, ↓x_lstRg1, x_selt, x_self, x_onl, x_ond, x_oni, x_onU, x_slot, x_boolK, x_tru_non, x_tru_bl, x_tru_int, x_tru_tup, x_tru_ref, x_rep0, x_repS, x_add_i, x_add_t, x_add_s, x_add_l, x_sub, x_mul_i, x_mul_t, x_mul_l, x_div, x_mod, x_pow, x_neg, x_cmp, x_eq_i, x_ne_i, x_eq_s, x_ne_s, x_eq_b, x_is, x_isN1, x_isN2, x_isN3, x_isN4, x_isN5, x_ix_t, x_ix_f, x_ix_ri, x_ix_rs, x_in_r, x_in_t, x_intK, x_sl_t, x_sl_f, x_sl_r, x_rev, x_list_r, x_fld, x_setFK, x_set_i, x_set_s, x_len_t, x_len_f, x_len_r, x_int_i, x_list_t, x_list_f, x_tuple_t, x_tuple_r, x_max2, x_min2, x_insOf, x_gTup, x_gTupF, x_gTupR, x_gCons, x_gNil, x_row_t, x_row_f, x_row_r, x_int2K, x_isTupR, x_wipe0, x_wipe1, x_isLst, x_append, x_extend, x_extendT, x_pop0, x_popI, x_dictC, x_sorted, x_sortedT, x_sortK, x_sortTK, x_int_b, x_isT, x_ty_non, x_ty_bl, x_ty_int, x_ty_str, x_ty_tup, x_st1, x_st2, x_st3, x_st4, x_st5, x_isC, x_isDct, x_getK, x_pthK, x_onL, x_pthL, x_pfl, x_pky, x_fldO, x_kyO, x_join, x_valsU0, x_val1, x_val2, x_val0, x_put1, x_put2, x_put0, x_lk1, x_lk2, x_lk0, x_pf1, x_pf2, x_pf0, x_sz1, x_sz2, x_k1000, x_mulL, x_mulR, x_mulM, x_divB, x_powB, x_nz, x_rgB, x_rgB2, x_dispK, x_keys0, x_keysS, x_keysI, x_omap, x_at1, x_at2, x_at3, x_at4, x_at5, x_all_r, x_any_r, kf, List.getElem?_cons_zero, List.getElem?_cons_succ, List.set_cons_zero, List.set_cons_succ, List.set_nil, List.map_cons, List.map_nil, List.cons_append, List.nil_append, List.length_cons, List.length_nil, true_and, and_true, pk, List.filterMap_cons, List.filterMap_nil, Nat.reduceAdd, Nat.reduceSub, Nat.reduceEqDiff, uKey, List.foldl_cons, List.foldl_nil, decide_true, decide_false, Nat.add_assoc, Nat.reduceLeDiff, x_hleft, x_hat0, x_hatj, x_hself, x_hput, x_hsetL, x_hset0, x_hsetj, x_hss, x_hlenS, x_hlenA, x_hass, $ls,*])
section
variable {c : Cl} {mh mh' : MH} {P : MK} {k : KM}
theorem y_isint {i : Int} : ap (w_is_integer c [.int i] mh) = k.f (.bl true) mh := by
  unfold w_is_integer
  simp_all! only [Bool.not_false]
theorem y_within {i a b : Int} : ap (w_is_within c [.int i, .int a, .int b] mh) = k.f (.bl (decide (a ≤ i) && decide (i ≤ b))) mh := by
  unfold w_is_within
  simp_all! only [y_isint]
  by_cases h : a ≤ i
  · simp_all! only [h, decide_true, Bool.true_and]
  · simp_all! only [h, decide_false, Bool.false_and]
/-- blocks: 32 words -/
structure Gb (b : List Int) : Prop where
  l : b.length = 32
  w : ∀ x ∈ b, 0 ≤ x ∧ x ≤ 1000000000
theorem bls_true : ∀ {α : Type} (xs : List α), blsU (xs.map fun _ => U.bl true) = some (xs.map fun _ => true)
  | _, [] => rfl
  | _, x :: xs => by simp [blsU, bls_true xs]
theorem x_all_t {us : List U} {bs : List Bool} (h : blsU us = some bs) {t : List MO} : ap (uAll [.ref mh.length] (mh ++ .lst us :: t)) = k.f (.bl (bs.all id)) (mh ++ .lst us :: t) := by
  unfold ap uAll u1 listRow
  simp [h]
theorem y_arewithin {ws : List Int} {a b : Int} (h : ∀ x ∈ ws, a ≤ x ∧ x ≤ b) (hl : ws.length < sizeLine) : ap (w_are_within c [tU ws, .int a, .int b] mh) = k.f (.bl true) (mh ++ [.lst (ws.map fun _ => .bl true)]) := by
  unfold w_are_within
  simp_all! only []
  rw [lcA_eq (fun _ _ => .bl true) (by simpa using hl) (fun _ => trivial)]
  · have e : (iU ws).mapIdx (fun _ _ => U.bl true) = ws.map fun _ => U.bl true := by
      apply List.ext_getElem <;> simp
    rw [e]
    have e2 : (ws.map fun _ => true).all id = true := by simp
    simp_all! only [x_all_t (bls_true ws), e2]
  · intro i u t q hu
    rw [List.getElem?_map, Option.map_eq_some_iff] at hu
    obtain ⟨z, hz, rfl⟩ := hu
    have := h z (List.mem_of_getElem? hz)
    simp_all! only [y_within]
    simp [this]
theorem y_arewords {ws : List Int} (h : ∀ x ∈ ws, 0 ≤ x ∧ x ≤ 1000000000) (hl : ws.length < sizeLine) : ap (w_are_words c [tU ws] mh) = k.f (.bl true) (mh ++ [.lst (ws.map fun _ => .bl true)]) := by
  unfold w_are_words
  simp_all! only [k_MOST_WORD, y_arewithin h hl]
theorem y_isblock {b : List Int} (h : Gb b) : ap (w_is_block c [tU b] mh) = k.f (.bl true) (mh ++ [.lst (b.map fun _ => .bl true)]) := by
  unfold w_is_block
  simp_all! only [k_BLOCK_WORDS, y_arewords h.w (by rw [h.l]; decide)]
  simp [h.l]
/-- the disk at di: its blocks as they are read -/
structure Dsk (c : Cl) (mh : MH) (di st wt nw : Nat) (S K N R : Int) (E : List (List Int)) (q : Nat) : Prop where
  o : mh[di]? = some (.ins c.Disk [("_sizes", .tup [.int S, .int K, .int N, .int R]), ("_standing", .ref st), ("_waiting", .ref wt), ("_newest", .ref nw), ("_fuse", .non)])
  ne : st ≠ wt
  r : ∃ (B : List (List Int)) (ws : List (Nat × List Int)) (kvs : List (Key × U)), mh[st]? = some (.lst (B.map tU)) ∧ mh[wt]? = some (.lst (ws.map fun p => .tup [.int (p.1 : Nat), tU p.2])) ∧ mh[nw]? = some (.dK kvs) ∧
    B.length = E.length ∧ ws.length ≤ q ∧ kvs.length ≤ q ∧ (∀ p ∈ ws, p.1 < E.length) ∧ E = ws.foldl (fun B p => B.set p.1 p.2) B ∧
    (∀ i, i < E.length → (match valU kvs (.inl (i : Nat)) with | some u => some u = (E[i]?).map tU | none => B[i]? = E[i]?))
theorem Dsk.fr {di st wt nw : Nat} {S K N R : Int} {E : List (List Int)} {q : Nat} {X : List Nat} (d : Dsk c mh di st wt nw S K N R E q) (f : Fr X mh mh') (h1 : di ∉ X) (h2 : st ∉ X) (h3 : wt ∉ X) (h4 : nw ∉ X) : Dsk c mh' di st wt nw S K N R E q := by
  obtain ⟨o, ne, B, ws, kvs, a1, a2, a3, a4⟩ := d
  exact ⟨f.get o h1, ne, B, ws, kvs, f.get a1 h2, f.get a2 h3, f.get a3 h4, a4⟩
section
variable {di st wt nw : Nat} {S K N R : Int} {E : List (List Int)} {q : Nat}
theorem Dsk.nes (d : Dsk c mh di st wt nw S K N R E q) : di ≠ st ∧ di ≠ wt ∧ di ≠ nw ∧ st ≠ nw ∧ wt ≠ nw := by
  obtain ⟨o, ne, B, ws, kvs, a1, a2, a3, a4⟩ := d
  exact ⟨ne_of2 o a1 (by simp), ne_of2 o a2 (by simp), ne_of2 o a3 (by simp), ne_of2 a1 a3 (by simp), ne_of2 a2 a3 (by simp)⟩
theorem Dsk.check (d : Dsk c mh di st wt nw S K N R E q) {p : Int} (h0 : 0 ≤ p) (h1 : p < E.length) : ap (w_Disk__check_place c [.ref di, .int p] mh) = k.f .non mh := by
  obtain ⟨o, ne, B, ws, kvs, a1, a2, a3, a4, _⟩ := d
  have e : (decide (0 ≤ p) && decide (p ≤ ((B.map tU).length : Int) - 1)) = true := by simp <;> omega
  unfold w_Disk__check_place
  simp_all! only [o, a1, y_within, fc__standing, List.mem_cons, List.not_mem_nil, or_false, e, Bool.not_true]
theorem Dsk.burn (d : Dsk c mh di st wt nw S K N R E q) : ap (w_Disk__burn c [.ref di] mh) = k.f .non mh := by
  have o := d.o
  unfold w_Disk__burn
  simp_all! only [o, fc__fuse, List.mem_cons, List.not_mem_nil, or_false, if_true, Bool.not_false]
theorem Dsk.ni (d : Dsk c mh di st wt nw S K N R E q) {m : Str} (h : m ≠ "_sizes" ∧ m ≠ "_standing" ∧ m ≠ "_waiting" ∧ m ≠ "_newest" ∧ m ≠ "_fuse") : Sm.insOf c.Disk m (.ref di) mh = True := by
  have o := d.o
  obtain ⟨h1, h2, h3, h4, h5⟩ := h
  simp_all! only [o, x_lk2 h1, x_lk2 h2, x_lk2 h3, x_lk2 h4, x_lk2 h5]
theorem Dsk.read (d : Dsk c mh di st wt nw S K N R E q) {p : Int} (h0 : 0 ≤ p) (h1 : p < E.length) : ap (w_Disk_read c [.ref di, .int p] mh) = k.f (tU (E[p.toNat]'(by omega))) mh := by
  have d0 := d
  obtain ⟨o, ne, B, ws, kvs, a1, a2, a3, a4, _, _, _, a5, a6⟩ := d
  unfold w_Disk_read
  simp_all! only [d0.check h0 h1, d0.ni (m := "_check_place") (by decide), o, a1, a3, fc__standing, fc__newest, List.mem_cons, List.not_mem_nil, or_false]
  obtain ⟨j, rfl⟩ := Int.eq_ofNat_of_zero_le h0
  have hj : j < E.length := by omega
  have h := a6 j hj
  have eb : ((if false = true then !(valU kvs (Sum.inl (j : Int))).isSome else (valU kvs (Sum.inl (j : Int))).isSome)) = (valU kvs (Sum.inl (j : Int))).isSome := rfl
  rw [eb]
  cases hv : valU kvs (.inl (j : Int)) with
  | some u =>
    rw [hv] at h
    have : u = tU E[j] := by simpa [hj] using h
    simp_all! only [o, a3, hv, fc__newest, List.mem_cons, List.not_mem_nil, or_false, Option.isSome_some, this, Int.toNat_natCast]
  | none =>
    rw [hv] at h
    have hb : atI (B.map tU) (j : Int) = some (tU E[j]) := by
      rw [at_map (by omega) (by omega)]
      have : B[j]? = E[j]? := h
      simp [hj, a4] at this
      simp [this]
    simp_all! only [o, a1, hb, fc__standing, List.mem_cons, List.not_mem_nil, or_false, Option.isSome_none, Int.toNat_natCast]
theorem Dsk.write (d : Dsk c mh di st wt nw S K N R E q) {p : Int} {b : List Int} (h0 : 0 ≤ p) (h1 : p < E.length) (hb : Gb b) (hq : q < 1000000)
    (k : ∀ mh', Fr [wt, nw] mh mh' → Dsk c mh' di st wt nw S K N R (E.set p.toNat b) (q + 1) → P .non mh') : w_Disk_write c [.ref di, .int p, tU b] mh P := by
  have d0 := d
  obtain ⟨n1, n2, n3, n4, n5⟩ := d.nes
  obtain ⟨j, rfl⟩ := Int.eq_ofNat_of_zero_le h0
  have hj : j < E.length := by omega
  unfold w_Disk_write
  refine apM (F := P) ?_
  simp_all! only [d0.check h0 h1, d0.ni (m := "_check_place") (by decide), y_isblock hb, Bool.not_true]
  have f1 : Fr [wt, nw] mh (mh ++ [.lst (b.map fun _ => U.bl true)]) := Fr.app
  have d1 := d0.fr (X := []) (mh' := mh ++ [.lst (b.map fun _ => U.bl true)]) Fr.app (by simp) (by simp) (by simp) (by simp)
  clear d d0
  generalize (mh ++ [.lst (b.map fun _ => U.bl true)]) = mh1 at f1 d1
  have d0 := d1
  obtain ⟨o, ne, B, ws, kvs, a1, a2, a3, a4, l1, l2, l3, a5, a6⟩ := d1
  have lw := lt_of a2
  have ln := lt_of a3
  have sz : q + 1 < sizeLine := Nat.lt_of_le_of_lt (show q + 1 ≤ 1000000 by omega) (by decide)
  have s1 : ws.length < sizeLine := by omega
  have s2 : kvs.length < sizeLine := by omega
  simp_all! only [d0.ni (m := "_burn") (by decide), d0.burn, o, a1, a2, a3, fc__waiting, fc__newest, List.mem_cons, List.not_mem_nil, or_false, List.length_map, s1, s2]
  generalize e1 : mh1.set wt _ = mh2
  generalize e2 : mh2.set nw _ = mh3
  refine k mh3 (f1.trans ((fr_set e1 (by simp)).trans (fr_set e2 (by simp)))) ⟨of_put e2 (of_put e1 o n2.symm) n3.symm, ne, B, ws ++ [(j, b)], putU kvs (.inl (j : Int)) (tU b), of_put e2 (of_put e1 a1 ne.symm) n4.symm, ?_, of_set e2 (by rw [len_set e1]; exact ln), by simp [a4], by simp <;> omega, Nat.le_trans put_len (by omega), ?_, ?_, ?_⟩
  · rw [of_put e2 (of_set e1 lw) n5.symm]
    simp
  · intro p hp
    simp at hp
    rcases hp with hp | rfl
    · simpa using l3 p hp
    · simpa using hj
  · rw [List.foldl_append, ← a5]
    simp
  · intro i hi
    simp at hi
    rw [val_put]
    by_cases e : (Sum.inl (j : Int) : Key) = Sum.inl (i : Int)
    · rw [if_pos e]
      have : j = i := by
        have := Sum.inl.inj e
        omega
      subst this
      simp [hi]
    · rw [if_neg e]
      have ne : j ≠ i := fun z => e (by rw [z])
      have h := a6 i hi
      simp only [Int.toNat_natCast]
      rw [List.getElem?_set_ne ne]
      exact h
theorem Dsk.force (d : Dsk c mh di st wt nw S K N R E q)
    (k : ∀ wt' nw' mh', Fr [di, st] mh mh' → mh.length ≤ wt' → mh.length ≤ nw' → wt' ≠ nw' → Dsk c mh' di st wt' nw' S K N R E 0 → P .non mh') : w_Disk_force c [.ref di] mh P := by
  have d0 := d
  obtain ⟨n1, n2, n3, n4, n5⟩ := d.nes
  obtain ⟨o, ne, B, ws, kvs, a1, a2, a3, a4, l1, l2, l3, a5, a6⟩ := d
  unfold w_Disk_force
  refine apM (F := P) ?_
  simp_all! only [d0.ni (m := "_burn") (by decide), d0.burn, o, a1, a2, a3, fc__waiting, fc__standing, fc__newest, List.mem_cons, List.not_mem_nil, or_false]
  refine forA_ind (fun i sl mh' => ∃ x y : Option U, sl = [some (.ref di), x, y] ∧ Fr [st] mh mh' ∧ mh'[st]? = some (.lst (((ws.take i).foldl (fun B p => B.set p.1 p.2) B).map tU))) ?_ ?_ ?_
  · exact ⟨none, none, rfl, .refl, by simpa using a1⟩
  · rintro i u sl mh1 q hu ⟨x, y, rfl, f1, hs⟩ hq
    have hw := f1.get a2 (by simp; exact ne.symm)
    have ho := f1.get o (by simp; exact n1)
    refine ⟨hw, ?_⟩
    rw [List.getElem?_map, Option.map_eq_some_iff] at hu
    obtain ⟨⟨p, b⟩, hp, rfl⟩ := hu
    have hl := lt_of hs
    have hi : i < ws.length := (List.getElem?_eq_some_iff.mp hp).1
    have hpl : p < E.length := l3 _ (List.mem_of_getElem? hp)
    have lf : ∀ (vs : List (Nat × List Int)) (B : List (List Int)), (vs.foldl (fun B p => B.set p.1 p.2) B).length = B.length := by
      intro vs
      induction vs with
      | nil => intro B; rfl
      | cons v vs ih => intro B; rw [List.foldl_cons, ih]; simp
    have hx : ixN ((((ws.take i).foldl (fun B p => B.set p.1 p.2) B).map tU).length) (p : Int) = some p := by
      rw [ixN_nat (by omega) (by rw [List.length_map, lf, a4]; omega)]
      simp
    simp_all! only [ho, hs, fc__standing, List.mem_cons, List.not_mem_nil, or_false, hx]
    generalize e1 : mh1.set st _ = mh2
    refine hq _ _ ⟨_, _, rfl, f1.trans (fr_set e1 (by simp)), ?_⟩
    rw [of_set e1 hl, List.take_succ, hp]
    simp [List.foldl_append, List.map_set]
  · rintro sl mh1 ⟨x, y, rfl, f1, hs⟩
    have hw := f1.get a2 (by simp; exact ne.symm)
    have ho := f1.get o (by simp; exact n1)
    refine ⟨hw, ?_⟩
    have lo := lt_of ho
    have iO : Sm.insOf c.Disk "_wait_for_none" (.ref di) mh1 = True := by
      simp_all! only [ho]
    have ld : st < mh1.length := lt_of hs
    simp_all! only [iO]
    unfold w_Disk__wait_for_none
    simp_all! only [ho, fc__waiting, fc__newest, List.mem_cons, List.not_mem_nil, or_false]
    generalize e1 : mh1.set di _ = mh2
    have hs2 := of_put e1 hs n1
    have f2 : Fr [di, st] mh mh2 := (f1.mono (by simp)).trans (fr_set e1 (by simp))
    have e3 : mh2.length = mh1.length := len_set e1
    refine k mh1.length (mh1.length + 1) _ f2.new f1.1 (by have := f1.1; omega) (by omega) ⟨get_app (of_set e1 lo), ?_, E, [], [], ?_, ?_, ?_, rfl, by simp, by simp, by simp, rfl, ?_⟩
    · have := lt_of hs2; omega
    · rw [x_hleft (lt_of hs2), hs2, List.take_of_length_le (by simp), ← a5]
    · rw [← e3]; exact x_hat0 rfl
    · rw [← e3, x_hatj rfl]; rfl
    · intro i hi
      rfl
end
end
end Tk13

namespace Tk13
open PySem PySem.Spec PyProof.Rows L2 Tk Sm
local macro_rules | `(tactic| simp_all! only [$ls,*]) => `(tactic| simp -implicitDefEqProofs (disch := (first | assumption | decide | rfl | omega | (simp only [List.length_append, List.length_set, List.length_cons, List.length_nil] <;> omega) | fail)) only [↓x_body, ↓x_var, ↓x_c, ↓x_un, ↓x_bin, ↓x_callB, ↓x_nil, ↓x_cons, ↓x_b, ↓x_tr, ↓x_and, ↓x_or, ↓x_not, ↓x_ifE, ↓x_andV, ↓x_orV, ↓x_notV, ↓x_chain, ↓x_next, ↓x_seq, ↓x_drop, ↓x_ret, ↓x_retN, ↓x_ifS, ↓x_never, ↓x_brk, ↓x_ct, ↓x_asg, ↓x_gN, ↓x_par, ↓x_par3, ↓x_sl, ↓x_pn, ↓x_ps, ↓x_tup, ↓x_lst, ↓x_dict0, ↓x_pairs0, ↓x_pairs1, ↓x_disp, ↓x_setF, ↓x_gSet, ↓x_call, ↓x_callK, ↓x_meth, ↓x_methK, ↓x_make, ↓x_makeK, ↓x_it, ↓x_for, ↓x_while, ↓x_rng1, ↓x_rng2, ↓x_enumL, ↓x_zip, ↓x_lc, ↓x_dc, ↓x_pop2, ↓x_lkE, ↓x_lkS, ↓x_lkI, ↓x_pv1, ↓x_pv2, ↓x_pv3, ↓x_yes, ↓x_bm, ↓x_get2, ↓x_lstRg1, x_selt, x_self, x_onl, x_ond, x_oni, x_onU, x_slot, x_boolK, x_tru_non, x_tru_bl, x_tru_int, x_tru_tup, x_tru_ref, x_rep0, x_repS, x_add_i, x_add_t, x_add_s, x_add_l, x_sub, x_mul_i, x_mul_t, x_mul_l, x_div, x_mod, x_pow, x_neg, x_cmp, x_eq_i, x_ne_i, x_eq_s, x_ne_s, x_eq_b, x_is, x_isN1, x_isN2, x_isN3, x_isN4, x_isN5, x_ix_t, x_ix_f, x_ix_ri, x_ix_rs, x_in_r, x_in_t, x_intK, x_sl_t, x_sl_f, x_sl_r, x_rev, x_list_r, x_fld, x_setFK, x_set_i, x_set_s, x_len_t, x_len_f, x_len_r, x_int_i, x_list_t, x_list_f, x_tuple_t, x_tuple_r, x_max2, x_min2, x_insOf, x_gTup, x_gTupF, x_gTupR, x_gCons, x_gNil, x_row_t, x_row_f, x_row_r, x_int2K, x_isTupR, x_wipe0, x_wipe1, x_isLst, x_append, x_extend, x_extendT, x_pop0, x_popI, x_dictC, x_sorted, x_sortedT, x_sortK, x_sortTK, x_int_b, x_isT, x_ty_non, x_ty_bl, x_ty_int, x_ty_str, x_ty_tup, x_st1, x_st2, x_st3, x_st4, x_st5, x_isC, x_isDct, x_getK, x_pthK, x_onL, x_pthL, x_pfl, x_pky, x_fldO, x_kyO, x_join, x_valsU0, x_val1, x_val2, x_val0, x_put1, x_put2, x_put0, x_lk1, x_lk2, x_lk0, x_pf1, x_pf2, x_pf0, x_sz1, x_sz2, x_k1000, x_mulL, x_mulR, x_mulM, x_divB, x_powB, x_nz, x_rgB, x_rgB2, x_dispK, x_keys0, x_keysS, x_keysI, x_omap, x_at1, x_at2, x_at3, x_at4, x_at5, x_all_r, x_any_r, kf, List.getElem?_cons_zero, List.getElem?_cons_succ, List.set_cons_zero, List.set_cons_succ, List.set_nil, List.map_cons, List.map_nil, List.cons_append, List.nil_append, List.length_cons, List.length_nil, true_and, and_true, pk, List.filterMap_cons, List.filterMap_nil, Nat.reduceAdd, Nat.reduceSub, Nat.reduceEqDiff, uKey, List.foldl_cons, List.foldl_nil, decide_true, decide_false, Nat.add_assoc, Nat.reduceLeDiff, x_hleft, x_hat0, x_hatj, x_hself, x_hput, x_hsetL, x_hset0, x_hsetj, x_hss, x_hlenS, x_hlenA, x_hass, $ls,*])
local macro_rules | `(tactic| dsimp! only [$ls,*]) => `(tactic| simp -implicitDefEqProofs (disch := (first | assumption | decide | rfl | omega | (simp only [List.length_append, List.length_set, List.length_cons, List.length_nil] <;> omega) | fail)) only [↓x_body, ↓x_var, ↓x_c, ↓x_un, ↓x_bin, ↓x_callB, ↓x_nil, ↓x_cons, ↓x_b, ↓x_tr, ↓x_and, ↓x_or, ↓x_not, ↓x_ifE, ↓x_andV, ↓x_orV, ↓x_notV, ↓x_chain, ↓x_next, ↓x_seq, ↓x_drop, ↓x_ret, ↓x_retN, ↓x_never, ↓x_brk, ↓x_ct, ↓x_asg, ↓x_gN, ↓x_par, ↓x_par3, ↓x_sl, ↓x_pn, ↓x_ps, ↓x_tup, ↓x_lst, ↓x_dict0, ↓x_pairs0, ↓x_pairs1, ↓x_disp, ↓x_setF, ↓x_gSet, ↓x_call, ↓x_callK, ↓x_meth, ↓x_methK, ↓x_make, ↓x_makeK, ↓x_it, ↓x_for, ↓x_while, ↓x_rng1, ↓x_rng2, ↓x_enumL, ↓x_zip, ↓x_lc, ↓x_dc, ↓x_pop2, ↓x_lkE, ↓x_lkS, ↓x_lkI, ↓x_pv1, ↓x_pv2, ↓x_pv3, ↓x_yes, ↓x_bm, ↓x_get2, ↓x_lstRg1, x_selt, x_self, x_onl, x_ond, x_oni, x_onU, x_slot, x_boolK, x_tru_non, x_tru_bl, x_tru_int, x_tru_tup, x_tru_ref, x_rep0, x_repS, x_add_i, x_add_t, x_add_s, x_add_l, x_sub, x_mul_i, x_mul_t, x_mul_l, x_div, x_mod, x_pow, x_neg, x_cmp, x_eq_i, x_ne_i, x_eq_s, x_ne_s, x_eq_b, x_is, x_isN1, x_isN2, x_isN3, x_isN4, x_isN5, x_ix_t, x_ix_f, x_ix_ri, x_ix_rs, x_in_r, x_in_t, x_intK, x_sl_t, x_sl_f, x_sl_r, x_rev, x_list_r, x_fld, x_setFK, x_set_i, x_set_s, x_len_t, x_len_f, x_len_r, x_int_i, x_list_t, x_list_f, x_tuple_t, x_tuple_r, x_max2, x_min2, x_insOf, x_gTup, x_gTupF, x_gTupR, x_gCons, x_gNil, x_row_t, x_row_f, x_row_r, x_int2K, x_isTupR, x_wipe0, x_wipe1, x_isLst, x_append, x_extend, x_extendT, x_pop0, x_popI, x_dictC, x_sorted, x_sortedT, x_sortK, x_sortTK, x_int_b, x_isT, x_ty_non, x_ty_bl, x_ty_int, x_ty_str, x_ty_tup, x_st1, x_st2, x_st3, x_st4, x_st5, x_isC, x_isDct, x_getK, x_pthK, x_onL, x_pthL, x_pfl, x_pky, x_fldO, x_kyO, x_join, x_valsU0, x_val1, x_val2, x_val0, x_put1, x_put2, x_put0, x_lk1, x_lk2, x_lk0, x_pf1, x_pf2, x_pf0, x_sz1, x_sz2, x_k1000, x_mulL, x_mulR, x_mulM, x_divB, x_powB, x_nz, x_rgB, x_rgB2, x_dispK, x_keys0, x_keysS, x_keysI, x_omap, x_at1, x_at2, x_at3, x_at4, x_at5, x_all_r, x_any_r, kf, List.getElem?_cons_zero, List.getElem?_cons_succ, List.set_cons_zero, List.set_cons_succ, List.set_nil, List.map_cons, List.map_nil, List.cons_append, List.nil_append, List.length_cons, List.length_nil, true_and, and_true, pk, List.filterMap_cons, List.filterMap_nil, Nat.reduceAdd, Nat.reduceSub, Nat.reduceEqDiff, uKey, List.foldl_cons, List.foldl_nil, decide_true, decide_false, Nat.add_assoc, Nat.reduceLeDiff, x_hleft, x_hat0, x_hatj, x_hself, x_hput, x_hsetL, x_hset0, x_hsetj, x_hss, x_hlenS, x_hlenA, x_hass, $ls,*])
section
variable {c : Cl} {mh mh' : MH} {P : MK} {k : KM}
/-- sizes of disks -/
structure Sz (S K N R M : Int) : Prop where
  s0 : 6 ≤ S
  s1 : S ≤ 40
  k0 : 4 ≤ K
  k1 : K ≤ 24
  n : N = (S - 4) * (K - 1)
  n0 : 6 ≤ N
  n1 : N ≤ 828
  r0 : N + 4 ≤ 28 * R
  r1 : 28 * R < N + 32
  m : M = 2 * R + S * K
  sk0 : 24 ≤ S * K
  sk1 : S * K ≤ 960
theorem Sz.of {S K N R : Int} (s0 : 6 ≤ S) (s1 : S ≤ 40) (k0 : 4 ≤ K) (k1 : K ≤ 24) (hn : N = (S - 4) * (K - 1)) (r0 : N + 4 ≤ 28 * R) (r1 : 28 * R < N + 32) : Sz S K N R (2 * R + S * K) := by
  have a1 : 2 * 3 ≤ (S - 4) * (K - 1) := Int.mul_le_mul (by omega) (by omega) (by omega) (by omega)
  have a2 : (S - 4) * (K - 1) ≤ 36 * 23 := Int.mul_le_mul (by omega) (by omega) (by omega) (by omega)
  have a3 : 6 * 4 ≤ S * K := Int.mul_le_mul (by omega) (by omega) (by omega) (by omega)
  have a4 : S * K ≤ 40 * 24 := Int.mul_le_mul (by omega) (by omega) (by omega) (by omega)
  exact ⟨s0, s1, k0, k1, hn, by omega, by omega, r0, r1, rfl, a3, a4⟩
theorem Dk.fr {dk ck : Nat} {X : List Nat} (d : Dk mh dk ck) (f : Fr X mh mh') (h1 : dk ∉ X) (h2 : ck ∉ X) : Dk mh' dk ck := by
  obtain ⟨⟨m, n, a, b, e, h⟩, ⟨ns, l, h'⟩⟩ := d
  exact ⟨⟨m, n, a, b, e, f.get h h1⟩, ⟨ns, l, f.get h' h2⟩⟩
abbrev blank : List Int := List.replicate 32 0
theorem gb_blank : Gb blank := ⟨by simp, fun x hx => by
  have := List.eq_of_mem_replicate hx
  omega⟩
theorem rep_flat {α : Type} {n : Nat} {x : α} : (List.replicate n [x]).flatten = List.replicate n x := by
  induction n with
  | zero => rfl
  | succ n ih => rw [List.replicate_succ, List.flatten_cons, ih, List.replicate_succ]; rfl
theorem init_sp {di : Nat} {S K : Int} (hd : mh[di]? = some (.ins c.Disk [])) (s0 : 6 ≤ S) (s1 : S ≤ 40) (k0 : 4 ≤ K) (k1 : K ≤ 24)
    (k : ∀ st wt nw N R mh', Sz S K N R (2 * R + S * K) → Fr [di] mh mh' → mh.length ≤ st → mh.length ≤ wt → mh.length ≤ nw → Dsk c mh' di st wt nw S K N R (List.replicate (2 * R + S * K).toNat blank) 0 → P .non mh') : w_Disk___init__ c [.ref di, .int S, .int K] mh P := by
  have ld := lt_of hd
  have e1 : (decide (6 ≤ S) && decide (S ≤ 40)) = true := by simp <;> omega
  have e2 : (decide (4 ≤ K) && decide (K ≤ 24)) = true := by simp <;> omega
  have a1 : 2 * 3 ≤ (S - 4) * (K - 1) := Int.mul_le_mul (by omega) (by omega) (by omega) (by omega)
  have a2 : (S - 4) * (K - 1) ≤ 36 * 23 := Int.mul_le_mul (by omega) (by omega) (by omega) (by omega)
  have hz : ∀ R, (S - 4) * (K - 1) + 4 ≤ 28 * R → 28 * R < (S - 4) * (K - 1) + 32 → Sz S K ((S - 4) * (K - 1)) R (2 * R + S * K) := fun R r0 r1 => Sz.of s0 s1 k0 k1 rfl r0 r1
  unfold w_Disk___init__
  refine apM (F := P) ?_
  simp_all! only [y_within, k_LEAST_SEGMENTS, k_MOST_SEGMENTS, k_LEAST_BLOCKS, k_MOST_BLOCKS, k_ROOT_WORDS, k_CONTENT_WORDS, k_BLANK, e1, e2, Bool.not_true, hd, fc__sizes, fc__standing, fc__waiting, fc__newest, fc__fuse, List.mem_cons, List.not_mem_nil, or_false]
  generalize hn : (S - 4) * (K - 1) = n at *
  have er : (n + 4 + 28 - 1).fdiv 28 = (n + 31) / 28 := by
    rw [Int.fdiv_eq_ediv_of_nonneg _ (by decide)]
    congr 1; omega
  rw [er]
  have z := hz ((n + 31) / 28) (by omega) (by omega)
  generalize (n + 31) / 28 = r at *
  have hb := z.sk0
  have hb1 := z.sk1
  have hb2 := z.n1
  have hb3 := z.r1
  have hb4 := z.r0
  have hb5 := z.n0
  rw [rep_flat]
  refine ⟨by omega, by omega, Nat.le_trans (show _ ≤ 2000 by omega) (by decide), ?_⟩
  generalize e1 : mh.set di _ = mh2
  have e3 : mh2.length = mh.length := len_set e1
  refine k (mh.length + 1) (mh.length + 2) (mh.length + 3) n r _ z ((fr_set e1 (by simp)).new) (by omega) (by omega) (by omega) ⟨get_app (of_set e1 ld), by omega, List.replicate (2 * r + S * K).toNat blank, [], [], ?_, ?_, ?_, rfl, by simp, by simp, by simp, rfl, fun i hi => rfl⟩
  · rw [← e3, x_hatj rfl]; simp
  · rw [← e3, x_hatj rfl]; rfl
  · rw [← e3, x_hatj rfl]; rfl
/-- the law's own disk at ii: its standing blocks at sw, its waiting writes at wl -/
structure It (mh : MH) (ii sw wl : Nat) (S K N R : Int) (E : List (List Int)) (q : Nat) : Prop where
  d : mh[ii]? = some (.dK [(.inr "sizes", .tup [.int S, .int K, .int N, .int R]), (.inr "stand", .ref sw), (.inr "wait", .ref wl), (.inr "fuse", .non)])
  r : ∃ (B : List (List Int)) (ws : List (Nat × List Int)), mh[sw]? = some (.lst (B.map tU)) ∧ mh[wl]? = some (.lst (ws.map fun p => .tup [.int (p.1 : Nat), tU p.2])) ∧
    B.length = E.length ∧ ws.length ≤ q ∧ (∀ p ∈ ws, p.1 < E.length) ∧ E = ws.foldl (fun B p => B.set p.1 p.2) B
theorem It.fr {ii sw wl : Nat} {S K N R : Int} {E : List (List Int)} {q : Nat} {X : List Nat} (d : It mh ii sw wl S K N R E q) (f : Fr X mh mh') (h1 : ii ∉ X) (h2 : sw ∉ X) (h3 : wl ∉ X) : It mh' ii sw wl S K N R E q := by
  obtain ⟨o, B, ws, a1, a2, a3⟩ := d
  exact ⟨f.get o h1, B, ws, f.get a1 h2, f.get a2 h3, a3⟩
theorem fold_get {i : Nat} : ∀ (ws : List (Nat × List Int)) (B : List (List Int)), (∀ p ∈ ws, p.1 ≠ i) → (ws.foldl (fun B p => B.set p.1 p.2) B)[i]? = B[i]?
  | [], _, _ => rfl
  | p :: ws, B, h => by
    rw [List.foldl_cons, fold_get ws _ fun x hx => h x (List.mem_cons_of_mem _ hx), List.getElem?_set_ne (h p List.mem_cons_self)]
theorem fold_len : ∀ (ws : List (Nat × List Int)) (B : List (List Int)), (ws.foldl (fun B p => B.set p.1 p.2) B).length = B.length
  | [], _ => rfl
  | p :: ws, B => by rw [List.foldl_cons, fold_len ws]; simp
theorem y_many {S K N R : Int} (z : ∃ M, Sz S K N R M) : ap (w__law_many c [.tup [.int S, .int K, .int N, .int R]] mh) = k.f (.int (2 * R + S * K)) mh := by
  obtain ⟨M, z⟩ := z
  have s0 := z.s0
  have s1 := z.s1
  have mu : CMul S K := .inl (by omega)
  unfold w__law_many
  simp_all! only [mu]
theorem lsizes_sp {S K : Int} (s0 : 6 ≤ S) (s1 : S ≤ 40) (k0 : 4 ≤ K) (k1 : K ≤ 24)
    (k : ∀ N R, Sz S K N R (2 * R + S * K) → P (.tup [.int S, .int K, .int N, .int R]) mh) : w__law_sizes c [.int S, .int K] mh P := by
  have a1 : 2 * 3 ≤ (S - 4) * (K - 1) := Int.mul_le_mul (by omega) (by omega) (by omega) (by omega)
  have mu : CMul (S - 4) (K - 1) := .inl (by omega)
  have r0 := Int.fdiv_eq_ediv_of_nonneg ((S - 4) * (K - 1) + 4 + 27) (show (0 : Int) ≤ 28 by decide)
  unfold w__law_sizes
  refine apM (F := P) ?_
  simp_all! only [mu]
  refine k _ _ (Sz.of s0 s1 k0 k1 rfl ?_ ?_)
  · have e : (S - 4) * (K - 1) + (4 + 27) = (S - 4) * (K - 1) + 4 + 27 := by omega
    first | rw [r0] | rw [e, r0]
    omega
  · have e : (S - 4) * (K - 1) + (4 + 27) = (S - 4) * (K - 1) + 4 + 27 := by omega
    first | rw [r0] | rw [e, r0]
    omega
theorem blank_sp {S K N R : Int} (z : Sz S K N R (2 * R + S * K))
    (k : ∀ ii sw wl mh', Fr [] mh mh' → mh.length ≤ ii → mh.length ≤ sw → mh.length ≤ wl → ii ≠ sw → ii ≠ wl → sw ≠ wl → It mh' ii sw wl S K N R (List.replicate (2 * R + S * K).toNat blank) 0 → P (.ref ii) mh') : w__law_blank c [.tup [.int S, .int K, .int N, .int R]] mh P := by
  have m0 : -1000 ≤ (32 : Int) ∧ (32 : Int) ≤ 1000 := by decide
  have hb := z.sk0
  have hb1 := z.sk1
  have hb2 := z.n1
  have hb3 := z.r1
  have hb4 := z.r0
  have hb5 := z.n0
  have m1 : -(2 ^ 63) ≤ 2 * R + S * K := by omega
  have m2 : 2 * R + S * K < 2 ^ 63 := by omega
  have m3 : 1 * (2 * R + S * K).toNat ≤ sizeLine := Nat.le_trans (show _ ≤ 2000 by omega) (by decide)
  have eb : U.tup (List.replicate (Int.toNat 32) [U.int 0]).flatten = tU blank := by rw [rep_flat]; simp
  unfold w__law_blank
  refine apM (F := P) ?_
  simp_all! only [m0, m1, m2, m3, y_many ⟨_, z⟩, eb]
  rw [rep_flat]
  refine ⟨by simp, k mh.length (mh.length + 2) (mh.length + 3) _ Fr.app (by omega) (by omega) (by omega) (by omega) (by omega) (by omega) ⟨by rw [x_hat0 rfl], List.replicate (2 * R + S * K).toNat blank, [], ?_, ?_, rfl, by simp, by simp, rfl⟩⟩
  · rw [x_hatj rfl]; simp
  · rw [x_hatj rfl]; rfl
theorem lforced_sp {ii sw wl : Nat} {S K N R : Int} {E : List (List Int)} {q : Nat} (d : It mh ii sw wl S K N R E q) (nw : sw ≠ wl)
    (k : ∀ wl' mh', Fr [ii, sw] mh mh' → mh.length ≤ wl' → It mh' ii sw wl' S K N R E 0 → P .non mh') : w__law_forced c [.ref ii] mh P := by
  obtain ⟨o, B, ws, a1, a2, a3, a4, a5, a6⟩ := d
  have n1 : ii ≠ sw := ne_of2 o a1 (by simp)
  unfold w__law_forced
  refine apM (F := P) ?_
  simp_all! only [o, a2]
  refine forA_ind (fun i sl mh' => ∃ x y : Option U, sl = [some (.ref ii), some (.ref sw), x, y] ∧ Fr [sw] mh mh' ∧ mh'[sw]? = some (.lst (((ws.take i).foldl (fun B p => B.set p.1 p.2) B).map tU))) ?_ ?_ ?_
  · exact ⟨none, none, rfl, .refl, by simpa using a1⟩
  · rintro i u sl mh1 qq hu ⟨x, y, rfl, f1, hs⟩ hq
    have hw := f1.get a2 (by simp; exact nw.symm)
    refine ⟨hw, ?_⟩
    rw [List.getElem?_map, Option.map_eq_some_iff] at hu
    obtain ⟨⟨p, b⟩, hp, rfl⟩ := hu
    have hl := lt_of hs
    have hpl : p < E.length := a5 _ (List.mem_of_getElem? hp)
    have hx : ixN ((((ws.take i).foldl (fun B p => B.set p.1 p.2) B).map tU).length) (p : Int) = some p := by
      rw [ixN_nat (by omega) (by rw [List.length_map, fold_len, a3]; omega)]
      simp
    simp_all! only [hs, hx]
    generalize e1 : mh1.set sw _ = mh2
    refine hq _ _ ⟨_, _, rfl, f1.trans (fr_set e1 (by simp)), ?_⟩
    rw [of_set e1 hl, List.take_succ, hp]
    simp [List.foldl_append, List.map_set]
  · rintro sl mh1 ⟨x, y, rfl, f1, hs⟩
    have hw := f1.get a2 (by simp; exact nw.symm)
    have ho := f1.get o (by simp; exact n1)
    have lo := lt_of ho
    have ls := lt_of hs
    refine ⟨hw, ?_⟩
    rw [List.length_map, List.take_of_length_le (Nat.le_refl _), ← a6] at hs
    simp_all! only [ho]
    generalize e1 : mh1.set ii _ = mh2
    have hs2 := of_put e1 hs n1
    have e3 := len_set e1
    refine k mh1.length _ ((f1.mono (by simp)).trans (fr_set e1 (by simp))).new f1.1 ⟨get_app (of_set e1 lo), E, [], get_app hs2, ?_, rfl, by simp, by simp, rfl⟩
    rw [← e3]; exact x_hat0 rfl
end
end Tk13

namespace Tk13
open PySem PySem.Spec PyProof.Rows L2 Tk Sm
local macro_rules | `(tactic| simp_all! only [$ls,*]) => `(tactic| simp -implicitDefEqProofs (disch := (first | assumption | decide | rfl | omega | (simp only [List.length_append, List.length_set, List.length_cons, List.length_nil] <;> omega) | fail)) only [↓x_body, ↓x_var, ↓x_c, ↓x_un, ↓x_bin, ↓x_callB, ↓x_nil, ↓x_cons, ↓x_b, ↓x_tr, ↓x_and, ↓x_or, ↓x_not, ↓x_ifE, ↓x_andV, ↓x_orV, ↓x_notV, ↓x_chain, ↓x_next, ↓x_seq, ↓x_drop, ↓x_ret, ↓x_retN, ↓x_ifS, ↓x_never, ↓x_brk, ↓x_ct, ↓x_asg, ↓x_gN, ↓x_par, ↓x_par3, ↓x_sl, ↓x_pn, ↓x_ps, ↓x_tup, ↓x_lst, ↓x_dict0, ↓x_pairs0, ↓x_pairs1, ↓x_disp, ↓x_setF, ↓x_gSet, ↓x_call, ↓x_callK, ↓x_meth, ↓x_methK, ↓x_make, ↓x_makeK, ↓x_it, ↓x_for, ↓x_while, ↓x_rng1, ↓x_rng2, ↓x_enumL, ↓x_zip, ↓x_lc, ↓x_dc, ↓x_pop2, ↓x_lkE, ↓x_lkS, ↓x_lkI, ↓x_pv1, ↓x_pv2, ↓x_pv3, ↓x_yes, ↓x_bm, ↓x_get2, ↓x_lstRg1, x_selt, x_self, x_onl, x_ond, x_oni, x_onU, x_slot, x_boolK, x_tru_non, x_tru_bl, x_tru_int, x_tru_tup, x_tru_ref, x_rep0, x_repS, x_add_i, x_add_t, x_add_s, x_add_l, x_sub, x_mul_i, x_mul_t, x_mul_l, x_div, x_mod, x_pow, x_neg, x_cmp, x_eq_i, x_ne_i, x_eq_s, x_ne_s, x_eq_b, x_is, x_isN1, x_isN2, x_isN3, x_isN4, x_isN5, x_ix_t, x_ix_f, x_ix_ri, x_ix_rs, x_in_r, x_in_t, x_intK, x_sl_t, x_sl_f, x_sl_r, x_rev, x_list_r, x_fld, x_setFK, x_set_i, x_set_s, x_len_t, x_len_f, x_len_r, x_int_i, x_list_t, x_list_f, x_tuple_t, x_tuple_r, x_max2, x_min2, x_insOf, x_gTup, x_gTupF, x_gTupR, x_gCons, x_gNil, x_row_t, x_row_f, x_row_r, x_int2K, x_isTupR, x_wipe0, x_wipe1, x_isLst, x_append, x_extend, x_extendT, x_pop0, x_popI, x_dictC, x_sorted, x_sortedT, x_sortK, x_sortTK, x_int_b, x_isT, x_ty_non, x_ty_bl, x_ty_int, x_ty_str, x_ty_tup, x_st1, x_st2, x_st3, x_st4, x_st5, x_isC, x_isDct, x_getK, x_pthK, x_onL, x_pthL, x_pfl, x_pky, x_fldO, x_kyO, x_join, x_valsU0, x_val1, x_val2, x_val0, x_put1, x_put2, x_put0, x_lk1, x_lk2, x_lk0, x_pf1, x_pf2, x_pf0, x_sz1, x_sz2, x_k1000, x_mulL, x_mulR, x_mulM, x_divB, x_powB, x_nz, x_rgB, x_rgB2, x_dispK, x_keys0, x_keysS, x_keysI, x_omap, x_at1, x_at2, x_at3, x_at4, x_at5, x_all_r, x_any_r, kf, List.getElem?_cons_zero, List.getElem?_cons_succ, List.set_cons_zero, List.set_cons_succ, List.set_nil, List.map_cons, List.map_nil, List.cons_append, List.nil_append, List.length_cons, List.length_nil, true_and, and_true, pk, List.filterMap_cons, List.filterMap_nil, Nat.reduceAdd, Nat.reduceSub, Nat.reduceEqDiff, uKey, List.foldl_cons, List.foldl_nil, decide_true, decide_false, Nat.add_assoc, Nat.reduceLeDiff, x_hleft, x_hat0, x_hatj, x_hself, x_hput, x_hsetL, x_hset0, x_hsetj, x_hss, x_hlenS, x_hlenA, x_hass, $ls,*])
local macro_rules | `(tactic| dsimp! only [$ls,*]) => `(tactic| simp -implicitDefEqProofs (disch := (first | assumption | decide | rfl | omega | (simp only [List.length_append, List.length_set, List.length_cons, List.length_nil] <;> omega) | fail)) only [↓x_body, ↓x_var, ↓x_c, ↓x_un, ↓x_bin, ↓x_callB, ↓x_nil, ↓x_cons, ↓x_b, ↓x_tr, ↓x_and, ↓x_or, ↓x_not, ↓x_ifE, ↓x_andV, ↓x_orV, ↓x_notV, ↓x_chain, ↓x_next, ↓x_seq, ↓x_drop, ↓x_ret, ↓x_retN, ↓x_never, ↓x_brk, ↓x_ct, ↓x_asg, ↓x_gN, ↓x_par, ↓x_par3, ↓x_sl, ↓x_pn, ↓x_ps, ↓x_tup, ↓x_lst, ↓x_dict0, ↓x_pairs0, ↓x_pairs1, ↓x_disp, ↓x_setF, ↓x_gSet, ↓x_call, ↓x_callK, ↓x_meth, ↓x_methK, ↓x_make, ↓x_makeK, ↓x_it, ↓x_for, ↓x_while, ↓x_rng1, ↓x_rng2, ↓x_enumL, ↓x_zip, ↓x_lc, ↓x_dc, ↓x_pop2, ↓x_lkE, ↓x_lkS, ↓x_lkI, ↓x_pv1, ↓x_pv2, ↓x_pv3, ↓x_yes, ↓x_bm, ↓x_get2, ↓x_lstRg1, x_selt, x_self, x_onl, x_ond, x_oni, x_onU, x_slot, x_boolK, x_tru_non, x_tru_bl, x_tru_int, x_tru_tup, x_tru_ref, x_rep0, x_repS, x_add_i, x_add_t, x_add_s, x_add_l, x_sub, x_mul_i, x_mul_t, x_mul_l, x_div, x_mod, x_pow, x_neg, x_cmp, x_eq_i, x_ne_i, x_eq_s, x_ne_s, x_eq_b, x_is, x_isN1, x_isN2, x_isN3, x_isN4, x_isN5, x_ix_t, x_ix_f, x_ix_ri, x_ix_rs, x_in_r, x_in_t, x_intK, x_sl_t, x_sl_f, x_sl_r, x_rev, x_list_r, x_fld, x_setFK, x_set_i, x_set_s, x_len_t, x_len_f, x_len_r, x_int_i, x_list_t, x_list_f, x_tuple_t, x_tuple_r, x_max2, x_min2, x_insOf, x_gTup, x_gTupF, x_gTupR, x_gCons, x_gNil, x_row_t, x_row_f, x_row_r, x_int2K, x_isTupR, x_wipe0, x_wipe1, x_isLst, x_append, x_extend, x_extendT, x_pop0, x_popI, x_dictC, x_sorted, x_sortedT, x_sortK, x_sortTK, x_int_b, x_isT, x_ty_non, x_ty_bl, x_ty_int, x_ty_str, x_ty_tup, x_st1, x_st2, x_st3, x_st4, x_st5, x_isC, x_isDct, x_getK, x_pthK, x_onL, x_pthL, x_pfl, x_pky, x_fldO, x_kyO, x_join, x_valsU0, x_val1, x_val2, x_val0, x_put1, x_put2, x_put0, x_lk1, x_lk2, x_lk0, x_pf1, x_pf2, x_pf0, x_sz1, x_sz2, x_k1000, x_mulL, x_mulR, x_mulM, x_divB, x_powB, x_nz, x_rgB, x_rgB2, x_dispK, x_keys0, x_keysS, x_keysI, x_omap, x_at1, x_at2, x_at3, x_at4, x_at5, x_all_r, x_any_r, kf, List.getElem?_cons_zero, List.getElem?_cons_succ, List.set_cons_zero, List.set_cons_succ, List.set_nil, List.map_cons, List.map_nil, List.cons_append, List.nil_append, List.length_cons, List.length_nil, true_and, and_true, pk, List.filterMap_cons, List.filterMap_nil, Nat.reduceAdd, Nat.reduceSub, Nat.reduceEqDiff, uKey, List.foldl_cons, List.foldl_nil, decide_true, decide_false, Nat.add_assoc, Nat.reduceLeDiff, x_hleft, x_hat0, x_hatj, x_hself, x_hput, x_hsetL, x_hset0, x_hsetj, x_hss, x_hlenS, x_hlenA, x_hass, $ls,*])
theorem out_of {X Y : List Nat} (h : (X ++ Y).Nodup) {x : Nat} (hx : x ∈ Y) : x ∉ X := fun hy => by
  rw [List.nodup_append] at h
  exact h.2.2 x hy x hx rfl
section
variable {c : Cl} {mh mh' : MH} {P : MK} {k : KM} {dk ck di st wt nw ii sw wl : Nat} {S K N R : Int} {E : List (List Int)} {q : Nat}
/-- the world of the law: deck, disk, the law's own disk -/
structure W3 (c : Cl) (mh : MH) (dk ck di st wt nw ii sw wl : Nat) (S K N R : Int) (E : List (List Int)) (q : Nat) : Prop where
  D : Dk mh dk ck
  d : Dsk c mh di st wt nw S K N R E q
  l : It mh ii sw wl S K N R E q
  z : Sz S K N R E.length
  g : ∀ b ∈ E, Gb b
  nd : [dk, ck, di, st, wt, nw, ii, sw, wl].Nodup
abbrev ft (dk ck di st wt nw ii sw wl : Nat) : List Nat := [dk, ck, di, st, wt, nw, ii, sw, wl]
theorem W3.fr (w : W3 c mh dk ck di st wt nw ii sw wl S K N R E q) {X : List Nat} (f : Fr X mh mh') (h : ∀ x ∈ ft dk ck di st wt nw ii sw wl, x ∉ X) : W3 c mh' dk ck di st wt nw ii sw wl S K N R E q :=
  ⟨w.D.fr f (h _ (by simp)) (h _ (by simp)), w.d.fr f (h _ (by simp)) (h _ (by simp)) (h _ (by simp)) (h _ (by simp)), w.l.fr f (h _ (by simp)) (h _ (by simp)) (h _ (by simp)), w.z, w.g, w.nd⟩
theorem W3.grow (w : W3 c mh dk ck di st wt nw ii sw wl S K N R E q) (f : Fr [] mh mh') : W3 c mh' dk ck di st wt nw ii sw wl S K N R E q := w.fr f fun _ _ h => by cases h
theorem W3.draw (w : W3 c mh dk ck di st wt nw ii sw wl S K N R E q) (f : Fr [dk, ck] mh mh') (D : Dk mh' dk ck) : W3 c mh' dk ck di st wt nw ii sw wl S K N R E q := by
  have o : ∀ x ∈ [di, st, wt, nw, ii, sw, wl], x ∉ [dk, ck] := fun x hx => out_of (X := [dk, ck]) w.nd hx
  exact ⟨D, w.d.fr f (o _ (by simp)) (o _ (by simp)) (o _ (by simp)) (o _ (by simp)), w.l.fr f (o _ (by simp)) (o _ (by simp)) (o _ (by simp)), w.z, w.g, w.nd⟩
theorem W3.lt (w : W3 c mh dk ck di st wt nw ii sw wl S K N R E q) : ∀ x ∈ ft dk ck di st wt nw ii sw wl, x < mh.length := by
  obtain ⟨⟨⟨_, _, _, _, _, h1⟩, ⟨_, _, h2⟩⟩, ⟨h3, _, _, _, _, h4, h5, h6, _⟩, ⟨h7, _, _, h8, h9, _⟩, _⟩ := w
  intro x hx
  simp only [ft, List.mem_cons, List.not_mem_nil, or_false] at hx
  rcases hx with rfl | rfl | rfl | rfl | rfl | rfl | rfl | rfl | rfl
  · exact lt_of h1
  · exact lt_of h2
  · exact lt_of h3
  · exact lt_of h4
  · exact lt_of h5
  · exact lt_of h6
  · exact lt_of h7
  · exact lt_of h8
  · exact lt_of h9
theorem W3.out (w : W3 c mh dk ck di st wt nw ii sw wl S K N R E q) {x : Nat} (h : mh.length ≤ x) : x ∉ ft dk ck di st wt nw ii sw wl := fun hx => by
  have := w.lt x hx
  omega
theorem W3.temp (w : W3 c mh dk ck di st wt nw ii sw wl S K N R E q) {t : Nat} (hx : t ∉ ft dk ck di st wt nw ii sw wl) (f : Fr [t] mh mh') : W3 c mh' dk ck di st wt nw ii sw wl S K N R E q :=
  w.fr f fun x hx' h => hx (List.mem_singleton.mp h ▸ hx')
/-- the law's own list of waiting writes grows behind a write -/
theorem W3.put (w : W3 c mh dk ck di st wt nw ii sw wl S K N R E q) {mh1 : MH} {j : Nat} {b : List Int} {B : List (List Int)} {ws : List (Nat × List Int)} (hj : j < E.length) (hb : Gb b) (f1 : Fr [wt, nw] mh mh1) (d1 : Dsk c mh1 di st wt nw S K N R (E.set j b) (q + 1))
    (o : mh1[ii]? = some (.dK [(.inr "sizes", .tup [.int S, .int K, .int N, .int R]), (.inr "stand", .ref sw), (.inr "wait", .ref wl), (.inr "fuse", .non)])) (a1 : mh1[sw]? = some (.lst (B.map tU)))
    (a3 : B.length = E.length) (a4 : ws.length ≤ q) (a5 : ∀ p ∈ ws, p.1 < E.length) (a6 : E = ws.foldl (fun B p => B.set p.1 p.2) B) {mh2 : MH}
    (e2 : mh1.set ii (.dK [(.inr "sizes", .tup [.int S, .int K, .int N, .int R]), (.inr "stand", .ref sw), (.inr "wait", .ref (mh1.length + 1)), (.inr "fuse", .non)]) = mh2) :
    W3 c (mh2 ++ [.lst [.tup [.int (j : Nat), tU b]], .lst ((ws.map fun p => U.tup [.int (p.1 : Nat), tU p.2]) ++ [.tup [.int (j : Nat), tU b]])]) dk ck di st wt nw ii sw (mh1.length + 1) S K N R (E.set j b) (q + 1) ∧
    Fr [wt, nw, ii] mh (mh2 ++ [.lst [.tup [.int (j : Nat), tU b]], .lst ((ws.map fun p => U.tup [.int (p.1 : Nat), tU p.2]) ++ [.tup [.int (j : Nat), tU b]])]) ∧ mh.length ≤ mh1.length + 1 := by
  have nd := w.nd
  have o1 : ∀ x ∈ [dk, ck, ii, sw, wl], x ∉ [wt, nw] := fun x hx hy => by
    simp only [List.nodup_cons, List.mem_cons, List.not_mem_nil, or_false, not_or] at nd hx hy
    grind
  have D1 := w.D.fr f1 (o1 _ (by simp)) (o1 _ (by simp))
  have lo := lt_of o
  have nsw : sw ≠ ii ∧ wl ≠ ii ∧ dk ≠ ii ∧ ck ≠ ii ∧ di ≠ ii ∧ st ≠ ii ∧ wt ≠ ii ∧ nw ≠ ii := by
    simp only [List.nodup_cons, List.mem_cons, List.not_mem_nil, or_false, not_or] at nd
    grind
  obtain ⟨m1, m2, m3, m4, m5, m6, m7, m8⟩ := nsw
  have f2 : Fr [ii] mh1 mh2 := fr_set e2 (by simp)
  have e3 := len_set e2
  have hl1 := f1.1
  refine ⟨⟨(D1.fr f2 (by simp [m3]) (by simp [m4])).fr (X := []) Fr.app (by simp) (by simp), (d1.fr f2 (by simp [m5]) (by simp [m6]) (by simp [m7]) (by simp [m8])).fr (X := []) Fr.app (by simp) (by simp) (by simp) (by simp), ⟨get_app (of_set e2 lo), B, ws ++ [(j, b)], get_app (of_put e2 a1 m1.symm), ?_, by simp [a3], by simp <;> omega, ?_, ?_⟩, by simpa using w.z, ?_, ?_⟩, ?_, ?_⟩
  · rw [← e3, x_hatj rfl]; simp
  · intro p hp
    rcases List.mem_append.mp hp with hp | hp
    · simpa using a5 p hp
    · simp at hp; subst hp; simp; omega
  · rw [List.foldl_append, ← a6]; simp
  · intro b' hb'
    rcases List.mem_or_eq_of_mem_set hb' with h | rfl
    · exact w.g b' h
    · exact hb
  · have lt := w.lt
    have u1 : ∀ x ∈ ft dk ck di st wt nw ii sw wl, ¬x = mh1.length + 1 := fun x hx => by have := lt x hx; omega
    have := u1 dk (by simp)
    have := u1 ck (by simp)
    have := u1 di (by simp)
    have := u1 st (by simp)
    have := u1 wt (by simp)
    have := u1 nw (by simp)
    have := u1 ii (by simp)
    have := u1 sw (by simp)
    clear u1 lt
    simp only [List.nodup_cons, List.mem_cons, List.not_mem_nil, or_false, not_or, not_false_eq_true, List.nodup_nil, and_true] at nd ⊢
    grind
  · exact ((f1.mono (by simp)).trans (f2.mono (by simp))).new
  · omega
/-- what the law's own disk is behind a write to the disk alone -/
theorem W3.mid (w : W3 c mh dk ck di st wt nw ii sw wl S K N R E q) {mh1 : MH} (f1 : Fr [wt, nw] mh mh1) : It mh1 ii sw wl S K N R E q := by
  have nd := w.nd
  have o1 : ∀ x ∈ [ii, sw, wl], x ∉ [wt, nw] := fun x hx hy => by
    simp only [List.nodup_cons, List.mem_cons, List.not_mem_nil, or_false, not_or] at nd hx hy
    grind
  exact w.l.fr f1 (o1 _ (by simp)) (o1 _ (by simp)) (o1 _ (by simp))
end
end Tk13

namespace Tk13
open PySem PySem.Spec PyProof.Rows L2 Tk Sm
local macro_rules | `(tactic| simp_all! only [$ls,*]) => `(tactic| simp -implicitDefEqProofs (disch := (first | assumption | decide | rfl | omega | (simp only [List.length_append, List.length_set, List.length_cons, List.length_nil] <;> omega) | fail)) only [↓x_body, ↓x_var, ↓x_c, ↓x_un, ↓x_bin, ↓x_callB, ↓x_nil, ↓x_cons, ↓x_b, ↓x_tr, ↓x_and, ↓x_or, ↓x_not, ↓x_ifE, ↓x_andV, ↓x_orV, ↓x_notV, ↓x_chain, ↓x_next, ↓x_seq, ↓x_drop, ↓x_ret, ↓x_retN, ↓x_ifS, ↓x_never, ↓x_brk, ↓x_ct, ↓x_asg, ↓x_gN, ↓x_par, ↓x_par3, ↓x_sl, ↓x_pn, ↓x_ps, ↓x_tup, ↓x_lst, ↓x_dict0, ↓x_pairs0, ↓x_pairs1, ↓x_disp, ↓x_setF, ↓x_gSet, ↓x_call, ↓x_callK, ↓x_meth, ↓x_methK, ↓x_make, ↓x_makeK, ↓x_it, ↓x_for, ↓x_while, ↓x_rng1, ↓x_rng2, ↓x_enumL, ↓x_zip, ↓x_lc, ↓x_dc, ↓x_pop2, ↓x_lkE, ↓x_lkS, ↓x_lkI, ↓x_pv1, ↓x_pv2, ↓x_pv3, ↓x_yes, ↓x_bm, ↓x_get2, ↓x_lstRg1, x_selt, x_self, x_onl, x_ond, x_oni, x_onU, x_slot, x_boolK, x_tru_non, x_tru_bl, x_tru_int, x_tru_tup, x_tru_ref, x_rep0, x_repS, x_add_i, x_add_t, x_add_s, x_add_l, x_sub, x_mul_i, x_mul_t, x_mul_l, x_div, x_mod, x_pow, x_neg, x_cmp, x_eq_i, x_ne_i, x_eq_s, x_ne_s, x_eq_b, x_is, x_isN1, x_isN2, x_isN3, x_isN4, x_isN5, x_ix_t, x_ix_f, x_ix_ri, x_ix_rs, x_in_r, x_in_t, x_intK, x_sl_t, x_sl_f, x_sl_r, x_rev, x_list_r, x_fld, x_setFK, x_set_i, x_set_s, x_len_t, x_len_f, x_len_r, x_int_i, x_list_t, x_list_f, x_tuple_t, x_tuple_r, x_max2, x_min2, x_insOf, x_gTup, x_gTupF, x_gTupR, x_gCons, x_gNil, x_row_t, x_row_f, x_row_r, x_int2K, x_isTupR, x_wipe0, x_wipe1, x_isLst, x_append, x_extend, x_extendT, x_pop0, x_popI, x_dictC, x_sorted, x_sortedT, x_sortK, x_sortTK, x_int_b, x_isT, x_ty_non, x_ty_bl, x_ty_int, x_ty_str, x_ty_tup, x_st1, x_st2, x_st3, x_st4, x_st5, x_isC, x_isDct, x_getK, x_pthK, x_onL, x_pthL, x_pfl, x_pky, x_fldO, x_kyO, x_join, x_valsU0, x_val1, x_val2, x_val0, x_put1, x_put2, x_put0, x_lk1, x_lk2, x_lk0, x_pf1, x_pf2, x_pf0, x_sz1, x_sz2, x_k1000, x_mulL, x_mulR, x_mulM, x_divB, x_powB, x_nz, x_rgB, x_rgB2, x_dispK, x_keys0, x_keysS, x_keysI, x_omap, x_at1, x_at2, x_at3, x_at4, x_at5, x_all_r, x_any_r, kf, List.getElem?_cons_zero, List.getElem?_cons_succ, List.set_cons_zero, List.set_cons_succ, List.set_nil, List.map_cons, List.map_nil, List.cons_append, List.nil_append, List.length_cons, List.length_nil, true_and, and_true, pk, List.filterMap_cons, List.filterMap_nil, Nat.reduceAdd, Nat.reduceSub, Nat.reduceEqDiff, uKey, List.foldl_cons, List.foldl_nil, decide_true, decide_false, Nat.add_assoc, Nat.reduceLeDiff, x_hleft, x_hat0, x_hatj, x_hself, x_hput, x_hsetL, x_hset0, x_hsetj, x_hss, x_hlenS, x_hlenA, x_hass, $ls,*])
local macro_rules | `(tactic| dsimp! only [$ls,*]) => `(tactic| simp -implicitDefEqProofs (disch := (first | assumption | decide | rfl | omega | (simp only [List.length_append, List.length_set, List.length_cons, List.length_nil] <;> omega) | fail)) only [↓x_body, ↓x_var, ↓x_c, ↓x_un, ↓x_bin, ↓x_callB, ↓x_nil, ↓x_cons, ↓x_b, ↓x_tr, ↓x_and, ↓x_or, ↓x_not, ↓x_ifE, ↓x_andV, ↓x_orV, ↓x_notV, ↓x_chain, ↓x_next, ↓x_seq, ↓x_drop, ↓x_ret, ↓x_retN, ↓x_never, ↓x_brk, ↓x_ct, ↓x_asg, ↓x_gN, ↓x_par, ↓x_par3, ↓x_sl, ↓x_pn, ↓x_ps, ↓x_tup, ↓x_lst, ↓x_dict0, ↓x_pairs0, ↓x_pairs1, ↓x_disp, ↓x_setF, ↓x_gSet, ↓x_call, ↓x_callK, ↓x_meth, ↓x_methK, ↓x_make, ↓x_makeK, ↓x_it, ↓x_for, ↓x_while, ↓x_rng1, ↓x_rng2, ↓x_enumL, ↓x_zip, ↓x_lc, ↓x_dc, ↓x_pop2, ↓x_lkE, ↓x_lkS, ↓x_lkI, ↓x_pv1, ↓x_pv2, ↓x_pv3, ↓x_yes, ↓x_bm, ↓x_get2, ↓x_lstRg1, x_selt, x_self, x_onl, x_ond, x_oni, x_onU, x_slot, x_boolK, x_tru_non, x_tru_bl, x_tru_int, x_tru_tup, x_tru_ref, x_rep0, x_repS, x_add_i, x_add_t, x_add_s, x_add_l, x_sub, x_mul_i, x_mul_t, x_mul_l, x_div, x_mod, x_pow, x_neg, x_cmp, x_eq_i, x_ne_i, x_eq_s, x_ne_s, x_eq_b, x_is, x_isN1, x_isN2, x_isN3, x_isN4, x_isN5, x_ix_t, x_ix_f, x_ix_ri, x_ix_rs, x_in_r, x_in_t, x_intK, x_sl_t, x_sl_f, x_sl_r, x_rev, x_list_r, x_fld, x_setFK, x_set_i, x_set_s, x_len_t, x_len_f, x_len_r, x_int_i, x_list_t, x_list_f, x_tuple_t, x_tuple_r, x_max2, x_min2, x_insOf, x_gTup, x_gTupF, x_gTupR, x_gCons, x_gNil, x_row_t, x_row_f, x_row_r, x_int2K, x_isTupR, x_wipe0, x_wipe1, x_isLst, x_append, x_extend, x_extendT, x_pop0, x_popI, x_dictC, x_sorted, x_sortedT, x_sortK, x_sortTK, x_int_b, x_isT, x_ty_non, x_ty_bl, x_ty_int, x_ty_str, x_ty_tup, x_st1, x_st2, x_st3, x_st4, x_st5, x_isC, x_isDct, x_getK, x_pthK, x_onL, x_pthL, x_pfl, x_pky, x_fldO, x_kyO, x_join, x_valsU0, x_val1, x_val2, x_val0, x_put1, x_put2, x_put0, x_lk1, x_lk2, x_lk0, x_pf1, x_pf2, x_pf0, x_sz1, x_sz2, x_k1000, x_mulL, x_mulR, x_mulM, x_divB, x_powB, x_nz, x_rgB, x_rgB2, x_dispK, x_keys0, x_keysS, x_keysI, x_omap, x_at1, x_at2, x_at3, x_at4, x_at5, x_all_r, x_any_r, kf, List.getElem?_cons_zero, List.getElem?_cons_succ, List.set_cons_zero, List.set_cons_succ, List.set_nil, List.map_cons, List.map_nil, List.cons_append, List.nil_append, List.length_cons, List.length_nil, true_and, and_true, pk, List.filterMap_cons, List.filterMap_nil, Nat.reduceAdd, Nat.reduceSub, Nat.reduceEqDiff, uKey, List.foldl_cons, List.foldl_nil, decide_true, decide_false, Nat.add_assoc, Nat.reduceLeDiff, x_hleft, x_hat0, x_hatj, x_hself, x_hput, x_hsetL, x_hset0, x_hsetj, x_hss, x_hlenS, x_hlenA, x_hass, $ls,*])
section
variable {c : Cl} {mh mh' : MH} {P : MK} {k : KM} {dk ck di st wt nw ii sw wl : Nat} {S K N R : Int} {E : List (List Int)} {q : Nat}
theorem Dsk.mono {q' : Nat} (d : Dsk c mh di st wt nw S K N R E q) (h : q ≤ q') : Dsk c mh di st wt nw S K N R E q' := by
  obtain ⟨o, ne, B, ws, kvs, a1, a2, a3, a4, l1, l2, r⟩ := d
  exact ⟨o, ne, B, ws, kvs, a1, a2, a3, a4, by omega, by omega, r⟩
theorem It.mono {q' : Nat} (d : It mh ii sw wl S K N R E q) (h : q ≤ q') : It mh ii sw wl S K N R E q' := by
  obtain ⟨o, B, ws, a1, a2, a3, l1, r⟩ := d
  exact ⟨o, B, ws, a1, a2, a3, by omega, r⟩
theorem W3.force0 (w : W3 c mh dk ck di st wt nw ii sw wl S K N R E q)
    (k : ∀ wt' nw' mh', Fr [di, st] mh mh' → mh.length ≤ wt' → mh.length ≤ nw' → W3 c mh' dk ck di st wt' nw' ii sw wl S K N R E q → Dsk c mh' di st wt' nw' S K N R E 0 → P .non mh') : w_Disk_force c [.ref di] mh P := by
  refine w.d.force fun wt' nw' mh' f l1 l2 n d => k wt' nw' mh' f l1 l2 ?_ d
  have lt := w.lt
  have nd := w.nd
  have o : ∀ x ∈ [dk, ck, ii, sw, wl], x ∉ [di, st] := fun x hx hy => by
    simp only [List.nodup_cons, List.mem_cons, List.not_mem_nil, or_false, not_or] at nd hx hy
    grind
  refine ⟨w.D.fr f (o _ (by simp)) (o _ (by simp)), d.mono (Nat.zero_le _), w.l.fr f (o _ (by simp)) (o _ (by simp)) (o _ (by simp)), w.z, w.g, ?_⟩
  simp only [List.nodup_cons, List.mem_cons, List.not_mem_nil, or_false, not_or, not_false_eq_true, List.nodup_nil, and_true] at nd ⊢
  have u1 : ∀ x ∈ ft dk ck di st wt nw ii sw wl, ¬x = wt' ∧ ¬x = nw' ∧ ¬wt' = x ∧ ¬nw' = x := fun x hx => by have := lt x hx; omega
  have a1 := u1 dk (by simp)
  have a2 := u1 ck (by simp)
  have a3 := u1 di (by simp)
  have a4 := u1 st (by simp)
  have a7 := u1 ii (by simp)
  have a8 := u1 sw (by simp)
  have a9 := u1 wl (by simp)
  obtain ⟨⟨b1, b2, b3, _, _, b6, b7, b8⟩, ⟨c2, c3, _, _, c6, c7, c8⟩, ⟨d3, _, _, d6, d7, d8⟩, ⟨_, _, e6, e7, e8⟩, _, _, g⟩ := nd
  exact ⟨⟨b1, b2, b3, a1.1, a1.2.1, b6, b7, b8⟩, ⟨c2, c3, a2.1, a2.2.1, c6, c7, c8⟩, ⟨d3, a3.1, a3.2.1, d6, d7, d8⟩, ⟨a4.1, a4.2.1, e6, e7, e8⟩, ⟨n, a7.2.2.1, a8.2.2.1, a9.2.2.1⟩, ⟨a7.2.2.2, a8.2.2.2, a9.2.2.2⟩, g⟩
theorem W3.force (w : W3 c mh dk ck di st wt nw ii sw wl S K N R E q)
    (k : ∀ wt' nw' mh', Fr [di, st] mh mh' → mh.length ≤ wt' → mh.length ≤ nw' → W3 c mh' dk ck di st wt' nw' ii sw wl S K N R E q → P .non mh') : w_Disk_force c [.ref di] mh P := w.force0 fun wt' nw' mh' f l1 l2 w' _ => k wt' nw' mh' f l1 l2 w'
theorem W3.forced0 (w : W3 c mh dk ck di st wt nw ii sw wl S K N R E q)
    (k : ∀ wl' mh', Fr [ii, sw] mh mh' → mh.length ≤ wl' → W3 c mh' dk ck di st wt nw ii sw wl' S K N R E q → It mh' ii sw wl' S K N R E 0 → P .non mh') : w__law_forced c [.ref ii] mh P := by
  have nd := w.nd
  have nsw : sw ≠ wl := by
    simp only [List.nodup_cons, List.mem_cons, List.not_mem_nil, or_false, not_or] at nd
    grind
  refine lforced_sp w.l nsw fun wl' mh' f l1 d => k wl' mh' f l1 ?_ d
  have lt := w.lt
  have o : ∀ x ∈ [dk, ck, di, st, wt, nw], x ∉ [ii, sw] := fun x hx hy => by
    simp only [List.nodup_cons, List.mem_cons, List.not_mem_nil, or_false, not_or] at nd hx hy
    grind
  refine ⟨w.D.fr f (o _ (by simp)) (o _ (by simp)), w.d.fr f (o _ (by simp)) (o _ (by simp)) (o _ (by simp)) (o _ (by simp)), d.mono (Nat.zero_le _), w.z, w.g, ?_⟩
  have u1 : ∀ x ∈ ft dk ck di st wt nw ii sw wl, ¬x = wl' := fun x hx => by have := lt x hx; omega
  have a1 := u1 dk (by simp)
  have a2 := u1 ck (by simp)
  have a3 := u1 di (by simp)
  have a4 := u1 st (by simp)
  have a5 := u1 wt (by simp)
  have a6 := u1 nw (by simp)
  have a7 := u1 ii (by simp)
  have a8 := u1 sw (by simp)
  simp only [List.nodup_cons, List.mem_cons, List.not_mem_nil, or_false, not_or, not_false_eq_true, List.nodup_nil, and_true] at nd ⊢
  obtain ⟨⟨b1, b2, b3, b4, b5, b6, b7, _⟩, ⟨c2, c3, c4, c5, c6, c7, _⟩, ⟨d3, d4, d5, d6, d7, _⟩, ⟨e4, e5, e6, e7, _⟩, ⟨f5, f6, f7, _⟩, ⟨g6, g7, _⟩, ⟨h7, _⟩, _⟩ := nd
  exact ⟨⟨b1, b2, b3, b4, b5, b6, b7, a1⟩, ⟨c2, c3, c4, c5, c6, c7, a2⟩, ⟨d3, d4, d5, d6, d7, a3⟩, ⟨e4, e5, e6, e7, a4⟩, ⟨f5, f6, f7, a5⟩, ⟨g6, g7, a6⟩, ⟨h7, a7⟩, a8⟩
theorem W3.forced (w : W3 c mh dk ck di st wt nw ii sw wl S K N R E q)
    (k : ∀ wl' mh', Fr [ii, sw] mh mh' → mh.length ≤ wl' → W3 c mh' dk ck di st wt nw ii sw wl' S K N R E q → P .non mh') : w__law_forced c [.ref ii] mh P := w.forced0 fun wl' mh' f l1 w' _ => k wl' mh' f l1 w'
theorem dsizes_sp (D : Dk mh dk ck) (k : ∀ S K N R mh', Sz S K N R (2 * R + S * K) → Fr [dk, ck] mh mh' → Dk mh' dk ck → P (.tup [.int S, .int K, .int N, .int R]) mh') : w__law_drawn_sizes c [.ref dk] mh P := by
  unfold w__law_drawn_sizes
  refine apM (F := P) ?_
  simp_all! only []
  refine apI (draw_sp D (by decide) (by decide) fun a mh1 f1 D1 a0 a1 => ?_)
  simp_all! only []
  refine sel (fun h => ?_) fun h => ?_
  · simp_all! only []
    refine apI (draw_sp D1 (by decide) (by decide) fun b mh2 f2 D2 b0 b1 => ?_)
    simp_all! only []
    refine apI (draw_sp D2 (by decide) (by decide) fun d mh3 f3 D3 d0 d1 => ?_)
    simp_all! only []
    exact apI (lsizes_sp (by omega) (by omega) (by omega) (by omega) fun N R z => k _ _ N R mh3 z ((f1.trans f2).trans f3) D3)
  · simp_all! only []
    refine apI (draw_sp D1 (by decide) (by decide) fun b mh2 f2 D2 b0 b1 => ?_)
    simp_all! only []
    refine apI (draw_sp D2 (by decide) (by decide) fun d mh3 f3 D3 d0 d1 => ?_)
    simp_all! only []
    exact apI (lsizes_sp (by omega) (by omega) (by omega) (by omega) fun N R z => k _ _ N R mh3 z ((f1.trans f2).trans f3) D3)
end
end Tk13

namespace Tk13
open PySem PySem.Spec PyProof.Rows L2 Tk Sm
local macro_rules | `(tactic| simp_all! only [$ls,*]) => `(tactic| simp -implicitDefEqProofs (disch := (first | assumption | decide | rfl | omega | (simp only [List.length_append, List.length_set, List.length_cons, List.length_nil] <;> omega) | fail)) only [↓x_body, ↓x_var, ↓x_c, ↓x_un, ↓x_bin, ↓x_callB, ↓x_nil, ↓x_cons, ↓x_b, ↓x_tr, ↓x_and, ↓x_or, ↓x_not, ↓x_ifE, ↓x_andV, ↓x_orV, ↓x_notV, ↓x_chain, ↓x_next, ↓x_seq, ↓x_drop, ↓x_ret, ↓x_retN, ↓x_ifS, ↓x_never, ↓x_brk, ↓x_ct, ↓x_asg, ↓x_gN, ↓x_par, ↓x_par3, ↓x_sl, ↓x_pn, ↓x_ps, ↓x_tup, ↓x_lst, ↓x_dict0, ↓x_pairs0, ↓x_pairs1, ↓x_disp, ↓x_setF, ↓x_gSet, ↓x_call, ↓x_callK, ↓x_meth, ↓x_methK, ↓x_make, ↓x_makeK, ↓x_it, ↓x_for, ↓x_while, ↓x_rng1, ↓x_rng2, ↓x_enumL, ↓x_zip, ↓x_lc, ↓x_dc, ↓x_pop2, ↓x_lkE, ↓x_lkS, ↓x_lkI, ↓x_pv1, ↓x_pv2, ↓x_pv3, ↓x_yes, ↓x_bm, ↓x_get2, ↓x_lstRg1, x_selt, x_self, x_onl, x_ond, x_oni, x_onU, x_slot, x_boolK, x_tru_non, x_tru_bl, x_tru_int, x_tru_tup, x_tru_ref, x_rep0, x_repS, x_add_i, x_add_t, x_add_s, x_add_l, x_sub, x_mul_i, x_mul_t, x_mul_l, x_div, x_mod, x_pow, x_neg, x_cmp, x_eq_i, x_ne_i, x_eq_s, x_ne_s, x_eq_b, x_is, x_isN1, x_isN2, x_isN3, x_isN4, x_isN5, x_ix_t, x_ix_f, x_ix_ri, x_ix_rs, x_in_r, x_in_t, x_intK, x_sl_t, x_sl_f, x_sl_r, x_rev, x_list_r, x_fld, x_setFK, x_set_i, x_set_s, x_len_t, x_len_f, x_len_r, x_int_i, x_list_t, x_list_f, x_tuple_t, x_tuple_r, x_max2, x_min2, x_insOf, x_gTup, x_gTupF, x_gTupR, x_gCons, x_gNil, x_row_t, x_row_f, x_row_r, x_int2K, x_isTupR, x_wipe0, x_wipe1, x_isLst, x_append, x_extend, x_extendT, x_pop0, x_popI, x_dictC, x_sorted, x_sortedT, x_sortK, x_sortTK, x_int_b, x_isT, x_ty_non, x_ty_bl, x_ty_int, x_ty_str, x_ty_tup, x_st1, x_st2, x_st3, x_st4, x_st5, x_isC, x_isDct, x_getK, x_pthK, x_onL, x_pthL, x_pfl, x_pky, x_fldO, x_kyO, x_join, x_valsU0, x_val1, x_val2, x_val0, x_put1, x_put2, x_put0, x_lk1, x_lk2, x_lk0, x_pf1, x_pf2, x_pf0, x_sz1, x_sz2, x_k1000, x_mulL, x_mulR, x_mulM, x_divB, x_powB, x_nz, x_rgB, x_rgB2, x_dispK, x_keys0, x_keysS, x_keysI, x_omap, x_at1, x_at2, x_at3, x_at4, x_at5, x_all_r, x_any_r, kf, List.getElem?_cons_zero, List.getElem?_cons_succ, List.set_cons_zero, List.set_cons_succ, List.set_nil, List.map_cons, List.map_nil, List.cons_append, List.nil_append, List.length_cons, List.length_nil, true_and, and_true, pk, List.filterMap_cons, List.filterMap_nil, Nat.reduceAdd, Nat.reduceSub, Nat.reduceEqDiff, uKey, List.foldl_cons, List.foldl_nil, decide_true, decide_false, Nat.add_assoc, Nat.reduceLeDiff, x_hleft, x_hat0, x_hatj, x_hself, x_hput, x_hsetL, x_hset0, x_hsetj, x_hss, x_hlenS, x_hlenA, x_hass, $ls,*])
local macro_rules | `(tactic| dsimp! only [$ls,*]) => `(tactic| simp -implicitDefEqProofs (disch := (first | assumption | decide | rfl | omega | (simp only [List.length_append, List.length_set, List.length_cons, List.length_nil] <;> omega) | fail)) only [↓x_body, ↓x_var, ↓x_c, ↓x_un, ↓x_bin, ↓x_callB, ↓x_nil, ↓x_cons, ↓x_b, ↓x_tr, ↓x_and, ↓x_or, ↓x_not, ↓x_ifE, ↓x_andV, ↓x_orV, ↓x_notV, ↓x_chain, ↓x_next, ↓x_seq, ↓x_drop, ↓x_ret, ↓x_retN, ↓x_never, ↓x_brk, ↓x_ct, ↓x_asg, ↓x_gN, ↓x_par, ↓x_par3, ↓x_sl, ↓x_pn, ↓x_ps, ↓x_tup, ↓x_lst, ↓x_dict0, ↓x_pairs0, ↓x_pairs1, ↓x_disp, ↓x_setF, ↓x_gSet, ↓x_call, ↓x_callK, ↓x_meth, ↓x_methK, ↓x_make, ↓x_makeK, ↓x_it, ↓x_for, ↓x_while, ↓x_rng1, ↓x_rng2, ↓x_enumL, ↓x_zip, ↓x_lc, ↓x_dc, ↓x_pop2, ↓x_lkE, ↓x_lkS, ↓x_lkI, ↓x_pv1, ↓x_pv2, ↓x_pv3, ↓x_yes, ↓x_bm, ↓x_get2, ↓x_lstRg1, x_selt, x_self, x_onl, x_ond, x_oni, x_onU, x_slot, x_boolK, x_tru_non, x_tru_bl, x_tru_int, x_tru_tup, x_tru_ref, x_rep0, x_repS, x_add_i, x_add_t, x_add_s, x_add_l, x_sub, x_mul_i, x_mul_t, x_mul_l, x_div, x_mod, x_pow, x_neg, x_cmp, x_eq_i, x_ne_i, x_eq_s, x_ne_s, x_eq_b, x_is, x_isN1, x_isN2, x_isN3, x_isN4, x_isN5, x_ix_t, x_ix_f, x_ix_ri, x_ix_rs, x_in_r, x_in_t, x_intK, x_sl_t, x_sl_f, x_sl_r, x_rev, x_list_r, x_fld, x_setFK, x_set_i, x_set_s, x_len_t, x_len_f, x_len_r, x_int_i, x_list_t, x_list_f, x_tuple_t, x_tuple_r, x_max2, x_min2, x_insOf, x_gTup, x_gTupF, x_gTupR, x_gCons, x_gNil, x_row_t, x_row_f, x_row_r, x_int2K, x_isTupR, x_wipe0, x_wipe1, x_isLst, x_append, x_extend, x_extendT, x_pop0, x_popI, x_dictC, x_sorted, x_sortedT, x_sortK, x_sortTK, x_int_b, x_isT, x_ty_non, x_ty_bl, x_ty_int, x_ty_str, x_ty_tup, x_st1, x_st2, x_st3, x_st4, x_st5, x_isC, x_isDct, x_getK, x_pthK, x_onL, x_pthL, x_pfl, x_pky, x_fldO, x_kyO, x_join, x_valsU0, x_val1, x_val2, x_val0, x_put1, x_put2, x_put0, x_lk1, x_lk2, x_lk0, x_pf1, x_pf2, x_pf0, x_sz1, x_sz2, x_k1000, x_mulL, x_mulR, x_mulM, x_divB, x_powB, x_nz, x_rgB, x_rgB2, x_dispK, x_keys0, x_keysS, x_keysI, x_omap, x_at1, x_at2, x_at3, x_at4, x_at5, x_all_r, x_any_r, kf, List.getElem?_cons_zero, List.getElem?_cons_succ, List.set_cons_zero, List.set_cons_succ, List.set_nil, List.map_cons, List.map_nil, List.cons_append, List.nil_append, List.length_cons, List.length_nil, true_and, and_true, pk, List.filterMap_cons, List.filterMap_nil, Nat.reduceAdd, Nat.reduceSub, Nat.reduceEqDiff, uKey, List.foldl_cons, List.foldl_nil, decide_true, decide_false, Nat.add_assoc, Nat.reduceLeDiff, x_hleft, x_hat0, x_hatj, x_hself, x_hput, x_hsetL, x_hset0, x_hsetj, x_hss, x_hlenS, x_hlenA, x_hass, $ls,*])
section
variable {c : Cl} {mh mh' : MH} {P : MK} {k : KM} {dk ck di st wt nw ii sw wl : Nat} {S K N R : Int} {E : List (List Int)} {q : Nat}
theorem Dsk.writeX (d : Dsk c mh di st wt nw S K N R E q) {p : Int} {b : List Int} (h0 : 0 ≤ p) (h1 : p < E.length) (hb : Gb b) (hq : q < 1000000)
    (k : ∀ mh', Fr [wt, nw] mh mh' → Dsk c mh' di st wt nw S K N R (E.set p.toNat b) (q + 1) → (∀ us, mh[wt]? = some (.lst us) → mh'[wt]? = some (.lst (us ++ [.tup [.int p, tU b]]))) → P .non mh') : w_Disk_write c [.ref di, .int p, tU b] mh P := by
  have d0 := d
  obtain ⟨n1, n2, n3, n4, n5⟩ := d.nes
  obtain ⟨j, rfl⟩ := Int.eq_ofNat_of_zero_le h0
  have hj : j < E.length := by omega
  unfold w_Disk_write
  refine apM (F := P) ?_
  simp_all! only [d0.check h0 h1, d0.ni (m := "_check_place") (by decide), y_isblock hb, Bool.not_true]
  have f1 : Fr [wt, nw] mh (mh ++ [.lst (b.map fun _ => U.bl true)]) := Fr.app
  have d1 := d0.fr (X := []) (mh' := mh ++ [.lst (b.map fun _ => U.bl true)]) Fr.app (by simp) (by simp) (by simp) (by simp)
  have fk : ∀ us, mh[wt]? = some (.lst us) → (mh ++ [.lst (b.map fun _ => U.bl true)])[wt]? = some (.lst us) := fun us h => get_app h
  clear d d0
  generalize (mh ++ [.lst (b.map fun _ => U.bl true)]) = mh1 at f1 d1 fk
  have d0 := d1
  obtain ⟨o, ne, B, ws, kvs, a1, a2, a3, a4, l1, l2, l3, a5, a6⟩ := d1
  have lw := lt_of a2
  have ln := lt_of a3
  have sz : q + 1 < sizeLine := Nat.lt_of_le_of_lt (show q + 1 ≤ 1000000 by omega) (by decide)
  have s1 : ws.length < sizeLine := by omega
  have s2 : kvs.length < sizeLine := by omega
  simp_all! only [d0.ni (m := "_burn") (by decide), d0.burn, o, a1, a2, a3, fc__waiting, fc__newest, List.mem_cons, List.not_mem_nil, or_false, List.length_map, s1, s2]
  generalize e1 : mh1.set wt _ = mh2
  generalize e2 : mh2.set nw _ = mh3
  refine k mh3 (f1.trans ((fr_set e1 (by simp)).trans (fr_set e2 (by simp)))) ⟨of_put e2 (of_put e1 o n2.symm) n3.symm, ne, B, ws ++ [(j, b)], putU kvs (.inl (j : Int)) (tU b), of_put e2 (of_put e1 a1 ne.symm) n4.symm, ?_, of_set e2 (by rw [len_set e1]; exact ln), by simp [a4], by simp <;> omega, Nat.le_trans put_len (by omega), ?_, ?_, ?_⟩ fun us hu => (by
    have h1 := fk us hu
    rw [a2] at h1
    cases h1
    rw [of_put e2 (of_set e1 lw) n5.symm])
  · rw [of_put e2 (of_set e1 lw) n5.symm]
    simp
  · intro p hp
    simp at hp
    rcases hp with hp | rfl
    · simpa using l3 p hp
    · simpa using hj
  · rw [List.foldl_append, ← a5]
    simp
  · intro i hi
    simp at hi
    rw [val_put]
    by_cases e : (Sum.inl (j : Int) : Key) = Sum.inl (i : Int)
    · rw [if_pos e]
      have : j = i := by
        have := Sum.inl.inj e
        omega
      subst this
      simp [hi]
    · rw [if_neg e]
      have ne : j ≠ i := fun z => e (by rw [z])
      have h := a6 i hi
      simp only [Int.toNat_natCast]
      rw [List.getElem?_set_ne ne]
      exact h
abbrev wU (p : Nat × List Int) : U := .tup [.int (p.1 : Nat), tU p.2]
abbrev fW (ws : List (Nat × List Int)) (B : List (List Int)) : List (List Int) := ws.foldl (fun B p => B.set p.1 p.2) B
/-- the two disks, blocks and waiting writes told -/
structure X3 (c : Cl) (mh : MH) (dk ck di st wt nw ii sw wl : Nat) (S K N R : Int) (B : List (List Int)) (ws : List (Nat × List Int)) (q : Nat) : Prop where
  w : W3 c mh dk ck di st wt nw ii sw wl S K N R (fW ws B) q
  hs : mh[st]? = some (.lst (B.map tU))
  hw : mh[wt]? = some (.lst (ws.map wU))
  hS : mh[sw]? = some (.lst (B.map tU))
  hW : mh[wl]? = some (.lst (ws.map wU))
  g : ∀ b ∈ B, Gb b
  gw : ∀ p ∈ ws, p.1 < B.length ∧ Gb p.2
theorem X3.fr {B : List (List Int)} {ws : List (Nat × List Int)} (x : X3 c mh dk ck di st wt nw ii sw wl S K N R B ws q) {X : List Nat} (f : Fr X mh mh') (h : ∀ y ∈ ft dk ck di st wt nw ii sw wl, y ∉ X) : X3 c mh' dk ck di st wt nw ii sw wl S K N R B ws q :=
  ⟨x.w.fr f h, f.get x.hs (h _ (by simp)), f.get x.hw (h _ (by simp)), f.get x.hS (h _ (by simp)), f.get x.hW (h _ (by simp)), x.g, x.gw⟩
theorem X3.grow {B : List (List Int)} {ws : List (Nat × List Int)} (x : X3 c mh dk ck di st wt nw ii sw wl S K N R B ws q) (f : Fr [] mh mh') : X3 c mh' dk ck di st wt nw ii sw wl S K N R B ws q := x.fr f fun _ _ h => by cases h
theorem X3.draw {B : List (List Int)} {ws : List (Nat × List Int)} (x : X3 c mh dk ck di st wt nw ii sw wl S K N R B ws q) (f : Fr [dk, ck] mh mh') (D : Dk mh' dk ck) : X3 c mh' dk ck di st wt nw ii sw wl S K N R B ws q := by
  have o : ∀ y ∈ [di, st, wt, nw, ii, sw, wl], y ∉ [dk, ck] := fun y hy => out_of (X := [dk, ck]) x.w.nd hy
  exact ⟨x.w.draw f D, f.get x.hs (o _ (by simp)), f.get x.hw (o _ (by simp)), f.get x.hS (o _ (by simp)), f.get x.hW (o _ (by simp)), x.g, x.gw⟩
theorem X3.mono {B : List (List Int)} {ws : List (Nat × List Int)} (x : X3 c mh dk ck di st wt nw ii sw wl S K N R B ws q) {q' : Nat} (h : q ≤ q') : X3 c mh dk ck di st wt nw ii sw wl S K N R B ws q' :=
  ⟨⟨x.w.D, x.w.d.mono h, x.w.l.mono h, x.w.z, x.w.g, x.w.nd⟩, x.hs, x.hw, x.hS, x.hW, x.g, x.gw⟩
theorem X3.force {B : List (List Int)} {ws : List (Nat × List Int)} (x : X3 c mh dk ck di st wt nw ii sw wl S K N R B ws q)
    (k : ∀ wt' nw' mh', Fr [di, st] mh mh' → mh.length ≤ wt' → mh.length ≤ nw' → W3 c mh' dk ck di st wt' nw' ii sw wl S K N R (fW ws B) q → mh'[st]? = some (.lst ((fW ws B).map tU)) → mh'[wt']? = some (.lst []) → P .non mh') : w_Disk_force c [.ref di] mh P := by
  refine x.w.force0 fun wt' nw' mh' f l1 l2 w' d => ?_
  obtain ⟨o, ne, B', ws', kvs, a1, a2, a3, a4, l1', l2', l3', a5, a6⟩ := d
  have : ws' = [] := List.eq_nil_of_length_eq_zero (by omega)
  subst this
  have : fW ws B = B' := a5
  exact k wt' nw' mh' f l1 l2 w' (by rw [this]; exact a1) a2
theorem W3.forcedX (w : W3 c mh dk ck di st wt nw ii sw wl S K N R E q) (hs : mh[st]? = some (.lst (E.map tU))) (hw : mh[wt]? = some (.lst []))
    (k : ∀ wl' mh', Fr [ii, sw] mh mh' → mh.length ≤ wl' → X3 c mh' dk ck di st wt nw ii sw wl' S K N R E [] q → P .non mh') : w__law_forced c [.ref ii] mh P := by
  refine w.forced0 fun wl' mh' f l w' d => ?_
  obtain ⟨o, B', ws', a1, a2, a3, a4, a5, a6⟩ := d
  have : ws' = [] := List.eq_nil_of_length_eq_zero (by omega)
  subst this
  have eE : E = B' := a6
  have nd := w.nd
  have o : ∀ y ∈ [st, wt], y ∉ [ii, sw] := fun y hy hz => by
    simp only [List.nodup_cons, List.mem_cons, List.not_mem_nil, or_false, not_or] at nd hy hz
    grind
  exact k wl' mh' f l ⟨w', f.get hs (o _ (by simp)), f.get hw (o _ (by simp)), by rw [eE]; exact a1, a2, w'.g, fun p hp => by cases hp⟩
end
end Tk13

namespace Tk13
open PySem PySem.Spec PyProof.Rows L2 Tk Sm
local macro_rules | `(tactic| simp_all! only [$ls,*]) => `(tactic| simp -implicitDefEqProofs (disch := (first | assumption | decide | rfl | omega | (simp only [List.length_append, List.length_set, List.length_cons, List.length_nil] <;> omega) | fail)) only [↓x_body, ↓x_var, ↓x_c, ↓x_un, ↓x_bin, ↓x_callB, ↓x_nil, ↓x_cons, ↓x_b, ↓x_tr, ↓x_and, ↓x_or, ↓x_not, ↓x_ifE, ↓x_andV, ↓x_orV, ↓x_notV, ↓x_chain, ↓x_next, ↓x_seq, ↓x_drop, ↓x_ret, ↓x_retN, ↓x_ifS, ↓x_never, ↓x_brk, ↓x_ct, ↓x_asg, ↓x_gN, ↓x_par, ↓x_par3, ↓x_sl, ↓x_pn, ↓x_ps, ↓x_tup, ↓x_lst, ↓x_dict0, ↓x_pairs0, ↓x_pairs1, ↓x_disp, ↓x_setF, ↓x_gSet, ↓x_call, ↓x_callK, ↓x_meth, ↓x_methK, ↓x_make, ↓x_makeK, ↓x_it, ↓x_for, ↓x_while, ↓x_rng1, ↓x_rng2, ↓x_enumL, ↓x_zip, ↓x_lc, ↓x_dc, ↓x_pop2, ↓x_lkE, ↓x_lkS, ↓x_lkI, ↓x_pv1, ↓x_pv2, ↓x_pv3, ↓x_yes, ↓x_bm, ↓x_get2, ↓x_lstRg1, x_selt, x_self, x_onl, x_ond, x_oni, x_onU, x_slot, x_boolK, x_tru_non, x_tru_bl, x_tru_int, x_tru_tup, x_tru_ref, x_rep0, x_repS, x_add_i, x_add_t, x_add_s, x_add_l, x_sub, x_mul_i, x_mul_t, x_mul_l, x_div, x_mod, x_pow, x_neg, x_cmp, x_eq_i, x_ne_i, x_eq_s, x_ne_s, x_eq_b, x_is, x_isN1, x_isN2, x_isN3, x_isN4, x_isN5, x_ix_t, x_ix_f, x_ix_ri, x_ix_rs, x_in_r, x_in_t, x_intK, x_sl_t, x_sl_f, x_sl_r, x_rev, x_list_r, x_fld, x_setFK, x_set_i, x_set_s, x_len_t, x_len_f, x_len_r, x_int_i, x_list_t, x_list_f, x_tuple_t, x_tuple_r, x_max2, x_min2, x_insOf, x_gTup, x_gTupF, x_gTupR, x_gCons, x_gNil, x_row_t, x_row_f, x_row_r, x_int2K, x_isTupR, x_wipe0, x_wipe1, x_isLst, x_append, x_extend, x_extendT, x_pop0, x_popI, x_dictC, x_sorted, x_sortedT, x_sortK, x_sortTK, x_int_b, x_isT, x_ty_non, x_ty_bl, x_ty_int, x_ty_str, x_ty_tup, x_st1, x_st2, x_st3, x_st4, x_st5, x_isC, x_isDct, x_getK, x_pthK, x_onL, x_pthL, x_pfl, x_pky, x_fldO, x_kyO, x_join, x_valsU0, x_val1, x_val2, x_val0, x_put1, x_put2, x_put0, x_lk1, x_lk2, x_lk0, x_pf1, x_pf2, x_pf0, x_sz1, x_sz2, x_k1000, x_mulL, x_mulR, x_mulM, x_divB, x_powB, x_nz, x_rgB, x_rgB2, x_dispK, x_keys0, x_keysS, x_keysI, x_omap, x_at1, x_at2, x_at3, x_at4, x_at5, x_all_r, x_any_r, kf, List.getElem?_cons_zero, List.getElem?_cons_succ, List.set_cons_zero, List.set_cons_succ, List.set_nil, List.map_cons, List.map_nil, List.cons_append, List.nil_append, List.length_cons, List.length_nil, true_and, and_true, pk, List.filterMap_cons, List.filterMap_nil, Nat.reduceAdd, Nat.reduceSub, Nat.reduceEqDiff, uKey, List.foldl_cons, List.foldl_nil, decide_true, decide_false, Nat.add_assoc, Nat.reduceLeDiff, x_hleft, x_hat0, x_hatj, x_hself, x_hput, x_hsetL, x_hset0, x_hsetj, x_hss, x_hlenS, x_hlenA, x_hass, $ls,*])
local macro_rules | `(tactic| dsimp! only [$ls,*]) => `(tactic| simp -implicitDefEqProofs (disch := (first | assumption | decide | rfl | omega | (simp only [List.length_append, List.length_set, List.length_cons, List.length_nil] <;> omega) | fail)) only [↓x_body, ↓x_var, ↓x_c, ↓x_un, ↓x_bin, ↓x_callB, ↓x_nil, ↓x_cons, ↓x_b, ↓x_tr, ↓x_and, ↓x_or, ↓x_not, ↓x_ifE, ↓x_andV, ↓x_orV, ↓x_notV, ↓x_chain, ↓x_next, ↓x_seq, ↓x_drop, ↓x_ret, ↓x_retN, ↓x_never, ↓x_brk, ↓x_ct, ↓x_asg, ↓x_gN, ↓x_par, ↓x_par3, ↓x_sl, ↓x_pn, ↓x_ps, ↓x_tup, ↓x_lst, ↓x_dict0, ↓x_pairs0, ↓x_pairs1, ↓x_disp, ↓x_setF, ↓x_gSet, ↓x_call, ↓x_callK, ↓x_meth, ↓x_methK, ↓x_make, ↓x_makeK, ↓x_it, ↓x_for, ↓x_while, ↓x_rng1, ↓x_rng2, ↓x_enumL, ↓x_zip, ↓x_lc, ↓x_dc, ↓x_pop2, ↓x_lkE, ↓x_lkS, ↓x_lkI, ↓x_pv1, ↓x_pv2, ↓x_pv3, ↓x_yes, ↓x_bm, ↓x_get2, ↓x_lstRg1, x_selt, x_self, x_onl, x_ond, x_oni, x_onU, x_slot, x_boolK, x_tru_non, x_tru_bl, x_tru_int, x_tru_tup, x_tru_ref, x_rep0, x_repS, x_add_i, x_add_t, x_add_s, x_add_l, x_sub, x_mul_i, x_mul_t, x_mul_l, x_div, x_mod, x_pow, x_neg, x_cmp, x_eq_i, x_ne_i, x_eq_s, x_ne_s, x_eq_b, x_is, x_isN1, x_isN2, x_isN3, x_isN4, x_isN5, x_ix_t, x_ix_f, x_ix_ri, x_ix_rs, x_in_r, x_in_t, x_intK, x_sl_t, x_sl_f, x_sl_r, x_rev, x_list_r, x_fld, x_setFK, x_set_i, x_set_s, x_len_t, x_len_f, x_len_r, x_int_i, x_list_t, x_list_f, x_tuple_t, x_tuple_r, x_max2, x_min2, x_insOf, x_gTup, x_gTupF, x_gTupR, x_gCons, x_gNil, x_row_t, x_row_f, x_row_r, x_int2K, x_isTupR, x_wipe0, x_wipe1, x_isLst, x_append, x_extend, x_extendT, x_pop0, x_popI, x_dictC, x_sorted, x_sortedT, x_sortK, x_sortTK, x_int_b, x_isT, x_ty_non, x_ty_bl, x_ty_int, x_ty_str, x_ty_tup, x_st1, x_st2, x_st3, x_st4, x_st5, x_isC, x_isDct, x_getK, x_pthK, x_onL, x_pthL, x_pfl, x_pky, x_fldO, x_kyO, x_join, x_valsU0, x_val1, x_val2, x_val0, x_put1, x_put2, x_put0, x_lk1, x_lk2, x_lk0, x_pf1, x_pf2, x_pf0, x_sz1, x_sz2, x_k1000, x_mulL, x_mulR, x_mulM, x_divB, x_powB, x_nz, x_rgB, x_rgB2, x_dispK, x_keys0, x_keysS, x_keysI, x_omap, x_at1, x_at2, x_at3, x_at4, x_at5, x_all_r, x_any_r, kf, List.getElem?_cons_zero, List.getElem?_cons_succ, List.set_cons_zero, List.set_cons_succ, List.set_nil, List.map_cons, List.map_nil, List.cons_append, List.nil_append, List.length_cons, List.length_nil, true_and, and_true, pk, List.filterMap_cons, List.filterMap_nil, Nat.reduceAdd, Nat.reduceSub, Nat.reduceEqDiff, uKey, List.foldl_cons, List.foldl_nil, decide_true, decide_false, Nat.add_assoc, Nat.reduceLeDiff, x_hleft, x_hat0, x_hatj, x_hself, x_hput, x_hsetL, x_hset0, x_hsetj, x_hss, x_hlenS, x_hlenA, x_hass, $ls,*])
section
variable {c : Cl} {mh mh' : MH} {P : MK} {k : KM} {dk ck di st wt nw ii sw wl : Nat} {S K N R : Int} {E : List (List Int)} {q : Nat}
theorem mem_setI' {α : Type} {xs : List α} {i : Nat} {v x : α} (h : x ∈ xs.set i v) : x = v ∨ x ∈ xs := by
  rcases List.mem_or_eq_of_mem_set h with h | h
  · exact .inr h
  · exact .inl h
/-- a cut: what stands then -/
def cutStep (B : List (List Int)) (p : (Nat × List Int) × Int) : List (List Int) := B.set p.1.1 (p.1.2.take p.2.toNat ++ (B.getD p.1.1 []).drop p.2.toNat)
def cutB (B : List (List Int)) (ws : List (Nat × List Int)) (ks : List Int) : List (List Int) := (ws.zip ks).foldl cutStep B
theorem cutF_ok : ∀ (zs : List ((Nat × List Int) × Int)) (B : List (List Int)), (∀ b ∈ B, Gb b) → (∀ p ∈ zs, p.1.1 < B.length ∧ Gb p.1.2 ∧ 0 ≤ p.2 ∧ p.2 ≤ 32) → (zs.foldl cutStep B).length = B.length ∧ ∀ b ∈ zs.foldl cutStep B, Gb b
  | [], B, g, _ => ⟨rfl, g⟩
  | p :: zs, B, g, h => by
    obtain ⟨h1, h2, h3, h4⟩ := h p List.mem_cons_self
    have hl : (cutStep B p).length = B.length := by simp [cutStep]
    obtain ⟨a, b⟩ := cutF_ok zs (cutStep B p) (fun b hb => by
      rcases mem_setI' hb with rfl | hb
      · have e : B.getD p.1.1 [] = B[p.1.1] := by rw [List.getD_eq_getElem?_getD, List.getElem?_eq_getElem h1]; rfl
        rw [e]
        have g1 := g _ (List.getElem_mem h1)
        have l1 := g1.l
        have l2 := h2.l
        refine ⟨by simp <;> omega, fun x hx => ?_⟩
        rcases List.mem_append.mp hx with hx | hx
        · exact h2.w x (List.mem_of_mem_take hx)
        · exact g1.w x (List.mem_of_mem_drop hx)
      · exact g b hb) (fun p' hp => by rw [hl]; exact h p' (List.mem_cons_of_mem _ hp))
    exact ⟨by rw [List.foldl_cons, a, hl], b⟩
theorem zw : ∀ (ws : List (Nat × List Int)) (ks : List Int), List.zipWith (fun a b => U.tup [a, b]) (ws.map wU) (iU ks) = (ws.zip ks).map fun p => U.tup [wU p.1, .int p.2]
  | [], ks => by simp
  | _ :: _, [] => by simp
  | p :: ws, x :: ks => by
    have := zw ws ks
    simp only [iU, List.map_cons, List.zipWith_cons_cons, List.zip_cons_cons] at this ⊢
    rw [this]
theorem y_iskeep {ws : List Int} (h : ∀ x ∈ ws, 0 ≤ x ∧ x ≤ 32) (hl : ws.length < sizeLine) : ap (w_is_keep c [tU ws] mh) = k.f (.bl true) (mh ++ [.lst (ws.map fun _ => .bl true)]) := by
  unfold w_is_keep
  simp_all! only [k_BLOCK_WORDS, y_arewithin h hl]
theorem Dsk.cut {B : List (List Int)} {ws : List (Nat × List Int)} {ks : List Int} (d : Dsk c mh di st wt nw S K N R E q) (hs : mh[st]? = some (.lst (B.map tU))) (hw : mh[wt]? = some (.lst (ws.map wU))) (g : ∀ b ∈ B, Gb b) (gw : ∀ p ∈ ws, p.1 < B.length ∧ Gb p.2)
    (gk : ∀ x ∈ ks, 0 ≤ x ∧ x ≤ 32) (hl : ks.length < 1000)
    (k : ∀ wt' nw' mh', Fr [di, st] mh mh' → mh.length ≤ wt' → mh.length ≤ nw' → wt' ≠ nw' → Dsk c mh' di st wt' nw' S K N R (cutB B ws ks) 0 → mh'[st]? = some (.lst ((cutB B ws ks).map tU)) → mh'[wt']? = some (.lst []) → P .non mh') : w_Disk_cut c [.ref di, tU ks] mh P := by
  have d0 := d
  obtain ⟨n1, n2, n3, n4, n5⟩ := d.nes
  have ne := d.ne
  have o := d.o
  have sz : (1000 : Nat) < sizeLine := by decide
  have hl' : ks.length < sizeLine := by omega
  unfold w_Disk_cut
  refine apM (F := P) ?_
  simp_all! only [y_iskeep gk hl', Bool.not_true]
  have hs := get_app (t := [.lst (ks.map fun _ => U.bl true)]) hs
  have hw := get_app (t := [.lst (ks.map fun _ => U.bl true)]) hw
  have o := get_app (t := [.lst (ks.map fun _ => U.bl true)]) o
  have f0 : Fr [] mh (mh ++ [.lst (ks.map fun _ => U.bl true)]) := Fr.app
  have lm : mh.length ≤ (mh ++ [MO.lst (ks.map fun _ => U.bl true)]).length := by simp
  generalize (mh ++ [MO.lst (ks.map fun _ => U.bl true)]) = mh0 at *
  simp_all! only [o, hw, fc__waiting, fc__standing, fc__newest, fc__fuse, List.mem_cons, List.not_mem_nil, or_false]
  rw [zw]
  refine ⟨rfl, ?_⟩
  have hz : ∀ p ∈ ws.zip ks, p.1.1 < B.length ∧ Gb p.1.2 ∧ 0 ≤ p.2 ∧ p.2 ≤ 32 := fun p hp => by
    have h1 := gw _ (List.of_mem_zip hp).1
    have h2 := gk _ (List.of_mem_zip hp).2
    exact ⟨h1.1, h1.2, h2.1, h2.2⟩
  refine forA_ind (fun i sl mh' => ∃ x y z : Option U, sl = [some (.ref di), some (tU ks), x, y, z] ∧ Fr [st] mh0 mh' ∧ mh'[st]? = some (.lst ((((ws.zip ks).take i).foldl cutStep B).map tU))) ?_ ?_ ?_
  · exact ⟨none, none, none, rfl, .refl, by simpa using hs⟩
  · rintro i u sl mh1 q hu ⟨x, y, z, rfl, f1, hs1⟩ hq
    have hw1 := f1.get hw (by simp; exact ne.symm)
    have ho1 := f1.get o (by simp; exact n1)
    refine ⟨⟨hw1, trivial⟩, ?_⟩
    rw [List.getElem?_map, Option.map_eq_some_iff] at hu
    obtain ⟨⟨⟨p, b⟩, m⟩, hp, rfl⟩ := hu
    have hl1 := lt_of hs1
    obtain ⟨hz1, hz2, hz3, hz4⟩ := hz _ (List.mem_of_getElem? hp)
    have ok := cutF_ok ((ws.zip ks).take i) B g fun p hp => hz p (List.mem_of_mem_take hp)
    generalize hB : ((ws.zip ks).take i).foldl cutStep B = Bi at *
    have hx : ixN (Bi.map tU).length (p : Int) = some p := by
      rw [ixN_nat (by omega) (by rw [List.length_map, ok.1]; simpa using hz1)]
      simp
    have hat : atI (Bi.map tU) (p : Int) = some (tU (Bi.getD p [])) := by
      rw [at_map (by omega) (by rw [ok.1]; simpa using hz1)]
      have : p < Bi.length := by rw [ok.1]; exact hz1
      simp [this]
    have e1 : cutU (iU b) none (some m) = iU (b.take m.toNat) := by rw [cut_to hz3]; simp [List.map_take]
    have e2 : cutU (iU (Bi.getD p [])) (some m) none = iU ((Bi.getD p []).drop m.toNat) := by rw [cut_from hz3]; simp [List.map_drop]
    simp_all! only [ho1, hs1, fc__standing, List.mem_cons, List.not_mem_nil, or_false, hx, hat, e1, e2]
    have e3 : iU (b.take m.toNat) ++ iU ((Bi.getD p []).drop m.toNat) = iU (b.take m.toNat ++ (Bi.getD p []).drop m.toNat) := by simp
    rw [e3]
    have lb := hz2.l
    simp only at lb
    have lB : (Bi.getD p []).length = 32 := by
      have : p < Bi.length := by rw [ok.1]; exact hz1
      rw [List.getD_eq_getElem?_getD, List.getElem?_eq_getElem this]
      exact (ok.2 _ (List.getElem_mem _)).l
    generalize e4 : mh1.set st _ = mh2
    refine ⟨by simp only [List.length_map, List.length_take, List.length_drop]; omega, hq _ _ ⟨_, _, _, rfl, f1.trans (fr_set e4 (by simp)), ?_⟩⟩
    rw [of_set e4 hl1, List.take_succ, hp]
    simp only [Option.toList_some, List.foldl_append, List.foldl_cons, List.foldl_nil, hB, cutStep, List.map_set]
  · rintro sl mh1 ⟨x, y, z, rfl, f1, hs1⟩
    have hw1 := f1.get hw (by simp; exact ne.symm)
    have ho := f1.get o (by simp; exact n1)
    refine ⟨⟨hw1, trivial⟩, ?_⟩
    have lo := lt_of ho
    have iO : Sm.insOf c.Disk "_wait_for_none" (.ref di) mh1 = True := by
      simp_all! only [ho]
    have ld : st < mh1.length := lt_of hs1
    simp_all! only [iO]
    unfold w_Disk__wait_for_none
    simp_all! only [ho, fc__waiting, fc__newest, fc__fuse, List.mem_cons, List.not_mem_nil, or_false]
    rw [List.length_map, List.take_of_length_le (Nat.le_refl _)] at hs1
    generalize e1 : mh1.set di _ = mh2
    have hs2 := of_put e1 hs1 n1
    have f2 : Fr [di, st] mh0 mh2 := (f1.mono (by simp)).trans (fr_set e1 (by simp))
    have e3 : mh2.length = mh1.length := len_set e1
    have lf := f2.1
    have hs3 : (mh2 ++ [MO.lst [], MO.dK []])[st]? = some (.lst ((cutB B ws ks).map tU)) := get_app hs2
    have hw3 : (mh2 ++ [MO.lst [], MO.dK []])[mh1.length]? = some (.lst []) := by rw [← e3]; exact x_hat0 rfl
    refine k mh1.length (mh1.length + 1) _ ((f0.up.trans f2).trans Fr.app) (by omega) (by omega) (by omega) ⟨get_app (of_set e1 lo), by omega, cutB B ws ks, [], [], hs3, hw3, ?_, rfl, by simp, by simp, by simp, rfl, fun i hi => rfl⟩ hs3 hw3
    rw [← e3, x_hatj rfl]; rfl
end
end Tk13

namespace Tk13
open PySem PySem.Spec PyProof.Rows L2 Tk Sm
local macro_rules | `(tactic| simp_all! only [$ls,*]) => `(tactic| simp -implicitDefEqProofs (disch := (first | assumption | decide | rfl | omega | (simp only [List.length_append, List.length_set, List.length_cons, List.length_nil] <;> omega) | fail)) only [↓x_body, ↓x_var, ↓x_c, ↓x_un, ↓x_bin, ↓x_callB, ↓x_nil, ↓x_cons, ↓x_b, ↓x_tr, ↓x_and, ↓x_or, ↓x_not, ↓x_ifE, ↓x_andV, ↓x_orV, ↓x_notV, ↓x_chain, ↓x_next, ↓x_seq, ↓x_drop, ↓x_ret, ↓x_retN, ↓x_ifS, ↓x_never, ↓x_brk, ↓x_ct, ↓x_asg, ↓x_gN, ↓x_par, ↓x_par3, ↓x_sl, ↓x_pn, ↓x_ps, ↓x_tup, ↓x_lst, ↓x_dict0, ↓x_pairs0, ↓x_pairs1, ↓x_disp, ↓x_setF, ↓x_gSet, ↓x_call, ↓x_callK, ↓x_meth, ↓x_methK, ↓x_make, ↓x_makeK, ↓x_it, ↓x_for, ↓x_while, ↓x_rng1, ↓x_rng2, ↓x_enumL, ↓x_zip, ↓x_lc, ↓x_dc, ↓x_pop2, ↓x_lkE, ↓x_lkS, ↓x_lkI, ↓x_pv1, ↓x_pv2, ↓x_pv3, ↓x_yes, ↓x_bm, ↓x_get2, ↓x_lstRg1, x_selt, x_self, x_onl, x_ond, x_oni, x_onU, x_slot, x_boolK, x_tru_non, x_tru_bl, x_tru_int, x_tru_tup, x_tru_ref, x_rep0, x_repS, x_add_i, x_add_t, x_add_s, x_add_l, x_sub, x_mul_i, x_mul_t, x_mul_l, x_div, x_mod, x_pow, x_neg, x_cmp, x_eq_i, x_ne_i, x_eq_s, x_ne_s, x_eq_b, x_is, x_isN1, x_isN2, x_isN3, x_isN4, x_isN5, x_ix_t, x_ix_f, x_ix_ri, x_ix_rs, x_in_r, x_in_t, x_intK, x_sl_t, x_sl_f, x_sl_r, x_rev, x_list_r, x_fld, x_setFK, x_set_i, x_set_s, x_len_t, x_len_f, x_len_r, x_int_i, x_list_t, x_list_f, x_tuple_t, x_tuple_r, x_max2, x_min2, x_insOf, x_gTup, x_gTupF, x_gTupR, x_gCons, x_gNil, x_row_t, x_row_f, x_row_r, x_int2K, x_isTupR, x_wipe0, x_wipe1, x_isLst, x_append, x_extend, x_extendT, x_pop0, x_popI, x_dictC, x_sorted, x_sortedT, x_sortK, x_sortTK, x_int_b, x_isT, x_ty_non, x_ty_bl, x_ty_int, x_ty_str, x_ty_tup, x_st1, x_st2, x_st3, x_st4, x_st5, x_isC, x_isDct, x_getK, x_pthK, x_onL, x_pthL, x_pfl, x_pky, x_fldO, x_kyO, x_join, x_valsU0, x_val1, x_val2, x_val0, x_put1, x_put2, x_put0, x_lk1, x_lk2, x_lk0, x_pf1, x_pf2, x_pf0, x_sz1, x_sz2, x_k1000, x_mulL, x_mulR, x_mulM, x_divB, x_powB, x_nz, x_rgB, x_rgB2, x_dispK, x_keys0, x_keysS, x_keysI, x_omap, x_at1, x_at2, x_at3, x_at4, x_at5, x_all_r, x_any_r, kf, List.getElem?_cons_zero, List.getElem?_cons_succ, List.set_cons_zero, List.set_cons_succ, List.set_nil, List.map_cons, List.map_nil, List.cons_append, List.nil_append, List.length_cons, List.length_nil, true_and, and_true, pk, List.filterMap_cons, List.filterMap_nil, Nat.reduceAdd, Nat.reduceSub, Nat.reduceEqDiff, uKey, List.foldl_cons, List.foldl_nil, decide_true, decide_false, Nat.add_assoc, Nat.reduceLeDiff, x_hleft, x_hat0, x_hatj, x_hself, x_hput, x_hsetL, x_hset0, x_hsetj, x_hss, x_hlenS, x_hlenA, x_hass, $ls,*])
local macro_rules | `(tactic| dsimp! only [$ls,*]) => `(tactic| simp -implicitDefEqProofs (disch := (first | assumption | decide | rfl | omega | (simp only [List.length_append, List.length_set, List.length_cons, List.length_nil] <;> omega) | fail)) only [↓x_body, ↓x_var, ↓x_c, ↓x_un, ↓x_bin, ↓x_callB, ↓x_nil, ↓x_cons, ↓x_b, ↓x_tr, ↓x_and, ↓x_or, ↓x_not, ↓x_ifE, ↓x_andV, ↓x_orV, ↓x_notV, ↓x_chain, ↓x_next, ↓x_seq, ↓x_drop, ↓x_ret, ↓x_retN, ↓x_never, ↓x_brk, ↓x_ct, ↓x_asg, ↓x_gN, ↓x_par, ↓x_par3, ↓x_sl, ↓x_pn, ↓x_ps, ↓x_tup, ↓x_lst, ↓x_dict0, ↓x_pairs0, ↓x_pairs1, ↓x_disp, ↓x_setF, ↓x_gSet, ↓x_call, ↓x_callK, ↓x_meth, ↓x_methK, ↓x_make, ↓x_makeK, ↓x_it, ↓x_for, ↓x_while, ↓x_rng1, ↓x_rng2, ↓x_enumL, ↓x_zip, ↓x_lc, ↓x_dc, ↓x_pop2, ↓x_lkE, ↓x_lkS, ↓x_lkI, ↓x_pv1, ↓x_pv2, ↓x_pv3, ↓x_yes, ↓x_bm, ↓x_get2, ↓x_lstRg1, x_selt, x_self, x_onl, x_ond, x_oni, x_onU, x_slot, x_boolK, x_tru_non, x_tru_bl, x_tru_int, x_tru_tup, x_tru_ref, x_rep0, x_repS, x_add_i, x_add_t, x_add_s, x_add_l, x_sub, x_mul_i, x_mul_t, x_mul_l, x_div, x_mod, x_pow, x_neg, x_cmp, x_eq_i, x_ne_i, x_eq_s, x_ne_s, x_eq_b, x_is, x_isN1, x_isN2, x_isN3, x_isN4, x_isN5, x_ix_t, x_ix_f, x_ix_ri, x_ix_rs, x_in_r, x_in_t, x_intK, x_sl_t, x_sl_f, x_sl_r, x_rev, x_list_r, x_fld, x_setFK, x_set_i, x_set_s, x_len_t, x_len_f, x_len_r, x_int_i, x_list_t, x_list_f, x_tuple_t, x_tuple_r, x_max2, x_min2, x_insOf, x_gTup, x_gTupF, x_gTupR, x_gCons, x_gNil, x_row_t, x_row_f, x_row_r, x_int2K, x_isTupR, x_wipe0, x_wipe1, x_isLst, x_append, x_extend, x_extendT, x_pop0, x_popI, x_dictC, x_sorted, x_sortedT, x_sortK, x_sortTK, x_int_b, x_isT, x_ty_non, x_ty_bl, x_ty_int, x_ty_str, x_ty_tup, x_st1, x_st2, x_st3, x_st4, x_st5, x_isC, x_isDct, x_getK, x_pthK, x_onL, x_pthL, x_pfl, x_pky, x_fldO, x_kyO, x_join, x_valsU0, x_val1, x_val2, x_val0, x_put1, x_put2, x_put0, x_lk1, x_lk2, x_lk0, x_pf1, x_pf2, x_pf0, x_sz1, x_sz2, x_k1000, x_mulL, x_mulR, x_mulM, x_divB, x_powB, x_nz, x_rgB, x_rgB2, x_dispK, x_keys0, x_keysS, x_keysI, x_omap, x_at1, x_at2, x_at3, x_at4, x_at5, x_all_r, x_any_r, kf, List.getElem?_cons_zero, List.getElem?_cons_succ, List.set_cons_zero, List.set_cons_succ, List.set_nil, List.map_cons, List.map_nil, List.cons_append, List.nil_append, List.length_cons, List.length_nil, true_and, and_true, pk, List.filterMap_cons, List.filterMap_nil, Nat.reduceAdd, Nat.reduceSub, Nat.reduceEqDiff, uKey, List.foldl_cons, List.foldl_nil, decide_true, decide_false, Nat.add_assoc, Nat.reduceLeDiff, x_hleft, x_hat0, x_hatj, x_hself, x_hput, x_hsetL, x_hset0, x_hsetj, x_hss, x_hlenS, x_hlenA, x_hass, $ls,*])
section
variable {c : Cl} {mh mh' : MH} {P : MK} {k : KM} {dk ck di st wt nw ii sw wl : Nat} {S K N R : Int} {E : List (List Int)} {q : Nat}
theorem fell_sp {B : List (List Int)} {ws : List (Nat × List Int)} {ks : List Int} (d : It mh ii sw wl S K N R E q) (hS : mh[sw]? = some (.lst (B.map tU))) (hW : mh[wl]? = some (.lst (ws.map wU))) (nsw : sw ≠ wl) (g : ∀ b ∈ B, Gb b) (gw : ∀ p ∈ ws, p.1 < B.length ∧ Gb p.2)
    (gk : ∀ x ∈ ks, 0 ≤ x ∧ x ≤ 32) (hl : ks.length < 1000)
    (k : ∀ wl' mh', Fr [ii, sw] mh mh' → mh.length ≤ wl' → It mh' ii sw wl' S K N R (cutB B ws ks) 0 → mh'[sw]? = some (.lst ((cutB B ws ks).map tU)) → mh'[wl']? = some (.lst []) → P .non mh') : w__law_fell c [.ref ii, tU ks] mh P := by
  have o := d.d
  have n1 : ii ≠ sw := ne_of2 o hS (by simp)
  have sz : (1000 : Nat) < sizeLine := by decide
  have hz : ∀ p ∈ ws.zip ks, p.1.1 < B.length ∧ Gb p.1.2 ∧ 0 ≤ p.2 ∧ p.2 ≤ 32 := fun p hp => by
    have h1 := gw _ (List.of_mem_zip hp).1
    have h2 := gk _ (List.of_mem_zip hp).2
    exact ⟨h1.1, h1.2, h2.1, h2.2⟩
  unfold w__law_fell
  refine apM (F := P) ?_
  simp_all! only [o, hW]
  refine forA_ind (fun i sl mh' => ∃ x3 x4 x5 x6 : Option U, sl = [some (.ref ii), some (tU ks), some (.ref sw), x3, x4, x5, x6] ∧ Fr [sw] mh mh' ∧ mh'[sw]? = some (.lst ((((ws.zip ks).take i).foldl cutStep B).map tU))) ?_ ?_ ?_
  · exact ⟨none, none, none, none, rfl, .refl, by simpa using hS⟩
  · rintro i u sl mh1 q hu ⟨x3, x4, x5, x6, rfl, f1, hs1⟩ hq
    have hw1 := f1.get hW (by simp; exact nsw.symm)
    obtain ⟨v, hv, rfl⟩ := enum_get hu
    rw [List.getElem?_map, Option.map_eq_some_iff] at hv
    obtain ⟨⟨p, b⟩, hp, rfl⟩ := hv
    refine ⟨hw1, ?_⟩
    have hl1 := lt_of hs1
    obtain ⟨hz1, hz2⟩ := gw _ (List.mem_of_getElem? hp)
    have ok := cutF_ok ((ws.zip ks).take i) B g fun p hp => hz p (List.mem_of_mem_take hp)
    have hpb : p < (((ws.zip ks).take i).foldl cutStep B).length := by rw [ok.1]; exact hz1
    have lB : ((((ws.zip ks).take i).foldl cutStep B).getD p []).length = 32 := by
      rw [List.getD_eq_getElem?_getD, List.getElem?_eq_getElem hpb]
      exact (ok.2 _ (List.getElem_mem _)).l
    have lb := hz2.l
    simp only at lb
    generalize hB : ((ws.zip ks).take i).foldl cutStep B = Bi at *
    have hx : ixN (Bi.map tU).length (p : Int) = some p := by
      rw [ixN_nat (by omega) (by rw [List.length_map]; omega)]
      simp
    have hat : atI (Bi.map tU) (p : Int) = some (tU (Bi.getD p [])) := by
      rw [at_map (by omega) (by omega)]
      simp [hpb]
    simp_all! only []
    refine sel (fun h => ?_) fun h => ?_
    · have h := of_decide_eq_true h
      have hik : i < ks.length := by
        rw [List.length_map] at h
        omega
      have hk : atI (iU ks) (i : Int) = some (.int ks[i]) := by
        rw [at_map (by omega) (by omega)]
        simp
      have hzp : (ws.zip ks)[i]? = some ((p, b), ks[i]) := by
        rw [List.getElem?_zip_eq_some]
        exact ⟨hp, by simp [hik]⟩
      have hm := gk _ (List.getElem_mem hik)
      generalize ks[i] = m at *
      have e1 : cutU (iU b) none (some m) = iU (b.take m.toNat) := by rw [cut_to hm.1]; simp [List.map_take]
      have e2 : cutU (iU (Bi.getD p [])) (some m) none = iU ((Bi.getD p []).drop m.toNat) := by rw [cut_from hm.1]; simp [List.map_drop]
      simp_all! only [hs1, hk, hx, hat, e1, e2]
      have e3 : iU (b.take m.toNat) ++ iU ((Bi.getD p []).drop m.toNat) = iU (b.take m.toNat ++ (Bi.getD p []).drop m.toNat) := by simp
      rw [e3]
      generalize e4 : mh1.set sw _ = mh2
      refine ⟨by simp only [List.length_map, List.length_take, List.length_drop]; omega, hq _ _ ⟨_, _, _, _, rfl, f1.trans (fr_set e4 (by simp)), ?_⟩⟩
      rw [of_set e4 hl1, List.take_succ, hzp]
      simp only [Option.toList_some, List.foldl_append, List.foldl_cons, List.foldl_nil, hB, cutStep, List.map_set]
    · have h := of_decide_eq_false h
      have hik : ks.length ≤ i := by
        rw [List.length_map] at h
        omega
      have e1 : cutU (iU b) none (some 0) = [] := by rw [cut_to (by decide)]; rfl
      have e2 : cutU (iU (Bi.getD p [])) (some 0) none = iU (Bi.getD p []) := by rw [cut_from (by decide)]; rfl
      simp_all! only [hs1, hx, hat, e1, e2]
      generalize e4 : mh1.set sw _ = mh2
      refine ⟨by simp only [List.length_map]; omega, hq _ _ ⟨_, _, _, _, rfl, f1.trans (fr_set e4 (by simp)), ?_⟩⟩
      have el : (ws.zip ks).length ≤ i := by rw [List.length_zip]; omega
      rw [of_set e4 hl1, List.take_of_length_le (by omega : (ws.zip ks).length ≤ i + 1)]
      rw [List.take_of_length_le el] at hB
      rw [hB]
      have : (Bi.map tU).set p (tU (Bi.getD p [])) = Bi.map tU := by
        apply List.ext_getElem?
        intro j
        rw [List.getElem?_set]
        by_cases hj : p = j
        · subst hj
          simp [hpb]
        · simp [hj]
      rw [this]
  · rintro sl mh1 ⟨x3, x4, x5, x6, rfl, f1, hs1⟩
    have hw1 := f1.get hW (by simp; exact nsw.symm)
    have ho := f1.get o (by simp; exact n1)
    have lo := lt_of ho
    have ls := lt_of hs1
    refine ⟨hw1, ?_⟩
    have el : ((ws.zip ks).take (enumU (ws.map wU)).length) = ws.zip ks := List.take_of_length_le (by rw [enum_len, List.length_map, List.length_zip]; omega)
    rw [el] at hs1
    simp_all! only [ho]
    generalize e1 : mh1.set ii _ = mh2
    have hs2 := of_put e1 hs1 n1
    have e3 : mh2.length = mh1.length := len_set e1
    have lf := f1.1
    have hs3 : (mh2 ++ [MO.lst []])[sw]? = some (.lst ((cutB B ws ks).map tU)) := get_app hs2
    have hw3 : (mh2 ++ [MO.lst []])[mh1.length]? = some (.lst []) := by rw [← e3]; exact x_hat0 rfl
    exact k mh1.length _ ((f1.mono (by simp)).trans (fr_set e1 (by simp))).new lf ⟨get_app (of_set e1 lo), cutB B ws ks, [], hs3, hw3, rfl, by simp, by simp, rfl⟩ hs3 hw3
end
end Tk13

namespace Tk13
open PySem PySem.Spec PyProof.Rows L2 Tk Sm
local macro_rules | `(tactic| simp_all! only [$ls,*]) => `(tactic| simp -implicitDefEqProofs (disch := (first | assumption | decide | rfl | omega | (simp only [List.length_append, List.length_set, List.length_cons, List.length_nil] <;> omega) | fail)) only [↓x_body, ↓x_var, ↓x_c, ↓x_un, ↓x_bin, ↓x_callB, ↓x_nil, ↓x_cons, ↓x_b, ↓x_tr, ↓x_and, ↓x_or, ↓x_not, ↓x_ifE, ↓x_andV, ↓x_orV, ↓x_notV, ↓x_chain, ↓x_next, ↓x_seq, ↓x_drop, ↓x_ret, ↓x_retN, ↓x_ifS, ↓x_never, ↓x_brk, ↓x_ct, ↓x_asg, ↓x_gN, ↓x_par, ↓x_par3, ↓x_sl, ↓x_pn, ↓x_ps, ↓x_tup, ↓x_lst, ↓x_dict0, ↓x_pairs0, ↓x_pairs1, ↓x_disp, ↓x_setF, ↓x_gSet, ↓x_call, ↓x_callK, ↓x_meth, ↓x_methK, ↓x_make, ↓x_makeK, ↓x_it, ↓x_for, ↓x_while, ↓x_rng1, ↓x_rng2, ↓x_enumL, ↓x_zip, ↓x_lc, ↓x_dc, ↓x_pop2, ↓x_lkE, ↓x_lkS, ↓x_lkI, ↓x_pv1, ↓x_pv2, ↓x_pv3, ↓x_yes, ↓x_bm, ↓x_get2, ↓x_lstRg1, x_selt, x_self, x_onl, x_ond, x_oni, x_onU, x_slot, x_boolK, x_tru_non, x_tru_bl, x_tru_int, x_tru_tup, x_tru_ref, x_rep0, x_repS, x_add_i, x_add_t, x_add_s, x_add_l, x_sub, x_mul_i, x_mul_t, x_mul_l, x_div, x_mod, x_pow, x_neg, x_cmp, x_eq_i, x_ne_i, x_eq_s, x_ne_s, x_eq_b, x_is, x_isN1, x_isN2, x_isN3, x_isN4, x_isN5, x_ix_t, x_ix_f, x_ix_ri, x_ix_rs, x_in_r, x_in_t, x_intK, x_sl_t, x_sl_f, x_sl_r, x_rev, x_list_r, x_fld, x_setFK, x_set_i, x_set_s, x_len_t, x_len_f, x_len_r, x_int_i, x_list_t, x_list_f, x_tuple_t, x_tuple_r, x_max2, x_min2, x_insOf, x_gTup, x_gTupF, x_gTupR, x_gCons, x_gNil, x_row_t, x_row_f, x_row_r, x_int2K, x_isTupR, x_wipe0, x_wipe1, x_isLst, x_append, x_extend, x_extendT, x_pop0, x_popI, x_dictC, x_sorted, x_sortedT, x_sortK, x_sortTK, x_int_b, x_isT, x_ty_non, x_ty_bl, x_ty_int, x_ty_str, x_ty_tup, x_st1, x_st2, x_st3, x_st4, x_st5, x_isC, x_isDct, x_getK, x_pthK, x_onL, x_pthL, x_pfl, x_pky, x_fldO, x_kyO, x_join, x_valsU0, x_val1, x_val2, x_val0, x_put1, x_put2, x_put0, x_lk1, x_lk2, x_lk0, x_pf1, x_pf2, x_pf0, x_sz1, x_sz2, x_k1000, x_mulL, x_mulR, x_mulM, x_divB, x_powB, x_nz, x_rgB, x_rgB2, x_dispK, x_keys0, x_keysS, x_keysI, x_omap, x_at1, x_at2, x_at3, x_at4, x_at5, x_all_r, x_any_r, kf, List.getElem?_cons_zero, List.getElem?_cons_succ, List.set_cons_zero, List.set_cons_succ, List.set_nil, List.map_cons, List.map_nil, List.cons_append, List.nil_append, List.length_cons, List.length_nil, true_and, and_true, pk, List.filterMap_cons, List.filterMap_nil, Nat.reduceAdd, Nat.reduceSub, Nat.reduceEqDiff, uKey, List.foldl_cons, List.foldl_nil, decide_true, decide_false, Nat.add_assoc, Nat.reduceLeDiff, x_hleft, x_hat0, x_hatj, x_hself, x_hput, x_hsetL, x_hset0, x_hsetj, x_hss, x_hlenS, x_hlenA, x_hass, $ls,*])
local macro_rules | `(tactic| dsimp! only [$ls,*]) => `(tactic| simp -implicitDefEqProofs (disch := (first | assumption | decide | rfl | omega | (simp only [List.length_append, List.length_set, List.length_cons, List.length_nil] <;> omega) | fail)) only [↓x_body, ↓x_var, ↓x_c, ↓x_un, ↓x_bin, ↓x_callB, ↓x_nil, ↓x_cons, ↓x_b, ↓x_tr, ↓x_and, ↓x_or, ↓x_not, ↓x_ifE, ↓x_andV, ↓x_orV, ↓x_notV, ↓x_chain, ↓x_next, ↓x_seq, ↓x_drop, ↓x_ret, ↓x_retN, ↓x_never, ↓x_brk, ↓x_ct, ↓x_asg, ↓x_gN, ↓x_par, ↓x_par3, ↓x_sl, ↓x_pn, ↓x_ps, ↓x_tup, ↓x_lst, ↓x_dict0, ↓x_pairs0, ↓x_pairs1, ↓x_disp, ↓x_setF, ↓x_gSet, ↓x_call, ↓x_callK, ↓x_meth, ↓x_methK, ↓x_make, ↓x_makeK, ↓x_it, ↓x_for, ↓x_while, ↓x_rng1, ↓x_rng2, ↓x_enumL, ↓x_zip, ↓x_lc, ↓x_dc, ↓x_pop2, ↓x_lkE, ↓x_lkS, ↓x_lkI, ↓x_pv1, ↓x_pv2, ↓x_pv3, ↓x_yes, ↓x_bm, ↓x_get2, ↓x_lstRg1, x_selt, x_self, x_onl, x_ond, x_oni, x_onU, x_slot, x_boolK, x_tru_non, x_tru_bl, x_tru_int, x_tru_tup, x_tru_ref, x_rep0, x_repS, x_add_i, x_add_t, x_add_s, x_add_l, x_sub, x_mul_i, x_mul_t, x_mul_l, x_div, x_mod, x_pow, x_neg, x_cmp, x_eq_i, x_ne_i, x_eq_s, x_ne_s, x_eq_b, x_is, x_isN1, x_isN2, x_isN3, x_isN4, x_isN5, x_ix_t, x_ix_f, x_ix_ri, x_ix_rs, x_in_r, x_in_t, x_intK, x_sl_t, x_sl_f, x_sl_r, x_rev, x_list_r, x_fld, x_setFK, x_set_i, x_set_s, x_len_t, x_len_f, x_len_r, x_int_i, x_list_t, x_list_f, x_tuple_t, x_tuple_r, x_max2, x_min2, x_insOf, x_gTup, x_gTupF, x_gTupR, x_gCons, x_gNil, x_row_t, x_row_f, x_row_r, x_int2K, x_isTupR, x_wipe0, x_wipe1, x_isLst, x_append, x_extend, x_extendT, x_pop0, x_popI, x_dictC, x_sorted, x_sortedT, x_sortK, x_sortTK, x_int_b, x_isT, x_ty_non, x_ty_bl, x_ty_int, x_ty_str, x_ty_tup, x_st1, x_st2, x_st3, x_st4, x_st5, x_isC, x_isDct, x_getK, x_pthK, x_onL, x_pthL, x_pfl, x_pky, x_fldO, x_kyO, x_join, x_valsU0, x_val1, x_val2, x_val0, x_put1, x_put2, x_put0, x_lk1, x_lk2, x_lk0, x_pf1, x_pf2, x_pf0, x_sz1, x_sz2, x_k1000, x_mulL, x_mulR, x_mulM, x_divB, x_powB, x_nz, x_rgB, x_rgB2, x_dispK, x_keys0, x_keysS, x_keysI, x_omap, x_at1, x_at2, x_at3, x_at4, x_at5, x_all_r, x_any_r, kf, List.getElem?_cons_zero, List.getElem?_cons_succ, List.set_cons_zero, List.set_cons_succ, List.set_nil, List.map_cons, List.map_nil, List.cons_append, List.nil_append, List.length_cons, List.length_nil, true_and, and_true, pk, List.filterMap_cons, List.filterMap_nil, Nat.reduceAdd, Nat.reduceSub, Nat.reduceEqDiff, uKey, List.foldl_cons, List.foldl_nil, decide_true, decide_false, Nat.add_assoc, Nat.reduceLeDiff, x_hleft, x_hat0, x_hatj, x_hself, x_hput, x_hsetL, x_hset0, x_hsetj, x_hss, x_hlenS, x_hlenA, x_hass, $ls,*])
section
variable {c : Cl} {mh mh' : MH} {P : MK} {k : KM} {dk ck : Nat} {S K N R : Int}
theorem lt_dk {mh : MH} {dk ck : Nat} (D : Dk mh dk ck) : dk < mh.length ∧ ck < mh.length := by
  obtain ⟨⟨_, _, _, _, _, h1⟩, ⟨_, _, h2⟩⟩ := D
  exact ⟨lt_of h1, lt_of h2⟩
theorem p9 : (10 : Int) ^ Int.toNat 9 = 1000000000 := by decide
theorem word_sp (D : Dk mh dk ck) (k : ∀ w mh', 0 ≤ w → w ≤ 1000000000 → Fr [dk, ck] mh mh' → Dk mh' dk ck → P (.int w) mh') : w__law_word c [.ref dk] mh P := by
  unfold w__law_word
  refine apM (F := P) ?_
  simp_all! only []
  refine apI (draw_sp D (by decide) (by decide) fun a mh1 f1 D1 a0 a1 => ?_)
  simp_all! only []
  simp only [p9]
  refine apI (draw_sp D1 (by decide) (by decide) fun b mh2 f2 D2 b0 b1 => ?_)
  have l2 := lt_dk D2
  simp_all! only []
  refine apI (pick_sp (D2.fr (X := []) Fr.app (by simp) (by simp)) get_new (by omega) (by omega) (by simp) (by simp) fun i u mh3 hu f3 D3 => ?_)
  have hm := List.mem_of_getElem? hu
  simp only [List.mem_cons, List.not_mem_nil, or_false, p9] at hm
  obtain ⟨w, rfl, w0, w1⟩ : ∃ n : Int, u = .int n ∧ 0 ≤ n ∧ n ≤ 1000000000 := by
    rcases hm with h | h | h | h | h | h | h | h <;> exact ⟨_, h, by omega, by omega⟩
  exact k w _ w0 w1 ((f1.trans f2).trans (Fr.app.trans f3)) D3
theorem fW_len (ws : List (Nat × List Int)) (B : List (List Int)) : (fW ws B).length = B.length := fold_len ws B
structure Ls (ns : List Int) (n : Nat) : Prop where
  l : ns.length = n
  w : ∀ x ∈ ns, 0 ≤ x ∧ x ≤ 1000000000
theorem block_sp (D : Dk mh dk ck) (k : ∀ b mh', Gb b → Fr [dk, ck] mh mh' → Dk mh' dk ck → P (tU b) mh') : w__law_block c [.ref dk] mh P := by
  have sz : (2000 : Nat) < sizeLine := by decide
  unfold w__law_block
  refine apM (F := P) ?_
  simp_all! only []
  refine apI (draw_sp D (by decide) (by decide) fun way mh1 f1 D1 a0 a1 => ?_)
  simp_all! only []
  refine apI (word_sp D1 fun w mh2 w0 w1 f2 D2 => ?_)
  have f02 := f1.trans f2
  clear f1 f2 D1 D
  have rep : ∀ x : Int, 0 ≤ x ∧ x ≤ 1000000000 → P (.tup (List.replicate (Int.toNat 32) [U.int x]).flatten) mh2 := fun x hx => by
    have e : (List.replicate (Int.toNat 32) [U.int x]).flatten = iU (List.replicate 32 x) := by rw [rep_flat]; unfold iU; rw [List.map_replicate]; rfl
    rw [e]
    exact k _ mh2 ⟨by simp, fun y hy => by rw [List.eq_of_mem_replicate hy]; exact hx⟩ f02 D2
  simp_all! only []
  refine sel (fun h => ?_) fun h => ?_
  · simp_all! only []
    exact ⟨by simp, by decide, by decide, rep w ⟨w0, w1⟩⟩
  simp_all! only []
  refine sel (fun h => ?_) fun h => ?_
  · simp_all! only []
    exact ⟨by simp, by decide, by decide, rep 0 (by decide)⟩
  have l2 := lt_dk D2
  simp_all! only []
  refine sel (fun h => ?_) fun h => ?_
  · simp_all! only []
    refine apI (draw_sp D2 (by decide) (by decide) fun y mh3 f3 D3 y0 y1 => ?_)
    have l3 := lt_dk D3
    simp_all! only []
    refine lcA_ind (fun i acc mh' => ∃ ns : List Int, acc = iU ns ∧ ns.length = i ∧ (∀ x ∈ ns, 0 ≤ x ∧ x ≤ 1000000000) ∧ Fr [dk, ck] mh3 mh' ∧ Dk mh' dk ck ∧ mh'[mh3.length]? = some (.lst acc)) (by rw [rngU_len]; decide) ⟨[], rfl, rfl, by simp, Fr.app, D3.fr (X := []) Fr.app (by simp) (by simp), get_new⟩ ?_ ?_
    · rintro i u acc mh4 q hu la ⟨ns, rfl, ln, gn, f4, D4, h4⟩ hq
      refine ⟨trivial, ?_⟩
      simp_all! only []
      refine apI (draw_sp D4 (by decide) (by decide) fun x mh5 f5 D5 x0 x1 => ?_)
      have h5 := f5.get h4 (by simp; omega)
      have fs : Fr [mh3.length] mh5 (mh5.set mh3.length (.lst (iU ns ++ [.int x]))) := fr_set rfl (by simp)
      refine hq _ _ h5 ⟨ns ++ [x], by simp, by simp [ln], fun z hz => ?_, (f4.trans f5).then fs (by simp), D5.fr fs (by simp; omega) (by simp; omega), get_set h5⟩
      rcases List.mem_append.mp hz with hz | hz
      · exact gn z hz
      · simp at hz; subst hz; omega
    · rintro acc mh4 la ⟨ns, rfl, ln, gn, f4, D4, h4⟩
      refine ⟨trivial, ?_⟩
      rw [rngU_len] at ln
      have ln : ns.length = 29 := ln
      simp_all! only [h4]
      have e : U.tup (U.int w :: U.int (1 + y) :: (iU ns ++ [U.int w])) = tU ([w, 1 + y] ++ ns ++ [w]) := by simp
      have l1 : (iU ns).length = 29 := by simp [ln]
      rw [l1, e]
      refine ⟨by omega, by omega, k _ mh4 ⟨by simp [ln], fun x hx => ?_⟩ ((f02.trans f3).trans f4) D4⟩
      simp only [List.mem_append, List.mem_cons, List.not_mem_nil, or_false] at hx
      rcases hx with ((rfl | rfl) | hx) | rfl
      · exact ⟨w0, w1⟩
      · omega
      · exact gn x hx
      · exact ⟨w0, w1⟩
  · simp_all! only []
    refine lcA_ind (fun i acc mh' => ∃ ns : List Int, acc = iU ns ∧ ns.length = i ∧ (∀ x ∈ ns, 0 ≤ x ∧ x ≤ 1000000000) ∧ Fr [dk, ck] mh2 mh' ∧ Dk mh' dk ck ∧ mh'[mh2.length]? = some (.lst acc)) (by rw [rngU_len]; decide) ⟨[], rfl, rfl, by simp, Fr.app, D2.fr (X := []) Fr.app (by simp) (by simp), get_new⟩ ?_ ?_
    · rintro i u acc mh4 q hu la ⟨ns, rfl, ln, gn, f4, D4, h4⟩ hq
      obtain ⟨rfl, hi⟩ := rngU_get hu
      have hi : i < 32 := hi
      refine ⟨trivial, ?_⟩
      have fin : ∀ (x : Int) mh5, 0 ≤ x → x ≤ 1000000000 → Fr [dk, ck] mh4 mh5 → Dk mh5 dk ck → q (.int x) mh5 := fun x mh5 x0 x1 f5 D5 => by
        have h5 := f5.get h4 (by simp; omega)
        have fs : Fr [mh2.length] mh5 (mh5.set mh2.length (.lst (iU ns ++ [.int x]))) := fr_set rfl (by simp)
        refine hq _ _ h5 ⟨ns ++ [x], by simp, by simp [ln], fun z hz => ?_, (f4.trans f5).then fs (by simp), D5.fr fs (by simp; omega) (by simp; omega), get_set h5⟩
        rcases List.mem_append.mp hz with hz | hz
        · exact gn z hz
        · simp at hz; subst hz; exact ⟨x0, x1⟩
      simp_all! only []
      refine apI (draw_sp D4 (by decide) (by decide) fun x mh5 f5 D5 x0 x1 => ?_)
      simp_all! only []
      refine sel (fun h => ?_) fun h => ?_
      · simp_all! only []
        exact apI (word_sp D5 fun v mh6 v0 v1 f6 D6 => fin v mh6 v0 v1 (f5.trans f6) D6)
      · simp_all! only []
        exact fin _ mh5 (by omega) (by omega) f5 D5
    · rintro acc mh4 la ⟨ns, rfl, ln, gn, f4, D4, h4⟩
      refine ⟨trivial, ?_⟩
      rw [rngU_len] at ln
      simp_all! only [h4]
      exact k _ mh4 ⟨ln, gn⟩ (f02.trans f4) D4
end
end Tk13

namespace Tk13
open PySem PySem.Spec PyProof.Rows L2 Tk Sm
local macro_rules | `(tactic| simp_all! only [$ls,*]) => `(tactic| simp -implicitDefEqProofs (disch := (first | assumption | decide | rfl | omega | (simp only [List.length_append, List.length_set, List.length_cons, List.length_nil] <;> omega) | fail)) only [↓x_body, ↓x_var, ↓x_c, ↓x_un, ↓x_bin, ↓x_callB, ↓x_nil, ↓x_cons, ↓x_b, ↓x_tr, ↓x_and, ↓x_or, ↓x_not, ↓x_ifE, ↓x_andV, ↓x_orV, ↓x_notV, ↓x_chain, ↓x_next, ↓x_seq, ↓x_drop, ↓x_ret, ↓x_retN, ↓x_ifS, ↓x_never, ↓x_brk, ↓x_ct, ↓x_asg, ↓x_gN, ↓x_par, ↓x_par3, ↓x_sl, ↓x_pn, ↓x_ps, ↓x_tup, ↓x_lst, ↓x_dict0, ↓x_pairs0, ↓x_pairs1, ↓x_disp, ↓x_setF, ↓x_gSet, ↓x_call, ↓x_callK, ↓x_meth, ↓x_methK, ↓x_make, ↓x_makeK, ↓x_it, ↓x_for, ↓x_while, ↓x_rng1, ↓x_rng2, ↓x_enumL, ↓x_zip, ↓x_lc, ↓x_dc, ↓x_pop2, ↓x_lkE, ↓x_lkS, ↓x_lkI, ↓x_pv1, ↓x_pv2, ↓x_pv3, ↓x_yes, ↓x_bm, ↓x_get2, ↓x_lstRg1, x_selt, x_self, x_onl, x_ond, x_oni, x_onU, x_slot, x_boolK, x_tru_non, x_tru_bl, x_tru_int, x_tru_tup, x_tru_ref, x_rep0, x_repS, x_add_i, x_add_t, x_add_s, x_add_l, x_sub, x_mul_i, x_mul_t, x_mul_l, x_div, x_mod, x_pow, x_neg, x_cmp, x_eq_i, x_ne_i, x_eq_s, x_ne_s, x_eq_b, x_is, x_isN1, x_isN2, x_isN3, x_isN4, x_isN5, x_ix_t, x_ix_f, x_ix_ri, x_ix_rs, x_in_r, x_in_t, x_intK, x_sl_t, x_sl_f, x_sl_r, x_rev, x_list_r, x_fld, x_setFK, x_set_i, x_set_s, x_len_t, x_len_f, x_len_r, x_int_i, x_list_t, x_list_f, x_tuple_t, x_tuple_r, x_max2, x_min2, x_insOf, x_gTup, x_gTupF, x_gTupR, x_gCons, x_gNil, x_row_t, x_row_f, x_row_r, x_int2K, x_isTupR, x_wipe0, x_wipe1, x_isLst, x_append, x_extend, x_extendT, x_pop0, x_popI, x_dictC, x_sorted, x_sortedT, x_sortK, x_sortTK, x_int_b, x_isT, x_ty_non, x_ty_bl, x_ty_int, x_ty_str, x_ty_tup, x_st1, x_st2, x_st3, x_st4, x_st5, x_isC, x_isDct, x_getK, x_pthK, x_onL, x_pthL, x_pfl, x_pky, x_fldO, x_kyO, x_join, x_valsU0, x_val1, x_val2, x_val0, x_put1, x_put2, x_put0, x_lk1, x_lk2, x_lk0, x_pf1, x_pf2, x_pf0, x_sz1, x_sz2, x_k1000, x_mulL, x_mulR, x_mulM, x_divB, x_powB, x_nz, x_rgB, x_rgB2, x_dispK, x_keys0, x_keysS, x_keysI, x_omap, x_at1, x_at2, x_at3, x_at4, x_at5, x_all_r, x_any_r, kf, List.getElem?_cons_zero, List.getElem?_cons_succ, List.set_cons_zero, List.set_cons_succ, List.set_nil, List.map_cons, List.map_nil, List.cons_append, List.nil_append, List.length_cons, List.length_nil, true_and, and_true, pk, List.filterMap_cons, List.filterMap_nil, Nat.reduceAdd, Nat.reduceSub, Nat.reduceEqDiff, uKey, List.foldl_cons, List.foldl_nil, decide_true, decide_false, Nat.add_assoc, Nat.reduceLeDiff, x_hleft, x_hat0, x_hatj, x_hself, x_hput, x_hsetL, x_hset0, x_hsetj, x_hss, x_hlenS, x_hlenA, x_hass, $ls,*])
local macro_rules | `(tactic| dsimp! only [$ls,*]) => `(tactic| simp -implicitDefEqProofs (disch := (first | assumption | decide | rfl | omega | (simp only [List.length_append, List.length_set, List.length_cons, List.length_nil] <;> omega) | fail)) only [↓x_body, ↓x_var, ↓x_c, ↓x_un, ↓x_bin, ↓x_callB, ↓x_nil, ↓x_cons, ↓x_b, ↓x_tr, ↓x_and, ↓x_or, ↓x_not, ↓x_ifE, ↓x_andV, ↓x_orV, ↓x_notV, ↓x_chain, ↓x_next, ↓x_seq, ↓x_drop, ↓x_ret, ↓x_retN, ↓x_never, ↓x_brk, ↓x_ct, ↓x_asg, ↓x_gN, ↓x_par, ↓x_par3, ↓x_sl, ↓x_pn, ↓x_ps, ↓x_tup, ↓x_lst, ↓x_dict0, ↓x_pairs0, ↓x_pairs1, ↓x_disp, ↓x_setF, ↓x_gSet, ↓x_call, ↓x_callK, ↓x_meth, ↓x_methK, ↓x_make, ↓x_makeK, ↓x_it, ↓x_for, ↓x_while, ↓x_rng1, ↓x_rng2, ↓x_enumL, ↓x_zip, ↓x_lc, ↓x_dc, ↓x_pop2, ↓x_lkE, ↓x_lkS, ↓x_lkI, ↓x_pv1, ↓x_pv2, ↓x_pv3, ↓x_yes, ↓x_bm, ↓x_get2, ↓x_lstRg1, x_selt, x_self, x_onl, x_ond, x_oni, x_onU, x_slot, x_boolK, x_tru_non, x_tru_bl, x_tru_int, x_tru_tup, x_tru_ref, x_rep0, x_repS, x_add_i, x_add_t, x_add_s, x_add_l, x_sub, x_mul_i, x_mul_t, x_mul_l, x_div, x_mod, x_pow, x_neg, x_cmp, x_eq_i, x_ne_i, x_eq_s, x_ne_s, x_eq_b, x_is, x_isN1, x_isN2, x_isN3, x_isN4, x_isN5, x_ix_t, x_ix_f, x_ix_ri, x_ix_rs, x_in_r, x_in_t, x_intK, x_sl_t, x_sl_f, x_sl_r, x_rev, x_list_r, x_fld, x_setFK, x_set_i, x_set_s, x_len_t, x_len_f, x_len_r, x_int_i, x_list_t, x_list_f, x_tuple_t, x_tuple_r, x_max2, x_min2, x_insOf, x_gTup, x_gTupF, x_gTupR, x_gCons, x_gNil, x_row_t, x_row_f, x_row_r, x_int2K, x_isTupR, x_wipe0, x_wipe1, x_isLst, x_append, x_extend, x_extendT, x_pop0, x_popI, x_dictC, x_sorted, x_sortedT, x_sortK, x_sortTK, x_int_b, x_isT, x_ty_non, x_ty_bl, x_ty_int, x_ty_str, x_ty_tup, x_st1, x_st2, x_st3, x_st4, x_st5, x_isC, x_isDct, x_getK, x_pthK, x_onL, x_pthL, x_pfl, x_pky, x_fldO, x_kyO, x_join, x_valsU0, x_val1, x_val2, x_val0, x_put1, x_put2, x_put0, x_lk1, x_lk2, x_lk0, x_pf1, x_pf2, x_pf0, x_sz1, x_sz2, x_k1000, x_mulL, x_mulR, x_mulM, x_divB, x_powB, x_nz, x_rgB, x_rgB2, x_dispK, x_keys0, x_keysS, x_keysI, x_omap, x_at1, x_at2, x_at3, x_at4, x_at5, x_all_r, x_any_r, kf, List.getElem?_cons_zero, List.getElem?_cons_succ, List.set_cons_zero, List.set_cons_succ, List.set_nil, List.map_cons, List.map_nil, List.cons_append, List.nil_append, List.length_cons, List.length_nil, true_and, and_true, pk, List.filterMap_cons, List.filterMap_nil, Nat.reduceAdd, Nat.reduceSub, Nat.reduceEqDiff, uKey, List.foldl_cons, List.foldl_nil, decide_true, decide_false, Nat.add_assoc, Nat.reduceLeDiff, x_hleft, x_hat0, x_hatj, x_hself, x_hput, x_hsetL, x_hset0, x_hsetj, x_hss, x_hlenS, x_hlenA, x_hass, $ls,*])
section
variable {c : Cl} {mh mh' : MH} {P : MK} {k : KM} {dk ck di st wt nw ii sw wl : Nat} {S K N R : Int} {E : List (List Int)} {q : Nat}
theorem nd_wn {m wt' nw' : Nat} (nd : [dk, ck, di, st, wt, nw, ii, sw, wl].Nodup) (lt : ∀ x ∈ ft dk ck di st wt nw ii sw wl, x < m) (l1 : m ≤ wt') (l2 : m ≤ nw') (n : wt' ≠ nw') : [dk, ck, di, st, wt', nw', ii, sw, wl].Nodup := by
  simp only [List.nodup_cons, List.mem_cons, List.not_mem_nil, or_false, not_or, not_false_eq_true, List.nodup_nil, and_true] at nd ⊢
  have u1 : ∀ x ∈ ft dk ck di st wt nw ii sw wl, ¬x = wt' ∧ ¬x = nw' ∧ ¬wt' = x ∧ ¬nw' = x := fun x hx => by have := lt x hx; omega
  have a1 := u1 dk (by simp)
  have a2 := u1 ck (by simp)
  have a3 := u1 di (by simp)
  have a4 := u1 st (by simp)
  have a7 := u1 ii (by simp)
  have a8 := u1 sw (by simp)
  have a9 := u1 wl (by simp)
  obtain ⟨⟨b1, b2, b3, _, _, b6, b7, b8⟩, ⟨c2, c3, _, _, c6, c7, c8⟩, ⟨d3, _, _, d6, d7, d8⟩, ⟨_, _, e6, e7, e8⟩, _, _, g⟩ := nd
  exact ⟨⟨b1, b2, b3, a1.1, a1.2.1, b6, b7, b8⟩, ⟨c2, c3, a2.1, a2.2.1, c6, c7, c8⟩, ⟨d3, a3.1, a3.2.1, d6, d7, d8⟩, ⟨a4.1, a4.2.1, e6, e7, e8⟩, ⟨n, a7.2.2.1, a8.2.2.1, a9.2.2.1⟩, ⟨a7.2.2.2, a8.2.2.2, a9.2.2.2⟩, g⟩
theorem nd_wl {m wl' : Nat} (nd : [dk, ck, di, st, wt, nw, ii, sw, wl].Nodup) (lt : ∀ x ∈ [dk, ck, di, st, wt, nw, ii, sw], x < m) (l1 : m ≤ wl') : [dk, ck, di, st, wt, nw, ii, sw, wl'].Nodup := by
  have u1 : ∀ x ∈ [dk, ck, di, st, wt, nw, ii, sw], ¬x = wl' := fun x hx => by have := lt x hx; omega
  have a1 := u1 dk (by simp)
  have a2 := u1 ck (by simp)
  have a3 := u1 di (by simp)
  have a4 := u1 st (by simp)
  have a5 := u1 wt (by simp)
  have a6 := u1 nw (by simp)
  have a7 := u1 ii (by simp)
  have a8 := u1 sw (by simp)
  simp only [List.nodup_cons, List.mem_cons, List.not_mem_nil, or_false, not_or, not_false_eq_true, List.nodup_nil, and_true] at nd ⊢
  obtain ⟨⟨b1, b2, b3, b4, b5, b6, b7, _⟩, ⟨c2, c3, c4, c5, c6, c7, _⟩, ⟨d3, d4, d5, d6, d7, _⟩, ⟨e4, e5, e6, e7, _⟩, ⟨f5, f6, f7, _⟩, ⟨g6, g7, _⟩, ⟨h7, _⟩, _⟩ := nd
  exact ⟨⟨b1, b2, b3, b4, b5, b6, b7, a1⟩, ⟨c2, c3, c4, c5, c6, c7, a2⟩, ⟨d3, d4, d5, d6, d7, a3⟩, ⟨e4, e5, e6, e7, a4⟩, ⟨f5, f6, f7, a5⟩, ⟨g6, g7, a6⟩, ⟨h7, a7⟩, a8⟩
theorem X3.cut {B : List (List Int)} {ws : List (Nat × List Int)} {ks : List Int} (x : X3 c mh dk ck di st wt nw ii sw wl S K N R B ws q) (gk : ∀ x ∈ ks, 0 ≤ x ∧ x ≤ 32) (hl : ks.length < 1000)
    (k : ∀ wt' nw' mh', Fr [di, st] mh mh' →
      (∀ {P : MK}, (∀ wl' mh'', Fr [di, st, ii, sw] mh mh'' → (∀ t, t < mh.length → t ∉ ft dk ck di st wt nw ii sw wl → t ∉ ft dk ck di st wt' nw' ii sw wl') → X3 c mh'' dk ck di st wt' nw' ii sw wl' S K N R (cutB B ws ks) [] q → P .non mh'') → w__law_fell c [.ref ii, tU ks] mh' P) → P .non mh') : w_Disk_cut c [.ref di, tU ks] mh P := by
  refine x.w.d.cut x.hs x.hw x.g x.gw gk hl fun wt' nw' mh1 f1 l1 l2 n d1 hs1 hw1 => k wt' nw' mh1 f1 fun {P} k => ?_
  have nd := x.w.nd
  have lt := x.w.lt
  have nd1 := nd_wn nd lt l1 l2 n
  have o1 : ∀ y ∈ [dk, ck, ii, sw, wl], y ∉ [di, st] := fun y hy hz => by
    simp only [List.nodup_cons, List.mem_cons, List.not_mem_nil, or_false, not_or] at nd hy hz
    grind
  have l3 := x.w.l.fr f1 (o1 _ (by simp)) (o1 _ (by simp)) (o1 _ (by simp))
  have nsw : sw ≠ wl := by
    simp only [List.nodup_cons, List.mem_cons, List.not_mem_nil, or_false, not_or] at nd
    grind
  refine fell_sp l3 (f1.get x.hS (o1 _ (by simp))) (f1.get x.hW (o1 _ (by simp))) nsw x.g x.gw gk hl fun wl' mh2 f2 l4 lt2 hs2 hw2 => ?_
  have lw1 := lt_of hw1
  have ln1 : nw' < mh1.length := by
    obtain ⟨_, _, _, _, _, _, _, h, _⟩ := d1
    exact lt_of h
  have lm := f1.1
  have lt' : ∀ y ∈ [dk, ck, di, st, wt', nw', ii, sw], y < mh1.length := fun y hy => by
    simp only [List.mem_cons, List.not_mem_nil, or_false] at hy
    rcases hy with rfl | rfl | rfl | rfl | rfl | rfl | rfl | rfl
    · have := lt y (by simp); omega
    · have := lt y (by simp); omega
    · have := lt y (by simp); omega
    · have := lt y (by simp); omega
    · exact lw1
    · exact ln1
    · have := lt y (by simp); omega
    · have := lt y (by simp); omega
  have nd2 := nd_wl nd1 lt' l4
  have o2 : ∀ y ∈ [dk, ck, di, st, wt', nw'], y ∉ [ii, sw] := fun y hy hz => by
    simp only [List.nodup_cons, List.mem_cons, List.not_mem_nil, or_false, not_or] at nd1 hy hz
    grind
  have ok := cutF_ok (ws.zip ks) B x.g fun p hp => by
    have h1 := x.gw _ (List.of_mem_zip hp).1
    have h2 := gk _ (List.of_mem_zip hp).2
    exact ⟨h1.1, h1.2, h2.1, h2.2⟩
  refine k wl' mh2 ((f1.mono (by simp)).trans (f2.mono (by simp))) (fun t ht hn => ?_) ⟨⟨(x.w.D.fr f1 (o1 _ (by simp)) (o1 _ (by simp))).fr f2 (o2 _ (by simp)) (o2 _ (by simp)), (d1.fr f2 (o2 _ (by simp)) (o2 _ (by simp)) (o2 _ (by simp)) (o2 _ (by simp))).mono (Nat.zero_le _), lt2.mono (Nat.zero_le _), by
    have e : (fW [] (cutB B ws ks)).length = (fW ws B).length := by rw [fW_len, fW_len]; exact ok.1
    rw [e]; exact x.w.z, ok.2, nd2⟩, f2.get hs1 (o2 _ (by simp)), f2.get hw1 (o2 _ (by simp)), hs2, hw2, ok.2, fun p hp => by cases hp⟩
  simp only [ft, List.mem_cons, List.not_mem_nil, or_false, not_or] at hn ⊢
  exact ⟨hn.1, hn.2.1, hn.2.2.1, hn.2.2.2.1, by omega, by omega, hn.2.2.2.2.2.2.1, hn.2.2.2.2.2.2.2.1, by omega⟩
/-- a word drawn from some -/
theorem pickI_sp {P : MK} (D : Dk mh dk ck) {us : List U} {sn : Nat} {lo hi : Int} (hs : mh[sn]? = some (.lst us)) (n1 : sn ≠ dk) (n2 : sn ≠ ck) (hm : 0 < us.length) (hM : us.length < 1000) (g : ∀ u ∈ us, ∃ n : Int, u = .int n ∧ lo ≤ n ∧ n ≤ hi)
    (k : ∀ n mh', lo ≤ n → n ≤ hi → Fr [dk, ck] mh mh' → Dk mh' dk ck → P (.int n) mh') : w__law_pick c [.ref dk, .ref sn] mh P := by
  refine pick_sp D hs n1 n2 hm hM fun i u mh' hu f D' => ?_
  obtain ⟨n, rfl, a, b⟩ := g _ (List.mem_of_getElem? hu)
  exact k n _ a b f D'
theorem keep_sp (D : Dk mh dk ck) {many : Int} (h0 : 0 ≤ many) (h1 : many ≤ 100)
    (k : ∀ ks mh', ks.length < 1000 → (∀ x ∈ ks, 0 ≤ x ∧ x ≤ 32) → Fr [dk, ck] mh mh' → Dk mh' dk ck → P (tU ks) mh') : w__law_keep c [.ref dk, .int many] mh P := by
  have ld := lt_dk D
  have sz : (2000 : Nat) < sizeLine := by decide
  unfold w__law_keep
  refine apM (F := P) ?_
  simp_all! only []
  refine apI (pickI_sp (lo := -101) (hi := 2) (D.fr (X := []) Fr.app (by simp) (by simp)) get_new (by omega) (by omega) (by simp) (by simp) (fun u hu => ?_) fun a mh1 a0 a1 f1 D1 => ?_)
  · simp only [List.mem_cons, List.not_mem_nil, or_false] at hu
    rcases hu with h | h | h | h | h <;> exact ⟨_, h, by omega, by omega⟩
  have f01 : Fr [dk, ck] mh mh1 := (Fr.app (X := [dk, ck])).trans f1
  simp_all! only []
  generalize hn : (if many + a > 0 then many + a else 0).toNat = n
  have hnl : n ≤ 200 := by rw [← hn]; split <;> omega
  refine lcA_ind (fun i acc mh' => Fr [dk, ck] mh1 mh' ∧ Dk mh' dk ck ∧ mh'[mh1.length]? = some (.lst acc) ∧ ∃ ws : List Int, acc = iU ws ∧ ∀ x ∈ ws, 0 ≤ x ∧ x ≤ 32) (by rw [rngU_len]; omega) ⟨Fr.app, D1.fr (X := []) Fr.app (by simp) (by simp), get_new, [], rfl, fun x hx => by cases hx⟩ ?_ ?_
  · rintro i u acc mh2 q hu al ⟨f2, D2, ha, ws, rfl, gw⟩ hq
    refine ⟨trivial, ?_⟩
    have l1 := lt_dk D1
    simp_all! only []
    refine apI (draw_sp D2 (by decide) (by decide) fun r mh3 f3 D3 r0 r1 => ?_)
    have ld3 := lt_dk D3
    simp_all! only []
    refine apI (pickI_sp (lo := 0) (hi := 32) (D3.fr (X := []) Fr.app (by simp) (by simp)) get_new (by omega) (by omega) (by simp) (by simp) (fun u hu => ?_) fun w mh4 w0 w1 f4 D4 => ?_)
    · simp only [List.mem_cons, List.not_mem_nil, or_false] at hu
      rcases hu with h | h | h | h | h | h | h <;> exact ⟨_, h, by omega, by omega⟩
    have f34 : Fr [dk, ck] mh2 mh4 := f3.trans ((Fr.app (X := [dk, ck])).trans f4)
    have ha4 := f34.get ha (by simp; omega)
    have fs : Fr [mh1.length] mh4 (mh4.set mh1.length (.lst (iU ws ++ [.int w]))) := fr_set rfl (by simp)
    refine hq _ _ ha4 ⟨(f2.trans f34).then fs (by simp), D4.fr fs (by simp; omega) (by simp; omega), get_set ha4, ws ++ [w], by simp, fun x hx => ?_⟩
    rcases List.mem_append.mp hx with hx | hx
    · exact gw x hx
    · simp at hx; subst hx; exact ⟨w0, w1⟩
  · rintro acc mh2 al ⟨f2, D2, ha, ws, rfl, gw⟩
    refine ⟨trivial, ?_⟩
    simp_all! only [ha]
    rw [rngU_len, List.length_map] at al
    exact k ws _ (by omega) gw (f01.trans f2) D2
end
end Tk13

namespace Tk13
open PySem PySem.Spec PyProof.Rows L2 Tk Sm
local macro_rules | `(tactic| simp_all! only [$ls,*]) => `(tactic| simp -implicitDefEqProofs (disch := (first | assumption | decide | rfl | omega | (simp only [List.length_append, List.length_set, List.length_cons, List.length_nil] <;> omega) | fail)) only [↓x_body, ↓x_var, ↓x_c, ↓x_un, ↓x_bin, ↓x_callB, ↓x_nil, ↓x_cons, ↓x_b, ↓x_tr, ↓x_and, ↓x_or, ↓x_not, ↓x_ifE, ↓x_andV, ↓x_orV, ↓x_notV, ↓x_chain, ↓x_next, ↓x_seq, ↓x_drop, ↓x_ret, ↓x_retN, ↓x_ifS, ↓x_never, ↓x_brk, ↓x_ct, ↓x_asg, ↓x_gN, ↓x_par, ↓x_par3, ↓x_sl, ↓x_pn, ↓x_ps, ↓x_tup, ↓x_lst, ↓x_dict0, ↓x_pairs0, ↓x_pairs1, ↓x_disp, ↓x_setF, ↓x_gSet, ↓x_call, ↓x_callK, ↓x_meth, ↓x_methK, ↓x_make, ↓x_makeK, ↓x_it, ↓x_for, ↓x_while, ↓x_rng1, ↓x_rng2, ↓x_enumL, ↓x_zip, ↓x_lc, ↓x_dc, ↓x_pop2, ↓x_lkE, ↓x_lkS, ↓x_lkI, ↓x_pv1, ↓x_pv2, ↓x_pv3, ↓x_yes, ↓x_bm, ↓x_get2, ↓x_lstRg1, x_selt, x_self, x_onl, x_ond, x_oni, x_onU, x_slot, x_boolK, x_tru_non, x_tru_bl, x_tru_int, x_tru_tup, x_tru_ref, x_rep0, x_repS, x_add_i, x_add_t, x_add_s, x_add_l, x_sub, x_mul_i, x_mul_t, x_mul_l, x_div, x_mod, x_pow, x_neg, x_cmp, x_eq_i, x_ne_i, x_eq_s, x_ne_s, x_eq_b, x_is, x_isN1, x_isN2, x_isN3, x_isN4, x_isN5, x_ix_t, x_ix_f, x_ix_ri, x_ix_rs, x_in_r, x_in_t, x_intK, x_sl_t, x_sl_f, x_sl_r, x_rev, x_list_r, x_fld, x_setFK, x_set_i, x_set_s, x_len_t, x_len_f, x_len_r, x_int_i, x_list_t, x_list_f, x_tuple_t, x_tuple_r, x_max2, x_min2, x_insOf, x_gTup, x_gTupF, x_gTupR, x_gCons, x_gNil, x_row_t, x_row_f, x_row_r, x_int2K, x_isTupR, x_wipe0, x_wipe1, x_isLst, x_append, x_extend, x_extendT, x_pop0, x_popI, x_dictC, x_sorted, x_sortedT, x_sortK, x_sortTK, x_int_b, x_isT, x_ty_non, x_ty_bl, x_ty_int, x_ty_str, x_ty_tup, x_st1, x_st2, x_st3, x_st4, x_st5, x_isC, x_isDct, x_getK, x_pthK, x_onL, x_pthL, x_pfl, x_pky, x_fldO, x_kyO, x_join, x_valsU0, x_val1, x_val2, x_val0, x_put1, x_put2, x_put0, x_lk1, x_lk2, x_lk0, x_pf1, x_pf2, x_pf0, x_sz1, x_sz2, x_k1000, x_mulL, x_mulR, x_mulM, x_divB, x_powB, x_nz, x_rgB, x_rgB2, x_dispK, x_keys0, x_keysS, x_keysI, x_omap, x_at1, x_at2, x_at3, x_at4, x_at5, x_all_r, x_any_r, kf, List.getElem?_cons_zero, List.getElem?_cons_succ, List.set_cons_zero, List.set_cons_succ, List.set_nil, List.map_cons, List.map_nil, List.cons_append, List.nil_append, List.length_cons, List.length_nil, true_and, and_true, pk, List.filterMap_cons, List.filterMap_nil, Nat.reduceAdd, Nat.reduceSub, Nat.reduceEqDiff, uKey, List.foldl_cons, List.foldl_nil, decide_true, decide_false, Nat.add_assoc, Nat.reduceLeDiff, x_hleft, x_hat0, x_hatj, x_hself, x_hput, x_hsetL, x_hset0, x_hsetj, x_hss, x_hlenS, x_hlenA, x_hass, $ls,*])
local macro_rules | `(tactic| dsimp! only [$ls,*]) => `(tactic| simp -implicitDefEqProofs (disch := (first | assumption | decide | rfl | omega | (simp only [List.length_append, List.length_set, List.length_cons, List.length_nil] <;> omega) | fail)) only [↓x_body, ↓x_var, ↓x_c, ↓x_un, ↓x_bin, ↓x_callB, ↓x_nil, ↓x_cons, ↓x_b, ↓x_tr, ↓x_and, ↓x_or, ↓x_not, ↓x_ifE, ↓x_andV, ↓x_orV, ↓x_notV, ↓x_chain, ↓x_next, ↓x_seq, ↓x_drop, ↓x_ret, ↓x_retN, ↓x_never, ↓x_brk, ↓x_ct, ↓x_asg, ↓x_gN, ↓x_par, ↓x_par3, ↓x_sl, ↓x_pn, ↓x_ps, ↓x_tup, ↓x_lst, ↓x_dict0, ↓x_pairs0, ↓x_pairs1, ↓x_disp, ↓x_setF, ↓x_gSet, ↓x_call, ↓x_callK, ↓x_meth, ↓x_methK, ↓x_make, ↓x_makeK, ↓x_it, ↓x_for, ↓x_while, ↓x_rng1, ↓x_rng2, ↓x_enumL, ↓x_zip, ↓x_lc, ↓x_dc, ↓x_pop2, ↓x_lkE, ↓x_lkS, ↓x_lkI, ↓x_pv1, ↓x_pv2, ↓x_pv3, ↓x_yes, ↓x_bm, ↓x_get2, ↓x_lstRg1, x_selt, x_self, x_onl, x_ond, x_oni, x_onU, x_slot, x_boolK, x_tru_non, x_tru_bl, x_tru_int, x_tru_tup, x_tru_ref, x_rep0, x_repS, x_add_i, x_add_t, x_add_s, x_add_l, x_sub, x_mul_i, x_mul_t, x_mul_l, x_div, x_mod, x_pow, x_neg, x_cmp, x_eq_i, x_ne_i, x_eq_s, x_ne_s, x_eq_b, x_is, x_isN1, x_isN2, x_isN3, x_isN4, x_isN5, x_ix_t, x_ix_f, x_ix_ri, x_ix_rs, x_in_r, x_in_t, x_intK, x_sl_t, x_sl_f, x_sl_r, x_rev, x_list_r, x_fld, x_setFK, x_set_i, x_set_s, x_len_t, x_len_f, x_len_r, x_int_i, x_list_t, x_list_f, x_tuple_t, x_tuple_r, x_max2, x_min2, x_insOf, x_gTup, x_gTupF, x_gTupR, x_gCons, x_gNil, x_row_t, x_row_f, x_row_r, x_int2K, x_isTupR, x_wipe0, x_wipe1, x_isLst, x_append, x_extend, x_extendT, x_pop0, x_popI, x_dictC, x_sorted, x_sortedT, x_sortK, x_sortTK, x_int_b, x_isT, x_ty_non, x_ty_bl, x_ty_int, x_ty_str, x_ty_tup, x_st1, x_st2, x_st3, x_st4, x_st5, x_isC, x_isDct, x_getK, x_pthK, x_onL, x_pthL, x_pfl, x_pky, x_fldO, x_kyO, x_join, x_valsU0, x_val1, x_val2, x_val0, x_put1, x_put2, x_put0, x_lk1, x_lk2, x_lk0, x_pf1, x_pf2, x_pf0, x_sz1, x_sz2, x_k1000, x_mulL, x_mulR, x_mulM, x_divB, x_powB, x_nz, x_rgB, x_rgB2, x_dispK, x_keys0, x_keysS, x_keysI, x_omap, x_at1, x_at2, x_at3, x_at4, x_at5, x_all_r, x_any_r, kf, List.getElem?_cons_zero, List.getElem?_cons_succ, List.set_cons_zero, List.set_cons_succ, List.set_nil, List.map_cons, List.map_nil, List.cons_append, List.nil_append, List.length_cons, List.length_nil, true_and, and_true, pk, List.filterMap_cons, List.filterMap_nil, Nat.reduceAdd, Nat.reduceSub, Nat.reduceEqDiff, uKey, List.foldl_cons, List.foldl_nil, decide_true, decide_false, Nat.add_assoc, Nat.reduceLeDiff, x_hleft, x_hat0, x_hatj, x_hself, x_hput, x_hsetL, x_hset0, x_hsetj, x_hss, x_hlenS, x_hlenA, x_hass, $ls,*])
/-! the disk is as the law's own one -/
theorem blk_shw {b : List Int} (g : Gb b) : Shw (tU b) 500 1 := by
  have h : ShwL (iU b) ((12 + 2) * (iU b).length) 0 := ShwL.all fun u hu => by
    obtain ⟨x, hx, rfl⟩ := List.mem_map.mp hu
    have := g.w x hx
    exact Shw.int this.1 (by omega)
  have l : (iU b).length = 32 := by have := g.l; simpa using this
  rw [l] at h
  exact (Shw.tup h).up (by decide) (by decide)
theorem blks_shw {B : List (List Int)} (g : ∀ b ∈ B, Gb b) (hl : B.length ≤ 2000) : Shw (.tup (B.map tU)) 2000000 2 := by
  have h : ShwL (B.map tU) ((500 + 2) * (B.map tU).length) 1 := ShwL.all fun u hu => by
    obtain ⟨x, hx, rfl⟩ := List.mem_map.mp hu
    exact blk_shw (g x hx)
  rw [List.length_map] at h
  exact (Shw.tup h).up (by omega) (by decide)
theorem ws_shw {ws : List (Nat × List Int)} (g : ∀ p ∈ ws, p.1 < 2000 ∧ Gb p.2) (hl : ws.length ≤ 1000) : Shw (.tup (ws.map wU)) 2000000 3 := by
  have h : ShwL (ws.map wU) ((1100 + 2) * (ws.map wU).length) 2 := ShwL.all fun u hu => by
    obtain ⟨x, hx, rfl⟩ := List.mem_map.mp hu
    have := g x hx
    have e : ShwL [U.int (x.1 : Nat), tU x.2] ((500 + 2) * [U.int (x.1 : Nat), tU x.2].length) 1 := ShwL.all fun v hv => by
      simp only [List.mem_cons, List.not_mem_nil, or_false] at hv
      rcases hv with rfl | rfl
      · exact (Shw.int (by omega) (by omega)).up (by decide) (by decide)
      · exact blk_shw this.2
    simp only [List.length_cons, List.length_nil] at e
    exact (Shw.tup e).up (by decide) (by decide)
  rw [List.length_map] at h
  exact (Shw.tup h).up (by omega) (by decide)
section
variable {c : Cl} {mh mh' : MH} {P : MK} {k : KM} {dk ck di st wt nw ii sw wl : Nat} {S K N R : Int} {B : List (List Int)} {ws : List (Nat × List Int)} {q : Nat}
end
end Tk13

namespace Tk13
open PySem PySem.Spec PyProof.Rows L2 Tk Sm
local macro_rules | `(tactic| simp_all! only [$ls,*]) => `(tactic| simp -implicitDefEqProofs (disch := (first | assumption | decide | rfl | omega | (simp only [List.length_append, List.length_set, List.length_cons, List.length_nil] <;> omega) | fail)) only [↓x_body, ↓x_var, ↓x_c, ↓x_un, ↓x_bin, ↓x_callB, ↓x_nil, ↓x_cons, ↓x_b, ↓x_tr, ↓x_and, ↓x_or, ↓x_not, ↓x_ifE, ↓x_andV, ↓x_orV, ↓x_notV, ↓x_chain, ↓x_next, ↓x_seq, ↓x_drop, ↓x_ret, ↓x_retN, ↓x_ifS, ↓x_never, ↓x_brk, ↓x_ct, ↓x_asg, ↓x_gN, ↓x_par, ↓x_par3, ↓x_sl, ↓x_pn, ↓x_ps, ↓x_tup, ↓x_lst, ↓x_dict0, ↓x_pairs0, ↓x_pairs1, ↓x_disp, ↓x_setF, ↓x_gSet, ↓x_call, ↓x_callK, ↓x_meth, ↓x_methK, ↓x_make, ↓x_makeK, ↓x_it, ↓x_for, ↓x_while, ↓x_rng1, ↓x_rng2, ↓x_enumL, ↓x_zip, ↓x_lc, ↓x_dc, ↓x_pop2, ↓x_lkE, ↓x_lkS, ↓x_lkI, ↓x_pv1, ↓x_pv2, ↓x_pv3, ↓x_yes, ↓x_bm, ↓x_get2, ↓x_lstRg1, x_selt, x_self, x_onl, x_ond, x_oni, x_onU, x_slot, x_boolK, x_tru_non, x_tru_bl, x_tru_int, x_tru_tup, x_tru_ref, x_rep0, x_repS, x_add_i, x_add_t, x_add_s, x_add_l, x_sub, x_mul_i, x_mul_t, x_mul_l, x_div, x_mod, x_pow, x_neg, x_cmp, x_eq_i, x_ne_i, x_eq_s, x_ne_s, x_eq_b, x_is, x_isN1, x_isN2, x_isN3, x_isN4, x_isN5, x_ix_t, x_ix_f, x_ix_ri, x_ix_rs, x_in_r, x_in_t, x_intK, x_sl_t, x_sl_f, x_sl_r, x_rev, x_list_r, x_fld, x_setFK, x_set_i, x_set_s, x_len_t, x_len_f, x_len_r, x_int_i, x_list_t, x_list_f, x_tuple_t, x_tuple_r, x_max2, x_min2, x_insOf, x_gTup, x_gTupF, x_gTupR, x_gCons, x_gNil, x_row_t, x_row_f, x_row_r, x_int2K, x_isTupR, x_wipe0, x_wipe1, x_isLst, x_append, x_extend, x_extendT, x_pop0, x_popI, x_dictC, x_sorted, x_sortedT, x_sortK, x_sortTK, x_int_b, x_isT, x_ty_non, x_ty_bl, x_ty_int, x_ty_str, x_ty_tup, x_st1, x_st2, x_st3, x_st4, x_st5, x_isC, x_isDct, x_getK, x_pthK, x_onL, x_pthL, x_pfl, x_pky, x_fldO, x_kyO, x_join, x_valsU0, x_val1, x_val2, x_val0, x_put1, x_put2, x_put0, x_lk1, x_lk2, x_lk0, x_pf1, x_pf2, x_pf0, x_sz1, x_sz2, x_k1000, x_mulL, x_mulR, x_mulM, x_divB, x_powB, x_nz, x_rgB, x_rgB2, x_dispK, x_keys0, x_keysS, x_keysI, x_omap, x_at1, x_at2, x_at3, x_at4, x_at5, x_all_r, x_any_r, kf, List.getElem?_cons_zero, List.getElem?_cons_succ, List.set_cons_zero, List.set_cons_succ, List.set_nil, List.map_cons, List.map_nil, List.cons_append, List.nil_append, List.length_cons, List.length_nil, true_and, and_true, pk, List.filterMap_cons, List.filterMap_nil, Nat.reduceAdd, Nat.reduceSub, Nat.reduceEqDiff, uKey, List.foldl_cons, List.foldl_nil, decide_true, decide_false, Nat.add_assoc, Nat.reduceLeDiff, x_hleft, x_hat0, x_hatj, x_hself, x_hput, x_hsetL, x_hset0, x_hsetj, x_hss, x_hlenS, x_hlenA, x_hass, $ls,*])
local macro_rules | `(tactic| dsimp! only [$ls,*]) => `(tactic| simp -implicitDefEqProofs (disch := (first | assumption | decide | rfl | omega | (simp only [List.length_append, List.length_set, List.length_cons, List.length_nil] <;> omega) | fail)) only [↓x_body, ↓x_var, ↓x_c, ↓x_un, ↓x_bin, ↓x_callB, ↓x_nil, ↓x_cons, ↓x_b, ↓x_tr, ↓x_and, ↓x_or, ↓x_not, ↓x_ifE, ↓x_andV, ↓x_orV, ↓x_notV, ↓x_chain, ↓x_next, ↓x_seq, ↓x_drop, ↓x_ret, ↓x_retN, ↓x_never, ↓x_brk, ↓x_ct, ↓x_asg, ↓x_gN, ↓x_par, ↓x_par3, ↓x_sl, ↓x_pn, ↓x_ps, ↓x_tup, ↓x_lst, ↓x_dict0, ↓x_pairs0, ↓x_pairs1, ↓x_disp, ↓x_setF, ↓x_gSet, ↓x_call, ↓x_callK, ↓x_meth, ↓x_methK, ↓x_make, ↓x_makeK, ↓x_it, ↓x_for, ↓x_while, ↓x_rng1, ↓x_rng2, ↓x_enumL, ↓x_zip, ↓x_lc, ↓x_dc, ↓x_pop2, ↓x_lkE, ↓x_lkS, ↓x_lkI, ↓x_pv1, ↓x_pv2, ↓x_pv3, ↓x_yes, ↓x_bm, ↓x_get2, ↓x_lstRg1, x_selt, x_self, x_onl, x_ond, x_oni, x_onU, x_slot, x_boolK, x_tru_non, x_tru_bl, x_tru_int, x_tru_tup, x_tru_ref, x_rep0, x_repS, x_add_i, x_add_t, x_add_s, x_add_l, x_sub, x_mul_i, x_mul_t, x_mul_l, x_div, x_mod, x_pow, x_neg, x_cmp, x_eq_i, x_ne_i, x_eq_s, x_ne_s, x_eq_b, x_is, x_isN1, x_isN2, x_isN3, x_isN4, x_isN5, x_ix_t, x_ix_f, x_ix_ri, x_ix_rs, x_in_r, x_in_t, x_intK, x_sl_t, x_sl_f, x_sl_r, x_rev, x_list_r, x_fld, x_setFK, x_set_i, x_set_s, x_len_t, x_len_f, x_len_r, x_int_i, x_list_t, x_list_f, x_tuple_t, x_tuple_r, x_max2, x_min2, x_insOf, x_gTup, x_gTupF, x_gTupR, x_gCons, x_gNil, x_row_t, x_row_f, x_row_r, x_int2K, x_isTupR, x_wipe0, x_wipe1, x_isLst, x_append, x_extend, x_extendT, x_pop0, x_popI, x_dictC, x_sorted, x_sortedT, x_sortK, x_sortTK, x_int_b, x_isT, x_ty_non, x_ty_bl, x_ty_int, x_ty_str, x_ty_tup, x_st1, x_st2, x_st3, x_st4, x_st5, x_isC, x_isDct, x_getK, x_pthK, x_onL, x_pthL, x_pfl, x_pky, x_fldO, x_kyO, x_join, x_valsU0, x_val1, x_val2, x_val0, x_put1, x_put2, x_put0, x_lk1, x_lk2, x_lk0, x_pf1, x_pf2, x_pf0, x_sz1, x_sz2, x_k1000, x_mulL, x_mulR, x_mulM, x_divB, x_powB, x_nz, x_rgB, x_rgB2, x_dispK, x_keys0, x_keysS, x_keysI, x_omap, x_at1, x_at2, x_at3, x_at4, x_at5, x_all_r, x_any_r, kf, List.getElem?_cons_zero, List.getElem?_cons_succ, List.set_cons_zero, List.set_cons_succ, List.set_nil, List.map_cons, List.map_nil, List.cons_append, List.nil_append, List.length_cons, List.length_nil, true_and, and_true, pk, List.filterMap_cons, List.filterMap_nil, Nat.reduceAdd, Nat.reduceSub, Nat.reduceEqDiff, uKey, List.foldl_cons, List.foldl_nil, decide_true, decide_false, Nat.add_assoc, Nat.reduceLeDiff, x_hleft, x_hat0, x_hatj, x_hself, x_hput, x_hsetL, x_hset0, x_hsetj, x_hss, x_hlenS, x_hlenA, x_hass, $ls,*])
/-! the law -/
section
variable {c : Cl} {mh mh' : MH} {P : MK} {k : KM} {dk ck di st wt nw ii sw wl : Nat} {S K N R : Int} {B : List (List Int)} {ws : List (Nat × List Int)} {q : Nat}
theorem X3.lw (x : X3 c mh dk ck di st wt nw ii sw wl S K N R B ws q) : ws.length ≤ q := by
  obtain ⟨_, B', ws', _, e, _, l, _⟩ := x.w.l
  rw [x.hW] at e
  have := congrArg (fun o => match o with | some (MO.lst us) => us.length | _ => 0) e
  simp at this
  omega
theorem X3.wrote {mh2 : MH} {pj : Nat} {b : List Int} (x : X3 c mh dk ck di st wt nw ii sw wl S K N R B ws q) (hp1 : pj < (fW ws B).length) (gbj : Gb b) (f2 : Fr [wt, nw] mh mh2) (d2 : Dsk c mh2 di st wt nw S K N R ((fW ws B).set pj b) (q + 1)) (aw : mh2[wt]? = some (.lst (ws.map wU ++ [wU (pj, b)]))) :
    mh2[ii]? = some (.dK [(.inr "sizes", .tup [.int S, .int K, .int N, .int R]), (.inr "stand", .ref sw), (.inr "wait", .ref wl), (.inr "fuse", .non)]) ∧ mh2[wl]? = some (.lst (ws.map wU)) ∧
    ∀ mh3, mh2.set ii (.dK [(.inr "sizes", .tup [.int S, .int K, .int N, .int R]), (.inr "stand", .ref sw), (.inr "wait", .ref (mh2.length + 1)), (.inr "fuse", .non)]) = mh3 →
      X3 c (mh3 ++ [.lst [.tup [.int (pj : Nat), tU b]], .lst (ws.map wU ++ [.tup [.int (pj : Nat), tU b]])]) dk ck di st wt nw ii sw (mh2.length + 1) S K N R B (ws ++ [(pj, b)]) (q + 1) ∧
      Fr [wt, nw, ii] mh (mh3 ++ [.lst [.tup [.int (pj : Nat), tU b]], .lst (ws.map wU ++ [.tup [.int (pj : Nat), tU b]])]) := by
  have nd := x.w.nd
  have o1 : ∀ y ∈ [dk, ck, di, st, ii, sw, wl], y ∉ [wt, nw] := fun y hy hz => by
    simp only [List.nodup_cons, List.mem_cons, List.not_mem_nil, or_false, not_or] at nd hy hz
    grind
  have oo := f2.get x.w.l.d (o1 _ (by simp))
  have a1 := f2.get x.hS (o1 _ (by simp))
  have a2 := f2.get x.hW (o1 _ (by simp))
  have as := f2.get x.hs (o1 _ (by simp))
  refine ⟨oo, a2, fun mh3 e2 => ?_⟩
  obtain ⟨w15, f15, l15⟩ := x.w.put (j := pj) hp1 gbj f2 d2 oo a1 (fW_len ws B).symm x.lw (fun p hp => by rw [fW_len]; exact (x.gw p hp).1) rfl e2
  have oii : ∀ y ∈ [st, wt, sw], y ≠ ii := fun y hy hz => by
    simp only [List.nodup_cons, List.mem_cons, List.not_mem_nil, or_false, not_or] at nd hy hz
    grind
  have e3 := len_set e2
  refine ⟨⟨?_, get_app (of_put e2 as (oii st (by simp)).symm), ?_, get_app (of_put e2 a1 (oii sw (by simp)).symm), ?_, x.g, ?_⟩, f15⟩
  · have e : fW (ws ++ [(pj, b)]) B = (fW ws B).set pj b := by simp [fW, List.foldl_append]
    rw [e]
    exact w15
  · have := get_app (t := [.lst [.tup [.int (pj : Nat), tU b]], .lst ((ws.map fun p => U.tup [.int (p.1 : Nat), tU p.2]) ++ [.tup [.int (pj : Nat), tU b]])]) (of_put e2 aw (oii wt (by simp)).symm)
    simpa using this
  · rw [← e3, x_hatj rfl]; simp
  · intro p hp
    rcases List.mem_append.mp hp with hp | hp
    · exact x.gw p hp
    · simp at hp; subst hp; exact ⟨by rw [← fW_len ws B]; exact hp1, gbj⟩
theorem len6 {α : Type} {r : List α} (h : r.length = 6) : ∃ a b c d e f, r = [a, b, c, d, e, f] := by
  match r, h with
  | [a, b, c, d, e, f], _ => exact ⟨_, _, _, _, _, _, rfl⟩
theorem X3.cut0 {ks : List Int} (x : X3 c mh dk ck di st wt nw ii sw wl S K N R B [] q) (gk : ∀ x ∈ ks, 0 ≤ x ∧ x ≤ 32) (hl : ks.length < 1000)
    (k : ∀ wt' nw' mh', X3 c mh' dk ck di st wt' nw' ii sw wl S K N R B [] q → P .non mh') : w_Disk_cut c [.ref di, tU ks] mh P := by
  refine x.w.d.cut x.hs x.hw x.g x.gw gk hl fun wt' nw' mh1 f1 l1 l2 n d1 hs1 hw1 => k wt' nw' mh1 ?_
  have nd := x.w.nd
  have lt := x.w.lt
  have nd1 := nd_wn nd lt l1 l2 n
  have o1 : ∀ y ∈ [dk, ck, ii, sw, wl], y ∉ [di, st] := fun y hy hz => by
    simp only [List.nodup_cons, List.mem_cons, List.not_mem_nil, or_false, not_or] at nd hy hz
    grind
  have e0 : cutB B [] ks = B := rfl
  rw [e0] at d1 hs1
  exact ⟨⟨x.w.D.fr f1 (o1 _ (by simp)) (o1 _ (by simp)), d1.mono (Nat.zero_le _), x.w.l.fr f1 (o1 _ (by simp)) (o1 _ (by simp)) (o1 _ (by simp)), x.w.z, x.w.g, nd1⟩, hs1, hw1, f1.get x.hS (o1 _ (by simp)), f1.get x.hW (o1 _ (by simp)), x.g, fun p hp => by cases hp⟩
theorem repr_non {mh : MH} {P : MK} (p : P (.str "None") mh) : ap (k := ⟨P⟩) (uRepr [.non] mh) := by
  obtain ⟨m, a⟩ := (Dat.non : Dat .non .none)
  exact ⟨m, .none, a mh m (Nat.le_refl _), (Sh.none).up (by decide) (by decide), p⟩
theorem main (c : Cl) (ns : List Int) (h : ns.length ≤ 63) : w_law c [.fz (ns.map U.int)] [] fun u _ => u = .bl true := by
  have szl : (2000 : Nat) < sizeLine := by decide
  unfold w_law
  refine apM (F := fun (u : U) (_ : MH) => u = U.bl true) ?_
  simp_all! only []
  refine apI (deck_sp h fun dk ck mh0 f0 l0 l1 n0 D0 => ?_)
  simp_all! only []
  refine apI (dsizes_sp D0 fun S K N R mh1 z f1 D1 => ?_)
  have s0 := z.s0
  have s1 := z.s1
  have k0 := z.k0
  have k1 := z.k1
  have ld1 := lt_dk D1
  simp_all! only []
  refine apI (init_sp (di := mh1.length) get_new s0 s1 k0 k1 fun st wt nw N' R' mh3 z' f3 l3 l4 l5 d3 => ⟨rfl, ?_⟩)
  have eN : N' = N := z'.n.trans z.n.symm
  subst eN
  have eR : R' = R := by have := z.r0; have := z.r1; have := z'.r0; have := z'.r1; omega
  subst eR
  have hl : mh1.length + 1 ≤ mh3.length := by have := f3.1; simpa using this
  simp only [List.length_append, List.length_cons, List.length_nil] at l3 l4 l5
  have D3 := (D1.fr (X := []) (mh' := mh1 ++ [.ins c.Disk []]) Fr.app (by simp) (by simp)).fr f3 (by simp <;> omega) (by simp <;> omega)
  have lts : st < mh3.length ∧ wt < mh3.length ∧ nw < mh3.length := by
    obtain ⟨_, _, _, _, _, q1, q2, q3, _⟩ := d3
    exact ⟨lt_of q1, lt_of q2, lt_of q3⟩
  simp_all! only []
  refine apI (blank_sp z fun ii sw wl mh4 f4 l6 l7 l8 n1 n2 n3 d4 => ?_)
  have D4 := D3.fr f4 (by simp) (by simp)
  have d5 := d3.fr f4 (by simp) (by simp) (by simp) (by simp)
  have nes := d5.nes
  have nsw := d5.ne
  have nd : [dk, ck, mh1.length, st, wt, nw, ii, sw, wl].Nodup := by
    obtain ⟨e1, e2, e3, e4, e5⟩ := nes
    simp only [List.nodup_cons, List.mem_cons, List.not_mem_nil, or_false, not_or, not_false_eq_true, List.nodup_nil, and_true]
    exact ⟨⟨n0, by omega, by omega, by omega, by omega, by omega, by omega, by omega⟩, ⟨by omega, by omega, by omega, by omega, by omega, by omega, by omega⟩, ⟨e1, e2, e3, by omega, by omega, by omega⟩, ⟨nsw, e4, by omega, by omega, by omega⟩, ⟨e5, by omega, by omega, by omega⟩, ⟨by omega, by omega, by omega⟩, ⟨n1, n2⟩, n3⟩
  have zM : Sz S K N' R' (List.replicate (2 * R' + S * K).toNat blank).length := by
    rw [List.length_replicate]
    have : (((2 * R' + S * K).toNat : Nat) : Int) = 2 * R' + S * K := by have := z.sk0; have := z.n0; have := z.r0; omega
    rw [this]
    exact z
  have x4 : X3 c mh4 dk ck mh1.length st wt nw ii sw wl S K N' R' (List.replicate (2 * R' + S * K).toNat blank) [] 0 := by
    have w4 : W3 c mh4 dk ck mh1.length st wt nw ii sw wl S K N' R' (List.replicate (2 * R' + S * K).toNat blank) 0 := ⟨D4, d5, d4, zM, fun b hb => by rw [List.eq_of_mem_replicate hb]; exact gb_blank, nd⟩
    obtain ⟨_, _, B5, ws5, kv5, hs5, hw5, _, lB5, lw5, _, _, hE5, _⟩ := d5
    have hw0 : ws5 = [] := List.eq_nil_of_length_eq_zero (by omega)
    subst hw0
    have hB5 : List.replicate (2 * R' + S * K).toNat blank = B5 := hE5
    subst hB5
    obtain ⟨_, B6, ws6, hs6, hw6, lB6, lw6, _, hE6⟩ := d4
    have hw0 : ws6 = [] := List.eq_nil_of_length_eq_zero (by omega)
    subst hw0
    have hB6 : List.replicate (2 * R' + S * K).toNat blank = B6 := hE6
    subst hB6
    exact ⟨w4, hs5, hw5, hs6, hw6, fun b hb => by rw [List.eq_of_mem_replicate hb]; exact gb_blank, fun p hp => by cases hp⟩
  have lB : ((List.replicate (2 * R' + S * K).toNat blank).length : Int) = 2 * R' + S * K := zM.m
  clear zM
  generalize (List.replicate (2 * R' + S * K).toNat blank) = B at *
  generalize mh1.length = di at *
  clear nd D3 D4 d5 d4 d3 f3 f4 z' hl l3 l4 l5 l6 l7 l8 lts nes nsw n1 n2 n3 ld1 D1 f1 D0 f0 l0 l1
  have hz : ∃ M, Sz S K N' R' M := ⟨_, z⟩
  have sk0 := z.sk0
  have sk1 := z.sk1
  have zr0 := z.r0
  have zr1 := z.r1
  have zn0 := z.n0
  have zn1 := z.n1
  simp_all! only []
  refine forA_ind (fun i sl mh => ∃ (r : Sl) (st wt nw wl : Nat) (B : List (List Int)), sl = some (.fz (iU ns)) :: some (.ref dk) :: some (.tup [.int S, .int K, .int N', .int R']) :: some (.ref di) :: some (.ref ii) :: r ∧ r.length = 8 ∧ X3 c mh dk ck di st wt nw ii sw wl S K N' R' B [] (11 * i) ∧ (B.length : Int) = 2 * R' + S * K) ?_ ?_ ?_
  · exact ⟨_, st, wt, nw, wl, B, rfl, rfl, x4, lB⟩
  · clear x4
    rintro i u sl mh5 q5 hu ⟨r, st, wt, nw, wl, B', rfl, lr, x5, lB'⟩ hq
    obtain ⟨rfl, hi⟩ := rngU_get hu
    have hi : i < 4 := hi
    refine ⟨trivial, ?_⟩
    obtain ⟨y5, y6, y7, y8, y9, y10, y11, y12, rfl⟩ : ∃ a b c d e f g h, r = [a, b, c, d, e, f, g, h] := by
      match r, lr with
      | [a, b, c, d, e, f, g, h], _ => exact ⟨_, _, _, _, _, _, _, _, rfl⟩
    have eB : B'.length = B.length := by omega
    have ldk := x5.w.lt dk (by simp)
    have lck := x5.w.lt ck (by simp)
    dsimp! only []
    refine lcA_ind (fun i acc mh' => ∃ ns : List Int, acc = iU ns ∧ ns.length = i ∧ (∀ p ∈ ns, 0 ≤ p ∧ p < B.length) ∧ Fr [dk, ck] mh5 mh' ∧ Dk mh' dk ck ∧ mh'[mh5.length]? = some (.lst acc)) (by rw [rngU_len]; decide) ⟨[], rfl, rfl, by simp, Fr.app, x5.w.D.fr (X := []) Fr.app (by simp) (by simp), get_new⟩ ?_ ?_
    · rintro i u acc mh6 q6 hu la ⟨ns, rfl, ln, gn, f6, D6, h6⟩ hq6
      refine ⟨trivial, ?_⟩
      simp_all! only [y_many hz]
      refine apI (draw_sp D6 (by omega) (by omega) fun p mh7 f7 D7 p0 p1 => ?_)
      have h7 := f7.get h6 (by simp; omega)
      have fs : Fr [mh5.length] mh7 (mh7.set mh5.length (.lst (iU ns ++ [.int p]))) := fr_set rfl (by simp)
      refine hq6 _ _ h7 ⟨ns ++ [p], by simp, by simp [ln], fun z hz => ?_, (f6.trans f7).then fs (by simp), D7.fr fs (by simp; omega) (by simp; omega), get_set h7⟩
      rcases List.mem_append.mp hz with hz | hz
      · exact gn z hz
      · simp at hz; subst hz; exact ⟨p0, by omega⟩
    rintro acc mh6 la ⟨fs, rfl, ln, gn, f6, D6, h6⟩
    refine ⟨trivial, ?_⟩
    rw [rngU_len] at ln
    have ln : fs.length = 3 := ln
    have x6 := x5.draw f6 D6
    have fo : mh5.length ∉ ft dk ck di st wt nw ii sw wl := x5.w.out (Nat.le_refl _)
    clear x5 f6 D6 ldk lck
    generalize mh5.length = fw at *
    dsimp! only []
    refine apI (draw_sp x6.w.D (by decide) (by decide) fun n1 mh7 f7 D7 a0 a1 => ?_)
    have x7 := x6.draw f7 D7
    have h7 := f7.get h6 (by simp only [ft, List.mem_cons, List.not_mem_nil, or_false, not_or] at fo ⊢; exact ⟨fo.1, fo.2.1⟩)
    clear x6 h6 f7 D7
    dsimp! only []
    refine forA_ind (fun j sl mh => ∃ (y7 y8 y9 : Option U) (wl : Nat) (ws : List (Nat × List Int)), sl = [some (.fz (iU ns)), some (.ref dk), some (.tup [.int S, .int K, .int N', .int R']), some (.ref di), some (.ref ii), some (.int (0 + (i : Int))), some (.ref fw), y7, y8, y9, y10, y11, y12] ∧ X3 c mh dk ck di st wt nw ii sw wl S K N' R' B' ws (11 * i + j) ∧ mh[fw]? = some (.lst (iU fs)) ∧ fw ∉ ft dk ck di st wt nw ii sw wl) ?_ ?_ ?_
    · exact ⟨_, _, _, wl, _, rfl, x7, h7, fo⟩
    · clear x7 h7 fo
      rintro j v sl mh20 q20 hv ⟨y7, y8, y9, wl, ws, rfl, x20, h20, fo⟩ hq20
      obtain ⟨rfl, hj⟩ := rngU_get hv
      refine ⟨trivial, ?_⟩
      have fo' := fo
      simp only [ft, List.mem_cons, List.not_mem_nil, or_false, not_or] at fo'
      have lE : (fW ws B').length = B'.length := fW_len ws B'
      simp_all! only []
      refine apI (pickI_sp (lo := 0) (hi := (B.length : Int) - 1) x20.w.D h20 fo'.1 fo'.2.1 (by simp [ln]) (by simp [ln]) (fun u hu => by
        obtain ⟨p, hp, rfl⟩ := List.mem_map.mp hu
        have := gn p hp
        exact ⟨p, rfl, this.1, by omega⟩) fun p mh21 p0 p1 f21 D21 => ?_)
      have x21 := x20.draw f21 D21
      have h21 := f21.get h20 (by simp; exact ⟨fo'.1, fo'.2.1⟩)
      clear x20 h20 f21 D21
      simp_all! only []
      refine apI (block_sp x21.w.D fun b mh22 gb f22 D22 => ?_)
      have x22 := x21.draw f22 D22
      have h22 := f22.get h21 (by simp; exact ⟨fo'.1, fo'.2.1⟩)
      clear x21 h21 f22 D22
      have hpE : p < (fW ws B').length := by omega
      simp_all! only [x22.w.d.ni (m := "write") (by decide)]
      refine apI (x22.w.d.writeX (p := p) (by omega) hpE gb (by omega) fun mh23 f23 d23 hx => ?_)
      have aw := hx _ x22.hw
      obtain ⟨pj, rfl⟩ := Int.eq_ofNat_of_zero_le p0
      rw [Int.toNat_natCast] at d23
      obtain ⟨oo, a2, fin⟩ := x22.wrote (by omega) gb f23 d23 aw
      have lo := lt_of oo
      have lw := lt_of a2
      have s2 : (ws.map wU).length + 1 ≤ sizeLine := by rw [List.length_map]; have := x22.lw; omega
      simp_all! only [oo, a2, s2]
      generalize e2 : mh23.set ii _ = mh24
      obtain ⟨x24, f24⟩ := fin mh24 e2
      have h24 := f24.get h22 (by simp; exact ⟨fo'.2.2.2.2.1, fo'.2.2.2.2.2.1, fo'.2.2.2.2.2.2.1⟩)
      have fo24 : fw ∉ ft dk ck di st wt nw ii sw (mh23.length + 1) := by
        have q1 := lt_of h22
        have q2 := f23.1
        simp only [ft, List.mem_cons, List.not_mem_nil, or_false, not_or]
        exact ⟨fo'.1, fo'.2.1, fo'.2.2.1, fo'.2.2.2.1, fo'.2.2.2.2.1, fo'.2.2.2.2.2.1, fo'.2.2.2.2.2.2.1, fo'.2.2.2.2.2.2.2.1, by omega⟩
      exact hq20 _ _ ⟨_, _, _, mh23.length + 1, ws ++ [(pj, b)], rfl, x24, h24, fo24⟩

    clear x7 h7 fo
    rintro sl mh8 ⟨y7, y8, y9, wl, ws, rfl, x8, h8, fo⟩
    refine ⟨trivial, ?_⟩
    rw [rngU_len] at x8
    have lE : (fW ws B').length = B'.length := fW_len ws B'
    have fo' := fo
    simp only [ft, List.mem_cons, List.not_mem_nil, or_false, not_or] at fo'
    dsimp! only [x8.w.d.ni (m := "force") (by decide)]
    refine apI (x8.force fun wt' nw' mh9 f9 l9 l9' w9 hs9 hw9 => ?_)
    dsimp! only []
    refine apI (w9.forcedX hs9 hw9 fun wl' mh10 f10 l10 x10 => ?_)
    have q1 := lt_of h8
    have q2 := f9.1
    have h10 := f10.get (f9.get h8 (by simp; exact ⟨fo'.2.2.1, fo'.2.2.2.1⟩)) (by simp; exact ⟨fo'.2.2.2.2.2.2.1, fo'.2.2.2.2.2.2.2.1⟩)
    have fo10 : fw ∉ ft dk ck di st wt' nw' ii sw wl' := by
      simp only [ft, List.mem_cons, List.not_mem_nil, or_false, not_or]
      exact ⟨fo'.1, fo'.2.1, fo'.2.2.1, fo'.2.2.2.1, by omega, by omega, fo'.2.2.2.2.2.2.1, fo'.2.2.2.2.2.2.2.1, by omega⟩
    have x10 : X3 c mh10 dk ck di st wt' nw' ii sw wl' S K N' R' (fW ws B') [] (11 * i + n1.toNat) := x10
    have lB9 : ((fW ws B').length : Int) = 2 * R' + S * K := by rw [lE]; exact lB'
    generalize fW ws B' = B9 at *
    clear x8 h8 f9 w9 hs9 hw9 f10 fo fo' lE l9 l9' l10 q1 q2
    have eB9 : B9.length = B.length := by omega
    have n1b : n1.toNat ≤ 2 := by omega
    generalize hq0 : 11 * i + n1.toNat = q0 at *
    dsimp! only []
    refine apI (draw_sp x10.w.D (by decide) (by decide) fun many mh11 f11 D11 b0 b1 => ?_)
    have x11 := x10.draw f11 D11
    have h11 := f11.get h10 (by simp only [ft, List.mem_cons, List.not_mem_nil, or_false, not_or] at fo10 ⊢; exact ⟨fo10.1, fo10.2.1⟩)
    clear x10 h10 f11 D11
    dsimp! only []
    refine forA_ind (fun j sl mh => ∃ (y7 y8 y9 : Option U) (wl : Nat) (ws : List (Nat × List Int)), sl = [some (.fz (iU ns)), some (.ref dk), some (.tup [.int S, .int K, .int N', .int R']), some (.ref di), some (.ref ii), some (.int (0 + (i : Int))), some (.ref fw), y7, y8, y9, some (.int many), y11, y12] ∧ X3 c mh dk ck di st wt' nw' ii sw wl S K N' R' B9 ws (q0 + j) ∧ mh[fw]? = some (.lst (iU fs)) ∧ fw ∉ ft dk ck di st wt' nw' ii sw wl) ?_ ?_ ?_
    · exact ⟨_, _, _, wl', _, rfl, x11, h11, fo10⟩
    · clear x11 h11 fo10
      rintro j v sl mh20 q20 hv ⟨y7, y8, y9, wl, ws, rfl, x20, h20, fo⟩ hq20
      obtain ⟨rfl, hj⟩ := rngU_get hv
      refine ⟨trivial, ?_⟩
      have fo' := fo
      simp only [ft, List.mem_cons, List.not_mem_nil, or_false, not_or] at fo'
      have lE : (fW ws B9).length = B9.length := fW_len ws B9
      simp_all! only []
      refine apI (pickI_sp (lo := 0) (hi := (B.length : Int) - 1) x20.w.D h20 fo'.1 fo'.2.1 (by simp [ln]) (by simp [ln]) (fun u hu => by
        obtain ⟨p, hp, rfl⟩ := List.mem_map.mp hu
        have := gn p hp
        exact ⟨p, rfl, this.1, by omega⟩) fun p mh21 p0 p1 f21 D21 => ?_)
      have x21 := x20.draw f21 D21
      have h21 := f21.get h20 (by simp; exact ⟨fo'.1, fo'.2.1⟩)
      clear x20 h20 f21 D21
      simp_all! only []
      refine apI (block_sp x21.w.D fun b mh22 gb f22 D22 => ?_)
      have x22 := x21.draw f22 D22
      have h22 := f22.get h21 (by simp; exact ⟨fo'.1, fo'.2.1⟩)
      clear x21 h21 f22 D22
      have hpE : p < (fW ws B9).length := by omega
      simp_all! only [x22.w.d.ni (m := "write") (by decide)]
      refine apI (x22.w.d.writeX (p := p) (by omega) hpE gb (by omega) fun mh23 f23 d23 hx => ?_)
      have aw := hx _ x22.hw
      obtain ⟨pj, rfl⟩ := Int.eq_ofNat_of_zero_le p0
      rw [Int.toNat_natCast] at d23
      obtain ⟨oo, a2, fin⟩ := x22.wrote (by omega) gb f23 d23 aw
      have lo := lt_of oo
      have lw := lt_of a2
      have s2 : (ws.map wU).length + 1 ≤ sizeLine := by rw [List.length_map]; have := x22.lw; omega
      simp_all! only [oo, a2, s2]
      generalize e2 : mh23.set ii _ = mh24
      obtain ⟨x24, f24⟩ := fin mh24 e2
      have h24 := f24.get h22 (by simp; exact ⟨fo'.2.2.2.2.1, fo'.2.2.2.2.2.1, fo'.2.2.2.2.2.2.1⟩)
      have fo24 : fw ∉ ft dk ck di st wt' nw' ii sw (mh23.length + 1) := by
        have q1 := lt_of h22
        have q2 := f23.1
        simp only [ft, List.mem_cons, List.not_mem_nil, or_false, not_or]
        exact ⟨fo'.1, fo'.2.1, fo'.2.2.1, fo'.2.2.2.1, fo'.2.2.2.2.1, fo'.2.2.2.2.2.1, fo'.2.2.2.2.2.2.1, fo'.2.2.2.2.2.2.2.1, by omega⟩
      exact hq20 _ _ ⟨_, _, _, mh23.length + 1, ws ++ [(pj, b)], rfl, x24, h24, fo24⟩

    clear x11 h11 fo10
    rintro sl mh12 ⟨y7, y8, y9, wl, ws, rfl, x12, h12, fo⟩
    refine ⟨trivial, ?_⟩
    rw [rngU_len] at x12
    have x12 := x12.mono (show q0 + many.toNat ≤ 11 * i + 11 by omega)
    dsimp! only []
    refine apI (draw_sp x12.w.D (by decide) (by decide) fun way mh13 f13 D13 c0 c1 => ?_)
    have x13 := x12.draw f13 D13
    have h13 := f13.get h12 (by simp only [ft, List.mem_cons, List.not_mem_nil, or_false, not_or] at fo ⊢; exact ⟨fo.1, fo.2.1⟩)
    clear x12 h12 f13 D13
    simp only [x_gN, x_seq, List.set_cons_succ, List.set_cons_zero]
    refine joinS (X := mAsg _ _) (fun sl mh => ∃ ks : List Int, sl = [some (.fz (iU ns)), some (.ref dk), some (.tup [.int S, .int K, .int N', .int R']), some (.ref di), some (.ref ii), some (.int (0 + (i : Int))), some (.ref fw), y7, y8, y9, some (.int many), some (.int way), some (tU ks)] ∧ ks.length < 1000 ∧ (∀ x ∈ ks, 0 ≤ x ∧ x ≤ 32) ∧ X3 c mh dk ck di st wt' nw' ii sw wl S K N' R' B9 ws (11 * i + 11) ∧ mh[fw]? = some (.lst (iU fs))) ?_ ?_
    · clear x13 h13
      rintro sl mh14 ⟨ks, rfl, lks, gk, x14, h14⟩
      have ok := cutF_ok (ws.zip ks) B9 x14.g fun p hp => by
        have h1 := x14.gw _ (List.of_mem_zip hp).1
        have h2 := gk _ (List.of_mem_zip hp).2
        exact ⟨h1.1, h1.2, h2.1, h2.2⟩
      have lC : (cutB B9 ws ks).length = B9.length := ok.1
      have gC : ∀ b ∈ cutB B9 ws ks, Gb b := ok.2
      have q1 := lt_of h14
      have fo' := fo
      simp only [ft, List.mem_cons, List.not_mem_nil, or_false, not_or] at fo'
      simp_all! only []
      refine sel (fun hg => ?_) fun hg => ?_
      · simp_all! only [x14.w.d.ni (m := "cut") (by decide)]
        refine apI (x14.cut gk lks fun wt2 nw2 mh15 f15 kk => ?_)
        refine repr_non ?_
        simp_all! only [Bool.not_true]
        refine apI (kk fun wl2 mh16 f16 fo16 x16 => ?_)
        have h16 := f16.get h14 (by simp only [List.mem_cons, List.not_mem_nil, or_false, not_or]; exact ⟨fo'.2.2.1, fo'.2.2.2.1, fo'.2.2.2.2.2.2.1, fo'.2.2.2.2.2.2.2.1⟩)
        have fo17 := fo16 fw q1 fo
        have o16 := x16.w.d.o
        have hd16 := x16.w.l.d
        generalize cutB B9 ws ks = C at *
        clear x14 h14 f15 kk f16 fo16
        have eC : C.length = B.length := by omega
        obtain ⟨str, hstr⟩ := repr_val (u := .tup [.tup [], .tup (C.map tU)]) (p := 9000000) (q := 10) ((Shw.tup (ShwL.all (p := 2000000) (q := 3) (us := [.tup [], .tup (C.map tU)]) fun v hv => by
          simp only [List.mem_cons, List.not_mem_nil, or_false] at hv
          rcases hv with rfl | rfl
          · exact (Shw.tup (ShwL.nil (q := 0))).up (by decide) (by decide)
          · exact (blks_shw gC (by omega)).up (by decide) (by decide))).up (by simp only [List.length_cons, List.length_nil]; omega) (by decide)) (by decide) (by decide)
        obtain ⟨str3, hstr3⟩ := repr_val (blks_shw gC (by omega)) (by decide) (by decide)
        simp_all! only [o16, x16.hs, x16.hw, hd16, x16.hS, w_Disk_waiting, w_Disk_standing, fc__waiting, fc__standing, List.mem_cons, List.not_mem_nil, or_false]
        refine apI (hstr _ _ ?_)
        simp_all! only [hd16, x16.hS]
        refine apI (hstr _ _ ?_)
        simp_all! only [Bool.not_true, h16]
        have sh : ShwL (fs.map fun p => tU (C.getD p.toNat [])) ((500 + 2) * (fs.map fun p => tU (C.getD p.toNat [])).length) 1 := ShwL.all fun v hv => by
          obtain ⟨p, hp, rfl⟩ := List.mem_map.mp hv
          have := gn p hp
          refine blk_shw (gC _ ?_)
          rw [List.getD_eq_getElem?_getD, List.getElem?_eq_getElem (by omega)]
          exact List.getElem_mem _
        obtain ⟨str2, hstr2⟩ := repr_lst sh (by rw [List.length_map]; omega) (by decide)
        rw [lcA_mapE (φ := U.int) (f := fun p => tU (C.getD p.toNat [])) (by omega) (fun t => get_app h16)]
        · simp_all! only []
          refine apI (hstr2 _ _ _ get_new ?_)
          have x17 := x16.grow (mh' := mh16 ++ [.lst (fs.map fun p => tU (C.getD p.toNat []))]) Fr.app
          have h17 := get_app (t := [.lst (fs.map fun p => tU (C.getD p.toNat []))]) h16
          generalize mh16 ++ [.lst (fs.map fun p => tU (C.getD p.toNat []))] = mh17 at *
          simp_all! only [h17]
          rw [lcA_mapE (φ := U.int) (f := fun p => tU (C.getD p.toNat [])) (by omega) (fun t => get_app h17)]
          · simp_all! only []
            refine apI (hstr2 _ _ _ get_new ?_)
            have x18 := x17.grow (mh' := mh17 ++ [.lst (fs.map fun p => tU (C.getD p.toNat []))]) Fr.app
            generalize mh17 ++ [.lst (fs.map fun p => tU (C.getD p.toNat []))] = mh18 at *
            simp_all! only [Bool.not_true, x18.w.d.ni (m := "cut") (by decide)]
            refine ⟨by simp, by omega, by omega, ?_⟩
            have e32 : (List.replicate (1 + many).toNat [U.int 32]).flatten = iU (List.replicate (1 + many).toNat 32) := by rw [rep_flat]; unfold iU; rw [List.map_replicate]
            rw [e32]
            refine apI (x18.cut0 (fun x hx => by rw [List.eq_of_mem_replicate hx]; decide) (by rw [List.length_replicate]; omega) fun wt4 nw4 mh19 x19 => ?_)
            have o19 := x19.w.d.o
            have hd19 := x19.w.l.d
            simp_all! only [o19, x19.hs, hd19, x19.hS, w_Disk_standing, fc__standing, List.mem_cons, List.not_mem_nil, or_false]
            refine apI (hstr3 _ _ ?_)
            simp_all! only [hd19, x19.hS]
            refine apI (hstr3 _ _ ?_)
            simp_all! only [Bool.not_true]
            exact hq _ _ ⟨_, st, wt4, nw4, wl2, C, rfl, rfl, by rw [show 11 * (i + 1) = 11 * i + 11 by omega]; exact x19, by omega⟩
          · intro p t k hp
            have gp := gn p hp
            have x18 := x17.grow (mh' := mh17 ++ [t]) Fr.app
            have e : atI (C.map tU) p = some (tU (C.getD p.toNat [])) := by
              rw [at_map gp.1 (by omega), List.getD_eq_getElem?_getD, List.getElem?_eq_getElem (by omega)]; rfl
            simp_all! only [x18.w.l.d, x18.hS, e]
        · intro p t k hp
          have gp := gn p hp
          have x17 := x16.grow (mh' := mh16 ++ [t]) Fr.app
          have e : C[p.toNat]'(by omega) = C.getD p.toNat [] := by
            rw [List.getD_eq_getElem?_getD, List.getElem?_eq_getElem (by omega)]; rfl
          simp_all! only [x17.w.d.ni (m := "read") (by decide), x17.w.d.read (p := p) gp.1 (by show p < (C.length : Int); omega)]
          rw [e]
      · simp_all! only [x14.w.d.ni (m := "cut") (by decide)]
        refine apI (x14.cut gk lks fun wt2 nw2 mh15 f15 kk => ?_)
        refine repr_non ?_
        simp_all! only [Bool.not_true]
        refine apI (kk fun wl2 mh16 f16 fo16 x16 => ?_)
        have h16 := f16.get h14 (by simp only [List.mem_cons, List.not_mem_nil, or_false, not_or]; exact ⟨fo'.2.2.1, fo'.2.2.2.1, fo'.2.2.2.2.2.2.1, fo'.2.2.2.2.2.2.2.1⟩)
        have fo17 := fo16 fw q1 fo
        have o16 := x16.w.d.o
        have hd16 := x16.w.l.d
        generalize cutB B9 ws ks = C at *
        clear x14 h14 f15 kk f16 fo16
        have eC : C.length = B.length := by omega
        obtain ⟨str, hstr⟩ := repr_val (u := .tup [.tup [], .tup (C.map tU)]) (p := 9000000) (q := 10) ((Shw.tup (ShwL.all (p := 2000000) (q := 3) (us := [.tup [], .tup (C.map tU)]) fun v hv => by
          simp only [List.mem_cons, List.not_mem_nil, or_false] at hv
          rcases hv with rfl | rfl
          · exact (Shw.tup (ShwL.nil (q := 0))).up (by decide) (by decide)
          · exact (blks_shw gC (by omega)).up (by decide) (by decide))).up (by simp only [List.length_cons, List.length_nil]; omega) (by decide)) (by decide) (by decide)
        obtain ⟨str3, hstr3⟩ := repr_val (blks_shw gC (by omega)) (by decide) (by decide)
        simp_all! only [o16, x16.hs, x16.hw, hd16, x16.hS, w_Disk_waiting, w_Disk_standing, fc__waiting, fc__standing, List.mem_cons, List.not_mem_nil, or_false]
        refine apI (hstr _ _ ?_)
        simp_all! only [hd16, x16.hS]
        refine apI (hstr _ _ ?_)
        simp_all! only [Bool.not_true, h16]
        have sh : ShwL (fs.map fun p => tU (C.getD p.toNat [])) ((500 + 2) * (fs.map fun p => tU (C.getD p.toNat [])).length) 1 := ShwL.all fun v hv => by
          obtain ⟨p, hp, rfl⟩ := List.mem_map.mp hv
          have := gn p hp
          refine blk_shw (gC _ ?_)
          rw [List.getD_eq_getElem?_getD, List.getElem?_eq_getElem (by omega)]
          exact List.getElem_mem _
        obtain ⟨str2, hstr2⟩ := repr_lst sh (by rw [List.length_map]; omega) (by decide)
        rw [lcA_mapE (φ := U.int) (f := fun p => tU (C.getD p.toNat [])) (by omega) (fun t => get_app h16)]
        · simp_all! only []
          refine apI (hstr2 _ _ _ get_new ?_)
          have x17 := x16.grow (mh' := mh16 ++ [.lst (fs.map fun p => tU (C.getD p.toNat []))]) Fr.app
          have h17 := get_app (t := [.lst (fs.map fun p => tU (C.getD p.toNat []))]) h16
          generalize mh16 ++ [.lst (fs.map fun p => tU (C.getD p.toNat []))] = mh17 at *
          simp_all! only [h17]
          rw [lcA_mapE (φ := U.int) (f := fun p => tU (C.getD p.toNat [])) (by omega) (fun t => get_app h17)]
          · simp_all! only []
            refine apI (hstr2 _ _ _ get_new ?_)
            have x18 := x17.grow (mh' := mh17 ++ [.lst (fs.map fun p => tU (C.getD p.toNat []))]) Fr.app
            generalize mh17 ++ [.lst (fs.map fun p => tU (C.getD p.toNat []))] = mh18 at *
            simp_all! only [Bool.not_true, x18.w.d.ni (m := "cut") (by decide)]
            refine ⟨by simp, by omega, by omega, ?_⟩
            have e32 : (List.replicate (1 + many).toNat [U.int 32]).flatten = iU (List.replicate (1 + many).toNat 32) := by rw [rep_flat]; unfold iU; rw [List.map_replicate]
            rw [e32]
            refine apI (x18.cut0 (fun x hx => by rw [List.eq_of_mem_replicate hx]; decide) (by rw [List.length_replicate]; omega) fun wt4 nw4 mh19 x19 => ?_)
            have o19 := x19.w.d.o
            have hd19 := x19.w.l.d
            simp_all! only [o19, x19.hs, hd19, x19.hS, w_Disk_standing, fc__standing, List.mem_cons, List.not_mem_nil, or_false]
            refine apI (hstr3 _ _ ?_)
            simp_all! only [hd19, x19.hS]
            refine apI (hstr3 _ _ ?_)
            simp_all! only [Bool.not_true]
            exact hq _ _ ⟨_, st, wt4, nw4, wl2, C, rfl, rfl, by rw [show 11 * (i + 1) = 11 * i + 11 by omega]; exact x19, by omega⟩
          · intro p t k hp
            have gp := gn p hp
            have x18 := x17.grow (mh' := mh17 ++ [t]) Fr.app
            have e : atI (C.map tU) p = some (tU (C.getD p.toNat [])) := by
              rw [at_map gp.1 (by omega), List.getD_eq_getElem?_getD, List.getElem?_eq_getElem (by omega)]; rfl
            simp_all! only [x18.w.l.d, x18.hS, e]
        · intro p t k hp
          have gp := gn p hp
          have x17 := x16.grow (mh' := mh16 ++ [t]) Fr.app
          have e : C[p.toNat]'(by omega) = C.getD p.toNat [] := by
            rw [List.getD_eq_getElem?_getD, List.getElem?_eq_getElem (by omega)]; rfl
          simp_all! only [x17.w.d.ni (m := "read") (by decide), x17.w.d.read (p := p) gp.1 (by show p < (C.length : Int); omega)]
          rw [e]
    · intro nx' hj
      simp_all! only []
      refine sel (fun hw0 => ?_) fun hw0 => ?_
      · simp_all! only []
        refine ⟨by simp, by omega, by omega, ?_⟩
        have e : (List.replicate many.toNat [U.int 32]).flatten = iU (List.replicate many.toNat 32) := by rw [rep_flat]; unfold iU; rw [List.map_replicate]
        rw [e]
        exact hj _ _ ⟨_, rfl, by rw [List.length_replicate]; omega, fun x hx => by rw [List.eq_of_mem_replicate hx]; decide, x13, h13⟩
      simp_all! only []
      refine sel (fun hw1 => ?_) fun hw1 => ?_
      · simp_all! only []
        exact hj _ _ ⟨[], rfl, by decide, by simp, x13, h13⟩
      simp_all! only []
      refine sel (fun hw2 => ?_) fun hw2 => ?_
      · simp_all! only []
        refine apI (draw_sp x13.w.D (by decide) (by decide) fun v mh14 f14 D14 v0 v1 => ?_)
        simp_all! only []
        refine ⟨by simp, by omega, by omega, ?_⟩
        have e : (List.replicate many.toNat [U.int v]).flatten = iU (List.replicate many.toNat v) := by rw [rep_flat]; unfold iU; rw [List.map_replicate]
        rw [e]
        exact hj _ _ ⟨_, rfl, by rw [List.length_replicate]; omega, fun x hx => by rw [List.eq_of_mem_replicate hx]; omega, x13.draw f14 D14, f14.get h13 (by simp only [ft, List.mem_cons, List.not_mem_nil, or_false, not_or] at fo ⊢; exact ⟨fo.1, fo.2.1⟩)⟩
      · simp_all! only []
        refine apI (keep_sp x13.w.D (by omega) (by omega) fun ks mh14 lks gk f14 D14 => ?_)
        exact hj _ _ ⟨ks, rfl, lks, gk, x13.draw f14 D14, f14.get h13 (by simp only [ft, List.mem_cons, List.not_mem_nil, or_false, not_or] at fo ⊢; exact ⟨fo.1, fo.2.1⟩)⟩
  · rintro sl mh6 ⟨r, st, wt, nw, wl, B', rfl, lr, x6, lB'⟩
    refine ⟨trivial, ?_⟩
    simp_all! only []
end
end Tk13

namespace Tk13
open PySem PySem.Spec PyProof.Rows L2 Tk Sm
theorem all_mk {l : PySem.W.OpenLaw} {w : World} {K : PySem.W.Frag} {h : Heap} {mg : Str → Option Value} {fa CDisk : Addr} (XK : K.In h) (G : h.Ns mainGlobals mg) (hfa : mg "law" = some (.ref fa)) (hMOST_WORD : ∃ t, mg "MOST_WORD" = some (.int 1000000000 t)) (hBL : ∃ b, mg "BLANK" = some (.ref b) ∧ TupAt h b ((List.replicate 32 (0 : Int)).map V.int))
    {f0 f1 f2 f3 f4 f5 f6 f7 f8 f9 f10 f11 f12 f13 f14 f15 f16 f17 f18 f19 f20 f21 f22 f23 f24 f25 f26 f27 f28 : Addr} {od0 an0 od1 an1 od2 an2 od3 an3 od4 an4 od5 an5 od6 an6 od7 an7 od8 an8 od9 an9 od10 an10 od11 an11 od12 an12 od13 an13 od14 an14 od15 an15 od16 an16 od17 an17 od18 an18 od19 an19 od20 an20 od21 an21 od22 an22 od23 an23 od24 an24 od25 an25 od26 an26 od27 an27 od28 an28 : Option Addr} {sl0 sl1 sl2 sl3 sl4 sl5 sl6 sl7 sl8 sl9 sl10 sl11 sl12 sl13 sl14 sl15 sl16 sl17 sl18 sl19 sl20 sl21 sl22 sl23 sl24 sl25 sl26 sl27 sl28 : Array (Option Value)} {oc0 kV0 dc0 pm0 cd0 ct0 oc1 kV1 dc1 pm1 cd1 ct1 oc2 kV2 dc2 pm2 cd2 ct2 oc3 kV3 dc3 pm3 cd3 ct3 oc4 kV4 dc4 pm4 cd4 ct4 oc5 kV5 dc5 pm5 cd5 ct5 oc6 kV6 dc6 pm6 cd6 ct6 oc7 kV7 dc7 pm7 cd7 ct7 oc8 kV8 dc8 pm8 cd8 ct8 oc9 kV9 dc9 pm9 cd9 ct9 oc10 kV10 dc10 pm10 cd10 ct10 oc11 kV11 dc11 pm11 cd11 ct11 oc12 kV12 dc12 pm12 cd12 ct12 oc13 kV13 dc13 pm13 cd13 ct13 oc14 kV14 dc14 pm14 cd14 ct14 oc15 kV15 dc15 pm15 cd15 ct15 oc16 kV16 dc16 pm16 cd16 ct16 oc17 kV17 dc17 pm17 cd17 ct17 oc18 kV18 dc18 pm18 cd18 ct18 oc19 kV19 dc19 pm19 cd19 ct19 oc20 kV20 dc20 pm20 cd20 ct20 oc21 kV21 dc21 pm21 cd21 ct21 oc22 kV22 dc22 pm22 cd22 ct22 oc23 kV23 dc23 pm23 cd23 ct23 oc24 kV24 dc24 pm24 cd24 ct24 oc25 kV25 dc25 pm25 cd25 ct25 oc26 kV26 dc26 pm26 cd26 ct26 oc27 kV27 dc27 pm27 cd27 ct27 oc28 kV28 dc28 pm28 cd28 ct28 : Value} {tkBLOCK_WORDS tkCONTENT_WORDS tkLEAST_BLOCKS tkLEAST_SEGMENTS tkMOST_BLOCKS tkMOST_SEGMENTS tkROOT_WORDS : Tok}
    (aCDisk : PySem.W.nsIn K mainGlobals "Disk" = some (some (.ref CDisk)))
    (a0 : PySem.W.nsIn K mainGlobals "_law_deck" = some (some (.ref f0)))
    (l0 : K.lookup f0 = some ⟨oc0, od0, .func (PySem.W.fnOf "_law_deck" "_law_deck" (defArgs S__law_deck) (defBody S__law_deck) (defScope S__law_deck) .none kV0 dc0 pm0 an0 cd0 ct0), sl0⟩)
    (c0 : PySem.W.codeIn K cd0 "_law_deck" = true)
    (k0 : PySem.W.keepIn K (.ref f0) = true)
    (a1 : PySem.W.nsIn K mainGlobals "_law_draw" = some (some (.ref f1)))
    (l1 : K.lookup f1 = some ⟨oc1, od1, .func (PySem.W.fnOf "_law_draw" "_law_draw" (defArgs S__law_draw) (defBody S__law_draw) (defScope S__law_draw) .none kV1 dc1 pm1 an1 cd1 ct1), sl1⟩)
    (c1 : PySem.W.codeIn K cd1 "_law_draw" = true)
    (k1 : PySem.W.keepIn K (.ref f1) = true)
    (a2 : PySem.W.nsIn K mainGlobals "_law_sizes" = some (some (.ref f2)))
    (l2 : K.lookup f2 = some ⟨oc2, od2, .func (PySem.W.fnOf "_law_sizes" "_law_sizes" (defArgs S__law_sizes) (defBody S__law_sizes) (defScope S__law_sizes) .none kV2 dc2 pm2 an2 cd2 ct2), sl2⟩)
    (c2 : PySem.W.codeIn K cd2 "_law_sizes" = true)
    (k2 : PySem.W.keepIn K (.ref f2) = true)
    (a3 : PySem.W.nsIn K mainGlobals "_law_drawn_sizes" = some (some (.ref f3)))
    (l3 : K.lookup f3 = some ⟨oc3, od3, .func (PySem.W.fnOf "_law_drawn_sizes" "_law_drawn_sizes" (defArgs S__law_drawn_sizes) (defBody S__law_drawn_sizes) (defScope S__law_drawn_sizes) .none kV3 dc3 pm3 an3 cd3 ct3), sl3⟩)
    (c3 : PySem.W.codeIn K cd3 "_law_drawn_sizes" = true)
    (k3 : PySem.W.keepIn K (.ref f3) = true)
    (a4 : PySem.W.nsIn K mainGlobals "is_integer" = some (some (.ref f4)))
    (l4 : K.lookup f4 = some ⟨oc4, od4, .func (PySem.W.fnOf "is_integer" "is_integer" (defArgs S_is_integer) (defBody S_is_integer) (defScope S_is_integer) .none kV4 dc4 pm4 an4 cd4 ct4), sl4⟩)
    (c4 : PySem.W.codeIn K cd4 "is_integer" = true)
    (k4 : PySem.W.keepIn K (.ref f4) = true)
    (a5 : PySem.W.nsIn K mainGlobals "is_within" = some (some (.ref f5)))
    (l5 : K.lookup f5 = some ⟨oc5, od5, .func (PySem.W.fnOf "is_within" "is_within" (defArgs S_is_within) (defBody S_is_within) (defScope S_is_within) .none kV5 dc5 pm5 an5 cd5 ct5), sl5⟩)
    (c5 : PySem.W.codeIn K cd5 "is_within" = true)
    (k5 : PySem.W.keepIn K (.ref f5) = true)
    (a6 : PySem.W.findIn K (.ref CDisk) "__init__" = some (some (.ref f6)))
    (l6 : K.lookup f6 = some ⟨oc6, od6, .func (PySem.W.fnOf "__init__" "Disk.__init__" (defArgs S_Disk___init__) (defBody S_Disk___init__) (defScope S_Disk___init__) .none kV6 dc6 pm6 an6 cd6 ct6), sl6⟩)
    (c6 : PySem.W.codeIn K cd6 "Disk.__init__" = true)
    (k6 : PySem.W.keepIn K (.ref f6) = true)
    (i6 : PySem.W.isFn K (.ref f6) = true)
    (a7 : PySem.W.nsIn K mainGlobals "_law_many" = some (some (.ref f7)))
    (l7 : K.lookup f7 = some ⟨oc7, od7, .func (PySem.W.fnOf "_law_many" "_law_many" (defArgs S__law_many) (defBody S__law_many) (defScope S__law_many) .none kV7 dc7 pm7 an7 cd7 ct7), sl7⟩)
    (c7 : PySem.W.codeIn K cd7 "_law_many" = true)
    (k7 : PySem.W.keepIn K (.ref f7) = true)
    (a8 : PySem.W.nsIn K mainGlobals "_law_blank" = some (some (.ref f8)))
    (l8 : K.lookup f8 = some ⟨oc8, od8, .func (PySem.W.fnOf "_law_blank" "_law_blank" (defArgs S__law_blank) (defBody S__law_blank) (defScope S__law_blank) .none kV8 dc8 pm8 an8 cd8 ct8), sl8⟩)
    (c8 : PySem.W.codeIn K cd8 "_law_blank" = true)
    (k8 : PySem.W.keepIn K (.ref f8) = true)
    (a9 : PySem.W.nsIn K mainGlobals "_law_pick" = some (some (.ref f9)))
    (l9 : K.lookup f9 = some ⟨oc9, od9, .func (PySem.W.fnOf "_law_pick" "_law_pick" (defArgs S__law_pick) (defBody S__law_pick) (defScope S__law_pick) .none kV9 dc9 pm9 an9 cd9 ct9), sl9⟩)
    (c9 : PySem.W.codeIn K cd9 "_law_pick" = true)
    (k9 : PySem.W.keepIn K (.ref f9) = true)
    (a10 : PySem.W.nsIn K mainGlobals "_law_word" = some (some (.ref f10)))
    (l10 : K.lookup f10 = some ⟨oc10, od10, .func (PySem.W.fnOf "_law_word" "_law_word" (defArgs S__law_word) (defBody S__law_word) (defScope S__law_word) .none kV10 dc10 pm10 an10 cd10 ct10), sl10⟩)
    (c10 : PySem.W.codeIn K cd10 "_law_word" = true)
    (k10 : PySem.W.keepIn K (.ref f10) = true)
    (a11 : PySem.W.nsIn K mainGlobals "_law_block" = some (some (.ref f11)))
    (l11 : K.lookup f11 = some ⟨oc11, od11, .func (PySem.W.fnOf "_law_block" "_law_block" (defArgs S__law_block) (defBody S__law_block) (defScope S__law_block) .none kV11 dc11 pm11 an11 cd11 ct11), sl11⟩)
    (c11 : PySem.W.codeIn K cd11 "_law_block" = true)
    (k11 : PySem.W.keepIn K (.ref f11) = true)
    (a12 : PySem.W.findIn K (.ref CDisk) "_check_place" = some (some (.ref f12)))
    (l12 : K.lookup f12 = some ⟨oc12, od12, .func (PySem.W.fnOf "_check_place" "Disk._check_place" (defArgs S_Disk__check_place) (defBody S_Disk__check_place) (defScope S_Disk__check_place) .none kV12 dc12 pm12 an12 cd12 ct12), sl12⟩)
    (c12 : PySem.W.codeIn K cd12 "Disk._check_place" = true)
    (k12 : PySem.W.keepIn K (.ref f12) = true)
    (i12 : PySem.W.isFn K (.ref f12) = true)
    (a13 : PySem.W.nsIn K mainGlobals "are_within" = some (some (.ref f13)))
    (l13 : K.lookup f13 = some ⟨oc13, od13, .func (PySem.W.fnOf "are_within" "are_within" (defArgs S_are_within) (defBody S_are_within) (defScope S_are_within) .none kV13 dc13 pm13 an13 cd13 ct13), sl13⟩)
    (c13 : PySem.W.codeIn K cd13 "are_within" = true)
    (k13 : PySem.W.keepIn K (.ref f13) = true)
    (a14 : PySem.W.nsIn K mainGlobals "are_words" = some (some (.ref f14)))
    (l14 : K.lookup f14 = some ⟨oc14, od14, .func (PySem.W.fnOf "are_words" "are_words" (defArgs S_are_words) (defBody S_are_words) (defScope S_are_words) .none kV14 dc14 pm14 an14 cd14 ct14), sl14⟩)
    (c14 : PySem.W.codeIn K cd14 "are_words" = true)
    (k14 : PySem.W.keepIn K (.ref f14) = true)
    (a15 : PySem.W.nsIn K mainGlobals "is_block" = some (some (.ref f15)))
    (l15 : K.lookup f15 = some ⟨oc15, od15, .func (PySem.W.fnOf "is_block" "is_block" (defArgs S_is_block) (defBody S_is_block) (defScope S_is_block) .none kV15 dc15 pm15 an15 cd15 ct15), sl15⟩)
    (c15 : PySem.W.codeIn K cd15 "is_block" = true)
    (k15 : PySem.W.keepIn K (.ref f15) = true)
    (a16 : PySem.W.findIn K (.ref CDisk) "_burn" = some (some (.ref f16)))
    (l16 : K.lookup f16 = some ⟨oc16, od16, .func (PySem.W.fnOf "_burn" "Disk._burn" (defArgs S_Disk__burn) (defBody S_Disk__burn) (defScope S_Disk__burn) .none kV16 dc16 pm16 an16 cd16 ct16), sl16⟩)
    (c16 : PySem.W.codeIn K cd16 "Disk._burn" = true)
    (k16 : PySem.W.keepIn K (.ref f16) = true)
    (i16 : PySem.W.isFn K (.ref f16) = true)
    (a17 : PySem.W.findIn K (.ref CDisk) "write" = some (some (.ref f17)))
    (l17 : K.lookup f17 = some ⟨oc17, od17, .func (PySem.W.fnOf "write" "Disk.write" (defArgs S_Disk_write) (defBody S_Disk_write) (defScope S_Disk_write) .none kV17 dc17 pm17 an17 cd17 ct17), sl17⟩)
    (c17 : PySem.W.codeIn K cd17 "Disk.write" = true)
    (k17 : PySem.W.keepIn K (.ref f17) = true)
    (i17 : PySem.W.isFn K (.ref f17) = true)
    (a18 : PySem.W.findIn K (.ref CDisk) "_wait_for_none" = some (some (.ref f18)))
    (l18 : K.lookup f18 = some ⟨oc18, od18, .func (PySem.W.fnOf "_wait_for_none" "Disk._wait_for_none" (defArgs S_Disk__wait_for_none) (defBody S_Disk__wait_for_none) (defScope S_Disk__wait_for_none) .none kV18 dc18 pm18 an18 cd18 ct18), sl18⟩)
    (c18 : PySem.W.codeIn K cd18 "Disk._wait_for_none" = true)
    (k18 : PySem.W.keepIn K (.ref f18) = true)
    (i18 : PySem.W.isFn K (.ref f18) = true)
    (a19 : PySem.W.findIn K (.ref CDisk) "force" = some (some (.ref f19)))
    (l19 : K.lookup f19 = some ⟨oc19, od19, .func (PySem.W.fnOf "force" "Disk.force" (defArgs S_Disk_force) (defBody S_Disk_force) (defScope S_Disk_force) .none kV19 dc19 pm19 an19 cd19 ct19), sl19⟩)
    (c19 : PySem.W.codeIn K cd19 "Disk.force" = true)
    (k19 : PySem.W.keepIn K (.ref f19) = true)
    (i19 : PySem.W.isFn K (.ref f19) = true)
    (a20 : PySem.W.nsIn K mainGlobals "_law_forced" = some (some (.ref f20)))
    (l20 : K.lookup f20 = some ⟨oc20, od20, .func (PySem.W.fnOf "_law_forced" "_law_forced" (defArgs S__law_forced) (defBody S__law_forced) (defScope S__law_forced) .none kV20 dc20 pm20 an20 cd20 ct20), sl20⟩)
    (c20 : PySem.W.codeIn K cd20 "_law_forced" = true)
    (k20 : PySem.W.keepIn K (.ref f20) = true)
    (a21 : PySem.W.nsIn K mainGlobals "_law_keep" = some (some (.ref f21)))
    (l21 : K.lookup f21 = some ⟨oc21, od21, .func (PySem.W.fnOf "_law_keep" "_law_keep" (defArgs S__law_keep) (defBody S__law_keep) (defScope S__law_keep) .none kV21 dc21 pm21 an21 cd21 ct21), sl21⟩)
    (c21 : PySem.W.codeIn K cd21 "_law_keep" = true)
    (k21 : PySem.W.keepIn K (.ref f21) = true)
    (a22 : PySem.W.nsIn K mainGlobals "is_keep" = some (some (.ref f22)))
    (l22 : K.lookup f22 = some ⟨oc22, od22, .func (PySem.W.fnOf "is_keep" "is_keep" (defArgs S_is_keep) (defBody S_is_keep) (defScope S_is_keep) .none kV22 dc22 pm22 an22 cd22 ct22), sl22⟩)
    (c22 : PySem.W.codeIn K cd22 "is_keep" = true)
    (k22 : PySem.W.keepIn K (.ref f22) = true)
    (a23 : PySem.W.findIn K (.ref CDisk) "cut" = some (some (.ref f23)))
    (l23 : K.lookup f23 = some ⟨oc23, od23, .func (PySem.W.fnOf "cut" "Disk.cut" (defArgs S_Disk_cut) (defBody S_Disk_cut) (defScope S_Disk_cut) .none kV23 dc23 pm23 an23 cd23 ct23), sl23⟩)
    (c23 : PySem.W.codeIn K cd23 "Disk.cut" = true)
    (k23 : PySem.W.keepIn K (.ref f23) = true)
    (i23 : PySem.W.isFn K (.ref f23) = true)
    (a24 : PySem.W.nsIn K mainGlobals "_law_fell" = some (some (.ref f24)))
    (l24 : K.lookup f24 = some ⟨oc24, od24, .func (PySem.W.fnOf "_law_fell" "_law_fell" (defArgs S__law_fell) (defBody S__law_fell) (defScope S__law_fell) .none kV24 dc24 pm24 an24 cd24 ct24), sl24⟩)
    (c24 : PySem.W.codeIn K cd24 "_law_fell" = true)
    (k24 : PySem.W.keepIn K (.ref f24) = true)
    (a25 : PySem.W.findIn K (.ref CDisk) "standing" = some (some (.ref f25)))
    (l25 : K.lookup f25 = some ⟨oc25, od25, .func (PySem.W.fnOf "standing" "Disk.standing" (defArgs S_Disk_standing) (defBody S_Disk_standing) (defScope S_Disk_standing) .none kV25 dc25 pm25 an25 cd25 ct25), sl25⟩)
    (c25 : PySem.W.codeIn K cd25 "Disk.standing" = true)
    (k25 : PySem.W.keepIn K (.ref f25) = true)
    (i25 : PySem.W.isFn K (.ref f25) = true)
    (a26 : PySem.W.findIn K (.ref CDisk) "waiting" = some (some (.ref f26)))
    (l26 : K.lookup f26 = some ⟨oc26, od26, .func (PySem.W.fnOf "waiting" "Disk.waiting" (defArgs S_Disk_waiting) (defBody S_Disk_waiting) (defScope S_Disk_waiting) .none kV26 dc26 pm26 an26 cd26 ct26), sl26⟩)
    (c26 : PySem.W.codeIn K cd26 "Disk.waiting" = true)
    (k26 : PySem.W.keepIn K (.ref f26) = true)
    (i26 : PySem.W.isFn K (.ref f26) = true)
    (a27 : PySem.W.findIn K (.ref CDisk) "read" = some (some (.ref f27)))
    (l27 : K.lookup f27 = some ⟨oc27, od27, .func (PySem.W.fnOf "read" "Disk.read" (defArgs S_Disk_read) (defBody S_Disk_read) (defScope S_Disk_read) .none kV27 dc27 pm27 an27 cd27 ct27), sl27⟩)
    (c27 : PySem.W.codeIn K cd27 "Disk.read" = true)
    (k27 : PySem.W.keepIn K (.ref f27) = true)
    (i27 : PySem.W.isFn K (.ref f27) = true)
    (a28 : PySem.W.nsIn K mainGlobals "law" = some (some (.ref f28)))
    (l28 : K.lookup f28 = some ⟨oc28, od28, .func (PySem.W.fnOf "law" "law" (defArgs S_law) (defBody S_law) (defScope S_law) .none kV28 dc28 pm28 an28 cd28 ct28), sl28⟩)
    (c28 : PySem.W.codeIn K cd28 "law" = true)
    (k28 : PySem.W.keepIn K (.ref f28) = true)
    (pgDisk : PySem.W.plainGet K CDisk Str.empty = true)
    (hdDisk : PySem.W.hasDictIn K CDisk = true)
    (poDisk : PySem.W.plainOver K CDisk = true)
    (saDisk : PySem.W.findIn K (.ref CDisk) "__setattr__" = some (some (.builtin "object.__setattr__")))
    (mkDisk : PySem.W.makesIn K CDisk = true)
    (kCDisk : PySem.W.keepIn K (.ref CDisk) = true)
    (nDisk_fuse : PySem.W.findIn K (.ref CDisk) "_fuse" = some none)
    (nDisk_newest : PySem.W.findIn K (.ref CDisk) "_newest" = some none)
    (nDisk_sizes : PySem.W.findIn K (.ref CDisk) "_sizes" = some none)
    (nDisk_standing : PySem.W.findIn K (.ref CDisk) "_standing" = some none)
    (nDisk_waiting : PySem.W.findIn K (.ref CDisk) "_waiting" = some none)
    (mBLOCK_WORDS : PySem.W.nsIn K mainGlobals "BLOCK_WORDS" = some (some (.int 32 tkBLOCK_WORDS)))
    (mCONTENT_WORDS : PySem.W.nsIn K mainGlobals "CONTENT_WORDS" = some (some (.int 28 tkCONTENT_WORDS)))
    (mLEAST_BLOCKS : PySem.W.nsIn K mainGlobals "LEAST_BLOCKS" = some (some (.int 4 tkLEAST_BLOCKS)))
    (mLEAST_SEGMENTS : PySem.W.nsIn K mainGlobals "LEAST_SEGMENTS" = some (some (.int 6 tkLEAST_SEGMENTS)))
    (mMOST_BLOCKS : PySem.W.nsIn K mainGlobals "MOST_BLOCKS" = some (some (.int 24 tkMOST_BLOCKS)))
    (mMOST_SEGMENTS : PySem.W.nsIn K mainGlobals "MOST_SEGMENTS" = some (some (.int 40 tkMOST_SEGMENTS)))
    (mROOT_WORDS : PySem.W.nsIn K mainGlobals "ROOT_WORDS" = some (some (.int 4 tkROOT_WORDS)))
    (zall : PySem.W.nsIn K mainGlobals "all" = some none)
    (zbool : PySem.W.nsIn K mainGlobals "bool" = some none)
    (zenumerate : PySem.W.nsIn K mainGlobals "enumerate" = some none)
    (zint : PySem.W.nsIn K mainGlobals "int" = some none)
    (zisinstance : PySem.W.nsIn K mainGlobals "isinstance" = some none)
    (zlen : PySem.W.nsIn K mainGlobals "len" = some none)
    (zmax : PySem.W.nsIn K mainGlobals "max" = some none)
    (zrange : PySem.W.nsIn K mainGlobals "range" = some none)
    (zrepr : PySem.W.nsIn K mainGlobals "repr" = some none)
    (ztuple : PySem.W.nsIn K mainGlobals "tuple" = some none)
    (zzip : PySem.W.nsIn K mainGlobals "zip" = some none)
    : ∃ (fd : FuncData) (t : Addr), TupAt h t ((List.replicate 32 (0 : Int)).map V.int) ∧ (∀ (s : Shared) (u : Value), BindsTo s fd ⟨[u], []⟩ [("script", u)]) ∧
        ∀ (base : Heap) (s₁ : Shared) (H : Hp) (a : Addr) (u : Value) (ns : List Int), Env0 l.prog w K mg base callerA [] s₁ H → BindsTo s₁ fd ⟨[u], []⟩ [("script", u)] → u = .ref a →
          SqF K H a (ns.map V.int) → ns.length ≤ 63 → SqT K H t ((List.replicate 32 (0 : Int)).map V.int) → (∀ b, H b ≠ none → b = a ∨ b = t) →
          codeAny (model l.prog w) callerA (.call (.ref fa) ⟨[u], []⟩) (CR CX0 [] l.prog w H s₁ (fun v _ => v = .bl true) E0) s₁ := by
  have e := hfa.symm.trans (PySem.W.mg_of XK G a28)
  cases e
  obtain ⟨ba, hba, htup⟩ := hBL
  have mgo : ∀ {n : Str} {v : Value}, PySem.W.nsIn K mainGlobals n = some (some v) → mg n = some v := fun e => PySem.W.mg_of XK G e
  have mgn : ∀ {n : Str}, PySem.W.nsIn K mainGlobals n = some none → mg n = none := fun e => PySem.W.mg_none_of XK G e
  refine ⟨PySem.W.fnOf "law" "law" (defArgs S_law) (defBody S_law) (defScope S_law) .none kV28 dc28 pm28 an28 cd28 ct28, ba, htup, fun s v => .of_eq rfl, fun base s₁ H a u ns en hb hu hS hl hB _ => ?_⟩
  letI : ZC := ⟨fun _ H => SqT K H ba ((List.replicate 32 (0 : Int)).map V.int)⟩
  let c : Cl := ⟨CDisk⟩
  have clDisk : Cls K CDisk := ⟨pgDisk, hdDisk, poDisk, saDisk⟩
  have X : Fx K mg c := ⟨mgn zall,
    mgn zbool,
    mgn zenumerate,
    mgn zint,
    mgn zisinstance,
    mgn zlen,
    mgn zmax,
    mgn zrange,
    mgn zrepr,
    mgn ztuple,
    mgn zzip,
    ⟨.ref ba, _, hba, rfl, fun as H z => RV.tups z (intsU_rv _)⟩,
    ⟨.int 32, _, mgo mBLOCK_WORDS, ⟨_, rfl⟩, fun _ _ _ => .int _⟩,
    ⟨.int 28, _, mgo mCONTENT_WORDS, ⟨_, rfl⟩, fun _ _ _ => .int _⟩,
    ⟨.int 4, _, mgo mLEAST_BLOCKS, ⟨_, rfl⟩, fun _ _ _ => .int _⟩,
    ⟨.int 6, _, mgo mLEAST_SEGMENTS, ⟨_, rfl⟩, fun _ _ _ => .int _⟩,
    ⟨.int 24, _, mgo mMOST_BLOCKS, ⟨_, rfl⟩, fun _ _ _ => .int _⟩,
    ⟨.int 40, _, mgo mMOST_SEGMENTS, ⟨_, rfl⟩, fun _ _ _ => .int _⟩,
    (let ⟨t, e⟩ := hMOST_WORD; ⟨.int 1000000000, _, e, ⟨t, rfl⟩, fun _ _ _ => .int _⟩),
    ⟨.int 4, _, mgo mROOT_WORDS, ⟨_, rfl⟩, fun _ _ _ => .int _⟩,
    (fun C hC => by have e : C = CDisk := List.mem_singleton.mp hC; subst e; exact ⟨clDisk, nDisk_fuse⟩),
    (fun C hC => by have e : C = CDisk := List.mem_singleton.mp hC; subst e; exact ⟨clDisk, nDisk_newest⟩),
    (fun C hC => by have e : C = CDisk := List.mem_singleton.mp hC; subst e; exact ⟨clDisk, nDisk_sizes⟩),
    (fun C hC => by have e : C = CDisk := List.mem_singleton.mp hC; subst e; exact ⟨clDisk, nDisk_standing⟩),
    (fun C hC => by have e : C = CDisk := List.mem_singleton.mp hC; subst e; exact ⟨clDisk, nDisk_waiting⟩),
    clDisk,
    mgo aCDisk⟩
  obtain ⟨g__law_deck⟩ : Nonempty (CalG l.prog w K mg base 1 "_law_deck" ["script"] (spM K 1 (w__law_deck c))) := by
    let d__law_deck : DefT K mg "_law_deck" S__law_deck := ⟨_, _, fun_mk (st := S__law_deck) l0 c0 k0, mgo a0⟩
    exact ⟨⟨d__law_deck.f, d__law_deck.fd, d__law_deck.g, d__law_deck.F.kp, (d__law_deck.F.binds (ps := ["script"]) fun _ _ _ _ _ _ us hl => match us, hl with | [_], _ => rfl), (ok__law_deck X d__law_deck  )⟩⟩
  obtain ⟨g__law_draw⟩ : Nonempty (CalG l.prog w K mg base 1 "_law_draw" ["deck", "below"] (spM K 2 (w__law_draw c))) := by
    let d__law_draw : DefT K mg "_law_draw" S__law_draw := ⟨_, _, fun_mk (st := S__law_draw) l1 c1 k1, mgo a1⟩
    exact ⟨⟨d__law_draw.f, d__law_draw.fd, d__law_draw.g, d__law_draw.F.kp, (d__law_draw.F.binds (ps := ["deck", "below"]) fun _ _ _ _ _ _ us hl => match us, hl with | [_, _], _ => rfl), (ok__law_draw X d__law_draw  )⟩⟩
  obtain ⟨g__law_sizes⟩ : Nonempty (CalG l.prog w K mg base 1 "_law_sizes" ["segments", "blocks"] (spM K 2 (w__law_sizes c))) := by
    let d__law_sizes : DefT K mg "_law_sizes" S__law_sizes := ⟨_, _, fun_mk (st := S__law_sizes) l2 c2 k2, mgo a2⟩
    exact ⟨⟨d__law_sizes.f, d__law_sizes.fd, d__law_sizes.g, d__law_sizes.F.kp, (d__law_sizes.F.binds (ps := ["segments", "blocks"]) fun _ _ _ _ _ _ us hl => match us, hl with | [_, _], _ => rfl), (ok__law_sizes X d__law_sizes  )⟩⟩
  obtain ⟨g__law_drawn_sizes⟩ : Nonempty (CalG l.prog w K mg base 2 "_law_drawn_sizes" ["deck"] (spM K 1 (w__law_drawn_sizes c))) := by
    let d__law_drawn_sizes : DefT K mg "_law_drawn_sizes" S__law_drawn_sizes := ⟨_, _, fun_mk (st := S__law_drawn_sizes) l3 c3 k3, mgo a3⟩
    exact ⟨⟨d__law_drawn_sizes.f, d__law_drawn_sizes.fd, d__law_drawn_sizes.g, d__law_drawn_sizes.F.kp, (d__law_drawn_sizes.F.binds (ps := ["deck"]) fun _ _ _ _ _ _ us hl => match us, hl with | [_], _ => rfl), (ok__law_drawn_sizes X d__law_drawn_sizes g__law_draw g__law_sizes )⟩⟩
  obtain ⟨g_is_integer⟩ : Nonempty (CalG l.prog w K mg base 1 "is_integer" ["thing"] (spM K 1 (w_is_integer c))) := by
    let d_is_integer : DefT K mg "is_integer" S_is_integer := ⟨_, _, fun_mk (st := S_is_integer) l4 c4 k4, mgo a4⟩
    exact ⟨⟨d_is_integer.f, d_is_integer.fd, d_is_integer.g, d_is_integer.F.kp, (d_is_integer.F.binds (ps := ["thing"]) fun _ _ _ _ _ _ us hl => match us, hl with | [_], _ => rfl), (ok_is_integer X d_is_integer  )⟩⟩
  obtain ⟨g_is_within⟩ : Nonempty (CalG l.prog w K mg base 2 "is_within" ["thing", "least", "most"] (spM K 3 (w_is_within c))) := by
    let d_is_within : DefT K mg "is_within" S_is_within := ⟨_, _, fun_mk (st := S_is_within) l5 c5 k5, mgo a5⟩
    exact ⟨⟨d_is_within.f, d_is_within.fd, d_is_within.g, d_is_within.F.kp, (d_is_within.F.binds (ps := ["thing", "least", "most"]) fun _ _ _ _ _ _ us hl => match us, hl with | [_, _, _], _ => rfl), (ok_is_within X d_is_within g_is_integer )⟩⟩
  obtain ⟨g_Disk___init__, kb_Disk___init___1_blocks_segments⟩ : ∃ g : ICalG l.prog w K mg base c.Disk 3 ["self", "segments", "blocks"] (spM K 3 (w_Disk___init__ c)), KB K g.fd ["self", "segments", "blocks"] 1 ["blocks", "segments"] [1, 0] := by
    let d_Disk___init__ : MthT K c.Disk "__init__" "Disk.__init__" S_Disk___init__ := ⟨_, _, fun_mk (st := S_Disk___init__) l6 c6 k6, ⟨a6, i6, k6⟩⟩
    refine ⟨⟨d_Disk___init__.f, d_Disk___init__.fd, ⟨mkDisk, a6, i6, kCDisk⟩, (d_Disk___init__.F.binds (ps := ["self", "segments", "blocks"]) fun _ _ _ _ _ _ us hl => match us, hl with | [_, _, _], _ => rfl), (ok_Disk___init__ X d_Disk___init__ g_is_within )⟩, ?_⟩
    · exact kb_mk fun us ws h1 h2 => match us, ws, h1, h2 with | [x0], [y0, y1], _, _ => rfl
  obtain ⟨g__law_many⟩ : Nonempty (CalG l.prog w K mg base 1 "_law_many" ["sizes"] (spM K 1 (w__law_many c))) := by
    let d__law_many : DefT K mg "_law_many" S__law_many := ⟨_, _, fun_mk (st := S__law_many) l7 c7 k7, mgo a7⟩
    exact ⟨⟨d__law_many.f, d__law_many.fd, d__law_many.g, d__law_many.F.kp, (d__law_many.F.binds (ps := ["sizes"]) fun _ _ _ _ _ _ us hl => match us, hl with | [_], _ => rfl), (ok__law_many X d__law_many  )⟩⟩
  obtain ⟨g__law_blank⟩ : Nonempty (CalG l.prog w K mg base 2 "_law_blank" ["sizes"] (spM K 1 (w__law_blank c))) := by
    let d__law_blank : DefT K mg "_law_blank" S__law_blank := ⟨_, _, fun_mk (st := S__law_blank) l8 c8 k8, mgo a8⟩
    exact ⟨⟨d__law_blank.f, d__law_blank.fd, d__law_blank.g, d__law_blank.F.kp, (d__law_blank.F.binds (ps := ["sizes"]) fun _ _ _ _ _ _ us hl => match us, hl with | [_], _ => rfl), (ok__law_blank X d__law_blank g__law_many )⟩⟩
  obtain ⟨g__law_pick⟩ : Nonempty (CalG l.prog w K mg base 2 "_law_pick" ["deck", "some"] (spM K 2 (w__law_pick c))) := by
    let d__law_pick : DefT K mg "_law_pick" S__law_pick := ⟨_, _, fun_mk (st := S__law_pick) l9 c9 k9, mgo a9⟩
    exact ⟨⟨d__law_pick.f, d__law_pick.fd, d__law_pick.g, d__law_pick.F.kp, (d__law_pick.F.binds (ps := ["deck", "some"]) fun _ _ _ _ _ _ us hl => match us, hl with | [_, _], _ => rfl), (ok__law_pick X d__law_pick g__law_draw )⟩⟩
  obtain ⟨g__law_word⟩ : Nonempty (CalG l.prog w K mg base 3 "_law_word" ["deck"] (spM K 1 (w__law_word c))) := by
    let d__law_word : DefT K mg "_law_word" S__law_word := ⟨_, _, fun_mk (st := S__law_word) l10 c10 k10, mgo a10⟩
    exact ⟨⟨d__law_word.f, d__law_word.fd, d__law_word.g, d__law_word.F.kp, (d__law_word.F.binds (ps := ["deck"]) fun _ _ _ _ _ _ us hl => match us, hl with | [_], _ => rfl), (ok__law_word X d__law_word g__law_pick g__law_draw )⟩⟩
  obtain ⟨g__law_block⟩ : Nonempty (CalG l.prog w K mg base 4 "_law_block" ["deck"] (spM K 1 (w__law_block c))) := by
    let d__law_block : DefT K mg "_law_block" S__law_block := ⟨_, _, fun_mk (st := S__law_block) l11 c11 k11, mgo a11⟩
    exact ⟨⟨d__law_block.f, d__law_block.fd, d__law_block.g, d__law_block.F.kp, (d__law_block.F.binds (ps := ["deck"]) fun _ _ _ _ _ _ us hl => match us, hl with | [_], _ => rfl), (ok__law_block X d__law_block g__law_draw g__law_word )⟩⟩
  obtain ⟨g_Disk__check_place⟩ : Nonempty (MCalG l.prog w K mg base c.Disk 3 "_check_place" ["self", "place"] (spM K 2 (w_Disk__check_place c))) := by
    let d_Disk__check_place : MthT K c.Disk "_check_place" "Disk._check_place" S_Disk__check_place := ⟨_, _, fun_mk (st := S_Disk__check_place) l12 c12 k12, ⟨a12, i12, k12⟩⟩
    exact ⟨⟨d_Disk__check_place.f, d_Disk__check_place.fd, d_Disk__check_place.me, (d_Disk__check_place.F.binds (ps := ["self", "place"]) fun _ _ _ _ _ _ us hl => match us, hl with | [_, _], _ => rfl), (ok_Disk__check_place X d_Disk__check_place g_is_within )⟩⟩
  obtain ⟨g_are_within⟩ : Nonempty (CalG l.prog w K mg base 3 "are_within" ["thing", "least", "most"] (spM K 3 (w_are_within c))) := by
    let d_are_within : DefT K mg "are_within" S_are_within := ⟨_, _, fun_mk (st := S_are_within) l13 c13 k13, mgo a13⟩
    exact ⟨⟨d_are_within.f, d_are_within.fd, d_are_within.g, d_are_within.F.kp, (d_are_within.F.binds (ps := ["thing", "least", "most"]) fun _ _ _ _ _ _ us hl => match us, hl with | [_, _, _], _ => rfl), (ok_are_within X d_are_within g_is_within )⟩⟩
  obtain ⟨g_are_words⟩ : Nonempty (CalG l.prog w K mg base 4 "are_words" ["thing"] (spM K 1 (w_are_words c))) := by
    let d_are_words : DefT K mg "are_words" S_are_words := ⟨_, _, fun_mk (st := S_are_words) l14 c14 k14, mgo a14⟩
    exact ⟨⟨d_are_words.f, d_are_words.fd, d_are_words.g, d_are_words.F.kp, (d_are_words.F.binds (ps := ["thing"]) fun _ _ _ _ _ _ us hl => match us, hl with | [_], _ => rfl), (ok_are_words X d_are_words g_are_within )⟩⟩
  obtain ⟨g_is_block⟩ : Nonempty (CalG l.prog w K mg base 5 "is_block" ["thing"] (spM K 1 (w_is_block c))) := by
    let d_is_block : DefT K mg "is_block" S_is_block := ⟨_, _, fun_mk (st := S_is_block) l15 c15 k15, mgo a15⟩
    exact ⟨⟨d_is_block.f, d_is_block.fd, d_is_block.g, d_is_block.F.kp, (d_is_block.F.binds (ps := ["thing"]) fun _ _ _ _ _ _ us hl => match us, hl with | [_], _ => rfl), (ok_is_block X d_is_block g_are_words )⟩⟩
  obtain ⟨g_Disk__burn⟩ : Nonempty (MCalG l.prog w K mg base c.Disk 1 "_burn" ["self"] (spM K 1 (w_Disk__burn c))) := by
    let d_Disk__burn : MthT K c.Disk "_burn" "Disk._burn" S_Disk__burn := ⟨_, _, fun_mk (st := S_Disk__burn) l16 c16 k16, ⟨a16, i16, k16⟩⟩
    exact ⟨⟨d_Disk__burn.f, d_Disk__burn.fd, d_Disk__burn.me, (d_Disk__burn.F.binds (ps := ["self"]) fun _ _ _ _ _ _ us hl => match us, hl with | [_], _ => rfl), (ok_Disk__burn X d_Disk__burn  )⟩⟩
  obtain ⟨g_Disk_write⟩ : Nonempty (MCalG l.prog w K mg base c.Disk 6 "write" ["self", "place", "block"] (spM K 3 (w_Disk_write c))) := by
    let d_Disk_write : MthT K c.Disk "write" "Disk.write" S_Disk_write := ⟨_, _, fun_mk (st := S_Disk_write) l17 c17 k17, ⟨a17, i17, k17⟩⟩
    exact ⟨⟨d_Disk_write.f, d_Disk_write.fd, d_Disk_write.me, (d_Disk_write.F.binds (ps := ["self", "place", "block"]) fun _ _ _ _ _ _ us hl => match us, hl with | [_, _, _], _ => rfl), (ok_Disk_write X d_Disk_write g_Disk__check_place g_is_block g_Disk__burn )⟩⟩
  obtain ⟨g_Disk__wait_for_none⟩ : Nonempty (MCalG l.prog w K mg base c.Disk 1 "_wait_for_none" ["self"] (spM K 1 (w_Disk__wait_for_none c))) := by
    let d_Disk__wait_for_none : MthT K c.Disk "_wait_for_none" "Disk._wait_for_none" S_Disk__wait_for_none := ⟨_, _, fun_mk (st := S_Disk__wait_for_none) l18 c18 k18, ⟨a18, i18, k18⟩⟩
    exact ⟨⟨d_Disk__wait_for_none.f, d_Disk__wait_for_none.fd, d_Disk__wait_for_none.me, (d_Disk__wait_for_none.F.binds (ps := ["self"]) fun _ _ _ _ _ _ us hl => match us, hl with | [_], _ => rfl), (ok_Disk__wait_for_none X d_Disk__wait_for_none  )⟩⟩
  obtain ⟨g_Disk_force⟩ : Nonempty (MCalG l.prog w K mg base c.Disk 2 "force" ["self"] (spM K 1 (w_Disk_force c))) := by
    let d_Disk_force : MthT K c.Disk "force" "Disk.force" S_Disk_force := ⟨_, _, fun_mk (st := S_Disk_force) l19 c19 k19, ⟨a19, i19, k19⟩⟩
    exact ⟨⟨d_Disk_force.f, d_Disk_force.fd, d_Disk_force.me, (d_Disk_force.F.binds (ps := ["self"]) fun _ _ _ _ _ _ us hl => match us, hl with | [_], _ => rfl), (ok_Disk_force X d_Disk_force g_Disk__burn g_Disk__wait_for_none )⟩⟩
  obtain ⟨g__law_forced⟩ : Nonempty (CalG l.prog w K mg base 1 "_law_forced" ["it"] (spM K 1 (w__law_forced c))) := by
    let d__law_forced : DefT K mg "_law_forced" S__law_forced := ⟨_, _, fun_mk (st := S__law_forced) l20 c20 k20, mgo a20⟩
    exact ⟨⟨d__law_forced.f, d__law_forced.fd, d__law_forced.g, d__law_forced.F.kp, (d__law_forced.F.binds (ps := ["it"]) fun _ _ _ _ _ _ us hl => match us, hl with | [_], _ => rfl), (ok__law_forced X d__law_forced  )⟩⟩
  obtain ⟨g__law_keep⟩ : Nonempty (CalG l.prog w K mg base 3 "_law_keep" ["deck", "many"] (spM K 2 (w__law_keep c))) := by
    let d__law_keep : DefT K mg "_law_keep" S__law_keep := ⟨_, _, fun_mk (st := S__law_keep) l21 c21 k21, mgo a21⟩
    exact ⟨⟨d__law_keep.f, d__law_keep.fd, d__law_keep.g, d__law_keep.F.kp, (d__law_keep.F.binds (ps := ["deck", "many"]) fun _ _ _ _ _ _ us hl => match us, hl with | [_, _], _ => rfl), (ok__law_keep X d__law_keep g__law_pick g__law_draw )⟩⟩
  obtain ⟨g_is_keep⟩ : Nonempty (CalG l.prog w K mg base 4 "is_keep" ["thing"] (spM K 1 (w_is_keep c))) := by
    let d_is_keep : DefT K mg "is_keep" S_is_keep := ⟨_, _, fun_mk (st := S_is_keep) l22 c22 k22, mgo a22⟩
    exact ⟨⟨d_is_keep.f, d_is_keep.fd, d_is_keep.g, d_is_keep.F.kp, (d_is_keep.F.binds (ps := ["thing"]) fun _ _ _ _ _ _ us hl => match us, hl with | [_], _ => rfl), (ok_is_keep X d_is_keep g_are_within )⟩⟩
  obtain ⟨g_Disk_cut, kb_Disk_cut_1_keep⟩ : ∃ g : MCalG l.prog w K mg base c.Disk 5 "cut" ["self", "keep"] (spM K 2 (w_Disk_cut c)), KB K g.fd ["self", "keep"] 1 ["keep"] [0] := by
    let d_Disk_cut : MthT K c.Disk "cut" "Disk.cut" S_Disk_cut := ⟨_, _, fun_mk (st := S_Disk_cut) l23 c23 k23, ⟨a23, i23, k23⟩⟩
    refine ⟨⟨d_Disk_cut.f, d_Disk_cut.fd, d_Disk_cut.me, (d_Disk_cut.F.binds (ps := ["self", "keep"]) fun _ _ _ _ _ _ us hl => match us, hl with | [_, _], _ => rfl), (ok_Disk_cut X d_Disk_cut g_is_keep g_Disk__wait_for_none )⟩, ?_⟩
    · exact kb_mk fun us ws h1 h2 => match us, ws, h1, h2 with | [x0], [y0], _, _ => rfl
  obtain ⟨g__law_fell⟩ : Nonempty (CalG l.prog w K mg base 1 "_law_fell" ["it", "keep"] (spM K 2 (w__law_fell c))) := by
    let d__law_fell : DefT K mg "_law_fell" S__law_fell := ⟨_, _, fun_mk (st := S__law_fell) l24 c24 k24, mgo a24⟩
    exact ⟨⟨d__law_fell.f, d__law_fell.fd, d__law_fell.g, d__law_fell.F.kp, (d__law_fell.F.binds (ps := ["it", "keep"]) fun _ _ _ _ _ _ us hl => match us, hl with | [_, _], _ => rfl), (ok__law_fell X d__law_fell  )⟩⟩
  obtain ⟨g_Disk_standing⟩ : Nonempty (MCalG l.prog w K mg base c.Disk 1 "standing" ["self"] (spM K 1 (w_Disk_standing c))) := by
    let d_Disk_standing : MthT K c.Disk "standing" "Disk.standing" S_Disk_standing := ⟨_, _, fun_mk (st := S_Disk_standing) l25 c25 k25, ⟨a25, i25, k25⟩⟩
    exact ⟨⟨d_Disk_standing.f, d_Disk_standing.fd, d_Disk_standing.me, (d_Disk_standing.F.binds (ps := ["self"]) fun _ _ _ _ _ _ us hl => match us, hl with | [_], _ => rfl), (ok_Disk_standing X d_Disk_standing  )⟩⟩
  obtain ⟨g_Disk_waiting⟩ : Nonempty (MCalG l.prog w K mg base c.Disk 1 "waiting" ["self"] (spM K 1 (w_Disk_waiting c))) := by
    let d_Disk_waiting : MthT K c.Disk "waiting" "Disk.waiting" S_Disk_waiting := ⟨_, _, fun_mk (st := S_Disk_waiting) l26 c26 k26, ⟨a26, i26, k26⟩⟩
    exact ⟨⟨d_Disk_waiting.f, d_Disk_waiting.fd, d_Disk_waiting.me, (d_Disk_waiting.F.binds (ps := ["self"]) fun _ _ _ _ _ _ us hl => match us, hl with | [_], _ => rfl), (ok_Disk_waiting X d_Disk_waiting  )⟩⟩
  obtain ⟨g_Disk_read⟩ : Nonempty (MCalG l.prog w K mg base c.Disk 4 "read" ["self", "place"] (spM K 2 (w_Disk_read c))) := by
    let d_Disk_read : MthT K c.Disk "read" "Disk.read" S_Disk_read := ⟨_, _, fun_mk (st := S_Disk_read) l27 c27 k27, ⟨a27, i27, k27⟩⟩
    exact ⟨⟨d_Disk_read.f, d_Disk_read.fd, d_Disk_read.me, (d_Disk_read.F.binds (ps := ["self", "place"]) fun _ _ _ _ _ _ us hl => match us, hl with | [_, _], _ => rfl), (ok_Disk_read X d_Disk_read g_Disk__check_place )⟩⟩
  let d_law : DefT K mg "law" S_law := ⟨_, _, fun_mk (st := S_law) l28 c28 k28, mgo a28⟩
  exact run_of (ok_law X d_law g__law_deck g__law_drawn_sizes g_Disk___init__ g__law_blank g__law_draw g__law_many g__law_pick g__law_block g_Disk_write g_Disk_force g__law_forced g__law_keep g_Disk_cut g__law_fell g_Disk_standing g_Disk_waiting g_Disk_read kb_Disk___init___1_blocks_segments kb_Disk_cut_1_keep) (by decide) en hb hu hS (fun _ H' p => p.pe.sqT hB) (main c ns hl)
end Tk13
open PySem PySem.W PyProof.Rows
set_option maxRecDepth 100000 in
set_option maxHeartbeats 0 in
theorem PySem.Challenge.cw_trailkeep_k13_whole_cuts_lose_keep_and_t_holds : PySem.Challenge.rw_trailkeep_k13_whole_cuts_lose_keep_and_t.Holds := by
  w_on; o_law; k_head; (case hw => w_witness2)
  k_fill
  refine Tk.walk_lawF (l := PySem.Challenge.rw_trailkeep_k13_whole_cuts_lose_keep_and_t) (x := "script") (zs := (List.replicate 32 (0 : Int)).map L2.V.int) rfl (by decide) rfl (fun w h Y => PySem.W.kIn_of Y) ?F
  case F =>
    intro w mg fa h KX G hX hmg
    refine' Tk13.all_mk (l := PySem.Challenge.rw_trailkeep_k13_whole_cuts_lose_keep_and_t) KX G hmg (Sm.loose_int hX.2 (List.Mem.head _)) (Sm.loose_tup (zs := List.replicate 32 (0 : Int)) hX.2 (List.Mem.tail _ (List.Mem.head _)) (by decide)) ?aCDisk ?a0 ?l0 ?c0 ?k0 ?a1 ?l1 ?c1 ?k1 ?a2 ?l2 ?c2 ?k2 ?a3 ?l3 ?c3 ?k3 ?a4 ?l4 ?c4 ?k4 ?a5 ?l5 ?c5 ?k5 ?a6 ?l6 ?c6 ?k6 ?i6 ?a7 ?l7 ?c7 ?k7 ?a8 ?l8 ?c8 ?k8 ?a9 ?l9 ?c9 ?k9 ?a10 ?l10 ?c10 ?k10 ?a11 ?l11 ?c11 ?k11 ?a12 ?l12 ?c12 ?k12 ?i12 ?a13 ?l13 ?c13 ?k13 ?a14 ?l14 ?c14 ?k14 ?a15 ?l15 ?c15 ?k15 ?a16 ?l16 ?c16 ?k16 ?i16 ?a17 ?l17 ?c17 ?k17 ?i17 ?a18 ?l18 ?c18 ?k18 ?i18 ?a19 ?l19 ?c19 ?k19 ?i19 ?a20 ?l20 ?c20 ?k20 ?a21 ?l21 ?c21 ?k21 ?a22 ?l22 ?c22 ?k22 ?a23 ?l23 ?c23 ?k23 ?i23 ?a24 ?l24 ?c24 ?k24 ?a25 ?l25 ?c25 ?k25 ?i25 ?a26 ?l26 ?c26 ?k26 ?i26 ?a27 ?l27 ?c27 ?k27 ?i27 ?a28 ?l28 ?c28 ?k28 ?pgDisk ?hdDisk ?poDisk ?saDisk ?mkDisk ?kCDisk ?nDisk_fuse ?nDisk_newest ?nDisk_sizes ?nDisk_standing ?nDisk_waiting ?mBLOCK_WORDS ?mCONTENT_WORDS ?mLEAST_BLOCKS ?mLEAST_SEGMENTS ?mMOST_BLOCKS ?mMOST_SEGMENTS ?mROOT_WORDS ?zall ?zbool ?zenumerate ?zint ?zisinstance ?zlen ?zmax ?zrange ?zrepr ?ztuple ?zzip
    (case aCDisk => k_is)
    (case a0 => k_is)
    (case l0 => k_is)
    (case c0 => k_is)
    (case k0 => k_is)
    (case a1 => k_is)
    (case l1 => k_is)
    (case c1 => k_is)
    (case k1 => k_is)
    (case a2 => k_is)
    (case l2 => k_is)
    (case c2 => k_is)
    (case k2 => k_is)
    (case a3 => k_is)
    (case l3 => k_is)
    (case c3 => k_is)
    (case k3 => k_is)
    (case a4 => k_is)
    (case l4 => k_is)
    (case c4 => k_is)
    (case k4 => k_is)
    (case a5 => k_is)
    (case l5 => k_is)
    (case c5 => k_is)
    (case k5 => k_is)
    (case a6 => k_is)
    (case l6 => k_is)
    (case c6 => k_is)
    (case k6 => k_is)
    (case i6 => k_is)
    (case a7 => k_is)
    (case l7 => k_is)
    (case c7 => k_is)
    (case k7 => k_is)
    (case a8 => k_is)
    (case l8 => k_is)
    (case c8 => k_is)
    (case k8 => k_is)
    (case a9 => k_is)
    (case l9 => k_is)
    (case c9 => k_is)
    (case k9 => k_is)
    (case a10 => k_is)
    (case l10 => k_is)
    (case c10 => k_is)
    (case k10 => k_is)
    (case a11 => k_is)
    (case l11 => k_is)
    (case c11 => k_is)
    (case k11 => k_is)
    (case a12 => k_is)
    (case l12 => k_is)
    (case c12 => k_is)
    (case k12 => k_is)
    (case i12 => k_is)
    (case a13 => k_is)
    (case l13 => k_is)
    (case c13 => k_is)
    (case k13 => k_is)
    (case a14 => k_is)
    (case l14 => k_is)
    (case c14 => k_is)
    (case k14 => k_is)
    (case a15 => k_is)
    (case l15 => k_is)
    (case c15 => k_is)
    (case k15 => k_is)
    (case a16 => k_is)
    (case l16 => k_is)
    (case c16 => k_is)
    (case k16 => k_is)
    (case i16 => k_is)
    (case a17 => k_is)
    (case l17 => k_is)
    (case c17 => k_is)
    (case k17 => k_is)
    (case i17 => k_is)
    (case a18 => k_is)
    (case l18 => k_is)
    (case c18 => k_is)
    (case k18 => k_is)
    (case i18 => k_is)
    (case a19 => k_is)
    (case l19 => k_is)
    (case c19 => k_is)
    (case k19 => k_is)
    (case i19 => k_is)
    (case a20 => k_is)
    (case l20 => k_is)
    (case c20 => k_is)
    (case k20 => k_is)
    (case a21 => k_is)
    (case l21 => k_is)
    (case c21 => k_is)
    (case k21 => k_is)
    (case a22 => k_is)
    (case l22 => k_is)
    (case c22 => k_is)
    (case k22 => k_is)
    (case a23 => k_is)
    (case l23 => k_is)
    (case c23 => k_is)
    (case k23 => k_is)
    (case i23 => k_is)
    (case a24 => k_is)
    (case l24 => k_is)
    (case c24 => k_is)
    (case k24 => k_is)
    (case a25 => k_is)
    (case l25 => k_is)
    (case c25 => k_is)
    (case k25 => k_is)
    (case i25 => k_is)
    (case a26 => k_is)
    (case l26 => k_is)
    (case c26 => k_is)
    (case k26 => k_is)
    (case i26 => k_is)
    (case a27 => k_is)
    (case l27 => k_is)
    (case c27 => k_is)
    (case k27 => k_is)
    (case i27 => k_is)
    (case a28 => k_is)
    (case l28 => k_is)
    (case c28 => k_is)
    (case k28 => k_is)
    (case pgDisk => k_is)
    (case hdDisk => k_is)
    (case poDisk => k_is)
    (case saDisk => k_is)
    (case mkDisk => k_is)
    (case kCDisk => k_is)
    (case nDisk_fuse => k_is)
    (case nDisk_newest => k_is)
    (case nDisk_sizes => k_is)
    (case nDisk_standing => k_is)
    (case nDisk_waiting => k_is)
    (case mBLOCK_WORDS => k_is)
    (case mCONTENT_WORDS => k_is)
    (case mLEAST_BLOCKS => k_is)
    (case mLEAST_SEGMENTS => k_is)
    (case mMOST_BLOCKS => k_is)
    (case mMOST_SEGMENTS => k_is)
    (case mROOT_WORDS => k_is)
    (case zall => k_is)
    (case zbool => k_is)
    (case zenumerate => k_is)
    (case zint => k_is)
    (case zisinstance => k_is)
    (case zlen => k_is)
    (case zmax => k_is)
    (case zrange => k_is)
    (case zrepr => k_is)
    (case ztuple => k_is)
    (case zzip => k_is)

