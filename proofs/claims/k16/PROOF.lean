import PyProof.Rows.All
import Wide.All
import OpenK.AllK
import Wide.FinOn
import HandS.Call
import HandS.List
import HandS.Comp
import HandS.Dict
import HandS.Iter
import HandS.Ends
import PyProof.ReprRoads
import KE.DataMinMax
import HandS.Words
import HandS.WordsList
import HandS.Codes
import HandS.Exc
import HandS.Style
import HandS.IsInst
import HandS.Conv
import HandS.TupMul
import HandS.EndBits
import HandS.Defaults
import HandS.MakeKwOnly
import PyProof.ReprLen
import HandS.TupAny
import HandS.Zip
import KE.GoesEnum
import PySem.Challenge.RW_trailkeep_k16_sizes_and_places
set_option Elab.async false
set_option linter.all false
set_option maxRecDepth 100000
set_option maxHeartbeats 1000000
namespace Tk
open PySem PySem.Spec PyProof.Rows L2

/-! what the layer lacks: repr of data, max of data, a call with the guards told -/
def rRep (K : PySem.W.Frag) : List V → Hp → VK → Prop := fun xs H Q =>
  ∃ (x : V) (d : PyData), xs = [x] ∧ Dp K H x d ∧ d.showable = true ∧ d.hasDict = false ∧ d.depth ≤ 60 ∧ d.shown.length ≤ sizeLine ∧ Q (.str d.shown) H

section
variable {X : Cx}
theorem call_repr (hg : X.A.guards = some []) (hu : X.A.units + 64 < cLine) : CallR X (.builtin "repr") (rRep X.K) := by
  intro pins s σ H xs us Q I r h
  obtain ⟨x, d, rfl, hd, hs, hn, hp, hz, q⟩ := h
  obtain ⟨u, rfl, ru⟩ := vals1 r
  cases hd with
  | non =>
    obtain rfl : u = Value.none := ru
    exact PySem.P.repr_of_none ⟨.str _, H, I.tok _, ⟨_, rfl⟩, by simpa only [PyData.shown] using q⟩
  | bl b =>
    obtain rfl : u = Value.bool b := ru
    exact PySem.P.repr_of_bool ⟨.str _, H, I.tok _, ⟨_, rfl⟩, by simpa only [PyData.shown] using q⟩
  | int i =>
    obtain ⟨t, rfl⟩ : ∃ t, u = Value.int i t := ru
    exact PySem.P.repr_of_int (by simpa [PyData.showable] using hs) ⟨.str _, H, I.tok _, ⟨_, rfl⟩, by simpa only [PyData.shown] using q⟩
  | str z =>
    obtain ⟨t, rfl⟩ : ∃ t, u = Value.str z t := ru
    exact PySem.P.repr_of_str ⟨.str _, H, I.tok _, ⟨_, rfl⟩, by simpa only [PyData.shown] using q⟩ (by simpa only [PyData.shown] using hz)
  | lst h1 h2 =>
    obtain rfl : u = Value.ref _ := ru
    obtain ⟨as, rd⟩ := Dp.reads I _ _ _ (Dp.lst h1 h2) rfl
    exact repr_of_reads' rd hs (PyData.noDict_hsm hn) hg (by omega) (fun _ _ e => e) (fun h' u tk hk => ⟨.str _, H, I.kept hk, ⟨_, rfl⟩, q⟩) hz
  | tup h1 h2 =>
    obtain rfl : u = Value.ref _ := ru
    obtain ⟨as, rd⟩ := Dp.reads I _ _ _ (Dp.tup h1 h2) rfl
    exact repr_of_reads' rd hs (PyData.noDict_hsm hn) hg (by omega) (fun _ _ e => e) (fun h' u tk hk => ⟨.str _, H, I.kept hk, ⟨_, rfl⟩, q⟩) hz
end
end Tk

namespace Tk
open PySem PySem.Spec PyProof.Rows L2

/-- a def of the top, as it stands in the written part -/
structure DefT (K : PySem.W.Frag) (mg : Str → Option Value) (x : Str) (st : Stmt) where
  f : Addr
  fd : FuncData
  F : Fun K x x st f fd
  g : mg x = some (.ref f)
/-- a method -/
structure MthT (K : PySem.W.Frag) (C : Addr) (m qual : Str) (st : Stmt) where
  f : Addr
  fd : FuncData
  F : Fun K m qual st f fd
  me : Meth K C m f
/-- a def that keeps its promise, and may be called -/
structure Cal (P : Program) (w : World) (K : PySem.W.Frag) (mg : Str → Option Value) (base : Heap) (k : Nat) (x : Str) (ps : List Str) (sp : Sp) where
  f : Addr
  fd : FuncData
  g : mg x = some (.ref f)
  kp : PySem.W.keepIn K (.ref f) = true
  b : Binds K fd ps []
  ok : FnOk P w K mg base CX0 k f fd ps sp
structure MCal (P : Program) (w : World) (K : PySem.W.Frag) (mg : Str → Option Value) (base : Heap) (C : Addr) (k : Nat) (m : Str) (ps : List Str) (sp : Sp) where
  f : Addr
  fd : FuncData
  me : Meth K C m f
  b : Binds K fd ps []
  ok : FnOk P w K mg base CX0 k f fd ps sp
section
variable {P : Program} {w : World} {K : PySem.W.Frag} {mg : Str → Option Value} {base : Heap} {x m qual : Str} {st : Stmt} {k : Nat} {ps : List Str} {sp : Sp} {C : Addr}
def DefT.cal (D : DefT K mg x st) (b : Binds K D.fd ps []) (ok : FnOk P w K mg base CX0 k D.f D.fd ps sp) : Cal P w K mg base k x ps sp := ⟨D.f, D.fd, D.g, D.F.kp, b, ok⟩
def MthT.cal (D : MthT K C m qual st) (b : Binds K D.fd ps []) (ok : FnOk P w K mg base CX0 k D.f D.fd ps sp) : MCal P w K mg base C k m ps sp := ⟨D.f, D.fd, D.me, b, ok⟩
end
section
variable {X : Cx} {k j : Nat} {x m : Str} {ps : List Str} {sp : Sp} {C : Addr} {e o : Expr} {es : List Expr} {t : TA} {ta : TE} {p pos apos : Pos}
theorem pc (D : Cal X.prog X.w X.K X.mg X.base k x ps sp) (hr : Room j X.A) (ha : PA X (e :: es) t) (hj : k ≤ j := by decide) (hg : Gl X x := by rfl)
    (hdb : (x == ("__debug__" : Str)) = false := by decide) (he : starEach (e :: es) X.env = (false, eval e X.env) :: starEach es X.env := by rfl) (hpl : (backTo pos (starEach es X.env)).any (·.1) = false := by rfl) :
    PE X (.Call (.Name x p) (e :: es) [] pos) (tCall sp [] E0 t) := pe_call D.ok (hr.mono hj) hg D.g D.kp D.b .nil pass0 ha hdb he hpl
end

/-! ### heaps but for some addresses -/
/-- all that was tracked is as it was, but at the addresses of l -/
def But (l : List Addr) (H H' : Hp) : Prop := ∀ b o, H b = some o → b ∉ l → H' b = some o
theorem But.refl {l : List Addr} {H : Hp} : But l H H := fun _ _ h _ => h
theorem But.trans {l : List Addr} {H H1 H2 : Hp} (a : But l H H1) (b : But l H1 H2) : But l H H2 := fun c o h n => b c o (a c o h n) n
theorem But.mono {l l' : List Addr} {H H1 : Hp} (a : But l H H1) (s : ∀ b ∈ l, b ∈ l') : But l' H H1 := fun c o h n => a c o h fun q => n (s c q)
theorem But.of_same {l : List Addr} {H H1 : Hp} (a : Same H H1) : But l H H1 := fun c o h _ => a c o h
theorem But.new {l : List Addr} {H : Hp} {p : Addr} {o : HO} (n : H p = none) : But l H (upd H p o) := fun c u h _ => by rw [upd_ne (ne_of_none h n)]; exact h
theorem But.put {l : List Addr} {H : Hp} {p : Addr} {o : HO} (n : p ∈ l) : But l H (upd H p o) := fun c u h q => by
  rw [upd_ne (fun z => q (by rw [z]; exact n))]
  exact h
theorem Same.new {H : Hp} {p : Addr} {o : HO} (n : H p = none) : Same H (upd H p o) := fun c u h => by rw [upd_ne (ne_of_none h n)]; exact h
end Tk
namespace Tk
open PySem PySem.Spec PyProof.Rows L2
/-- a new object is changed: what stood before it is as it was -/
theorem Same.put {H H4 : Hp} {q : Addr} {o : HO} (n : H q = none) (s : Same H H4) : Same H (upd H4 q o) := fun c u h => by
  rw [upd_ne (ne_of_none h n)]
  exact s c u h
theorem take_map_next {α : Type} {ns : List α} {f : α → V} {i : Nat} {z : α} (h : ns[i]? = some z) : (ns.take i).map f ++ [f z] = (ns.take (i + 1)).map f := by
  rw [List.take_add_one, h]
  simp
end Tk
namespace Tk
open PySem PySem.Spec PyProof.Rows L2
/-- a comprehension without a test -/
theorem tyes {σ : L2.St} {H : Hp} {F G : Hp → Prop} (h : F H) : tYes σ H (fun b H3 => if b = true then F H3 else G H3) := by
  show (if true = true then F H else G H)
  rw [if_pos rfl]
  exact h
end Tk
namespace Tk
open PySem PySem.Spec PyProof.Rows L2
section
variable {X : Cx} {k j : Nat} {x m : Str} {ps : List Str} {sp : Sp} {C : Addr} {e o : Expr} {es : List Expr} {t : TA} {ta : TE} {p pos apos : Pos}
/-- o.m(e, ..) -/
theorem pm {pl : Sem Bool} (c : Cls X.K C) (M : MCal X.prog X.w X.K X.mg X.base C k m ps sp) (hr : Room j X.A) (he : PE X o ta) (ha : PA X (e :: es) t) (hj : k ≤ j := by decide)
    (hst : starEach (e :: es) X.env = (false, eval e X.env) :: starEach es X.env := by rfl) (hpl : (backTo pos (starEach es X.env)).any (·.1) = false := by rfl)
    (ht : eval (.Call (.Attribute o m apos) (e :: es) [] pos) X.env = (do let ob ← eval o X.env; standAt apos.atName; let (g, fs) ← holding [ob] (getMethod ob m pl); callWith pos g fs (backTo pos (starEach (e :: es) X.env)) (backToKw pos (keywordEach [] X.env))) := by rfl) :
    PE X (.Call (.Attribute o m apos) (e :: es) [] pos) (tMeth C m sp [] E0 ta t) := pe_meth he c M.me M.ok (hr.mono hj) M.b .nil pass0 ha hst hpl ht
/-- o.m() -/
theorem pm0 {pl : Sem Bool} (c : Cls X.K C) (M : MCal X.prog X.w X.K X.mg X.base C k m ps sp) (hr : Room j X.A) (he : PE X o ta) (hj : k ≤ j := by decide)
    (ht : eval (.Call (.Attribute o m apos) [] [] pos) X.env = (do let ob ← eval o X.env; standAt apos.atName; let (g, fs) ← holding [ob] (getMethod ob m pl); callWith pos g fs (backTo pos (starEach [] X.env)) (backToKw pos (keywordEach [] X.env))) := by rfl) :
    PE X (.Call (.Attribute o m apos) [] [] pos) (tMeth C m sp [] E0 ta tNil) := pe_meth0 he c M.me M.ok (hr.mono hj) M.b .nil pass0 ht
end
end Tk

namespace Tk
open PySem PySem.Spec PyProof.Rows L2

/-! ### the law's own def, entered by the checker: around it stands callerA, and nothing is shown by repr -/
section
variable {P : Program} {w : World} {K : PySem.W.Frag} {mg : Str → Option Value} {base : Heap}
/-- the body of a def, run once, at a known around -/
theorem def_run {x qual : Str} {st : Stmt} {f : Addr} {fd : FuncData} {N ps : List Str} {k : Nat} {A : Around} {outer : List Env} {s : Shared} {H : Hp} {args : Args} {us : List Value} {vs : List V} {Q : VK} {E : XK}
    (F : Fun K x qual st f fd) (S : FnScope N ps (defScope st)) (hl : vs.length = ps.length) (hr : Room (k + 1) A) (e0 : Env0 P w K mg base A outer s H) (hb : BindsTo s fd args (ps.zip us)) (r : Vals vs us)
    (body : ∀ cdv : Value, ∃ t, PSs (cxOf CX0 P w K mg base N qual (defScope st) f cdv A outer s H E).nox (defBody st) t ∧ t { nx := fun _ H' => Q .non H', rt := Q } (start N vs) H) :
    codeAny (model P w) A (.call (.ref f) args) (CR CX0 outer P w H s Q E) s := by
  obtain ⟨oc, od, kV, doc, pm, an, cdv, ct, osl, hfd, lk, hcd⟩ := F.ex
  subst hfd
  have keepB : ∀ b o, base.get? b = some o → s.heap.get? b = some o := fun b o e => (e0.bs b o e).1
  have inK := e0.mod.kin.keeps keepB
  refine codeAny_call_function hr.depth (inK _ _ lk) rfl S.co S.gen rfl
    (PySem.W.codeRec_of inK hcd) (hb _ _ _ _ ?_)
  refine wpAny_newFunctionEnv_cells S.kind (fun y hy => ?_) fun env he s1 ent => ?_
  · rcases S.par y.1 (List.of_mem_zip (show (y.1, y.2) ∈ ps.zip us from hy)).1 with q | q
    · exact .inl q
    · exact .inr ⟨q, PySem.W.cellsFrom_some _ _ _ (.inl q)⟩
  · subst he
    have noLim := e0.mod.nolimit.keeps keepB
    refine ⟨noLim.keeps ent.toInCall.keep, codeAny_func ?_⟩
    obtain ⟨t, ht0, hq⟩ := body cdv
    have ht := ht0.nox
    have I0 := inv_start (CX := CX0) (E := E) S hr.hd e0 hl r ent
    refine wpAny_mono (ht.run [] s1 (start N vs) H _ I0 hq) (fun fl s' hs => ?_)
      (fun _ _ h => h)
    cases fl with
    | ret u =>
      obtain ⟨v, σ', H', J, rv, qq⟩ := hs
      exact ⟨v, H', J.os, J.bare, J.base, J.hok, rv, qq⟩
    | next =>
      obtain ⟨σ', H', J, qq⟩ := hs
      exact ⟨V.non, H', J.os, J.bare, J.base, J.hok, rfl, qq⟩
    | brk => exact (let ⟨_, _, _, qq⟩ := hs; qq.elim)
    | cont => exact (let ⟨_, _, _, qq⟩ := hs; qq.elim)
end
end Tk
namespace Tk
open PySem PySem.Spec PyProof.Rows L2
/-- only known, locked things are tracked -/
def OnlyF (H : Hp) : Prop := ∀ b, H b = none ∨ ∃ o u, H b = some (.frz o u)
section
variable {P : Program} {w : World} {K : PySem.W.Frag} {mg mb : Str → Option Value}
theorem law_core {s₁ : Shared} {fa : Addr} {args : Args} {H : Hp} (KX : K.In s₁.heap) (hns : s₁.heap.Ns mainGlobals mg) (hb : s₁.heap.Ns builtinsNs mb) (hbb : ∀ x : Str, x ≠ "__name__" → mb x = bootBuiltins x)
    (hlim : s₁.heap.NoLimit) (hg : s₁.gens = #[]) (hO : OnlyF H) (hok : HOk P w H s₁.heap) (hK : ∀ b, H b ≠ none → K.lookup b = none)
    (hD : ∀ b ob es ep, s₁.heap.get? b = some ob → ob.data = .dict es ep → H b = none)
    (run : ∀ base : Heap, K.In base → base.Ns mainGlobals mg → Env0 P w K mg base callerA [] s₁ H →
      codeAny (model P w) callerA (.call (.ref fa) args) (CR CX0 [] P w H s₁ (fun v _ => v = .bl true) E0) s₁) :
    codeAny (model P w) callerA (.call (.ref fa) args) (fun r s' => r = .ok (.ret (.bool true)) ∧ OldK s₁.heap s'.heap ∧ s'.os = s₁.os ∧ AllBare s'.gens) s₁ := by
  have toBase : ∀ {b : Addr} {o : Obj}, s₁.heap.get? b = some o → H b = none → (hidT s₁.heap H).get? b = some o := fun e n => hidT_get e n
  have nsB : ∀ {b : Addr} {m : Str → Option Value}, s₁.heap.Ns b m → (hidT s₁.heap H).Ns b m := fun {b m} hh => by
    obtain ⟨o, es, ep, e, dd, rr⟩ := hh
    exact ⟨o, es, ep, toBase e (hD _ _ _ _ e dd), dd, rr⟩
  have KB : K.In (hidT s₁.heap H) := fun b o e => toBase (KX b o e) (by
    cases q : H b with
    | none => rfl
    | some u =>
      have z := hK b (by rw [q]; exact nofun)
      rw [z] at e
      cases e)
  have md : Mod K mg (hidT s₁.heap H) := by
    obtain ⟨mc, l1, l2⟩ := hlim
    exact ⟨KB, nsB hns, ⟨mb, nsB hb, hbb⟩, ⟨mc, nsB l1, l2⟩⟩
  have en : Env0 P w K mg (hidT s₁.heap H) callerA [] s₁ H :=
    ⟨rfl, md, fun b o e => of_hidT e, Nat.le_of_eq (hidT_size _ _), trivial, fun b hb' => absurd hb' List.not_mem_nil, hok, .of_eq hg⟩
  refine codeAny_mono (run _ KB (nsB hns) en) fun r s' h => ?_
  cases r with
  | error e => exact (show False from h).elim
  | ok fl =>
    cases fl with
    | ret u =>
      obtain ⟨v, H', os, bare, un, hok', r', q⟩ := h
      obtain rfl : v = .bl true := q
      obtain rfl : u = Value.bool true := r'
      refine ⟨rfl, OldK.of_keep fun b o e => ?_, os, bare⟩
      rcases hO b with z | ⟨ob, uu, z⟩
      · exact un.keep b o e z (fun y => absurd y List.not_mem_nil) List.not_mem_nil
      · have z2 := un.frzs b ob _ z
        have e1 := (hok b _ z).1
        have e2 := (hok' b _ z2).1
        rw [e] at e1
        cases e1
        exact e2
    | next => exact (show False from h).elim
    | brk => exact (show False from h).elim
    | cont => exact (show False from h).elim

/-- what a tuple of the module's own is, before the law -/
structure TupAt (h : Heap) (a : Addr) (xs : List V) : Prop where
  ex : ∃ (o : Obj) (its : List Value) (n : Nat), h.get? a = some o ∧ o.cls = .type "tuple" ∧ o.data = .seq its.toArray n ∧ Vals xs its ∧ xs.length ≤ sizeLine
/-- the end: from the law's run at any tracked heap in which the script and the tuple t are to be read -/
theorem walk_law {l : PySem.W.OpenLaw} {n : Nat} {q : Program} {loose : List Str} {XP : (Str → Option Value) → Heap → Prop} {YP : World → Heap → Prop} {d : DefRec} {K : Params → PySem.W.Frag} {x : Str} {zs : List V}
    (hn : l.most = some n) (hn2 : n ≤ sizeLine) (hdf : d.params.defaults = []) (hY : ∀ (w : World) (h : Heap), YP w h → (K w.params).In h)
    (F : ∀ (w : World) (mg : Str → Option Value) (fa : Addr) (h : Heap), (K w.params).In h → h.Ns mainGlobals mg → XP mg h → mg d.name = some (.ref fa) →
      ∃ (fd : FuncData) (t : Addr), TupAt h t zs ∧ (∀ (s : Shared) (u : Value), BindsTo s fd ⟨[u], []⟩ [(x, u)]) ∧
        ∀ (base : Heap) (s₁ : Shared) (H : Hp) (a : Addr) (u : Value) (ns : List Int), Env0 l.prog w (K w.params) mg base callerA [] s₁ H → BindsTo s₁ fd ⟨[u], []⟩ [(x, u)] → u = .ref a →
          SqL (K w.params) H a (ns.map V.int) → ns.length ≤ n → SqT (K w.params) H t zs → (∀ b, H b ≠ none → b = a ∨ b = t) →
          codeAny (model l.prog w) callerA (.call (.ref fa) ⟨[u], []⟩) (CR CX0 [] l.prog w H s₁ (fun v _ => v = .bl true) E0) s₁) :
    PySem.W.WalkO q loose XP YP l.row.toRowW d [] (fun f vs => PySem.call f vs) := by
  refine Att.attach_call hn hdf fun w s₀ s₁ mg mb fa o pm cd doc a vs ns G Y ho hd hcd hmg hobj hints hlen hg => ?_
  have KX := hY w _ Y
  obtain ⟨fd, t, ht, hbind, run⟩ := F w mg fa _ KX G.T.g G.X hmg
  obtain ⟨ot, its, nt, e1, e2, e3, e4, e5⟩ := ht.ex
  have rv := vals_ints hints
  have hz : (ns.map V.int).length ≤ sizeLine := by rw [List.length_map]; exact Nat.le_trans hlen hn2
  have nat : t ≠ a := fun z => by
    rw [z, hobj] at e1
    cases e1
    exact absurd (show Value.type "list" = Value.type "tuple" from e2) (by decide)
  let Ha : Option HO := match (K w.params).lookup a with
    | none => some (.frz { cls := .type "list", data := .seq vs.toArray } (.lst (ns.map V.int)))
    | some _ => none
  let Ht : Option HO := match (K w.params).lookup t with
    | none => some (.frz ot (.tup zs))
    | some _ => none
  let H : Hp := fun b => if b = a then Ha else if b = t then Ht else none
  have hHa : H a = Ha := if_pos rfl
  have hHt : H t = Ht := by
    show (if t = a then Ha else if t = t then Ht else none) = Ht
    rw [if_neg nat, if_pos rfl]
  have hHo : ∀ b, b ≠ a → b ≠ t → H b = none := fun b n1 n2 => by
    show (if b = a then Ha else if b = t then Ht else none) = none
    rw [if_neg n1, if_neg n2]
  have cases3 : ∀ b, H b ≠ none → b = a ∨ b = t := fun b z => by
    by_cases n1 : b = a
    · exact .inl n1
    · by_cases n2 : b = t
      · exact .inr n2
      · exact absurd (hHo b n1 n2) z
  have Sa : SqL (K w.params) H a (ns.map V.int) := by
    cases k : (K w.params).lookup a with
    | none => exact .inl (.inr ⟨_, by rw [hHa]; show (match (K w.params).lookup a with | none => _ | some _ => _) = _; rw [k]⟩)
    | some oa =>
      have e := KX a oa k
      rw [hobj] at e
      cases e
      exact .inr ⟨_, vs.toArray, _, k, rfl, rfl, rfl, by rw [List.size_toArray, hints.length]; exact Nat.le_trans hlen hn2, by simpa using rv⟩
  have St : SqT (K w.params) H t zs := by
    cases k : (K w.params).lookup t with
    | none => exact .inl (.inr ⟨_, by rw [hHt]; show (match (K w.params).lookup t with | none => _ | some _ => _) = _; rw [k]⟩)
    | some oa =>
      have e := KX t oa k
      rw [e1] at e
      cases e
      exact .inr ⟨_, its.toArray, _, k, e2, e3, by rw [List.size_toArray, ← e4.length]; exact e5, by simpa using e4⟩
  refine law_core (H := H) KX G.T.g G.T.b G.T.builtins G.T.nolimit hg (fun b => ?_) (fun b u z => ?_) (fun b z => ?_) (fun b ob es ep e dd => ?_)
    (fun base _ _ en => run base s₁ H a _ ns en (hbind s₁ _) rfl Sa hlen St cases3)
  · by_cases n1 : b = a
    · subst n1
      cases k : (K w.params).lookup b with
      | none => exact .inr ⟨_, _, by rw [hHa]; show (match (K w.params).lookup b with | none => _ | some _ => _) = _; rw [k]⟩
      | some oa => exact .inl (by rw [hHa]; show (match (K w.params).lookup b with | none => _ | some _ => _) = _; rw [k])
    · by_cases n2 : b = t
      · subst n2
        cases k : (K w.params).lookup b with
        | none => exact .inr ⟨_, _, by rw [hHt]; show (match (K w.params).lookup b with | none => _ | some _ => _) = _; rw [k]⟩
        | some oa => exact .inl (by rw [hHt]; show (match (K w.params).lookup b with | none => _ | some _ => _) = _; rw [k])
      · exact .inl (hHo b n1 n2)
  · rcases cases3 b (by rw [z]; exact nofun) with n1 | n2
    · subst n1
      cases k : (K w.params).lookup b with
      | none =>
        have y : H b = some (.frz { cls := .type "list", data := .seq vs.toArray } (.lst (ns.map V.int))) := by rw [hHa]; show (match (K w.params).lookup b with | none => _ | some _ => _) = _; rw [k]
        rw [z] at y
        cases y
        exact ⟨hobj, hz, vs, _, rv, hobj⟩
      | some oa =>
        have y : H b = none := by rw [hHa]; show (match (K w.params).lookup b with | none => _ | some _ => _) = _; rw [k]
        rw [z] at y
        cases y
    · subst n2
      cases k : (K w.params).lookup b with
      | none =>
        have y : H b = some (.frz ot (.tup zs)) := by rw [hHt]; show (match (K w.params).lookup b with | none => _ | some _ => _) = _; rw [k]
        rw [z] at y
        cases y
        exact ⟨e1, e5, its, e4, ot, e1, e2, _, e3⟩
      | some oa =>
        have y : H b = none := by rw [hHt]; show (match (K w.params).lookup b with | none => _ | some _ => _) = _; rw [k]
        rw [z] at y
        cases y
  · rcases cases3 b z with n1 | n2
    · subst n1
      cases k : (K w.params).lookup b with
      | none => rfl
      | some oa => exact absurd (by rw [hHa]; show (match (K w.params).lookup b with | none => _ | some _ => _) = _; rw [k]) z
    · subst n2
      cases k : (K w.params).lookup b with
      | none => rfl
      | some oa => exact absurd (by rw [hHt]; show (match (K w.params).lookup b with | none => _ | some _ => _) = _; rw [k]) z
  · by_cases n1 : b = a
    · subst n1
      rw [hobj] at e
      cases e
      cases dd
    · by_cases n2 : b = t
      · subst n2
        rw [e1] at e
        cases e
        rw [e3] at dd
        cases dd
      · exact hHo b n1 n2
end
end Tk

namespace Tk
open PySem PySem.Spec PyProof.Rows L2
/-- f(k = v, ..): keywords alone -/
def tCallKw (n : Nat) (sp : Sp) (gV : List V → List V → List V) (tk : TA) : TE := fun σ H Q => tk σ H fun zs H2 => zs.length = n ∧ sp (gV [] zs) H2 Q E0
section
variable {X : Cx} {k j : Nat} {x : Str} {ps ks : List Str} {sp : Sp} {tk : TA} {p pos : Pos} {kws : List Keyword} {g : List Value → List Value → List Value} {gV : List V → List V → List V}
theorem pcK (D : Cal X.prog X.w X.K X.mg X.base k x ps sp) (hb : KBn X.K D.fd ps 0 ks g gV) (hr : Room j X.A) (hkw : PK X kws tk) (hj : k ≤ j := by decide) (hg : Gl X x := by rfl)
    (hall : (backToKw pos (keywordEach kws X.env)).all (·.1.isSome) = true := by rfl) (hks : (backToKw pos (keywordEach kws X.env)).filterMap (·.1) = ks := by rfl) (hdb : (x == ("__debug__" : Str)) = false := by decide)
    (hpl : ((backTo pos (starEach [] X.env)).any (·.1) || (backToKw pos (keywordEach kws X.env)).any (·.1.isNone)) = false := by rfl) : PE X (.Call (.Name x p) [] kws pos) (tCallKw ks.length sp gV tk) := by
  constructor
  intro pins s σ H Q I h
  refine wpAny_Call_Name_kw (ld_glob I hg D.g ?_ hdb)
  refine PySem.W.callWith_KW0 (h₀ := X.base) I.ok.mod.kin D.kp hall (thn (hkw.run pos pins s σ H _ I h) fun ws s2 hz => ?_) hpl
  obtain ⟨zs, H2, I2, rz, l2, q2⟩ := hz
  refine ⟨I2.kIn, ?_⟩
  rw [hks]
  exact run_fnN (us := []) (vs := []) D.ok (hr.mono hj) hb pass0 I2 .nil rz rfl l2 q2
end
/-- three parameters by keywords, in the turned order -/
def turn3 {α : Type} (_ ws : List α) : List α := match ws with
  | [a, b, c] => [c, b, a]
  | r => r
theorem turn3_rel {vs : List V} {us : List Value} {zs : List V} {ws : List Value} (_ : Vals vs us) (r : Vals zs ws) : Vals (turn3 vs zs) (turn3 us ws) := by
  cases r with
  | nil => exact .nil
  | cons r1 t1 =>
    cases t1 with
    | nil => exact .cons r1 .nil
    | cons r2 t2 =>
      cases t2 with
      | nil => exact .cons r1 (.cons r2 .nil)
      | cons r3 t3 =>
        cases t3 with
        | nil => exact .cons r3 (.cons r2 (.cons r1 .nil))
        | cons r4 t4 => exact .cons r1 (.cons r2 (.cons r3 (.cons r4 t4)))
end Tk

namespace Tk
open PySem PySem.Spec PyProof.Rows L2
/-- data that repr shows, in at most n signs, at most k deep -/
structure Sh (d : PyData) (n k : Nat) : Prop where
  sh : d.showable = true
  nd : d.hasDict = false
  dp : d.depth ≤ k
  ln : d.shown.length ≤ n
structure ShAll (ds : List PyData) (n k : Nat) : Prop where
  sh : PyData.showableAll ds = true
  nd : PyData.hasDictAll ds = false
  dp : PyData.depthAll ds ≤ k
  ln : ((PyData.shownAll ds).map (·.length)).sum + 2 * ds.length ≤ n
theorem shownAll_len : ∀ ds : List PyData, (PyData.shownAll ds).length = ds.length
  | [] => by simp [PyData.shownAll]
  | d :: ds => by simp [PyData.shownAll, shownAll_len ds]
theorem Sh.none : Sh .none 4 0 := ⟨by simp [PyData.showable], by simp [PyData.hasDict], by simp [PyData.depth], by simp only [PyData.shown]; decide⟩
theorem Sh.int {i : Int} (h0 : 0 ≤ i) (h1 : i < 100000000000) : Sh (.int i) 12 0 := by
  have a : i.natAbs < 10 ^ 11 := by omega
  have b : i.natAbs.log2 < 1920 := by
    by_cases z : i.natAbs = 0
    · rw [z]; decide
    · have c : i.natAbs < 2 ^ 37 := by omega
      exact (Nat.log2_lt z).mpr (Nat.lt_of_lt_of_le c (Nat.pow_le_pow_right (by decide) (by decide)))
  refine ⟨by simp [PyData.showable, b], by simp [PyData.hasDict], by simp [PyData.depth], ?_⟩
  simp only [PyData.shown]
  show (Str.ofString (toString i)).length ≤ 12
  have q := int_text_length_le10 (a := i) (k := 11) (by decide) a
  rw [PySem.ofString_length]
  exact q
theorem ShAll.nil {k : Nat} : ShAll [] 0 k := ⟨by simp [PyData.showableAll], by simp [PyData.hasDictAll], by simp [PyData.depthAll], by simp [PyData.shownAll]⟩
theorem ShAll.cons {d : PyData} {ds : List PyData} {n m k : Nat} (h : Sh d n k) (t : ShAll ds m k) : ShAll (d :: ds) (n + 2 + m) k := by
  obtain ⟨a1, a2, a3, a4⟩ := h
  obtain ⟨b1, b2, b3, b4⟩ := t
  refine ⟨by simp [PyData.showableAll, a1, b1], by simp [PyData.hasDictAll, a2, b2], ?_, ?_⟩
  · simp only [PyData.depthAll]; exact Nat.max_le.mpr ⟨a3, b3⟩
  · simp only [PyData.shownAll, List.map_cons, List.sum_cons, List.length_cons]; omega
theorem Sh.tup {ds : List PyData} {n k : Nat} (h : ShAll ds n k) : Sh (.tuple ds) (n + 3) (k + 1) := by
  obtain ⟨b1, b2, b3, b4⟩ := h
  refine ⟨by simpa [PyData.showable] using b1, by simpa [PyData.hasDict] using b2, by simp only [PyData.depth]; omega, ?_⟩
  simp only [PyData.shown]
  have z := tupleText_len_le (PyData.shownAll ds)
  rw [shownAll_len] at z
  omega
theorem Sh.lst {ds : List PyData} {n k : Nat} (h : ShAll ds n k) : Sh (.list ds) (n + 3) (k + 1) := by
  obtain ⟨b1, b2, b3, b4⟩ := h
  refine ⟨by simpa [PyData.showable] using b1, by simpa [PyData.hasDict] using b2, by simp only [PyData.depth]; omega, ?_⟩
  simp only [PyData.shown]
  have z := listText_len_le (PyData.shownAll ds)
  rw [shownAll_len] at z
  omega
theorem ShAll.all {n k : Nat} : ∀ {ds : List PyData}, (∀ d ∈ ds, Sh d n k) → ShAll ds ((n + 2) * ds.length) k
  | [], _ => ShAll.nil
  | d :: ds, h => by
    have q := ShAll.cons (h d List.mem_cons_self) (ShAll.all fun e he => h e (List.mem_cons_of_mem _ he))
    have e : n + 2 + (n + 2) * ds.length = (n + 2) * (d :: ds).length := by rw [List.length_cons, Nat.mul_add]; omega
    rw [e] at q; exact q
theorem Sh.up {d : PyData} {n k m j : Nat} (h : Sh d n k) (h1 : n ≤ m) (h2 : k ≤ j) : Sh d m j := ⟨h.sh, h.nd, Nat.le_trans h.dp h2, Nat.le_trans h.ln h1⟩
/-- repr of such -/
def rShow (K : PySem.W.Frag) : List V → Hp → VK → Prop := fun xs H Q => ∃ (x : V) (d : PyData), xs = [x] ∧ Dp K H x d ∧ Sh d 16000000 50 ∧ Q (.str d.shown) H
section
variable {X : Cx}
theorem call_show (hg : X.A.guards = some []) (hu : X.A.units + 64 < cLine) : CallR X (.builtin "repr") (rShow X.K) := by
  intro pins s σ H xs us Q I r h
  obtain ⟨x, d, e, hd, hs, q⟩ := h
  exact call_repr hg hu pins s σ H xs us Q I r ⟨x, d, e, hd, hs.sh, hs.nd, Nat.le_trans hs.dp (by decide), Nat.le_trans hs.ln (by decide), q⟩
/-- max of a tuple of things that are all one datum: one of them -/
def rMaxOne (K : PySem.W.Frag) : List V → Hp → VK → Prop := fun vs H Q => ∃ (a : Addr) (xs : List V) (d : PyData), vs = [.ref a] ∧ SqT K H a xs ∧ xs ≠ [] ∧ (∀ x ∈ xs, Dp K H x d) ∧ PySem.W.alike d d = true ∧ d ≠ .none ∧ d.depth ≤ 50 ∧ ∀ x ∈ xs, Q x H
theorem dpAll_rep {K : PySem.W.Frag} {H : Hp} {d : PyData} : ∀ {xs : List V}, (∀ x ∈ xs, Dp K H x d) → DpAll K H xs (List.replicate xs.length d)
  | [], _ => .nil
  | x :: xs, h => .cons (h x List.mem_cons_self) (dpAll_rep fun y hy => h y (List.mem_cons_of_mem _ hy))
theorem depth_rep (d : PyData) : ∀ n, PyData.depthAll (List.replicate n d) ≤ d.depth
  | 0 => by simp [PyData.depthAll]
  | n + 1 => by
    rw [List.replicate_succ]
    simp only [PyData.depthAll]
    exact Nat.max_le.mpr ⟨Nat.le_refl _, depth_rep d n⟩
theorem call_maxOne (hc : X.calm = true) (hu : X.A.units + 64 < cLine) : CallR X (.builtin "max") (rMaxOne X.K) := by
  intro pins s σ H vs us Q I r h
  obtain ⟨a, xs, d, rfl, ha, hne, hd, al, nn, dp, q⟩ := h
  obtain ⟨u, rfl, ru⟩ := vals1 r
  obtain rfl : u = Value.ref a := ru
  obtain ⟨its, rv, ⟨o, ho, hcl, n, hdt⟩, _⟩ := I.tuple ha
  obtain ⟨as, hr⟩ := Dp.readsAll I _ _ its (dpAll_rep hd) rv
  cases hx : xs.length with
  | zero => exact absurd (List.eq_nil_of_length_eq_zero hx) hne
  | succ m =>
    rw [hx, List.replicate_succ] at hr
    have all : ∀ x ∈ d :: List.replicate m d, x = d := fun x hm => by
      rw [← List.replicate_succ] at hm
      exact List.eq_of_mem_replicate hm
    have dpa : PyData.depthAll (d :: List.replicate m d) ≤ d.depth := by
      rw [← List.replicate_succ]; exact depth_rep d _
    refine PySem.W.max_tuple_data (vs := its.toArray) (I.ok.hd hc) ⟨o, ho, hcl, n, hdt⟩ (by simpa using hr) ⟨fun x hx y hy => by rw [all x hx, all y hy]; exact al, fun x hx => by rw [all x hx]; exact nn⟩ (by omega) fun i v h' tk bs hi _ hk => ?_
    have hi2 : its[i]? = some v := by simpa using hi
    have hil : i < its.length := (List.getElem?_eq_some_iff.mp hi2).1
    have hxl : i < xs.length := by rw [rv.length]; exact hil
    obtain ⟨w, hw, rw'⟩ := rv.get (i := i) (x := xs[i]) (List.getElem?_eq_getElem hxl)
    rw [hi2] at hw
    cases hw
    exact ⟨xs[i], H, I.kept hk, rw', q _ (List.getElem_mem hxl)⟩
end
end Tk

namespace Tk
open PySem PySem.Spec PyProof.Rows L2
section
variable (l : Addr) (items : Array Value) (n : Nat) (dd : Option Addr) (sl : Array (Option Value)) (u : Tok)
/-- t * 1 is t -/
theorem mul_once : Meets (Builtin.«tuple.__mul__» ⟨[.ref l, .int 1 u], []⟩) (fun _ R s => s.heap.get? l = some { cls := .type "tuple", dict := dd, data := .seq items n, slots := sl } ∧ R (.ok (.ret (Value.ref l))) s) :=
  .of_wp fun prog w A R s h => by
    obtain ⟨hp, g, d, tk, os⟩ := s
    obtain ⟨hl, h⟩ := h
    have f1 := AutoSeq1.idx_int
    have c1 : (items.isEmpty || (1 : Int) == 1) = true := by simp
    wp_walk using wpAny_loadPart' hl
    repeat (first
      | (refine wpAny_ite_true (by rw [c1]) ?_; wp_walk using wpAny_loadPart' hl)
      | (refine wpAny_ite_false (by decide) ?_; wp_walk using wpAny_loadPart' hl))
    all_goals exact ⟨_, rfl, h⟩
/-- t * 0, t * -3: a new empty one -/
theorem mul_none (x : Int) (hx : x ≤ 0) (hb : -(2 ^ 63) ≤ x) (hi : items.isEmpty = false) : Meets (Builtin.«tuple.__mul__» ⟨[.ref l, .int x u], []⟩) (fun _ R s => s.heap.get? l = some { cls := .type "tuple", dict := dd, data := .seq items n, slots := sl } ∧
      R (.ok (.ret (Value.ref s.heap.objs.size))) { s with heap := s.heap.push { cls := Value.type "tuple", data := Data.seq #[] }, toks := s.toks }) :=
  .of_wp fun prog w A R s h => by
    obtain ⟨hp, g, d, tk, os⟩ := s
    obtain ⟨hl, h⟩ := h
    have f1 := AutoSeq1.idx_int
    have c0 : (decide (x < -(2 ^ 63)) || decide (x ≥ 2 ^ 63)) = false := by rw [decide_eq_false (by omega), decide_eq_false (by omega)]; rfl
    have c1 : (items.isEmpty || x == 1) = false := by rw [hi, Bool.false_or]; exact beq_eq_false_iff_ne.mpr (by omega)
    have c2 : (decide (x ≤ 0) || items.isEmpty) = true := by rw [decide_eq_true hx]; rfl
    wp_walk using wpAny_loadPart' hl
    repeat (first
      | (refine wpAny_ite_true (by rw [c2]) ?_; wp_walk using wpAny_loadPart' hl)
      | (refine wpAny_ite_false (decide_eq_false (by rw [c0]; exact Bool.false_ne_true)) ?_; wp_walk using wpAny_loadPart' hl)
      | (refine wpAny_ite_false (by rw [c0]; exact Bool.false_ne_true) ?_; wp_walk using wpAny_loadPart' hl)
      | (refine wpAny_ite_false (by rw [c1]; exact Bool.false_ne_true) ?_; wp_walk using wpAny_loadPart' hl)
      | (refine wpAny_ite_false (decide_eq_false (by rw [c1]; exact Bool.false_ne_true)) ?_; wp_walk using wpAny_loadPart' hl))
    all_goals exact ⟨_, rfl, h⟩
end
/-- t * k, whatever k is -/
def rRepA (K : PySem.W.Frag) : R2 := fun x y H Q => ∃ (l : Addr) (k : Int) (xs : List V), x = .ref l ∧ y = .int k ∧ SqT K H l xs ∧ xs ≠ [] ∧ -1000 ≤ k ∧ k ≤ 1000 ∧ xs.length ≤ 1000 ∧
  ∀ p H', ((k = 1 ∧ p = l ∧ H' = H) ∨ (k ≠ 1 ∧ H p = none ∧ H' = upd H p (.tup (List.replicate k.toNat xs).flatten))) → Q (.ref p) H'
section
variable {X : Cx}
theorem op_repA : OpR X (binaryOp .Mult) (rRepA X.K) := by
  intro pins s σ H x y v u Q I rx ry h
  obtain ⟨l, k, xs, rfl, rfl, hT, hne, h1, h2, hz, q⟩ := h
  by_cases hk2 : 2 ≤ k
  · exact op_repT pins s σ H _ _ v u Q I rx ry ⟨l, k, xs, rfl, rfl, hT, hne, hk2, h2, hz, fun p hp => q p _ (.inr ⟨by omega, hp, rfl⟩)⟩
  · cases rx
    obtain ⟨t, rfl⟩ := ry
    obtain ⟨its, r, ⟨⟨cls, dd, data, sl⟩, ho, hc, n, hd⟩, hs⟩ := I.tuple hT
    simp only at hc hd
    subst hc hd
    have hi : its.toArray.isEmpty = false := by
      cases its with
      | nil => cases r; exact absurd rfl hne
      | cons a b => rfl
    by_cases hk1 : k = 1
    · subst hk1
      refine wpAny_binaryOp_repeat_ref (T := "tuple") (U := "int") (by decide) ⟨_, ho, rfl⟩ (fun s' => typeIs_int s' 1 t) noFill_tuple_mul F.fills_int_mul F.slot_int_rmul repeat_tuple F.slot_int_index.lookup
        (call_meets F.slot_int_rmul (typeIs_int s 1 t) F.entry_int_rmul (F.args_int_rmul_2 _ _) (int_rmul_tuple 1 t l its.toArray n dd sl)
          ⟨ho, rfl, ⟨_, ho, rfl⟩, call_meets F.slot_tuple_mul ⟨_, ho, rfl⟩ F.entry_tuple_mul (F.args_tuple_mul_2 _ _) (mul_once l its.toArray n dd sl t) ⟨ho, ?_⟩⟩)
      exact ⟨.ref l, H, I, rfl, q l H (.inl ⟨rfl, rfl, rfl⟩)⟩
    · have hk0 : k ≤ 0 := by omega
      refine wpAny_binaryOp_repeat_ref (T := "tuple") (U := "int") (by decide) ⟨_, ho, rfl⟩ (fun s' => typeIs_int s' k t) noFill_tuple_mul F.fills_int_mul F.slot_int_rmul repeat_tuple F.slot_int_index.lookup
        (call_meets F.slot_int_rmul (typeIs_int s k t) F.entry_int_rmul (F.args_int_rmul_2 _ _) (int_rmul_tuple k t l its.toArray n dd sl)
          ⟨ho, rfl, ⟨_, ho, rfl⟩, call_meets F.slot_tuple_mul ⟨_, ho, rfl⟩ F.entry_tuple_mul (F.args_tuple_mul_2 _ _) (mul_none l its.toArray n dd sl t k hk0 (by omega) hi) ⟨ho, ?_⟩⟩)
      have ef : (List.replicate k.toNat xs).flatten = [] := by rw [Int.toNat_of_nonpos hk0]; rfl
      refine ⟨.ref s.heap.objs.size, _, I.laid (t' := s.toks) (o := .tup []) (fun b ob z => Heap.get?_push_of_some _ z) (Nat.le_refl _) ?_, rfl, q _ _ (.inr ⟨hk1, I.hok.fresh (Nat.le_refl _), by rw [ef]⟩)⟩
      exact ⟨Nat.zero_le _, [], .nil, IsTup.new _ _⟩
end
end Tk

namespace Tk
open PySem PySem.Spec PyProof.Rows L2
/-- zip of a list and a tuple: the items as they stand, in new pairs -/
def ItzM (K : PySem.W.Frag) (a b : Addr) : It :=
  ⟨fun i H => ∃ (xs ys : List V) (x y : V), SqL K H a xs ∧ SqT K H b ys ∧ xs[i]? = some x ∧ ys[i]? = some y,
    fun i H v H' => ∃ T x y, v = .ref T ∧ H T = none ∧ H' = upd H T (.tup [x, y]) ∧ (∀ l, SqL K H a l → l[i]? = some x) ∧ ∀ l, SqT K H b l → l[i]? = some y,
    fun i H => ∃ xs ys : List V, SqL K H a xs ∧ SqT K H b ys ∧ i ≤ xs.length ∧ i ≤ ys.length ∧ (xs.length = i ∨ ys.length = i)⟩
def MixTn (z TO TI i1 i2 a b : Addr) (i : Nat) (h : Heap) : Prop :=
  IsZip h z TI TO .none ∧ IsTupOf2 h TI (.ref i1) (.ref i2) ∧ (∃ x y, IsTupOf2 h TO x y) ∧ h.IsListIter i1 a i ∧ h.IsTupleIter i2 b i
theorem inList5 {c z TI TO i1 i2 : Addr} (h : c ∈ [z, TI, TO, i1, i2]) : c = z ∨ c = TI ∨ c = TO ∨ c = i1 ∨ c = i2 := by simpa using h
theorem turn_mix {P : Program} {w : World} {K : PySem.W.Frag} {elts : List Expr} {kk : Nat} {tpos : Pos} {a b z TI TO i1 i2 : Addr} (S : ZipSep2 z TI TO i1 i2 [i1, a] [i2, b]) :
    Turn P w K (.Tuple elts kk tpos) (ItzM K a b) [z, TI, TO, i1, i2] z (MixTn z TO TI i1 i2 a b) where
  mem := List.mem_cons_self
  obj := fun i h st c hc => by
    obtain ⟨g1, g2, ⟨x, y, g3⟩, ⟨o1, e1, _, d1⟩, ⟨o2, e2, _, d2⟩⟩ := st
    rcases inList5 hc with rfl | rfl | rfl | rfl | rfl
    · exact ⟨_, g1, fun v q => nomatch q⟩
    · exact ⟨_, g2, fun v q => nomatch q⟩
    · exact ⟨_, g3, fun v q => nomatch q⟩
    · exact ⟨o1, e1, fun v q => by rw [d1] at q; cases q⟩
    · exact ⟨o2, e2, fun v q => by rw [d2] at q; cases q⟩
  keep := fun i h h' st k => by
    obtain ⟨g1, g2, ⟨x, y, g3⟩, g4, g5⟩ := st
    refine ⟨k z (by simp) _ g1, k TI (by simp) _ g2, ⟨x, y, k TO (by simp) _ g3⟩, g4.at fun o q => k i1 (by simp) o q, g5.at fun o q => k i2 (by simp) o q⟩
  self := fun A i s Q E st h => wpAny_pyIter_zip st.1 h
  item := by
    intro X hP hw hK hc i pins s σ H E I hf st hg
    subst hP hw hK
    obtain ⟨g1, g2, ⟨x0, y0, g3⟩, g4, g5⟩ := st
    obtain ⟨xs, ys, x, y, hqx, hqy, hx, hy⟩ := hg
    obtain ⟨its, rv, p, _⟩ := I.list hqx
    obtain ⟨its2, rv2, p2, _⟩ := I.tuple hqy
    obtain ⟨u, hu, ru⟩ := rv.get hx
    obtain ⟨u2, hu2, ru2⟩ := rv2.get hy
    have hh := I.ok.hd hc
    have l1 : i < its.toArray.size := by rw [List.size_toArray]; exact (List.getElem?_eq_some_iff.mp hu).1
    have l2 : i < its2.toArray.size := by rw [List.size_toArray]; exact (List.getElem?_eq_some_iff.mp hu2).1
    have nea : a ≠ i1 := fun e => by
      obtain ⟨o, ho, hcl, _⟩ := g4
      obtain ⟨o', ho', hcl', _⟩ := p.isList
      rw [e, ho] at ho'
      cases ho'
      rw [hcl] at hcl'
      exact absurd hcl' (by decide)
    have neb : b ≠ i2 := fun e => by
      obtain ⟨o, ho, hcl, _⟩ := g5
      obtain ⟨o', ho', hcl', _⟩ := p2
      rw [e, ho] at ho'
      cases ho'
      rw [hcl] at hcl'
      exact absurd hcl' (by decide)
    have hzl : z < s.heap.objs.size := Heap.lt_size g1
    refine wpAny_pyNext_zipD2_item S (Draws.list (A := X.A.in1) hh i1 a nea its.toArray) (Draws.tuple (A := X.A.in1) hh i2 b neb its2.toArray) g1 g2 g3 ⟨g4, p.isList⟩ ⟨g5, p2⟩ l1 l2
      fun x1 x2 h' tk q1 q2 z' TO' st1 st2 hT hsz hk => ?_
    have e1 : x1 = u := by have q := q1.symm.trans (show its.toArray[i]? = some u by simpa using hu); exact Option.some.inj q
    have e2 : x2 = u2 := by have q := q2.symm.trans (show its2.toArray[i]? = some u2 by simpa using hu2); exact Option.some.inj q
    subst e1 e2
    refine ⟨_, rfl, wpAny_letOwnedTupleGo_zip (s := { s with heap := h', toks := tk }) z' fun h'' z'' sb => ?_⟩
    have hT2 : h''.get? s.heap.objs.size = some { cls := .type "tuple", data := .seq #[x1, x2] } := (sb.2 _ (Nat.ne_of_gt hzl)).trans hT
    have newP : ObjOk X.prog X.w (upd H s.heap.objs.size (.tup [x, y])) h'' s.heap.objs.size (.tup [x, y]) :=
      ⟨by show 2 ≤ sizeLine; decide, [x1, x2], .cons ru (.cons ru2 .nil), ⟨_, hT2, rfl, _, rfl⟩⟩
    have kk2 : ∀ c o, c ∉ [z, TI, TO, i1, i2] → s.heap.get? c = some o → h''.get? c = some o := fun c o hb q => by
      simp only [List.mem_cons, List.not_mem_nil, or_false, not_or] at hb
      exact (sb.2 c hb.1).trans (hk c o hb.1 hb.2.2.1 hb.2.2.2.1 hb.2.2.2.2 q)
    have I1 : Inv X pins σ (upd H s.heap.objs.size (.tup [x, y])) { s with heap := h'', toks := tk } := I.turnedNew (t' := tk) (ch := [z, TI, TO, i1, i2]) kk2 hf (Nat.le_refl _) newP
    refine ⟨.ref s.heap.objs.size, _, I1, rfl, ⟨_, x, y, rfl, I.hok.fresh (Nat.le_refl _), rfl, fun l hl => ?_, fun l hl => by rw [I.tuple_inj hl hqy]; exact hy⟩, ⟨z'', ?_, ⟨x1, x2, ?_⟩, ?_, ?_⟩, fun c hcm => ?_⟩
    · obtain ⟨its', rv', p', _⟩ := I.list hl
      have ea : its'.toArray = its.toArray := by
        obtain ⟨o, n1, ho, _, _, hd1⟩ := p
        obtain ⟨o', n2, ho', _, _, hd2⟩ := p'
        rw [ho] at ho'
        cases ho'
        rw [hd1] at hd2
        cases hd2
        rfl
      have eb : its' = its := by simpa using ea
      subst eb
      rw [Vals.inj rv' rv]
      exact hx
    · exact (sb.2 _ S.TIz).trans (hk _ _ S.TIz S.TITO S.TIi1 S.TIi2 g2)
    · exact (sb.2 _ S.TOz).trans TO'
    · exact st1.1.at fun o q => (sb.2 _ S.zi1.symm).trans q
    · exact st2.1.at fun o q => (sb.2 _ S.zi2.symm).trans q
    · have hlt : c < s.heap.objs.size := by
        rcases inList5 hcm with rfl | rfl | rfl | rfl | rfl
        · exact hzl
        · exact Heap.lt_size g2
        · exact Heap.lt_size g3
        · obtain ⟨_, e1, _⟩ := g4; exact Heap.lt_size e1
        · obtain ⟨_, e1, _⟩ := g5; exact Heap.lt_size e1
      rw [upd_ne (Nat.ne_of_lt hlt)]
      exact (hf c hcm).1
  done := by
    intro X hP hw hK hc i pins s σ H E I hf st hg
    subst hP hw hK
    obtain ⟨g1, g2, ⟨x0, y0, g3⟩, g4, g5⟩ := st
    obtain ⟨xs, ys, hqx, hqy, m1, m2, hend⟩ := hg
    obtain ⟨its, rv, p, _⟩ := I.list hqx
    obtain ⟨its2, rv2, p2, _⟩ := I.tuple hqy
    have hh := I.ok.hd hc
    have nea : a ≠ i1 := fun e => by
      obtain ⟨o, ho, hcl, _⟩ := g4
      obtain ⟨o', ho', hcl', _⟩ := p.isList
      rw [e, ho] at ho'
      cases ho'
      rw [hcl] at hcl'
      exact absurd hcl' (by decide)
    have neb : b ≠ i2 := fun e => by
      obtain ⟨o, ho, hcl, _⟩ := g5
      obtain ⟨o', ho', hcl', _⟩ := p2
      rw [e, ho] at ho'
      cases ho'
      rw [hcl] at hcl'
      exact absurd hcl' (by decide)
    have l1 := rv.length
    have l2 := rv2.length
    refine wpAny_pyNext_zipD2_end S (Draws.list (A := X.A.in1) hh i1 a nea its.toArray) (Draws.tuple (A := X.A.in1) hh i2 b neb its2.toArray) g1 g2 g3 ⟨g4, p.isList⟩ ⟨g5, p2⟩
      (by rw [List.size_toArray]; omega) (by rw [List.size_toArray]; omega) (by rw [List.size_toArray, List.size_toArray]; omega) fun h' tk hk => ⟨rfl, I.turnedL (t' := tk) (ch := [z, TI, TO, i1, i2]) (fun c o hb q => ?_) hf⟩
    simp only [List.mem_cons, List.not_mem_nil, or_false, not_or] at hb
    exact hk c o hb.1 hb.2.2.1 hb.2.2.2.1 hb.2.2.2.2 q

def iZipM (K : PySem.W.Frag) (ta : TA) : TI := fun σ H R => ta σ H fun vs H1 => ∃ a b xs ys, vs = [.ref a, .ref b] ∧ SqL K H1 a xs ∧ SqT K H1 b ys ∧ R (ItzM K a b) H1
theorem pi_zipM {X : Cx} {e e2 : Expr} {ta : TA} {p pos tpos : Pos} {elts : List Expr} {kk : Nat} (hg : Gl X "zip") (hm : X.mg "zip" = none) (ha : PA X [e, e2] ta)
    (hs : starEach [e, e2] X.env = (false, eval e X.env) :: starEach [e2] X.env := by rfl) (hpl : (backTo pos (starEach [e2] X.env)).any (·.1) = false := by rfl) :
    PI X (.Tuple elts kk tpos) (.Call (.Name "zip" p) [e, e2] [] pos) (iZipM X.K ta) := by
  constructor
  intro pins s σ H R I h
  refine Call_ (ld_blt I hg hm PyProof.Rows.boot_zip (PyProof.Rows.callWith_type1 (thn (ha.run pos pins s σ H _ I h) fun us s1 hq => ?_) hs hpl))
  obtain ⟨vs, H1, I1, r1, a, b, xs, ys, ex, hqx, hqy, q⟩ := hq
  subst ex
  obtain ⟨u, u2, rfl, ru, ru2⟩ := vals2 r1
  obtain rfl : u = Value.ref a := ru
  obtain rfl : u2 = Value.ref b := ru2
  obtain ⟨its, rv, p1, _⟩ := I1.list hqx
  obtain ⟨its2, rv2, p2, _⟩ := I1.tuple hqy
  obtain ⟨oa, hoa, _⟩ := id p1.isList
  obtain ⟨ob, hob, _⟩ := id p2
  have la := Heap.lt_size hoa
  have lb := Heap.lt_size hob
  refine zip_begins2 (begins_list a its.toArray) (begins_tuple b its2.toArray) p1.isList p2 fun h' hz hTI hTO h1 h2 hsz hk => wpAny_pyIter_zip hz ?_
  have I2 : Inv X pins σ H1 { s1 with heap := h' } := I1.kept (t' := s1.toks) hk
  refine ⟨s1.heap.objs.size + 4, [s1.heap.objs.size + 4, s1.heap.objs.size + 2, s1.heap.objs.size + 3, s1.heap.objs.size, s1.heap.objs.size + 1], _, _, H1, rfl, I2,
    turn_mix (zip_sep2 (fun c hc => by rw [List.mem_singleton.mp hc]; exact la) (fun c hc => by rw [List.mem_singleton.mp hc]; exact lb)), ⟨hz, hTI, ⟨_, _, hTO⟩, ⟨_, h1, rfl, rfl⟩, ⟨_, h2, rfl, rfl⟩⟩, fun c hcm => ?_, q⟩
  have hle : s1.heap.objs.size ≤ c := by
    rcases inList5 hcm with z | z | z | z | z <;> (rw [z]; first | exact Nat.le_add_right _ _ | exact Nat.le_refl _)
  exact I1.fpOk hle (I1.hok.fresh hle)
/-- a loop over such a zip: as many turns as the shorter one has items -/
theorem for_zipM {K : PySem.W.Frag} {a b : Addr} {xs ys : List V} {g : TG} {tb : TS} {D : Ends} {σ : L2.St} {H : Hp} (Pv : Nat → L2.St → Hp → Prop) (h0 : Pv 0 σ H) (hq : ∀ i σ H, Pv i σ H → SqL K H a xs ∧ SqT K H b ys)
    (hs : ∀ (i : Nat) (x y : V) (T : Addr) (σ : L2.St) (H : Hp), xs[i]? = some x → ys[i]? = some y → Pv i σ H → H T = none → g (.ref T) σ (upd H T (.tup [x, y])) fun σ2 H2 => tb { D with nx := Pv (i + 1), ct := Pv (i + 1), bk := D.nx } σ2 H2)
    (hd : ∀ σ H, Pv (min xs.length ys.length) σ H → D.nx σ H) :
    ∃ W : Nat → Nat → L2.St → Hp → Prop, (∃ m, W 0 m σ H) ∧ ∀ i m σ H, W i m σ H →
      ((ItzM K a b).stop i H ∧ D.nx σ H) ∨ ((ItzM K a b).go i H ∧ ∃ N : L2.St → Hp → Prop, (∀ σ' H', N σ' H' → ∃ m', m' < m ∧ W (i + 1) m' σ' H') ∧ ∀ v H', (ItzM K a b).yld i H v H' → g v σ H' fun σ2 H2 => tb { D with nx := N, ct := N, bk := D.nx } σ2 H2) := by
  refine ⟨fun i m σ H => m = min xs.length ys.length - i ∧ i ≤ min xs.length ys.length ∧ Pv i σ H, ⟨_, rfl, Nat.zero_le _, h0⟩, ?_⟩
  rintro i m σ H ⟨rfl, hi, pp⟩
  obtain ⟨qx, qy⟩ := hq i σ H pp
  by_cases hlt : i < min xs.length ys.length
  · have lx : i < xs.length := by omega
    have ly : i < ys.length := by omega
    refine .inr ⟨⟨xs, ys, _, _, qx, qy, List.getElem?_eq_getElem lx, List.getElem?_eq_getElem ly⟩, Pv (i + 1), fun σ' H' p' => ⟨_, by omega, rfl, by omega, p'⟩, ?_⟩
    rintro v H' ⟨T, x, y, rfl, hT, rfl, f1, f2⟩
    exact hs i x y T σ H (f1 _ qx) (f2 _ qy) pp hT
  · have e : i = min xs.length ys.length := by omega
    refine .inl ⟨⟨xs, ys, qx, qy, by omega, by omega, by omega⟩, hd σ H ?_⟩
    rw [← e]; exact pp
end Tk

namespace Tk16
open PySem PySem.Spec PyProof.Rows L2 Tk
def top (i : Nat) : Stmt := PySem.Challenge.pw_trailkeep_k16_sizes_and_places.main.body.getD i (.Pass ⟨0, 0, 0, 0⟩)
abbrev S_BadSize___init__ : Stmt := inClass (top 3) 0
theorem sc_BadSize___init__ : FnScope ["self", "thing"] ["self", "thing"] (defScope S_BadSize___init__) := ⟨rfl, rfl, rfl, by decide +kernel, rfl, by decide +kernel, by decide +kernel⟩
abbrev S_BadPlace___init__ : Stmt := inClass (top 4) 0
theorem sc_BadPlace___init__ : FnScope ["self", "thing"] ["self", "thing"] (defScope S_BadPlace___init__) := ⟨rfl, rfl, rfl, by decide +kernel, rfl, by decide +kernel, by decide +kernel⟩
abbrev S_BadBlock___init__ : Stmt := inClass (top 5) 0
theorem sc_BadBlock___init__ : FnScope ["self", "thing"] ["self", "thing"] (defScope S_BadBlock___init__) := ⟨rfl, rfl, rfl, by decide +kernel, rfl, by decide +kernel, by decide +kernel⟩
abbrev S_PowerCut___init__ : Stmt := inClass (top 6) 0
theorem sc_PowerCut___init__ : FnScope ["self"] ["self"] (defScope S_PowerCut___init__) := ⟨rfl, rfl, rfl, by decide +kernel, rfl, by decide +kernel, by decide +kernel⟩
abbrev S_BadNumber___init__ : Stmt := inClass (top 7) 0
theorem sc_BadNumber___init__ : FnScope ["self", "thing"] ["self", "thing"] (defScope S_BadNumber___init__) := ⟨rfl, rfl, rfl, by decide +kernel, rfl, by decide +kernel, by decide +kernel⟩
abbrev S_BadDisk___init__ : Stmt := inClass (top 8) 0
theorem sc_BadDisk___init__ : FnScope ["self", "thing"] ["self", "thing"] (defScope S_BadDisk___init__) := ⟨rfl, rfl, rfl, by decide +kernel, rfl, by decide +kernel, by decide +kernel⟩
abbrev S_BadSegment___init__ : Stmt := inClass (top 9) 0
theorem sc_BadSegment___init__ : FnScope ["self", "thing"] ["self", "thing"] (defScope S_BadSegment___init__) := ⟨rfl, rfl, rfl, by decide +kernel, rfl, by decide +kernel, by decide +kernel⟩
abbrev S_BadOffset___init__ : Stmt := inClass (top 10) 0
theorem sc_BadOffset___init__ : FnScope ["self", "thing"] ["self", "thing"] (defScope S_BadOffset___init__) := ⟨rfl, rfl, rfl, by decide +kernel, rfl, by decide +kernel, by decide +kernel⟩
abbrev S_is_integer : Stmt := top 14
theorem sc_is_integer : FnScope ["thing"] ["thing"] (defScope S_is_integer) := ⟨rfl, rfl, rfl, by decide +kernel, rfl, by decide +kernel, by decide +kernel⟩
abbrev S_is_within : Stmt := top 15
theorem sc_is_within : FnScope ["thing", "least", "most"] ["thing", "least", "most"] (defScope S_is_within) := ⟨rfl, rfl, rfl, by decide +kernel, rfl, by decide +kernel, by decide +kernel⟩
abbrev S_are_within : Stmt := top 16
theorem sc_are_within : FnScope ["thing", "least", "most", "part"] ["thing", "least", "most"] (defScope S_are_within) := ⟨rfl, rfl, rfl, by decide +kernel, rfl, by decide +kernel, by decide +kernel⟩
abbrev S_are_words : Stmt := top 17
theorem sc_are_words : FnScope ["thing"] ["thing"] (defScope S_are_words) := ⟨rfl, rfl, rfl, by decide +kernel, rfl, by decide +kernel, by decide +kernel⟩
abbrev S_is_block : Stmt := top 26
theorem sc_is_block : FnScope ["thing"] ["thing"] (defScope S_is_block) := ⟨rfl, rfl, rfl, by decide +kernel, rfl, by decide +kernel, by decide +kernel⟩
abbrev S_is_fuse : Stmt := top 27
theorem sc_is_fuse : FnScope ["thing"] ["thing"] (defScope S_is_fuse) := ⟨rfl, rfl, rfl, by decide +kernel, rfl, by decide +kernel, by decide +kernel⟩
abbrev S_Disk___init__ : Stmt := inClass (top 28) 0
theorem sc_Disk___init__ : FnScope ["self", "segments", "blocks", "keys", "area"] ["self", "segments", "blocks"] (defScope S_Disk___init__) := ⟨rfl, rfl, rfl, by decide +kernel, rfl, by decide +kernel, by decide +kernel⟩
abbrev S_Disk_sizes : Stmt := inClass (top 28) 1
theorem sc_Disk_sizes : FnScope ["self"] ["self"] (defScope S_Disk_sizes) := ⟨rfl, rfl, rfl, by decide +kernel, rfl, by decide +kernel, by decide +kernel⟩
abbrev S_Disk_many : Stmt := inClass (top 28) 2
theorem sc_Disk_many : FnScope ["self"] ["self"] (defScope S_Disk_many) := ⟨rfl, rfl, rfl, by decide +kernel, rfl, by decide +kernel, by decide +kernel⟩
abbrev S_Disk_read : Stmt := inClass (top 28) 3
theorem sc_Disk_read : FnScope ["self", "place"] ["self", "place"] (defScope S_Disk_read) := ⟨rfl, rfl, rfl, by decide +kernel, rfl, by decide +kernel, by decide +kernel⟩
abbrev S_Disk_write : Stmt := inClass (top 28) 4
theorem sc_Disk_write : FnScope ["self", "place", "block"] ["self", "place", "block"] (defScope S_Disk_write) := ⟨rfl, rfl, rfl, by decide +kernel, rfl, by decide +kernel, by decide +kernel⟩
abbrev S_Disk_force : Stmt := inClass (top 28) 5
theorem sc_Disk_force : FnScope ["self", "place", "block"] ["self"] (defScope S_Disk_force) := ⟨rfl, rfl, rfl, by decide +kernel, rfl, by decide +kernel, by decide +kernel⟩
abbrev S_Disk_waiting : Stmt := inClass (top 28) 6
theorem sc_Disk_waiting : FnScope ["self"] ["self"] (defScope S_Disk_waiting) := ⟨rfl, rfl, rfl, by decide +kernel, rfl, by decide +kernel, by decide +kernel⟩
abbrev S_Disk_standing : Stmt := inClass (top 28) 7
theorem sc_Disk_standing : FnScope ["self"] ["self"] (defScope S_Disk_standing) := ⟨rfl, rfl, rfl, by decide +kernel, rfl, by decide +kernel, by decide +kernel⟩
abbrev S_Disk_cut : Stmt := inClass (top 28) 8
theorem sc_Disk_cut : FnScope ["self", "keep"] ["self", "keep"] (defScope S_Disk_cut) := ⟨rfl, rfl, rfl, by decide +kernel, rfl, by decide +kernel, by decide +kernel⟩
abbrev S_Disk_fuse : Stmt := inClass (top 28) 9
theorem sc_Disk_fuse : FnScope ["self", "many"] ["self", "many"] (defScope S_Disk_fuse) := ⟨rfl, rfl, rfl, by decide +kernel, rfl, by decide +kernel, by decide +kernel⟩
abbrev S_Disk_copied : Stmt := inClass (top 28) 10
theorem sc_Disk_copied : FnScope ["self"] ["self"] (defScope S_Disk_copied) := ⟨rfl, rfl, rfl, by decide +kernel, rfl, by decide +kernel, by decide +kernel⟩
abbrev S_Disk__check_place : Stmt := inClass (top 28) 11
theorem sc_Disk__check_place : FnScope ["self", "place"] ["self", "place"] (defScope S_Disk__check_place) := ⟨rfl, rfl, rfl, by decide +kernel, rfl, by decide +kernel, by decide +kernel⟩
abbrev S_Disk__burn : Stmt := inClass (top 28) 12
theorem sc_Disk__burn : FnScope ["self"] ["self"] (defScope S_Disk__burn) := ⟨rfl, rfl, rfl, by decide +kernel, rfl, by decide +kernel, by decide +kernel⟩
abbrev S_Disk__wait_for_none : Stmt := inClass (top 28) 13
theorem sc_Disk__wait_for_none : FnScope ["self"] ["self"] (defScope S_Disk__wait_for_none) := ⟨rfl, rfl, rfl, by decide +kernel, rfl, by decide +kernel, by decide +kernel⟩
abbrev S_place_at : Stmt := top 29
theorem sc_place_at : FnScope ["disk", "segment", "offset", "segments", "blocks", "_", "area"] ["disk", "segment", "offset"] (defScope S_place_at) := ⟨rfl, rfl, rfl, by decide +kernel, rfl, by decide +kernel, by decide +kernel⟩
abbrev S__law_deck : Stmt := top 31
theorem sc__law_deck : FnScope ["script", "mixed", "cell"] ["script"] (defScope S__law_deck) := ⟨rfl, rfl, rfl, by decide +kernel, rfl, by decide +kernel, by decide +kernel⟩
abbrev S__law_draw : Stmt := top 32
theorem sc__law_draw : FnScope ["deck", "below", "figure", "cell"] ["deck", "below"] (defScope S__law_draw) := ⟨rfl, rfl, rfl, by decide +kernel, rfl, by decide +kernel, by decide +kernel⟩
abbrev S__law_pick : Stmt := top 33
theorem sc__law_pick : FnScope ["deck", "some"] ["deck", "some"] (defScope S__law_pick) := ⟨rfl, rfl, rfl, by decide +kernel, rfl, by decide +kernel, by decide +kernel⟩
abbrev S__law_sizes : Stmt := top 34
theorem sc__law_sizes : FnScope ["segments", "blocks", "room"] ["segments", "blocks"] (defScope S__law_sizes) := ⟨rfl, rfl, rfl, by decide +kernel, rfl, by decide +kernel, by decide +kernel⟩
abbrev S__law_many : Stmt := top 35
theorem sc__law_many : FnScope ["sizes"] ["sizes"] (defScope S__law_many) := ⟨rfl, rfl, rfl, by decide +kernel, rfl, by decide +kernel, by decide +kernel⟩
abbrev S__law_place : Stmt := top 36
theorem sc__law_place : FnScope ["sizes", "segment", "offset"] ["sizes", "segment", "offset"] (defScope S__law_place) := ⟨rfl, rfl, rfl, by decide +kernel, rfl, by decide +kernel, by decide +kernel⟩
abbrev S__law_word : Stmt := top 37
theorem sc__law_word : FnScope ["deck"] ["deck"] (defScope S__law_word) := ⟨rfl, rfl, rfl, by decide +kernel, rfl, by decide +kernel, by decide +kernel⟩
abbrev S__law_block : Stmt := top 38
theorem sc__law_block : FnScope ["deck", "way", "word", "i"] ["deck"] (defScope S__law_block) := ⟨rfl, rfl, rfl, by decide +kernel, rfl, by decide +kernel, by decide +kernel⟩
abbrev S_law : Stmt := top 39
theorem sc_law : FnScope ["script", "deck", "go", "segments", "blocks", "disk", "sizes", "segment", "offset", "told", "due", "at", "block"] ["script"] (defScope S_law) := ⟨rfl, rfl, rfl, by decide +kernel, rfl, by decide +kernel, by decide +kernel⟩
/-! ### the law's deck: a row of ints, a mixed number, a turn -/
def kCells : Key := Sum.inr ("cells" : Str)
def kMixed : Key := Sum.inr ("mixed" : Str)
def kTurn : Key := Sum.inr ("turn" : Str)
def deckK (c : Addr) (m t : Int) : List (Key × V) := [(kCells, .ref c), (kMixed, .int m), (kTurn, .int t)]
theorem deck_cells (c : Addr) (m t : Int) : valV (deckK c m t) kCells = some (.ref c) := rfl
theorem deck_mixed (c : Addr) (m t : Int) : valV (deckK c m t) kMixed = some (.int m) := rfl
theorem deck_turn (c : Addr) (m t : Int) : valV (deckK c m t) kTurn = some (.int t) := rfl
theorem deck_put (c : Addr) (m t u : Int) : putK (deckK c m t) kTurn (.int u) = deckK c m u := rfl
structure DeckAt (H : Hp) (d c : Addr) : Prop where
  ex : ∃ (m t : Int) (ns : List Int), H d = some (.dK (deckK c m t)) ∧ H c = some (.lst (ns.map V.int)) ∧ 0 ≤ m ∧ m < 2147483648 ∧ ns.length ≤ 63
theorem DeckAt.ne {H : Hp} {d c : Addr} (D : DeckAt H d c) : d ≠ c := by
  obtain ⟨m, t, ns, h1, h2, _⟩ := D.ex
  exact ne_of h1 h2 (by intro z; cases z)
theorem DeckAt.same {H H' : Hp} {d c : Addr} (D : DeckAt H d c) (s : Same H H') : DeckAt H' d c := by
  obtain ⟨m, t, ns, h1, h2, r⟩ := D.ex
  exact ⟨m, t, ns, s _ _ h1, s _ _ h2, r⟩
theorem DeckAt.nd {H : Hp} {d c p : Addr} (D : DeckAt H d c) (n : H p = none) : p ≠ d ∧ p ≠ c := by
  obtain ⟨m, t, ns, h1, h2, r⟩ := D.ex
  exact ⟨(ne_of_none h1 n).symm, (ne_of_none h2 n).symm⟩
theorem dg_cells {H : Hp} {d c : Addr} {m t : Int} (h : H d = some (.dK (deckK c m t))) : DGet H d (.str "cells") (some (.ref c)) := DGet.k (k := kCells) h
theorem dg_mixed {H : Hp} {d c : Addr} {m t : Int} (h : H d = some (.dK (deckK c m t))) : DGet H d (.str "mixed") (some (.int m)) := DGet.k (k := kMixed) h
theorem dg_turn {H : Hp} {d c : Addr} {m t : Int} (h : H d = some (.dK (deckK c m t))) : DGet H d (.str "turn") (some (.int t)) := DGet.k (k := kTurn) h
theorem dp_turn {H : Hp} {d c : Addr} {m t u : Int} (h : H d = some (.dK (deckK c m t))) : DPut H d (.str "turn") (.int u) (upd H d (.dK (deckK c m u))) :=
  DPut.k (k := kTurn) (v := V.int u) h (small1000 (by show 3 ≤ 1000; decide))
theorem dpInts (K : PySem.W.Frag) (H : Hp) : ∀ ns : List Int, DpAll K H (ns.map V.int) (ns.map PyData.int)
  | [] => .nil
  | n :: ns => .cons (.int n) (dpInts K H ns)
theorem canLay_ints : ∀ ns : List Int, PyData.canLayAll0 (ns.map PyData.int) = true
  | [] => by simp [PyData.canLayAll0]
  | n :: ns => by simp [PyData.canLayAll0, PyData.canLay0, canLay_ints ns]
theorem depth_ints : ∀ ns : List Int, PyData.depthAll (ns.map PyData.int) ≤ 1
  | [] => by simp [PyData.depthAll]
  | n :: ns => by
    have h := depth_ints ns
    simp only [List.map_cons, PyData.depthAll, PyData.depth]
    exact Nat.max_le.mpr ⟨by decide, h⟩
theorem shaped_ints (ns : List Int) : SeqAt.shaped (.list (ns.map PyData.int)) = true := by
  have h := depth_ints ns
  refine Bool.and_eq_true_iff.mpr ⟨by simp only [PyData.canLay0, canLay_ints], decide_eq_true ?_⟩
  simp only [PyData.depth]
  omega
theorem mod_small (x n : Int) (h0 : 0 < n) (h : n < 2 ^ 64) : -(2 ^ 64) < x % n ∧ x % n < 2 ^ 64 := by
  have h1 := Int.emod_nonneg x (Int.ne_of_gt h0)
  have h2 := Int.emod_lt_of_pos x h0
  omega
/-- names of the builtins are free -/
structure Bi (mg : Str → Option Value) : Prop where
  int : mg "int" = none
  max : mg "max" = none
  len : mg "len" = none
/-- a draw: any int from 0 up to below; the deck alone has changed -/
def spDraw : Sp := fun vs H Q _ => ∃ (d c : Addr) (b : Int), vs = [.ref d, .int b] ∧ DeckAt H d c ∧ 0 < b ∧ b < 1073741823 ∧
  ∀ (v : Int) (H' : Hp), 0 ≤ v → v < b → DeckAt H' d c → But [d, c] H H' → Q (.int v) H'
section
variable {P : Program} {w : World} {K : PySem.W.Frag} {mg : Str → Option Value} {base : Heap}
theorem ok_draw (D : DefT K mg "_law_draw" S__law_draw) (B : Bi mg) : FnOk P w K mg base CX0 1 D.f D.fd ["deck", "below"] spDraw := by
  refine D.F.ok sc__law_draw (fun vs H Q E h => ?_) (fun cdv A outer s H vs Q E hr h => ?_)
  · obtain ⟨d, c, b, rfl, _⟩ := h
    rfl
  · obtain ⟨d, c, b, rfl, Dk, hb0, hb1, k⟩ := h
    have hu := hu_of hr
    have hdc := Dk.ne
    obtain ⟨m, t, ns, h1, h2, hm0, hm1, hl⟩ := Dk.ex
    have nd := sc__law_draw.nd
    refine ⟨_, pss_cons (ps_dput hu (pv 0) pe_str (pe_op op_add (pe_dget hu (pv 0) pe_str (fun _ _ => rfl)) pe_int) rfl)
      (pss_cons (ps_set (i := 2) nd rfl (Or.inl rfl) (pe_op op_add (pe_dget hu (pv 0) pe_str (fun _ _ => rfl)) (pe_op op_mul pe_int (pe_dget hu (pv 0) pe_str (fun _ _ => rfl)))))
      (pss_cons (ps_if (pt_cmpR (op_neD hr.units) (pe_dget hu (pv 0) pe_str (fun _ _ => rfl)) (pe_lst pa_nil) (nomark _))
        (pss_cons (ps_set (i := 3) nd rfl (Or.inl rfl) (pe_bm0 PySem.F.plainAttrs_list PySem.F.slot_list_pop PySem.F.type_list_pop mt_pop (pe_dget hu (pv 0) pe_str (fun _ _ => rfl))))
        (pss_cons (ps_if (pt_cmpR op_ge (pv 3) (pe_op op_pow pe_int pe_int) (nomark _))
          (pss_cons (ps_expr (pe_bm PySem.F.plainAttrs_list PySem.F.slot_list_append PySem.F.type_list_append mt_append (pe_dget hu (pv 0) pe_str (fun _ _ => rfl)) (pa_cons (pe_op op_fdivN (pv 3) (pe_callB (call_max2 rfl) (by rfl) B.max PyProof.Rows.boot_max (pa_cons pe_int (pa_cons (pv 1) pa_nil)))) pa_nil)))
          (pss_one (ps_ret (pe_op op_modN (pe_callTy call_int1 (by rfl) B.int PyProof.Rows.boot_int (pa_cons (pv 3) pa_nil)) (pv 1))))) pss_nil)
        (pss_one (ps_set (i := 2) nd rfl (Or.inl rfl) (pe_op op_add (pv 2) (pe_op op_mod (pe_callTy call_int1 (by rfl) B.int PyProof.Rows.boot_int (pa_cons (pv 3) pa_nil)) pe_int)))))) pss_nil)
      (pss_cons (ps_set (i := 2) nd rfl (Or.inl rfl) (pe_op op_mod (pe_callTy call_int1 (by rfl) B.int PyProof.Rows.boot_int (pa_cons (pe_op op_add (pe_op op_mul (pv 2) pe_int) pe_int) pa_nil)) pe_int))
      (pss_cons (ps_set (i := 2) nd rfl (Or.inl rfl) (pe_op op_mod (pe_callTy call_int1 (by rfl) B.int PyProof.Rows.boot_int (pa_cons (pe_op op_add (pe_op op_add (pe_op op_mul (pv 2) (pv 2)) (pe_op op_mul pe_int (pe_dget hu (pv 0) pe_str (fun _ _ => rfl)))) pe_int) pa_nil)) pe_int))
      (pss_cons (ps_set (i := 2) nd rfl (Or.inl rfl) (pe_op op_mod (pe_callTy call_int1 (by rfl) B.int PyProof.Rows.boot_int (pa_cons (pe_op op_mul (pv 2) pe_int) pa_nil)) pe_int))
      (pss_one (ps_ret (pe_op op_modN (pe_callTy call_int1 (by rfl) B.int PyProof.Rows.boot_int (pa_cons (pe_op op_fdiv (pv 2) pe_int) pa_nil)) (pv 1))))))))), ?_⟩
    have eT : ∀ (H3 : Hp) (ks : List Int), H3 d = some (.dK (deckK c m (t + 1))) → H3 c = some (.lst (ks.map V.int)) → ks.length ≤ 63 → DeckAt H3 d c := fun H3 ks a1 a2 a3 => ⟨m, t + 1, ks, a1, a2, hm0, hm1, a3⟩
    refine ⟨_, rfl, _, _, rfl, dg_turn h1, _, _, rfl, rfl, _, rfl, d, _, rfl, dp_turn h1, ?_⟩
    have g1 : (upd H d (.dK (deckK c m (t + 1)))) d = some (.dK (deckK c m (t + 1))) := upd_same
    have g2 : (upd H d (.dK (deckK c m (t + 1)))) c = some (.lst (ns.map V.int)) := by rw [upd_ne hdc.symm]; exact h2
    have b1 : But [d, c] H (upd H d (.dK (deckK c m (t + 1)))) := But.put (by simp)
    generalize upd H d (.dK (deckK c m (t + 1))) = H1 at g1 g2 b1
    refine ⟨_, rfl, _, _, rfl, dg_mixed g1, _, rfl, _, _, rfl, dg_turn g1, _, _, rfl, rfl, .inl ⟨by decide, by decide⟩, _, _, rfl, rfl, ?_⟩
    refine ⟨_, rfl, _, _, rfl, dg_cells g1, by simp, fun p hp => ?_⟩
    have n1 : p ≠ d := (ne_of_none g1 hp).symm
    have n2 : p ≠ c := (ne_of_none g2 hp).symm
    have g1' : (upd H1 p (.lst [])) d = some (.dK (deckK c m (t + 1))) := by rw [upd_ne n1.symm]; exact g1
    have g2' : (upd H1 p (.lst [])) c = some (.lst (ns.map V.int)) := by rw [upd_ne n2.symm]; exact g2
    have b2 : But [d, c] H (upd H1 p (.lst [])) := b1.trans (But.new hp)
    have gp : (upd H1 p (.lst [])) p = some (.lst []) := upd_same
    generalize upd H1 p (.lst []) = H2 at g1' g2' b2 gp
    refine ⟨_, _, Dp.lst (SqL.of g2') (dpInts K H2 ns), Dp.lst (SqL.of gp) .nil, shaped_ints ns, rfl, _, rfl, ?_⟩
    have tail : ∀ z : Int, 0 ≤ z.fmod b ∧ z.fmod b < b := fun z => ⟨Int.fmod_nonneg_of_pos _ hb0, Int.fmod_lt_of_pos _ hb0⟩
    cases ns with
    | nil =>
      refine iteF ?_
      refine ⟨_, rfl, _, _, rfl, rfl, .inr ⟨by decide, by decide⟩, _, _, rfl, rfl, .inl ⟨_, rfl, _, _, rfl, rfl, (by show (0 : Int) < _; decide), ?_⟩⟩
      refine ⟨_, rfl, _, rfl, _, _, rfl, rfl, .inl (mod_small _ _ (by decide) (by decide)), _, rfl, _, _, rfl, dg_turn g1', _, _, rfl, rfl, .inl ⟨by decide, by decide⟩, _, _, rfl, rfl, _, _, rfl, rfl, .inl ⟨_, rfl, _, _, rfl, rfl, (by show (0 : Int) < _; decide), ?_⟩⟩
      refine ⟨_, rfl, _, _, rfl, rfl, .inr ⟨by decide, by decide⟩, .inl ⟨_, rfl, _, _, rfl, rfl, (by show (0 : Int) < _; decide), ?_⟩⟩
      refine ⟨_, rfl, _, _, rfl, rfl, ⟨by decide, by decide⟩, .inl ⟨_, rfl, _, rfl, _, _, rfl, rfl, Int.ne_of_gt hb0, ?_⟩⟩
      exact k _ _ (tail _).1 (tail _).2 (eT _ [] g1' g2' (Nat.zero_le _)) b2
    | cons n0 ms =>
      refine iteT ?_
      obtain ⟨ys, z, e⟩ : ∃ ys z, n0 :: ms = ys ++ [z] := ⟨(n0 :: ms).dropLast, (n0 :: ms).getLast (by simp), (List.dropLast_concat_getLast (by simp)).symm⟩
      rw [e] at g2' hl
      have e1 : (ys ++ [z]).map V.int = ys.map V.int ++ [V.int z] := by simp
      rw [e1] at g2'
      rw [List.length_append, List.length_singleton] at hl
      have g1c : (upd H2 c (.lst (ys.map V.int))) d = some (.dK (deckK c m (t + 1))) := by rw [upd_ne hdc]; exact g1'
      have b3 : But [d, c] H (upd H2 c (.lst (ys.map V.int))) := b2.trans (But.put (by simp))
      refine ⟨_, rfl, _, _, rfl, dg_cells g1', .inl ⟨rfl, _, SqL.of g2'⟩, c, _, V.int z, rfl, rfl, g2', by simp, ?_⟩
      rw [List.dropLast_concat]
      have g2c : (upd H2 c (.lst (ys.map V.int))) c = some (.lst (ys.map V.int)) := upd_same
      generalize upd H2 c (.lst (ys.map V.int)) = H3 at g1c b3 g2c
      refine ⟨_, rfl, _, _, rfl, rfl, ⟨by decide, by decide, by decide⟩, _, _, rfl, rfl, _, rfl, ?_⟩
      refine ite2 (fun _ => ?_) (fun _ => ?_)
      · have hb2 : (0 : Int) < (if b > 2 then b else 2) ∧ (if b > 2 then b else 2) < 1073741823 := by split <;> omega
        refine ⟨_, rfl, _, _, rfl, dg_cells g1c, .inl ⟨rfl, _, SqL.of g2c⟩, _, rfl, _, rfl, _, _, rfl, _, _, rfl, rfl, ⟨by omega, by omega⟩, c, _, _, rfl, rfl, g2c, by rw [List.length_map]; exact small1000 (by omega), ?_⟩
        refine ⟨_, rfl, .inl ⟨_, rfl, _, rfl, _, _, rfl, rfl, Int.ne_of_gt hb0, ?_⟩⟩
        have nd2 : d ≠ c := hdc
        have e9 : ∀ q : Int, ys.map V.int ++ [V.int q] = (ys ++ [q]).map V.int := fun q => by simp
        refine k _ _ (tail _).1 (tail _).2 (eT _ (ys ++ [_]) (by rw [upd_ne hdc]; exact g1c) (by rw [upd_same, ← e9]) (by rw [List.length_append, List.length_singleton]; exact hl)) (b3.trans (But.put (by simp)))
      · refine ⟨_, rfl, _, rfl, .inl ⟨_, rfl, _, _, rfl, rfl, (by show (0 : Int) < _; decide), _, _, rfl, rfl, ?_⟩⟩
        refine ⟨_, rfl, _, _, rfl, rfl, .inr ⟨by decide, by decide⟩, _, _, rfl, rfl, .inl ⟨_, rfl, _, _, rfl, rfl, (by show (0 : Int) < _; decide), ?_⟩⟩
        refine ⟨_, rfl, _, rfl, _, _, rfl, rfl, .inl (mod_small _ _ (by decide) (by decide)), _, rfl, _, _, rfl, dg_turn g1c, _, _, rfl, rfl, .inl ⟨by decide, by decide⟩, _, _, rfl, rfl, _, _, rfl, rfl, .inl ⟨_, rfl, _, _, rfl, rfl, (by show (0 : Int) < _; decide), ?_⟩⟩
        refine ⟨_, rfl, _, _, rfl, rfl, .inr ⟨by decide, by decide⟩, .inl ⟨_, rfl, _, _, rfl, rfl, (by show (0 : Int) < _; decide), ?_⟩⟩
        refine ⟨_, rfl, _, _, rfl, rfl, ⟨by decide, by decide⟩, .inl ⟨_, rfl, _, rfl, _, _, rfl, rfl, Int.ne_of_gt hb0, ?_⟩⟩
        exact k _ _ (tail _).1 (tail _).2 (eT _ ys g1c g2c (by omega)) b3
end
/-- some[draw]: one of the items -/
def spPick (K : PySem.W.Frag) : Sp := fun vs H Q _ => ∃ (d c l : Addr) (xs : List V), vs = [.ref d, .ref l] ∧ DeckAt H d c ∧ H l = some (.lst xs) ∧ l ≠ c ∧ xs ≠ [] ∧ xs.length ≤ 1000 ∧
  ∀ (v : V) (H' : Hp), v ∈ xs → DeckAt H' d c → But [d, c] H H' → Q v H'
section
variable {P : Program} {w : World} {K : PySem.W.Frag} {mg : Str → Option Value} {base : Heap}
theorem ok_pick (D : DefT K mg "_law_pick" S__law_pick) (B : Bi mg) (Gd : Cal P w K mg base 1 "_law_draw" ["deck", "below"] spDraw) : FnOk P w K mg base CX0 2 D.f D.fd ["deck", "some"] (spPick K) := by
  refine D.F.ok sc__law_pick (fun vs H Q E h => ?_) (fun cdv A outer s H vs Q E hr h => ?_)
  · obtain ⟨d, c, l, xs, rfl, _⟩ := h
    rfl
  · obtain ⟨d, c, l, xs, rfl, Dk, hl, hlc, hne, hz, k⟩ := h
    refine ⟨_, pss_one (ps_ret (pe_ix ix_list (pv 1) (pc Gd hr (pa_cons (pv 0) (pa_cons (pe_callB call_len_seq (by rfl) B.len PySem.boot_len (pa_cons (pv 1) pa_nil)) pa_nil))) (fun _ _ => rfl))), ?_⟩
    have hp : 0 < xs.length := List.length_pos_iff.mpr hne
    refine ⟨_, rfl, _, rfl, _, rfl, l, xs, rfl, .inl (SqL.of hl), d, c, (xs.length : Int), rfl, Dk, by omega, by omega, fun v H' v0 v1 D' b' => ?_⟩
    have hld : l ≠ d := by
      obtain ⟨m, t, ns, h1, h2, _⟩ := Dk.ex
      exact ne_of hl h1 (by intro z; cases z)
    have hl' : H' l = some (.lst xs) := b' _ _ hl (by simp [hld, hlc])
    have hv : v.toNat < xs.length := by omega
    refine ⟨l, xs, v, xs[v.toNat], rfl, rfl, SqL.of hl', ?_, k _ _ (List.getElem_mem hv) D' b'⟩
    exact at_of (j := v.toNat) (by omega) (List.getElem?_eq_getElem hv)
/-- the deck of a script: new -/
def spDeck (K : PySem.W.Frag) : Sp := fun vs H Q _ => ∃ (a : Addr) (ns : List Int), vs = [.ref a] ∧ SqL K H a (ns.map V.int) ∧ ns.length ≤ 63 ∧
  ∀ (d c : Addr) (H' : Hp), H d = none → H c = none → DeckAt H' d c → Same H H' → Q (.ref d) H'
theorem ok_deck (D : DefT K mg "_law_deck" S__law_deck) (B : Bi mg) : FnOk P w K mg base CX0 1 D.f D.fd ["script"] (spDeck K) := by
  refine D.F.ok sc__law_deck (fun vs H Q E h => ?_) (fun cdv A outer s H vs Q E hr h => ?_)
  · obtain ⟨a, ns, rfl, _⟩ := h
    rfl
  · obtain ⟨a, ns, rfl, hS, hl, k⟩ := h
    have hu := hu_of hr
    have nd := sc__law_deck.nd
    refine ⟨_, pss_cons (ps_set (i := 1) nd rfl (Or.inl rfl) pe_int)
      (pss_cons (ps_for PassesOwn.never rfl (pi_list (pe_slice sl_list (pv 0) po_none (po_some pe_int))) (pg_name (i := 2) nd rfl (Or.inl rfl))
        (pss_one (ps_set (i := 1) nd rfl (Or.inl rfl) (pe_op op_mod (pe_callTy call_int1 (by rfl) B.int PyProof.Rows.boot_int (pa_cons (pe_op op_add (pe_op op_add (pe_op op_mul (pv 1) pe_int) (pe_op op_mod (pe_callTy call_int1 (by rfl) B.int PyProof.Rows.boot_int (pa_cons (pv 2) pa_nil)) pe_int)) pe_int) pa_nil)) pe_int))))
      (pss_one (ps_ret (pe_disp (pps_cons pe_str (pe_revL (pe_lc (own := [("cell", 2)]) (g := gName 2) (tt := tYes) rfl nd (pi_list (pe_slice sl_list (pv 0) po_none (po_some pe_int))) (blkOk_by (N := ["script", "mixed", "cell"]) (sc := defScope S__law_deck) (by decide +kernel))
          (fun _ _ _ _ _ => pg_name (i := 2) nd rfl (Or.inl rfl)) (fun _ _ _ _ _ => pts_nil) (fun _ _ _ _ _ => pe_callTy call_int1 (by rfl) B.int PyProof.Rows.boot_int (pa_cons (pv 2) pa_nil))))
        (pps_cons pe_str (pv 1) (pps_cons pe_str pe_int pps_nil))) (by rfl) (by rfl) (fun z => by cases z) (by decide))))), ?_⟩
    refine ⟨_, rfl, _, rfl, a, _, rfl, hS, fun p hp => ?_⟩
    have s1 : Same H (upd H p (.lst (cutV (ns.map V.int) none (some 63)))) := Same.new hp
    have cut : cutV (ns.map V.int) none (some 63) = ns.map V.int := by
      show ((ns.map V.int).drop 0).take (HT.sIx (ns.map V.int).length (ns.map V.int).length (some ((63 : Nat) : Int)) - 0) = _
      rw [HT.sIx_nat, List.length_map, List.drop_zero, Nat.sub_zero, Nat.min_eq_right hl, ← List.length_map (f := V.int), List.take_length]
    rw [cut] at s1 ⊢
    refine ⟨p, rfl, ⟨_, SqL.of upd_same⟩, for_list (K := K) (a := p) (xs := ns.map V.int) (fun i σ H2 => ∃ (m : Int) (v : Option V), σ = [some (.ref a), some (.int m), v] ∧ 0 ≤ m ∧ m < 2147483648 ∧ Same (upd H p (.lst (ns.map V.int))) H2)
      ⟨_, none, rfl, by decide, by decide, Same.refl _⟩ (fun i σ H2 _ ⟨_, _, _, _, _, s2⟩ => s2.seq (SqL.of upd_same)) ?_ ?_⟩
    · rintro i y σ H2 hi ⟨m, v, rfl, m0, m1, s2⟩
      obtain ⟨z, hz, rfl⟩ : ∃ z, ns[i]? = some z ∧ V.int z = y := by simpa using hi
      refine ⟨_, rfl, _, _, rfl, rfl, .inl ⟨by omega, by omega⟩, _, rfl, .inl ⟨_, rfl, _, _, rfl, rfl, (by show (0 : Int) < _; decide), _, _, rfl, rfl, _, _, rfl, rfl, .inl ⟨_, rfl, _, _, rfl, rfl, (by show (0 : Int) < _; decide), ?_⟩⟩⟩
      exact ⟨_, _, rfl, Int.emod_nonneg _ (by decide), Int.lt_trans (Int.emod_lt_of_pos _ (by decide)) (by decide), s2⟩
    · rintro σ H2 ⟨m, v, rfl, m0, m1, s2⟩
      intro d hd
      have hS2 : SqL K H2 a (ns.map V.int) := s2.seq (s1.seq hS)
      have hS3 : SqL K (upd H2 d (.dK [])) a (ns.map V.int) := (Same.new hd).seq hS2
      refine ⟨_, rfl, _, rfl, a, _, rfl, hS3, fun p2 hp2 => ?_⟩
      rw [cut]
      refine ⟨p2, rfl, ⟨_, SqL.of upd_same⟩, fun q hq => ?_⟩
      have qp : q ≠ p2 := fun e => by rw [e, upd_same] at hq; cases hq
      have qd : q ≠ d := fun e => by rw [e, upd_ne (fun z => by rw [← z, upd_same] at hp2; cases hp2), upd_same] at hq; cases hq
      have d2 : (upd (upd H2 d (.dK [])) p2 (.lst (ns.map V.int))) d = some (.dK []) := by
        rw [upd_ne (fun z => by rw [← z, upd_same] at hp2; cases hp2), upd_same]
      have sp : Same H (upd (upd H2 d (.dK [])) p2 (.lst (ns.map V.int))) := ((s1.trans s2).trans (Same.new hd)).trans (Same.new hp2)
      have l2 : SqL K (upd (upd H2 d (.dK [])) p2 (.lst (ns.map V.int))) p2 (ns.map V.int) := SqL.of upd_same
      generalize upd (upd H2 d (.dK [])) p2 (.lst (ns.map V.int)) = H3 at hq d2 sp l2 ⊢
      refine lc_list (K := K) (a := p2) (xs := ns.map V.int) (fun i H4 => H4 q = some (.lst ((ns.take i).map V.int)) ∧ Same H3 H4) ⟨by rw [upd_same]; rfl, Same.new hq⟩ (fun i H4 _ h4 => h4.2.seq l2) ?_ ?_
      · rintro i y H4 hi ⟨h4, s4⟩
        obtain ⟨z, hz, rfl⟩ : ∃ z, ns[i]? = some z ∧ V.int z = y := by simpa using hi
        refine ⟨rfl, tyes ?_⟩
        refine ⟨_, rfl, .inl ⟨_, rfl, _, h4, ?_, ?_⟩⟩
        · rw [List.length_map]; exact small1000 (by rw [List.length_take]; omega)
        · exact ⟨by rw [upd_same, take_map_next hz], Same.put hq s4⟩
      · rintro H4 ⟨h4, s4⟩
        rw [List.length_map, List.take_length] at h4
        refine ⟨q, _, rfl, SqL.of h4, fun c hc => ?_⟩
        have s5 : Same H3 (upd H4 c (.lst (ns.map V.int).reverse)) := s4.trans (Same.new hc)
        refine ⟨_, rfl, s5 _ _ d2, [(kCells, .ref c), (kMixed, .int m), (kTurn, .int 0)], rfl, by show 3 ≤ 15; decide, ?_⟩
        have s6 : Same H4 (upd H4 c (.lst (ns.map V.int).reverse)) := Same.new hc
        have cd : c ≠ d := (ne_of_none (s4 _ _ d2) hc).symm
        have hc0 : H c = none := (sp.trans s4).free hc
        have hd0 : H d = none := (s1.trans s2).free hd
        refine k d c _ hd0 hc0 ⟨m, 0, ns.reverse, upd_same, by rw [upd_ne cd, upd_same, List.map_reverse], m0, m1, by rw [List.length_reverse]; exact hl⟩ ?_
        exact Same.put hd0 (sp.trans s5)
end
def roomI (s b : Int) : Int := (s - 4) * (b - 1)
def areaI (s b : Int) : Int := (roomI s b + 4 + 27) / 28
def manyI (s b : Int) : Int := 2 * areaI s b + s * b
def sizeV (s b : Int) : List V := [.int s, .int b, .int (roomI s b), .int (areaI s b)]
structure SizeOk (s b : Int) : Prop where
  s0 : 6 ≤ s
  s1 : s ≤ 40
  b0 : 4 ≤ b
  b1 : b ≤ 24
theorem SizeOk.room {s b : Int} (h : SizeOk s b) : 6 ≤ roomI s b ∧ roomI s b ≤ 828 := by
  obtain ⟨h1, h2, h3, h4⟩ := h
  have a : (2 : Int) * 3 ≤ (s - 4) * (b - 1) := Int.mul_le_mul (by omega) (by omega) (by omega) (by omega)
  have c : (s - 4) * (b - 1) ≤ 36 * 23 := Int.mul_le_mul (by omega) (by omega) (by omega) (by omega)
  unfold roomI
  omega
theorem SizeOk.area {s b : Int} (h : SizeOk s b) : 1 ≤ areaI s b ∧ areaI s b ≤ 30 := by
  have h1 := h.room
  unfold areaI
  omega
theorem SizeOk.prod {s b : Int} (h : SizeOk s b) : 24 ≤ s * b ∧ s * b ≤ 960 := by
  obtain ⟨h1, h2, h3, h4⟩ := h
  have a : (6 : Int) * 4 ≤ s * b := Int.mul_le_mul (by omega) (by omega) (by omega) (by omega)
  have c : s * b ≤ 40 * 24 := Int.mul_le_mul (by omega) (by omega) (by omega) (by omega)
  omega
theorem SizeOk.many {s b : Int} (h : SizeOk s b) : 26 ≤ manyI s b ∧ manyI s b ≤ 1020 := by
  have h1 := h.area
  have h2 := h.prod
  unfold manyI
  omega
def spSizes : Sp := fun vs H Q _ => ∃ (s b : Int), vs = [.int s, .int b] ∧ SizeOk s b ∧ ∀ p, H p = none → Q (.ref p) (upd H p (.tup (sizeV s b)))
def spMany (K : PySem.W.Frag) : Sp := fun vs H Q _ => ∃ (p : Addr) (s b : Int), vs = [.ref p] ∧ SqT K H p (sizeV s b) ∧ SizeOk s b ∧ Q (.int (manyI s b)) H
/-- words from 0 to 10 ** 9 -/
def Wd (ws : List Int) : Prop := ∀ w ∈ ws, 0 ≤ w ∧ w ≤ 1000000000
def spWord : Sp := fun vs H Q _ => ∃ (d c : Addr), vs = [.ref d] ∧ DeckAt H d c ∧ ∀ (v : Int) (H' : Hp), 0 ≤ v → v ≤ 1000000000 → DeckAt H' d c → But [d, c] H H' → Q (.int v) H'
def spBlock : Sp := fun vs H Q _ => ∃ (d c : Addr), vs = [.ref d] ∧ DeckAt H d c ∧
  ∀ (p : Addr) (ws : List Int) (H' : Hp), H p = none → H' p = some (.tup (ws.map V.int)) → ws.length = 32 → Wd ws → DeckAt H' d c → But [d, c] H H' → Q (.ref p) H'
section
variable {P : Program} {w : World} {K : PySem.W.Frag} {mg : Str → Option Value} {base : Heap}
theorem ok_sizes (D : DefT K mg "_law_sizes" S__law_sizes) : FnOk P w K mg base CX0 1 D.f D.fd ["segments", "blocks"] spSizes := by
  refine D.F.ok sc__law_sizes (fun vs H Q E h => ?_) (fun cdv A outer s H vs Q E hr h => ?_)
  · obtain ⟨s, b, rfl, _⟩ := h
    rfl
  · obtain ⟨s, b, rfl, ok, k⟩ := h
    have nd := sc__law_sizes.nd
    refine ⟨_, pss_cons (ps_set (i := 2) nd rfl (Or.inl rfl) (pe_op op_mul (pe_op op_sub (pv 0) pe_int) (pe_op op_sub (pv 1) pe_int)))
      (pss_one (ps_ret (pe_tup (pa_cons (pv 0) (pa_cons (pv 1) (pa_cons (pv 2) (pa_cons (pe_op op_fdiv (pe_op op_add (pe_op op_add (pv 2) pe_int) pe_int) pe_int) pa_nil))))))), ?_⟩
    obtain ⟨h1, h2, h3, h4⟩ := ok
    refine ⟨_, rfl, _, _, rfl, rfl, _, rfl, _, _, rfl, rfl, _, _, rfl, rfl, .inl ⟨by omega, by omega⟩, ?_⟩
    refine ⟨_, rfl, _, rfl, _, rfl, _, rfl, _, _, rfl, rfl, _, _, rfl, rfl, _, _, rfl, rfl, ⟨by decide, by decide⟩, (by show 4 ≤ sizeLine; decide), fun p hp => k p hp⟩
theorem ok_many (D : DefT K mg "_law_many" S__law_many) : FnOk P w K mg base CX0 1 D.f D.fd ["sizes"] (spMany K) := by
  refine D.F.ok sc__law_many (fun vs H Q E h => ?_) (fun cdv A outer s H vs Q E hr h => ?_)
  · obtain ⟨p, s, b, rfl, _⟩ := h
    rfl
  · obtain ⟨p, s, b, rfl, hp, ok, k⟩ := h
    refine ⟨_, pss_one (ps_ret (pe_op op_add (pe_op op_mul pe_int (pe_ix ix_tup (pv 0) pe_int (fun _ _ => rfl))) (pe_op op_mul (pe_ix ix_tup (pv 0) pe_int (fun _ _ => rfl)) (pe_ix ix_tup (pv 0) pe_int (fun _ _ => rfl))))), ?_⟩
    obtain ⟨h1, h2, h3, h4⟩ := ok
    refine ⟨_, rfl, p, _, _, _, rfl, rfl, hp, at_of (j := 3) rfl rfl, _, _, rfl, rfl, .inl ⟨by decide, by decide⟩, _, rfl, p, _, _, _, rfl, rfl, hp, at_of (j := 0) rfl rfl, _, rfl, p, _, _, _, rfl, rfl, hp, at_of (j := 1) rfl rfl, _, _, rfl, rfl, .inl ⟨by omega, by omega⟩, _, _, rfl, rfl, k⟩
end
section
variable {P : Program} {w : World} {K : PySem.W.Frag} {mg : Str → Option Value} {base : Heap}
theorem ok_word (D : DefT K mg "_law_word" S__law_word) (Gd : Cal P w K mg base 1 "_law_draw" ["deck", "below"] spDraw) (Gp : Cal P w K mg base 2 "_law_pick" ["deck", "some"] (spPick K)) :
    FnOk P w K mg base CX0 3 D.f D.fd ["deck"] spWord := by
  refine D.F.ok sc__law_word (fun vs H Q E h => ?_) (fun cdv A outer s H vs Q E hr h => ?_)
  · obtain ⟨d, c, rfl, _⟩ := h
    rfl
  · obtain ⟨d, c, rfl, Dk, k⟩ := h
    refine ⟨_, pss_one (ps_ret (pc Gp hr (pa_cons (pv 0) (pa_cons (pe_lst (pa_cons pe_int (pa_cons pe_int (pa_cons pe_int (pa_cons pe_int (pa_cons pe_int (pa_cons (pe_op op_pow pe_int pe_int)
      (pa_cons (pc Gd hr (pa_cons (pv 0) (pa_cons pe_int pa_nil))) (pa_cons (pc Gd hr (pa_cons (pv 0) (pa_cons (pe_op op_add (pe_op op_pow pe_int pe_int) pe_int) pa_nil))) pa_nil))))))))) pa_nil)))), ?_⟩
    refine ⟨_, rfl, _, _, rfl, rfl, ⟨by decide, by decide, by decide⟩, _, rfl, d, c, 100, rfl, Dk, by decide, by decide, fun v1 H1 p0 p1 D1 b1 => ?_⟩
    refine ⟨_, rfl, _, _, rfl, rfl, ⟨by decide, by decide, by decide⟩, _, _, rfl, rfl, d, c, _, rfl, D1, by decide, by decide, fun v2 H2 q0 q1 D2 b2 => ?_⟩
    have q1' : v2 < 1000000001 := q1
    refine ⟨(by show 8 ≤ sizeLine; decide), fun l hl => ?_⟩
    obtain ⟨ld, lc⟩ := D2.nd hl
    refine ⟨d, c, l, _, rfl, D2.same (Same.new hl), upd_same, lc, by simp, by show 8 ≤ 1000; decide, fun v H3 hv D3 b3 => ?_⟩
    obtain ⟨z, rfl, z0, z1⟩ : ∃ z : Int, v = .int z ∧ 0 ≤ z ∧ z ≤ 1000000000 := by
      simp only [List.mem_cons, List.not_mem_nil, or_false] at hv
      rcases hv with h | h | h | h | h | h | h | h <;> exact ⟨_, h, by first | decide | omega, by first | decide | omega⟩
    exact k z H3 z0 z1 D3 ((b1.trans b2).trans ((But.new hl).trans b3))
end
end Tk16

namespace Tk16
open PySem PySem.Spec PyProof.Rows L2 Tk
theorem Wd.app {as bs : List Int} (h1 : Wd as) (h2 : Wd bs) : Wd (as ++ bs) := fun w hw => (List.mem_append.mp hw).elim (h1 w) (h2 w)
theorem Wd.rep {z : Int} (h0 : 0 ≤ z) (h1 : z ≤ 1000000000) (n : Nat) : Wd (List.replicate n z) := fun w hw => by
  rw [List.eq_of_mem_replicate hw]
  exact ⟨h0, h1⟩
theorem Wd.one {z : Int} (h0 : 0 ≤ z) (h1 : z ≤ 1000000000) : Wd [z] := fun w hw => by
  rw [List.mem_singleton.mp hw]
  exact ⟨h0, h1⟩
theorem DeckAt.put {H : Hp} {d c q : Addr} {o : HO} (D : DeckAt H d c) (n1 : q ≠ d) (n2 : q ≠ c) : DeckAt (upd H q o) d c := by
  obtain ⟨m, t, ns, h1, h2, r⟩ := D.ex
  exact ⟨m, t, ns, by rw [upd_ne n1.symm]; exact h1, by rw [upd_ne n2.symm]; exact h2, r⟩
theorem butPutNew {l : List Addr} {H H5 : Hp} {q : Addr} {o : HO} (n : H q = none) (a : But l H H5) : But l H (upd H5 q o) := fun b u h hb => by
  rw [upd_ne (ne_of_none h n)]
  exact a b u h hb
/-- what is new behind was new ahead, if the deck still stands -/
theorem butFree {H H' : Hp} {d c p : Addr} (b : But [d, c] H H') (D : DeckAt H' d c) (n : H' p = none) : H p = none := by
  obtain ⟨h1, h2⟩ := D.nd n
  cases q : H p with
  | none => rfl
  | some o =>
    rw [b _ _ q (by simp [h1, h2])] at n
    cases n
/-- a list at q that the comprehension fills with words -/
def Fills (d c q : Addr) (H3 : Hp) (top : Int) (i : Nat) (H4 : Hp) : Prop :=
  ∃ acc : List Int, H4 q = some (.lst (acc.map V.int)) ∧ acc.length = i ∧ (∀ w ∈ acc, 0 ≤ w ∧ w ≤ top) ∧ DeckAt H4 d c ∧ But [d, c] H3 H4
theorem Fills.start {d c q : Addr} {H3 : Hp} {top : Int} (D : DeckAt H3 d c) (n : H3 q = none) : Fills d c q H3 top 0 (upd H3 q (.lst [])) :=
  ⟨[], upd_same, rfl, fun _ h => absurd h List.not_mem_nil, D.same (Same.new n), But.new n⟩
theorem Fills.step {d c q : Addr} {H3 H4 H5 : Hp} {top v : Int} {i : Nat} (D : DeckAt H3 d c) (n : H3 q = none) (hi : i < 1000) (F : Fills d c q H3 top i H4) (v0 : 0 ≤ v) (v1 : v ≤ top) (D5 : DeckAt H5 d c) (b5 : But [d, c] H4 H5) :
    ∃ acc, H5 q = some (.lst acc) ∧ acc.length < sizeLine ∧ Fills d c q H3 top (i + 1) (upd H5 q (.lst (acc ++ [V.int v]))) := by
  obtain ⟨acc, h, hl, hw, D4, b4⟩ := F
  obtain ⟨n1, n2⟩ := D.nd n
  refine ⟨_, b5 _ _ h (by simp [n1, n2]), small1000 (by rw [List.length_map]; omega), acc ++ [v], ?_, ?_, ?_, D5.put n1 n2, butPutNew n (b4.trans b5)⟩
  · rw [upd_same]; simp
  · simp [hl]
  · intro w hw'
    rcases List.mem_append.mp hw' with z | z
    · exact hw w z
    · rw [List.mem_singleton.mp z]; exact ⟨v0, v1⟩
theorem rep1 (n : Nat) (z : Int) : (List.replicate n [V.int z]).flatten = (List.replicate n z).map V.int := by
  rw [List.map_replicate]
  induction n with
  | zero => rfl
  | succ n ih => rw [List.replicate_succ, List.flatten_cons, ih, List.replicate_succ]; rfl
section
variable {P : Program} {w : World} {K : PySem.W.Frag} {mg : Str → Option Value} {base : Heap}
theorem ok_block (D : DefT K mg "_law_block" S__law_block) (B : Bi mg) (tT : mg "tuple" = none) (tR : mg "range" = none) (Gd : Cal P w K mg base 1 "_law_draw" ["deck", "below"] spDraw) (Gw : Cal P w K mg base 3 "_law_word" ["deck"] spWord) :
    FnOk P w K mg base CX0 4 D.f D.fd ["deck"] spBlock := by
  refine D.F.ok sc__law_block (fun vs H Q E h => ?_) (fun cdv A outer s H vs Q E hr h => ?_)
  · obtain ⟨d, c, rfl, _⟩ := h
    rfl
  · obtain ⟨d, c, rfl, Dk, k⟩ := h
    have nd := sc__law_block.nd
    refine ⟨_, pss_cons (ps_par (i := 1) (j := 2) (by rfl) nd rfl rfl (by decide) rfl rfl (pa_cons (pc Gd hr (pa_cons (pv 0) (pa_cons pe_int pa_nil))) (pa_cons (pc Gw hr (pa_cons (pv 0) pa_nil)) pa_nil)) (by rfl))
      (pss_cons (ps_if (pt_cmpR op_eq (pv 1) pe_int (nomark _)) (pss_one (ps_ret (pe_op op_repT (pe_tup (pa_cons (pv 2) pa_nil)) pe_int))) pss_nil)
      (pss_cons (ps_if (pt_cmpR op_eq (pv 1) pe_int (nomark _)) (pss_one (ps_ret (pe_op op_repT (pe_tup (pa_cons pe_int pa_nil)) pe_int))) pss_nil)
      (pss_cons (ps_if (pt_cmpR op_eq (pv 1) pe_int (nomark _)) (pss_one (ps_ret (pe_op op_catT (pe_op op_catT (pe_tup (pa_cons (pv 2) (pa_cons (pe_op op_add pe_int (pc Gd hr (pa_cons (pv 0) (pa_cons pe_int pa_nil)))) pa_nil)))
          (pe_callTy call_tuple_of (by rfl) tT (by decide +kernel) (pa_cons (pe_lc (own := [("i", 3)]) (g := gName 3) (tt := tYes) rfl nd (pi_range1 (by rfl) tR (pa_cons pe_int pa_nil)) (blkOk_by (N := ["deck", "way", "word", "i"]) (sc := defScope S__law_block) (by decide +kernel))
            (fun _ _ _ _ _ => pg_name (i := 3) nd rfl (Or.inl rfl)) (fun _ _ _ _ _ => pts_nil) (fun _ _ _ _ _ => pc Gd hr (pa_cons (pv 0) (pa_cons pe_int pa_nil)))) pa_nil))) (pe_tup (pa_cons (pv 2) pa_nil))))) pss_nil)
      (pss_one (ps_ret (pe_callTy call_tuple_of (by rfl) tT (by decide +kernel) (pa_cons (pe_lc (own := [("i", 3)]) (g := gName 3) (tt := tYes) rfl nd (pi_range1 (by rfl) tR (pa_cons pe_int pa_nil)) (blkOk_by (N := ["deck", "way", "word", "i"]) (sc := defScope S__law_block) (by decide +kernel))
            (fun _ _ _ _ _ => pg_name (i := 3) nd rfl (Or.inl rfl)) (fun _ _ _ _ _ => pts_nil) (fun _ _ _ _ _ => pe_ifExp (pt_cmpR op_eq (pc Gd hr (pa_cons (pv 0) (pa_cons pe_int pa_nil))) pe_int (nomark _)) (pc Gw hr (pa_cons (pv 0) pa_nil)) (pv 3))) pa_nil))))))), ?_⟩
    refine ⟨_, rfl, d, c, 5, rfl, Dk, by decide, by decide, fun way H1 p0 p1 D1 b1 => ?_⟩
    refine ⟨_, rfl, d, c, rfl, D1, fun z H2 z0 z1 D2 b2 => ?_⟩
    have b12 := b1.trans b2
    have fr2 : ∀ {p : Addr}, H2 p = none → H p = none := fun {p} n => by
      cases q : H p with
      | none => rfl
      | some o =>
        obtain ⟨nd1, nc1⟩ := D2.nd n
        rw [b12 _ _ q (by simp [nd1, nc1])] at n
        cases n
    refine ⟨_, _, rfl, ?_⟩
    refine ⟨_, rfl, rfl, _, rfl, ?_⟩
    refine ite2 (fun _ => ?_) (fun _ => ?_)
    · refine ⟨_, rfl, (by show 1 ≤ sizeLine; decide), fun t ht => ⟨t, 32, _, rfl, rfl, SqT.of upd_same, by simp, by decide, by decide, by show 1 ≤ 1000; decide, fun p hp => ?_⟩⟩
      refine k p (List.replicate 32 z) _ (fr2 ((Same.new ht).free hp)) (by rw [upd_same, ← rep1]; rfl) (by simp) (Wd.rep z0 z1 32) ((D2.same (Same.new ht)).same (Same.new hp)) ((b12.trans (But.new ht)).trans (But.new hp))
    refine ⟨_, rfl, rfl, _, rfl, ?_⟩
    refine ite2 (fun _ => ?_) (fun _ => ?_)
    · refine ⟨(by show 1 ≤ sizeLine; decide), fun t ht => ⟨t, 32, _, rfl, rfl, SqT.of upd_same, by simp, by decide, by decide, by show 1 ≤ 1000; decide, fun p hp => ?_⟩⟩
      refine k p (List.replicate 32 0) _ (fr2 ((Same.new ht).free hp)) (by rw [upd_same, ← rep1]; rfl) (by simp) (Wd.rep (by decide) (by decide) 32) ((D2.same (Same.new ht)).same (Same.new hp)) ((b12.trans (But.new ht)).trans (But.new hp))
    refine ⟨_, rfl, rfl, _, rfl, ?_⟩
    refine ite2 (fun _ => ?_) (fun _ => ?_)
    · refine ⟨_, rfl, _, rfl, d, c, 3, rfl, D2, by decide, by decide, fun v3 H3 r0 r1 D3 b3 => ?_⟩
      refine ⟨_, _, rfl, rfl, (by show 2 ≤ sizeLine; decide), fun t ht => ?_⟩
      have s4 : Same H3 (upd H3 t (.tup [V.int z, V.int (1 + v3)])) := Same.new ht
      have D4 : DeckAt (upd H3 t (.tup [V.int z, V.int (1 + v3)])) d c := D3.same s4
      have b4 : But [d, c] H (upd H3 t (.tup [V.int z, V.int (1 + v3)])) := (b12.trans b3).trans (But.new ht)
      have t4 : (upd H3 t (.tup [V.int z, V.int (1 + v3)])) t = some (.tup [V.int z, V.int (1 + v3)]) := upd_same
      refine ⟨29, rfl, by decide, by decide, fun q hq => ?_⟩
      show _
      generalize upd H3 t (.tup [V.int z, V.int (1 + v3)]) = H4 at D4 b4 t4 hq ⊢
      refine lc_range (lo := 0) (n := 29) (fun i H5 => Fills d c q H4 8 i H5) (Fills.start D4 hq) (fun i H5 hi F5 => ?_) (fun H5 F5 => ?_)
      · have D5 : DeckAt H5 d c := let ⟨_, _, _, _, x, _⟩ := F5; x
        refine ⟨rfl, tyes ?_⟩
        exact ⟨_, rfl, d, c, 9, rfl, D5, by decide, by decide, fun v H6 u0 u1 D6 b6 => Fills.step D4 hq (by omega) F5 u0 (by omega) D6 b6⟩
      · obtain ⟨acc, h5, hl5, hw5, D5, b5⟩ := F5
        have nt := D4.nd hq
        have td : t ∉ [d, c] := by
          obtain ⟨x1, x2⟩ := D3.nd ht
          simp [x1, x2]
        refine ⟨q, _, rfl, .inl ⟨SqL.of h5, fun r hr' => ?_⟩⟩
        have s6 := Same.new (o := .tup (acc.map V.int)) hr'
        refine ⟨t, r, _, _, rfl, rfl, SqT.of (s6 _ _ (b5 _ _ t4 td)), SqT.of upd_same, by simp, (by rw [List.length_map, hl5]; show 2 + 29 ≤ sizeLine; decide), fun z => absurd (congrArg List.length z) (by rw [List.length_map, hl5]; decide), fun _ r2 hr2 => ?_⟩
        refine ⟨_, rfl, (by show 1 ≤ sizeLine; decide), fun r3 hr3 => ?_⟩
        have s7 := Same.new (o := .tup ([V.int z, V.int (1 + v3)] ++ acc.map V.int)) hr2
        have s8 := Same.new (o := .tup [V.int z]) hr3
        refine ⟨r2, r3, _, _, rfl, rfl, SqT.of (s8 _ _ upd_same), SqT.of upd_same, by simp, (by rw [List.length_append, List.length_map, hl5]; show 2 + 29 + 1 ≤ sizeLine; decide), fun z => (by cases z), fun _ p hp => ?_⟩
        have s9 := ((s6.trans s7).trans s8).trans (Same.new (o := .tup ([V.int z, V.int (1 + v3)] ++ acc.map V.int ++ [V.int z])) hp)
        have D9 := D5.same s9
        have b9 := (b4.trans b5).trans (But.of_same s9)
        refine k p ([z, 1 + v3] ++ acc ++ [z]) _ (butFree (b4.trans b5) D5 (((s6.trans s7).trans s8).free hp)) (by rw [upd_same]; simp) (by simp [hl5]) ?_ D9 b9
        exact Wd.app (Wd.app (fun w hw => by
          simp only [List.mem_cons, List.not_mem_nil, or_false] at hw
          rcases hw with h | h <;> subst h <;> constructor <;> omega) (fun w hw => ⟨(hw5 w hw).1, Int.le_trans (hw5 w hw).2 (by decide)⟩)) (Wd.one z0 z1)
    · refine ⟨32, rfl, by decide, by decide, fun q hq => ?_⟩
      refine lc_range (lo := 0) (n := 32) (fun i H5 => Fills d c q H2 1000000000 i H5) (Fills.start D2 hq) (fun i H5 hi F5 => ?_) (fun H5 F5 => ?_)
      · have D5 : DeckAt H5 d c := let ⟨_, _, _, _, x, _⟩ := F5; x
        refine ⟨rfl, tyes ?_⟩
        refine ⟨_, rfl, d, c, 2, rfl, D5, by decide, by decide, fun v H6 u0 u1 D6 b6 => ?_⟩
        refine ⟨rfl, _, rfl, ?_⟩
        refine ite2 (fun _ => ?_) (fun _ => ?_)
        · exact ⟨_, rfl, d, c, rfl, D6, fun v H7 u0 u1 D7 b7 => Fills.step D2 hq (by omega) F5 u0 u1 D7 (b6.trans b7)⟩
        · refine ⟨_, rfl, Fills.step (v := 0 + (i : Int)) D2 hq (by omega) F5 (by omega) (by omega) D6 b6⟩
      · obtain ⟨acc, h5, hl5, hw5, D5, b5⟩ := F5
        refine ⟨q, _, rfl, .inl ⟨SqL.of h5, fun p hp => ?_⟩⟩
        exact k p acc _ (butFree (b12.trans b5) D5 hp) upd_same hl5 hw5 (D5.same (Same.new hp)) ((b12.trans b5).trans (But.new hp))
end
end Tk16

namespace Tk16
open PySem PySem.Spec PyProof.Rows L2 Tk
/-! ### what is an integer, a word, a tuple of words -/
def isI : V → Bool
  | .int _ => true
  | _ => false
def isW (lo hi : Int) : V → Bool
  | .int i => decide (lo ≤ i ∧ i ≤ hi)
  | _ => false
/-- the value's type is a built-in one, known -/
def Ty (K : PySem.W.Frag) (H : Hp) (x : V) (n : String) : Prop := TyX K H x (.type n)
theorem Ty.int (K : PySem.W.Frag) (H : Hp) (i : Int) : Ty K H (.int i) "int" := .base (.int i)
theorem Ty.ofT {K : PySem.W.Frag} {H : Hp} {a : Addr} {xs : List V} (h : SqT K H a xs) : Ty K H (.ref a) "tuple" := by
  rcases h with (h | ⟨o, h⟩) | ⟨o, its, n, hk, hc, _⟩
  · exact .base (.tup h)
  · exact .fTuple h
  · exact .kTuple hk hc
theorem sameT {K : PySem.W.Frag} {H H' : Hp} {a : Addr} {xs : List V} (s : Same H H') (h : SqT K H a xs) : SqT K H' a xs := by
  rcases h with (h | ⟨o, h⟩) | h
  · exact .inl (.inl (s _ _ h))
  · exact .inl (.inr ⟨o, s _ _ h⟩)
  · exact .inr h
theorem Ty.same {K : PySem.W.Frag} {H H' : Hp} {x : V} {n : String} (s : Same H H') (h : Ty K H x n) : Ty K H' x n := by
  unfold Ty at h ⊢
  generalize et : Value.type n = t at h ⊢
  cases h with
  | base b =>
    cases b with
    | non => exact .base .non
    | bl y => exact .base (.bl y)
    | int i => exact .base (.int i)
    | str y => exact .base (.str y)
    | flt y => exact .base (.flt y)
    | lst e => exact .base (.lst (s _ _ e))
    | frz e => exact .base (.frz (s _ _ e))
    | tup e => exact .base (.tup (s _ _ e))
    | dK e => exact .base (.dK (s _ _ e))
    | dT e => exact .base (.dT (s _ _ e))
    | ins e cl ha hn htk hm => cases et
  | byt y => exact .byt y
  | set e => exact .set (s _ _ e)
  | kList e c => exact .kList e c
  | kTuple e c => exact .kTuple e c
  | kDict e c => exact .kDict e c
  | fTuple e => exact .fTuple (s _ _ e)
  | fDict e => exact .fDict (s _ _ e)
/-- isinstance(x, int), isinstance(x, bool) of such -/
theorem ty_int {K : PySem.W.Frag} {H : Hp} {x : V} {n : String} (h : Ty K H x n) :
    (isI x = true ∧ PySem.W.kitOne K (.type n) (.type "int") = some true ∧ PySem.W.kitOne K (.type n) (.type "bool") = some false) ∨
    (isI x = false ∧ PySem.W.kitOne K (.type n) (.type "int") = some true ∧ PySem.W.kitOne K (.type n) (.type "bool") = some true) ∨
    (isI x = false ∧ PySem.W.kitOne K (.type n) (.type "int") = some false) := by
  unfold Ty at h
  generalize et : Value.type n = t at h
  cases h with
  | base b =>
    cases b with
    | non => cases et; exact .inr (.inr ⟨rfl, kit_ty (by decide +kernel)⟩)
    | bl y => cases et; exact .inr (.inl ⟨rfl, kit_ty (by decide +kernel), kit_ty (by decide +kernel)⟩)
    | int i => cases et; exact .inl ⟨rfl, kit_ty (by decide +kernel), kit_ty (by decide +kernel)⟩
    | str y => cases et; exact .inr (.inr ⟨rfl, kit_ty (by decide +kernel)⟩)
    | flt y => cases et; exact .inr (.inr ⟨rfl, kit_ty (by decide +kernel)⟩)
    | lst e => cases et; exact .inr (.inr ⟨rfl, kit_ty (by decide +kernel)⟩)
    | frz e => cases et; exact .inr (.inr ⟨rfl, kit_ty (by decide +kernel)⟩)
    | tup e => cases et; exact .inr (.inr ⟨rfl, kit_ty (by decide +kernel)⟩)
    | dK e => cases et; exact .inr (.inr ⟨rfl, kit_ty (by decide +kernel)⟩)
    | dT e => cases et; exact .inr (.inr ⟨rfl, kit_ty (by decide +kernel)⟩)
    | ins e cl ha hn htk hm => cases et
  | byt y => cases et; exact .inr (.inr ⟨rfl, kit_ty (by decide +kernel)⟩)
  | set e => cases et; exact .inr (.inr ⟨rfl, kit_ty (by decide +kernel)⟩)
  | kList e c => cases et; exact .inr (.inr ⟨rfl, kit_ty (by decide +kernel)⟩)
  | kTuple e c => cases et; exact .inr (.inr ⟨rfl, kit_ty (by decide +kernel)⟩)
  | kDict e c => cases et; exact .inr (.inr ⟨rfl, kit_ty (by decide +kernel)⟩)
  | fTuple e => cases et; exact .inr (.inr ⟨rfl, kit_ty (by decide +kernel)⟩)
  | fDict e => cases et; exact .inr (.inr ⟨rfl, kit_ty (by decide +kernel)⟩)
theorem kit_tuple_no {K : PySem.W.Frag} {H : Hp} {x : V} {n : String} (h : Ty K H x n) (ne : n ≠ "tuple") : PySem.W.kitOne K (.type n) (.type "tuple") = some false := by
  unfold Ty at h
  generalize et : Value.type n = t at h
  cases h with
  | base b =>
    cases b with
    | tup e => cases et; exact absurd rfl ne
    | ins e cl ha hn htk hm => cases et
    | _ => cases et; exact kit_ty (by decide +kernel)
  | kTuple e c => cases et; exact absurd rfl ne
  | fTuple e => cases et; exact absurd rfl ne
  | _ => cases et; exact kit_ty (by decide +kernel)
def spInt (K : PySem.W.Frag) : Sp := fun vs H Q _ => ∃ (x : V) (n : String), vs = [x] ∧ Ty K H x n ∧ Q (.bl (isI x)) H
def spWithin (K : PySem.W.Frag) : Sp := fun vs H Q _ => ∃ (x : V) (n : String) (lo hi : Int), vs = [x, .int lo, .int hi] ∧ Ty K H x n ∧ Q (.bl (isW lo hi x)) H
/-- of a tuple: all within; of another thing: no -/
def rAre (K : PySem.W.Frag) (x : V) (lo hi : Int) (H : Hp) (Q : VK) : Prop :=
  (∃ a xs, x = .ref a ∧ SqT K H a xs ∧ xs.length ≤ 100000 ∧ (∀ y ∈ xs, ∃ n, Ty K H y n) ∧ ∀ H', Same H H' → Q (.bl (xs.all (isW lo hi))) H') ∨ (∃ n, Ty K H x n ∧ n ≠ "tuple" ∧ Q (.bl false) H)
def spAre (K : PySem.W.Frag) : Sp := fun vs H Q _ => ∃ (x : V) (lo hi : Int), vs = [x, .int lo, .int hi] ∧ rAre K x lo hi H Q
def spWords (K : PySem.W.Frag) : Sp := fun vs H Q _ => ∃ (x : V), vs = [x] ∧ rAre K x 0 1000000000 H Q
/-- the module's constants and the free names of built-ins -/
structure Kn (mg : Str → Option Value) : Prop where
  isi : mg "isinstance" = none
  int : mg "int" = none
  bool : mg "bool" = none
  tuple : mg "tuple" = none
  all : mg "all" = none
  len : mg "len" = none
  most : ∃ t, mg "MOST_WORD" = some (.int 1000000000 t)
theorem boot_bool : bootBuiltins "bool" = some (.type "bool") := by decide +kernel
theorem boot_tuple : bootBuiltins "tuple" = some (.type "tuple") := by decide +kernel
theorem boot_all : bootBuiltins "all" = some (.builtin "all") := by decide +kernel
section
variable {P : Program} {w : World} {K : PySem.W.Frag} {mg : Str → Option Value} {base : Heap}
theorem ok_int (D : DefT K mg "is_integer" S_is_integer) (T : Kn mg) : FnOk P w K mg base CX0 1 D.f D.fd ["thing"] (spInt K) := by
  refine D.F.ok sc_is_integer (fun vs H Q E h => ?_) (fun cdv A outer s H vs Q E hr h => ?_)
  · obtain ⟨x, n, rfl, _⟩ := h
    rfl
  · obtain ⟨x, n, rfl, ty, k⟩ := h
    refine ⟨_, pss_one (ps_ret (pe_and (pe_callB call_isi (by rfl) T.isi PyProof.Rows.boot_isinstance (pa_cons (pv 0) (pa_cons (pe_bltn (v := .ty "int") (by rfl) T.int PyProof.Rows.boot_int rfl) pa_nil)))
      (pe_one (pe_not (pe_callB call_isi (by rfl) T.isi PyProof.Rows.boot_isinstance (pa_cons (pv 0) (pa_cons (pe_bltn (v := .ty "bool") (by rfl) T.bool boot_bool rfl) pa_nil))))))), ?_⟩
    rcases ty_int ty with ⟨e, h1, h2⟩ | ⟨e, h1, h2⟩ | ⟨e, h1⟩
    · refine ⟨_, rfl, x, .ty "int", .type n, .type "int", true, rfl, .ty _, ty, h1, true, rfl, ?_⟩
      refine iteT ?_
      refine ⟨_, rfl, x, .ty "bool", .type n, .type "bool", false, rfl, .ty _, ty, h2, false, rfl, ?_⟩
      rw [e] at k; exact k
    · refine ⟨_, rfl, x, .ty "int", .type n, .type "int", true, rfl, .ty _, ty, h1, true, rfl, ?_⟩
      refine iteT ?_
      refine ⟨_, rfl, x, .ty "bool", .type n, .type "bool", true, rfl, .ty _, ty, h2, true, rfl, ?_⟩
      rw [e] at k; exact k
    · refine ⟨_, rfl, x, .ty "int", .type n, .type "int", false, rfl, .ty _, ty, h1, false, rfl, ?_⟩
      refine iteF ?_
      rw [e] at k; exact k
theorem ok_within (D : DefT K mg "is_within" S_is_within) (T : Kn mg) (Gi : Cal P w K mg base 1 "is_integer" ["thing"] (spInt K)) : FnOk P w K mg base CX0 2 D.f D.fd ["thing", "least", "most"] (spWithin K) := by
  refine D.F.ok sc_is_within (fun vs H Q E h => ?_) (fun cdv A outer s H vs Q E hr h => ?_)
  · obtain ⟨x, n, lo, hi, rfl, _⟩ := h
    rfl
  · obtain ⟨x, n, lo, hi, rfl, ty, k⟩ := h
    refine ⟨_, pss_one (ps_ret (pe_and (pc Gi hr (pa_cons (pv 0) pa_nil)) (pe_one (pe_chain op_le op_le (pv 1) (pv 0) (pv 2))))), ?_⟩
    refine ⟨_, rfl, x, n, rfl, ty, ?_⟩
    cases e : isI x with
    | false =>
      refine ⟨_, rfl, iteF ?_⟩
      have e2 : isW lo hi x = false := by
        cases x with
        | int i => cases e
        | _ => rfl
      rw [e2] at k; exact k
    | true =>
      obtain ⟨i, rfl⟩ : ∃ i, x = .int i := by
        cases x with
        | int i => exact ⟨i, rfl⟩
        | _ => cases e
      refine ⟨_, rfl, iteT ?_⟩
      refine ⟨_, rfl, _, rfl, _, _, rfl, rfl, _, rfl, ?_⟩
      refine ite2 (fun h => ?_) (fun h => ?_)
      · have h : lo ≤ i := of_decide_eq_true h
        refine ⟨_, rfl, _, _, rfl, rfl, ?_⟩
        have e2 : isW lo hi (.int i) = decide (i ≤ hi) := by simp [isW, h]
        rw [e2] at k; exact k
      · have h : ¬ lo ≤ i := fun z => h (decide_eq_true z)
        have e2 : isW lo hi (.int i) = false := by simp [isW, h]
        rw [e2] at k; exact k
end
end Tk16

namespace Tk16
open PySem PySem.Spec PyProof.Rows L2 Tk
section
variable {P : Program} {w : World} {K : PySem.W.Frag} {mg : Str → Option Value} {base : Heap}
theorem ok_are (D : DefT K mg "are_within" S_are_within) (T : Kn mg) (Gw : Cal P w K mg base 2 "is_within" ["thing", "least", "most"] (spWithin K)) : FnOk P w K mg base CX0 3 D.f D.fd ["thing", "least", "most"] (spAre K) := by
  refine D.F.ok sc_are_within (fun vs H Q E h => ?_) (fun cdv A outer s H vs Q E hr h => ?_)
  · obtain ⟨x, lo, hi, rfl, _⟩ := h
    rfl
  · obtain ⟨x, lo, hi, rfl, k⟩ := h
    have nd := sc_are_within.nd
    refine ⟨_, pss_one (ps_ret (pe_and (pe_callB call_isi (by rfl) T.isi PyProof.Rows.boot_isinstance (pa_cons (pv 0) (pa_cons (pe_bltn (v := .ty "tuple") (by rfl) T.tuple boot_tuple rfl) pa_nil)))
      (pe_one (pe_callB (cr_all rfl) (by rfl) T.all boot_all (pa_cons (pe_lc (own := [("part", 3)]) (g := gName 3) (tt := tYes) rfl nd (pi_tup (pv 0)) (blkOk_by (N := ["thing", "least", "most", "part"]) (sc := defScope S_are_within) (by decide +kernel))
            (fun _ _ _ _ _ => pg_name (i := 3) nd rfl (Or.inl rfl)) (fun _ _ _ _ _ => pts_nil) (fun _ _ _ _ _ => pc Gw hr (pa_cons (pv 3) (pa_cons (pv 1) (pa_cons (pv 2) pa_nil))))) pa_nil))))), ?_⟩
    rcases k with ⟨a, xs, rfl, hx, hz, hty, k⟩ | ⟨n, ty, ne, k⟩
    · refine ⟨_, rfl, .ref a, .ty "tuple", .type "tuple", .type "tuple", true, rfl, .ty _, Ty.ofT hx, kit_ty (by decide +kernel), true, rfl, ?_⟩
      refine iteT ?_
      refine ⟨_, rfl, a, rfl, ⟨xs, hx⟩, fun q hq => ?_⟩
      refine lc_tup (K := K) (a := a) (xs := xs) (fun i H4 => H4 q = some (.lst ((xs.take i).map fun y => V.bl (isW lo hi y))) ∧ Same H H4) ⟨by rw [upd_same]; rfl, Same.new hq⟩ (fun i H4 _ h4 => sameT h4.2 hx) ?_ ?_
      · rintro i y H4 hi' ⟨h4, s4⟩
        obtain ⟨n, ty⟩ := hty y (List.mem_of_getElem? hi')
        have hil := (List.getElem?_eq_some_iff.mp hi').1
        refine ⟨rfl, tyes ?_⟩
        refine ⟨_, rfl, _, rfl, _, rfl, y, n, lo, hi, rfl, Ty.same s4 ty, _, h4, ?_, ?_⟩
        · rw [List.length_map, List.length_take]
          exact Nat.lt_of_le_of_lt (Nat.le_trans (Nat.min_le_right _ _) hz) (by decide)
        · exact ⟨by rw [upd_same, ← take_map_next hi'], Same.put hq s4⟩
      · rintro H4 ⟨h4, s4⟩
        rw [List.take_length] at h4
        refine ⟨q, xs.map (isW lo hi), rfl, SqL.of (by rw [h4, List.map_map]; rfl), ?_⟩
        have e : (xs.map (isW lo hi)).all id = xs.all (isW lo hi) := by
          rw [List.all_map]; rfl
        rw [e]
        exact k H4 s4
    · refine ⟨_, rfl, x, .ty "tuple", .type n, .type "tuple", false, rfl, .ty _, ty, kit_tuple_no ty ne, false, rfl, ?_⟩
      refine iteF ?_
      exact k
theorem ok_words (D : DefT K mg "are_words" S_are_words) (T : Kn mg) (Ga : Cal P w K mg base 3 "are_within" ["thing", "least", "most"] (spAre K)) : FnOk P w K mg base CX0 4 D.f D.fd ["thing"] (spWords K) := by
  refine D.F.ok sc_are_words (fun vs H Q E h => ?_) (fun cdv A outer s H vs Q E hr h => ?_)
  · obtain ⟨x, rfl, _⟩ := h
    rfl
  · obtain ⟨x, rfl, k⟩ := h
    obtain ⟨t, ht⟩ := T.most
    refine ⟨_, pss_one (ps_ret (pc Ga hr (pa_cons (pv 0) (pa_cons pe_int (pa_cons (pe_glob (v := .int 1000000000) rfl ht ⟨_, rfl⟩) pa_nil))))), ?_⟩
    exact ⟨_, rfl, x, 0, 1000000000, rfl, k⟩
end
end Tk16

namespace Tk16
open PySem PySem.Spec PyProof.Rows L2 Tk
/-! ### the disk: what an object looks like between two calls -/
def fuV : Option Int → V
  | none => .non
  | some n => .int n
def fl (z l wl nl : Addr) (fu : V) : List (Str × V) := [("_sizes", .ref z), ("_standing", .ref l), ("_waiting", .ref wl), ("_newest", .ref nl), ("_fuse", fu)]
section
variable (z l wl nl z' : Addr) (fu fu' : V)
theorem fl_sizes : (fl z l wl nl fu).lookup ("_sizes" : Str) = some (.ref z) := rfl
theorem fl_standing : (fl z l wl nl fu).lookup ("_standing" : Str) = some (.ref l) := rfl
theorem fl_waiting : (fl z l wl nl fu).lookup ("_waiting" : Str) = some (.ref wl) := rfl
theorem fl_newest : (fl z l wl nl fu).lookup ("_newest" : Str) = some (.ref nl) := rfl
theorem fl_fuse : (fl z l wl nl fu).lookup ("_fuse" : Str) = some fu := rfl
theorem fl_init : putF "_fuse" .non (putF "_newest" (.ref nl) (putF "_waiting" (.ref wl) (putF "_standing" (.ref l) (putF "_sizes" (.ref z) [])))) = fl z l wl nl .non := rfl
theorem fl_pw : putF "_waiting" (.ref z') (fl z l wl nl fu) = fl z l z' nl fu := rfl
theorem fl_pn : putF "_newest" (.ref z') (fl z l wl nl fu) = fl z l wl z' fu := rfl
theorem fl_ps : putF "_standing" (.ref z') (fl z l wl nl fu) = fl z z' wl nl fu := rfl
theorem fl_pf : putF "_fuse" fu' (fl z l wl nl fu) = fl z l wl nl fu' := rfl
end
/-- a block with these words -/
def Blk (K : PySem.W.Frag) (H : Hp) (x : V) (ws : List Int) : Prop := ∃ a, x = .ref a ∧ SqT K H a (ws.map V.int) ∧ ws.length = 32 ∧ Wd ws
/-- a list of blocks -/
def Blks (K : PySem.W.Frag) (H : Hp) : List V → List (List Int) → Prop := Paired (Blk K H)
/-- a waiting write -/
def Wt (K : PySem.W.Frag) (H : Hp) (many : Int) (x : V) (p : Int × List Int) : Prop := ∃ t y, x = .ref t ∧ SqT K H t [.int p.1, y] ∧ Blk K H y p.2 ∧ 0 ≤ p.1 ∧ p.1 < many
/-- the newest waiting block of a place -/
def lastW (wt : List (Int × List Int)) (pl : Int) : Option (List Int) := (wt.reverse.find? fun p => decide (p.1 = pl)).map (·.2)
def Nw (K : PySem.W.Frag) (H : Hp) (kvs : List (Key × V)) (wt : List (Int × List Int)) : Prop :=
  ∀ pl : Int, match lastW wt pl with
    | none => valV kvs (Sum.inl pl) = none
    | some ws => ∃ y, valV kvs (Sum.inl pl) = some y ∧ Blk K H y ws
/-- the mutable parts of a disk: itself, its lists, its dict -/
structure DiskAt (K : PySem.W.Frag) (C : Addr) (H : Hp) (p z l wl nl : Addr) (s b : Int) (st : List (List Int)) (wt : List (Int × List Int)) (fu : Option Int) : Prop where
  ok : SizeOk s b
  ob : ∃ dx, H p = some (.ins C dx (fl z l wl nl (fuV fu)))
  sz : H z = some (.tup (sizeV s b))
  fst : ∃ xs, H l = some (.lst xs) ∧ Blks K H xs st
  len : (st.length : Int) = manyI s b
  fwt : ∃ ys, H wl = some (.lst ys) ∧ Paired (Wt K H (manyI s b)) ys wt
  wlen : wt.length ≤ 1000
  nw : ∃ kvs, H nl = some (.dK kvs) ∧ Nw K H kvs wt ∧ kvs.length ≤ wt.length
  lw : l ≠ wl
/-- what the walk asks of the class, of the module -/
structure DT (K : PySem.W.Frag) (mg : Str → Option Value) (C fI ba : Addr) : Prop where
  cl : Cls K C
  mkC : Mk K C fI
  mgC : mg "Disk" = some (.ref C)
  ins : C8.InsC K C
  nS : NoAttr K C "_sizes"
  nT : NoAttr K C "_standing"
  nW : NoAttr K C "_waiting"
  nN : NoAttr K C "_newest"
  nF : NoAttr K C "_fuse"
  bl : mg "BLANK" = some (.ref ba)
  c1 : ∃ t, mg "LEAST_SEGMENTS" = some (.int 6 t)
  c2 : ∃ t, mg "MOST_SEGMENTS" = some (.int 40 t)
  c3 : ∃ t, mg "LEAST_BLOCKS" = some (.int 4 t)
  c4 : ∃ t, mg "MOST_BLOCKS" = some (.int 24 t)
  c5 : ∃ t, mg "BLOCK_WORDS" = some (.int 32 t)
  c6 : ∃ t, mg "CONTENT_WORDS" = some (.int 28 t)
  c7 : ∃ t, mg "ROOT_WORDS" = some (.int 4 t)
def Blank (K : PySem.W.Frag) (H : Hp) (ba : Addr) : Prop := SqT K H ba ((List.replicate 32 (0 : Int)).map V.int)
theorem Blk.same {K : PySem.W.Frag} {H H' : Hp} {x : V} {ws : List Int} (s : Same H H') (h : Blk K H x ws) : Blk K H' x ws := by
  obtain ⟨a, e, h1, h2⟩ := h
  exact ⟨a, e, sameT s h1, h2⟩
/-- tuples stay where a list, a dict, an instance is changed -/
def TupSame (H H' : Hp) : Prop := ∀ b xs, Rd H b (.tup xs) → Rd H' b (.tup xs)
theorem TupSame.of {H H' : Hp} (s : Same H H') : TupSame H H' := fun b xs h => by
  rcases h with h | ⟨o, h⟩
  · exact .inl (s _ _ h)
  · exact .inr ⟨o, s _ _ h⟩
theorem TupSame.refl {H : Hp} : TupSame H H := fun _ _ h => h
theorem TupSame.trans {H H1 H2 : Hp} (a : TupSame H H1) (b : TupSame H1 H2) : TupSame H H2 := fun c xs h => b c xs (a c xs h)
theorem TupSame.put {H : Hp} {q : Addr} {o o' : HO} (h : H q = some o) (n : ∀ xs, o ≠ .tup xs) (n2 : ∀ ob u, o ≠ .frz ob u) : TupSame H (upd H q o') := fun b xs r => by
  have ne : b ≠ q := fun e => by
    subst e
    rcases r with r | ⟨ob, r⟩
    · rw [h] at r; exact n xs (Option.some.inj r)
    · rw [h] at r; exact n2 _ _ (Option.some.inj r)
  rcases r with r | ⟨ob, r⟩
  · exact .inl (by rw [upd_ne ne]; exact r)
  · exact .inr ⟨ob, by rw [upd_ne ne]; exact r⟩
theorem tupT {K : PySem.W.Frag} {H H' : Hp} {a : Addr} {xs : List V} (s : TupSame H H') (h : SqT K H a xs) : SqT K H' a xs := by
  rcases h with h | h
  · exact .inl (s _ _ h)
  · exact .inr h
theorem Blk.tup {K : PySem.W.Frag} {H H' : Hp} {x : V} {ws : List Int} (s : TupSame H H') (h : Blk K H x ws) : Blk K H' x ws := by
  obtain ⟨a, e, h1, h2⟩ := h
  exact ⟨a, e, tupT s h1, h2⟩
theorem Blks.tup {K : PySem.W.Frag} {H H' : Hp} {xs : List V} {bs : List (List Int)} (s : TupSame H H') (h : Blks K H xs bs) : Blks K H' xs bs := Paired.mapP h fun _ _ q => q.tup s
theorem Wt.tup {K : PySem.W.Frag} {H H' : Hp} {m : Int} {x : V} {p : Int × List Int} (s : TupSame H H') (h : Wt K H m x p) : Wt K H' m x p := by
  obtain ⟨t, y, e, h1, h2, h3⟩ := h
  exact ⟨t, y, e, tupT s h1, h2.tup s, h3⟩
theorem Nw.tup {K : PySem.W.Frag} {H H' : Hp} {kvs : List (Key × V)} {wt : List (Int × List Int)} (s : TupSame H H') (h : Nw K H kvs wt) : Nw K H' kvs wt := fun pl => by
  have q := h pl
  revert q
  cases lastW wt pl with
  | none => exact id
  | some ws => exact fun ⟨y, h1, h2⟩ => ⟨y, h1, h2.tup s⟩
theorem DiskAt.same {K : PySem.W.Frag} {C : Addr} {H H' : Hp} {p z l wl nl : Addr} {s b : Int} {st : List (List Int)} {wt : List (Int × List Int)} {fu : Option Int} (e : Same H H') (D : DiskAt K C H p z l wl nl s b st wt fu) : DiskAt K C H' p z l wl nl s b st wt fu := by
  obtain ⟨ok, ⟨dx, h1⟩, h2, ⟨xs, h3, h4⟩, h5, ⟨ys, h6, h7⟩, h8, ⟨kvs, h9, h10, h11⟩, h12⟩ := D
  have t := TupSame.of e
  exact ⟨ok, ⟨dx, e _ _ h1⟩, e _ _ h2, ⟨xs, e _ _ h3, h4.tup t⟩, h5, ⟨ys, e _ _ h6, Paired.mapP h7 fun _ _ q => q.tup t⟩, h8, ⟨kvs, e _ _ h9, h10.tup t, h11⟩, h12⟩
def blankS (s b : Int) : List (List Int) := List.replicate (manyI s b).toNat (List.replicate 32 0)
def spDInit (K : PySem.W.Frag) (C ba : Addr) : Sp := fun vs H Q _ => ∃ (p dx : Addr) (s b : Int), vs = [.ref p, .int s, .int b] ∧ H p = some (.ins C dx []) ∧ SizeOk s b ∧ Blank K H ba ∧
  ∀ (z l wl nl : Addr) (H' : Hp), H z = none → H l = none → H wl = none → H nl = none → DiskAt K C H' p z l wl nl s b (blankS s b) [] none → (∀ c o, H c = some o → c ≠ p → H' c = some o) → Q .non H'
theorem flat_one {α : Type} (n : Nat) (x : α) : (List.replicate n [x]).flatten = List.replicate n x := by
  induction n with
  | zero => rfl
  | succ n ih => rw [List.replicate_succ, List.flatten_cons, ih, List.replicate_succ]; rfl
theorem blks_rep {K : PySem.W.Frag} {H : Hp} {x : V} {ws : List Int} (h : Blk K H x ws) : ∀ n, Blks K H (List.replicate n x) (List.replicate n ws)
  | 0 => .nil
  | n + 1 => .cons h (blks_rep h n)
theorem blank_blk {K : PySem.W.Frag} {H : Hp} {ba : Addr} (h : Blank K H ba) : Blk K H (.ref ba) (List.replicate 32 0) := ⟨ba, rfl, h, by simp, Wd.rep (by decide) (by decide) 32⟩
theorem nw_nil {K : PySem.W.Frag} {H : Hp} : Nw K H [] [] := fun pl => rfl
section
variable {P : Program} {w : World} {K : PySem.W.Frag} {mg : Str → Option Value} {base : Heap} {C fI ba : Addr}
theorem ok_dinit (D : MthT K C "__init__" "Disk.__init__" S_Disk___init__) (T : DT K mg C fI ba) (Gw : Cal P w K mg base 2 "is_within" ["thing", "least", "most"] (spWithin K)) :
    FnOk P w K mg base CX0 3 D.f D.fd ["self", "segments", "blocks"] (spDInit K C ba) := by
  refine D.F.ok sc_Disk___init__ (fun vs H Q E h => ?_) (fun cdv A outer s0 H vs Q E hr h => ?_)
  · obtain ⟨p, dx, s, b, rfl, _⟩ := h
    rfl
  · obtain ⟨p, dx, s, b, rfl, hp, ok, hba, k⟩ := h
    have nd := sc_Disk___init__.nd
    obtain ⟨t1, c1⟩ := T.c1
    obtain ⟨t2, c2⟩ := T.c2
    obtain ⟨t3, c3⟩ := T.c3
    obtain ⟨t4, c4⟩ := T.c4
    obtain ⟨t6, c6⟩ := T.c6
    obtain ⟨t7, c7⟩ := T.c7
    refine ⟨_, pss_cons (ps_if (pt_not (pt_val (pc Gw hr (pa_cons (pv 1) (pa_cons (pe_glob (v := .int 6) rfl c1 ⟨_, rfl⟩) (pa_cons (pe_glob (v := .int 40) rfl c2 ⟨_, rfl⟩) pa_nil)))))) (pss_one ps_never) pss_nil)
      (pss_cons (ps_if (pt_not (pt_val (pc Gw hr (pa_cons (pv 2) (pa_cons (pe_glob (v := .int 4) rfl c3 ⟨_, rfl⟩) (pa_cons (pe_glob (v := .int 24) rfl c4 ⟨_, rfl⟩) pa_nil)))))) (pss_one ps_never) pss_nil)
      (pss_cons (ps_set (i := 3) nd rfl (Or.inl rfl) (pe_op op_mul (pe_op op_sub (pv 1) pe_int) (pe_op op_sub (pv 2) pe_int)))
      (pss_cons (ps_set (i := 4) nd rfl (Or.inl rfl) (pe_op op_fdiv (pe_op op_sub (pe_op op_add (pe_op op_add (pv 3) (pe_glob (v := .int 4) rfl c7 ⟨_, rfl⟩)) (pe_glob (v := .int 28) rfl c6 ⟨_, rfl⟩)) pe_int) (pe_glob (v := .int 28) rfl c6 ⟨_, rfl⟩)))
      (pss_cons (ps_fld (pv 0) (pe_tup (pa_cons (pv 1) (pa_cons (pv 2) (pa_cons (pv 3) (pa_cons (pv 4) pa_nil))))) rfl)
      (pss_cons (ps_fld (pv 0) (pe_op op_rep (pe_lst (pa_cons (pe_glob (v := .ref ba) rfl T.bl rfl) pa_nil)) (pe_op op_add (pe_op op_mul pe_int (pv 4)) (pe_op op_mul (pv 1) (pv 2)))) rfl)
      (pss_cons (ps_fld (pv 0) (pe_lst pa_nil) rfl)
      (pss_cons (ps_fld (pv 0) pe_dnewK rfl)
      (pss_one (ps_fld (pv 0) pe_non rfl))))))))), ?_⟩
    have ok' := ok
    obtain ⟨h1, h2, h3, h4⟩ := ok
    have ea : ((s - 4) * (b - 1) + 4 + 28 - 1) / 28 = areaI s b := by unfold areaI roomI; omega
    have w1 : isW 6 40 (.int s) = true := by simp [isW, h1, h2]
    have w2 : isW 4 24 (.int b) = true := by simp [isW, h3, h4]
    refine ⟨_, rfl, .int s, "int", 6, 40, rfl, Ty.int K H s, _, rfl, ?_⟩
    rw [w1]
    refine iteF ?_
    refine ⟨_, rfl, .int b, "int", 4, 24, rfl, Ty.int K H b, _, rfl, ?_⟩
    rw [w2]
    refine iteF ?_
    refine ⟨_, rfl, _, _, rfl, rfl, _, rfl, _, _, rfl, rfl, _, _, rfl, rfl, .inl ⟨by omega, by omega⟩, ?_⟩
    refine ⟨_, rfl, _, _, rfl, rfl, _, _, rfl, rfl, _, _, rfl, rfl, _, _, rfl, rfl, ⟨by decide, by decide⟩, ?_⟩
    refine ⟨_, rfl, _, rfl, _, rfl, _, rfl, (by show 4 ≤ sizeLine; decide), fun z hz => ?_⟩
    have npz : p ≠ z := ne_of_none hp hz
    refine ⟨_, rfl, p, C, dx, [], rfl, by rw [upd_ne npz]; exact hp, T.cl, T.nS, (by show 0 < 1000; decide), ?_⟩
    have a1 : ∀ o, (upd (upd H z (.tup (sizeV s b))) p o) p = some o := fun o => upd_same
    have a2 : ∀ o, (upd (upd H z (.tup (sizeV s b))) p o) z = some (.tup (sizeV s b)) := fun o => by rw [upd_ne npz.symm, upd_same]
    have a3 : ∀ o c u, H c = some u → c ≠ p → (upd (upd H z (.tup (sizeV s b))) p o) c = some u := fun o c u e n => by rw [upd_ne n, upd_ne (ne_of_none e hz)]; exact e
    have ez : [V.int s, V.int b, V.int ((s - 4) * (b - 1)), V.int (((s - 4) * (b - 1) + 4 + 28 - 1) / 28)] = sizeV s b := by rw [ea]; rfl
    show _
    rw [ez]
    specialize a1 (.ins C dx (putF "_sizes" (.ref z) []))
    specialize a2 (.ins C dx (putF "_sizes" (.ref z) []))
    specialize a3 (.ins C dx (putF "_sizes" (.ref z) []))
    generalize upd (upd H z (.tup (sizeV s b))) p (.ins C dx (putF "_sizes" (.ref z) [])) = H1 at a1 a2 a3 ⊢
    have pr := ok'.prod
    have ar := ok'.area
    have mn := ok'.many
    have em : 2 * areaI s b + s * b = manyI s b := rfl
    -- self._standing
    refine ⟨(by show 1 ≤ sizeLine; decide), fun q hq => ?_⟩
    refine ⟨_, rfl, _, _, rfl, rfl, .inl ⟨by decide, by decide⟩, _, rfl, _, rfl, _, _, rfl, rfl, .inl ⟨by omega, by omega⟩, _, _, rfl, rfl, q, _, [.ref ba], rfl, rfl, upd_same, ?_, ?_, ?_, fun l hl => ?_⟩
    · rw [ea, em]; omega
    · rw [ea, em]; omega
    · rw [ea, em]
      show 1 * (manyI s b).toNat ≤ sizeLine
      exact Nat.le_trans (show 1 * (manyI s b).toNat ≤ 1020 by omega) (by decide)
    show _
    rw [ea, em, flat_one]
    have pq : p ≠ q := ne_of_none a1 hq
    have pl : p ≠ l := fun e => by rw [← e, upd_ne pq, a1] at hl; cases hl
    have zq : z ≠ q := ne_of_none a2 hq
    have zl : z ≠ l := fun e => by rw [← e, upd_ne zq, a2] at hl; cases hl
    have hl0 : H l = none := by
      cases e : H l with
      | none => rfl
      | some u =>
        have ne : l ≠ p := pl.symm
        have e1 := a3 l u e ne
        by_cases lq : l = q
        · rw [lq, hq] at e1; cases e1
        · rw [upd_ne lq, e1] at hl; cases hl
    refine ⟨_, rfl, p, C, dx, _, rfl, by rw [upd_ne pl, upd_ne pq]; exact a1, T.cl, T.nT, (by show 1 < 1000; decide), ?_⟩
    have b1 : ∀ o, (upd (upd (upd H1 q (.lst [.ref ba])) l (.lst (List.replicate (manyI s b).toNat (.ref ba)))) p o) p = some o := fun o => upd_same
    have b2 : ∀ o, (upd (upd (upd H1 q (.lst [.ref ba])) l (.lst (List.replicate (manyI s b).toNat (.ref ba)))) p o) z = some (.tup (sizeV s b)) := fun o => by rw [upd_ne npz.symm, upd_ne zl, upd_ne zq]; exact a2
    have b3 : ∀ o, (upd (upd (upd H1 q (.lst [.ref ba])) l (.lst (List.replicate (manyI s b).toNat (.ref ba)))) p o) l = some (.lst (List.replicate (manyI s b).toNat (.ref ba))) := fun o => by rw [upd_ne pl.symm, upd_same]
    have b4 : ∀ o c u, H c = some u → c ≠ p → (upd (upd (upd H1 q (.lst [.ref ba])) l (.lst (List.replicate (manyI s b).toNat (.ref ba)))) p o) c = some u := fun o c u e n => by
      have e1 := a3 c u e n
      rw [upd_ne n, upd_ne (ne_of_none e hl0), upd_ne (ne_of_none e1 hq)]; exact e1
    specialize b1 (.ins C dx (putF "_standing" (.ref l) (putF "_sizes" (.ref z) [])))
    specialize b2 (.ins C dx (putF "_standing" (.ref l) (putF "_sizes" (.ref z) [])))
    specialize b3 (.ins C dx (putF "_standing" (.ref l) (putF "_sizes" (.ref z) [])))
    specialize b4 (.ins C dx (putF "_standing" (.ref l) (putF "_sizes" (.ref z) [])))
    generalize upd (upd (upd H1 q (.lst [.ref ba])) l (.lst (List.replicate (manyI s b).toNat (.ref ba)))) p (.ins C dx (putF "_standing" (.ref l) (putF "_sizes" (.ref z) []))) = H2 at b1 b2 b3 b4 ⊢
    -- self._waiting
    refine ⟨(by show 0 ≤ sizeLine; decide), fun wl hw => ?_⟩
    have pw : p ≠ wl := ne_of_none b1 hw
    refine ⟨_, rfl, p, C, dx, _, rfl, by rw [upd_ne pw]; exact b1, T.cl, T.nW, (by show 2 < 1000; decide), ?_⟩
    -- self._newest
    intro nl hn
    have pn : p ≠ nl := fun e => by rw [← e, upd_same] at hn; cases hn
    have wn : wl ≠ nl := fun e => by rw [← e, upd_ne pw.symm, upd_same] at hn; cases hn
    have hn2 : H2 nl = none := by rw [upd_ne pn.symm, upd_ne wn.symm] at hn; exact hn
    refine ⟨_, rfl, p, C, dx, _, rfl, by rw [upd_ne pn]; exact upd_same, T.cl, T.nN, (by show 3 < 1000; decide), ?_⟩
    refine ⟨_, rfl, p, C, dx, _, rfl, upd_same, T.cl, T.nF, (by show 4 < 1000; decide), ?_⟩
    have zw : z ≠ wl := ne_of_none b2 hw
    have lw : l ≠ wl := ne_of_none b3 hw
    have zn : z ≠ nl := ne_of_none b2 hn2
    have ln : l ≠ nl := ne_of_none b3 hn2
    have frH : ∀ {c : Addr}, c ≠ p → H2 c = none → H c = none := fun {c} n e => by
      cases e1 : H c with
      | none => rfl
      | some u => rw [b4 c u e1 n] at e; cases e
    have b5 : ∀ c u, H c = some u → c ≠ p → c ≠ wl ∧ c ≠ nl := fun c u e n => ⟨ne_of_none (b4 c u e n) hw, ne_of_none (b4 c u e n) hn2⟩
    have stay : ∀ {o1 o2 o3 o4 o5 : HO} (c : Addr) (u : HO), H c = some u → c ≠ p → (upd (upd (upd (upd (upd H2 wl o1) p o2) nl o3) p o4) p o5) c = some u := fun c u e n => by
      rw [upd_ne n, upd_ne n, upd_ne (b5 c u e n).2, upd_ne n, upd_ne (b5 c u e n).1]; exact b4 c u e n
    refine k z l wl nl _ hz hl0 (frH pw.symm hw) (frH pn.symm hn2) ⟨ok', ⟨dx, upd_same⟩, ?_, ⟨_, ?_, blks_rep (blank_blk (ba := ba) ?_) _⟩, ?_, ⟨[], ?_, .nil⟩, by decide, ⟨[], ?_, nw_nil, by decide⟩, lw⟩ stay
    · rw [upd_ne npz.symm, upd_ne npz.symm, upd_ne zn, upd_ne npz.symm, upd_ne zw]; exact b2
    · rw [upd_ne pl.symm, upd_ne pl.symm, upd_ne ln, upd_ne pl.symm, upd_ne lw]; exact b3
    · rcases hba with (e | ⟨o, e⟩) | e
      · exact .inl (.inl (stay _ _ e (fun z => by subst z; rw [hp] at e; cases e)))
      · exact .inl (.inr ⟨o, stay _ _ e (fun z => by subst z; rw [hp] at e; cases e)⟩)
      · exact .inr e
    · unfold blankS; rw [List.length_replicate]; omega
    · rw [upd_ne pw.symm, upd_ne pw.symm, upd_ne wn, upd_ne pw.symm, upd_same]
    · rw [upd_ne pn.symm, upd_ne pn.symm, upd_same]
end
end Tk16

namespace Tk16
open PySem PySem.Spec PyProof.Rows L2 Tk
/-- a disk's addresses and what it holds -/
structure DS where
  p : Addr
  z : Addr
  l : Addr
  wl : Addr
  nl : Addr
  s : Int
  b : Int
  st : List (List Int)
  wt : List (Int × List Int)
  fu : Option Int
abbrev DA (K : PySem.W.Frag) (C : Addr) (H : Hp) (D : DS) : Prop := DiskAt K C H D.p D.z D.l D.wl D.nl D.s D.b D.st D.wt D.fu
abbrev DS.many (D : DS) : Int := manyI D.s D.b
def DS.read (D : DS) (pl : Int) : List Int := (lastW D.wt pl).getD (D.st.getD pl.toNat [])
theorem pairedLen {α β : Type} {F : α → β → Prop} : ∀ {xs : List α} {ys : List β}, Paired F xs ys → xs.length = ys.length
  | _, _, .nil => rfl
  | _, _, .cons _ t => by rw [List.length_cons, List.length_cons, pairedLen t]
theorem pairedGet {α β : Type} {F : α → β → Prop} : ∀ {xs : List α} {ys : List β} {i : Nat}, Paired F xs ys → i < ys.length → ∃ x y, xs[i]? = some x ∧ ys[i]? = some y ∧ F x y
  | _, _, _, .nil, h => absurd h (Nat.not_lt_zero _)
  | _, _, 0, .cons r t, _ => ⟨_, _, rfl, rfl, r⟩
  | _, _, i + 1, .cons r t, h => by
    obtain ⟨x, y, h1, h2, h3⟩ := pairedGet (i := i) t (Nat.lt_of_succ_lt_succ h)
    exact ⟨x, y, by simpa using h1, by simpa using h2, h3⟩
def spDSizes (K : PySem.W.Frag) (C : Addr) : Sp := fun vs H Q _ => ∃ D : DS, vs = [.ref D.p] ∧ DA K C H D ∧ Q (.ref D.z) H
def spDMany (K : PySem.W.Frag) (C : Addr) : Sp := fun vs H Q _ => ∃ D : DS, vs = [.ref D.p] ∧ DA K C H D ∧ Q (.int D.many) H
def spCheck (K : PySem.W.Frag) (C : Addr) : Sp := fun vs H Q _ => ∃ (D : DS) (pl : Int), vs = [.ref D.p, .int pl] ∧ DA K C H D ∧ 0 ≤ pl ∧ pl < D.many ∧ Q .non H
def spRead (K : PySem.W.Frag) (C : Addr) : Sp := fun vs H Q _ => ∃ (D : DS) (pl : Int), vs = [.ref D.p, .int pl] ∧ DA K C H D ∧ 0 ≤ pl ∧ pl < D.many ∧ ∀ y, Blk K H y (D.read pl) → Q y H
def spWaiting (K : PySem.W.Frag) (C : Addr) : Sp := fun vs H Q _ => ∃ (D : DS), vs = [.ref D.p] ∧ DA K C H D ∧ ∀ t ys, H t = none → Paired (Wt K H D.many) ys D.wt → Q (.ref t) (upd H t (.tup ys))
def spStanding (K : PySem.W.Frag) (C : Addr) : Sp := fun vs H Q _ => ∃ (D : DS), vs = [.ref D.p] ∧ DA K C H D ∧ ∀ t ys, H t = none → Blks K H ys D.st → Q (.ref t) (upd H t (.tup ys))
def fuDown : Option Int → Option Int
  | none => none
  | some n => some (n - 1)
section
variable {P : Program} {w : World} {K : PySem.W.Frag} {mg : Str → Option Value} {base : Heap} {C fI ba : Addr}
theorem ok_dsizes (D : MthT K C "sizes" "Disk.sizes" S_Disk_sizes) (T : DT K mg C fI ba) : FnOk P w K mg base CX0 1 D.f D.fd ["self"] (spDSizes K C) := by
  refine D.F.ok sc_Disk_sizes (fun vs H Q E h => ?_) (fun cdv A outer s H vs Q E hr h => ?_)
  · obtain ⟨D, rfl, _⟩ := h
    rfl
  · obtain ⟨D, rfl, ⟨ok, ⟨dx, h1⟩, h2, h3, h4, h5, h6, h7, h8⟩, k⟩ := h
    exact ⟨_, pss_one (ps_ret (pe_fld (pv 0) rfl)), _, rfl, D.p, C, dx, _, _, rfl, h1, T.cl, T.nS, fl_sizes .., k⟩
theorem ok_dmany (D : MthT K C "many" "Disk.many" S_Disk_many) (T : DT K mg C fI ba) (B : Bi mg) : FnOk P w K mg base CX0 1 D.f D.fd ["self"] (spDMany K C) := by
  refine D.F.ok sc_Disk_many (fun vs H Q E h => ?_) (fun cdv A outer s H vs Q E hr h => ?_)
  · obtain ⟨D, rfl, _⟩ := h
    rfl
  · obtain ⟨D, rfl, ⟨ok, ⟨dx, h1⟩, h2, ⟨xs, h3, h3b⟩, h4, h5, h6, h7, h8⟩, k⟩ := h
    refine ⟨_, pss_one (ps_ret (pe_callB call_len_seq (by rfl) B.len PySem.boot_len (pa_cons (pe_fld (pv 0) rfl) pa_nil))), _, rfl, D.p, C, dx, _, _, rfl, h1, T.cl, T.nT, fl_standing .., D.l, xs, rfl, .inl (SqL.of h3), ?_⟩
    rw [pairedLen h3b, h4]
    exact k
theorem ok_check (D : MthT K C "_check_place" "Disk._check_place" S_Disk__check_place) (T : DT K mg C fI ba) (B : Bi mg) (Gw : Cal P w K mg base 2 "is_within" ["thing", "least", "most"] (spWithin K)) :
    FnOk P w K mg base CX0 3 D.f D.fd ["self", "place"] (spCheck K C) := by
  refine D.F.ok sc_Disk__check_place (fun vs H Q E h => ?_) (fun cdv A outer s H vs Q E hr h => ?_)
  · obtain ⟨D, pl, rfl, _⟩ := h
    rfl
  · obtain ⟨D, pl, rfl, ⟨ok, ⟨dx, h1⟩, h2, ⟨xs, h3, h3b⟩, h4, h5, h6, h7, h8⟩, p0, p1, k⟩ := h
    refine ⟨_, pss_one (ps_if (pt_not (pt_val (pc Gw hr (pa_cons (pv 1) (pa_cons pe_int (pa_cons (pe_op op_sub (pe_callB call_len_seq (by rfl) B.len PySem.boot_len (pa_cons (pe_fld (pv 0) rfl) pa_nil)) pe_int) pa_nil)))))) (pss_one ps_never) pss_nil), ?_⟩
    refine ⟨_, rfl, _, rfl, D.p, C, dx, _, _, rfl, h1, T.cl, T.nT, fl_standing .., D.l, xs, rfl, .inl (SqL.of h3), _, _, rfl, rfl, .int pl, "int", 0, _, rfl, Ty.int K H pl, _, rfl, ?_⟩
    have e : isW 0 ((xs.length : Int) - 1) (.int pl) = true := by
      rw [pairedLen h3b, h4]
      have : pl ≤ manyI D.s D.b - 1 := by have := p1; unfold DS.many at this; omega
      simp [isW, p0, this]
    rw [e]
    refine iteF ?_
    exact k
theorem ok_waiting (D : MthT K C "waiting" "Disk.waiting" S_Disk_waiting) (T : DT K mg C fI ba) (Kt : Kn mg) : FnOk P w K mg base CX0 1 D.f D.fd ["self"] (spWaiting K C) := by
  refine D.F.ok sc_Disk_waiting (fun vs H Q E h => ?_) (fun cdv A outer s H vs Q E hr h => ?_)
  · obtain ⟨D, rfl, _⟩ := h
    rfl
  · obtain ⟨D, rfl, ⟨ok, ⟨dx, h1⟩, h2, h3, h4, ⟨ys, h5, h5b⟩, h6, h7, h8⟩, k⟩ := h
    refine ⟨_, pss_one (ps_ret (pe_callTy call_tuple_of (by rfl) Kt.tuple boot_tuple (pa_cons (pe_fld (pv 0) rfl) pa_nil))), _, rfl, D.p, C, dx, _, _, rfl, h1, T.cl, T.nW, fl_waiting .., D.wl, ys, rfl, .inl ⟨SqL.of h5, fun t ht => k t ys ht h5b⟩⟩
theorem ok_standing (D : MthT K C "standing" "Disk.standing" S_Disk_standing) (T : DT K mg C fI ba) (Kt : Kn mg) : FnOk P w K mg base CX0 1 D.f D.fd ["self"] (spStanding K C) := by
  refine D.F.ok sc_Disk_standing (fun vs H Q E h => ?_) (fun cdv A outer s H vs Q E hr h => ?_)
  · obtain ⟨D, rfl, _⟩ := h
    rfl
  · obtain ⟨D, rfl, ⟨ok, ⟨dx, h1⟩, h2, ⟨xs, h3, h3b⟩, h4, h5, h6, h7, h8⟩, k⟩ := h
    refine ⟨_, pss_one (ps_ret (pe_callTy call_tuple_of (by rfl) Kt.tuple boot_tuple (pa_cons (pe_fld (pv 0) rfl) pa_nil))), _, rfl, D.p, C, dx, _, _, rfl, h1, T.cl, T.nT, fl_standing .., D.l, xs, rfl, .inl ⟨SqL.of h3, fun t ht => k t xs ht h3b⟩⟩
theorem ok_read (D : MthT K C "read" "Disk.read" S_Disk_read) (T : DT K mg C fI ba) (Mc : MCal P w K mg base C 3 "_check_place" ["self", "place"] (spCheck K C)) : FnOk P w K mg base CX0 4 D.f D.fd ["self", "place"] (spRead K C) := by
  refine D.F.ok sc_Disk_read (fun vs H Q E h => ?_) (fun cdv A outer s H vs Q E hr h => ?_)
  · obtain ⟨D, pl, rfl, _⟩ := h
    rfl
  · obtain ⟨D, pl, rfl, DD, p0, p1, k⟩ := h
    have hu := hu_of hr
    obtain ⟨ok, ⟨dx, h1⟩, h2, ⟨xs, h3, h3b⟩, h4, h5, h6, ⟨kvs, h7, h7b, h7c⟩, h8⟩ := id DD
    refine ⟨_, pss_cons (ps_expr (pm T.cl Mc hr (pv 0) (pa_cons (pv 1) pa_nil)))
      (pss_one (ps_ret (pe_ifExp (pt_cmp (pc_din hu (pv 1) (pe_fld (pv 0) rfl))) (pe_dget hu (pe_fld (pv 0) rfl) (pv 1) (fun _ _ => rfl)) (pe_ix ix_list (pe_fld (pv 0) rfl) (pv 1) (fun _ _ => rfl))))), ?_⟩
    refine ⟨_, rfl, D.p, dx, _, rfl, h1, rfl, _, rfl, D, pl, rfl, DD, p0, p1, ?_⟩
    have q := h7b pl
    refine ⟨_, rfl, _, rfl, D.p, C, dx, _, _, rfl, h1, T.cl, T.nN, fl_newest .., D.nl, _, rfl, DGet.k (k := Sum.inl pl) h7, _, rfl, ?_⟩
    revert q
    cases e : lastW D.wt pl with
    | none =>
      intro q
      rw [q]
      refine iteF ?_
      have hlt : pl.toNat < D.st.length := by have := p1; unfold DS.many at this; omega
      obtain ⟨y, ws, g1, g2, g3⟩ := pairedGet h3b hlt
      refine ⟨_, rfl, D.p, C, dx, _, _, rfl, h1, T.cl, T.nT, fl_standing .., _, rfl, D.l, xs, pl, y, rfl, rfl, SqL.of h3, at_of (j := pl.toNat) (by omega) g1, ?_⟩
      refine k y ?_
      have e2 : D.read pl = ws := by
        unfold DS.read
        rw [e]
        show D.st.getD pl.toNat [] = ws
        rw [List.getD_eq_getElem?_getD, g2]; rfl
      rw [e2]; exact g3
    | some ws =>
      rintro ⟨y, q, qb⟩
      have q' := q
      rw [q]
      refine iteT ?_
      refine ⟨_, rfl, D.p, C, dx, _, _, rfl, h1, T.cl, T.nN, fl_newest .., _, rfl, D.nl, y, rfl, ?_, ?_⟩
      · rw [← q']; exact DGet.k (k := Sum.inl pl) h7
      · refine k y ?_
        have e2 : D.read pl = ws := by
          unfold DS.read
          rw [e]; rfl
        rw [e2]; exact qb
end
end Tk16

namespace Tk16
open PySem PySem.Spec PyProof.Rows L2 Tk
def fuOk (f : Option Int) : Prop := ∀ n, f = some n → 0 < n
def spBurn (K : PySem.W.Frag) (C : Addr) : Sp := fun vs H Q _ => ∃ (D : DS), vs = [.ref D.p] ∧ DA K C H D ∧ fuOk D.fu ∧
  ∀ H', DA K C H' { D with fu := fuDown D.fu } → But [D.p] H H' → TupSame H H' → Q .non H'
def spIsBlk (K : PySem.W.Frag) : Sp := fun vs H Q _ => ∃ (x : V) (ws : List Int), vs = [x] ∧ Blk K H x ws ∧ ∀ H', Same H H' → Q (.bl true) H'
def spWrite (K : PySem.W.Frag) (C : Addr) : Sp := fun vs H Q _ => ∃ (D : DS) (pl : Int) (y : V) (ws : List Int), vs = [.ref D.p, .int pl, y] ∧ DA K C H D ∧ 0 ≤ pl ∧ pl < D.many ∧ Blk K H y ws ∧ fuOk D.fu ∧ D.wt.length < 900 ∧
  ∀ H', DA K C H' { D with wt := D.wt ++ [(pl, ws)], fu := fuDown D.fu } → But [D.p, D.wl, D.nl] H H' → TupSame H H' → Q .non H'
theorem lastW_app (wt : List (Int × List Int)) (pl q : Int) (ws : List Int) : lastW (wt ++ [(pl, ws)]) q = if q = pl then some ws else lastW wt q := by
  unfold lastW
  rw [List.reverse_append]
  show (List.find? _ ((pl, ws) :: wt.reverse)).map _ = _
  rw [List.find?_cons]
  by_cases e : pl = q
  · subst e; simp
  · have e2 : ¬ q = pl := fun z => e z.symm
    simp [e, e2]
theorem Nw.app {K : PySem.W.Frag} {H : Hp} {kvs : List (Key × V)} {wt : List (Int × List Int)} {pl : Int} {y : V} {ws : List Int} (h : Nw K H kvs wt) (hb : Blk K H y ws) : Nw K H (putK kvs (Sum.inl pl) y) (wt ++ [(pl, ws)]) := fun q => by
  rw [lastW_app, valV_put]
  by_cases e : q = pl
  · rw [if_pos e, if_pos (by rw [e])]
    exact ⟨y, rfl, hb⟩
  · rw [if_neg e, if_neg (fun z => e (Sum.inl.inj z))]
    exact h q
theorem pairedApp {α β : Type} {F : α → β → Prop} {x : α} {y : β} (r : F x y) : ∀ {xs : List α} {ys : List β}, Paired F xs ys → Paired F (xs ++ [x]) (ys ++ [y])
  | _, _, .nil => .cons r .nil
  | _, _, .cons q t => .cons q (pairedApp r t)
section
variable {P : Program} {w : World} {K : PySem.W.Frag} {mg : Str → Option Value} {base : Heap} {C fI ba : Addr}
theorem ok_burn (D : MthT K C "_burn" "Disk._burn" S_Disk__burn) (T : DT K mg C fI ba) : FnOk P w K mg base CX0 1 D.f D.fd ["self"] (spBurn K C) := by
  refine D.F.ok sc_Disk__burn (fun vs H Q E h => ?_) (fun cdv A outer s H vs Q E hr h => ?_)
  · obtain ⟨D, rfl, _⟩ := h
    rfl
  · obtain ⟨D, rfl, DD, hf, k⟩ := h
    obtain ⟨ok, ⟨dx, h1⟩, h2, ⟨xs, h3, h3b⟩, h4, ⟨ys, h5, h5b⟩, h6, ⟨kvs, h7, h7b, h7c⟩, h8⟩ := id DD
    refine ⟨_, pss_cons (ps_if (pt_cmpR op_isN (pe_fld (pv 0) rfl) pe_non (nomark _)) (pss_one ps_retN) pss_nil)
      (pss_cons (ps_if (pt_cmpR op_eq (pe_fld (pv 0) rfl) pe_int (nomark _)) (pss_one ps_never) pss_nil)
      (pss_one (ps_fldaug (pv 0) pe_int in_sub))), ?_⟩
    refine ⟨_, rfl, D.p, C, dx, _, _, rfl, h1, T.cl, T.nF, fl_fuse .., rfl, _, rfl, ?_⟩
    cases ef : D.fu with
    | none =>
      refine iteT ?_
      refine k H ?_ But.refl TupSame.refl
      have e : fuDown D.fu = D.fu := by rw [ef]; rfl
      show DiskAt K C H D.p D.z D.l D.wl D.nl D.s D.b D.st D.wt (fuDown D.fu)
      rw [e]; exact DD
    | some n =>
      have n0 := hf n ef
      rw [ef] at h1
      refine iteF ?_
      refine ⟨_, rfl, D.p, C, dx, _, _, rfl, h1, T.cl, T.nF, fl_fuse .., rfl, _, rfl, ?_⟩
      have ne : ¬ V.int n = V.int 0 := fun z => by injection z with z; omega
      rw [show decide (fuV (some n) = V.int 0) = false from decide_eq_false ne]
      refine iteF ?_
      refine ⟨_, rfl, D.p, C, dx, _, _, rfl, h1, T.cl, T.nF, fl_fuse .., _, _, rfl, rfl, _, _, h1, (by show 5 < 1000; decide), ?_⟩
      have ts : TupSame H (upd H D.p (.ins C dx (fl D.z D.l D.wl D.nl (V.int (n - 1))))) := TupSame.put h1 (fun xs z => by cases z) (fun ob u z => by cases z)
      have e : fuDown D.fu = some (n - 1) := by rw [ef]; rfl
      refine k _ ?_ (But.put (by simp)) ts
      show DiskAt K C _ D.p D.z D.l D.wl D.nl D.s D.b D.st D.wt (fuDown D.fu)
      rw [e]
      refine ⟨ok, ⟨dx, upd_same⟩, ?_, ⟨xs, ?_, h3b.tup ts⟩, h4, ⟨ys, ?_, Paired.mapP h5b fun _ _ q => q.tup ts⟩, h6, ⟨kvs, ?_, h7b.tup ts, h7c⟩, h8⟩
      · rw [fl_pf, upd_ne (ne_of h2 h1 (by intro z; cases z))]; exact h2
      · rw [fl_pf, upd_ne (ne_of h3 h1 (by intro z; cases z))]; exact h3
      · rw [fl_pf, upd_ne (ne_of h5 h1 (by intro z; cases z))]; exact h5
      · rw [fl_pf, upd_ne (ne_of h7 h1 (by intro z; cases z))]; exact h7
theorem ok_isblk (D : DefT K mg "is_block" S_is_block) (T : DT K mg C fI ba) (Kt : Kn mg) (Gw : Cal P w K mg base 4 "are_words" ["thing"] (spWords K)) : FnOk P w K mg base CX0 5 D.f D.fd ["thing"] (spIsBlk K) := by
  refine D.F.ok sc_is_block (fun vs H Q E h => ?_) (fun cdv A outer s H vs Q E hr h => ?_)
  · obtain ⟨x, ws, rfl, _⟩ := h
    rfl
  · obtain ⟨x, ws, rfl, ⟨a, rfl, ha, hl, hw⟩, k⟩ := h
    obtain ⟨t5, c5⟩ := T.c5
    refine ⟨_, pss_one (ps_ret (pe_and (pc Gw hr (pa_cons (pv 0) pa_nil)) (pe_one (pe_cmpR op_eq (pe_callB call_len_seq (by rfl) Kt.len PySem.boot_len (pa_cons (pv 0) pa_nil)) (pe_glob (v := .int 32) rfl c5 ⟨_, rfl⟩) (nomark _))))), ?_⟩
    refine ⟨_, rfl, .ref a, rfl, .inl ⟨a, _, rfl, ha, by rw [List.length_map, hl]; decide, fun y hy => ?_, fun H' s' => ?_⟩⟩
    · obtain ⟨z, _, rfl⟩ := List.mem_map.mp hy
      exact ⟨_, Ty.int K H z⟩
    · have e : (ws.map V.int).all (isW 0 1000000000) = true := by
        rw [List.all_eq_true]
        intro y hy
        obtain ⟨z, hz, rfl⟩ := List.mem_map.mp hy
        have := hw z hz
        simp [isW, this.1, this.2]
      rw [e]
      refine ⟨_, rfl, iteT ?_⟩
      refine ⟨_, rfl, a, _, rfl, .inr (sameT s' ha), rfl, ?_⟩
      rw [List.length_map, hl]
      exact k H' s'
theorem ok_write (D : MthT K C "write" "Disk.write" S_Disk_write) (T : DT K mg C fI ba) (Mc : MCal P w K mg base C 3 "_check_place" ["self", "place"] (spCheck K C)) (Mb : MCal P w K mg base C 1 "_burn" ["self"] (spBurn K C))
    (Gb : Cal P w K mg base 5 "is_block" ["thing"] (spIsBlk K)) : FnOk P w K mg base CX0 6 D.f D.fd ["self", "place", "block"] (spWrite K C) := by
  refine D.F.ok sc_Disk_write (fun vs H Q E h => ?_) (fun cdv A outer s H vs Q E hr h => ?_)
  · obtain ⟨D, pl, y, ws, rfl, _⟩ := h
    rfl
  · obtain ⟨D, pl, y, ws, rfl, DD, p0, p1, hb, hf, hl, k⟩ := h
    have hu := hu_of hr
    refine ⟨_, pss_cons (ps_expr (pm T.cl Mc hr (pv 0) (pa_cons (pv 1) pa_nil)))
      (pss_cons (ps_if (pt_not (pt_val (pc Gb hr (pa_cons (pv 2) pa_nil)))) (pss_one ps_never) pss_nil)
      (pss_cons (ps_expr (pm0 T.cl Mb hr (pv 0)))
      (pss_cons (ps_expr (pe_bm PySem.F.plainAttrs_list PySem.F.slot_list_append PySem.F.type_list_append mt_append (pe_fld (pv 0) rfl) (pa_cons (pe_tup (pa_cons (pv 1) (pa_cons (pv 2) pa_nil))) pa_nil)))
      (pss_one (ps_dput hu (pe_fld (pv 0) rfl) (pv 1) (pv 2) rfl))))), ?_⟩
    obtain ⟨dx0, h10⟩ := DD.ob
    refine ⟨_, rfl, D.p, dx0, _, rfl, h10, rfl, _, rfl, D, pl, rfl, DD, p0, p1, ?_⟩
    refine ⟨_, rfl, y, ws, rfl, hb, fun H1 s1 => ⟨_, rfl, iteF ?_⟩⟩
    have DD1 := DD.same s1
    obtain ⟨dx1, h11⟩ := DD1.ob
    refine ⟨_, rfl, D.p, dx1, _, rfl, h11, rfl, D, rfl, DD1, hf, fun H2 DD2 b2 t2 => ?_⟩
    obtain ⟨ok, ⟨dx, h1⟩, h2, ⟨xs, h3, h3b⟩, h4, ⟨ys, h5, h5b⟩, h6, ⟨kvs, h7, h7b, h7c⟩, h8⟩ := id DD2
    have hb2 : Blk K H2 y ws := (hb.same s1).tup t2
    refine ⟨_, rfl, D.p, C, dx, _, _, rfl, h1, T.cl, T.nW, fl_waiting .., .inl ⟨rfl, _, SqL.of h5⟩, _, rfl, _, rfl, (by show 2 ≤ sizeLine; decide), fun t ht => ?_⟩
    have n1 : D.p ≠ t := ne_of_none h1 ht
    have n2 : D.z ≠ t := ne_of_none h2 ht
    have n3 : D.l ≠ t := ne_of_none h3 ht
    have n4 : D.wl ≠ t := ne_of_none h5 ht
    have n5 : D.nl ≠ t := ne_of_none h7 ht
    have m1 : D.p ≠ D.wl := ne_of h1 h5 (by intro z; cases z)
    have m2 : D.z ≠ D.wl := ne_of h2 h5 (by intro z; cases z)
    have m3 : D.nl ≠ D.wl := ne_of h7 h5 (by intro z; cases z)
    have m4 : D.p ≠ D.nl := ne_of h1 h7 (by intro z; cases z)
    have m5 : D.z ≠ D.nl := ne_of h2 h7 (by intro z; cases z)
    have m6 : D.l ≠ D.nl := ne_of h3 h7 (by intro z; cases z)
    have yl : ys.length = D.wt.length := pairedLen h5b
    refine ⟨D.wl, ys, _, rfl, rfl, by rw [upd_ne n4]; exact h5, small1000 (by omega), ?_⟩
    refine ⟨_, rfl, _, rfl, D.p, C, dx, _, _, rfl, by rw [upd_ne m1, upd_ne n1]; exact h1, T.cl, T.nN, fl_newest .., _, rfl, D.nl, _, rfl, DPut.k (k := Sum.inl pl) (by rw [upd_ne m3, upd_ne n5]; exact h7) (small1000 (by have q : kvs.length ≤ D.wt.length := h7c; omega)), ?_⟩
    have t3 : TupSame H2 (upd H2 t (.tup [V.int pl, y])) := TupSame.of (Same.new ht)
    have t4 : TupSame (upd H2 t (.tup [V.int pl, y])) (upd (upd H2 t (.tup [V.int pl, y])) D.wl (.lst (ys ++ [.ref t]))) := TupSame.put (by rw [upd_ne n4]; exact h5) (fun xs z => by cases z) (fun ob u z => by cases z)
    have t5 : TupSame (upd (upd H2 t (.tup [V.int pl, y])) D.wl (.lst (ys ++ [.ref t]))) (upd (upd (upd H2 t (.tup [V.int pl, y])) D.wl (.lst (ys ++ [.ref t]))) D.nl (.dK (putK kvs (Sum.inl pl) y))) :=
      TupSame.put (by rw [upd_ne m3, upd_ne n5]; exact h7) (fun xs z => by cases z) (fun ob u z => by cases z)
    have tt := (t3.trans t4).trans t5
    have m7 : D.l ≠ D.wl := h8
    refine k _ ?_ ?_ (((TupSame.of s1).trans t2).trans tt)
    · refine ⟨ok, ⟨dx, ?_⟩, ?_, ⟨xs, ?_, h3b.tup tt⟩, h4, ⟨ys ++ [.ref t], ?_, pairedApp ?_ (Paired.mapP h5b fun _ _ q => q.tup tt)⟩, ?_, ⟨_, upd_same, (h7b.tup tt).app (hb2.tup tt), ?_⟩, h8⟩
      · rw [upd_ne m4, upd_ne m1, upd_ne n1]; exact h1
      · rw [upd_ne m5, upd_ne m2, upd_ne n2]; exact h2
      · rw [upd_ne m6, upd_ne m7, upd_ne n3]; exact h3
      · rw [upd_ne m3.symm, upd_same]
      · have tn : t ≠ D.nl := n5.symm
        have tw : t ≠ D.wl := n4.symm
        exact ⟨t, y, rfl, SqT.of (by rw [upd_ne tn, upd_ne tw, upd_same]), hb2.tup tt, p0, p1⟩
      · rw [List.length_append, List.length_singleton]; have q : D.wt.length < 900 := hl; omega
      · have q1 := length_putK kvs (Sum.inl pl) y
        have q2 : kvs.length ≤ D.wt.length := h7c
        rw [List.length_append, List.length_singleton]; omega
    · intro c o e hc
      simp only [List.mem_cons, List.not_mem_nil, or_false, not_or] at hc
      have e2 := b2 c o (s1 c o e) (by simp [hc.1])
      rw [upd_ne hc.2.2, upd_ne hc.2.1, upd_ne (ne_of_none e2 ht)]; exact e2
end
end Tk16

namespace Tk16
open PySem PySem.Spec PyProof.Rows L2 Tk
/-- the blocks that stand behind the writes -/
def forcedS (st : List (List Int)) (wt : List (Int × List Int)) : List (List Int) := wt.foldl (fun st q => st.set q.1.toNat q.2) st
theorem forcedS_len : ∀ (wt : List (Int × List Int)) (st : List (List Int)), (forcedS st wt).length = st.length
  | [], _ => rfl
  | q :: r, st => by
    show (forcedS (st.set q.1.toNat q.2) r).length = st.length
    rw [forcedS_len r, List.length_set]
theorem forcedS_next {wt : List (Int × List Int)} {st : List (List Int)} {i : Nat} {q : Int × List Int} (h : wt[i]? = some q) : forcedS st (wt.take (i + 1)) = (forcedS st (wt.take i)).set q.1.toNat q.2 := by
  unfold forcedS
  rw [List.take_add_one, h, List.foldl_append]
  rfl
theorem pairedSet {α β : Type} {F : α → β → Prop} {x : α} {y : β} (r : F x y) : ∀ {xs : List α} {ys : List β} (i : Nat), Paired F xs ys → Paired F (xs.set i x) (ys.set i y)
  | _, _, _, .nil => .nil
  | _, _, 0, .cons _ t => .cons r t
  | _, _, i + 1, .cons q t => .cons q (pairedSet r i t)
theorem ixN_at {n : Nat} {pl : Int} (h0 : 0 ≤ pl) (h1 : pl < n) : ixN n pl = some pl.toNat := by
  unfold ixN
  rw [if_pos h0, if_pos h1]
def spNone (K : PySem.W.Frag) (C : Addr) : Sp := fun vs H Q _ => ∃ (D : DS), vs = [.ref D.p] ∧ DA K C H D ∧
  ∀ wl' nl' H', H wl' = none → H nl' = none → DA K C H' { D with wl := wl', nl := nl', wt := [] } → But [D.p] H H' → TupSame H H' → Q .non H'
def spForce (K : PySem.W.Frag) (C : Addr) : Sp := fun vs H Q _ => ∃ (D : DS), vs = [.ref D.p] ∧ DA K C H D ∧ fuOk D.fu ∧
  ∀ wl' nl' H', H wl' = none → H nl' = none → DA K C H' { D with wl := wl', nl := nl', wt := [], st := forcedS D.st D.wt, fu := fuDown D.fu } → But [D.p, D.l] H H' → TupSame H H' → Q .non H'
section
variable {P : Program} {w : World} {K : PySem.W.Frag} {mg : Str → Option Value} {base : Heap} {C fI ba : Addr}
theorem ok_wnone (D : MthT K C "_wait_for_none" "Disk._wait_for_none" S_Disk__wait_for_none) (T : DT K mg C fI ba) : FnOk P w K mg base CX0 1 D.f D.fd ["self"] (spNone K C) := by
  refine D.F.ok sc_Disk__wait_for_none (fun vs H Q E h => ?_) (fun cdv A outer s H vs Q E hr h => ?_)
  · obtain ⟨D, rfl, _⟩ := h
    rfl
  · obtain ⟨D, rfl, DD, k⟩ := h
    obtain ⟨ok, ⟨dx, h1⟩, h2, ⟨xs, h3, h3b⟩, h4, ⟨ys, h5, h5b⟩, h6, ⟨kvs, h7, h7b, h7c⟩, h8⟩ := id DD
    refine ⟨_, pss_cons (ps_fld (pv 0) (pe_lst pa_nil) rfl) (pss_one (ps_fld (pv 0) pe_dnewK rfl)), ?_⟩
    refine ⟨(by show 0 ≤ sizeLine; decide), fun wl hw => ?_⟩
    have pw : D.p ≠ wl := ne_of_none h1 hw
    refine ⟨_, rfl, D.p, C, dx, _, rfl, by rw [upd_ne pw]; exact h1, T.cl, T.nW, (by show 5 < 1000; decide), ?_⟩
    intro nl hn
    have pn : D.p ≠ nl := fun e => by rw [← e, upd_same] at hn; cases hn
    have wn : wl ≠ nl := fun e => by rw [← e, upd_ne pw.symm, upd_same] at hn; cases hn
    have hn2 : H nl = none := by rw [upd_ne pn.symm, upd_ne wn.symm] at hn; exact hn
    refine ⟨_, rfl, D.p, C, dx, _, rfl, by rw [upd_ne pn]; exact upd_same, T.cl, T.nN, (by show 5 < 1000; decide), ?_⟩
    have t1 : TupSame H (upd H wl (.lst [])) := TupSame.of (Same.new hw)
    have t2 : TupSame (upd H wl (.lst [])) (upd (upd H wl (.lst [])) D.p (.ins C dx (fl D.z D.l wl D.nl (fuV D.fu)))) := TupSame.put (by rw [upd_ne pw]; exact h1) (fun xs z => by cases z) (fun ob u z => by cases z)
    have t3 := t2.trans (TupSame.of (Same.new (o := .dK []) hn))
    have t4 := t3.trans (TupSame.put (q := D.p) (o := .ins C dx (fl D.z D.l wl D.nl (fuV D.fu))) (o' := .ins C dx (fl D.z D.l wl nl (fuV D.fu))) (by rw [upd_ne pn, upd_same]) (fun xs z => by cases z) (fun ob u z => by cases z))
    have tt := t1.trans t4
    have zp : D.z ≠ D.p := ne_of h2 h1 (by intro z; cases z)
    have lp : D.l ≠ D.p := ne_of h3 h1 (by intro z; cases z)
    have zw : D.z ≠ wl := ne_of_none h2 hw
    have lw : D.l ≠ wl := ne_of_none h3 hw
    have zn : D.z ≠ nl := ne_of_none h2 hn2
    have ln : D.l ≠ nl := ne_of_none h3 hn2
    refine k wl nl _ hw hn2 ⟨ok, ⟨dx, upd_same⟩, ?_, ⟨xs, ?_, h3b.tup tt⟩, h4, ⟨[], ?_, .nil⟩, Nat.zero_le _, ⟨[], ?_, nw_nil, Nat.zero_le _⟩, lw⟩ ?_ tt
    · show upd _ _ _ D.z = _
      rw [upd_ne zp, upd_ne zn, upd_ne zp, upd_ne zw]; exact h2
    · show upd _ _ _ D.l = _
      rw [upd_ne lp, upd_ne ln, upd_ne lp, upd_ne lw]; exact h3
    · show upd _ _ _ wl = _
      rw [upd_ne pw.symm, upd_ne wn, upd_ne pw.symm, upd_same]
    · show upd _ _ _ nl = _
      rw [upd_ne pn.symm, upd_same]
    · intro c o e hc
      have cp : c ≠ D.p := fun z => hc (by simp [z])
      rw [upd_ne cp, upd_ne (ne_of_none e hn2), upd_ne cp, upd_ne (ne_of_none e hw)]; exact e
theorem ok_force (D : MthT K C "force" "Disk.force" S_Disk_force) (T : DT K mg C fI ba) (Mb : MCal P w K mg base C 1 "_burn" ["self"] (spBurn K C)) (Mn : MCal P w K mg base C 1 "_wait_for_none" ["self"] (spNone K C)) :
    FnOk P w K mg base CX0 2 D.f D.fd ["self"] (spForce K C) := by
  refine D.F.ok sc_Disk_force (fun vs H Q E h => ?_) (fun cdv A outer s H vs Q E hr h => ?_)
  · obtain ⟨D, rfl, _⟩ := h
    rfl
  · obtain ⟨D, rfl, DD, hf, k⟩ := h
    have nd := sc_Disk_force.nd
    refine ⟨_, pss_cons (ps_expr (pm0 T.cl Mb hr (pv 0)))
      (pss_cons (ps_for PassesOwn.never rfl (pi_list (pe_fld (pv 0) rfl)) (pg_tup rfl (pgs_cons (pg_name (i := 1) nd rfl (Or.inl rfl)) (pgs_cons (pg_name (i := 2) nd rfl (Or.inl rfl)) pgs_nil)))
        (pss_one (ps_asg (pv 2) (pg_sub (pe_fld (pv 0) rfl) (pv 1) set_list))))
      (pss_one (ps_expr (pm0 T.cl Mn hr (pv 0))))), ?_⟩
    obtain ⟨dx0, h10⟩ := DD.ob
    refine ⟨_, rfl, D.p, dx0, _, rfl, h10, rfl, D, rfl, DD, hf, fun H1 DD1 b1 t1 => ?_⟩
    obtain ⟨ok, ⟨dx, h1⟩, h2, ⟨xs, h3, h3b⟩, h4, ⟨ys, h5, h5b⟩, h6, ⟨kvs, h7, h7b, h7c⟩, h8⟩ := id DD1
    refine ⟨_, rfl, D.p, C, dx, _, _, rfl, h1, T.cl, T.nW, fl_waiting .., D.wl, rfl, ⟨_, SqL.of h5⟩, ?_⟩
    have lw : D.l ≠ D.wl := h8
    have pl0 : D.p ≠ D.l := ne_of h1 h3 (by intro z; cases z)
    have zl0 : D.z ≠ D.l := ne_of h2 h3 (by intro z; cases z)
    have nl0 : D.nl ≠ D.l := ne_of h7 h3 (by intro z; cases z)
    refine for_list (K := K) (a := D.wl) (xs := ys) (fun i σ H2 => ∃ (v1 v2 : Option V) (zs : List V), σ = [some (.ref D.p), v1, v2] ∧ H2 D.l = some (.lst zs) ∧ Blks K H2 zs (forcedS D.st (D.wt.take i)) ∧ But [D.l] H1 H2 ∧ TupSame H1 H2)
      ⟨none, none, xs, rfl, h3, h3b, But.refl, TupSame.refl⟩ (fun i σ H2 _ ⟨_, _, _, _, _, _, b2, _⟩ => SqL.of (b2 _ _ h5 (by simp [lw.symm]))) ?_ ?_
    · rintro i y σ H2 hi ⟨v1, v2, zs, rfl, g1, g2, b2, t2⟩
      have hil : i < D.wt.length := by
        have q := (List.getElem?_eq_some_iff.mp hi).1
        rw [pairedLen h5b] at q
        exact q
      obtain ⟨y', q, e1, e2, hw⟩ := pairedGet h5b hil
      rw [hi] at e1
      cases e1
      obtain ⟨t, yb, rfl, g3, g4, g5, g6⟩ := hw
      have e3 : zs.length = D.st.length := by rw [pairedLen g2, forcedS_len]
      have e4 : (D.st.length : Int) = manyI D.s D.b := h4
      refine ⟨t, _, rfl, tupT t2 g3, rfl, ?_⟩
      have g6' : q.1 < manyI D.s D.b := g6
      have e5 : q.1 < (zs.length : Int) := by rw [e3, e4]; exact g6'
      refine ⟨_, _, rfl, _, _, rfl, rfl, ?_⟩
      refine ⟨_, rfl, _, rfl, D.p, C, dx, _, _, rfl, b2 _ _ h1 (by simp [pl0]), T.cl, T.nT, fl_standing .., _, rfl, D.l, zs, q.1, q.1.toNat, rfl, rfl, g1, ixN_at g5 e5, ?_⟩
      have t3 : TupSame H2 (upd H2 D.l (.lst (zs.set q.1.toNat yb))) := TupSame.put g1 (fun xs z => by cases z) (fun ob u z => by cases z)
      refine ⟨_, _, zs.set q.1.toNat yb, rfl, upd_same, ?_, b2.trans (But.put (by simp)), t2.trans t3⟩
      rw [forcedS_next e2]
      exact pairedSet ((g4.tup t2).tup t3) _ (g2.tup t3)
    · rintro σ H2 ⟨v1, v2, zs, rfl, g1, g2, b2, t2⟩
      rw [pairedLen h5b, List.take_length] at g2
      have h12 := b2 _ _ h1 (by simp [pl0])
      refine ⟨_, rfl, D.p, dx, _, rfl, h12, rfl, { D with st := forcedS D.st D.wt, fu := fuDown D.fu }, rfl, ?_, fun wl' nl' H' n1 n2 D' b3 t3 => ?_⟩
      · exact ⟨ok, ⟨dx, h12⟩, b2 _ _ h2 (by simp [zl0]), ⟨zs, g1, g2⟩, by show (((forcedS D.st D.wt).length : Nat) : Int) = _; rw [forcedS_len]; exact h4,
          ⟨ys, b2 _ _ h5 (by simp [lw.symm]), Paired.mapP h5b fun _ _ q => q.tup t2⟩, h6, ⟨kvs, b2 _ _ h7 (by simp [nl0]), h7b.tup t2, h7c⟩, h8⟩
      · have fr : ∀ {c : Addr}, c ≠ D.p → c ≠ D.l → H2 c = none → H c = none := fun {c} n1 n2 e => by
          cases q : H c with
          | none => rfl
          | some u => rw [b2 c u (b1 c u q (by simp [n1])) (by simp [n2])] at e; cases e
        have l2 : H2 D.l ≠ none := by rw [g1]; exact nofun
        have p2 : H2 D.p ≠ none := by rw [h12]; exact nofun
        refine k wl' nl' H' (fr (fun z => p2 (by rw [← z]; exact n1)) (fun z => l2 (by rw [← z]; exact n1)) n1) (fr (fun z => p2 (by rw [← z]; exact n2)) (fun z => l2 (by rw [← z]; exact n2)) n2) D' ?_ ((t1.trans t2).trans t3)
        intro c o e hc
        simp only [List.mem_cons, List.not_mem_nil, or_false, not_or] at hc
        exact b3 c o (b2 c o (b1 c o e (by simp [hc.1])) (by simp [hc.2])) (by show c ∉ [D.p]; simp [hc.1])
end
end Tk16

namespace Tk16
open PySem PySem.Spec PyProof.Rows L2 Tk
def placeI (s b seg off : Int) : Int := 2 * areaI s b + seg * b + off
theorem placeI_ok {s b seg off : Int} (ok : SizeOk s b) (h0 : 0 ≤ seg) (h1 : seg < s) (h2 : 0 ≤ off) (h3 : off < b) : 0 ≤ placeI s b seg off ∧ placeI s b seg off < manyI s b := by
  have a := ok.area
  obtain ⟨k1, k2, k3, k4⟩ := ok
  have p0 : 0 ≤ seg * b := Int.mul_nonneg h0 (by omega)
  have p1 : seg * b ≤ (s - 1) * b := Int.mul_le_mul_of_nonneg_right (by omega) (by omega)
  have p2 : (s - 1) * b = s * b - b := by rw [Int.sub_mul, Int.one_mul]
  unfold placeI manyI
  omega
def spPlaceAt (K : PySem.W.Frag) (C : Addr) : Sp := fun vs H Q _ => ∃ (D : DS) (seg off : Int), vs = [.ref D.p, .int seg, .int off] ∧ DA K C H D ∧ 0 ≤ seg ∧ seg < D.s ∧ 0 ≤ off ∧ off < D.b ∧ Q (.int (placeI D.s D.b seg off)) H
def spPlace (K : PySem.W.Frag) : Sp := fun vs H Q _ => ∃ (p : Addr) (s b seg off : Int), vs = [.ref p, .int seg, .int off] ∧ SqT K H p (sizeV s b) ∧ SizeOk s b ∧ Q (.int (placeI s b seg off)) H
section
variable {P : Program} {w : World} {K : PySem.W.Frag} {mg : Str → Option Value} {base : Heap} {C fI ba : Addr}
theorem ok_place (D : DefT K mg "_law_place" S__law_place) : FnOk P w K mg base CX0 1 D.f D.fd ["sizes", "segment", "offset"] (spPlace K) := by
  refine D.F.ok sc__law_place (fun vs H Q E h => ?_) (fun cdv A outer s0 H vs Q E hr h => ?_)
  · obtain ⟨p, s, b, seg, off, rfl, _⟩ := h
    rfl
  · obtain ⟨p, s, b, seg, off, rfl, hp, ok, k⟩ := h
    refine ⟨_, pss_one (ps_ret (pe_op op_add (pe_op op_add (pe_op op_mul pe_int (pe_ix ix_tup (pv 0) pe_int (fun _ _ => rfl))) (pe_op op_mul (pv 1) (pe_ix ix_tup (pv 0) pe_int (fun _ _ => rfl)))) (pv 2))), ?_⟩
    obtain ⟨h1, h2, h3, h4⟩ := ok
    refine ⟨_, rfl, p, _, _, _, rfl, rfl, hp, at_of (j := 3) rfl rfl, _, _, rfl, rfl, .inl ⟨by decide, by decide⟩, _, rfl, _, rfl, p, _, _, _, rfl, rfl, hp, at_of (j := 1) rfl rfl, _, _, rfl, rfl, .inr ⟨by omega, by omega⟩, _, _, rfl, rfl, _, rfl, _, _, rfl, rfl, k⟩
theorem ok_placeAt (D : DefT K mg "place_at" S_place_at) (T : DT K mg C fI ba) (Kt : Kn mg) (Ms : MCal P w K mg base C 1 "sizes" ["self"] (spDSizes K C)) (Gw : Cal P w K mg base 2 "is_within" ["thing", "least", "most"] (spWithin K)) :
    FnOk P w K mg base CX0 3 D.f D.fd ["disk", "segment", "offset"] (spPlaceAt K C) := by
  refine D.F.ok sc_place_at (fun vs H Q E h => ?_) (fun cdv A outer s0 H vs Q E hr h => ?_)
  · obtain ⟨D, seg, off, rfl, _⟩ := h
    rfl
  · obtain ⟨D, seg, off, rfl, DD, h0, h1, h2, h3, k⟩ := h
    have nd := sc_place_at.nd
    refine ⟨_, pss_cons (ps_if (pt_not (pt_val (pe_callB (C8.call_isC T.ins) (by rfl) Kt.isi PyProof.Rows.boot_isinstance (pa_cons (pv 0) (pa_cons (pe_glob (v := .ref C) rfl T.mgC rfl) pa_nil))))) (pss_one ps_never) pss_nil)
      (pss_cons (ps_asg (pm0 T.cl Ms hr (pv 0)) (pg_tup rfl (pgs_cons (pg_name (i := 3) nd rfl (Or.inl rfl)) (pgs_cons (pg_name (i := 4) nd rfl (Or.inl rfl)) (pgs_cons (pg_name (i := 5) nd rfl (Or.inl rfl)) (pgs_cons (pg_name (i := 6) nd rfl (Or.inl rfl)) pgs_nil))))))
      (pss_cons (ps_if (pt_not (pt_val (pc Gw hr (pa_cons (pv 1) (pa_cons pe_int (pa_cons (pe_op op_sub (pv 3) pe_int) pa_nil)))))) (pss_one ps_never) pss_nil)
      (pss_cons (ps_if (pt_not (pt_val (pc Gw hr (pa_cons (pv 2) (pa_cons pe_int (pa_cons (pe_op op_sub (pv 4) pe_int) pa_nil)))))) (pss_one ps_never) pss_nil)
      (pss_one (ps_ret (pe_op op_add (pe_op op_add (pe_op op_mul pe_int (pv 6)) (pe_op op_mul (pv 1) (pv 4))) (pv 2))))))), ?_⟩
    obtain ⟨ok, ⟨dx, g1⟩, g2, g3, g4, g5, g6, g7, g8⟩ := id DD
    obtain ⟨q1, q2, q3, q4⟩ := ok
    refine ⟨_, rfl, D.p, dx, _, rfl, g1, _, rfl, iteF ?_⟩
    refine ⟨_, rfl, D.p, dx, _, rfl, g1, rfl, D, rfl, DD, D.z, _, rfl, SqT.of g2, rfl, ?_⟩
    refine ⟨_, _, rfl, _, _, rfl, _, _, rfl, _, _, rfl, rfl, ?_⟩
    refine ⟨_, rfl, _, rfl, _, _, rfl, rfl, .int seg, "int", 0, _, rfl, Ty.int K H seg, _, rfl, ?_⟩
    rw [show isW 0 (D.s - 1) (.int seg) = true by (have : seg ≤ D.s - 1 := by omega); simp [isW, h0, this]]
    refine iteF ?_
    refine ⟨_, rfl, _, rfl, _, _, rfl, rfl, .int off, "int", 0, _, rfl, Ty.int K H off, _, rfl, ?_⟩
    rw [show isW 0 (D.b - 1) (.int off) = true by (have : off ≤ D.b - 1 := by omega); simp [isW, h2, this]]
    refine iteF ?_
    refine ⟨_, rfl, _, _, rfl, rfl, .inl ⟨by decide, by decide⟩, _, rfl, _, rfl, _, _, rfl, rfl, .inr ⟨by omega, by omega⟩, _, _, rfl, rfl, _, rfl, _, _, rfl, rfl, k⟩
end
end Tk16

namespace Tk16
open PySem PySem.Spec PyProof.Rows L2 Tk
theorem DeckAt.but {l : List Addr} {H H' : Hp} {d c : Addr} (D : DeckAt H d c) (b : But l H H') (n1 : d ∉ l) (n2 : c ∉ l) : DeckAt H' d c := by
  obtain ⟨m, t, ns, h1, h2, r⟩ := D.ex
  exact ⟨m, t, ns, b _ _ h1 n1, b _ _ h2 n2, r⟩
theorem DeckAt.tup {H H' : Hp} {d c : Addr} (D : DeckAt H d c) (b : But [d, c] H H') : TupSame H H' := by
  obtain ⟨m, t, ns, h1, h2, r⟩ := D.ex
  intro q xs hq
  have nd : q ≠ d := fun e => by
    subst e
    rcases hq with hq | ⟨o, hq⟩
    · rw [h1] at hq; cases hq
    · rw [h1] at hq; cases hq
  have nc : q ≠ c := fun e => by
    subst e
    rcases hq with hq | ⟨o, hq⟩
    · rw [h2] at hq; cases hq
    · rw [h2] at hq; cases hq
  rcases hq with hq | ⟨o, hq⟩
  · exact .inl (b _ _ hq (by simp [nd, nc]))
  · exact .inr ⟨o, b _ _ hq (by simp [nd, nc])⟩
theorem DA.but {K : PySem.W.Frag} {C : Addr} {l : List Addr} {H H' : Hp} {D : DS} (DD : DA K C H D) (b : But l H H') (t : TupSame H H') (n : ∀ x ∈ l, x ≠ D.p ∧ x ≠ D.z ∧ x ≠ D.l ∧ x ≠ D.wl ∧ x ≠ D.nl) : DA K C H' D := by
  obtain ⟨ok, ⟨dx, h1⟩, h2, ⟨xs, h3, h3b⟩, h4, ⟨ys, h5, h5b⟩, h6, ⟨kvs, h7, h7b, h7c⟩, h8⟩ := DD
  exact ⟨ok, ⟨dx, b _ _ h1 fun z => (n _ z).1 rfl⟩, b _ _ h2 fun z => (n _ z).2.1 rfl, ⟨xs, b _ _ h3 fun z => (n _ z).2.2.1 rfl, h3b.tup t⟩, h4, ⟨ys, b _ _ h5 fun z => (n _ z).2.2.2.1 rfl, Paired.mapP h5b fun _ _ q => q.tup t⟩, h6,
    ⟨kvs, b _ _ h7 fun z => (n _ z).2.2.2.2 rfl, h7b.tup t, h7c⟩, h8⟩
/-- a class that may be made -/
structure ICal (P : Program) (w : World) (K : PySem.W.Frag) (mg : Str → Option Value) (base : Heap) (C : Addr) (k : Nat) (ps : List Str) (sp : Sp) where
  f : Addr
  fd : FuncData
  mkC : Mk K C f
  b : Binds K fd ps []
  ok : FnOk P w K mg base CX0 k f fd ps sp
theorem pmk {X : Cx} {k j : Nat} {x : Str} {ps : List Str} {sp : Sp} {C : Addr} {e : Expr} {es : List Expr} {t : TA} {p pos : Pos} (I : ICal X.prog X.w X.K X.mg X.base C k ps sp) (hr : Room j X.A) (hm : X.mg x = some (.ref C)) (ha : PA X (e :: es) t) (hj : k + 1 ≤ j := by decide) (hg : Gl X x := by rfl)
    (hdb : (x == ("__debug__" : Str)) = false := by decide) (he : starEach (e :: es) X.env = (false, eval e X.env) :: starEach es X.env := by rfl) (hpl : (backTo pos (starEach es X.env)).any (·.1) = false := by rfl) :
    PE X (.Call (.Name x p) (e :: es) [] pos) (tMake C sp [] E0 t) := pe_make I.mkC I.ok (hr.mono hj) hg hm I.b .nil pass0 ha hdb he hpl
theorem boot_repr : bootBuiltins "repr" = some (.builtin "repr") := by decide +kernel
/-- free names -/
structure Fr16 (mg : Str → Option Value) : Prop where
  repr : mg "repr" = none
  max : mg "max" = none
  range : mg "range" = none
  list : mg "list" = none
  len : mg "len" = none
/-- all defs of the program that the law calls -/
structure All16 (P : Program) (w : World) (K : PySem.W.Frag) (mg : Str → Option Value) (base : Heap) (C ba : Addr) where
  fI : Addr
  T : DT K mg C fI ba
  Fr : Fr16 mg
  deck : Cal P w K mg base 1 "_law_deck" ["script"] (spDeck K)
  draw : Cal P w K mg base 1 "_law_draw" ["deck", "below"] spDraw
  pick : Cal P w K mg base 2 "_law_pick" ["deck", "some"] (spPick K)
  sizes : Cal P w K mg base 1 "_law_sizes" ["segments", "blocks"] spSizes
  many : Cal P w K mg base 1 "_law_many" ["sizes"] (spMany K)
  place : Cal P w K mg base 1 "_law_place" ["sizes", "segment", "offset"] (spPlace K)
  block : Cal P w K mg base 4 "_law_block" ["deck"] spBlock
  init : ICal P w K mg base C 3 ["self", "segments", "blocks"] (spDInit K C ba)
  mSizes : MCal P w K mg base C 1 "sizes" ["self"] (spDSizes K C)
  mMany : MCal P w K mg base C 1 "many" ["self"] (spDMany K C)
  mRead : MCal P w K mg base C 4 "read" ["self", "place"] (spRead K C)
  mWrite : MCal P w K mg base C 6 "write" ["self", "place", "block"] (spWrite K C)
  mForce : MCal P w K mg base C 2 "force" ["self"] (spForce K C)
  mWait : MCal P w K mg base C 1 "waiting" ["self"] (spWaiting K C)
  mStand : MCal P w K mg base C 1 "standing" ["self"] (spStanding K C)
  at_ : Cal P w K mg base 3 "place_at" ["disk", "segment", "offset"] (spPlaceAt K C)
  atK : KBn K at_.fd ["disk", "segment", "offset"] 0 ["offset", "segment", "disk"] turn3 turn3
/-- the same text on both sides -/
theorem neStr {x : Str} {A B : Prop} (h : B) : if (!decide (V.str x = V.str x)) = true then A else B := iteNS rfl h
theorem guards_deeper (A : Around) (env : Env) (h : A.guards = some []) : (A.deeper env).guards = some [] := h
theorem fresh2 {H : Hp} {p q b : Addr} {o1 o2 : HO} (h : (upd (upd H p o1) q o2) b = none) : H b = none := by
  by_cases e : b = q
  · rw [e, upd_same] at h; cases h
  · rw [upd_ne e] at h
    by_cases e2 : b = p
    · rw [e2, upd_same] at h; cases h
    · rw [upd_ne e2] at h; exact h
theorem fresh1 {H : Hp} {p b : Addr} {o : HO} (h : (upd H p o) b = none) : H b = none := by
  by_cases e : b = p
  · rw [e, upd_same] at h; cases h
  · rw [upd_ne e] at h; exact h
def sizeP (s b : Int) : PyData := .tuple [.int s, .int b, .int (roomI s b), .int (areaI s b)]
def blkD (ws : List Int) : PyData := .tuple (ws.map PyData.int)
theorem dp_size {K : PySem.W.Frag} {H : Hp} {z : Addr} {s b : Int} (h : SqT K H z (sizeV s b)) : Dp K H (.ref z) (sizeP s b) := .tup h (.cons (.int _) (.cons (.int _) (.cons (.int _) (.cons (.int _) .nil))))
theorem dp_blk {K : PySem.W.Frag} {H : Hp} {y : V} {ws : List Int} (h : Blk K H y ws) : Dp K H y (blkD ws) := by
  obtain ⟨a, rfl, h1, _⟩ := h
  exact .tup h1 (dpInts K H ws)
theorem sh_size {s b : Int} (ok : SizeOk s b) : Sh (sizeP s b) 59 1 := by
  have h1 := ok.room
  have h2 := ok.area
  obtain ⟨k1, k2, k3, k4⟩ := ok
  exact Sh.tup (.cons (Sh.int (by omega) (by omega)) (.cons (Sh.int (by omega) (by omega)) (.cons (Sh.int (by omega) (by omega)) (.cons (Sh.int (by omega) (by omega)) .nil))))
theorem sh_blk {ws : List Int} (hl : ws.length = 32) (hw : Wd ws) : Sh (blkD ws) 451 1 := by
  have q : ShAll (ws.map PyData.int) ((12 + 2) * (ws.map PyData.int).length) 0 := ShAll.all fun d hd => by
    obtain ⟨z, hz, rfl⟩ := List.mem_map.mp hd
    have := hw z hz
    exact Sh.int this.1 (by omega)
  rw [List.length_map, hl] at q
  exact Sh.tup q
theorem Blank.tup {K : PySem.W.Frag} {H H' : Hp} {ba : Addr} (h : Blank K H ba) (t : TupSame H H') : Blank K H' ba := tupT t h
theorem alike_zero : PySem.W.alike (blkD (List.replicate 32 0)) (blkD (List.replicate 32 0)) = true := by decide +kernel
theorem depth_blk (ws : List Int) : (blkD ws).depth ≤ 2 := by
  have h := depth_ints ws
  unfold blkD
  simp only [PyData.depth]
  omega
theorem pairedMem {α β : Type} {F : α → β → Prop} : ∀ {xs : List α} {ys : List β} {x : α}, Paired F xs ys → x ∈ xs → ∃ y ∈ ys, F x y
  | _, _, _, .nil, h => absurd h List.not_mem_nil
  | _, _, x, .cons r t, h => by
    rcases List.mem_cons.mp h with e | h
    · exact ⟨_, List.mem_cons_self, e ▸ r⟩
    · obtain ⟨y, h1, h2⟩ := pairedMem t h
      exact ⟨y, List.mem_cons_of_mem _ h1, h2⟩
end Tk16

namespace Tk16
open PySem PySem.Spec PyProof.Rows L2 Tk
section
variable {P : Program} {w : World} {K : PySem.W.Frag} {mg : Str → Option Value} {base : Heap} {C ba : Addr}
theorem run_law {f : Addr} {fd : FuncData} {s₁ : Shared} {H : Hp} {a : Addr} {u : Value} {ns : List Int} (F : Fun K "law" "law" S_law f fd) (L : All16 P w K mg base C ba) (en : Env0 P w K mg base callerA [] s₁ H) (hb : BindsTo s₁ fd ⟨[u], []⟩ [("script", u)]) (hu : u = .ref a)
    (hS : SqL K H a (ns.map V.int)) (hl : ns.length ≤ 63) (hB : Blank K H ba) :
    codeAny (model P w) callerA (.call (.ref f) ⟨[u], []⟩) (CR CX0 [] P w H s₁ (fun v _ => v = .bl true) E0) s₁ := by
  have hr0 : Room 9 callerA := ⟨rfl, by decide, by decide⟩
  refine def_run (N := ["script", "deck", "go", "segments", "blocks", "disk", "sizes", "segment", "offset", "told", "due", "at", "block"]) (ps := ["script"]) (us := [u]) (vs := [.ref a]) F sc_law rfl hr0 en hb (.cons hu .nil) fun cdv => ?_
  have hr := hr0.deeper (envOfC "law" (defScope S_law) s₁.heap.objs.size f cdv)
  have hg : (callerA.deeper (envOfC "law" (defScope S_law) s₁.heap.objs.size f cdv)).guards = some [] := guards_deeper _ _ rfl
  have hu64 := hr.units
  have nd := sc_law.nd
  have T := L.T
  refine ⟨_, pss_cons (ps_set (i := 1) nd rfl (Or.inl rfl) (pc L.deck hr (pa_cons (pv 0) pa_nil)))
    (pss_cons (ps_for PassesOwn.never rfl (pi_range1 (by rfl) L.Fr.range (pa_cons pe_int pa_nil)) (pg_name (i := 2) nd rfl (Or.inl rfl))
      (pss_cons (ps_par (i := 3) (j := 4) (by rfl) nd rfl rfl (by decide) rfl rfl
          (pa_cons (pc L.pick hr (pa_cons (pv 1) (pa_cons (pe_lst (pa_cons pe_int (pa_cons pe_int (pa_cons pe_int (pa_cons (pe_op op_add pe_int (pc L.draw hr (pa_cons (pv 1) (pa_cons pe_int pa_nil)))) pa_nil))))) pa_nil)))
          (pa_cons (pc L.pick hr (pa_cons (pv 1) (pa_cons (pe_lst (pa_cons pe_int (pa_cons pe_int (pa_cons pe_int (pa_cons (pe_op op_add pe_int (pc L.draw hr (pa_cons (pv 1) (pa_cons pe_int pa_nil)))) pa_nil))))) pa_nil))) pa_nil)) (by rfl))
      (pss_cons (ps_asg (pe_tup (pa_cons (pmk L.init hr T.mgC (pa_cons (pv 3) (pa_cons (pv 4) pa_nil))) (pa_cons (pc L.sizes hr (pa_cons (pv 3) (pa_cons (pv 4) pa_nil))) pa_nil))) (pg_tup rfl (pgs_cons (pg_name (i := 5) nd rfl (Or.inr rfl)) (pgs_cons (pg_name (i := 6) nd rfl (Or.inl rfl)) pgs_nil))))
      (pss_cons (ps_if (pt_cmpR op_ne (pe_callB (call_show hg hu64) (by rfl) L.Fr.repr boot_repr (pa_cons (pe_tup (pa_cons (pm0 T.cl L.mSizes hr (pv 5)) (pa_cons (pm0 T.cl L.mMany hr (pv 5)) pa_nil))) pa_nil))
          (pe_callB (call_show hg hu64) (by rfl) L.Fr.repr boot_repr (pa_cons (pe_tup (pa_cons (pv 6) (pa_cons (pc L.many hr (pa_cons (pv 6) pa_nil)) pa_nil))) pa_nil)) (nomark _)) (pss_one (ps_ret pe_bl)) pss_nil)
      (pss_cons (ps_if (pt_cmpR op_ne (pe_callB (call_show hg hu64) (by rfl) L.Fr.repr boot_repr (pa_cons (pe_tup (pa_cons (pm0 T.cl L.mWait hr (pv 5)) (pa_cons (pe_callB call_len_seq (by rfl) L.Fr.len PySem.boot_len (pa_cons (pm0 T.cl L.mStand hr (pv 5)) pa_nil)) (pa_cons (pe_callB (call_maxOne rfl hu64) (by rfl) L.Fr.max PyProof.Rows.boot_max (pa_cons (pm0 T.cl L.mStand hr (pv 5)) pa_nil)) pa_nil)))) pa_nil))
          (pe_callB (call_show hg hu64) (by rfl) L.Fr.repr boot_repr (pa_cons (pe_tup (pa_cons (pe_tup pa_nil) (pa_cons (pc L.many hr (pa_cons (pv 6) pa_nil)) (pa_cons (pe_op op_repT (pe_tup (pa_cons pe_int pa_nil)) pe_int) pa_nil)))) pa_nil)) (nomark _)) (pss_one (ps_ret pe_bl)) pss_nil)
      (pss_cons (ps_asg (pe_tup (pa_cons (pc L.pick hr (pa_cons (pv 1) (pa_cons (pe_lst (pa_cons pe_int (pa_cons (pe_op op_sub (pv 3) pe_int) (pa_cons (pc L.draw hr (pa_cons (pv 1) (pa_cons (pv 3) pa_nil))) pa_nil)))) pa_nil)))
          (pa_cons (pc L.pick hr (pa_cons (pv 1) (pa_cons (pe_lst (pa_cons pe_int (pa_cons (pe_op op_sub (pv 4) pe_int) (pa_cons (pc L.draw hr (pa_cons (pv 1) (pa_cons (pv 4) pa_nil))) pa_nil)))) pa_nil))) pa_nil))) (pg_tup rfl (pgs_cons (pg_name (i := 7) nd rfl (Or.inr rfl)) (pgs_cons (pg_name (i := 8) nd rfl (Or.inl rfl)) pgs_nil))))
      (pss_cons (ps_set (i := 9) nd rfl (Or.inl rfl) (pe_lst (pa_cons (pc L.at_ hr (pa_cons (pv 5) (pa_cons (pv 7) (pa_cons (pv 8) pa_nil)))) (pa_cons (pcK L.at_ L.atK hr (pk_cons (pv 8) (pk_cons (pv 7) (pk_cons (pv 5) pk_nil)))) pa_nil))))
      (pss_cons (ps_set (i := 10) nd rfl (Or.inl rfl) (pc L.place hr (pa_cons (pv 6) (pa_cons (pv 7) (pa_cons (pv 8) pa_nil)))))
      (pss_cons (ps_if (PW.pt (pw_or (pt_cmpR op_ne (pe_callB (call_show hg hu64) (by rfl) L.Fr.repr boot_repr (pa_cons (pv 9) pa_nil)) (pe_callB (call_show hg hu64) (by rfl) L.Fr.repr boot_repr (pa_cons (pe_op op_rep (pe_lst (pa_cons (pv 10) pa_nil)) pe_int) pa_nil)) (nomark _))
          (pw_or1 (pt_cmpR op_ne (pe_callB (call_show hg hu64) (by rfl) L.Fr.repr boot_repr (pa_cons (pc L.at_ hr (pa_cons (pv 5) (pa_cons pe_int (pa_cons pe_int pa_nil)))) pa_nil)) (pe_callB (call_show hg hu64) (by rfl) L.Fr.repr boot_repr (pa_cons (pe_op op_mul pe_int (pe_ix ix_tup (pv 6) pe_int (fun _ _ => rfl))) pa_nil)) (nomark _))))) (pss_one (ps_ret pe_bl)) pss_nil)
      (pss_cons (ps_if (pt_cmpR op_ne (pe_callB (call_show hg hu64) (by rfl) L.Fr.repr boot_repr (pa_cons (pe_lc (own := [("at", 11)]) (g := gName 11) (tt := tYes) rfl nd (pi_range1 (by rfl) L.Fr.range (pa_cons (pv 4) pa_nil)) (blkOk_by (N := ["script", "deck", "go", "segments", "blocks", "disk", "sizes", "segment", "offset", "told", "due", "at", "block"]) (sc := defScope S_law) (by decide +kernel))
            (fun _ _ _ _ _ => pg_name (i := 11) nd rfl (Or.inl rfl)) (fun _ _ _ _ _ => pts_nil) (fun _ _ _ _ _ => pc L.at_ hr (pa_cons (pv 5) (pa_cons (pv 7) (pa_cons (pv 11) pa_nil))))) pa_nil))
          (pe_callB (call_show hg hu64) (by rfl) L.Fr.repr boot_repr (pa_cons (pe_listRg rfl (by rfl) L.Fr.list (prg_2 (by rfl) L.Fr.range (pe_op op_sub (pv 10) (pv 8)) (pe_op op_add (pe_op op_sub (pv 10) (pv 8)) (pv 4)))) pa_nil)) (nomark _)) (pss_one (ps_ret pe_bl)) pss_nil)
      (pss_cons (ps_if (pt_cmpR op_ne (pe_callB (call_show hg hu64) (by rfl) L.Fr.repr boot_repr (pa_cons (pc L.at_ hr (pa_cons (pv 5) (pa_cons (pe_op op_sub (pv 3) pe_int) (pa_cons (pe_op op_sub (pv 4) pe_int) pa_nil)))) pa_nil)) (pe_callB (call_show hg hu64) (by rfl) L.Fr.repr boot_repr (pa_cons (pe_op op_sub (pc L.many hr (pa_cons (pv 6) pa_nil)) pe_int) pa_nil)) (nomark _)) (pss_one (ps_ret pe_bl)) pss_nil)
      (pss_cons (ps_set (i := 12) nd rfl (Or.inl rfl) (pc L.block hr (pa_cons (pv 1) pa_nil)))
      (pss_cons (ps_expr (pm T.cl L.mWrite hr (pv 5) (pa_cons (pv 10) (pa_cons (pv 12) pa_nil))))
      (pss_cons (ps_if (pt_cmpR op_ne (pe_callB (call_show hg hu64) (by rfl) L.Fr.repr boot_repr (pa_cons (pm T.cl L.mRead hr (pv 5) (pa_cons (pv 10) pa_nil)) pa_nil)) (pe_callB (call_show hg hu64) (by rfl) L.Fr.repr boot_repr (pa_cons (pv 12) pa_nil)) (nomark _)) (pss_one (ps_ret pe_bl)) pss_nil)
      (pss_cons (ps_expr (pm0 T.cl L.mForce hr (pv 5)))
      (pss_one (ps_if (pt_cmpR op_ne (pe_callB (call_show hg hu64) (by rfl) L.Fr.repr boot_repr (pa_cons (pe_tup (pa_cons (pm T.cl L.mRead hr (pv 5) (pa_cons (pv 10) pa_nil)) (pa_cons (pe_ix ix_tup (pm0 T.cl L.mStand hr (pv 5)) (pv 10) (fun _ _ => rfl)) pa_nil))) pa_nil)) (pe_callB (call_show hg hu64) (by rfl) L.Fr.repr boot_repr (pa_cons (pe_tup (pa_cons (pv 12) (pa_cons (pv 12) pa_nil))) pa_nil)) (nomark _)) (pss_one (ps_ret pe_bl)) pss_nil)))))))))))))))))
    (pss_one (ps_ret pe_bl))), ?_⟩
  refine ⟨_, rfl, a, ns, rfl, hS, hl, fun d c H1 hd hc D1 s1 => ?_⟩
  refine ⟨8, rfl, by decide, by decide, for_range (lo := 0) (n := 8) (fun i σ H => ∃ v2 v3 v4 v5 v6 v7 v8 v9 v10 v11 v12 : Option V, σ = [some (.ref a), some (.ref d), v2, v3, v4, v5, v6, v7, v8, v9, v10, v11, v12] ∧ DeckAt H d c ∧ Blank K H ba) ⟨_, _, _, _, _, _, _, _, _, _, _, rfl, D1, hB.tup (TupSame.of s1)⟩ ?_ ?_⟩
  · rintro i σ H0 hi ⟨v2, v3, v4, v5, v6, v7, v8, v9, v10, v11, v12, rfl, D0, B0⟩
    -- segments, blocks
    refine ⟨_, rfl, _, rfl, d, c, 35, rfl, D0, by decide, by decide, fun a1 H2 p0 p1 D2 b2 => ⟨_, _, rfl, rfl, (by show 4 ≤ sizeLine; decide), fun l1 hl1 => ?_⟩⟩
    refine ⟨d, c, l1, _, rfl, D2.same (Same.new hl1), upd_same, (D2.nd hl1).2, by simp, by show 4 ≤ 1000; decide, fun vs H3 hvs D3 b3 => ?_⟩
    have B3 := B0.tup ((D0.tup b2).trans ((TupSame.of (Same.new hl1)).trans ((D2.same (Same.new hl1)).tup b3)))
    obtain ⟨sg, rfl, sg0, sg1⟩ : ∃ z : Int, vs = .int z ∧ 6 ≤ z ∧ z ≤ 40 := by
      simp only [List.mem_cons, List.not_mem_nil, or_false] at hvs
      rcases hvs with h | h | h | h <;> exact ⟨_, h, by first | decide | omega, by first | decide | omega⟩
    refine ⟨_, rfl, _, rfl, d, c, 21, rfl, D3, by decide, by decide, fun a2 H4 q0 q1 D4 b4 => ⟨_, _, rfl, rfl, (by show 4 ≤ sizeLine; decide), fun l2 hl2 => ?_⟩⟩
    refine ⟨d, c, l2, _, rfl, D4.same (Same.new hl2), upd_same, (D4.nd hl2).2, by simp, by show 4 ≤ 1000; decide, fun vb H5 hvb D5 b5 => ?_⟩
    have B5 := B3.tup ((D3.tup b4).trans ((TupSame.of (Same.new hl2)).trans ((D4.same (Same.new hl2)).tup b5)))
    obtain ⟨bl, rfl, bl0, bl1⟩ : ∃ z : Int, vb = .int z ∧ 4 ≤ z ∧ z ≤ 24 := by
      simp only [List.mem_cons, List.not_mem_nil, or_false] at hvb
      rcases hvb with h | h | h | h <;> exact ⟨_, h, by first | decide | omega, by first | decide | omega⟩
    have ok : SizeOk sg bl := ⟨sg0, sg1, bl0, bl1⟩
    refine ⟨_, _, rfl, ?_⟩
    -- disk, sizes
    refine ⟨_, rfl, _, rfl, fun p dx0 hp hdx0 ne0 => ⟨p, dx0, sg, bl, rfl, upd_same, ok, B5.tup (TupSame.of ((Same.new hdx0).trans (Same.new (by rw [upd_ne (fun e => ne0 e.symm)]; exact hp)))), fun z l wl nl H6 hz hl6 hwl hnl DD6 k6 => ⟨rfl, ?_⟩⟩⟩
    have s56 : Same H5 H6 := fun b o e => k6 b o (by rw [upd_ne (ne_of_none e hp), upd_ne (ne_of_none e hdx0)]; exact e) (ne_of_none e hp)
    refine ⟨_, rfl, _, rfl, sg, bl, rfl, ok, fun z2 hz2 => ⟨(by show 2 ≤ sizeLine; decide), fun tp htp => ?_⟩⟩
    have s67 : Same H6 (upd H6 z2 (.tup (sizeV sg bl))) := Same.new hz2
    refine ⟨tp, _, rfl, SqT.of upd_same, rfl, _, _, rfl, _, _, rfl, rfl, ?_⟩
    have s68 := s67.trans (Same.new (o := .tup [V.ref p, V.ref z2]) htp)
    have z28 : (upd (upd H6 z2 (.tup (sizeV sg bl))) tp (.tup [V.ref p, V.ref z2])) z2 = some (.tup (sizeV sg bl)) := by
      rw [upd_ne (fun e => by rw [← e, upd_same] at htp; cases htp), upd_same]
    generalize upd (upd H6 z2 (.tup (sizeV sg bl))) tp (.tup [V.ref p, V.ref z2]) = H8 at s68 z28 ⊢
    have D8 : DeckAt H8 d c := D5.same (s56.trans s68)
    have nD : ∀ y ∈ [d, c], y ≠ p ∧ y ≠ z ∧ y ≠ l ∧ y ≠ wl ∧ y ≠ nl := fun y hy => by
      have f := fun {b : Addr} (h : H5 b = none) => D5.nd h
      have f1 := f hp
      have f2 := f (fresh2 hz)
      have f3 := f (fresh2 hl6)
      have f4 := f (fresh2 hwl)
      have f5 := f (fresh2 hnl)
      simp only [List.mem_cons, List.not_mem_nil, or_false] at hy
      rcases hy with h | h
      · subst h; exact ⟨f1.1.symm, f2.1.symm, f3.1.symm, f4.1.symm, f5.1.symm⟩
      · subst h; exact ⟨f1.2.symm, f2.2.symm, f3.2.symm, f4.2.symm, f5.2.symm⟩
    have DD8 : DA K C H8 ⟨p, z, l, wl, nl, sg, bl, blankS sg bl, [], none⟩ := DD6.same s68
    have B8 : Blank K H8 ba := B5.tup (TupSame.of (s56.trans s68))
    clear B3 B0 B5
    have many := ok.many
    have ob8 := DD8.ob
    obtain ⟨dx, h8⟩ := ob8
    have hz8 := DD8.sz
    -- repr((disk.sizes(), disk.many()))
    have shA : Sh (.tuple [sizeP sg bl, .int (manyI sg bl)]) 16000000 50 := (Sh.tup (.cons ((sh_size ok).up (Nat.le_refl _) (Nat.le_refl _)) (.cons ((Sh.int (by omega) (by omega)).up (Nat.le_refl _) (by decide)) .nil))).up (by decide) (by decide)
    refine ⟨_, rfl, p, dx, _, rfl, h8, rfl, ⟨p, z, l, wl, nl, sg, bl, blankS sg bl, [], none⟩, rfl, DD8, _, rfl, p, dx, _, rfl, h8, rfl, ⟨p, z, l, wl, nl, sg, bl, blankS sg bl, [], none⟩, rfl, DD8, (by show 2 ≤ sizeLine; decide), fun t1 ht1 => ?_⟩
    refine ⟨.ref t1, .tuple [sizeP sg bl, .int (manyI sg bl)], rfl, .tup (SqT.of upd_same) (.cons (dp_size (sameT (Same.new ht1) (SqT.of hz8))) (.cons (.int _) .nil)), shA, ?_⟩
    have D9 := D8.same (Same.new (o := .tup [V.ref z, V.int (manyI sg bl)]) ht1)
    have DD9 : DA K C (upd H8 t1 (.tup [V.ref z, V.int (manyI sg bl)])) ⟨p, z, l, wl, nl, sg, bl, blankS sg bl, [], none⟩ := DD8.same (Same.new ht1)
    have B9 := B8.tup (TupSame.of (Same.new (o := .tup [V.ref z, V.int (manyI sg bl)]) ht1))
    have z29 : (upd H8 t1 (.tup [V.ref z, V.int (manyI sg bl)])) z2 = some (.tup (sizeV sg bl)) := Same.new ht1 _ _ z28
    show _
    generalize upd H8 t1 (.tup [V.ref z, V.int (manyI sg bl)]) = H9 at D9 DD9 B9 z29 ⊢
    refine ⟨_, rfl, _, rfl, z2, sg, bl, rfl, SqT.of z29, ok, (by show 2 ≤ sizeLine; decide), fun t2 ht2 => ?_⟩
    refine ⟨.ref t2, .tuple [sizeP sg bl, .int (manyI sg bl)], rfl, .tup (SqT.of upd_same) (.cons (dp_size (sameT (Same.new ht2) (SqT.of z29))) (.cons (.int _) .nil)), shA, rfl, _, rfl, neStr ?_⟩
    have D10 := D9.same (Same.new (o := .tup [V.ref z2, V.int (manyI sg bl)]) ht2)
    have DD10 : DA K C (upd H9 t2 (.tup [V.ref z2, V.int (manyI sg bl)])) ⟨p, z, l, wl, nl, sg, bl, blankS sg bl, [], none⟩ := DD9.same (Same.new ht2)
    have B10 := B9.tup (TupSame.of (Same.new (o := .tup [V.ref z2, V.int (manyI sg bl)]) ht2))
    have z210 : (upd H9 t2 (.tup [V.ref z2, V.int (manyI sg bl)])) z2 = some (.tup (sizeV sg bl)) := Same.new ht2 _ _ z29
    show _
    generalize upd H9 t2 (.tup [V.ref z2, V.int (manyI sg bl)]) = H10 at D10 DD10 B10 z210 ⊢
    clear D9 DD9 B9 z29 ht1 t1 ht2 t2
    -- repr((disk.waiting(), len(disk.standing()), max(disk.standing())))
    obtain ⟨dx1, h10⟩ := DD10.ob
    refine ⟨_, rfl, p, dx1, _, rfl, h10, rfl, ⟨p, z, l, wl, nl, sg, bl, blankS sg bl, [], none⟩, rfl, DD10, fun t3 ys3 ht3 hy3 => ?_⟩
    have hy3' : ys3 = [] := by cases hy3; rfl
    subst hy3'
    have s11 : Same H10 (upd H10 t3 (.tup [])) := Same.new ht3
    have t311 : (upd H10 t3 (.tup [])) t3 = some (.tup []) := upd_same
    have DD11 : DA K C (upd H10 t3 (.tup [])) ⟨p, z, l, wl, nl, sg, bl, blankS sg bl, [], none⟩ := DD10.same s11
    generalize upd H10 t3 (.tup []) = H11 at s11 t311 DD11 ⊢
    refine ⟨_, rfl, p, dx1, _, rfl, s11 _ _ h10, rfl, ⟨p, z, l, wl, nl, sg, bl, blankS sg bl, [], none⟩, rfl, DD11, fun t4 ys4 ht4 hy4 => ⟨t4, ys4, rfl, .inr (SqT.of upd_same), ?_⟩⟩
    have s12 := s11.trans (Same.new (o := .tup ys4) ht4)
    have DD12 : DA K C (upd H11 t4 (.tup ys4)) ⟨p, z, l, wl, nl, sg, bl, blankS sg bl, [], none⟩ := DD11.same (Same.new ht4)
    have t312 : (upd H11 t4 (.tup ys4)) t3 = some (.tup []) := Same.new ht4 _ _ t311
    generalize upd H11 t4 (.tup ys4) = H12 at s12 DD12 t312 ⊢
    have len4 : (ys4.length : Int) = manyI sg bl := by rw [pairedLen hy4]; exact DD12.len
    refine ⟨_, rfl, p, dx1, _, rfl, s12 _ _ h10, rfl, ⟨p, z, l, wl, nl, sg, bl, blankS sg bl, [], none⟩, rfl, DD12, fun t5 ys5 ht5 hy5 => ?_⟩
    have s13 := s12.trans (Same.new (o := .tup ys5) ht5)
    have len5 : (ys5.length : Int) = manyI sg bl := by rw [pairedLen hy5]; exact DD12.len
    have all5 : ∀ x ∈ ys5, Blk K (upd H12 t5 (.tup ys5)) x (List.replicate 32 0) := fun x hx => by
      obtain ⟨ws, hw, hb⟩ := pairedMem hy5 hx
      have e : ws = List.replicate 32 0 := List.eq_of_mem_replicate hw
      rw [e] at hb
      exact hb.same (Same.new ht5)
    have t313 : (upd H12 t5 (.tup ys5)) t3 = some (.tup []) := Same.new ht5 _ _ t312
    refine ⟨t5, ys5, blkD (List.replicate 32 0), rfl, SqT.of upd_same, fun e => by rw [e] at len5; simp at len5; omega, fun x hx => dp_blk (all5 x hx), alike_zero, fun e => PyData.noConfusion e, Nat.le_trans (depth_blk _) (by decide), fun x hx => ?_⟩
    have bx := all5 x hx
    generalize upd H12 t5 (.tup ys5) = H13 at s13 bx t313 ⊢
    refine ⟨(by show 3 ≤ sizeLine; decide), fun t6 ht6 => ?_⟩
    have s14 := s13.trans (Same.new (o := .tup [V.ref t3, V.int (ys4.length : Int), x]) ht6)
    have shB : Sh (.tuple [.tuple [], .int (manyI sg bl), blkD (List.replicate 32 0)]) 16000000 50 := (Sh.tup (.cons ((Sh.tup .nil).up (Nat.le_refl _) (Nat.le_refl _)) (.cons ((Sh.int (by omega) (by omega)).up (Nat.le_refl _) (by decide)) (.cons ((sh_blk (by simp) (Wd.rep (by decide) (by decide) 32)).up (Nat.le_refl _) (Nat.le_refl _)) .nil)))).up (by decide) (by decide)
    refine ⟨.ref t6, .tuple [.tuple [], .int (manyI sg bl), blkD (List.replicate 32 0)], rfl, .tup (SqT.of upd_same) (.cons (.tup (SqT.of (Same.new ht6 _ _ t313)) .nil) (.cons (by rw [len4]; exact .int _) (.cons (dp_blk (bx.same (Same.new ht6))) .nil))), shB, ?_⟩
    show _
    generalize upd H13 t6 (.tup [V.ref t3, V.int (ys4.length : Int), x]) = H14 at s14 ⊢
    refine ⟨(by show 0 ≤ sizeLine; decide), fun t7 ht7 => ?_⟩
    have s15 := s14.trans (Same.new (o := .tup []) ht7)
    have t715 : (upd H14 t7 (.tup [])) t7 = some (.tup []) := upd_same
    show _
    generalize upd H14 t7 (.tup []) = H15 at s15 t715 ⊢
    refine ⟨_, rfl, z2, sg, bl, rfl, SqT.of (s15 _ _ z210), ok, (by show 1 ≤ sizeLine; decide), fun t8 ht8 => ⟨t8, 32, _, rfl, rfl, SqT.of upd_same, by simp, by decide, by decide, by show 1 ≤ 1000; decide, fun t9 ht9 => ⟨(by show 3 ≤ sizeLine; decide), fun t10 ht10 => ?_⟩⟩⟩
    have s16 := Same.new (o := .tup [V.int 0]) ht8
    have s17 := Same.new (o := .tup (List.replicate (Int.toNat 32) [V.int 0]).flatten) ht9
    have b10 : Blk K (upd (upd H15 t8 (.tup [V.int 0])) t9 (.tup (List.replicate (Int.toNat 32) [V.int 0]).flatten)) (.ref t9) (List.replicate 32 0) := ⟨t9, rfl, SqT.of (by rw [upd_same, ← rep1]; rfl), by simp, Wd.rep (by decide) (by decide) 32⟩
    have s18 := Same.new (o := .tup [V.ref t7, V.int (manyI sg bl), V.ref t9]) ht10
    refine ⟨.ref t10, .tuple [.tuple [], .int (manyI sg bl), blkD (List.replicate 32 0)], rfl, ?_, ?_, ?_⟩
    · have g1 := s18 _ _ (s17 _ _ (s16 _ _ t715))
      have g2 := b10.same s18
      refine .tup (SqT.of upd_same) (.cons (.tup (SqT.of g1) .nil) (.cons (.int _) (.cons (dp_blk g2) .nil)))
    · exact shB
    generalize PyData.shown (.tuple [.tuple [], .int (manyI sg bl), blkD (List.replicate 32 0)]) = sx
    refine ⟨rfl, _, rfl, neStr ?_⟩
    have sAll := ((s15.trans s16).trans s17).trans s18
    have D18 := D10.same sAll
    have DD18 : DA K C _ ⟨p, z, l, wl, nl, sg, bl, blankS sg bl, [], none⟩ := DD10.same sAll
    have B18 := B10.tup (TupSame.of sAll)
    have z218 := sAll _ _ z210
    show _
    generalize upd (upd (upd H15 t8 (.tup [V.int 0])) t9 (.tup (List.replicate (Int.toNat 32) [V.int 0]).flatten)) t10 (.tup [V.ref t7, V.int (manyI sg bl), V.ref t9]) = H18 at D18 DD18 B18 z218 ⊢
    clear sAll s18 b10 s17 s16 s15 s14 s13 s12 s11 shA shB
    -- segment, offset
    refine ⟨_, rfl, _, rfl, _, _, rfl, rfl, _, rfl, _, rfl, d, c, sg, rfl, D18, by omega, by omega, fun a3 H19 r0 r1 D19 b19 => ⟨(by show 3 ≤ sizeLine; decide), fun l3 hl3 => ?_⟩⟩
    refine ⟨d, c, l3, _, rfl, D19.same (Same.new hl3), upd_same, (D19.nd hl3).2, by simp, by show 3 ≤ 1000; decide, fun vg H20 hvg D20 b20 => ?_⟩
    have t20 := (D18.tup b19).trans ((TupSame.of (Same.new (o := .lst [V.int 0, V.int (sg - 1), V.int a3]) hl3)).trans ((D19.same (Same.new hl3)).tup b20))
    have bb20 : But [d, c] H18 H20 := (b19.trans (But.new hl3)).trans b20
    obtain ⟨se, rfl, se0, se1⟩ : ∃ y : Int, vg = .int y ∧ 0 ≤ y ∧ y < sg := by
      simp only [List.mem_cons, List.not_mem_nil, or_false] at hvg
      rcases hvg with h | h | h <;> exact ⟨_, h, by first | decide | omega, by omega⟩
    refine ⟨_, rfl, _, rfl, _, _, rfl, rfl, _, rfl, _, rfl, d, c, bl, rfl, D20, by omega, by omega, fun a4 H21 r2 r3 D21 b21 => ⟨(by show 3 ≤ sizeLine; decide), fun l4 hl4 => ?_⟩⟩
    refine ⟨d, c, l4, _, rfl, D21.same (Same.new hl4), upd_same, (D21.nd hl4).2, by simp, by show 3 ≤ 1000; decide, fun vo H22 hvo D22 b22 => ?_⟩
    have t22 := t20.trans ((D20.tup b21).trans ((TupSame.of (Same.new (o := .lst [V.int 0, V.int (bl - 1), V.int a4]) hl4)).trans ((D21.same (Same.new hl4)).tup b22)))
    have bb22 : But [d, c] H18 H22 := bb20.trans ((b21.trans (But.new hl4)).trans b22)
    obtain ⟨of, rfl, of0, of1⟩ : ∃ y : Int, vo = .int y ∧ 0 ≤ y ∧ y < bl := by
      simp only [List.mem_cons, List.not_mem_nil, or_false] at hvo
      rcases hvo with h | h | h <;> exact ⟨_, h, by first | decide | omega, by omega⟩
    refine ⟨(by show 2 ≤ sizeLine; decide), fun t11 ht11 => ⟨t11, _, rfl, SqT.of upd_same, rfl, _, _, rfl, _, _, rfl, rfl, ?_⟩⟩
    have s23 : Same H22 (upd H22 t11 (.tup [V.int se, V.int of])) := Same.new ht11
    have DD23 : DA K C (upd H22 t11 (.tup [V.int se, V.int of])) ⟨p, z, l, wl, nl, sg, bl, blankS sg bl, [], none⟩ := (DD18.but bb22 t22 nD).same s23
    have D23 := D22.same s23
    have B23 := B18.tup (t22.trans (TupSame.of s23))
    have z2d : z2 ∉ [d, c] := by
      obtain ⟨m0, t0, n0, x1, x2, _⟩ := D18.ex
      have y1 : z2 ≠ d := ne_of z218 x1 (by intro e; cases e)
      have y2 : z2 ≠ c := ne_of z218 x2 (by intro e; cases e)
      simp [y1, y2]
    have z223 := s23 _ _ (bb22 _ _ z218 z2d)
    show _
    generalize upd H22 t11 (.tup [V.int se, V.int of]) = H23 at D23 DD23 B23 z223 ⊢
    clear t20 bb20 t22 bb22 s23 ht11 b19 b20 b21 b22 D18 DD18 B18 z218 D19 D20 D21 D22
    -- told
    obtain ⟨pl0, pl1⟩ := placeI_ok ok se0 se1 of0 of1
    refine ⟨_, rfl, _, rfl, _, rfl, ⟨p, z, l, wl, nl, sg, bl, blankS sg bl, [], none⟩, se, of, rfl, DD23, se0, se1, of0, of1, ?_⟩
    refine ⟨_, rfl, _, rfl, _, rfl, rfl, ⟨p, z, l, wl, nl, sg, bl, blankS sg bl, [], none⟩, se, of, rfl, DD23, se0, se1, of0, of1, ?_⟩
    refine ⟨(by show 2 ≤ sizeLine; decide), fun l5 hl5 => ?_⟩
    -- due
    have s24 : Same H23 (upd H23 l5 (.lst [V.int (placeI sg bl se of), V.int (placeI sg bl se of)])) := Same.new hl5
    have l524 : (upd H23 l5 (.lst [V.int (placeI sg bl se of), V.int (placeI sg bl se of)])) l5 = some (.lst [V.int (placeI sg bl se of), V.int (placeI sg bl se of)]) := upd_same
    have DD24 : DA K C (upd H23 l5 (.lst [V.int (placeI sg bl se of), V.int (placeI sg bl se of)])) ⟨p, z, l, wl, nl, sg, bl, blankS sg bl, [], none⟩ := DD23.same s24
    have D24 := D23.same s24
    have B24 := B23.tup (TupSame.of s24)
    have z224 := s24 _ _ z223
    show _
    generalize upd H23 l5 (.lst [V.int (placeI sg bl se of), V.int (placeI sg bl se of)]) = H24 at l524 D24 DD24 B24 z224 ⊢
    refine ⟨_, rfl, _, rfl, _, rfl, z2, sg, bl, se, of, rfl, SqT.of z224, ok, ?_⟩
    -- repr(told) != repr([due] * 2)
    have shC : Sh (.list [.int (placeI sg bl se of), .int (placeI sg bl se of)]) 16000000 50 := (Sh.lst (.cons (Sh.int pl0 (by omega)) (.cons (Sh.int pl0 (by omega)) .nil))).up (by decide) (by decide)
    refine ⟨_, rfl, .ref l5, .list [.int (placeI sg bl se of), .int (placeI sg bl se of)], rfl, .lst (SqL.of l524) (.cons (.int _) (.cons (.int _) .nil)), shC, ?_⟩
    refine ⟨_, rfl, (by show 1 ≤ sizeLine; decide), fun l6 hl6 => ⟨l6, 2, _, rfl, rfl, upd_same, by decide, by decide, (by show 1 * 2 ≤ sizeLine; decide), fun l7 hl7 => ?_⟩⟩
    have s25 := (Same.new (o := .lst [V.int (placeI sg bl se of)]) hl6).trans (Same.new (o := .lst (List.replicate (Int.toNat 2) [V.int (placeI sg bl se of)]).flatten) hl7)
    refine ⟨.ref l7, .list [.int (placeI sg bl se of), .int (placeI sg bl se of)], rfl, .lst (SqL.of upd_same) (.cons (.int _) (.cons (.int _) .nil)), shC, ?_⟩
    generalize PyData.shown (.list [.int (placeI sg bl se of), .int (placeI sg bl se of)]) = sx
    refine ⟨rfl, _, rfl, neStr ?_⟩
    have D25 := D24.same s25
    have DD25 : DA K C _ ⟨p, z, l, wl, nl, sg, bl, blankS sg bl, [], none⟩ := DD24.same s25
    have B25 := B24.tup (TupSame.of s25)
    have z225 := s25 _ _ z224
    show _
    generalize upd (upd H24 l6 (.lst [V.int (placeI sg bl se of)])) l7 (.lst (List.replicate (Int.toNat 2) [V.int (placeI sg bl se of)]).flatten) = H25 at D25 DD25 B25 z225 ⊢
    clear s25 s24 l524 DD24 D24 B24 z224 DD23 D23 B23 z223 sx
    -- repr(place_at(disk, 0, 0)) != repr(2 * sizes[3])
    have ar := ok.area
    have e0 : placeI sg bl 0 0 = 2 * areaI sg bl := by unfold placeI; rw [Int.zero_mul]; omega
    have shD : Sh (.int (2 * areaI sg bl)) 16000000 50 := (Sh.int (by omega) (by omega)).up (by decide) (by decide)
    refine ⟨_, rfl, ⟨p, z, l, wl, nl, sg, bl, blankS sg bl, [], none⟩, 0, 0, rfl, DD25, by decide, by show (0 : Int) < sg; omega, by decide, by show (0 : Int) < bl; omega, .int (placeI sg bl 0 0), .int (2 * areaI sg bl), rfl, by rw [e0]; exact .int _, shD, ?_⟩
    refine ⟨_, rfl, z2, _, _, _, rfl, rfl, SqT.of z225, at_of (j := 3) rfl rfl, _, _, rfl, rfl, .inl ⟨by decide, by decide⟩, .int (2 * areaI sg bl), .int (2 * areaI sg bl), rfl, .int _, shD, ?_⟩
    generalize PyData.shown (.int (2 * areaI sg bl)) = sx
    refine ⟨rfl, _, rfl, neStr ?_⟩
    -- the offsets of the segment
    have rg : ∀ k : Nat, (k : Int) < bl → placeI sg bl se (k : Int) = placeI sg bl se 0 + k ∧ 0 ≤ placeI sg bl se (k : Int) ∧ placeI sg bl se (k : Int) < manyI sg bl := fun k hk => by
      have q := placeI_ok ok se0 se1 (show (0 : Int) ≤ (k : Int) by omega) hk
      refine ⟨?_, q.1, q.2⟩
      unfold placeI
      omega
    have shE : Sh (.list ((List.range bl.toNat).map fun (k : Nat) => PyData.int (placeI sg bl se (k : Int)))) 16000000 50 := by
      have q : ShAll ((List.range bl.toNat).map fun (k : Nat) => PyData.int (placeI sg bl se (k : Int))) ((12 + 2) * ((List.range bl.toNat).map fun (k : Nat) => PyData.int (placeI sg bl se (k : Int))).length) 0 := ShAll.all fun d' hd' => by
        obtain ⟨k, hk, rfl⟩ := List.mem_map.mp hd'
        have hk' := List.mem_range.mp hk
        have q := rg k (by omega)
        exact Sh.int q.2.1 (by omega)
      refine (Sh.lst q).up ?_ (by decide)
      rw [List.length_map, List.length_range]
      omega
    have dpR : ∀ (Hq : Hp) (f : Nat → Int) (n : Nat), DpAll K Hq ((List.range n).map fun k => V.int (f k)) ((List.range n).map fun k => PyData.int (f k)) := fun Hq f n => by
      have e1 : ((List.range n).map fun k => V.int (f k)) = ((List.range n).map f).map V.int := by rw [List.map_map]; rfl
      have e2 : ((List.range n).map fun k => PyData.int (f k)) = ((List.range n).map f).map PyData.int := by rw [List.map_map]; rfl
      rw [e1, e2]
      exact dpInts K Hq _
    refine ⟨_, rfl, bl, rfl, by omega, by omega, fun q hq => ?_⟩
    refine lc_range (lo := 0) (n := bl.toNat) (fun k H4 => H4 q = some (.lst ((List.range k).map fun (j : Nat) => V.int (placeI sg bl se (j : Int)))) ∧ Same H25 H4) ⟨by rw [upd_same]; rfl, Same.new hq⟩ ?_ ?_
    · rintro k H4 hk ⟨h4, s4⟩
      have hk' : (k : Int) < bl := by omega
      refine ⟨rfl, tyes ?_⟩
      refine ⟨_, rfl, _, rfl, _, rfl, ⟨p, z, l, wl, nl, sg, bl, blankS sg bl, [], none⟩, se, 0 + (k : Int), rfl, DD25.same s4, se0, se1, by omega, by show (0 : Int) + (k : Int) < bl; omega, _, h4, ?_, ?_⟩
      · rw [List.length_map, List.length_range]; exact small1000 (by omega)
      · refine ⟨?_, Same.put hq s4⟩
        rw [upd_same, List.range_succ, List.map_append]
        show some (HO.lst (_ ++ [V.int (placeI sg bl se (0 + (k : Int)))])) = _
        rw [Int.zero_add]
        rfl
    rintro H26 ⟨q26, s26⟩
    refine ⟨.ref q, .list ((List.range bl.toNat).map fun (k : Nat) => PyData.int (placeI sg bl se (k : Int))), rfl, .lst (SqL.of q26) (dpR _ _ _), shE, ?_⟩
    have ed : placeI sg bl se of - of = placeI sg bl se 0 := by unfold placeI; omega
    refine ⟨_, rfl, _, rfl, _, _, rfl, rfl, _, rfl, _, rfl, _, _, rfl, rfl, _, rfl, _, _, rfl, rfl, _, _, rfl, rfl, RgOk.of_le (by rw [ed]; exact (placeI_ok ok se0 se1 (Int.le_refl 0) (by omega)).1) (by rw [ed]; have := (placeI_ok ok se0 se1 (Int.le_refl 0) (by omega)).2; omega) (by rw [ed]; have := (placeI_ok ok se0 se1 (Int.le_refl 0) (by omega)).2; omega) (by rw [ed]; have := (placeI_ok ok se0 se1 (Int.le_refl 0) (by omega)).1; omega), fun l8 hl8 => ?_⟩
    have eR : rgV (placeI sg bl se of - of) (placeI sg bl se of - of + bl) = (List.range bl.toNat).map fun (k : Nat) => V.int (placeI sg bl se (k : Int)) := by
      unfold rgV
      rw [ed, show placeI sg bl se 0 + bl - placeI sg bl se 0 = bl by omega]
      refine List.map_congr_left fun k hk => ?_
      have hk' := List.mem_range.mp hk
      rw [(rg k (by omega)).1]
    refine ⟨.ref l8, .list ((List.range bl.toNat).map fun (k : Nat) => PyData.int (placeI sg bl se (k : Int))), rfl, .lst (SqL.of upd_same) (by rw [eR]; exact dpR _ _ _), shE, ?_⟩
    generalize PyData.shown (.list ((List.range bl.toNat).map fun (k : Nat) => PyData.int (placeI sg bl se (k : Int)))) = sx
    refine ⟨rfl, _, rfl, neStr ?_⟩
    have s27 := s26.trans (Same.new (o := .lst (rgV (placeI sg bl se of - of) (placeI sg bl se of - of + bl))) hl8)
    have D27 := D25.same s27
    have DD27 : DA K C _ ⟨p, z, l, wl, nl, sg, bl, blankS sg bl, [], none⟩ := DD25.same s27
    have B27 := B25.tup (TupSame.of s27)
    have z227 := s27 _ _ z225
    show _
    generalize upd H26 l8 (.lst (rgV (placeI sg bl se of - of) (placeI sg bl se of - of + bl))) = H27 at D27 DD27 B27 z227 ⊢
    clear s27 s26 q26 D25 DD25 B25 z225 shE dpR eR sx
    -- the last block
    have eL : placeI sg bl (sg - 1) (bl - 1) = manyI sg bl - 1 := by
      unfold placeI manyI
      rw [Int.sub_mul, Int.one_mul]
      omega
    have shF : Sh (.int (manyI sg bl - 1)) 16000000 50 := (Sh.int (by omega) (by omega)).up (by decide) (by decide)
    refine ⟨_, rfl, _, rfl, _, _, rfl, rfl, _, rfl, _, _, rfl, rfl, ⟨p, z, l, wl, nl, sg, bl, blankS sg bl, [], none⟩, sg - 1, bl - 1, rfl, DD27, by omega, by show sg - 1 < sg; omega, by omega, by show bl - 1 < bl; omega, .int (placeI sg bl (sg - 1) (bl - 1)), .int (manyI sg bl - 1), rfl, by rw [eL]; exact .int _, shF, ?_⟩
    refine ⟨_, rfl, z2, sg, bl, rfl, SqT.of z227, ok, _, _, rfl, rfl, .int (manyI sg bl - 1), .int (manyI sg bl - 1), rfl, .int _, shF, ?_⟩
    generalize PyData.shown (.int (manyI sg bl - 1)) = sx
    refine ⟨rfl, _, rfl, neStr ?_⟩
    -- block; write
    refine ⟨_, rfl, d, c, rfl, D27, fun pb ws H28 hpb h28 hwl hww D28 b28 => ?_⟩
    have t28 := D27.tup b28
    have DD28 : DA K C H28 ⟨p, z, l, wl, nl, sg, bl, blankS sg bl, [], none⟩ := DD27.but b28 t28 nD
    have B28 := B27.tup t28
    have bk28 : Blk K H28 (.ref pb) ws := ⟨pb, rfl, SqT.of h28, hwl, hww⟩
    obtain ⟨dx2, hd28⟩ := DD28.ob
    refine ⟨_, rfl, p, dx2, _, rfl, hd28, rfl, _, rfl, _, rfl, ⟨p, z, l, wl, nl, sg, bl, blankS sg bl, [], none⟩, placeI sg bl se of, .ref pb, ws, rfl, DD28, pl0, pl1, bk28, (fun n e => by cases e), by show 0 < 900; decide, fun H29 DD29 b29 t29 => ?_⟩
    have D29 : DeckAt H29 d c := D28.but b29 (by have q := nD d (by simp); simp only [List.mem_cons, List.not_mem_nil, or_false, not_or]; exact ⟨q.1, q.2.2.2.1, q.2.2.2.2⟩) (by have q := nD c (by simp); simp only [List.mem_cons, List.not_mem_nil, or_false, not_or]; exact ⟨q.1, q.2.2.2.1, q.2.2.2.2⟩)
    have B29 := B28.tup t29
    have bk29 : Blk K H29 (.ref pb) ws := bk28.tup t29
    have shG : Sh (blkD ws) 16000000 50 := (sh_blk hwl hww).up (by decide) (by decide)
    obtain ⟨dx3, hd29⟩ := DD29.ob
    refine ⟨_, rfl, p, dx3, _, rfl, hd29, rfl, _, rfl, _, placeI sg bl se of, rfl, DD29, pl0, pl1, fun y hy => ?_⟩
    have ey : ({ p := p, z := z, l := l, wl := wl, nl := nl, s := sg, b := bl, st := blankS sg bl, wt := [] ++ [(placeI sg bl se of, ws)], fu := fuDown none } : DS).read (placeI sg bl se of) = ws := by
      unfold DS.read
      rw [lastW_app, if_pos rfl]
      rfl
    have hy' : Blk K H29 y ws := by rw [← ey]; exact hy
    refine ⟨y, blkD ws, rfl, dp_blk hy', shG, ?_⟩
    refine ⟨_, rfl, .ref pb, blkD ws, rfl, dp_blk bk29, shG, ?_⟩
    generalize PyData.shown (blkD ws) = sx
    refine ⟨rfl, _, rfl, neStr ?_⟩
    -- force
    refine ⟨_, rfl, p, dx3, _, rfl, hd29, rfl, _, rfl, DD29, (fun n e => by cases e), fun wl3 nl3 H30 hw3 hn3 DD30 b30 t30 => ?_⟩
    have D30 : DeckAt H30 d c := D29.but b30 (by have q := nD d (by simp); simp only [List.mem_cons, List.not_mem_nil, or_false, not_or]; exact ⟨q.1, q.2.2.1⟩) (by have q := nD c (by simp); simp only [List.mem_cons, List.not_mem_nil, or_false, not_or]; exact ⟨q.1, q.2.2.1⟩)
    have B30 := B29.tup t30
    have bk30 : Blk K H30 (.ref pb) ws := bk29.tup t30
    obtain ⟨dx4, hd30⟩ := DD30.ob
    -- repr((disk.read(due), disk.standing()[due])) != repr((block, block))
    have pn : (placeI sg bl se of).toNat < (manyI sg bl).toNat := by omega
    have e1 : forcedS (blankS sg bl) ([] ++ [(placeI sg bl se of, ws)]) = (blankS sg bl).set (placeI sg bl se of).toNat ws := rfl
    have g1 : (forcedS (blankS sg bl) ([] ++ [(placeI sg bl se of, ws)]))[(placeI sg bl se of).toNat]? = some ws := by
      rw [e1, List.getElem?_set_self (by unfold blankS; rw [List.length_replicate]; exact pn)]
    refine ⟨_, rfl, p, dx4, _, rfl, hd30, rfl, _, rfl, _, placeI sg bl se of, rfl, DD30, pl0, pl1, fun y3 hy3 => ?_⟩
    have ey3 : ({ p := p, z := z, l := l, wl := wl3, nl := nl3, s := sg, b := bl, st := forcedS (blankS sg bl) ([] ++ [(placeI sg bl se of, ws)]), wt := [], fu := fuDown (fuDown none) } : DS).read (placeI sg bl se of) = ws := by
      unfold DS.read
      show (none : Option (List Int)).getD ((forcedS (blankS sg bl) ([] ++ [(placeI sg bl se of, ws)])).getD (placeI sg bl se of).toNat []) = ws
      rw [List.getD_eq_getElem?_getD, g1]
      rfl
    have hy3' : Blk K H30 y3 ws := by rw [← ey3]; exact hy3
    refine ⟨_, rfl, p, dx4, _, rfl, hd30, rfl, _, rfl, DD30, fun t12 ys12 ht12 hy12 => ?_⟩
    have s31 : Same H30 (upd H30 t12 (.tup ys12)) := Same.new ht12
    obtain ⟨y4, w4, f1, f2, f3⟩ := pairedGet (i := (placeI sg bl se of).toNat) hy12 (List.getElem?_eq_some_iff.mp g1).1
    have f2' : w4 = ws := by
      have q := f2.symm.trans g1
      exact Option.some.inj q
    rw [f2'] at f3
    refine ⟨_, rfl, t12, ys12, placeI sg bl se of, y4, rfl, rfl, SqT.of upd_same, at_of (j := (placeI sg bl se of).toNat) (by omega) f1, (by show 2 ≤ sizeLine; decide), fun t13 ht13 => ?_⟩
    have s32 := s31.trans (Same.new (o := .tup [y3, y4]) ht13)
    have shH : Sh (.tuple [blkD ws, blkD ws]) 16000000 50 := (Sh.tup (.cons (sh_blk hwl hww) (.cons (sh_blk hwl hww) .nil))).up (by decide) (by decide)
    refine ⟨.ref t13, .tuple [blkD ws, blkD ws], rfl, .tup (SqT.of upd_same) (.cons (dp_blk (hy3'.same s32)) (.cons (dp_blk (f3.same s32)) .nil)), shH, ?_⟩
    refine ⟨_, rfl, _, rfl, (by show 2 ≤ sizeLine; decide), fun t14 ht14 => ?_⟩
    have s33 := s32.trans (Same.new (o := .tup [V.ref pb, V.ref pb]) ht14)
    refine ⟨.ref t14, .tuple [blkD ws, blkD ws], rfl, .tup (SqT.of upd_same) (.cons (dp_blk (bk30.same s33)) (.cons (dp_blk (bk30.same s33)) .nil)), shH, ?_⟩
    generalize PyData.shown (.tuple [blkD ws, blkD ws]) = sx
    refine ⟨rfl, _, rfl, neStr ?_⟩
    exact ⟨_, _, _, _, _, _, _, _, _, _, _, rfl, D30.same s33, B30.tup (TupSame.of s33)⟩
  · rintro σ H0 ⟨v2, v3, v4, v5, v6, v7, v8, v9, v10, v11, v12, rfl, D0, B0⟩
    exact rfl
end
end Tk16

namespace Tk16
open PySem PySem.Spec PyProof.Rows L2 Tk
theorem lit_ints {h : Heap} : ∀ {vs : List Value} {zs : List Int} {as : List Addr}, PySem.W.ReadsAllW [] (fun _ => none) h vs (zs.map PySem.W.WData.int) as → Vals (zs.map V.int) vs
  | _, [], _, r => by cases r; exact .nil
  | _, z :: zs, _, r => by
    cases r with
    | cons r1 r2 =>
      cases r1
      exact .cons ⟨_, rfl⟩ (lit_ints r2)
theorem loose_int {lv : List (Str × PySem.W.WData)} {mg : Str → Option Value} {h : Heap} {n : Str} {i : Int} (L : PySem.W.LooseAre lv mg h) (m : (n, PySem.W.WData.int i) ∈ lv) : ∃ t, mg n = some (.int i t) := by
  obtain ⟨v, e, r⟩ := L.val _ m
  cases r
  exact ⟨_, e⟩
theorem loose_tup {lv : List (Str × PySem.W.WData)} {mg : Str → Option Value} {h : Heap} {n : Str} {zs : List Int} (L : PySem.W.LooseAre lv mg h) (m : (n, PySem.W.WData.tuple (zs.map PySem.W.WData.int)) ∈ lv) (hz : zs.length ≤ sizeLine) : ∃ b, mg n = some (.ref b) ∧ TupAt h b (zs.map V.int) := by
  obtain ⟨v, e, r⟩ := L.val _ m
  cases r with
  | @tuple a o vs k xs as h1 h2 h3 h4 =>
    exact ⟨a, e, ⟨o, vs.toList, k, h1, h2, by simpa using h3, lit_ints h4, by rw [List.length_map]; exact hz⟩⟩
section
theorem all_mk {l : PySem.W.OpenLaw} {w : World} {K : PySem.W.Frag} {h : Heap} {mg : Str → Option Value} {fa C : Addr} (X : K.In h) (G : h.Ns mainGlobals mg) (hfa : mg "law" = some (.ref fa)) (hM : ∃ t, mg "MOST_WORD" = some (.int 1000000000 t)) (hBL : ∃ b, mg "BLANK" = some (.ref b) ∧ TupAt h b ((List.replicate 32 (0 : Int)).map V.int))
    {f0 f1 f2 f3 f4 f5 f6 f7 f8 f9 f10 f11 f12 f13 f14 f15 f16 f17 f18 f19 f20 f21 f22 f23 f24 f25 f26 f27 : Addr} {od0 an0 od1 an1 od2 an2 od3 an3 od4 an4 od5 an5 od6 an6 od7 an7 od8 an8 od9 an9 od10 an10 od11 an11 od12 an12 od13 an13 od14 an14 od15 an15 od16 an16 od17 an17 od18 an18 od19 an19 od20 an20 od21 an21 od22 an22 od23 an23 od24 an24 od25 an25 od26 an26 od27 an27 : Option Addr} {sl0 sl1 sl2 sl3 sl4 sl5 sl6 sl7 sl8 sl9 sl10 sl11 sl12 sl13 sl14 sl15 sl16 sl17 sl18 sl19 sl20 sl21 sl22 sl23 sl24 sl25 sl26 sl27 : Array (Option Value)} {oc0 kV0 dc0 pm0 cd0 ct0 oc1 kV1 dc1 pm1 cd1 ct1 oc2 kV2 dc2 pm2 cd2 ct2 oc3 kV3 dc3 pm3 cd3 ct3 oc4 kV4 dc4 pm4 cd4 ct4 oc5 kV5 dc5 pm5 cd5 ct5 oc6 kV6 dc6 pm6 cd6 ct6 oc7 kV7 dc7 pm7 cd7 ct7 oc8 kV8 dc8 pm8 cd8 ct8 oc9 kV9 dc9 pm9 cd9 ct9 oc10 kV10 dc10 pm10 cd10 ct10 oc11 kV11 dc11 pm11 cd11 ct11 oc12 kV12 dc12 pm12 cd12 ct12 oc13 kV13 dc13 pm13 cd13 ct13 oc14 kV14 dc14 pm14 cd14 ct14 oc15 kV15 dc15 pm15 cd15 ct15 oc16 kV16 dc16 pm16 cd16 ct16 oc17 kV17 dc17 pm17 cd17 ct17 oc18 kV18 dc18 pm18 cd18 ct18 oc19 kV19 dc19 pm19 cd19 ct19 oc20 kV20 dc20 pm20 cd20 ct20 oc21 kV21 dc21 pm21 cd21 ct21 oc22 kV22 dc22 pm22 cd22 ct22 oc23 kV23 dc23 pm23 cd23 ct23 oc24 kV24 dc24 pm24 cd24 ct24 oc25 kV25 dc25 pm25 cd25 ct25 oc26 kV26 dc26 pm26 cd26 ct26 oc27 kV27 dc27 pm27 cd27 ct27 : Value} {tk1 tk2 tk3 tk4 tk5 tk6 tk7 : Tok}
    (aC : PySem.W.nsIn K mainGlobals "Disk" = some (some (.ref C)))
    (a0 : PySem.W.nsIn K mainGlobals "is_integer" = some (some (.ref f0)))
    (l0 : K.lookup f0 = some ⟨oc0, od0, .func (PySem.W.fnOf "is_integer" "is_integer" (defArgs S_is_integer) (defBody S_is_integer) (defScope S_is_integer) .none kV0 dc0 pm0 an0 cd0 ct0), sl0⟩)
    (c0 : PySem.W.codeIn K cd0 "is_integer" = true)
    (k0 : PySem.W.keepIn K (.ref f0) = true)
    (a1 : PySem.W.nsIn K mainGlobals "is_within" = some (some (.ref f1)))
    (l1 : K.lookup f1 = some ⟨oc1, od1, .func (PySem.W.fnOf "is_within" "is_within" (defArgs S_is_within) (defBody S_is_within) (defScope S_is_within) .none kV1 dc1 pm1 an1 cd1 ct1), sl1⟩)
    (c1 : PySem.W.codeIn K cd1 "is_within" = true)
    (k1 : PySem.W.keepIn K (.ref f1) = true)
    (a2 : PySem.W.nsIn K mainGlobals "are_within" = some (some (.ref f2)))
    (l2 : K.lookup f2 = some ⟨oc2, od2, .func (PySem.W.fnOf "are_within" "are_within" (defArgs S_are_within) (defBody S_are_within) (defScope S_are_within) .none kV2 dc2 pm2 an2 cd2 ct2), sl2⟩)
    (c2 : PySem.W.codeIn K cd2 "are_within" = true)
    (k2 : PySem.W.keepIn K (.ref f2) = true)
    (a3 : PySem.W.nsIn K mainGlobals "are_words" = some (some (.ref f3)))
    (l3 : K.lookup f3 = some ⟨oc3, od3, .func (PySem.W.fnOf "are_words" "are_words" (defArgs S_are_words) (defBody S_are_words) (defScope S_are_words) .none kV3 dc3 pm3 an3 cd3 ct3), sl3⟩)
    (c3 : PySem.W.codeIn K cd3 "are_words" = true)
    (k3 : PySem.W.keepIn K (.ref f3) = true)
    (a4 : PySem.W.nsIn K mainGlobals "is_block" = some (some (.ref f4)))
    (l4 : K.lookup f4 = some ⟨oc4, od4, .func (PySem.W.fnOf "is_block" "is_block" (defArgs S_is_block) (defBody S_is_block) (defScope S_is_block) .none kV4 dc4 pm4 an4 cd4 ct4), sl4⟩)
    (c4 : PySem.W.codeIn K cd4 "is_block" = true)
    (k4 : PySem.W.keepIn K (.ref f4) = true)
    (a5 : PySem.W.nsIn K mainGlobals "is_fuse" = some (some (.ref f5)))
    (l5 : K.lookup f5 = some ⟨oc5, od5, .func (PySem.W.fnOf "is_fuse" "is_fuse" (defArgs S_is_fuse) (defBody S_is_fuse) (defScope S_is_fuse) .none kV5 dc5 pm5 an5 cd5 ct5), sl5⟩)
    (c5 : PySem.W.codeIn K cd5 "is_fuse" = true)
    (k5 : PySem.W.keepIn K (.ref f5) = true)
    (a6 : PySem.W.findIn K (.ref C) "__init__" = some (some (.ref f6)))
    (l6 : K.lookup f6 = some ⟨oc6, od6, .func (PySem.W.fnOf "__init__" "Disk.__init__" (defArgs S_Disk___init__) (defBody S_Disk___init__) (defScope S_Disk___init__) .none kV6 dc6 pm6 an6 cd6 ct6), sl6⟩)
    (c6 : PySem.W.codeIn K cd6 "Disk.__init__" = true)
    (k6 : PySem.W.keepIn K (.ref f6) = true)
    (i6 : PySem.W.isFn K (.ref f6) = true)
    (a7 : PySem.W.findIn K (.ref C) "sizes" = some (some (.ref f7)))
    (l7 : K.lookup f7 = some ⟨oc7, od7, .func (PySem.W.fnOf "sizes" "Disk.sizes" (defArgs S_Disk_sizes) (defBody S_Disk_sizes) (defScope S_Disk_sizes) .none kV7 dc7 pm7 an7 cd7 ct7), sl7⟩)
    (c7 : PySem.W.codeIn K cd7 "Disk.sizes" = true)
    (k7 : PySem.W.keepIn K (.ref f7) = true)
    (i7 : PySem.W.isFn K (.ref f7) = true)
    (a8 : PySem.W.findIn K (.ref C) "many" = some (some (.ref f8)))
    (l8 : K.lookup f8 = some ⟨oc8, od8, .func (PySem.W.fnOf "many" "Disk.many" (defArgs S_Disk_many) (defBody S_Disk_many) (defScope S_Disk_many) .none kV8 dc8 pm8 an8 cd8 ct8), sl8⟩)
    (c8 : PySem.W.codeIn K cd8 "Disk.many" = true)
    (k8 : PySem.W.keepIn K (.ref f8) = true)
    (i8 : PySem.W.isFn K (.ref f8) = true)
    (a9 : PySem.W.findIn K (.ref C) "read" = some (some (.ref f9)))
    (l9 : K.lookup f9 = some ⟨oc9, od9, .func (PySem.W.fnOf "read" "Disk.read" (defArgs S_Disk_read) (defBody S_Disk_read) (defScope S_Disk_read) .none kV9 dc9 pm9 an9 cd9 ct9), sl9⟩)
    (c9 : PySem.W.codeIn K cd9 "Disk.read" = true)
    (k9 : PySem.W.keepIn K (.ref f9) = true)
    (i9 : PySem.W.isFn K (.ref f9) = true)
    (a10 : PySem.W.findIn K (.ref C) "write" = some (some (.ref f10)))
    (l10 : K.lookup f10 = some ⟨oc10, od10, .func (PySem.W.fnOf "write" "Disk.write" (defArgs S_Disk_write) (defBody S_Disk_write) (defScope S_Disk_write) .none kV10 dc10 pm10 an10 cd10 ct10), sl10⟩)
    (c10 : PySem.W.codeIn K cd10 "Disk.write" = true)
    (k10 : PySem.W.keepIn K (.ref f10) = true)
    (i10 : PySem.W.isFn K (.ref f10) = true)
    (a11 : PySem.W.findIn K (.ref C) "force" = some (some (.ref f11)))
    (l11 : K.lookup f11 = some ⟨oc11, od11, .func (PySem.W.fnOf "force" "Disk.force" (defArgs S_Disk_force) (defBody S_Disk_force) (defScope S_Disk_force) .none kV11 dc11 pm11 an11 cd11 ct11), sl11⟩)
    (c11 : PySem.W.codeIn K cd11 "Disk.force" = true)
    (k11 : PySem.W.keepIn K (.ref f11) = true)
    (i11 : PySem.W.isFn K (.ref f11) = true)
    (a12 : PySem.W.findIn K (.ref C) "waiting" = some (some (.ref f12)))
    (l12 : K.lookup f12 = some ⟨oc12, od12, .func (PySem.W.fnOf "waiting" "Disk.waiting" (defArgs S_Disk_waiting) (defBody S_Disk_waiting) (defScope S_Disk_waiting) .none kV12 dc12 pm12 an12 cd12 ct12), sl12⟩)
    (c12 : PySem.W.codeIn K cd12 "Disk.waiting" = true)
    (k12 : PySem.W.keepIn K (.ref f12) = true)
    (i12 : PySem.W.isFn K (.ref f12) = true)
    (a13 : PySem.W.findIn K (.ref C) "standing" = some (some (.ref f13)))
    (l13 : K.lookup f13 = some ⟨oc13, od13, .func (PySem.W.fnOf "standing" "Disk.standing" (defArgs S_Disk_standing) (defBody S_Disk_standing) (defScope S_Disk_standing) .none kV13 dc13 pm13 an13 cd13 ct13), sl13⟩)
    (c13 : PySem.W.codeIn K cd13 "Disk.standing" = true)
    (k13 : PySem.W.keepIn K (.ref f13) = true)
    (i13 : PySem.W.isFn K (.ref f13) = true)
    (a14 : PySem.W.findIn K (.ref C) "fuse" = some (some (.ref f14)))
    (l14 : K.lookup f14 = some ⟨oc14, od14, .func (PySem.W.fnOf "fuse" "Disk.fuse" (defArgs S_Disk_fuse) (defBody S_Disk_fuse) (defScope S_Disk_fuse) .none kV14 dc14 pm14 an14 cd14 ct14), sl14⟩)
    (c14 : PySem.W.codeIn K cd14 "Disk.fuse" = true)
    (k14 : PySem.W.keepIn K (.ref f14) = true)
    (i14 : PySem.W.isFn K (.ref f14) = true)
    (a15 : PySem.W.findIn K (.ref C) "_check_place" = some (some (.ref f15)))
    (l15 : K.lookup f15 = some ⟨oc15, od15, .func (PySem.W.fnOf "_check_place" "Disk._check_place" (defArgs S_Disk__check_place) (defBody S_Disk__check_place) (defScope S_Disk__check_place) .none kV15 dc15 pm15 an15 cd15 ct15), sl15⟩)
    (c15 : PySem.W.codeIn K cd15 "Disk._check_place" = true)
    (k15 : PySem.W.keepIn K (.ref f15) = true)
    (i15 : PySem.W.isFn K (.ref f15) = true)
    (a16 : PySem.W.findIn K (.ref C) "_burn" = some (some (.ref f16)))
    (l16 : K.lookup f16 = some ⟨oc16, od16, .func (PySem.W.fnOf "_burn" "Disk._burn" (defArgs S_Disk__burn) (defBody S_Disk__burn) (defScope S_Disk__burn) .none kV16 dc16 pm16 an16 cd16 ct16), sl16⟩)
    (c16 : PySem.W.codeIn K cd16 "Disk._burn" = true)
    (k16 : PySem.W.keepIn K (.ref f16) = true)
    (i16 : PySem.W.isFn K (.ref f16) = true)
    (a17 : PySem.W.findIn K (.ref C) "_wait_for_none" = some (some (.ref f17)))
    (l17 : K.lookup f17 = some ⟨oc17, od17, .func (PySem.W.fnOf "_wait_for_none" "Disk._wait_for_none" (defArgs S_Disk__wait_for_none) (defBody S_Disk__wait_for_none) (defScope S_Disk__wait_for_none) .none kV17 dc17 pm17 an17 cd17 ct17), sl17⟩)
    (c17 : PySem.W.codeIn K cd17 "Disk._wait_for_none" = true)
    (k17 : PySem.W.keepIn K (.ref f17) = true)
    (i17 : PySem.W.isFn K (.ref f17) = true)
    (a18 : PySem.W.nsIn K mainGlobals "place_at" = some (some (.ref f18)))
    (l18 : K.lookup f18 = some ⟨oc18, od18, .func (PySem.W.fnOf "place_at" "place_at" (defArgs S_place_at) (defBody S_place_at) (defScope S_place_at) .none kV18 dc18 pm18 an18 cd18 ct18), sl18⟩)
    (c18 : PySem.W.codeIn K cd18 "place_at" = true)
    (k18 : PySem.W.keepIn K (.ref f18) = true)
    (a19 : PySem.W.nsIn K mainGlobals "_law_deck" = some (some (.ref f19)))
    (l19 : K.lookup f19 = some ⟨oc19, od19, .func (PySem.W.fnOf "_law_deck" "_law_deck" (defArgs S__law_deck) (defBody S__law_deck) (defScope S__law_deck) .none kV19 dc19 pm19 an19 cd19 ct19), sl19⟩)
    (c19 : PySem.W.codeIn K cd19 "_law_deck" = true)
    (k19 : PySem.W.keepIn K (.ref f19) = true)
    (a20 : PySem.W.nsIn K mainGlobals "_law_draw" = some (some (.ref f20)))
    (l20 : K.lookup f20 = some ⟨oc20, od20, .func (PySem.W.fnOf "_law_draw" "_law_draw" (defArgs S__law_draw) (defBody S__law_draw) (defScope S__law_draw) .none kV20 dc20 pm20 an20 cd20 ct20), sl20⟩)
    (c20 : PySem.W.codeIn K cd20 "_law_draw" = true)
    (k20 : PySem.W.keepIn K (.ref f20) = true)
    (a21 : PySem.W.nsIn K mainGlobals "_law_pick" = some (some (.ref f21)))
    (l21 : K.lookup f21 = some ⟨oc21, od21, .func (PySem.W.fnOf "_law_pick" "_law_pick" (defArgs S__law_pick) (defBody S__law_pick) (defScope S__law_pick) .none kV21 dc21 pm21 an21 cd21 ct21), sl21⟩)
    (c21 : PySem.W.codeIn K cd21 "_law_pick" = true)
    (k21 : PySem.W.keepIn K (.ref f21) = true)
    (a22 : PySem.W.nsIn K mainGlobals "_law_sizes" = some (some (.ref f22)))
    (l22 : K.lookup f22 = some ⟨oc22, od22, .func (PySem.W.fnOf "_law_sizes" "_law_sizes" (defArgs S__law_sizes) (defBody S__law_sizes) (defScope S__law_sizes) .none kV22 dc22 pm22 an22 cd22 ct22), sl22⟩)
    (c22 : PySem.W.codeIn K cd22 "_law_sizes" = true)
    (k22 : PySem.W.keepIn K (.ref f22) = true)
    (a23 : PySem.W.nsIn K mainGlobals "_law_many" = some (some (.ref f23)))
    (l23 : K.lookup f23 = some ⟨oc23, od23, .func (PySem.W.fnOf "_law_many" "_law_many" (defArgs S__law_many) (defBody S__law_many) (defScope S__law_many) .none kV23 dc23 pm23 an23 cd23 ct23), sl23⟩)
    (c23 : PySem.W.codeIn K cd23 "_law_many" = true)
    (k23 : PySem.W.keepIn K (.ref f23) = true)
    (a24 : PySem.W.nsIn K mainGlobals "_law_place" = some (some (.ref f24)))
    (l24 : K.lookup f24 = some ⟨oc24, od24, .func (PySem.W.fnOf "_law_place" "_law_place" (defArgs S__law_place) (defBody S__law_place) (defScope S__law_place) .none kV24 dc24 pm24 an24 cd24 ct24), sl24⟩)
    (c24 : PySem.W.codeIn K cd24 "_law_place" = true)
    (k24 : PySem.W.keepIn K (.ref f24) = true)
    (a25 : PySem.W.nsIn K mainGlobals "_law_word" = some (some (.ref f25)))
    (l25 : K.lookup f25 = some ⟨oc25, od25, .func (PySem.W.fnOf "_law_word" "_law_word" (defArgs S__law_word) (defBody S__law_word) (defScope S__law_word) .none kV25 dc25 pm25 an25 cd25 ct25), sl25⟩)
    (c25 : PySem.W.codeIn K cd25 "_law_word" = true)
    (k25 : PySem.W.keepIn K (.ref f25) = true)
    (a26 : PySem.W.nsIn K mainGlobals "_law_block" = some (some (.ref f26)))
    (l26 : K.lookup f26 = some ⟨oc26, od26, .func (PySem.W.fnOf "_law_block" "_law_block" (defArgs S__law_block) (defBody S__law_block) (defScope S__law_block) .none kV26 dc26 pm26 an26 cd26 ct26), sl26⟩)
    (c26 : PySem.W.codeIn K cd26 "_law_block" = true)
    (k26 : PySem.W.keepIn K (.ref f26) = true)
    (a27 : PySem.W.nsIn K mainGlobals "law" = some (some (.ref f27)))
    (l27 : K.lookup f27 = some ⟨oc27, od27, .func (PySem.W.fnOf "law" "law" (defArgs S_law) (defBody S_law) (defScope S_law) .none kV27 dc27 pm27 an27 cd27 ct27), sl27⟩)
    (c27 : PySem.W.codeIn K cd27 "law" = true)
    (k27 : PySem.W.keepIn K (.ref f27) = true)
    (pg : PySem.W.plainGet K C Str.empty = true)
    (hd : PySem.W.hasDictIn K C = true)
    (po : PySem.W.plainOver K C = true)
    (sa : PySem.W.findIn K (.ref C) "__setattr__" = some (some (.builtin "object.__setattr__")))
    (mkI : PySem.W.makesIn K C = true)
    (kC : PySem.W.keepIn K (.ref C) = true)
    (nS : PySem.W.findIn K (.ref C) "_sizes" = some none)
    (nT : PySem.W.findIn K (.ref C) "_standing" = some none)
    (nW : PySem.W.findIn K (.ref C) "_waiting" = some none)
    (nN : PySem.W.findIn K (.ref C) "_newest" = some none)
    (nF : PySem.W.findIn K (.ref C) "_fuse" = some none)
    (ic : PySem.W.findIn K (.ref C) "__class__" = some (some (.builtin "object.__class__")))
    (ig : PySem.W.specialIn K (.builtin "object.__class__") "__get__" = some (some (.builtin "getset_descriptor.__get__")))
    (it : PySem.W.takesIn K (.builtin "object.__class__") = some true)
    (im : PySem.W.mroIn K C (.type "object") = some true)
    (m1 : PySem.W.nsIn K mainGlobals "LEAST_SEGMENTS" = some (some (.int 6 tk1)))
    (m2 : PySem.W.nsIn K mainGlobals "MOST_SEGMENTS" = some (some (.int 40 tk2)))
    (m3 : PySem.W.nsIn K mainGlobals "LEAST_BLOCKS" = some (some (.int 4 tk3)))
    (m4 : PySem.W.nsIn K mainGlobals "MOST_BLOCKS" = some (some (.int 24 tk4)))
    (m5 : PySem.W.nsIn K mainGlobals "BLOCK_WORDS" = some (some (.int 32 tk5)))
    (m6 : PySem.W.nsIn K mainGlobals "CONTENT_WORDS" = some (some (.int 28 tk6)))
    (m7 : PySem.W.nsIn K mainGlobals "ROOT_WORDS" = some (some (.int 4 tk7)))
    (z_int : PySem.W.nsIn K mainGlobals "int" = some none)
    (z_bool : PySem.W.nsIn K mainGlobals "bool" = some none)
    (z_tuple : PySem.W.nsIn K mainGlobals "tuple" = some none)
    (z_all : PySem.W.nsIn K mainGlobals "all" = some none)
    (z_len : PySem.W.nsIn K mainGlobals "len" = some none)
    (z_isinstance : PySem.W.nsIn K mainGlobals "isinstance" = some none)
    (z_max : PySem.W.nsIn K mainGlobals "max" = some none)
    (z_repr : PySem.W.nsIn K mainGlobals "repr" = some none)
    (z_range : PySem.W.nsIn K mainGlobals "range" = some none)
    (z_list : PySem.W.nsIn K mainGlobals "list" = some none)
    : ∃ (fd : FuncData) (t : Addr), TupAt h t ((List.replicate 32 (0 : Int)).map V.int) ∧ (∀ (s : Shared) (u : Value), BindsTo s fd ⟨[u], []⟩ [("script", u)]) ∧
        ∀ (base : Heap) (s₁ : Shared) (H : Hp) (a : Addr) (u : Value) (ns : List Int), Env0 l.prog w K mg base callerA [] s₁ H → BindsTo s₁ fd ⟨[u], []⟩ [("script", u)] → u = .ref a →
          SqL K H a (ns.map V.int) → ns.length ≤ 63 → SqT K H t ((List.replicate 32 (0 : Int)).map V.int) → (∀ b, H b ≠ none → b = a ∨ b = t) →
          codeAny (model l.prog w) callerA (.call (.ref fa) ⟨[u], []⟩) (CR CX0 [] l.prog w H s₁ (fun v _ => v = .bl true) E0) s₁ := by
  have e := hfa.symm.trans (PySem.W.mg_of X G a27)
  cases e
  obtain ⟨ba, hba, htup⟩ := hBL
  have mgo : ∀ {n : Str} {v : Value}, PySem.W.nsIn K mainGlobals n = some (some v) → mg n = some v := fun e => PySem.W.mg_of X G e
  have mgn : ∀ {n : Str}, PySem.W.nsIn K mainGlobals n = some none → mg n = none := fun e => PySem.W.mg_none_of X G e
  have ie : PySem.W.kitOne K (.ref C) (.ref C) = some true := by
    unfold PySem.W.kitOne
    rw [if_pos (beq_self_eq_true _)]
  have cl : Cls K C := ⟨pg, hd, po, sa⟩
  have T : DT K mg C f6 ba := ⟨cl, ⟨mkI, a6, i6, kC⟩, mgo aC, ⟨cl, ic, ig, it, im, ie⟩, nS, nT, nW, nN, nF, hba, ⟨_, mgo m1⟩, ⟨_, mgo m2⟩, ⟨_, mgo m3⟩, ⟨_, mgo m4⟩, ⟨_, mgo m5⟩, ⟨_, mgo m6⟩, ⟨_, mgo m7⟩⟩
  have Kt : Kn mg := ⟨mgn z_isinstance, mgn z_int, mgn z_bool, mgn z_tuple, mgn z_all, mgn z_len, hM⟩
  have B : Bi mg := ⟨mgn z_int, mgn z_max, mgn z_len⟩
  have FL := fun_mk (st := S_law) l27 c27 k27
  let dInt : DefT K mg "is_integer" S_is_integer := ⟨_, _, fun_mk (st := S_is_integer) l0 c0 k0, mgo a0⟩
  let dWithin : DefT K mg "is_within" S_is_within := ⟨_, _, fun_mk (st := S_is_within) l1 c1 k1, mgo a1⟩
  let dAre : DefT K mg "are_within" S_are_within := ⟨_, _, fun_mk (st := S_are_within) l2 c2 k2, mgo a2⟩
  let dWords : DefT K mg "are_words" S_are_words := ⟨_, _, fun_mk (st := S_are_words) l3 c3 k3, mgo a3⟩
  let dBlk : DefT K mg "is_block" S_is_block := ⟨_, _, fun_mk (st := S_is_block) l4 c4 k4, mgo a4⟩
  let dAt : DefT K mg "place_at" S_place_at := ⟨_, _, fun_mk (st := S_place_at) l18 c18 k18, mgo a18⟩
  let dDeck : DefT K mg "_law_deck" S__law_deck := ⟨_, _, fun_mk (st := S__law_deck) l19 c19 k19, mgo a19⟩
  let dDraw : DefT K mg "_law_draw" S__law_draw := ⟨_, _, fun_mk (st := S__law_draw) l20 c20 k20, mgo a20⟩
  let dPick : DefT K mg "_law_pick" S__law_pick := ⟨_, _, fun_mk (st := S__law_pick) l21 c21 k21, mgo a21⟩
  let dSizes : DefT K mg "_law_sizes" S__law_sizes := ⟨_, _, fun_mk (st := S__law_sizes) l22 c22 k22, mgo a22⟩
  let dMany : DefT K mg "_law_many" S__law_many := ⟨_, _, fun_mk (st := S__law_many) l23 c23 k23, mgo a23⟩
  let dPlace : DefT K mg "_law_place" S__law_place := ⟨_, _, fun_mk (st := S__law_place) l24 c24 k24, mgo a24⟩
  let dWord : DefT K mg "_law_word" S__law_word := ⟨_, _, fun_mk (st := S__law_word) l25 c25 k25, mgo a25⟩
  let dBlock : DefT K mg "_law_block" S__law_block := ⟨_, _, fun_mk (st := S__law_block) l26 c26 k26, mgo a26⟩
  let nInit : MthT K C "__init__" "Disk.__init__" S_Disk___init__ := ⟨_, _, fun_mk (st := S_Disk___init__) l6 c6 k6, ⟨a6, i6, k6⟩⟩
  let nSizes : MthT K C "sizes" "Disk.sizes" S_Disk_sizes := ⟨_, _, fun_mk (st := S_Disk_sizes) l7 c7 k7, ⟨a7, i7, k7⟩⟩
  let nMany : MthT K C "many" "Disk.many" S_Disk_many := ⟨_, _, fun_mk (st := S_Disk_many) l8 c8 k8, ⟨a8, i8, k8⟩⟩
  let nRead : MthT K C "read" "Disk.read" S_Disk_read := ⟨_, _, fun_mk (st := S_Disk_read) l9 c9 k9, ⟨a9, i9, k9⟩⟩
  let nWrite : MthT K C "write" "Disk.write" S_Disk_write := ⟨_, _, fun_mk (st := S_Disk_write) l10 c10 k10, ⟨a10, i10, k10⟩⟩
  let nForce : MthT K C "force" "Disk.force" S_Disk_force := ⟨_, _, fun_mk (st := S_Disk_force) l11 c11 k11, ⟨a11, i11, k11⟩⟩
  let nWait : MthT K C "waiting" "Disk.waiting" S_Disk_waiting := ⟨_, _, fun_mk (st := S_Disk_waiting) l12 c12 k12, ⟨a12, i12, k12⟩⟩
  let nStand : MthT K C "standing" "Disk.standing" S_Disk_standing := ⟨_, _, fun_mk (st := S_Disk_standing) l13 c13 k13, ⟨a13, i13, k13⟩⟩
  let nCheck : MthT K C "_check_place" "Disk._check_place" S_Disk__check_place := ⟨_, _, fun_mk (st := S_Disk__check_place) l15 c15 k15, ⟨a15, i15, k15⟩⟩
  let nBurn : MthT K C "_burn" "Disk._burn" S_Disk__burn := ⟨_, _, fun_mk (st := S_Disk__burn) l16 c16 k16, ⟨a16, i16, k16⟩⟩
  let nNone : MthT K C "_wait_for_none" "Disk._wait_for_none" S_Disk__wait_for_none := ⟨_, _, fun_mk (st := S_Disk__wait_for_none) l17 c17 k17, ⟨a17, i17, k17⟩⟩
  refine ⟨PySem.W.fnOf "law" "law" (defArgs S_law) (defBody S_law) (defScope S_law) .none kV27 dc27 pm27 an27 cd27 ct27, ba, htup, fun s v => .of_eq rfl, fun base s₁ H a u ns en hb hu hS hl hB _ => ?_⟩
  let gInt : Cal l.prog w K mg base 1 _ _ _ := dInt.cal (dInt.F.binds (ps := ["thing"]) fun _ _ _ _ _ _ us hl => match us, hl with | [_], _ => rfl) (ok_int dInt Kt)
  let gWithin : Cal l.prog w K mg base 2 _ _ _ := dWithin.cal (dWithin.F.binds (ps := ["thing", "least", "most"]) fun _ _ _ _ _ _ us hl => match us, hl with | [_, _, _], _ => rfl) (ok_within dWithin Kt gInt)
  let gAre : Cal l.prog w K mg base 3 _ _ _ := dAre.cal (dAre.F.binds (ps := ["thing", "least", "most"]) fun _ _ _ _ _ _ us hl => match us, hl with | [_, _, _], _ => rfl) (ok_are dAre Kt gWithin)
  let gWords : Cal l.prog w K mg base 4 _ _ _ := dWords.cal (dWords.F.binds (ps := ["thing"]) fun _ _ _ _ _ _ us hl => match us, hl with | [_], _ => rfl) (ok_words dWords Kt gAre)
  let gBlk : Cal l.prog w K mg base 5 _ _ _ := dBlk.cal (dBlk.F.binds (ps := ["thing"]) fun _ _ _ _ _ _ us hl => match us, hl with | [_], _ => rfl) (ok_isblk dBlk T Kt gWords)
  let gSizesM : MCal l.prog w K mg base C 1 _ _ _ := nSizes.cal (nSizes.F.binds (ps := ["self"]) fun _ _ _ _ _ _ us hl => match us, hl with | [_], _ => rfl) (ok_dsizes nSizes T)
  let gManyM : MCal l.prog w K mg base C 1 _ _ _ := nMany.cal (nMany.F.binds (ps := ["self"]) fun _ _ _ _ _ _ us hl => match us, hl with | [_], _ => rfl) (ok_dmany nMany T B)
  let gCheck : MCal l.prog w K mg base C 3 _ _ _ := nCheck.cal (nCheck.F.binds (ps := ["self", "place"]) fun _ _ _ _ _ _ us hl => match us, hl with | [_, _], _ => rfl) (ok_check nCheck T B gWithin)
  let gBurn : MCal l.prog w K mg base C 1 _ _ _ := nBurn.cal (nBurn.F.binds (ps := ["self"]) fun _ _ _ _ _ _ us hl => match us, hl with | [_], _ => rfl) (ok_burn nBurn T)
  let gNone : MCal l.prog w K mg base C 1 _ _ _ := nNone.cal (nNone.F.binds (ps := ["self"]) fun _ _ _ _ _ _ us hl => match us, hl with | [_], _ => rfl) (ok_wnone nNone T)
  let gRead : MCal l.prog w K mg base C 4 _ _ _ := nRead.cal (nRead.F.binds (ps := ["self", "place"]) fun _ _ _ _ _ _ us hl => match us, hl with | [_, _], _ => rfl) (ok_read nRead T gCheck)
  let gWrite : MCal l.prog w K mg base C 6 _ _ _ := nWrite.cal (nWrite.F.binds (ps := ["self", "place", "block"]) fun _ _ _ _ _ _ us hl => match us, hl with | [_, _, _], _ => rfl) (ok_write nWrite T gCheck gBurn gBlk)
  let gForce : MCal l.prog w K mg base C 2 _ _ _ := nForce.cal (nForce.F.binds (ps := ["self"]) fun _ _ _ _ _ _ us hl => match us, hl with | [_], _ => rfl) (ok_force nForce T gBurn gNone)
  let gWait : MCal l.prog w K mg base C 1 _ _ _ := nWait.cal (nWait.F.binds (ps := ["self"]) fun _ _ _ _ _ _ us hl => match us, hl with | [_], _ => rfl) (ok_waiting nWait T Kt)
  let gStand : MCal l.prog w K mg base C 1 _ _ _ := nStand.cal (nStand.F.binds (ps := ["self"]) fun _ _ _ _ _ _ us hl => match us, hl with | [_], _ => rfl) (ok_standing nStand T Kt)
  let gInit : ICal l.prog w K mg base C 3 ["self", "segments", "blocks"] (spDInit K C ba) := ⟨nInit.f, nInit.fd, T.mkC, nInit.F.binds (ps := ["self", "segments", "blocks"]) fun _ _ _ _ _ _ us hl => match us, hl with | [_, _, _], _ => rfl, ok_dinit nInit T gWithin⟩
  let gAt : Cal l.prog w K mg base 3 _ _ _ := dAt.cal (dAt.F.binds (ps := ["disk", "segment", "offset"]) fun _ _ _ _ _ _ us hl => match us, hl with | [_, _, _], _ => rfl) (ok_placeAt dAt T Kt gSizesM gWithin)
  let gDeck : Cal l.prog w K mg base 1 _ _ _ := dDeck.cal (dDeck.F.binds (ps := ["script"]) fun _ _ _ _ _ _ us hl => match us, hl with | [_], _ => rfl) (ok_deck dDeck B)
  let gDraw : Cal l.prog w K mg base 1 _ _ _ := dDraw.cal (dDraw.F.binds (ps := ["deck", "below"]) fun _ _ _ _ _ _ us hl => match us, hl with | [_, _], _ => rfl) (ok_draw dDraw B)
  let gPick : Cal l.prog w K mg base 2 _ _ _ := dPick.cal (dPick.F.binds (ps := ["deck", "some"]) fun _ _ _ _ _ _ us hl => match us, hl with | [_, _], _ => rfl) (ok_pick dPick B gDraw)
  let gSizes : Cal l.prog w K mg base 1 _ _ _ := dSizes.cal (dSizes.F.binds (ps := ["segments", "blocks"]) fun _ _ _ _ _ _ us hl => match us, hl with | [_, _], _ => rfl) (ok_sizes dSizes)
  let gMany : Cal l.prog w K mg base 1 _ _ _ := dMany.cal (dMany.F.binds (ps := ["sizes"]) fun _ _ _ _ _ _ us hl => match us, hl with | [_], _ => rfl) (ok_many dMany)
  let gPlace : Cal l.prog w K mg base 1 _ _ _ := dPlace.cal (dPlace.F.binds (ps := ["sizes", "segment", "offset"]) fun _ _ _ _ _ _ us hl => match us, hl with | [_, _, _], _ => rfl) (ok_place dPlace)
  let gWord : Cal l.prog w K mg base 3 _ _ _ := dWord.cal (dWord.F.binds (ps := ["deck"]) fun _ _ _ _ _ _ us hl => match us, hl with | [_], _ => rfl) (ok_word dWord gDraw gPick)
  let gBlock : Cal l.prog w K mg base 4 _ _ _ := dBlock.cal (dBlock.F.binds (ps := ["deck"]) fun _ _ _ _ _ _ us hl => match us, hl with | [_], _ => rfl) (ok_block dBlock B (mgn z_tuple) (mgn z_range) gDraw gWord)
  have kb : KBn K gAt.fd ["disk", "segment", "offset"] 0 ["offset", "segment", "disk"] turn3 turn3 := by
    refine ⟨fun s us ws _ h1 h2 => ?_, turn3_rel⟩
    match us, ws, h1, h2 with
    | [], [x, y, z], _, _ => exact .of_eq rfl
  exact run_law FL ⟨_, T, ⟨mgn z_repr, mgn z_max, mgn z_range, mgn z_list, mgn z_len⟩, gDeck, gDraw, gPick, gSizes, gMany, gPlace, gBlock, gInit, gSizesM, gManyM, gRead, gWrite, gForce, gWait, gStand, gAt, kb⟩ en hb hu hS hl hB
end
end Tk16

open PySem PySem.W PyProof.Rows
set_option maxRecDepth 100000 in
set_option maxHeartbeats 0 in
theorem PySem.Challenge.cw_trailkeep_k16_sizes_and_places_holds : PySem.Challenge.rw_trailkeep_k16_sizes_and_places.Holds := by
  w_on; o_law; k_head; (case hw => w_witness2)
  k_fill
  refine Tk.walk_law (l := PySem.Challenge.rw_trailkeep_k16_sizes_and_places) (x := "script") (zs := (List.replicate 32 (0 : Int)).map L2.V.int) rfl (by decide) rfl (fun w h Y => PySem.W.kIn_of Y) ?F
  case F =>
    intro w mg fa h KX G hX hmg
    refine' Tk16.all_mk (l := PySem.Challenge.rw_trailkeep_k16_sizes_and_places) KX G hmg (Tk16.loose_int hX.2 (List.Mem.head _)) (Tk16.loose_tup (zs := List.replicate 32 (0 : Int)) hX.2 (List.Mem.tail _ (List.Mem.head _)) (by decide)) ?aC ?a0 ?l0 ?c0 ?k0 ?a1 ?l1 ?c1 ?k1 ?a2 ?l2 ?c2 ?k2 ?a3 ?l3 ?c3 ?k3 ?a4 ?l4 ?c4 ?k4 ?a5 ?l5 ?c5 ?k5 ?a6 ?l6 ?c6 ?k6 ?i6 ?a7 ?l7 ?c7 ?k7 ?i7 ?a8 ?l8 ?c8 ?k8 ?i8 ?a9 ?l9 ?c9 ?k9 ?i9 ?a10 ?l10 ?c10 ?k10 ?i10 ?a11 ?l11 ?c11 ?k11 ?i11 ?a12 ?l12 ?c12 ?k12 ?i12 ?a13 ?l13 ?c13 ?k13 ?i13 ?a14 ?l14 ?c14 ?k14 ?i14 ?a15 ?l15 ?c15 ?k15 ?i15 ?a16 ?l16 ?c16 ?k16 ?i16 ?a17 ?l17 ?c17 ?k17 ?i17 ?a18 ?l18 ?c18 ?k18 ?a19 ?l19 ?c19 ?k19 ?a20 ?l20 ?c20 ?k20 ?a21 ?l21 ?c21 ?k21 ?a22 ?l22 ?c22 ?k22 ?a23 ?l23 ?c23 ?k23 ?a24 ?l24 ?c24 ?k24 ?a25 ?l25 ?c25 ?k25 ?a26 ?l26 ?c26 ?k26 ?a27 ?l27 ?c27 ?k27 ?pg ?hd ?po ?sa ?mkI ?kC ?nS ?nT ?nW ?nN ?nF ?ic ?ig ?it ?im ?m1 ?m2 ?m3 ?m4 ?m5 ?m6 ?m7 ?z_int ?z_bool ?z_tuple ?z_all ?z_len ?z_isinstance ?z_max ?z_repr ?z_range ?z_list
    (case aC => k_is)
    (case a0 => k_is)
    (case l0 => k_is)
    (case c0 => k_is)
    (case k0 => k_is)
    (case a1 => k_is)
    (case l1 => k_is)
    (case c1 => k_is)
    (case k1 => k_is)
    (case a2 => k_is)
    (case l2 => k_is)
    (case c2 => k_is)
    (case k2 => k_is)
    (case a3 => k_is)
    (case l3 => k_is)
    (case c3 => k_is)
    (case k3 => k_is)
    (case a4 => k_is)
    (case l4 => k_is)
    (case c4 => k_is)
    (case k4 => k_is)
    (case a5 => k_is)
    (case l5 => k_is)
    (case c5 => k_is)
    (case k5 => k_is)
    (case a6 => k_is)
    (case l6 => k_is)
    (case c6 => k_is)
    (case k6 => k_is)
    (case i6 => k_is)
    (case a7 => k_is)
    (case l7 => k_is)
    (case c7 => k_is)
    (case k7 => k_is)
    (case i7 => k_is)
    (case a8 => k_is)
    (case l8 => k_is)
    (case c8 => k_is)
    (case k8 => k_is)
    (case i8 => k_is)
    (case a9 => k_is)
    (case l9 => k_is)
    (case c9 => k_is)
    (case k9 => k_is)
    (case i9 => k_is)
    (case a10 => k_is)
    (case l10 => k_is)
    (case c10 => k_is)
    (case k10 => k_is)
    (case i10 => k_is)
    (case a11 => k_is)
    (case l11 => k_is)
    (case c11 => k_is)
    (case k11 => k_is)
    (case i11 => k_is)
    (case a12 => k_is)
    (case l12 => k_is)
    (case c12 => k_is)
    (case k12 => k_is)
    (case i12 => k_is)
    (case a13 => k_is)
    (case l13 => k_is)
    (case c13 => k_is)
    (case k13 => k_is)
    (case i13 => k_is)
    (case a14 => k_is)
    (case l14 => k_is)
    (case c14 => k_is)
    (case k14 => k_is)
    (case i14 => k_is)
    (case a15 => k_is)
    (case l15 => k_is)
    (case c15 => k_is)
    (case k15 => k_is)
    (case i15 => k_is)
    (case a16 => k_is)
    (case l16 => k_is)
    (case c16 => k_is)
    (case k16 => k_is)
    (case i16 => k_is)
    (case a17 => k_is)
    (case l17 => k_is)
    (case c17 => k_is)
    (case k17 => k_is)
    (case i17 => k_is)
    (case a18 => k_is)
    (case l18 => k_is)
    (case c18 => k_is)
    (case k18 => k_is)
    (case a19 => k_is)
    (case l19 => k_is)
    (case c19 => k_is)
    (case k19 => k_is)
    (case a20 => k_is)
    (case l20 => k_is)
    (case c20 => k_is)
    (case k20 => k_is)
    (case a21 => k_is)
    (case l21 => k_is)
    (case c21 => k_is)
    (case k21 => k_is)
    (case a22 => k_is)
    (case l22 => k_is)
    (case c22 => k_is)
    (case k22 => k_is)
    (case a23 => k_is)
    (case l23 => k_is)
    (case c23 => k_is)
    (case k23 => k_is)
    (case a24 => k_is)
    (case l24 => k_is)
    (case c24 => k_is)
    (case k24 => k_is)
    (case a25 => k_is)
    (case l25 => k_is)
    (case c25 => k_is)
    (case k25 => k_is)
    (case a26 => k_is)
    (case l26 => k_is)
    (case c26 => k_is)
    (case k26 => k_is)
    (case a27 => k_is)
    (case l27 => k_is)
    (case c27 => k_is)
    (case k27 => k_is)
    (case pg => k_is)
    (case hd => k_is)
    (case po => k_is)
    (case sa => k_is)
    (case mkI => k_is)
    (case kC => k_is)
    (case nS => k_is)
    (case nT => k_is)
    (case nW => k_is)
    (case nN => k_is)
    (case nF => k_is)
    (case ic => k_is)
    (case ig => k_is)
    (case it => k_is)
    (case im => k_is)
    (case m1 => k_is)
    (case m2 => k_is)
    (case m3 => k_is)
    (case m4 => k_is)
    (case m5 => k_is)
    (case m6 => k_is)
    (case m7 => k_is)
    (case z_int => k_is)
    (case z_bool => k_is)
    (case z_tuple => k_is)
    (case z_all => k_is)
    (case z_len => k_is)
    (case z_isinstance => k_is)
    (case z_max => k_is)
    (case z_repr => k_is)
    (case z_range => k_is)
    (case z_list => k_is)
