import PyProof.Rows.All
import Wide.All
import OpenK.AllK
import Wide.FinOn
import HandS.Call
import HandS.List
import HandS.Comp
import HandS.Dict
import HandS.Iter
import HandS.Ends
import PyProof.ReprRoads
import KE.DataMinMax
import HandS.Words
import HandS.WordsList
import HandS.Codes
import HandS.Exc
import HandS.Style
import HandS.IsInst
import HandS.Conv
import HandS.TupMul
import HandS.EndBits
import HandS.Defaults
import HandS.MakeKwOnly
import PyProof.ReprLen
import HandS.TupAny
import HandS.Zip
import KE.GoesEnum
import HandS.ExcInit
import HandS.WordsExc
import HandS.More
import HandS.TryOnly
import HandS.ExcOwn
import PyProof.InstEq
import PySem.Challenge.RW_trailkeep_k17_copies_of_disks
set_option Elab.async false
set_option linter.all false
set_option maxRecDepth 100000
set_option maxHeartbeats 1000000
namespace Tk
open PySem PySem.Spec PyProof.Rows L2

/-! what the layer lacks: repr of data, max of data, a call with the guards told -/
def rRep (K : PySem.W.Frag) : List V → Hp → VK → Prop := fun xs H Q =>
  ∃ (x : V) (d : PyData), xs = [x] ∧ Dp K H x d ∧ d.showable = true ∧ d.hasDict = false ∧ d.depth ≤ 60 ∧ d.shown.length ≤ sizeLine ∧ Q (.str d.shown) H

section
variable {X : Cx}
theorem call_repr (hg : X.A.guards = some []) (hu : X.A.units + 64 < cLine) : CallR X (.builtin "repr") (rRep X.K) := by
  intro pins s σ H xs us Q I r h
  obtain ⟨x, d, rfl, hd, hs, hn, hp, hz, q⟩ := h
  obtain ⟨u, rfl, ru⟩ := vals1 r
  cases hd with
  | non =>
    obtain rfl : u = Value.none := ru
    exact PySem.P.repr_of_none ⟨.str _, H, I.tok _, ⟨_, rfl⟩, by simpa only [PyData.shown] using q⟩
  | bl b =>
    obtain rfl : u = Value.bool b := ru
    exact PySem.P.repr_of_bool ⟨.str _, H, I.tok _, ⟨_, rfl⟩, by simpa only [PyData.shown] using q⟩
  | int i =>
    obtain ⟨t, rfl⟩ : ∃ t, u = Value.int i t := ru
    exact PySem.P.repr_of_int (by simpa [PyData.showable] using hs) ⟨.str _, H, I.tok _, ⟨_, rfl⟩, by simpa only [PyData.shown] using q⟩
  | str z =>
    obtain ⟨t, rfl⟩ : ∃ t, u = Value.str z t := ru
    exact PySem.P.repr_of_str ⟨.str _, H, I.tok _, ⟨_, rfl⟩, by simpa only [PyData.shown] using q⟩ (by simpa only [PyData.shown] using hz)
  | lst h1 h2 =>
    obtain rfl : u = Value.ref _ := ru
    obtain ⟨as, rd⟩ := Dp.reads I _ _ _ (Dp.lst h1 h2) rfl
    exact repr_of_reads' rd hs (PyData.noDict_hsm hn) hg (by omega) (fun _ _ e => e) (fun h' u tk hk => ⟨.str _, H, I.kept hk, ⟨_, rfl⟩, q⟩) hz
  | tup h1 h2 =>
    obtain rfl : u = Value.ref _ := ru
    obtain ⟨as, rd⟩ := Dp.reads I _ _ _ (Dp.tup h1 h2) rfl
    exact repr_of_reads' rd hs (PyData.noDict_hsm hn) hg (by omega) (fun _ _ e => e) (fun h' u tk hk => ⟨.str _, H, I.kept hk, ⟨_, rfl⟩, q⟩) hz
end
end Tk

namespace Tk
open PySem PySem.Spec PyProof.Rows L2

/-- a def of the top, as it stands in the written part -/
structure DefT (K : PySem.W.Frag) (mg : Str → Option Value) (x : Str) (st : Stmt) where
  f : Addr
  fd : FuncData
  F : Fun K x x st f fd
  g : mg x = some (.ref f)
/-- a method -/
structure MthT (K : PySem.W.Frag) (C : Addr) (m qual : Str) (st : Stmt) where
  f : Addr
  fd : FuncData
  F : Fun K m qual st f fd
  me : Meth K C m f
/-- a def that keeps its promise, and may be called -/
structure Cal (P : Program) (w : World) (K : PySem.W.Frag) (mg : Str → Option Value) (base : Heap) (k : Nat) (x : Str) (ps : List Str) (sp : Sp) where
  f : Addr
  fd : FuncData
  g : mg x = some (.ref f)
  kp : PySem.W.keepIn K (.ref f) = true
  b : Binds K fd ps []
  ok : FnOk P w K mg base CX0 k f fd ps sp
structure MCal (P : Program) (w : World) (K : PySem.W.Frag) (mg : Str → Option Value) (base : Heap) (C : Addr) (k : Nat) (m : Str) (ps : List Str) (sp : Sp) where
  f : Addr
  fd : FuncData
  me : Meth K C m f
  b : Binds K fd ps []
  ok : FnOk P w K mg base CX0 k f fd ps sp
section
variable {P : Program} {w : World} {K : PySem.W.Frag} {mg : Str → Option Value} {base : Heap} {x m qual : Str} {st : Stmt} {k : Nat} {ps : List Str} {sp : Sp} {C : Addr}
def DefT.cal (D : DefT K mg x st) (b : Binds K D.fd ps []) (ok : FnOk P w K mg base CX0 k D.f D.fd ps sp) : Cal P w K mg base k x ps sp := ⟨D.f, D.fd, D.g, D.F.kp, b, ok⟩
def MthT.cal (D : MthT K C m qual st) (b : Binds K D.fd ps []) (ok : FnOk P w K mg base CX0 k D.f D.fd ps sp) : MCal P w K mg base C k m ps sp := ⟨D.f, D.fd, D.me, b, ok⟩
end
section
variable {X : Cx} {k j : Nat} {x m : Str} {ps : List Str} {sp : Sp} {C : Addr} {e o : Expr} {es : List Expr} {t : TA} {ta : TE} {p pos apos : Pos}
theorem pc (D : Cal X.prog X.w X.K X.mg X.base k x ps sp) (hr : Room j X.A) (ha : PA X (e :: es) t) (hj : k ≤ j := by decide) (hg : Gl X x := by rfl)
    (hdb : (x == ("__debug__" : Str)) = false := by decide) (he : starEach (e :: es) X.env = (false, eval e X.env) :: starEach es X.env := by rfl) (hpl : (backTo pos (starEach es X.env)).any (·.1) = false := by rfl) :
    PE X (.Call (.Name x p) (e :: es) [] pos) (tCall sp [] E0 t) := pe_call D.ok (hr.mono hj) hg D.g D.kp D.b .nil pass0 ha hdb he hpl
end

/-! ### heaps but for some addresses -/
/-- all that was tracked is as it was, but at the addresses of l -/
def But (l : List Addr) (H H' : Hp) : Prop := ∀ b o, H b = some o → b ∉ l → H' b = some o
theorem But.refl {l : List Addr} {H : Hp} : But l H H := fun _ _ h _ => h
theorem But.trans {l : List Addr} {H H1 H2 : Hp} (a : But l H H1) (b : But l H1 H2) : But l H H2 := fun c o h n => b c o (a c o h n) n
theorem But.mono {l l' : List Addr} {H H1 : Hp} (a : But l H H1) (s : ∀ b ∈ l, b ∈ l') : But l' H H1 := fun c o h n => a c o h fun q => n (s c q)
theorem But.of_same {l : List Addr} {H H1 : Hp} (a : Same H H1) : But l H H1 := fun c o h _ => a c o h
theorem But.new {l : List Addr} {H : Hp} {p : Addr} {o : HO} (n : H p = none) : But l H (upd H p o) := fun c u h _ => by rw [upd_ne (ne_of_none h n)]; exact h
theorem But.put {l : List Addr} {H : Hp} {p : Addr} {o : HO} (n : p ∈ l) : But l H (upd H p o) := fun c u h q => by
  rw [upd_ne (fun z => q (by rw [z]; exact n))]
  exact h
theorem Same.new {H : Hp} {p : Addr} {o : HO} (n : H p = none) : Same H (upd H p o) := fun c u h => by rw [upd_ne (ne_of_none h n)]; exact h
end Tk
namespace Tk
open PySem PySem.Spec PyProof.Rows L2
/-- a new object is changed: what stood before it is as it was -/
theorem Same.put {H H4 : Hp} {q : Addr} {o : HO} (n : H q = none) (s : Same H H4) : Same H (upd H4 q o) := fun c u h => by
  rw [upd_ne (ne_of_none h n)]
  exact s c u h
theorem take_map_next {α : Type} {ns : List α} {f : α → V} {i : Nat} {z : α} (h : ns[i]? = some z) : (ns.take i).map f ++ [f z] = (ns.take (i + 1)).map f := by
  rw [List.take_add_one, h]
  simp
end Tk
namespace Tk
open PySem PySem.Spec PyProof.Rows L2
/-- a comprehension without a test -/
theorem tyes {σ : L2.St} {H : Hp} {F G : Hp → Prop} (h : F H) : tYes σ H (fun b H3 => if b = true then F H3 else G H3) := by
  show (if true = true then F H else G H)
  rw [if_pos rfl]
  exact h
end Tk
namespace Tk
open PySem PySem.Spec PyProof.Rows L2
section
variable {X : Cx} {k j : Nat} {x m : Str} {ps : List Str} {sp : Sp} {C : Addr} {e o : Expr} {es : List Expr} {t : TA} {ta : TE} {p pos apos : Pos}
/-- o.m(e, ..) -/
theorem pm {pl : Sem Bool} (c : Cls X.K C) (M : MCal X.prog X.w X.K X.mg X.base C k m ps sp) (hr : Room j X.A) (he : PE X o ta) (ha : PA X (e :: es) t) (hj : k ≤ j := by decide)
    (hst : starEach (e :: es) X.env = (false, eval e X.env) :: starEach es X.env := by rfl) (hpl : (backTo pos (starEach es X.env)).any (·.1) = false := by rfl)
    (ht : eval (.Call (.Attribute o m apos) (e :: es) [] pos) X.env = (do let ob ← eval o X.env; standAt apos.atName; let (g, fs) ← holding [ob] (getMethod ob m pl); callWith pos g fs (backTo pos (starEach (e :: es) X.env)) (backToKw pos (keywordEach [] X.env))) := by rfl) :
    PE X (.Call (.Attribute o m apos) (e :: es) [] pos) (tMeth C m sp [] E0 ta t) := pe_meth he c M.me M.ok (hr.mono hj) M.b .nil pass0 ha hst hpl ht
/-- o.m() -/
theorem pm0 {pl : Sem Bool} (c : Cls X.K C) (M : MCal X.prog X.w X.K X.mg X.base C k m ps sp) (hr : Room j X.A) (he : PE X o ta) (hj : k ≤ j := by decide)
    (ht : eval (.Call (.Attribute o m apos) [] [] pos) X.env = (do let ob ← eval o X.env; standAt apos.atName; let (g, fs) ← holding [ob] (getMethod ob m pl); callWith pos g fs (backTo pos (starEach [] X.env)) (backToKw pos (keywordEach [] X.env))) := by rfl) :
    PE X (.Call (.Attribute o m apos) [] [] pos) (tMeth C m sp [] E0 ta tNil) := pe_meth0 he c M.me M.ok (hr.mono hj) M.b .nil pass0 ht
end
end Tk

namespace Tk
open PySem PySem.Spec PyProof.Rows L2

/-! ### the law's own def, entered by the checker: around it stands callerA, and nothing is shown by repr -/
section
variable {P : Program} {w : World} {K : PySem.W.Frag} {mg : Str → Option Value} {base : Heap}
/-- the body of a def, run once, at a known around -/
theorem def_run {x qual : Str} {st : Stmt} {f : Addr} {fd : FuncData} {N ps : List Str} {k : Nat} {A : Around} {outer : List Env} {s : Shared} {H : Hp} {args : Args} {us : List Value} {vs : List V} {Q : VK} {E : XK}
    (F : Fun K x qual st f fd) (S : FnScope N ps (defScope st)) (hl : vs.length = ps.length) (hr : Room (k + 1) A) (e0 : Env0 P w K mg base A outer s H) (hb : BindsTo s fd args (ps.zip us)) (r : Vals vs us)
    (body : ∀ cdv : Value, ∃ t, PSs (cxOf CX0 P w K mg base N qual (defScope st) f cdv A outer s H E).nox (defBody st) t ∧ t { nx := fun _ H' => Q .non H', rt := Q } (start N vs) H) :
    codeAny (model P w) A (.call (.ref f) args) (CR CX0 outer P w H s Q E) s := by
  obtain ⟨oc, od, kV, doc, pm, an, cdv, ct, osl, hfd, lk, hcd⟩ := F.ex
  subst hfd
  have keepB : ∀ b o, base.get? b = some o → s.heap.get? b = some o := fun b o e => (e0.bs b o e).1
  have inK := e0.mod.kin.keeps keepB
  refine codeAny_call_function hr.depth (inK _ _ lk) rfl S.co S.gen rfl
    (PySem.W.codeRec_of inK hcd) (hb _ _ _ _ ?_)
  refine wpAny_newFunctionEnv_cells S.kind (fun y hy => ?_) fun env he s1 ent => ?_
  · rcases S.par y.1 (List.of_mem_zip (show (y.1, y.2) ∈ ps.zip us from hy)).1 with q | q
    · exact .inl q
    · exact .inr ⟨q, PySem.W.cellsFrom_some _ _ _ (.inl q)⟩
  · subst he
    have noLim := e0.mod.nolimit.keeps keepB
    refine ⟨noLim.keeps ent.toInCall.keep, codeAny_func ?_⟩
    obtain ⟨t, ht0, hq⟩ := body cdv
    have ht := ht0.nox
    have I0 := inv_start (CX := CX0) (E := E) S hr.hd e0 hl r ent
    refine wpAny_mono (ht.run [] s1 (start N vs) H _ I0 hq) (fun fl s' hs => ?_)
      (fun _ _ h => h)
    cases fl with
    | ret u =>
      obtain ⟨v, σ', H', J, rv, qq⟩ := hs
      exact ⟨v, H', J.os, J.bare, J.base, J.hok, rv, qq⟩
    | next =>
      obtain ⟨σ', H', J, qq⟩ := hs
      exact ⟨V.non, H', J.os, J.bare, J.base, J.hok, rfl, qq⟩
    | brk => exact (let ⟨_, _, _, qq⟩ := hs; qq.elim)
    | cont => exact (let ⟨_, _, _, qq⟩ := hs; qq.elim)
end
end Tk
namespace Tk
open PySem PySem.Spec PyProof.Rows L2
/-- only known, locked things are tracked -/
def OnlyF (H : Hp) : Prop := ∀ b, H b = none ∨ ∃ o u, H b = some (.frz o u)
section
variable {P : Program} {w : World} {K : PySem.W.Frag} {mg mb : Str → Option Value}
theorem law_core {s₁ : Shared} {fa : Addr} {args : Args} {H : Hp} (KX : K.In s₁.heap) (hns : s₁.heap.Ns mainGlobals mg) (hb : s₁.heap.Ns builtinsNs mb) (hbb : ∀ x : Str, x ≠ "__name__" → mb x = bootBuiltins x)
    (hlim : s₁.heap.NoLimit) (hg : s₁.gens = #[]) (hO : OnlyF H) (hok : HOk P w H s₁.heap) (hK : ∀ b, H b ≠ none → K.lookup b = none)
    (hD : ∀ b ob es ep, s₁.heap.get? b = some ob → ob.data = .dict es ep → H b = none)
    (run : ∀ base : Heap, K.In base → base.Ns mainGlobals mg → Env0 P w K mg base callerA [] s₁ H →
      codeAny (model P w) callerA (.call (.ref fa) args) (CR CX0 [] P w H s₁ (fun v _ => v = .bl true) E0) s₁) :
    codeAny (model P w) callerA (.call (.ref fa) args) (fun r s' => r = .ok (.ret (.bool true)) ∧ OldK s₁.heap s'.heap ∧ s'.os = s₁.os ∧ AllBare s'.gens) s₁ := by
  have toBase : ∀ {b : Addr} {o : Obj}, s₁.heap.get? b = some o → H b = none → (hidT s₁.heap H).get? b = some o := fun e n => hidT_get e n
  have nsB : ∀ {b : Addr} {m : Str → Option Value}, s₁.heap.Ns b m → (hidT s₁.heap H).Ns b m := fun {b m} hh => by
    obtain ⟨o, es, ep, e, dd, rr⟩ := hh
    exact ⟨o, es, ep, toBase e (hD _ _ _ _ e dd), dd, rr⟩
  have KB : K.In (hidT s₁.heap H) := fun b o e => toBase (KX b o e) (by
    cases q : H b with
    | none => rfl
    | some u =>
      have z := hK b (by rw [q]; exact nofun)
      rw [z] at e
      cases e)
  have md : Mod K mg (hidT s₁.heap H) := by
    obtain ⟨mc, l1, l2⟩ := hlim
    exact ⟨KB, nsB hns, ⟨mb, nsB hb, hbb⟩, ⟨mc, nsB l1, l2⟩⟩
  have en : Env0 P w K mg (hidT s₁.heap H) callerA [] s₁ H :=
    ⟨rfl, md, fun b o e => of_hidT e, Nat.le_of_eq (hidT_size _ _), trivial, fun b hb' => absurd hb' List.not_mem_nil, hok, .of_eq hg⟩
  refine codeAny_mono (run _ KB (nsB hns) en) fun r s' h => ?_
  cases r with
  | error e => exact (show False from h).elim
  | ok fl =>
    cases fl with
    | ret u =>
      obtain ⟨v, H', os, bare, un, hok', r', q⟩ := h
      obtain rfl : v = .bl true := q
      obtain rfl : u = Value.bool true := r'
      refine ⟨rfl, OldK.of_keep fun b o e => ?_, os, bare⟩
      rcases hO b with z | ⟨ob, uu, z⟩
      · exact un.keep b o e z (fun y => absurd y List.not_mem_nil) List.not_mem_nil
      · have z2 := un.frzs b ob _ z
        have e1 := (hok b _ z).1
        have e2 := (hok' b _ z2).1
        rw [e] at e1
        cases e1
        exact e2
    | next => exact (show False from h).elim
    | brk => exact (show False from h).elim
    | cont => exact (show False from h).elim

/-- what a tuple of the module's own is, before the law -/
structure TupAt (h : Heap) (a : Addr) (xs : List V) : Prop where
  ex : ∃ (o : Obj) (its : List Value) (n : Nat), h.get? a = some o ∧ o.cls = .type "tuple" ∧ o.data = .seq its.toArray n ∧ Vals xs its ∧ xs.length ≤ sizeLine
/-- the end: from the law's run at any tracked heap in which the script and the tuple t are to be read -/
theorem walk_law {l : PySem.W.OpenLaw} {n : Nat} {q : Program} {loose : List Str} {XP : (Str → Option Value) → Heap → Prop} {YP : World → Heap → Prop} {d : DefRec} {K : Params → PySem.W.Frag} {x : Str} {zs : List V}
    (hn : l.most = some n) (hn2 : n ≤ sizeLine) (hdf : d.params.defaults = []) (hY : ∀ (w : World) (h : Heap), YP w h → (K w.params).In h)
    (F : ∀ (w : World) (mg : Str → Option Value) (fa : Addr) (h : Heap), (K w.params).In h → h.Ns mainGlobals mg → XP mg h → mg d.name = some (.ref fa) →
      ∃ (fd : FuncData) (t : Addr), TupAt h t zs ∧ (∀ (s : Shared) (u : Value), BindsTo s fd ⟨[u], []⟩ [(x, u)]) ∧
        ∀ (base : Heap) (s₁ : Shared) (H : Hp) (a : Addr) (u : Value) (ns : List Int), Env0 l.prog w (K w.params) mg base callerA [] s₁ H → BindsTo s₁ fd ⟨[u], []⟩ [(x, u)] → u = .ref a →
          SqL (K w.params) H a (ns.map V.int) → ns.length ≤ n → SqT (K w.params) H t zs → (∀ b, H b ≠ none → b = a ∨ b = t) →
          codeAny (model l.prog w) callerA (.call (.ref fa) ⟨[u], []⟩) (CR CX0 [] l.prog w H s₁ (fun v _ => v = .bl true) E0) s₁) :
    PySem.W.WalkO q loose XP YP l.row.toRowW d [] (fun f vs => PySem.call f vs) := by
  refine Att.attach_call hn hdf fun w s₀ s₁ mg mb fa o pm cd doc a vs ns G Y ho hd hcd hmg hobj hints hlen hg => ?_
  have KX := hY w _ Y
  obtain ⟨fd, t, ht, hbind, run⟩ := F w mg fa _ KX G.T.g G.X hmg
  obtain ⟨ot, its, nt, e1, e2, e3, e4, e5⟩ := ht.ex
  have rv := vals_ints hints
  have hz : (ns.map V.int).length ≤ sizeLine := by rw [List.length_map]; exact Nat.le_trans hlen hn2
  have nat : t ≠ a := fun z => by
    rw [z, hobj] at e1
    cases e1
    exact absurd (show Value.type "list" = Value.type "tuple" from e2) (by decide)
  let Ha : Option HO := match (K w.params).lookup a with
    | none => some (.frz { cls := .type "list", data := .seq vs.toArray } (.lst (ns.map V.int)))
    | some _ => none
  let Ht : Option HO := match (K w.params).lookup t with
    | none => some (.frz ot (.tup zs))
    | some _ => none
  let H : Hp := fun b => if b = a then Ha else if b = t then Ht else none
  have hHa : H a = Ha := if_pos rfl
  have hHt : H t = Ht := by
    show (if t = a then Ha else if t = t then Ht else none) = Ht
    rw [if_neg nat, if_pos rfl]
  have hHo : ∀ b, b ≠ a → b ≠ t → H b = none := fun b n1 n2 => by
    show (if b = a then Ha else if b = t then Ht else none) = none
    rw [if_neg n1, if_neg n2]
  have cases3 : ∀ b, H b ≠ none → b = a ∨ b = t := fun b z => by
    by_cases n1 : b = a
    · exact .inl n1
    · by_cases n2 : b = t
      · exact .inr n2
      · exact absurd (hHo b n1 n2) z
  have Sa : SqL (K w.params) H a (ns.map V.int) := by
    cases k : (K w.params).lookup a with
    | none => exact .inl (.inr ⟨_, by rw [hHa]; show (match (K w.params).lookup a with | none => _ | some _ => _) = _; rw [k]⟩)
    | some oa =>
      have e := KX a oa k
      rw [hobj] at e
      cases e
      exact .inr ⟨_, vs.toArray, _, k, rfl, rfl, rfl, by rw [List.size_toArray, hints.length]; exact Nat.le_trans hlen hn2, by simpa using rv⟩
  have St : SqT (K w.params) H t zs := by
    cases k : (K w.params).lookup t with
    | none => exact .inl (.inr ⟨_, by rw [hHt]; show (match (K w.params).lookup t with | none => _ | some _ => _) = _; rw [k]⟩)
    | some oa =>
      have e := KX t oa k
      rw [e1] at e
      cases e
      exact .inr ⟨_, its.toArray, _, k, e2, e3, by rw [List.size_toArray, ← e4.length]; exact e5, by simpa using e4⟩
  refine law_core (H := H) KX G.T.g G.T.b G.T.builtins G.T.nolimit hg (fun b => ?_) (fun b u z => ?_) (fun b z => ?_) (fun b ob es ep e dd => ?_)
    (fun base _ _ en => run base s₁ H a _ ns en (hbind s₁ _) rfl Sa hlen St cases3)
  · by_cases n1 : b = a
    · subst n1
      cases k : (K w.params).lookup b with
      | none => exact .inr ⟨_, _, by rw [hHa]; show (match (K w.params).lookup b with | none => _ | some _ => _) = _; rw [k]⟩
      | some oa => exact .inl (by rw [hHa]; show (match (K w.params).lookup b with | none => _ | some _ => _) = _; rw [k])
    · by_cases n2 : b = t
      · subst n2
        cases k : (K w.params).lookup b with
        | none => exact .inr ⟨_, _, by rw [hHt]; show (match (K w.params).lookup b with | none => _ | some _ => _) = _; rw [k]⟩
        | some oa => exact .inl (by rw [hHt]; show (match (K w.params).lookup b with | none => _ | some _ => _) = _; rw [k])
      · exact .inl (hHo b n1 n2)
  · rcases cases3 b (by rw [z]; exact nofun) with n1 | n2
    · subst n1
      cases k : (K w.params).lookup b with
      | none =>
        have y : H b = some (.frz { cls := .type "list", data := .seq vs.toArray } (.lst (ns.map V.int))) := by rw [hHa]; show (match (K w.params).lookup b with | none => _ | some _ => _) = _; rw [k]
        rw [z] at y
        cases y
        exact ⟨hobj, hz, vs, _, rv, hobj⟩
      | some oa =>
        have y : H b = none := by rw [hHa]; show (match (K w.params).lookup b with | none => _ | some _ => _) = _; rw [k]
        rw [z] at y
        cases y
    · subst n2
      cases k : (K w.params).lookup b with
      | none =>
        have y : H b = some (.frz ot (.tup zs)) := by rw [hHt]; show (match (K w.params).lookup b with | none => _ | some _ => _) = _; rw [k]
        rw [z] at y
        cases y
        exact ⟨e1, e5, its, e4, ot, e1, e2, _, e3⟩
      | some oa =>
        have y : H b = none := by rw [hHt]; show (match (K w.params).lookup b with | none => _ | some _ => _) = _; rw [k]
        rw [z] at y
        cases y
  · rcases cases3 b z with n1 | n2
    · subst n1
      cases k : (K w.params).lookup b with
      | none => rfl
      | some oa => exact absurd (by rw [hHa]; show (match (K w.params).lookup b with | none => _ | some _ => _) = _; rw [k]) z
    · subst n2
      cases k : (K w.params).lookup b with
      | none => rfl
      | some oa => exact absurd (by rw [hHt]; show (match (K w.params).lookup b with | none => _ | some _ => _) = _; rw [k]) z
  · by_cases n1 : b = a
    · subst n1
      rw [hobj] at e
      cases e
      cases dd
    · by_cases n2 : b = t
      · subst n2
        rw [e1] at e
        cases e
        rw [e3] at dd
        cases dd
      · exact hHo b n1 n2
end
end Tk

namespace Tk
open PySem PySem.Spec PyProof.Rows L2
/-- f(k = v, ..): keywords alone -/
def tCallKw (n : Nat) (sp : Sp) (gV : List V → List V → List V) (tk : TA) : TE := fun σ H Q => tk σ H fun zs H2 => zs.length = n ∧ sp (gV [] zs) H2 Q E0
section
variable {X : Cx} {k j : Nat} {x : Str} {ps ks : List Str} {sp : Sp} {tk : TA} {p pos : Pos} {kws : List Keyword} {g : List Value → List Value → List Value} {gV : List V → List V → List V}
theorem pcK (D : Cal X.prog X.w X.K X.mg X.base k x ps sp) (hb : KBn X.K D.fd ps 0 ks g gV) (hr : Room j X.A) (hkw : PK X kws tk) (hj : k ≤ j := by decide) (hg : Gl X x := by rfl)
    (hall : (backToKw pos (keywordEach kws X.env)).all (·.1.isSome) = true := by rfl) (hks : (backToKw pos (keywordEach kws X.env)).filterMap (·.1) = ks := by rfl) (hdb : (x == ("__debug__" : Str)) = false := by decide)
    (hpl : ((backTo pos (starEach [] X.env)).any (·.1) || (backToKw pos (keywordEach kws X.env)).any (·.1.isNone)) = false := by rfl) : PE X (.Call (.Name x p) [] kws pos) (tCallKw ks.length sp gV tk) := by
  constructor
  intro pins s σ H Q I h
  refine wpAny_Call_Name_kw (ld_glob I hg D.g ?_ hdb)
  refine PySem.W.callWith_KW0 (h₀ := X.base) I.ok.mod.kin D.kp hall (thn (hkw.run pos pins s σ H _ I h) fun ws s2 hz => ?_) hpl
  obtain ⟨zs, H2, I2, rz, l2, q2⟩ := hz
  refine ⟨I2.kIn, ?_⟩
  rw [hks]
  exact run_fnN (us := []) (vs := []) D.ok (hr.mono hj) hb pass0 I2 .nil rz rfl l2 q2
end
/-- three parameters by keywords, in the turned order -/
def turn3 {α : Type} (_ ws : List α) : List α := match ws with
  | [a, b, c] => [c, b, a]
  | r => r
theorem turn3_rel {vs : List V} {us : List Value} {zs : List V} {ws : List Value} (_ : Vals vs us) (r : Vals zs ws) : Vals (turn3 vs zs) (turn3 us ws) := by
  cases r with
  | nil => exact .nil
  | cons r1 t1 =>
    cases t1 with
    | nil => exact .cons r1 .nil
    | cons r2 t2 =>
      cases t2 with
      | nil => exact .cons r1 (.cons r2 .nil)
      | cons r3 t3 =>
        cases t3 with
        | nil => exact .cons r3 (.cons r2 (.cons r1 .nil))
        | cons r4 t4 => exact .cons r1 (.cons r2 (.cons r3 (.cons r4 t4)))
end Tk

namespace Tk
open PySem PySem.Spec PyProof.Rows L2
/-- data that repr shows, in at most n signs, at most k deep -/
structure Sh (d : PyData) (n k : Nat) : Prop where
  sh : d.showable = true
  nd : d.hasDict = false
  dp : d.depth ≤ k
  ln : d.shown.length ≤ n
structure ShAll (ds : List PyData) (n k : Nat) : Prop where
  sh : PyData.showableAll ds = true
  nd : PyData.hasDictAll ds = false
  dp : PyData.depthAll ds ≤ k
  ln : ((PyData.shownAll ds).map (·.length)).sum + 2 * ds.length ≤ n
theorem shownAll_len : ∀ ds : List PyData, (PyData.shownAll ds).length = ds.length
  | [] => by simp [PyData.shownAll]
  | d :: ds => by simp [PyData.shownAll, shownAll_len ds]
theorem Sh.none : Sh .none 4 0 := ⟨by simp [PyData.showable], by simp [PyData.hasDict], by simp [PyData.depth], by simp only [PyData.shown]; decide⟩
theorem Sh.int {i : Int} (h0 : 0 ≤ i) (h1 : i < 100000000000) : Sh (.int i) 12 0 := by
  have a : i.natAbs < 10 ^ 11 := by omega
  have b : i.natAbs.log2 < 1920 := by
    by_cases z : i.natAbs = 0
    · rw [z]; decide
    · have c : i.natAbs < 2 ^ 37 := by omega
      exact (Nat.log2_lt z).mpr (Nat.lt_of_lt_of_le c (Nat.pow_le_pow_right (by decide) (by decide)))
  refine ⟨by simp [PyData.showable, b], by simp [PyData.hasDict], by simp [PyData.depth], ?_⟩
  simp only [PyData.shown]
  show (Str.ofString (toString i)).length ≤ 12
  have q := int_text_length_le10 (a := i) (k := 11) (by decide) a
  rw [PySem.ofString_length]
  exact q
theorem ShAll.nil {k : Nat} : ShAll [] 0 k := ⟨by simp [PyData.showableAll], by simp [PyData.hasDictAll], by simp [PyData.depthAll], by simp [PyData.shownAll]⟩
theorem ShAll.cons {d : PyData} {ds : List PyData} {n m k : Nat} (h : Sh d n k) (t : ShAll ds m k) : ShAll (d :: ds) (n + 2 + m) k := by
  obtain ⟨a1, a2, a3, a4⟩ := h
  obtain ⟨b1, b2, b3, b4⟩ := t
  refine ⟨by simp [PyData.showableAll, a1, b1], by simp [PyData.hasDictAll, a2, b2], ?_, ?_⟩
  · simp only [PyData.depthAll]; exact Nat.max_le.mpr ⟨a3, b3⟩
  · simp only [PyData.shownAll, List.map_cons, List.sum_cons, List.length_cons]; omega
theorem Sh.tup {ds : List PyData} {n k : Nat} (h : ShAll ds n k) : Sh (.tuple ds) (n + 3) (k + 1) := by
  obtain ⟨b1, b2, b3, b4⟩ := h
  refine ⟨by simpa [PyData.showable] using b1, by simpa [PyData.hasDict] using b2, by simp only [PyData.depth]; omega, ?_⟩
  simp only [PyData.shown]
  have z := tupleText_len_le (PyData.shownAll ds)
  rw [shownAll_len] at z
  omega
theorem Sh.lst {ds : List PyData} {n k : Nat} (h : ShAll ds n k) : Sh (.list ds) (n + 3) (k + 1) := by
  obtain ⟨b1, b2, b3, b4⟩ := h
  refine ⟨by simpa [PyData.showable] using b1, by simpa [PyData.hasDict] using b2, by simp only [PyData.depth]; omega, ?_⟩
  simp only [PyData.shown]
  have z := listText_len_le (PyData.shownAll ds)
  rw [shownAll_len] at z
  omega
theorem ShAll.all {n k : Nat} : ∀ {ds : List PyData}, (∀ d ∈ ds, Sh d n k) → ShAll ds ((n + 2) * ds.length) k
  | [], _ => ShAll.nil
  | d :: ds, h => by
    have q := ShAll.cons (h d List.mem_cons_self) (ShAll.all fun e he => h e (List.mem_cons_of_mem _ he))
    have e : n + 2 + (n + 2) * ds.length = (n + 2) * (d :: ds).length := by rw [List.length_cons, Nat.mul_add]; omega
    rw [e] at q; exact q
theorem Sh.up {d : PyData} {n k m j : Nat} (h : Sh d n k) (h1 : n ≤ m) (h2 : k ≤ j) : Sh d m j := ⟨h.sh, h.nd, Nat.le_trans h.dp h2, Nat.le_trans h.ln h1⟩
/-- repr of such -/
def rShow (K : PySem.W.Frag) : List V → Hp → VK → Prop := fun xs H Q => ∃ (x : V) (d : PyData), xs = [x] ∧ Dp K H x d ∧ Sh d 16000000 50 ∧ Q (.str d.shown) H
section
variable {X : Cx}
theorem call_show (hg : X.A.guards = some []) (hu : X.A.units + 64 < cLine) : CallR X (.builtin "repr") (rShow X.K) := by
  intro pins s σ H xs us Q I r h
  obtain ⟨x, d, e, hd, hs, q⟩ := h
  exact call_repr hg hu pins s σ H xs us Q I r ⟨x, d, e, hd, hs.sh, hs.nd, Nat.le_trans hs.dp (by decide), Nat.le_trans hs.ln (by decide), q⟩
/-- max of a tuple of things that are all one datum: one of them -/
def rMaxOne (K : PySem.W.Frag) : List V → Hp → VK → Prop := fun vs H Q => ∃ (a : Addr) (xs : List V) (d : PyData), vs = [.ref a] ∧ SqT K H a xs ∧ xs ≠ [] ∧ (∀ x ∈ xs, Dp K H x d) ∧ PySem.W.alike d d = true ∧ d ≠ .none ∧ d.depth ≤ 50 ∧ ∀ x ∈ xs, Q x H
theorem dpAll_rep {K : PySem.W.Frag} {H : Hp} {d : PyData} : ∀ {xs : List V}, (∀ x ∈ xs, Dp K H x d) → DpAll K H xs (List.replicate xs.length d)
  | [], _ => .nil
  | x :: xs, h => .cons (h x List.mem_cons_self) (dpAll_rep fun y hy => h y (List.mem_cons_of_mem _ hy))
theorem depth_rep (d : PyData) : ∀ n, PyData.depthAll (List.replicate n d) ≤ d.depth
  | 0 => by simp [PyData.depthAll]
  | n + 1 => by
    rw [List.replicate_succ]
    simp only [PyData.depthAll]
    exact Nat.max_le.mpr ⟨Nat.le_refl _, depth_rep d n⟩
theorem call_maxOne (hc : X.calm = true) (hu : X.A.units + 64 < cLine) : CallR X (.builtin "max") (rMaxOne X.K) := by
  intro pins s σ H vs us Q I r h
  obtain ⟨a, xs, d, rfl, ha, hne, hd, al, nn, dp, q⟩ := h
  obtain ⟨u, rfl, ru⟩ := vals1 r
  obtain rfl : u = Value.ref a := ru
  obtain ⟨its, rv, ⟨o, ho, hcl, n, hdt⟩, _⟩ := I.tuple ha
  obtain ⟨as, hr⟩ := Dp.readsAll I _ _ its (dpAll_rep hd) rv
  cases hx : xs.length with
  | zero => exact absurd (List.eq_nil_of_length_eq_zero hx) hne
  | succ m =>
    rw [hx, List.replicate_succ] at hr
    have all : ∀ x ∈ d :: List.replicate m d, x = d := fun x hm => by
      rw [← List.replicate_succ] at hm
      exact List.eq_of_mem_replicate hm
    have dpa : PyData.depthAll (d :: List.replicate m d) ≤ d.depth := by
      rw [← List.replicate_succ]; exact depth_rep d _
    refine PySem.W.max_tuple_data (vs := its.toArray) (I.ok.hd hc) ⟨o, ho, hcl, n, hdt⟩ (by simpa using hr) ⟨fun x hx y hy => by rw [all x hx, all y hy]; exact al, fun x hx => by rw [all x hx]; exact nn⟩ (by omega) fun i v h' tk bs hi _ hk => ?_
    have hi2 : its[i]? = some v := by simpa using hi
    have hil : i < its.length := (List.getElem?_eq_some_iff.mp hi2).1
    have hxl : i < xs.length := by rw [rv.length]; exact hil
    obtain ⟨w, hw, rw'⟩ := rv.get (i := i) (x := xs[i]) (List.getElem?_eq_getElem hxl)
    rw [hi2] at hw
    cases hw
    exact ⟨xs[i], H, I.kept hk, rw', q _ (List.getElem_mem hxl)⟩
end
end Tk

namespace Tk
open PySem PySem.Spec PyProof.Rows L2
section
variable (l : Addr) (items : Array Value) (n : Nat) (dd : Option Addr) (sl : Array (Option Value)) (u : Tok)
/-- t * 1 is t -/
theorem mul_once : Meets (Builtin.«tuple.__mul__» ⟨[.ref l, .int 1 u], []⟩) (fun _ R s => s.heap.get? l = some { cls := .type "tuple", dict := dd, data := .seq items n, slots := sl } ∧ R (.ok (.ret (Value.ref l))) s) :=
  .of_wp fun prog w A R s h => by
    obtain ⟨hp, g, d, tk, os⟩ := s
    obtain ⟨hl, h⟩ := h
    have f1 := AutoSeq1.idx_int
    have c1 : (items.isEmpty || (1 : Int) == 1) = true := by simp
    wp_walk using wpAny_loadPart' hl
    repeat (first
      | (refine wpAny_ite_true (by rw [c1]) ?_; wp_walk using wpAny_loadPart' hl)
      | (refine wpAny_ite_false (by decide) ?_; wp_walk using wpAny_loadPart' hl))
    all_goals exact ⟨_, rfl, h⟩
/-- t * 0, t * -3: a new empty one -/
theorem mul_none (x : Int) (hx : x ≤ 0) (hb : -(2 ^ 63) ≤ x) (hi : items.isEmpty = false) : Meets (Builtin.«tuple.__mul__» ⟨[.ref l, .int x u], []⟩) (fun _ R s => s.heap.get? l = some { cls := .type "tuple", dict := dd, data := .seq items n, slots := sl } ∧
      R (.ok (.ret (Value.ref s.heap.objs.size))) { s with heap := s.heap.push { cls := Value.type "tuple", data := Data.seq #[] }, toks := s.toks }) :=
  .of_wp fun prog w A R s h => by
    obtain ⟨hp, g, d, tk, os⟩ := s
    obtain ⟨hl, h⟩ := h
    have f1 := AutoSeq1.idx_int
    have c0 : (decide (x < -(2 ^ 63)) || decide (x ≥ 2 ^ 63)) = false := by rw [decide_eq_false (by omega), decide_eq_false (by omega)]; rfl
    have c1 : (items.isEmpty || x == 1) = false := by rw [hi, Bool.false_or]; exact beq_eq_false_iff_ne.mpr (by omega)
    have c2 : (decide (x ≤ 0) || items.isEmpty) = true := by rw [decide_eq_true hx]; rfl
    wp_walk using wpAny_loadPart' hl
    repeat (first
      | (refine wpAny_ite_true (by rw [c2]) ?_; wp_walk using wpAny_loadPart' hl)
      | (refine wpAny_ite_false (decide_eq_false (by rw [c0]; exact Bool.false_ne_true)) ?_; wp_walk using wpAny_loadPart' hl)
      | (refine wpAny_ite_false (by rw [c0]; exact Bool.false_ne_true) ?_; wp_walk using wpAny_loadPart' hl)
      | (refine wpAny_ite_false (by rw [c1]; exact Bool.false_ne_true) ?_; wp_walk using wpAny_loadPart' hl)
      | (refine wpAny_ite_false (decide_eq_false (by rw [c1]; exact Bool.false_ne_true)) ?_; wp_walk using wpAny_loadPart' hl))
    all_goals exact ⟨_, rfl, h⟩
end
/-- t * k, whatever k is -/
def rRepA (K : PySem.W.Frag) : R2 := fun x y H Q => ∃ (l : Addr) (k : Int) (xs : List V), x = .ref l ∧ y = .int k ∧ SqT K H l xs ∧ xs ≠ [] ∧ -1000 ≤ k ∧ k ≤ 1000 ∧ xs.length ≤ 1000 ∧
  ∀ p H', ((k = 1 ∧ p = l ∧ H' = H) ∨ (k ≠ 1 ∧ H p = none ∧ H' = upd H p (.tup (List.replicate k.toNat xs).flatten))) → Q (.ref p) H'
section
variable {X : Cx}
theorem op_repA : OpR X (binaryOp .Mult) (rRepA X.K) := by
  intro pins s σ H x y v u Q I rx ry h
  obtain ⟨l, k, xs, rfl, rfl, hT, hne, h1, h2, hz, q⟩ := h
  by_cases hk2 : 2 ≤ k
  · exact op_repT pins s σ H _ _ v u Q I rx ry ⟨l, k, xs, rfl, rfl, hT, hne, hk2, h2, hz, fun p hp => q p _ (.inr ⟨by omega, hp, rfl⟩)⟩
  · cases rx
    obtain ⟨t, rfl⟩ := ry
    obtain ⟨its, r, ⟨⟨cls, dd, data, sl⟩, ho, hc, n, hd⟩, hs⟩ := I.tuple hT
    simp only at hc hd
    subst hc hd
    have hi : its.toArray.isEmpty = false := by
      cases its with
      | nil => cases r; exact absurd rfl hne
      | cons a b => rfl
    by_cases hk1 : k = 1
    · subst hk1
      refine wpAny_binaryOp_repeat_ref (T := "tuple") (U := "int") (by decide) ⟨_, ho, rfl⟩ (fun s' => typeIs_int s' 1 t) noFill_tuple_mul F.fills_int_mul F.slot_int_rmul repeat_tuple F.slot_int_index.lookup
        (call_meets F.slot_int_rmul (typeIs_int s 1 t) F.entry_int_rmul (F.args_int_rmul_2 _ _) (int_rmul_tuple 1 t l its.toArray n dd sl)
          ⟨ho, rfl, ⟨_, ho, rfl⟩, call_meets F.slot_tuple_mul ⟨_, ho, rfl⟩ F.entry_tuple_mul (F.args_tuple_mul_2 _ _) (mul_once l its.toArray n dd sl t) ⟨ho, ?_⟩⟩)
      exact ⟨.ref l, H, I, rfl, q l H (.inl ⟨rfl, rfl, rfl⟩)⟩
    · have hk0 : k ≤ 0 := by omega
      refine wpAny_binaryOp_repeat_ref (T := "tuple") (U := "int") (by decide) ⟨_, ho, rfl⟩ (fun s' => typeIs_int s' k t) noFill_tuple_mul F.fills_int_mul F.slot_int_rmul repeat_tuple F.slot_int_index.lookup
        (call_meets F.slot_int_rmul (typeIs_int s k t) F.entry_int_rmul (F.args_int_rmul_2 _ _) (int_rmul_tuple k t l its.toArray n dd sl)
          ⟨ho, rfl, ⟨_, ho, rfl⟩, call_meets F.slot_tuple_mul ⟨_, ho, rfl⟩ F.entry_tuple_mul (F.args_tuple_mul_2 _ _) (mul_none l its.toArray n dd sl t k hk0 (by omega) hi) ⟨ho, ?_⟩⟩)
      have ef : (List.replicate k.toNat xs).flatten = [] := by rw [Int.toNat_of_nonpos hk0]; rfl
      refine ⟨.ref s.heap.objs.size, _, I.laid (t' := s.toks) (o := .tup []) (fun b ob z => Heap.get?_push_of_some _ z) (Nat.le_refl _) ?_, rfl, q _ _ (.inr ⟨hk1, I.hok.fresh (Nat.le_refl _), by rw [ef]⟩)⟩
      exact ⟨Nat.zero_le _, [], .nil, IsTup.new _ _⟩
end
end Tk

namespace Tk
open PySem PySem.Spec PyProof.Rows L2
/-- zip of a list and a tuple: the items as they stand, in new pairs -/
def ItzM (K : PySem.W.Frag) (a b : Addr) : It :=
  ⟨fun i H => ∃ (xs ys : List V) (x y : V), SqL K H a xs ∧ SqT K H b ys ∧ xs[i]? = some x ∧ ys[i]? = some y,
    fun i H v H' => ∃ T x y, v = .ref T ∧ H T = none ∧ H' = upd H T (.tup [x, y]) ∧ (∀ l, SqL K H a l → l[i]? = some x) ∧ ∀ l, SqT K H b l → l[i]? = some y,
    fun i H => ∃ xs ys : List V, SqL K H a xs ∧ SqT K H b ys ∧ i ≤ xs.length ∧ i ≤ ys.length ∧ (xs.length = i ∨ ys.length = i)⟩
def MixTn (z TO TI i1 i2 a b : Addr) (i : Nat) (h : Heap) : Prop :=
  IsZip h z TI TO .none ∧ IsTupOf2 h TI (.ref i1) (.ref i2) ∧ (∃ x y, IsTupOf2 h TO x y) ∧ h.IsListIter i1 a i ∧ h.IsTupleIter i2 b i
theorem inList5 {c z TI TO i1 i2 : Addr} (h : c ∈ [z, TI, TO, i1, i2]) : c = z ∨ c = TI ∨ c = TO ∨ c = i1 ∨ c = i2 := by simpa using h
theorem turn_mix {P : Program} {w : World} {K : PySem.W.Frag} {elts : List Expr} {kk : Nat} {tpos : Pos} {a b z TI TO i1 i2 : Addr} (S : ZipSep2 z TI TO i1 i2 [i1, a] [i2, b]) :
    Turn P w K (.Tuple elts kk tpos) (ItzM K a b) [z, TI, TO, i1, i2] z (MixTn z TO TI i1 i2 a b) where
  mem := List.mem_cons_self
  obj := fun i h st c hc => by
    obtain ⟨g1, g2, ⟨x, y, g3⟩, ⟨o1, e1, _, d1⟩, ⟨o2, e2, _, d2⟩⟩ := st
    rcases inList5 hc with rfl | rfl | rfl | rfl | rfl
    · exact ⟨_, g1, fun v q => nomatch q⟩
    · exact ⟨_, g2, fun v q => nomatch q⟩
    · exact ⟨_, g3, fun v q => nomatch q⟩
    · exact ⟨o1, e1, fun v q => by rw [d1] at q; cases q⟩
    · exact ⟨o2, e2, fun v q => by rw [d2] at q; cases q⟩
  keep := fun i h h' st k => by
    obtain ⟨g1, g2, ⟨x, y, g3⟩, g4, g5⟩ := st
    refine ⟨k z (by simp) _ g1, k TI (by simp) _ g2, ⟨x, y, k TO (by simp) _ g3⟩, g4.at fun o q => k i1 (by simp) o q, g5.at fun o q => k i2 (by simp) o q⟩
  self := fun A i s Q E st h => wpAny_pyIter_zip st.1 h
  item := by
    intro X hP hw hK hc i pins s σ H E I hf st hg
    subst hP hw hK
    obtain ⟨g1, g2, ⟨x0, y0, g3⟩, g4, g5⟩ := st
    obtain ⟨xs, ys, x, y, hqx, hqy, hx, hy⟩ := hg
    obtain ⟨its, rv, p, _⟩ := I.list hqx
    obtain ⟨its2, rv2, p2, _⟩ := I.tuple hqy
    obtain ⟨u, hu, ru⟩ := rv.get hx
    obtain ⟨u2, hu2, ru2⟩ := rv2.get hy
    have hh := I.ok.hd hc
    have l1 : i < its.toArray.size := by rw [List.size_toArray]; exact (List.getElem?_eq_some_iff.mp hu).1
    have l2 : i < its2.toArray.size := by rw [List.size_toArray]; exact (List.getElem?_eq_some_iff.mp hu2).1
    have nea : a ≠ i1 := fun e => by
      obtain ⟨o, ho, hcl, _⟩ := g4
      obtain ⟨o', ho', hcl', _⟩ := p.isList
      rw [e, ho] at ho'
      cases ho'
      rw [hcl] at hcl'
      exact absurd hcl' (by decide)
    have neb : b ≠ i2 := fun e => by
      obtain ⟨o, ho, hcl, _⟩ := g5
      obtain ⟨o', ho', hcl', _⟩ := p2
      rw [e, ho] at ho'
      cases ho'
      rw [hcl] at hcl'
      exact absurd hcl' (by decide)
    have hzl : z < s.heap.objs.size := Heap.lt_size g1
    refine wpAny_pyNext_zipD2_item S (Draws.list (A := X.A.in1) hh i1 a nea its.toArray) (Draws.tuple (A := X.A.in1) hh i2 b neb its2.toArray) g1 g2 g3 ⟨g4, p.isList⟩ ⟨g5, p2⟩ l1 l2
      fun x1 x2 h' tk q1 q2 z' TO' st1 st2 hT hsz hk => ?_
    have e1 : x1 = u := by have q := q1.symm.trans (show its.toArray[i]? = some u by simpa using hu); exact Option.some.inj q
    have e2 : x2 = u2 := by have q := q2.symm.trans (show its2.toArray[i]? = some u2 by simpa using hu2); exact Option.some.inj q
    subst e1 e2
    refine ⟨_, rfl, wpAny_letOwnedTupleGo_zip (s := { s with heap := h', toks := tk }) z' fun h'' z'' sb => ?_⟩
    have hT2 : h''.get? s.heap.objs.size = some { cls := .type "tuple", data := .seq #[x1, x2] } := (sb.2 _ (Nat.ne_of_gt hzl)).trans hT
    have newP : ObjOk X.prog X.w (upd H s.heap.objs.size (.tup [x, y])) h'' s.heap.objs.size (.tup [x, y]) :=
      ⟨by show 2 ≤ sizeLine; decide, [x1, x2], .cons ru (.cons ru2 .nil), ⟨_, hT2, rfl, _, rfl⟩⟩
    have kk2 : ∀ c o, c ∉ [z, TI, TO, i1, i2] → s.heap.get? c = some o → h''.get? c = some o := fun c o hb q => by
      simp only [List.mem_cons, List.not_mem_nil, or_false, not_or] at hb
      exact (sb.2 c hb.1).trans (hk c o hb.1 hb.2.2.1 hb.2.2.2.1 hb.2.2.2.2 q)
    have I1 : Inv X pins σ (upd H s.heap.objs.size (.tup [x, y])) { s with heap := h'', toks := tk } := I.turnedNew (t' := tk) (ch := [z, TI, TO, i1, i2]) kk2 hf (Nat.le_refl _) newP
    refine ⟨.ref s.heap.objs.size, _, I1, rfl, ⟨_, x, y, rfl, I.hok.fresh (Nat.le_refl _), rfl, fun l hl => ?_, fun l hl => by rw [I.tuple_inj hl hqy]; exact hy⟩, ⟨z'', ?_, ⟨x1, x2, ?_⟩, ?_, ?_⟩, fun c hcm => ?_⟩
    · obtain ⟨its', rv', p', _⟩ := I.list hl
      have ea : its'.toArray = its.toArray := by
        obtain ⟨o, n1, ho, _, _, hd1⟩ := p
        obtain ⟨o', n2, ho', _, _, hd2⟩ := p'
        rw [ho] at ho'
        cases ho'
        rw [hd1] at hd2
        cases hd2
        rfl
      have eb : its' = its := by simpa using ea
      subst eb
      rw [Vals.inj rv' rv]
      exact hx
    · exact (sb.2 _ S.TIz).trans (hk _ _ S.TIz S.TITO S.TIi1 S.TIi2 g2)
    · exact (sb.2 _ S.TOz).trans TO'
    · exact st1.1.at fun o q => (sb.2 _ S.zi1.symm).trans q
    · exact st2.1.at fun o q => (sb.2 _ S.zi2.symm).trans q
    · have hlt : c < s.heap.objs.size := by
        rcases inList5 hcm with rfl | rfl | rfl | rfl | rfl
        · exact hzl
        · exact Heap.lt_size g2
        · exact Heap.lt_size g3
        · obtain ⟨_, e1, _⟩ := g4; exact Heap.lt_size e1
        · obtain ⟨_, e1, _⟩ := g5; exact Heap.lt_size e1
      rw [upd_ne (Nat.ne_of_lt hlt)]
      exact (hf c hcm).1
  done := by
    intro X hP hw hK hc i pins s σ H E I hf st hg
    subst hP hw hK
    obtain ⟨g1, g2, ⟨x0, y0, g3⟩, g4, g5⟩ := st
    obtain ⟨xs, ys, hqx, hqy, m1, m2, hend⟩ := hg
    obtain ⟨its, rv, p, _⟩ := I.list hqx
    obtain ⟨its2, rv2, p2, _⟩ := I.tuple hqy
    have hh := I.ok.hd hc
    have nea : a ≠ i1 := fun e => by
      obtain ⟨o, ho, hcl, _⟩ := g4
      obtain ⟨o', ho', hcl', _⟩ := p.isList
      rw [e, ho] at ho'
      cases ho'
      rw [hcl] at hcl'
      exact absurd hcl' (by decide)
    have neb : b ≠ i2 := fun e => by
      obtain ⟨o, ho, hcl, _⟩ := g5
      obtain ⟨o', ho', hcl', _⟩ := p2
      rw [e, ho] at ho'
      cases ho'
      rw [hcl] at hcl'
      exact absurd hcl' (by decide)
    have l1 := rv.length
    have l2 := rv2.length
    refine wpAny_pyNext_zipD2_end S (Draws.list (A := X.A.in1) hh i1 a nea its.toArray) (Draws.tuple (A := X.A.in1) hh i2 b neb its2.toArray) g1 g2 g3 ⟨g4, p.isList⟩ ⟨g5, p2⟩
      (by rw [List.size_toArray]; omega) (by rw [List.size_toArray]; omega) (by rw [List.size_toArray, List.size_toArray]; omega) fun h' tk hk => ⟨rfl, I.turnedL (t' := tk) (ch := [z, TI, TO, i1, i2]) (fun c o hb q => ?_) hf⟩
    simp only [List.mem_cons, List.not_mem_nil, or_false, not_or] at hb
    exact hk c o hb.1 hb.2.2.1 hb.2.2.2.1 hb.2.2.2.2 q

def iZipM (K : PySem.W.Frag) (ta : TA) : TI := fun σ H R => ta σ H fun vs H1 => ∃ a b xs ys, vs = [.ref a, .ref b] ∧ SqL K H1 a xs ∧ SqT K H1 b ys ∧ R (ItzM K a b) H1
theorem pi_zipM {X : Cx} {e e2 : Expr} {ta : TA} {p pos tpos : Pos} {elts : List Expr} {kk : Nat} (hg : Gl X "zip") (hm : X.mg "zip" = none) (ha : PA X [e, e2] ta)
    (hs : starEach [e, e2] X.env = (false, eval e X.env) :: starEach [e2] X.env := by rfl) (hpl : (backTo pos (starEach [e2] X.env)).any (·.1) = false := by rfl) :
    PI X (.Tuple elts kk tpos) (.Call (.Name "zip" p) [e, e2] [] pos) (iZipM X.K ta) := by
  constructor
  intro pins s σ H R I h
  refine Call_ (ld_blt I hg hm PyProof.Rows.boot_zip (PyProof.Rows.callWith_type1 (thn (ha.run pos pins s σ H _ I h) fun us s1 hq => ?_) hs hpl))
  obtain ⟨vs, H1, I1, r1, a, b, xs, ys, ex, hqx, hqy, q⟩ := hq
  subst ex
  obtain ⟨u, u2, rfl, ru, ru2⟩ := vals2 r1
  obtain rfl : u = Value.ref a := ru
  obtain rfl : u2 = Value.ref b := ru2
  obtain ⟨its, rv, p1, _⟩ := I1.list hqx
  obtain ⟨its2, rv2, p2, _⟩ := I1.tuple hqy
  obtain ⟨oa, hoa, _⟩ := id p1.isList
  obtain ⟨ob, hob, _⟩ := id p2
  have la := Heap.lt_size hoa
  have lb := Heap.lt_size hob
  refine zip_begins2 (begins_list a its.toArray) (begins_tuple b its2.toArray) p1.isList p2 fun h' hz hTI hTO h1 h2 hsz hk => wpAny_pyIter_zip hz ?_
  have I2 : Inv X pins σ H1 { s1 with heap := h' } := I1.kept (t' := s1.toks) hk
  refine ⟨s1.heap.objs.size + 4, [s1.heap.objs.size + 4, s1.heap.objs.size + 2, s1.heap.objs.size + 3, s1.heap.objs.size, s1.heap.objs.size + 1], _, _, H1, rfl, I2,
    turn_mix (zip_sep2 (fun c hc => by rw [List.mem_singleton.mp hc]; exact la) (fun c hc => by rw [List.mem_singleton.mp hc]; exact lb)), ⟨hz, hTI, ⟨_, _, hTO⟩, ⟨_, h1, rfl, rfl⟩, ⟨_, h2, rfl, rfl⟩⟩, fun c hcm => ?_, q⟩
  have hle : s1.heap.objs.size ≤ c := by
    rcases inList5 hcm with z | z | z | z | z <;> (rw [z]; first | exact Nat.le_add_right _ _ | exact Nat.le_refl _)
  exact I1.fpOk hle (I1.hok.fresh hle)
/-- a loop over such a zip: as many turns as the shorter one has items -/
theorem for_zipM {K : PySem.W.Frag} {a b : Addr} {xs ys : List V} {g : TG} {tb : TS} {D : Ends} {σ : L2.St} {H : Hp} (Pv : Nat → L2.St → Hp → Prop) (h0 : Pv 0 σ H) (hq : ∀ i σ H, Pv i σ H → SqL K H a xs ∧ SqT K H b ys)
    (hs : ∀ (i : Nat) (x y : V) (T : Addr) (σ : L2.St) (H : Hp), xs[i]? = some x → ys[i]? = some y → Pv i σ H → H T = none → g (.ref T) σ (upd H T (.tup [x, y])) fun σ2 H2 => tb { D with nx := Pv (i + 1), ct := Pv (i + 1), bk := D.nx } σ2 H2)
    (hd : ∀ σ H, Pv (min xs.length ys.length) σ H → D.nx σ H) :
    ∃ W : Nat → Nat → L2.St → Hp → Prop, (∃ m, W 0 m σ H) ∧ ∀ i m σ H, W i m σ H →
      ((ItzM K a b).stop i H ∧ D.nx σ H) ∨ ((ItzM K a b).go i H ∧ ∃ N : L2.St → Hp → Prop, (∀ σ' H', N σ' H' → ∃ m', m' < m ∧ W (i + 1) m' σ' H') ∧ ∀ v H', (ItzM K a b).yld i H v H' → g v σ H' fun σ2 H2 => tb { D with nx := N, ct := N, bk := D.nx } σ2 H2) := by
  refine ⟨fun i m σ H => m = min xs.length ys.length - i ∧ i ≤ min xs.length ys.length ∧ Pv i σ H, ⟨_, rfl, Nat.zero_le _, h0⟩, ?_⟩
  rintro i m σ H ⟨rfl, hi, pp⟩
  obtain ⟨qx, qy⟩ := hq i σ H pp
  by_cases hlt : i < min xs.length ys.length
  · have lx : i < xs.length := by omega
    have ly : i < ys.length := by omega
    refine .inr ⟨⟨xs, ys, _, _, qx, qy, List.getElem?_eq_getElem lx, List.getElem?_eq_getElem ly⟩, Pv (i + 1), fun σ' H' p' => ⟨_, by omega, rfl, by omega, p'⟩, ?_⟩
    rintro v H' ⟨T, x, y, rfl, hT, rfl, f1, f2⟩
    exact hs i x y T σ H (f1 _ qx) (f2 _ qy) pp hT
  · have e : i = min xs.length ys.length := by omega
    refine .inl ⟨⟨xs, ys, qx, qy, by omega, by omega, by omega⟩, hd σ H ?_⟩
    rw [← e]; exact pp
end Tk

namespace Tk
open PySem PySem.Spec PyProof.Rows L2
/-- o.m(k = v, ..): keywords alone -/
def tMethKw (C : Addr) (m : Str) (n : Nat) (sp : Sp) (gV : List V → List V → List V) (ta : TE) (tk : TA) : TE := fun σ H Q => ta σ H fun x H1 => ∃ a dx fs, x = .ref a ∧ H1 a = some (.ins C dx fs) ∧ fs.lookup m = none ∧
  tk σ H1 fun zs H2 => zs.length = n ∧ sp (gV [x] zs) H2 Q E0
section
variable {X : Cx} {k j : Nat} {x m : Str} {ps ks : List Str} {sp : Sp} {C : Addr} {o : Expr} {tk : TA} {ta : TE} {p pos apos : Pos} {kws : List Keyword} {g : List Value → List Value → List Value} {gV : List V → List V → List V}
theorem pmK {pl : Sem Bool} (c : Cls X.K C) (M : MCal X.prog X.w X.K X.mg X.base C k m ps sp) (hb : KBn X.K M.fd ps 1 ks g gV) (hr : Room j X.A) (he : PE X o ta) (hkw : PK X kws tk) (hj : k ≤ j := by decide)
    (hall : (backToKw pos (keywordEach kws X.env)).all (·.1.isSome) = true := by rfl) (hks : (backToKw pos (keywordEach kws X.env)).filterMap (·.1) = ks := by rfl)
    (hpl : ((backTo pos (starEach [] X.env)).any (·.1) || (backToKw pos (keywordEach kws X.env)).any (·.1.isNone)) = false := by rfl)
    (ht : eval (.Call (.Attribute o m apos) [] kws pos) X.env = (do let ob ← eval o X.env; standAt apos.atName; let (g, fs) ← holding [ob] (getMethod ob m pl); callWith pos g fs (backTo pos (starEach [] X.env)) (backToKw pos (keywordEach kws X.env))) := by rfl) :
    PE X (.Call (.Attribute o m apos) [] kws pos) (tMethKw C m ks.length sp gV ta tk) := by
  refine ⟨fun pins s σ H Q I h => ?_⟩
  refine PySem.W.methodCall_KW (pl := pl) (thn (he.run pins s σ H _ I h) fun u s1 ⟨x, H1, I1, rx, a, dx, fs, ex, ea, l, q⟩ => ?_) ht
  subst ex
  obtain rfl : u = Value.ref a := rx
  refine getmeth_ok I1 ea c M.me l ?_
  refine PySem.W.callWith_KW0 (first := [.ref a]) (h₀ := X.base) I.ok.mod.kin M.me.kp hall (thn (hkw.run pos pins s1 σ H1 _ I1 q) fun ws s2 hz => ?_) hpl
  obtain ⟨zs, H2, I2, rz, l2, q2⟩ := hz
  refine ⟨I2.kIn, ?_⟩
  rw [hks]
  exact run_fnN (us := [.ref a]) (vs := [.ref a]) M.ok (hr.mono hj) hb pass0 I2 (.cons rfl .nil) rz rfl l2 q2
/-- C(k = v, ..) -/
theorem pmkK {C f : Addr} {fd : FuncData} (hM : Mk X.K C f) (F : FnOk X.prog X.w X.K X.mg X.base CX0 k f fd ps sp) (hb : KBn X.K fd ps 1 ks g gV) (hr : Room j X.A) (hm : X.mg x = some (.ref C)) (hkw : PK X kws tk) (hj : k + 1 ≤ j := by decide) (hg : Gl X x := by rfl)
    (hall : (backToKw pos (keywordEach kws X.env)).all (·.1.isSome) = true := by rfl) (hks : (backToKw pos (keywordEach kws X.env)).filterMap (·.1) = ks := by rfl) (hdb : (x == ("__debug__" : Str)) = false := by decide)
    (hpl : ((backTo pos (starEach [] X.env)).any (·.1) || (backToKw pos (keywordEach kws X.env)).any (·.1.isNone)) = false := by rfl) :
    PE X (.Call (.Name x p) [] kws pos) (tMakeK C 0 ks.length sp gV E0 tNil tk) := pe_makeK0 hM F (hr.mono hj) hg hm hb pass0 hkw hall hks hdb hpl
end
/-- one keyword behind the first argument -/
def one1 {α : Type} (us ws : List α) : List α := us ++ ws
theorem one1_rel {vs : List V} {us : List Value} {zs : List V} {ws : List Value} (r1 : Vals vs us) (r : Vals zs ws) : Vals (one1 vs zs) (one1 us ws) := r1.append r
/-- two keywords, turned, behind the first argument -/
def two1 {α : Type} (us ws : List α) : List α := us ++ ws.reverse
theorem vals_rev : ∀ {zs : List V} {ws : List Value}, Vals zs ws → Vals zs.reverse ws.reverse
  | _, _, .nil => .nil
  | _, _, .cons r t => by
    rw [List.reverse_cons, List.reverse_cons]
    exact (vals_rev t).append (.cons r .nil)
theorem two1_rel {vs : List V} {us : List Value} {zs : List V} {ws : List Value} (r1 : Vals vs us) (r : Vals zs ws) : Vals (two1 vs zs) (two1 us ws) := r1.append (vals_rev r)
end Tk

namespace Tk
open PySem PySem.Spec PyProof.Rows L2
/-! ### a def that calls repr: its promise holds where nothing is shown yet -/
structure FnG (P : Program) (w : World) (K : PySem.W.Frag) (mg : Str → Option Value) (base : Heap) (k : Nat) (f : Addr) (fd : FuncData) (ps : List Str) (sp : Sp) : Prop where
  len : ∀ vs H Q E, sp vs H Q E → vs.length = ps.length
  run : ∀ (A : Around) (outer : List Env) (s : Shared) (H : Hp) (args : Args) (us : List Value) (vs : List V) (Q : VK) (E : XK), Room k A → A.guards = some [] → Env0 P w K mg base A outer s H → BindsTo s fd args (ps.zip us) → Vals vs us → sp vs H Q E →
    codeAny (model P w) A (.call (.ref f) args) (CR CX0 outer P w H s Q E) s
section
variable {P : Program} {w : World} {K : PySem.W.Frag} {mg : Str → Option Value} {base : Heap}
theorem okG {x qual : Str} {st : Stmt} {f : Addr} {fd : FuncData} {N ps : List Str} {k : Nat} {sp : Sp} (F : Fun K x qual st f fd) (S : FnScope N ps (defScope st)) (len : ∀ vs H Q E, sp vs H Q E → vs.length = ps.length)
    (hbody : ∀ (cdv : Value) (A : Around) (outer : List Env) (s : Shared) (H : Hp) (vs : List V) (Q : VK) (E : XK), Room k (A.deeper (envOfC qual (defScope st) s.heap.objs.size f cdv)) → (A.deeper (envOfC qual (defScope st) s.heap.objs.size f cdv)).guards = some [] → sp vs H Q E →
      ∃ t, PSs (cxOf CX0 P w K mg base N qual (defScope st) f cdv A outer s H E).nox (defBody st) t ∧ t { nx := fun _ H' => Q .non H', rt := Q } (start N vs) H) : FnG P w K mg base (k + 1) f fd ps sp :=
  ⟨len, fun A outer s H args us vs Q E hr hg e0 hb r hs => def_run F S (len _ _ _ _ hs) hr e0 hb r fun cdv => hbody cdv A outer s H vs Q E (hr.deeper _) hg hs⟩
end
structure CalG (P : Program) (w : World) (K : PySem.W.Frag) (mg : Str → Option Value) (base : Heap) (k : Nat) (x : Str) (ps : List Str) (sp : Sp) where
  f : Addr
  fd : FuncData
  g : mg x = some (.ref f)
  kp : PySem.W.keepIn K (.ref f) = true
  b : Binds K fd ps []
  ok : FnG P w K mg base k f fd ps sp
def DefT.calG {P : Program} {w : World} {K : PySem.W.Frag} {mg : Str → Option Value} {base : Heap} {x : Str} {st : Stmt} {k : Nat} {ps : List Str} {sp : Sp} (D : DefT K mg x st) (b : Binds K D.fd ps []) (ok : FnG P w K mg base k D.f D.fd ps sp) : CalG P w K mg base k x ps sp := ⟨D.f, D.fd, D.g, D.F.kp, b, ok⟩
theorem FnG.mono {P : Program} {w : World} {K : PySem.W.Frag} {mg : Str → Option Value} {base : Heap} {j k : Nat} {f : Addr} {fd : FuncData} {ps : List Str} {sp : Sp} (F : FnG P w K mg base j f fd ps sp) (h : j ≤ k) : FnG P w K mg base k f fd ps sp :=
  ⟨F.len, fun A outer s H args us vs Q E hr => F.run A outer s H args us vs Q E (hr.mono h)⟩
section
variable {X : Cx} {k j : Nat} {x m : Str} {ps : List Str} {sp : Sp} {e : Expr} {es : List Expr} {t : TA} {p pos : Pos}
theorem pcG (D : CalG X.prog X.w X.K X.mg X.base k x ps sp) (hr : Room j X.A) (hgd : X.A.guards = some []) (ha : PA X (e :: es) t) (hj : k ≤ j := by decide) (hg : Gl X x := by rfl)
    (hdb : (x == ("__debug__" : Str)) = false := by decide) (he : starEach (e :: es) X.env = (false, eval e X.env) :: starEach es X.env := by rfl) (hpl : (backTo pos (starEach es X.env)).any (·.1) = false := by rfl) :
    PE X (.Call (.Name x p) (e :: es) [] pos) (tCall sp [] E0 t) := by
  refine ⟨fun pins s σ H Q I h => ?_⟩
  refine wpAny_Call_Name_kw (ld_glob I hg D.g ?_ hdb)
  refine PySem.W.callWith_K (h₀ := X.base) I.ok.mod.kin D.kp (thn (ha.run pos pins s σ H _ I h) fun us s1 ⟨vs, H1, I1, r, q⟩ => ⟨I1.kIn, ?_⟩) he hpl
  have r2 : Vals (vs ++ []) (us ++ []) := r.append .nil
  have hl : (us ++ []).length = ps.length := by rw [← r2.length]; exact D.ok.len _ _ _ _ q
  refine wpAny_call (codeAny_mono (D.ok.run X.A X.stack s1 H1 ⟨us, []⟩ (us ++ []) (vs ++ []) Q E0 (hr.mono hj) hgd I1.env0 (D.b s1 us I1.kIn hl) r2 q) fun r s' hq => ?_)
  cases r with
  | error e => exact pass0 pins σ H1 s1 e s' I1 hq
  | ok fl =>
    cases fl with
    | ret u => exact I1.after hq
    | next => exact False.elim hq
    | brk => exact False.elim hq
    | cont => exact False.elim hq
end
end Tk

namespace Tk
open PySem PySem.Spec PyProof.Rows L2
/-! ### C() of an exception of the program over Exception, whose own __init__ does nothing -/
abbrev exTail : List Value := [.type "Exception", .type "BaseException", .type "object"]
def refsEx : List Value → Bool
  | .ref _ :: r => refsEx r
  | l => l == exTail
theorem refsEx_cases : ∀ l : List Value, refsEx l = true → (∃ c r, l = .ref c :: r ∧ refsEx r = true) ∨ l = exTail
  | [], e => .inr (beq_iff_eq.mp e)
  | .ref c :: r, e => .inl ⟨c, r, rfl, e⟩
  | .none :: _, e => .inr (beq_iff_eq.mp e)
  | .ellipsis :: _, e => .inr (beq_iff_eq.mp e)
  | .notImplemented :: _, e => .inr (beq_iff_eq.mp e)
  | .bool _ :: _, e => .inr (beq_iff_eq.mp e)
  | .int _ _ :: _, e => .inr (beq_iff_eq.mp e)
  | .float _ _ :: _, e => .inr (beq_iff_eq.mp e)
  | .str _ _ :: _, e => .inr (beq_iff_eq.mp e)
  | .bytes _ _ :: _, e => .inr (beq_iff_eq.mp e)
  | .type _ :: _, e => .inr (beq_iff_eq.mp e)
  | .builtin _ :: _, e => .inr (beq_iff_eq.mp e)
theorem refsEx_contains (X : String) : ∀ l : List Value, refsEx l = true → l.contains (.type X) = exTail.contains (.type X) := by
  intro l
  induction l with
  | nil => intro e; exact absurd e (by decide)
  | cons a r ih =>
    intro e
    rcases refsEx_cases (a :: r) e with ⟨c, r', q, h⟩ | q
    · obtain ⟨rfl, rfl⟩ := List.cons.inj q
      rw [List.contains_cons, ih h]; rfl
    · rw [q]
structure OexE (K : PySem.W.Frag) (C : Addr) : Prop where
  cls : ∃ nm q N bs bm sn sub ab col dd k0 k1 k2 k3 k5, K.lookup C = some (excClassObj nm q C N bs bm true sn sub ab col dd k0 k1 k2 k3 k5 "Exception.__new__") ∧ refsEx bm = true
  exC : PySem.W.subIn K (.ref C) (.type "BaseException") = some true
  tyC : PySem.W.typeIn K (.ref C) = some (.type "type")
  kC : PySem.W.keepIn K (.ref C) = true
def spInit0 : Sp := fun vs H Q _ => ∃ a : Addr, vs = [.ref a] ∧ Q .non H
section
variable {X : Cx}
theorem mk_end00 {pins : List (Addr × Obj)} {σ : L2.St} {H1 : Hp} {hp hp2 h2 : Heap} {g1 g2 : Array GenState} {d1 d2 : Drawn} {t1 t2 : Nat} {os1 os2 : OsState} {a C : Addr} (I1 : Inv X pins σ H1 ⟨hp, g1, d1, t1, os1⟩)
    (ha : hp.objs.size ≤ a) (k : ∀ b o, hp.get? b = some o → hp2.get? b = some o) (un : Un (frs X.stack) [] (upd H1 a (exo a C none)) (upd H1 a (exo a C none)) hp2 h2) (hok : HOk X.prog X.w (upd H1 a (exo a C none)) h2) (ho : os2 = os1) (hb : AllBare g2) :
    ∃ (t0 : Addr) (G : Heap), Inv X pins σ H1 ⟨G, g2, d2, t2, os2⟩ ∧ (∀ b o, G.get? b = some o → h2.get? b = some o) ∧ G.get? a = none ∧
      h2.get? a = some ({ cls := .ref C, dict := none, data := .fields #[.ref t0, .none, .none, .none, .bool false, .none] } : Obj) ∧ H1 a = none := by
  obtain ⟨t0, hoe⟩ := exo_at hok upd_same
  have hn : H1 a = none := I1.hok.fresh ha
  obtain ⟨G, g1', g2'⟩ := restrict h2 fun b => decide (b ≠ a)
  have gk : ∀ b, b ≠ a → G.get? b = h2.get? b := fun b hb => g1' b (decide_eq_true hb)
  have ge : G.get? a = none := g2' a (by simp)
  have nha : ∀ {b : Addr} {o : Obj}, hp.get? b = some o → b ≠ a := fun {b o} z => Nat.ne_of_lt (Nat.lt_of_lt_of_le (Heap.lt_size z) ha)
  have up : ∀ {b : Addr}, b ≠ a → H1 b = none → upd H1 a (exo a C none) b = none := fun {b} hb n => by rw [upd_ne hb]; exact n
  have U : Un (frs X.stack) [] H1 H1 hp G := {
    keep := fun b o z n hf hx => by
      rw [gk b (nha z)]
      exact un.keep b o (k b o z) (up (nha z) n) hf hx
    slot := fun b o z n hf hx => by
      rw [gk b (nha z)]
      exact un.slot b o (k b o z) (up (nha z) n) hf hx
    free := fun b o z n hx => n
    there := fun b o z hx => by
      rw [gk b (nha z)]
      exact un.there b o (k b o z) hx
    tups := fun b xs z => z
    frzs := fun b o v z => z
    tbls := fun b ps z => ⟨#[], by simpa using z⟩ }
  have hok3 : HOk X.prog X.w H1 G := fun b o z => by
    have hba : b ≠ a := ne_of_none z hn
    have z' : upd H1 a (exo a C none) b = some o := by rw [upd_ne hba]; exact z
    have noa : ∀ {c : Addr}, upd H1 a (exo a C none) c = some (.own b) → c ≠ a := fun {c} hc => at_ne upd_same hc exo_own
    exact (hok b o z').stay (fun c v hc y => by
        have hca : c ≠ a := by
          rcases hc with hc | hc
          · rw [hc]
            exact hba
          · exact noa hc
        rw [gk c hca]
        exact y)
      (fun c hc => by rw [upd_ne (noa hc)] at hc; exact hc) (fun c xs hc => by rw [upd_ne (at_ne upd_same hc exo_tup)] at hc; exact hc)
  have J : Inv X pins σ H1 ⟨G, g2, d2, t2, os2⟩ := I1.call' (ch := []) ho U hok3 hb (fun b z => absurd z (by simp))
  refine ⟨t0, G, J, fun b o z => ?_, ge, hoe, hn⟩
  by_cases hba : b = a
  · rw [hba, ge] at z
    cases z
  · exact (gk b hba).symm.trans z
theorem pmk_ex0 {x : Str} {C fI : Addr} {k j : Nat} {fd : FuncData} {p pos : Pos} (T : OexE X.K C) (iC : PySem.W.findIn X.K (.ref C) "__init__" = some (some (.ref fI))) (tI : PySem.W.typeIn X.K (.ref fI) = some (.type "function"))
    (F1 : FnOk X.prog X.w X.K X.mg X.base CX0 k fI fd ["self"] spInit0) (hr : Room j X.A) (hb : Binds X.K fd ["self"] []) (hm : X.mg x = some (.ref C)) (hj : k + 1 ≤ j := by decide) (hg : Gl X x := by rfl)
    (hdb : (x == ("__debug__" : Str)) = false := by decide) :
    PMk X (.Call (.Name x p) [] [] pos) (fun _ H Q => Q (.ref C) none H) := by
  intro pins s σ H Q I h
  have hr := hr.mono hj
  obtain ⟨nm, q, N, bs, bm, sn, sub, ab, col, dd, k0, k1, k2, k3, k5, hC, hbm⟩ := T.cls
  refine wpAny_Call_Name_kw (ld_glob I hg hm ?_ hdb)
  refine PySem.W.callWith_K0 I.kIn T.kC ?_
  show wpAny _ _ (call (.ref C) []) _ _ _
  obtain ⟨hp, g, dr, tk, os⟩ := s
  have hsz : hp.objs.size ≤ hp.objs.size + 1 := Nat.le_succ _
  have kk : ∀ b o, hp.get? b = some o → ((hp.push (PySem.W.kdv_tup [])).push (PySem.HandSPX.excO C hp.objs.size)).get? b = some o := fun b o e => Heap.get?_push_of_some _ (Heap.get?_push_of_some _ e)
  have hget : ((hp.push (PySem.W.kdv_tup [])).push (PySem.HandSPX.excO C hp.objs.size)).get? (hp.objs.size + 1) = some (PySem.HandSPX.excO C hp.objs.size) := by heap_get
  have I2 : Inv X pins σ (upd H (hp.objs.size + 1) (exo (hp.objs.size + 1) C none)) ⟨(hp.push (PySem.W.kdv_tup [])).push (PySem.HandSPX.excO C hp.objs.size), g, dr, tk, os⟩ :=
    I.laid (t' := tk) (a := hp.objs.size + 1) (o := exo (hp.objs.size + 1) C none) (h' := (hp.push (PySem.W.kdv_tup [])).push (PySem.HandSPX.excO C hp.objs.size)) kk hsz (exo_ok hget)
  have hq : spInit0 [V.ref (hp.objs.size + 1)] (upd H (hp.objs.size + 1) (exo (hp.objs.size + 1) C none)) (fun v H2 => v = .non ∧ H2 = upd H (hp.objs.size + 1) (exo (hp.objs.size + 1) C none)) (fun _ _ _ => False) := ⟨_, rfl, rfl, rfl⟩
  refine wpAny_call (PySem.HandSPX.call_own PySem.F.excBase_Exception (fun Y => refsEx_contains Y bm hbm) (I.kIn _ _ hC) (PySem.W.looks_findIn I.kIn iC) (fun self => PySem.W.bind_fn I.kIn self tI) (Nat.zero_le _)
    (codeAny_mono (F1.run _ X.stack _ _ ⟨[Value.ref (hp.objs.size + 1)], []⟩ [Value.ref (hp.objs.size + 1)] _ _ (fun _ _ _ => False) (hr.make C [] []) (I2.env0.make C [] []) (hb _ [Value.ref (hp.objs.size + 1)] I2.kIn rfl) (show Vals [V.ref (hp.objs.size + 1)] [Value.ref (hp.objs.size + 1)] from .cons rfl .nil) hq) fun r s' hq' => ?_))
  cases r with
  | error er => exact (show False from hq').elim
  | ok fl =>
    cases fl with
    | ret u =>
      obtain ⟨v, H2, os2, bare2, un2, hok2, rv, ev, eH⟩ := hq'
      subst ev eH
      obtain ⟨h2, g2, d2, t2, os'⟩ := s'
      obtain ⟨t0, G, J, kG, ge, hoe, na⟩ := mk_end00 (d2 := d2) (t2 := t2) I hsz kk un2 hok2 os2 bare2
      exact ⟨rv, ⟨hp.objs.size + 1, _, _, ⟨G, g2, d2, t2, os'⟩, _, .ref C, none, rfl, J, kG, ge, hoe, ⟨rfl, rfl⟩, rfl, rfl, na, rfl, bare2, raises_own T.exC T.tyC, h⟩⟩
    | next => exact False.elim hq'
    | brk => exact False.elim hq'
    | cont => exact False.elim hq'
end
end Tk

namespace Tk
open PySem PySem.Spec PyProof.Rows L2
/-! ### methods and defs that may raise -/
structure MCalX (P : Program) (w : World) (K : PySem.W.Frag) (mg : Str → Option Value) (base : Heap) (C : Addr) (k : Nat) (m : Str) (ps : List Str) (sp : Sp) where
  f : Addr
  fd : FuncData
  me : Meth K C m f
  b : Binds K fd ps []
  ok : FnOk P w K mg base (L2.CX P w) k f fd ps sp
def MthT.calX {P : Program} {w : World} {K : PySem.W.Frag} {mg : Str → Option Value} {base : Heap} {m qual : Str} {st : Stmt} {k : Nat} {ps : List Str} {sp : Sp} {C : Addr} (D : MthT K C m qual st) (b : Binds K D.fd ps []) (ok : FnOk P w K mg base (L2.CX P w) k D.f D.fd ps sp) : MCalX P w K mg base C k m ps sp := ⟨D.f, D.fd, D.me, b, ok⟩
section
variable {X : Cx} {k j n : Nat} {x m : Str} {ps ks : List Str} {sp : Sp} {C : Addr} {e o : Expr} {es : List Expr} {t tk : TA} {ta : TE} {p pos apos : Pos} {E : XK} {kws : List Keyword} {g : List Value → List Value → List Value} {gV : List V → List V → List V}
theorem pmX {pl : Sem Bool} (c : Cls X.K C) (M : MCalX X.prog X.w X.K X.mg X.base C k m ps sp) (hx : Passes (L2.CX X.prog X.w) X E) (hr : Room j X.A) (he : PE X o ta) (ha : PA X (e :: es) t) (hj : k ≤ j := by decide)
    (hst : starEach (e :: es) X.env = (false, eval e X.env) :: starEach es X.env := by rfl) (hpl : (backTo pos (starEach es X.env)).any (·.1) = false := by rfl)
    (ht : eval (.Call (.Attribute o m apos) (e :: es) [] pos) X.env = (do let ob ← eval o X.env; standAt apos.atName; let (g, fs) ← holding [ob] (getMethod ob m pl); callWith pos g fs (backTo pos (starEach (e :: es) X.env)) (backToKw pos (keywordEach [] X.env))) := by rfl) :
    PE X (.Call (.Attribute o m apos) (e :: es) [] pos) (tMeth C m sp [] E ta t) := pe_meth he c M.me M.ok (hr.mono hj) M.b .nil hx ha hst hpl ht
theorem pmX0 {pl : Sem Bool} (c : Cls X.K C) (M : MCalX X.prog X.w X.K X.mg X.base C k m ps sp) (hx : Passes (L2.CX X.prog X.w) X E) (hr : Room j X.A) (he : PE X o ta) (hj : k ≤ j := by decide)
    (ht : eval (.Call (.Attribute o m apos) [] [] pos) X.env = (do let ob ← eval o X.env; standAt apos.atName; let (g, fs) ← holding [ob] (getMethod ob m pl); callWith pos g fs (backTo pos (starEach [] X.env)) (backToKw pos (keywordEach [] X.env))) := by rfl) :
    PE X (.Call (.Attribute o m apos) [] [] pos) (tMeth C m sp [] E ta tNil) := pe_meth0 he c M.me M.ok (hr.mono hj) M.b .nil hx ht
/-- o.m(k = v, ..): keywords alone, and it may raise -/
def tMethKwX (C : Addr) (m : Str) (n : Nat) (sp : Sp) (gV : List V → List V → List V) (E : XK) (ta : TE) (tk : TA) : TE := fun σ H Q => ta σ H fun x H1 => ∃ a dx fs, x = .ref a ∧ H1 a = some (.ins C dx fs) ∧ fs.lookup m = none ∧
  tk σ H1 fun zs H2 => zs.length = n ∧ sp (gV [x] zs) H2 Q E
theorem pmXK {pl : Sem Bool} (c : Cls X.K C) (M : MCalX X.prog X.w X.K X.mg X.base C k m ps sp) (hx : Passes (L2.CX X.prog X.w) X E) (hb : KBn X.K M.fd ps 1 ks g gV) (hr : Room j X.A) (he : PE X o ta) (hkw : PK X kws tk) (hj : k ≤ j := by decide)
    (hall : (backToKw pos (keywordEach kws X.env)).all (·.1.isSome) = true := by rfl) (hks : (backToKw pos (keywordEach kws X.env)).filterMap (·.1) = ks := by rfl)
    (hpl : ((backTo pos (starEach [] X.env)).any (·.1) || (backToKw pos (keywordEach kws X.env)).any (·.1.isNone)) = false := by rfl)
    (ht : eval (.Call (.Attribute o m apos) [] kws pos) X.env = (do let ob ← eval o X.env; standAt apos.atName; let (g, fs) ← holding [ob] (getMethod ob m pl); callWith pos g fs (backTo pos (starEach [] X.env)) (backToKw pos (keywordEach kws X.env))) := by rfl) :
    PE X (.Call (.Attribute o m apos) [] kws pos) (tMethKwX C m ks.length sp gV E ta tk) := by
  refine ⟨fun pins s σ H Q I h => ?_⟩
  refine PySem.W.methodCall_KW (pl := pl) (thn (he.run pins s σ H _ I h) fun u s1 ⟨x, H1, I1, rx, a, dx, fs, ex, ea, l, q⟩ => ?_) ht
  subst ex
  obtain rfl : u = Value.ref a := rx
  refine getmeth_ok I1 ea c M.me l ?_
  refine PySem.W.callWith_KW0 (first := [.ref a]) (h₀ := X.base) I.ok.mod.kin M.me.kp hall (thn (hkw.run pos pins s1 σ H1 _ I1 q) fun ws s2 hz => ?_) hpl
  obtain ⟨zs, H2, I2, rz, l2, q2⟩ := hz
  refine ⟨I2.kIn, ?_⟩
  rw [hks]
  exact run_fnN (us := [.ref a]) (vs := [.ref a]) M.ok (hr.mono hj) hb hx I2 (.cons rfl .nil) rz rfl l2 q2
end
end Tk

namespace Tk
open PySem PySem.Spec PyProof.Rows L2
/-! ### in a try: a method that may raise, the wish by the slots -/
def tMethS (C : Addr) (m : Str) (sp : Sp) (E : L2.St → XK) (ta : TE) : TE := fun σ H Q => ta σ H fun x H1 => ∃ a dx fs, x = .ref a ∧ H1 a = some (.ins C dx fs) ∧ fs.lookup m = none ∧ sp [x] H1 Q (E σ)
def tMethKwS (C : Addr) (m : Str) (n : Nat) (sp : Sp) (gV : List V → List V → List V) (E : L2.St → XK) (ta : TE) (tk : TA) : TE := fun σ H Q => ta σ H fun x H1 => ∃ a dx fs, x = .ref a ∧ H1 a = some (.ins C dx fs) ∧ fs.lookup m = none ∧
  tk σ H1 fun zs H2 => zs.length = n ∧ sp (gV [x] zs) H2 Q (E σ)
section
variable {X : Cx} {k j n : Nat} {x m : Str} {ps ks : List Str} {sp : Sp} {C : Addr} {e o : Expr} {es : List Expr} {t tk : TA} {ta : TE} {p pos apos : Pos} {E : L2.St → XK} {kws : List Keyword} {g : List Value → List Value → List Value} {gV : List V → List V → List V}
theorem pmS0 {pl : Sem Bool} (c : Cls X.K C) (M : MCalX X.prog X.w X.K X.mg X.base C k m ps sp) (hx : ∀ σ, PassesAt (L2.CX X.prog X.w) X σ (E σ)) (hr : Room j X.A) (he : PE X o ta) (hj : k ≤ j := by decide)
    (ht : eval (.Call (.Attribute o m apos) [] [] pos) X.env = (do let ob ← eval o X.env; standAt apos.atName; let (g, fs) ← holding [ob] (getMethod ob m pl); callWith pos g fs (backTo pos (starEach [] X.env)) (backToKw pos (keywordEach [] X.env))) := by rfl) :
    PE X (.Call (.Attribute o m apos) [] [] pos) (tMethS C m sp E ta) := by
  refine ⟨fun pins s σ H Q I h => ?_⟩
  refine PySem.W.methodCall_KW (pl := pl) (thn (he.run pins s σ H _ I h) fun u s1 ⟨x, H1, I1, rx, a, dx, fs, ex, ea, l, q⟩ => ?_) ht
  subst ex
  obtain rfl : u = Value.ref a := rx
  refine getmeth_ok I1 ea c M.me l ?_
  exact PySem.W.callWith_K0 (first := [.ref a]) I1.kIn M.me.kp (run_fnS (us := [.ref a]) (vs := [.ref a]) M.ok (hr.mono hj) M.b (hx σ) I1 (.cons rfl .nil) q)
theorem pmKS {pl : Sem Bool} (c : Cls X.K C) (M : MCalX X.prog X.w X.K X.mg X.base C k m ps sp) (hx : ∀ σ, PassesAt (L2.CX X.prog X.w) X σ (E σ)) (hb : KBn X.K M.fd ps 1 ks g gV) (hr : Room j X.A) (he : PE X o ta) (hkw : PK X kws tk) (hj : k ≤ j := by decide)
    (hall : (backToKw pos (keywordEach kws X.env)).all (·.1.isSome) = true := by rfl) (hks : (backToKw pos (keywordEach kws X.env)).filterMap (·.1) = ks := by rfl)
    (hpl : ((backTo pos (starEach [] X.env)).any (·.1) || (backToKw pos (keywordEach kws X.env)).any (·.1.isNone)) = false := by rfl)
    (ht : eval (.Call (.Attribute o m apos) [] kws pos) X.env = (do let ob ← eval o X.env; standAt apos.atName; let (g, fs) ← holding [ob] (getMethod ob m pl); callWith pos g fs (backTo pos (starEach [] X.env)) (backToKw pos (keywordEach kws X.env))) := by rfl) :
    PE X (.Call (.Attribute o m apos) [] kws pos) (tMethKwS C m ks.length sp gV E ta tk) := by
  refine ⟨fun pins s σ H Q I h => ?_⟩
  refine PySem.W.methodCall_KW (pl := pl) (thn (he.run pins s σ H _ I h) fun u s1 ⟨x, H1, I1, rx, a, dx, fs, ex, ea, l, q⟩ => ?_) ht
  subst ex
  obtain rfl : u = Value.ref a := rx
  refine getmeth_ok I1 ea c M.me l ?_
  refine PySem.W.callWith_KW0 (first := [.ref a]) (h₀ := X.base) I.ok.mod.kin M.me.kp hall (thn (hkw.run pos pins s1 σ H1 _ I1 q) fun ws s2 hz => ?_) hpl
  obtain ⟨zs, H2, I2, rz, l2, q2⟩ := hz
  refine ⟨I2.kIn, ?_⟩
  rw [hks]
  have r2 := hb.rel (vs := [.ref a]) (us := [.ref a]) (.cons rfl .nil) rz
  refine wpAny_call (codeAny_mono (M.ok.run X.A X.stack s2 H2 ⟨[.ref a], ks.zip ws⟩ (g [.ref a] ws) (gV [.ref a] zs) Q (E σ) (hr.mono hj) I2.env0 (hb.to s2 [.ref a] ws I2.kIn rfl (rz.length.symm.trans l2)) r2 q2) fun r s' hq => ?_)
  cases r with
  | error e => exact hx σ pins H2 s2 e s' I2 hq
  | ok fl =>
    cases fl with
    | ret u => exact I2.after hq
    | next => exact False.elim hq
    | brk => exact False.elim hq
    | cont => exact False.elim hq
end
end Tk

namespace Tk
open PySem PySem.Spec PyProof.Rows L2
/-- a class of the program whose instances are equal only to themselves -/
structure CmpC (K : PySem.W.Frag) (C : Addr) : Prop where
  ex : ∃ nm q N bs hdct sn sub ab col dd k0 k1 k2 k3 k5 newId, K.lookup C = some (excClassObj nm q C N bs [.type "object"] hdct sn sub ab col dd k0 k1 k2 k3 k5 newId) ∧ PySem.W.nsIn K N "__eq__" = some none ∧ PySem.W.nsIn K N "__ne__" = some none ∧ ∀ h : Heap, K.In h → ∃ mN, h.Ns N mN
def rEqIns (C : Addr) : R2 := fun x y H Q => ∃ a b dx dy fs gs, x = .ref a ∧ y = .ref b ∧ H a = some (.ins C dx fs) ∧ H b = some (.ins C dy gs) ∧ Q (.bl (decide (a = b))) H
section
variable {X : Cx}
theorem op_eqIns {C : Addr} (T : CmpC X.K C) (hu : X.A.units + 64 < cLine) : OpR X (compareOp .Eq) (rEqIns C) := by
  intro pins s σ H x y v u Q I rx ry h
  obtain ⟨a, b, dx, dy, fs, gs, rfl, rfl, ha, hb, q⟩ := h
  cases rx
  cases ry
  obtain ⟨nm, qn, N, bs, hdct, sn, sub, ab, col, dd, k0, k1, k2, k3, k5, newId, hC, n1, n2, hn⟩ := T.ex
  obtain ⟨mN, hN⟩ := hn _ I.kIn
  have ci : ∀ {c dz : Addr} {hs : List (Str × V)}, H c = some (.ins C dz hs) → s.heap.CmpInst c C [.type "object"] := fun {c dz hs} e =>
    ⟨_, nm, qn, N, bs, hdct, sn, sub, ab, col, dd, k0, k1, k2, k3, k5, newId, mN, (I.hok _ _ e).2.2.2.1, rfl, I.kIn _ _ hC, hN, PySem.W.ns_none_of I.kIn hN n1, PySem.W.ns_none_of I.kIn hN n2⟩
  have hu0 : X.A.units < cLine := by omega
  obtain ⟨hp, g, d, t, os⟩ := s
  by_cases e : a = b
  · subst e
    exact compareOp_eq_same PySem.F.cmp_object (ci ha) hu0 (fin_bl I q (by simp))
  · exact compareOp_eq_other PySem.F.cmp_object PySem.F.cmp_object (ci ha) (ci hb) e hu0 (fin_bl I q (by simp [e]))
end
theorem lc_zip {K : PySem.W.Frag} {a b : Addr} {xs ys : List V} {g : TG} {tt : TT} {te : TE} {vs : List Nat} {σ : L2.St} {H1 : Hp} {D : Addr} {Qd : Hp → Prop} (hl : xs.length = ys.length) (Pv : Nat → Hp → Prop) (h0 : Pv 0 (upd H1 D (.lst []))) (hq : ∀ i H, Pv i H → SqL K H a xs ∧ SqL K H b ys)
    (hs : ∀ i x y T H, xs[i]? = some x → ys[i]? = some y → Pv i H → H T = none → g (.ref T) (wipe σ vs) (upd H T (.tup [x, y])) fun σ2 H2 => wipe σ2 vs = wipe σ vs ∧ tt σ2 H2 fun b H3 =>
      if b = true then te σ2 H3 fun y H4 => ∃ acc, H4 D = some (.lst acc) ∧ acc.length < sizeLine ∧ Pv (i + 1) (upd H4 D (.lst (acc ++ [y]))) else Pv (i + 1) H3) (hd : ∀ H, Pv xs.length H → Qd H) :
    ∃ W : Nat → Nat → Hp → Prop, (∃ m, W 0 m (upd H1 D (.lst []))) ∧ ∀ i m H, W i m H →
      ((Itz K a b).stop i H ∧ Qd H) ∨ ((Itz K a b).go i H ∧ ∃ Nx : Hp → Prop, (∀ H', Nx H' → ∃ m', m' < m ∧ W (i + 1) m' H') ∧ ∀ x H', (Itz K a b).yld i H x H' → g x (wipe σ vs) H' fun σ2 H2 => wipe σ2 vs = wipe σ vs ∧ tt σ2 H2 fun b H3 =>
        if b = true then te σ2 H3 fun y H4 => ∃ acc, H4 D = some (.lst acc) ∧ acc.length < sizeLine ∧ Nx (upd H4 D (.lst (acc ++ [y]))) else Nx H3) := by
  refine ⟨fun i m H => m = xs.length - i ∧ i ≤ xs.length ∧ Pv i H, ⟨xs.length, rfl, Nat.zero_le _, h0⟩, ?_⟩
  rintro i m H ⟨rfl, hi, p⟩
  obtain ⟨qx, qy⟩ := hq i H p
  by_cases hlt : i < xs.length
  · refine .inr ⟨⟨xs, ys, _, _, qx, qy, List.getElem?_eq_getElem hlt, List.getElem?_eq_getElem (hl ▸ hlt)⟩, Pv (i + 1), fun H' p' => ⟨_, by omega, rfl, by omega, p'⟩, ?_⟩
    rintro x H' ⟨T, u, v, rfl, hT, rfl, f1, f2⟩
    exact hs i u v T H (f1 _ qx) (f2 _ qy) p hT
  · have e : i = xs.length := by omega
    exact .inl ⟨⟨xs, ys, qx, qy, .inl (by omega)⟩, hd H (by rw [← e]; exact p)⟩
end Tk

namespace Tk17
open PySem PySem.Spec PyProof.Rows L2 Tk
def top (i : Nat) : Stmt := PySem.Challenge.pw_trailkeep_k17_copies_of_disks.main.body.getD i (.Pass ⟨0, 0, 0, 0⟩)
abbrev S_BadSize___init__ : Stmt := inClass (top 2) 0
theorem sc_BadSize___init__ : FnScope ["self", "thing"] ["self", "thing"] (defScope S_BadSize___init__) := ⟨rfl, rfl, rfl, by decide +kernel, rfl, by decide +kernel, by decide +kernel⟩
abbrev S_BadPlace___init__ : Stmt := inClass (top 3) 0
theorem sc_BadPlace___init__ : FnScope ["self", "thing"] ["self", "thing"] (defScope S_BadPlace___init__) := ⟨rfl, rfl, rfl, by decide +kernel, rfl, by decide +kernel, by decide +kernel⟩
abbrev S_BadBlock___init__ : Stmt := inClass (top 4) 0
theorem sc_BadBlock___init__ : FnScope ["self", "thing"] ["self", "thing"] (defScope S_BadBlock___init__) := ⟨rfl, rfl, rfl, by decide +kernel, rfl, by decide +kernel, by decide +kernel⟩
abbrev S_PowerCut___init__ : Stmt := inClass (top 5) 0
theorem sc_PowerCut___init__ : FnScope ["self"] ["self"] (defScope S_PowerCut___init__) := ⟨rfl, rfl, rfl, by decide +kernel, rfl, by decide +kernel, by decide +kernel⟩
abbrev S_BadCut___init__ : Stmt := inClass (top 6) 0
theorem sc_BadCut___init__ : FnScope ["self", "thing"] ["self", "thing"] (defScope S_BadCut___init__) := ⟨rfl, rfl, rfl, by decide +kernel, rfl, by decide +kernel, by decide +kernel⟩
abbrev S_BadNumber___init__ : Stmt := inClass (top 7) 0
theorem sc_BadNumber___init__ : FnScope ["self", "thing"] ["self", "thing"] (defScope S_BadNumber___init__) := ⟨rfl, rfl, rfl, by decide +kernel, rfl, by decide +kernel, by decide +kernel⟩
abbrev S_is_integer : Stmt := top 11
theorem sc_is_integer : FnScope ["thing"] ["thing"] (defScope S_is_integer) := ⟨rfl, rfl, rfl, by decide +kernel, rfl, by decide +kernel, by decide +kernel⟩
abbrev S_is_within : Stmt := top 12
theorem sc_is_within : FnScope ["thing", "least", "most"] ["thing", "least", "most"] (defScope S_is_within) := ⟨rfl, rfl, rfl, by decide +kernel, rfl, by decide +kernel, by decide +kernel⟩
abbrev S_are_within : Stmt := top 13
theorem sc_are_within : FnScope ["thing", "least", "most", "part"] ["thing", "least", "most"] (defScope S_are_within) := ⟨rfl, rfl, rfl, by decide +kernel, rfl, by decide +kernel, by decide +kernel⟩
abbrev S_are_words : Stmt := top 14
theorem sc_are_words : FnScope ["thing"] ["thing"] (defScope S_are_words) := ⟨rfl, rfl, rfl, by decide +kernel, rfl, by decide +kernel, by decide +kernel⟩
abbrev S_is_block : Stmt := top 23
theorem sc_is_block : FnScope ["thing"] ["thing"] (defScope S_is_block) := ⟨rfl, rfl, rfl, by decide +kernel, rfl, by decide +kernel, by decide +kernel⟩
abbrev S_is_keep : Stmt := top 24
theorem sc_is_keep : FnScope ["thing"] ["thing"] (defScope S_is_keep) := ⟨rfl, rfl, rfl, by decide +kernel, rfl, by decide +kernel, by decide +kernel⟩
abbrev S_is_fuse : Stmt := top 25
theorem sc_is_fuse : FnScope ["thing"] ["thing"] (defScope S_is_fuse) := ⟨rfl, rfl, rfl, by decide +kernel, rfl, by decide +kernel, by decide +kernel⟩
abbrev S_Disk___init__ : Stmt := inClass (top 26) 0
theorem sc_Disk___init__ : FnScope ["self", "segments", "blocks", "keys", "area"] ["self", "segments", "blocks"] (defScope S_Disk___init__) := ⟨rfl, rfl, rfl, by decide +kernel, rfl, by decide +kernel, by decide +kernel⟩
abbrev S_Disk_sizes : Stmt := inClass (top 26) 1
theorem sc_Disk_sizes : FnScope ["self"] ["self"] (defScope S_Disk_sizes) := ⟨rfl, rfl, rfl, by decide +kernel, rfl, by decide +kernel, by decide +kernel⟩
abbrev S_Disk_many : Stmt := inClass (top 26) 2
theorem sc_Disk_many : FnScope ["self"] ["self"] (defScope S_Disk_many) := ⟨rfl, rfl, rfl, by decide +kernel, rfl, by decide +kernel, by decide +kernel⟩
abbrev S_Disk_read : Stmt := inClass (top 26) 3
theorem sc_Disk_read : FnScope ["self", "place"] ["self", "place"] (defScope S_Disk_read) := ⟨rfl, rfl, rfl, by decide +kernel, rfl, by decide +kernel, by decide +kernel⟩
abbrev S_Disk_write : Stmt := inClass (top 26) 4
theorem sc_Disk_write : FnScope ["self", "place", "block"] ["self", "place", "block"] (defScope S_Disk_write) := ⟨rfl, rfl, rfl, by decide +kernel, rfl, by decide +kernel, by decide +kernel⟩
abbrev S_Disk_force : Stmt := inClass (top 26) 5
theorem sc_Disk_force : FnScope ["self", "place", "block"] ["self"] (defScope S_Disk_force) := ⟨rfl, rfl, rfl, by decide +kernel, rfl, by decide +kernel, by decide +kernel⟩
abbrev S_Disk_waiting : Stmt := inClass (top 26) 6
theorem sc_Disk_waiting : FnScope ["self"] ["self"] (defScope S_Disk_waiting) := ⟨rfl, rfl, rfl, by decide +kernel, rfl, by decide +kernel, by decide +kernel⟩
abbrev S_Disk_standing : Stmt := inClass (top 26) 7
theorem sc_Disk_standing : FnScope ["self"] ["self"] (defScope S_Disk_standing) := ⟨rfl, rfl, rfl, by decide +kernel, rfl, by decide +kernel, by decide +kernel⟩
abbrev S_Disk_cut : Stmt := inClass (top 26) 8
theorem sc_Disk_cut : FnScope ["self", "keep", "place", "block", "many"] ["self", "keep"] (defScope S_Disk_cut) := ⟨rfl, rfl, rfl, by decide +kernel, rfl, by decide +kernel, by decide +kernel⟩
abbrev S_Disk_fuse : Stmt := inClass (top 26) 9
theorem sc_Disk_fuse : FnScope ["self", "many"] ["self", "many"] (defScope S_Disk_fuse) := ⟨rfl, rfl, rfl, by decide +kernel, rfl, by decide +kernel, by decide +kernel⟩
abbrev S_Disk_copied : Stmt := inClass (top 26) 10
theorem sc_Disk_copied : FnScope ["self", "other"] ["self"] (defScope S_Disk_copied) := ⟨rfl, rfl, rfl, by decide +kernel, rfl, by decide +kernel, by decide +kernel⟩
abbrev S_Disk__check_place : Stmt := inClass (top 26) 11
theorem sc_Disk__check_place : FnScope ["self", "place"] ["self", "place"] (defScope S_Disk__check_place) := ⟨rfl, rfl, rfl, by decide +kernel, rfl, by decide +kernel, by decide +kernel⟩
abbrev S_Disk__burn : Stmt := inClass (top 26) 12
theorem sc_Disk__burn : FnScope ["self"] ["self"] (defScope S_Disk__burn) := ⟨rfl, rfl, rfl, by decide +kernel, rfl, by decide +kernel, by decide +kernel⟩
abbrev S_Disk__wait_for_none : Stmt := inClass (top 26) 13
theorem sc_Disk__wait_for_none : FnScope ["self"] ["self"] (defScope S_Disk__wait_for_none) := ⟨rfl, rfl, rfl, by decide +kernel, rfl, by decide +kernel, by decide +kernel⟩
abbrev S__law_deck : Stmt := top 28
theorem sc__law_deck : FnScope ["script", "mixed", "cell"] ["script"] (defScope S__law_deck) := ⟨rfl, rfl, rfl, by decide +kernel, rfl, by decide +kernel, by decide +kernel⟩
abbrev S__law_draw : Stmt := top 29
theorem sc__law_draw : FnScope ["deck", "below", "figure", "cell"] ["deck", "below"] (defScope S__law_draw) := ⟨rfl, rfl, rfl, by decide +kernel, rfl, by decide +kernel, by decide +kernel⟩
abbrev S__law_pick : Stmt := top 30
theorem sc__law_pick : FnScope ["deck", "some"] ["deck", "some"] (defScope S__law_pick) := ⟨rfl, rfl, rfl, by decide +kernel, rfl, by decide +kernel, by decide +kernel⟩
abbrev S__law_shuffled : Stmt := top 31
theorem sc__law_shuffled : FnScope ["deck", "some", "left", "found", "go"] ["deck", "some"] (defScope S__law_shuffled) := ⟨rfl, rfl, rfl, by decide +kernel, rfl, by decide +kernel, by decide +kernel⟩
abbrev S__law_sizes : Stmt := top 32
theorem sc__law_sizes : FnScope ["segments", "blocks", "room"] ["segments", "blocks"] (defScope S__law_sizes) := ⟨rfl, rfl, rfl, by decide +kernel, rfl, by decide +kernel, by decide +kernel⟩
abbrev S__law_many : Stmt := top 33
theorem sc__law_many : FnScope ["sizes"] ["sizes"] (defScope S__law_many) := ⟨rfl, rfl, rfl, by decide +kernel, rfl, by decide +kernel, by decide +kernel⟩
abbrev S__law_blank : Stmt := top 34
theorem sc__law_blank : FnScope ["sizes"] ["sizes"] (defScope S__law_blank) := ⟨rfl, rfl, rfl, by decide +kernel, rfl, by decide +kernel, by decide +kernel⟩
abbrev S__law_forced : Stmt := top 35
theorem sc__law_forced : FnScope ["it", "stand", "place", "block"] ["it"] (defScope S__law_forced) := ⟨rfl, rfl, rfl, by decide +kernel, rfl, by decide +kernel, by decide +kernel⟩
abbrev S__law_fell : Stmt := top 36
theorem sc__law_fell : FnScope ["it", "keep", "stand", "at", "place", "block", "many"] ["it", "keep"] (defScope S__law_fell) := ⟨rfl, rfl, rfl, by decide +kernel, rfl, by decide +kernel, by decide +kernel⟩
abbrev S__law_word : Stmt := top 37
theorem sc__law_word : FnScope ["deck"] ["deck"] (defScope S__law_word) := ⟨rfl, rfl, rfl, by decide +kernel, rfl, by decide +kernel, by decide +kernel⟩
abbrev S__law_block : Stmt := top 38
theorem sc__law_block : FnScope ["deck", "way", "word", "i"] ["deck"] (defScope S__law_block) := ⟨rfl, rfl, rfl, by decide +kernel, rfl, by decide +kernel, by decide +kernel⟩
abbrev S__law_keep : Stmt := top 39
theorem sc__law_keep : FnScope ["deck", "many", "length", "i"] ["deck", "many"] (defScope S__law_keep) := ⟨rfl, rfl, rfl, by decide +kernel, rfl, by decide +kernel, by decide +kernel⟩
abbrev S__law_drawn_sizes : Stmt := top 40
theorem sc__law_drawn_sizes : FnScope ["deck"] ["deck"] (defScope S__law_drawn_sizes) := ⟨rfl, rfl, rfl, by decide +kernel, rfl, by decide +kernel, by decide +kernel⟩
abbrev S__law_copied : Stmt := top 41
theorem sc__law_copied : FnScope ["it"] ["it"] (defScope S__law_copied) := ⟨rfl, rfl, rfl, by decide +kernel, rfl, by decide +kernel, by decide +kernel⟩
abbrev S__law_is_same : Stmt := top 42
theorem sc__law_is_same : FnScope ["disk", "it", "seen", "place", "block"] ["disk", "it"] (defScope S__law_is_same) := ⟨rfl, rfl, rfl, by decide +kernel, rfl, by decide +kernel, by decide +kernel⟩
abbrev S__law_did : Stmt := top 43
theorem sc__law_did : FnScope ["deck", "disk", "it", "way", "keep"] ["deck", "disk", "it"] (defScope S__law_did) := ⟨rfl, rfl, rfl, by decide +kernel, rfl, by decide +kernel, by decide +kernel⟩
abbrev S__law_set : Stmt := top 44
theorem sc__law_set : FnScope ["deck", "disk", "it"] ["deck", "disk", "it"] (defScope S__law_set) := ⟨rfl, rfl, rfl, by decide +kernel, rfl, by decide +kernel, by decide +kernel⟩
abbrev S__law_is_passed : Stmt := top 45
theorem sc__law_is_passed : FnScope ["deck", "disk", "it", "is_force", "place", "block", "is_passed"] ["deck", "disk", "it", "is_force"] (defScope S__law_is_passed) := ⟨rfl, rfl, rfl, by decide +kernel, rfl, by decide +kernel, by decide +kernel⟩
abbrev S_law : Stmt := top 46
theorem sc_law : FnScope ["script", "deck", "sizes", "disks", "own", "turn", "go", "at", "disk", "it"] ["script"] (defScope S_law) := ⟨rfl, rfl, rfl, by decide +kernel, rfl, by decide +kernel, by decide +kernel⟩
/-! ### the law's deck: a row of ints, a mixed number, a turn -/
def kCells : Key := Sum.inr ("cells" : Str)
def kMixed : Key := Sum.inr ("mixed" : Str)
def kTurn : Key := Sum.inr ("turn" : Str)
def deckK (c : Addr) (m t : Int) : List (Key × V) := [(kCells, .ref c), (kMixed, .int m), (kTurn, .int t)]
theorem deck_cells (c : Addr) (m t : Int) : valV (deckK c m t) kCells = some (.ref c) := rfl
theorem deck_mixed (c : Addr) (m t : Int) : valV (deckK c m t) kMixed = some (.int m) := rfl
theorem deck_turn (c : Addr) (m t : Int) : valV (deckK c m t) kTurn = some (.int t) := rfl
theorem deck_put (c : Addr) (m t u : Int) : putK (deckK c m t) kTurn (.int u) = deckK c m u := rfl
structure DeckAt (H : Hp) (d c : Addr) : Prop where
  ex : ∃ (m t : Int) (ns : List Int), H d = some (.dK (deckK c m t)) ∧ H c = some (.lst (ns.map V.int)) ∧ 0 ≤ m ∧ m < 2147483648 ∧ ns.length ≤ 63
theorem DeckAt.ne {H : Hp} {d c : Addr} (D : DeckAt H d c) : d ≠ c := by
  obtain ⟨m, t, ns, h1, h2, _⟩ := D.ex
  exact ne_of h1 h2 (by intro z; cases z)
theorem DeckAt.same {H H' : Hp} {d c : Addr} (D : DeckAt H d c) (s : Same H H') : DeckAt H' d c := by
  obtain ⟨m, t, ns, h1, h2, r⟩ := D.ex
  exact ⟨m, t, ns, s _ _ h1, s _ _ h2, r⟩
theorem DeckAt.nd {H : Hp} {d c p : Addr} (D : DeckAt H d c) (n : H p = none) : p ≠ d ∧ p ≠ c := by
  obtain ⟨m, t, ns, h1, h2, r⟩ := D.ex
  exact ⟨(ne_of_none h1 n).symm, (ne_of_none h2 n).symm⟩
theorem dg_cells {H : Hp} {d c : Addr} {m t : Int} (h : H d = some (.dK (deckK c m t))) : DGet H d (.str "cells") (some (.ref c)) := DGet.k (k := kCells) h
theorem dg_mixed {H : Hp} {d c : Addr} {m t : Int} (h : H d = some (.dK (deckK c m t))) : DGet H d (.str "mixed") (some (.int m)) := DGet.k (k := kMixed) h
theorem dg_turn {H : Hp} {d c : Addr} {m t : Int} (h : H d = some (.dK (deckK c m t))) : DGet H d (.str "turn") (some (.int t)) := DGet.k (k := kTurn) h
theorem dp_turn {H : Hp} {d c : Addr} {m t u : Int} (h : H d = some (.dK (deckK c m t))) : DPut H d (.str "turn") (.int u) (upd H d (.dK (deckK c m u))) :=
  DPut.k (k := kTurn) (v := V.int u) h (small1000 (by show 3 ≤ 1000; decide))
theorem dpInts (K : PySem.W.Frag) (H : Hp) : ∀ ns : List Int, DpAll K H (ns.map V.int) (ns.map PyData.int)
  | [] => .nil
  | n :: ns => .cons (.int n) (dpInts K H ns)
theorem canLay_ints : ∀ ns : List Int, PyData.canLayAll0 (ns.map PyData.int) = true
  | [] => by simp [PyData.canLayAll0]
  | n :: ns => by simp [PyData.canLayAll0, PyData.canLay0, canLay_ints ns]
theorem depth_ints : ∀ ns : List Int, PyData.depthAll (ns.map PyData.int) ≤ 1
  | [] => by simp [PyData.depthAll]
  | n :: ns => by
    have h := depth_ints ns
    simp only [List.map_cons, PyData.depthAll, PyData.depth]
    exact Nat.max_le.mpr ⟨by decide, h⟩
theorem shaped_ints (ns : List Int) : SeqAt.shaped (.list (ns.map PyData.int)) = true := by
  have h := depth_ints ns
  refine Bool.and_eq_true_iff.mpr ⟨by simp only [PyData.canLay0, canLay_ints], decide_eq_true ?_⟩
  simp only [PyData.depth]
  omega
theorem mod_small (x n : Int) (h0 : 0 < n) (h : n < 2 ^ 64) : -(2 ^ 64) < x % n ∧ x % n < 2 ^ 64 := by
  have h1 := Int.emod_nonneg x (Int.ne_of_gt h0)
  have h2 := Int.emod_lt_of_pos x h0
  omega
/-- names of the builtins are free -/
structure Bi (mg : Str → Option Value) : Prop where
  int : mg "int" = none
  max : mg "max" = none
  len : mg "len" = none
/-- a draw: any int from 0 up to below; the deck alone has changed -/
def spDraw : Sp := fun vs H Q _ => ∃ (d c : Addr) (b : Int), vs = [.ref d, .int b] ∧ DeckAt H d c ∧ 0 < b ∧ b < 1073741823 ∧
  ∀ (v : Int) (H' : Hp), 0 ≤ v → v < b → DeckAt H' d c → But [d, c] H H' → Q (.int v) H'
section
variable {P : Program} {w : World} {K : PySem.W.Frag} {mg : Str → Option Value} {base : Heap}
theorem ok_draw (D : DefT K mg "_law_draw" S__law_draw) (B : Bi mg) : FnOk P w K mg base CX0 1 D.f D.fd ["deck", "below"] spDraw := by
  refine D.F.ok sc__law_draw (fun vs H Q E h => ?_) (fun cdv A outer s H vs Q E hr h => ?_)
  · obtain ⟨d, c, b, rfl, _⟩ := h
    rfl
  · obtain ⟨d, c, b, rfl, Dk, hb0, hb1, k⟩ := h
    have hu := hu_of hr
    have hdc := Dk.ne
    obtain ⟨m, t, ns, h1, h2, hm0, hm1, hl⟩ := Dk.ex
    have nd := sc__law_draw.nd
    refine ⟨_, pss_cons (ps_dput hu (pv 0) pe_str (pe_op op_add (pe_dget hu (pv 0) pe_str (fun _ _ => rfl)) pe_int) rfl)
      (pss_cons (ps_set (i := 2) nd rfl (Or.inl rfl) (pe_op op_add (pe_dget hu (pv 0) pe_str (fun _ _ => rfl)) (pe_op op_mul pe_int (pe_dget hu (pv 0) pe_str (fun _ _ => rfl)))))
      (pss_cons (ps_if (pt_cmpR (op_neD hr.units) (pe_dget hu (pv 0) pe_str (fun _ _ => rfl)) (pe_lst pa_nil) (nomark _))
        (pss_cons (ps_set (i := 3) nd rfl (Or.inl rfl) (pe_bm0 PySem.F.plainAttrs_list PySem.F.slot_list_pop PySem.F.type_list_pop mt_pop (pe_dget hu (pv 0) pe_str (fun _ _ => rfl))))
        (pss_cons (ps_if (pt_cmpR op_ge (pv 3) (pe_op op_pow pe_int pe_int) (nomark _))
          (pss_cons (ps_expr (pe_bm PySem.F.plainAttrs_list PySem.F.slot_list_append PySem.F.type_list_append mt_append (pe_dget hu (pv 0) pe_str (fun _ _ => rfl)) (pa_cons (pe_op op_fdivN (pv 3) (pe_callB (call_max2 rfl) (by rfl) B.max PyProof.Rows.boot_max (pa_cons pe_int (pa_cons (pv 1) pa_nil)))) pa_nil)))
          (pss_one (ps_ret (pe_op op_modN (pe_callTy call_int1 (by rfl) B.int PyProof.Rows.boot_int (pa_cons (pv 3) pa_nil)) (pv 1))))) pss_nil)
        (pss_one (ps_set (i := 2) nd rfl (Or.inl rfl) (pe_op op_add (pv 2) (pe_op op_mod (pe_callTy call_int1 (by rfl) B.int PyProof.Rows.boot_int (pa_cons (pv 3) pa_nil)) pe_int)))))) pss_nil)
      (pss_cons (ps_set (i := 2) nd rfl (Or.inl rfl) (pe_op op_mod (pe_callTy call_int1 (by rfl) B.int PyProof.Rows.boot_int (pa_cons (pe_op op_add (pe_op op_mul (pv 2) pe_int) pe_int) pa_nil)) pe_int))
      (pss_cons (ps_set (i := 2) nd rfl (Or.inl rfl) (pe_op op_mod (pe_callTy call_int1 (by rfl) B.int PyProof.Rows.boot_int (pa_cons (pe_op op_add (pe_op op_add (pe_op op_mul (pv 2) (pv 2)) (pe_op op_mul pe_int (pe_dget hu (pv 0) pe_str (fun _ _ => rfl)))) pe_int) pa_nil)) pe_int))
      (pss_cons (ps_set (i := 2) nd rfl (Or.inl rfl) (pe_op op_mod (pe_callTy call_int1 (by rfl) B.int PyProof.Rows.boot_int (pa_cons (pe_op op_mul (pv 2) pe_int) pa_nil)) pe_int))
      (pss_one (ps_ret (pe_op op_modN (pe_callTy call_int1 (by rfl) B.int PyProof.Rows.boot_int (pa_cons (pe_op op_fdiv (pv 2) pe_int) pa_nil)) (pv 1))))))))), ?_⟩
    have eT : ∀ (H3 : Hp) (ks : List Int), H3 d = some (.dK (deckK c m (t + 1))) → H3 c = some (.lst (ks.map V.int)) → ks.length ≤ 63 → DeckAt H3 d c := fun H3 ks a1 a2 a3 => ⟨m, t + 1, ks, a1, a2, hm0, hm1, a3⟩
    refine ⟨_, rfl, _, _, rfl, dg_turn h1, _, _, rfl, rfl, _, rfl, d, _, rfl, dp_turn h1, ?_⟩
    have g1 : (upd H d (.dK (deckK c m (t + 1)))) d = some (.dK (deckK c m (t + 1))) := upd_same
    have g2 : (upd H d (.dK (deckK c m (t + 1)))) c = some (.lst (ns.map V.int)) := by rw [upd_ne hdc.symm]; exact h2
    have b1 : But [d, c] H (upd H d (.dK (deckK c m (t + 1)))) := But.put (by simp)
    generalize upd H d (.dK (deckK c m (t + 1))) = H1 at g1 g2 b1
    refine ⟨_, rfl, _, _, rfl, dg_mixed g1, _, rfl, _, _, rfl, dg_turn g1, _, _, rfl, rfl, .inl ⟨by decide, by decide⟩, _, _, rfl, rfl, ?_⟩
    refine ⟨_, rfl, _, _, rfl, dg_cells g1, by simp, fun p hp => ?_⟩
    have n1 : p ≠ d := (ne_of_none g1 hp).symm
    have n2 : p ≠ c := (ne_of_none g2 hp).symm
    have g1' : (upd H1 p (.lst [])) d = some (.dK (deckK c m (t + 1))) := by rw [upd_ne n1.symm]; exact g1
    have g2' : (upd H1 p (.lst [])) c = some (.lst (ns.map V.int)) := by rw [upd_ne n2.symm]; exact g2
    have b2 : But [d, c] H (upd H1 p (.lst [])) := b1.trans (But.new hp)
    have gp : (upd H1 p (.lst [])) p = some (.lst []) := upd_same
    generalize upd H1 p (.lst []) = H2 at g1' g2' b2 gp
    refine ⟨_, _, Dp.lst (SqL.of g2') (dpInts K H2 ns), Dp.lst (SqL.of gp) .nil, shaped_ints ns, rfl, _, rfl, ?_⟩
    have tail : ∀ z : Int, 0 ≤ z.fmod b ∧ z.fmod b < b := fun z => ⟨Int.fmod_nonneg_of_pos _ hb0, Int.fmod_lt_of_pos _ hb0⟩
    cases ns with
    | nil =>
      refine iteF ?_
      refine ⟨_, rfl, _, _, rfl, rfl, .inr ⟨by decide, by decide⟩, _, _, rfl, rfl, .inl ⟨_, rfl, _, _, rfl, rfl, (by show (0 : Int) < _; decide), ?_⟩⟩
      refine ⟨_, rfl, _, rfl, _, _, rfl, rfl, .inl (mod_small _ _ (by decide) (by decide)), _, rfl, _, _, rfl, dg_turn g1', _, _, rfl, rfl, .inl ⟨by decide, by decide⟩, _, _, rfl, rfl, _, _, rfl, rfl, .inl ⟨_, rfl, _, _, rfl, rfl, (by show (0 : Int) < _; decide), ?_⟩⟩
      refine ⟨_, rfl, _, _, rfl, rfl, .inr ⟨by decide, by decide⟩, .inl ⟨_, rfl, _, _, rfl, rfl, (by show (0 : Int) < _; decide), ?_⟩⟩
      refine ⟨_, rfl, _, _, rfl, rfl, ⟨by decide, by decide⟩, .inl ⟨_, rfl, _, rfl, _, _, rfl, rfl, Int.ne_of_gt hb0, ?_⟩⟩
      exact k _ _ (tail _).1 (tail _).2 (eT _ [] g1' g2' (Nat.zero_le _)) b2
    | cons n0 ms =>
      refine iteT ?_
      obtain ⟨ys, z, e⟩ : ∃ ys z, n0 :: ms = ys ++ [z] := ⟨(n0 :: ms).dropLast, (n0 :: ms).getLast (by simp), (List.dropLast_concat_getLast (by simp)).symm⟩
      rw [e] at g2' hl
      have e1 : (ys ++ [z]).map V.int = ys.map V.int ++ [V.int z] := by simp
      rw [e1] at g2'
      rw [List.length_append, List.length_singleton] at hl
      have g1c : (upd H2 c (.lst (ys.map V.int))) d = some (.dK (deckK c m (t + 1))) := by rw [upd_ne hdc]; exact g1'
      have b3 : But [d, c] H (upd H2 c (.lst (ys.map V.int))) := b2.trans (But.put (by simp))
      refine ⟨_, rfl, _, _, rfl, dg_cells g1', .inl ⟨rfl, _, SqL.of g2'⟩, c, _, V.int z, rfl, rfl, g2', by simp, ?_⟩
      rw [List.dropLast_concat]
      have g2c : (upd H2 c (.lst (ys.map V.int))) c = some (.lst (ys.map V.int)) := upd_same
      generalize upd H2 c (.lst (ys.map V.int)) = H3 at g1c b3 g2c
      refine ⟨_, rfl, _, _, rfl, rfl, ⟨by decide, by decide, by decide⟩, _, _, rfl, rfl, _, rfl, ?_⟩
      refine ite2 (fun _ => ?_) (fun _ => ?_)
      · have hb2 : (0 : Int) < (if b > 2 then b else 2) ∧ (if b > 2 then b else 2) < 1073741823 := by split <;> omega
        refine ⟨_, rfl, _, _, rfl, dg_cells g1c, .inl ⟨rfl, _, SqL.of g2c⟩, _, rfl, _, rfl, _, _, rfl, _, _, rfl, rfl, ⟨by omega, by omega⟩, c, _, _, rfl, rfl, g2c, by rw [List.length_map]; exact small1000 (by omega), ?_⟩
        refine ⟨_, rfl, .inl ⟨_, rfl, _, rfl, _, _, rfl, rfl, Int.ne_of_gt hb0, ?_⟩⟩
        have nd2 : d ≠ c := hdc
        have e9 : ∀ q : Int, ys.map V.int ++ [V.int q] = (ys ++ [q]).map V.int := fun q => by simp
        refine k _ _ (tail _).1 (tail _).2 (eT _ (ys ++ [_]) (by rw [upd_ne hdc]; exact g1c) (by rw [upd_same, ← e9]) (by rw [List.length_append, List.length_singleton]; exact hl)) (b3.trans (But.put (by simp)))
      · refine ⟨_, rfl, _, rfl, .inl ⟨_, rfl, _, _, rfl, rfl, (by show (0 : Int) < _; decide), _, _, rfl, rfl, ?_⟩⟩
        refine ⟨_, rfl, _, _, rfl, rfl, .inr ⟨by decide, by decide⟩, _, _, rfl, rfl, .inl ⟨_, rfl, _, _, rfl, rfl, (by show (0 : Int) < _; decide), ?_⟩⟩
        refine ⟨_, rfl, _, rfl, _, _, rfl, rfl, .inl (mod_small _ _ (by decide) (by decide)), _, rfl, _, _, rfl, dg_turn g1c, _, _, rfl, rfl, .inl ⟨by decide, by decide⟩, _, _, rfl, rfl, _, _, rfl, rfl, .inl ⟨_, rfl, _, _, rfl, rfl, (by show (0 : Int) < _; decide), ?_⟩⟩
        refine ⟨_, rfl, _, _, rfl, rfl, .inr ⟨by decide, by decide⟩, .inl ⟨_, rfl, _, _, rfl, rfl, (by show (0 : Int) < _; decide), ?_⟩⟩
        refine ⟨_, rfl, _, _, rfl, rfl, ⟨by decide, by decide⟩, .inl ⟨_, rfl, _, rfl, _, _, rfl, rfl, Int.ne_of_gt hb0, ?_⟩⟩
        exact k _ _ (tail _).1 (tail _).2 (eT _ ys g1c g2c (by omega)) b3
end
/-- some[draw]: one of the items -/
def spPick (K : PySem.W.Frag) : Sp := fun vs H Q _ => ∃ (d c l : Addr) (xs : List V), vs = [.ref d, .ref l] ∧ DeckAt H d c ∧ H l = some (.lst xs) ∧ l ≠ c ∧ xs ≠ [] ∧ xs.length ≤ 1000 ∧
  ∀ (v : V) (H' : Hp), v ∈ xs → DeckAt H' d c → But [d, c] H H' → Q v H'
section
variable {P : Program} {w : World} {K : PySem.W.Frag} {mg : Str → Option Value} {base : Heap}
theorem ok_pick (D : DefT K mg "_law_pick" S__law_pick) (B : Bi mg) (Gd : Cal P w K mg base 1 "_law_draw" ["deck", "below"] spDraw) : FnOk P w K mg base CX0 2 D.f D.fd ["deck", "some"] (spPick K) := by
  refine D.F.ok sc__law_pick (fun vs H Q E h => ?_) (fun cdv A outer s H vs Q E hr h => ?_)
  · obtain ⟨d, c, l, xs, rfl, _⟩ := h
    rfl
  · obtain ⟨d, c, l, xs, rfl, Dk, hl, hlc, hne, hz, k⟩ := h
    refine ⟨_, pss_one (ps_ret (pe_ix ix_list (pv 1) (pc Gd hr (pa_cons (pv 0) (pa_cons (pe_callB call_len_seq (by rfl) B.len PySem.boot_len (pa_cons (pv 1) pa_nil)) pa_nil))) (fun _ _ => rfl))), ?_⟩
    have hp : 0 < xs.length := List.length_pos_iff.mpr hne
    refine ⟨_, rfl, _, rfl, _, rfl, l, xs, rfl, .inl (SqL.of hl), d, c, (xs.length : Int), rfl, Dk, by omega, by omega, fun v H' v0 v1 D' b' => ?_⟩
    have hld : l ≠ d := by
      obtain ⟨m, t, ns, h1, h2, _⟩ := Dk.ex
      exact ne_of hl h1 (by intro z; cases z)
    have hl' : H' l = some (.lst xs) := b' _ _ hl (by simp [hld, hlc])
    have hv : v.toNat < xs.length := by omega
    refine ⟨l, xs, v, xs[v.toNat], rfl, rfl, SqL.of hl', ?_, k _ _ (List.getElem_mem hv) D' b'⟩
    exact at_of (j := v.toNat) (by omega) (List.getElem?_eq_getElem hv)
/-- the deck of a script: new -/
def spDeck (K : PySem.W.Frag) : Sp := fun vs H Q _ => ∃ (a : Addr) (ns : List Int), vs = [.ref a] ∧ SqL K H a (ns.map V.int) ∧ ns.length ≤ 63 ∧
  ∀ (d c : Addr) (H' : Hp), H d = none → H c = none → DeckAt H' d c → Same H H' → Q (.ref d) H'
theorem ok_deck (D : DefT K mg "_law_deck" S__law_deck) (B : Bi mg) : FnOk P w K mg base CX0 1 D.f D.fd ["script"] (spDeck K) := by
  refine D.F.ok sc__law_deck (fun vs H Q E h => ?_) (fun cdv A outer s H vs Q E hr h => ?_)
  · obtain ⟨a, ns, rfl, _⟩ := h
    rfl
  · obtain ⟨a, ns, rfl, hS, hl, k⟩ := h
    have hu := hu_of hr
    have nd := sc__law_deck.nd
    refine ⟨_, pss_cons (ps_set (i := 1) nd rfl (Or.inl rfl) pe_int)
      (pss_cons (ps_for PassesOwn.never rfl (pi_list (pe_slice sl_list (pv 0) po_none (po_some pe_int))) (pg_name (i := 2) nd rfl (Or.inl rfl))
        (pss_one (ps_set (i := 1) nd rfl (Or.inl rfl) (pe_op op_mod (pe_callTy call_int1 (by rfl) B.int PyProof.Rows.boot_int (pa_cons (pe_op op_add (pe_op op_add (pe_op op_mul (pv 1) pe_int) (pe_op op_mod (pe_callTy call_int1 (by rfl) B.int PyProof.Rows.boot_int (pa_cons (pv 2) pa_nil)) pe_int)) pe_int) pa_nil)) pe_int))))
      (pss_one (ps_ret (pe_disp (pps_cons pe_str (pe_revL (pe_lc (own := [("cell", 2)]) (g := gName 2) (tt := tYes) rfl nd (pi_list (pe_slice sl_list (pv 0) po_none (po_some pe_int))) (blkOk_by (N := ["script", "mixed", "cell"]) (sc := defScope S__law_deck) (by decide +kernel))
          (fun _ _ _ _ _ => pg_name (i := 2) nd rfl (Or.inl rfl)) (fun _ _ _ _ _ => pts_nil) (fun _ _ _ _ _ => pe_callTy call_int1 (by rfl) B.int PyProof.Rows.boot_int (pa_cons (pv 2) pa_nil))))
        (pps_cons pe_str (pv 1) (pps_cons pe_str pe_int pps_nil))) (by rfl) (by rfl) (fun z => by cases z) (by decide))))), ?_⟩
    refine ⟨_, rfl, _, rfl, a, _, rfl, hS, fun p hp => ?_⟩
    have s1 : Same H (upd H p (.lst (cutV (ns.map V.int) none (some 63)))) := Same.new hp
    have cut : cutV (ns.map V.int) none (some 63) = ns.map V.int := by
      show ((ns.map V.int).drop 0).take (HT.sIx (ns.map V.int).length (ns.map V.int).length (some ((63 : Nat) : Int)) - 0) = _
      rw [HT.sIx_nat, List.length_map, List.drop_zero, Nat.sub_zero, Nat.min_eq_right hl, ← List.length_map (f := V.int), List.take_length]
    rw [cut] at s1 ⊢
    refine ⟨p, rfl, ⟨_, SqL.of upd_same⟩, for_list (K := K) (a := p) (xs := ns.map V.int) (fun i σ H2 => ∃ (m : Int) (v : Option V), σ = [some (.ref a), some (.int m), v] ∧ 0 ≤ m ∧ m < 2147483648 ∧ Same (upd H p (.lst (ns.map V.int))) H2)
      ⟨_, none, rfl, by decide, by decide, Same.refl _⟩ (fun i σ H2 _ ⟨_, _, _, _, _, s2⟩ => s2.seq (SqL.of upd_same)) ?_ ?_⟩
    · rintro i y σ H2 hi ⟨m, v, rfl, m0, m1, s2⟩
      obtain ⟨z, hz, rfl⟩ : ∃ z, ns[i]? = some z ∧ V.int z = y := by simpa using hi
      refine ⟨_, rfl, _, _, rfl, rfl, .inl ⟨by omega, by omega⟩, _, rfl, .inl ⟨_, rfl, _, _, rfl, rfl, (by show (0 : Int) < _; decide), _, _, rfl, rfl, _, _, rfl, rfl, .inl ⟨_, rfl, _, _, rfl, rfl, (by show (0 : Int) < _; decide), ?_⟩⟩⟩
      exact ⟨_, _, rfl, Int.emod_nonneg _ (by decide), Int.lt_trans (Int.emod_lt_of_pos _ (by decide)) (by decide), s2⟩
    · rintro σ H2 ⟨m, v, rfl, m0, m1, s2⟩
      intro d hd
      have hS2 : SqL K H2 a (ns.map V.int) := s2.seq (s1.seq hS)
      have hS3 : SqL K (upd H2 d (.dK [])) a (ns.map V.int) := (Same.new hd).seq hS2
      refine ⟨_, rfl, _, rfl, a, _, rfl, hS3, fun p2 hp2 => ?_⟩
      rw [cut]
      refine ⟨p2, rfl, ⟨_, SqL.of upd_same⟩, fun q hq => ?_⟩
      have qp : q ≠ p2 := fun e => by rw [e, upd_same] at hq; cases hq
      have qd : q ≠ d := fun e => by rw [e, upd_ne (fun z => by rw [← z, upd_same] at hp2; cases hp2), upd_same] at hq; cases hq
      have d2 : (upd (upd H2 d (.dK [])) p2 (.lst (ns.map V.int))) d = some (.dK []) := by
        rw [upd_ne (fun z => by rw [← z, upd_same] at hp2; cases hp2), upd_same]
      have sp : Same H (upd (upd H2 d (.dK [])) p2 (.lst (ns.map V.int))) := ((s1.trans s2).trans (Same.new hd)).trans (Same.new hp2)
      have l2 : SqL K (upd (upd H2 d (.dK [])) p2 (.lst (ns.map V.int))) p2 (ns.map V.int) := SqL.of upd_same
      generalize upd (upd H2 d (.dK [])) p2 (.lst (ns.map V.int)) = H3 at hq d2 sp l2 ⊢
      refine lc_list (K := K) (a := p2) (xs := ns.map V.int) (fun i H4 => H4 q = some (.lst ((ns.take i).map V.int)) ∧ Same H3 H4) ⟨by rw [upd_same]; rfl, Same.new hq⟩ (fun i H4 _ h4 => h4.2.seq l2) ?_ ?_
      · rintro i y H4 hi ⟨h4, s4⟩
        obtain ⟨z, hz, rfl⟩ : ∃ z, ns[i]? = some z ∧ V.int z = y := by simpa using hi
        refine ⟨rfl, tyes ?_⟩
        refine ⟨_, rfl, .inl ⟨_, rfl, _, h4, ?_, ?_⟩⟩
        · rw [List.length_map]; exact small1000 (by rw [List.length_take]; omega)
        · exact ⟨by rw [upd_same, take_map_next hz], Same.put hq s4⟩
      · rintro H4 ⟨h4, s4⟩
        rw [List.length_map, List.take_length] at h4
        refine ⟨q, _, rfl, SqL.of h4, fun c hc => ?_⟩
        have s5 : Same H3 (upd H4 c (.lst (ns.map V.int).reverse)) := s4.trans (Same.new hc)
        refine ⟨_, rfl, s5 _ _ d2, [(kCells, .ref c), (kMixed, .int m), (kTurn, .int 0)], rfl, by show 3 ≤ 15; decide, ?_⟩
        have s6 : Same H4 (upd H4 c (.lst (ns.map V.int).reverse)) := Same.new hc
        have cd : c ≠ d := (ne_of_none (s4 _ _ d2) hc).symm
        have hc0 : H c = none := (sp.trans s4).free hc
        have hd0 : H d = none := (s1.trans s2).free hd
        refine k d c _ hd0 hc0 ⟨m, 0, ns.reverse, upd_same, by rw [upd_ne cd, upd_same, List.map_reverse], m0, m1, by rw [List.length_reverse]; exact hl⟩ ?_
        exact Same.put hd0 (sp.trans s5)
end
def roomI (s b : Int) : Int := (s - 4) * (b - 1)
def areaI (s b : Int) : Int := (roomI s b + 4 + 27) / 28
def manyI (s b : Int) : Int := 2 * areaI s b + s * b
def sizeV (s b : Int) : List V := [.int s, .int b, .int (roomI s b), .int (areaI s b)]
structure SizeOk (s b : Int) : Prop where
  s0 : 6 ≤ s
  s1 : s ≤ 40
  b0 : 4 ≤ b
  b1 : b ≤ 24
theorem SizeOk.room {s b : Int} (h : SizeOk s b) : 6 ≤ roomI s b ∧ roomI s b ≤ 828 := by
  obtain ⟨h1, h2, h3, h4⟩ := h
  have a : (2 : Int) * 3 ≤ (s - 4) * (b - 1) := Int.mul_le_mul (by omega) (by omega) (by omega) (by omega)
  have c : (s - 4) * (b - 1) ≤ 36 * 23 := Int.mul_le_mul (by omega) (by omega) (by omega) (by omega)
  unfold roomI
  omega
theorem SizeOk.area {s b : Int} (h : SizeOk s b) : 1 ≤ areaI s b ∧ areaI s b ≤ 30 := by
  have h1 := h.room
  unfold areaI
  omega
theorem SizeOk.prod {s b : Int} (h : SizeOk s b) : 24 ≤ s * b ∧ s * b ≤ 960 := by
  obtain ⟨h1, h2, h3, h4⟩ := h
  have a : (6 : Int) * 4 ≤ s * b := Int.mul_le_mul (by omega) (by omega) (by omega) (by omega)
  have c : s * b ≤ 40 * 24 := Int.mul_le_mul (by omega) (by omega) (by omega) (by omega)
  omega
theorem SizeOk.many {s b : Int} (h : SizeOk s b) : 26 ≤ manyI s b ∧ manyI s b ≤ 1020 := by
  have h1 := h.area
  have h2 := h.prod
  unfold manyI
  omega
def spSizes : Sp := fun vs H Q _ => ∃ (s b : Int), vs = [.int s, .int b] ∧ SizeOk s b ∧ ∀ p, H p = none → Q (.ref p) (upd H p (.tup (sizeV s b)))
def spMany (K : PySem.W.Frag) : Sp := fun vs H Q _ => ∃ (p : Addr) (s b : Int), vs = [.ref p] ∧ SqT K H p (sizeV s b) ∧ SizeOk s b ∧ Q (.int (manyI s b)) H
/-- words from 0 to 10 ** 9 -/
def Wd (ws : List Int) : Prop := ∀ w ∈ ws, 0 ≤ w ∧ w ≤ 1000000000
def spWord : Sp := fun vs H Q _ => ∃ (d c : Addr), vs = [.ref d] ∧ DeckAt H d c ∧ ∀ (v : Int) (H' : Hp), 0 ≤ v → v ≤ 1000000000 → DeckAt H' d c → But [d, c] H H' → Q (.int v) H'
def spBlock : Sp := fun vs H Q _ => ∃ (d c : Addr), vs = [.ref d] ∧ DeckAt H d c ∧
  ∀ (p : Addr) (ws : List Int) (H' : Hp), H p = none → H' p = some (.tup (ws.map V.int)) → ws.length = 32 → Wd ws → DeckAt H' d c → But [d, c] H H' → Q (.ref p) H'
section
variable {P : Program} {w : World} {K : PySem.W.Frag} {mg : Str → Option Value} {base : Heap}
theorem ok_sizes (D : DefT K mg "_law_sizes" S__law_sizes) : FnOk P w K mg base CX0 1 D.f D.fd ["segments", "blocks"] spSizes := by
  refine D.F.ok sc__law_sizes (fun vs H Q E h => ?_) (fun cdv A outer s H vs Q E hr h => ?_)
  · obtain ⟨s, b, rfl, _⟩ := h
    rfl
  · obtain ⟨s, b, rfl, ok, k⟩ := h
    have nd := sc__law_sizes.nd
    refine ⟨_, pss_cons (ps_set (i := 2) nd rfl (Or.inl rfl) (pe_op op_mul (pe_op op_sub (pv 0) pe_int) (pe_op op_sub (pv 1) pe_int)))
      (pss_one (ps_ret (pe_tup (pa_cons (pv 0) (pa_cons (pv 1) (pa_cons (pv 2) (pa_cons (pe_op op_fdiv (pe_op op_add (pe_op op_add (pv 2) pe_int) pe_int) pe_int) pa_nil))))))), ?_⟩
    obtain ⟨h1, h2, h3, h4⟩ := ok
    refine ⟨_, rfl, _, _, rfl, rfl, _, rfl, _, _, rfl, rfl, _, _, rfl, rfl, .inl ⟨by omega, by omega⟩, ?_⟩
    refine ⟨_, rfl, _, rfl, _, rfl, _, rfl, _, _, rfl, rfl, _, _, rfl, rfl, _, _, rfl, rfl, ⟨by decide, by decide⟩, (by show 4 ≤ sizeLine; decide), fun p hp => k p hp⟩
theorem ok_many (D : DefT K mg "_law_many" S__law_many) : FnOk P w K mg base CX0 1 D.f D.fd ["sizes"] (spMany K) := by
  refine D.F.ok sc__law_many (fun vs H Q E h => ?_) (fun cdv A outer s H vs Q E hr h => ?_)
  · obtain ⟨p, s, b, rfl, _⟩ := h
    rfl
  · obtain ⟨p, s, b, rfl, hp, ok, k⟩ := h
    refine ⟨_, pss_one (ps_ret (pe_op op_add (pe_op op_mul pe_int (pe_ix ix_tup (pv 0) pe_int (fun _ _ => rfl))) (pe_op op_mul (pe_ix ix_tup (pv 0) pe_int (fun _ _ => rfl)) (pe_ix ix_tup (pv 0) pe_int (fun _ _ => rfl))))), ?_⟩
    obtain ⟨h1, h2, h3, h4⟩ := ok
    refine ⟨_, rfl, p, _, _, _, rfl, rfl, hp, at_of (j := 3) rfl rfl, _, _, rfl, rfl, .inl ⟨by decide, by decide⟩, _, rfl, p, _, _, _, rfl, rfl, hp, at_of (j := 0) rfl rfl, _, rfl, p, _, _, _, rfl, rfl, hp, at_of (j := 1) rfl rfl, _, _, rfl, rfl, .inl ⟨by omega, by omega⟩, _, _, rfl, rfl, k⟩
end
section
variable {P : Program} {w : World} {K : PySem.W.Frag} {mg : Str → Option Value} {base : Heap}
theorem ok_word (D : DefT K mg "_law_word" S__law_word) (Gd : Cal P w K mg base 1 "_law_draw" ["deck", "below"] spDraw) (Gp : Cal P w K mg base 2 "_law_pick" ["deck", "some"] (spPick K)) :
    FnOk P w K mg base CX0 3 D.f D.fd ["deck"] spWord := by
  refine D.F.ok sc__law_word (fun vs H Q E h => ?_) (fun cdv A outer s H vs Q E hr h => ?_)
  · obtain ⟨d, c, rfl, _⟩ := h
    rfl
  · obtain ⟨d, c, rfl, Dk, k⟩ := h
    refine ⟨_, pss_one (ps_ret (pc Gp hr (pa_cons (pv 0) (pa_cons (pe_lst (pa_cons pe_int (pa_cons pe_int (pa_cons pe_int (pa_cons pe_int (pa_cons pe_int (pa_cons (pe_op op_pow pe_int pe_int)
      (pa_cons (pc Gd hr (pa_cons (pv 0) (pa_cons pe_int pa_nil))) (pa_cons (pc Gd hr (pa_cons (pv 0) (pa_cons (pe_op op_add (pe_op op_pow pe_int pe_int) pe_int) pa_nil))) pa_nil))))))))) pa_nil)))), ?_⟩
    refine ⟨_, rfl, _, _, rfl, rfl, ⟨by decide, by decide, by decide⟩, _, rfl, d, c, 100, rfl, Dk, by decide, by decide, fun v1 H1 p0 p1 D1 b1 => ?_⟩
    refine ⟨_, rfl, _, _, rfl, rfl, ⟨by decide, by decide, by decide⟩, _, _, rfl, rfl, d, c, _, rfl, D1, by decide, by decide, fun v2 H2 q0 q1 D2 b2 => ?_⟩
    have q1' : v2 < 1000000001 := q1
    refine ⟨(by show 8 ≤ sizeLine; decide), fun l hl => ?_⟩
    obtain ⟨ld, lc⟩ := D2.nd hl
    refine ⟨d, c, l, _, rfl, D2.same (Same.new hl), upd_same, lc, by simp, by show 8 ≤ 1000; decide, fun v H3 hv D3 b3 => ?_⟩
    obtain ⟨z, rfl, z0, z1⟩ : ∃ z : Int, v = .int z ∧ 0 ≤ z ∧ z ≤ 1000000000 := by
      simp only [List.mem_cons, List.not_mem_nil, or_false] at hv
      rcases hv with h | h | h | h | h | h | h | h <;> exact ⟨_, h, by first | decide | omega, by first | decide | omega⟩
    exact k z H3 z0 z1 D3 ((b1.trans b2).trans ((But.new hl).trans b3))
end
end Tk17

namespace Tk17
open PySem PySem.Spec PyProof.Rows L2 Tk
theorem Wd.app {as bs : List Int} (h1 : Wd as) (h2 : Wd bs) : Wd (as ++ bs) := fun w hw => (List.mem_append.mp hw).elim (h1 w) (h2 w)
theorem Wd.rep {z : Int} (h0 : 0 ≤ z) (h1 : z ≤ 1000000000) (n : Nat) : Wd (List.replicate n z) := fun w hw => by
  rw [List.eq_of_mem_replicate hw]
  exact ⟨h0, h1⟩
theorem Wd.one {z : Int} (h0 : 0 ≤ z) (h1 : z ≤ 1000000000) : Wd [z] := fun w hw => by
  rw [List.mem_singleton.mp hw]
  exact ⟨h0, h1⟩
theorem DeckAt.put {H : Hp} {d c q : Addr} {o : HO} (D : DeckAt H d c) (n1 : q ≠ d) (n2 : q ≠ c) : DeckAt (upd H q o) d c := by
  obtain ⟨m, t, ns, h1, h2, r⟩ := D.ex
  exact ⟨m, t, ns, by rw [upd_ne n1.symm]; exact h1, by rw [upd_ne n2.symm]; exact h2, r⟩
theorem butPutNew {l : List Addr} {H H5 : Hp} {q : Addr} {o : HO} (n : H q = none) (a : But l H H5) : But l H (upd H5 q o) := fun b u h hb => by
  rw [upd_ne (ne_of_none h n)]
  exact a b u h hb
/-- what is new behind was new ahead, if the deck still stands -/
theorem butFree {H H' : Hp} {d c p : Addr} (b : But [d, c] H H') (D : DeckAt H' d c) (n : H' p = none) : H p = none := by
  obtain ⟨h1, h2⟩ := D.nd n
  cases q : H p with
  | none => rfl
  | some o =>
    rw [b _ _ q (by simp [h1, h2])] at n
    cases n
/-- a list at q that the comprehension fills with words -/
def Fills (d c q : Addr) (H3 : Hp) (top : Int) (i : Nat) (H4 : Hp) : Prop :=
  ∃ acc : List Int, H4 q = some (.lst (acc.map V.int)) ∧ acc.length = i ∧ (∀ w ∈ acc, 0 ≤ w ∧ w ≤ top) ∧ DeckAt H4 d c ∧ But [d, c] H3 H4
theorem Fills.start {d c q : Addr} {H3 : Hp} {top : Int} (D : DeckAt H3 d c) (n : H3 q = none) : Fills d c q H3 top 0 (upd H3 q (.lst [])) :=
  ⟨[], upd_same, rfl, fun _ h => absurd h List.not_mem_nil, D.same (Same.new n), But.new n⟩
theorem Fills.step {d c q : Addr} {H3 H4 H5 : Hp} {top v : Int} {i : Nat} (D : DeckAt H3 d c) (n : H3 q = none) (hi : i < 1000) (F : Fills d c q H3 top i H4) (v0 : 0 ≤ v) (v1 : v ≤ top) (D5 : DeckAt H5 d c) (b5 : But [d, c] H4 H5) :
    ∃ acc, H5 q = some (.lst acc) ∧ acc.length < sizeLine ∧ Fills d c q H3 top (i + 1) (upd H5 q (.lst (acc ++ [V.int v]))) := by
  obtain ⟨acc, h, hl, hw, D4, b4⟩ := F
  obtain ⟨n1, n2⟩ := D.nd n
  refine ⟨_, b5 _ _ h (by simp [n1, n2]), small1000 (by rw [List.length_map]; omega), acc ++ [v], ?_, ?_, ?_, D5.put n1 n2, butPutNew n (b4.trans b5)⟩
  · rw [upd_same]; simp
  · simp [hl]
  · intro w hw'
    rcases List.mem_append.mp hw' with z | z
    · exact hw w z
    · rw [List.mem_singleton.mp z]; exact ⟨v0, v1⟩
theorem rep1 (n : Nat) (z : Int) : (List.replicate n [V.int z]).flatten = (List.replicate n z).map V.int := by
  rw [List.map_replicate]
  induction n with
  | zero => rfl
  | succ n ih => rw [List.replicate_succ, List.flatten_cons, ih, List.replicate_succ]; rfl
section
variable {P : Program} {w : World} {K : PySem.W.Frag} {mg : Str → Option Value} {base : Heap}
theorem ok_block (D : DefT K mg "_law_block" S__law_block) (B : Bi mg) (tT : mg "tuple" = none) (tR : mg "range" = none) (Gd : Cal P w K mg base 1 "_law_draw" ["deck", "below"] spDraw) (Gw : Cal P w K mg base 3 "_law_word" ["deck"] spWord) :
    FnOk P w K mg base CX0 4 D.f D.fd ["deck"] spBlock := by
  refine D.F.ok sc__law_block (fun vs H Q E h => ?_) (fun cdv A outer s H vs Q E hr h => ?_)
  · obtain ⟨d, c, rfl, _⟩ := h
    rfl
  · obtain ⟨d, c, rfl, Dk, k⟩ := h
    have nd := sc__law_block.nd
    refine ⟨_, pss_cons (ps_par (i := 1) (j := 2) (by rfl) nd rfl rfl (by decide) rfl rfl (pa_cons (pc Gd hr (pa_cons (pv 0) (pa_cons pe_int pa_nil))) (pa_cons (pc Gw hr (pa_cons (pv 0) pa_nil)) pa_nil)) (by rfl))
      (pss_cons (ps_if (pt_cmpR op_eq (pv 1) pe_int (nomark _)) (pss_one (ps_ret (pe_op op_repT (pe_tup (pa_cons (pv 2) pa_nil)) pe_int))) pss_nil)
      (pss_cons (ps_if (pt_cmpR op_eq (pv 1) pe_int (nomark _)) (pss_one (ps_ret (pe_op op_repT (pe_tup (pa_cons pe_int pa_nil)) pe_int))) pss_nil)
      (pss_cons (ps_if (pt_cmpR op_eq (pv 1) pe_int (nomark _)) (pss_one (ps_ret (pe_op op_catT (pe_op op_catT (pe_tup (pa_cons (pv 2) (pa_cons (pe_op op_add pe_int (pc Gd hr (pa_cons (pv 0) (pa_cons pe_int pa_nil)))) pa_nil)))
          (pe_callTy call_tuple_of (by rfl) tT (by decide +kernel) (pa_cons (pe_lc (own := [("i", 3)]) (g := gName 3) (tt := tYes) rfl nd (pi_range1 (by rfl) tR (pa_cons pe_int pa_nil)) (blkOk_by (N := ["deck", "way", "word", "i"]) (sc := defScope S__law_block) (by decide +kernel))
            (fun _ _ _ _ _ => pg_name (i := 3) nd rfl (Or.inl rfl)) (fun _ _ _ _ _ => pts_nil) (fun _ _ _ _ _ => pc Gd hr (pa_cons (pv 0) (pa_cons pe_int pa_nil)))) pa_nil))) (pe_tup (pa_cons (pv 2) pa_nil))))) pss_nil)
      (pss_one (ps_ret (pe_callTy call_tuple_of (by rfl) tT (by decide +kernel) (pa_cons (pe_lc (own := [("i", 3)]) (g := gName 3) (tt := tYes) rfl nd (pi_range1 (by rfl) tR (pa_cons pe_int pa_nil)) (blkOk_by (N := ["deck", "way", "word", "i"]) (sc := defScope S__law_block) (by decide +kernel))
            (fun _ _ _ _ _ => pg_name (i := 3) nd rfl (Or.inl rfl)) (fun _ _ _ _ _ => pts_nil) (fun _ _ _ _ _ => pe_ifExp (pt_cmpR op_eq (pc Gd hr (pa_cons (pv 0) (pa_cons pe_int pa_nil))) pe_int (nomark _)) (pc Gw hr (pa_cons (pv 0) pa_nil)) (pv 3))) pa_nil))))))), ?_⟩
    refine ⟨_, rfl, d, c, 5, rfl, Dk, by decide, by decide, fun way H1 p0 p1 D1 b1 => ?_⟩
    refine ⟨_, rfl, d, c, rfl, D1, fun z H2 z0 z1 D2 b2 => ?_⟩
    have b12 := b1.trans b2
    have fr2 : ∀ {p : Addr}, H2 p = none → H p = none := fun {p} n => by
      cases q : H p with
      | none => rfl
      | some o =>
        obtain ⟨nd1, nc1⟩ := D2.nd n
        rw [b12 _ _ q (by simp [nd1, nc1])] at n
        cases n
    refine ⟨_, _, rfl, ?_⟩
    refine ⟨_, rfl, rfl, _, rfl, ?_⟩
    refine ite2 (fun _ => ?_) (fun _ => ?_)
    · refine ⟨_, rfl, (by show 1 ≤ sizeLine; decide), fun t ht => ⟨t, 32, _, rfl, rfl, SqT.of upd_same, by simp, by decide, by decide, by show 1 ≤ 1000; decide, fun p hp => ?_⟩⟩
      refine k p (List.replicate 32 z) _ (fr2 ((Same.new ht).free hp)) (by rw [upd_same, ← rep1]; rfl) (by simp) (Wd.rep z0 z1 32) ((D2.same (Same.new ht)).same (Same.new hp)) ((b12.trans (But.new ht)).trans (But.new hp))
    refine ⟨_, rfl, rfl, _, rfl, ?_⟩
    refine ite2 (fun _ => ?_) (fun _ => ?_)
    · refine ⟨(by show 1 ≤ sizeLine; decide), fun t ht => ⟨t, 32, _, rfl, rfl, SqT.of upd_same, by simp, by decide, by decide, by show 1 ≤ 1000; decide, fun p hp => ?_⟩⟩
      refine k p (List.replicate 32 0) _ (fr2 ((Same.new ht).free hp)) (by rw [upd_same, ← rep1]; rfl) (by simp) (Wd.rep (by decide) (by decide) 32) ((D2.same (Same.new ht)).same (Same.new hp)) ((b12.trans (But.new ht)).trans (But.new hp))
    refine ⟨_, rfl, rfl, _, rfl, ?_⟩
    refine ite2 (fun _ => ?_) (fun _ => ?_)
    · refine ⟨_, rfl, _, rfl, d, c, 3, rfl, D2, by decide, by decide, fun v3 H3 r0 r1 D3 b3 => ?_⟩
      refine ⟨_, _, rfl, rfl, (by show 2 ≤ sizeLine; decide), fun t ht => ?_⟩
      have s4 : Same H3 (upd H3 t (.tup [V.int z, V.int (1 + v3)])) := Same.new ht
      have D4 : DeckAt (upd H3 t (.tup [V.int z, V.int (1 + v3)])) d c := D3.same s4
      have b4 : But [d, c] H (upd H3 t (.tup [V.int z, V.int (1 + v3)])) := (b12.trans b3).trans (But.new ht)
      have t4 : (upd H3 t (.tup [V.int z, V.int (1 + v3)])) t = some (.tup [V.int z, V.int (1 + v3)]) := upd_same
      refine ⟨29, rfl, by decide, by decide, fun q hq => ?_⟩
      show _
      generalize upd H3 t (.tup [V.int z, V.int (1 + v3)]) = H4 at D4 b4 t4 hq ⊢
      refine lc_range (lo := 0) (n := 29) (fun i H5 => Fills d c q H4 8 i H5) (Fills.start D4 hq) (fun i H5 hi F5 => ?_) (fun H5 F5 => ?_)
      · have D5 : DeckAt H5 d c := let ⟨_, _, _, _, x, _⟩ := F5; x
        refine ⟨rfl, tyes ?_⟩
        exact ⟨_, rfl, d, c, 9, rfl, D5, by decide, by decide, fun v H6 u0 u1 D6 b6 => Fills.step D4 hq (by omega) F5 u0 (by omega) D6 b6⟩
      · obtain ⟨acc, h5, hl5, hw5, D5, b5⟩ := F5
        have nt := D4.nd hq
        have td : t ∉ [d, c] := by
          obtain ⟨x1, x2⟩ := D3.nd ht
          simp [x1, x2]
        refine ⟨q, _, rfl, .inl ⟨SqL.of h5, fun r hr' => ?_⟩⟩
        have s6 := Same.new (o := .tup (acc.map V.int)) hr'
        refine ⟨t, r, _, _, rfl, rfl, SqT.of (s6 _ _ (b5 _ _ t4 td)), SqT.of upd_same, by simp, (by rw [List.length_map, hl5]; show 2 + 29 ≤ sizeLine; decide), fun z => absurd (congrArg List.length z) (by rw [List.length_map, hl5]; decide), fun _ r2 hr2 => ?_⟩
        refine ⟨_, rfl, (by show 1 ≤ sizeLine; decide), fun r3 hr3 => ?_⟩
        have s7 := Same.new (o := .tup ([V.int z, V.int (1 + v3)] ++ acc.map V.int)) hr2
        have s8 := Same.new (o := .tup [V.int z]) hr3
        refine ⟨r2, r3, _, _, rfl, rfl, SqT.of (s8 _ _ upd_same), SqT.of upd_same, by simp, (by rw [List.length_append, List.length_map, hl5]; show 2 + 29 + 1 ≤ sizeLine; decide), fun z => (by cases z), fun _ p hp => ?_⟩
        have s9 := ((s6.trans s7).trans s8).trans (Same.new (o := .tup ([V.int z, V.int (1 + v3)] ++ acc.map V.int ++ [V.int z])) hp)
        have D9 := D5.same s9
        have b9 := (b4.trans b5).trans (But.of_same s9)
        refine k p ([z, 1 + v3] ++ acc ++ [z]) _ (butFree (b4.trans b5) D5 (((s6.trans s7).trans s8).free hp)) (by rw [upd_same]; simp) (by simp [hl5]) ?_ D9 b9
        exact Wd.app (Wd.app (fun w hw => by
          simp only [List.mem_cons, List.not_mem_nil, or_false] at hw
          rcases hw with h | h <;> subst h <;> constructor <;> omega) (fun w hw => ⟨(hw5 w hw).1, Int.le_trans (hw5 w hw).2 (by decide)⟩)) (Wd.one z0 z1)
    · refine ⟨32, rfl, by decide, by decide, fun q hq => ?_⟩
      refine lc_range (lo := 0) (n := 32) (fun i H5 => Fills d c q H2 1000000000 i H5) (Fills.start D2 hq) (fun i H5 hi F5 => ?_) (fun H5 F5 => ?_)
      · have D5 : DeckAt H5 d c := let ⟨_, _, _, _, x, _⟩ := F5; x
        refine ⟨rfl, tyes ?_⟩
        refine ⟨_, rfl, d, c, 2, rfl, D5, by decide, by decide, fun v H6 u0 u1 D6 b6 => ?_⟩
        refine ⟨rfl, _, rfl, ?_⟩
        refine ite2 (fun _ => ?_) (fun _ => ?_)
        · exact ⟨_, rfl, d, c, rfl, D6, fun v H7 u0 u1 D7 b7 => Fills.step D2 hq (by omega) F5 u0 u1 D7 (b6.trans b7)⟩
        · refine ⟨_, rfl, Fills.step (v := 0 + (i : Int)) D2 hq (by omega) F5 (by omega) (by omega) D6 b6⟩
      · obtain ⟨acc, h5, hl5, hw5, D5, b5⟩ := F5
        refine ⟨q, _, rfl, .inl ⟨SqL.of h5, fun p hp => ?_⟩⟩
        exact k p acc _ (butFree (b12.trans b5) D5 hp) upd_same hl5 hw5 (D5.same (Same.new hp)) ((b12.trans b5).trans (But.new hp))
end
end Tk17

namespace Tk17
open PySem PySem.Spec PyProof.Rows L2 Tk
/-! ### what is an integer, a word, a tuple of words -/
def isI : V → Bool
  | .int _ => true
  | _ => false
def isW (lo hi : Int) : V → Bool
  | .int i => decide (lo ≤ i ∧ i ≤ hi)
  | _ => false
/-- the value's type is a built-in one, known -/
def Ty (K : PySem.W.Frag) (H : Hp) (x : V) (n : String) : Prop := TyX K H x (.type n)
theorem Ty.int (K : PySem.W.Frag) (H : Hp) (i : Int) : Ty K H (.int i) "int" := .base (.int i)
theorem Ty.ofT {K : PySem.W.Frag} {H : Hp} {a : Addr} {xs : List V} (h : SqT K H a xs) : Ty K H (.ref a) "tuple" := by
  rcases h with (h | ⟨o, h⟩) | ⟨o, its, n, hk, hc, _⟩
  · exact .base (.tup h)
  · exact .fTuple h
  · exact .kTuple hk hc
theorem sameT {K : PySem.W.Frag} {H H' : Hp} {a : Addr} {xs : List V} (s : Same H H') (h : SqT K H a xs) : SqT K H' a xs := by
  rcases h with (h | ⟨o, h⟩) | h
  · exact .inl (.inl (s _ _ h))
  · exact .inl (.inr ⟨o, s _ _ h⟩)
  · exact .inr h
theorem Ty.same {K : PySem.W.Frag} {H H' : Hp} {x : V} {n : String} (s : Same H H') (h : Ty K H x n) : Ty K H' x n := by
  unfold Ty at h ⊢
  generalize et : Value.type n = t at h ⊢
  cases h with
  | base b =>
    cases b with
    | non => exact .base .non
    | bl y => exact .base (.bl y)
    | int i => exact .base (.int i)
    | str y => exact .base (.str y)
    | flt y => exact .base (.flt y)
    | lst e => exact .base (.lst (s _ _ e))
    | frz e => exact .base (.frz (s _ _ e))
    | tup e => exact .base (.tup (s _ _ e))
    | dK e => exact .base (.dK (s _ _ e))
    | dT e => exact .base (.dT (s _ _ e))
    | ins e cl ha hn htk hm => cases et
  | byt y => exact .byt y
  | set e => exact .set (s _ _ e)
  | kList e c => exact .kList e c
  | kTuple e c => exact .kTuple e c
  | kDict e c => exact .kDict e c
  | fTuple e => exact .fTuple (s _ _ e)
  | fDict e => exact .fDict (s _ _ e)
/-- isinstance(x, int), isinstance(x, bool) of such -/
theorem ty_int {K : PySem.W.Frag} {H : Hp} {x : V} {n : String} (h : Ty K H x n) :
    (isI x = true ∧ PySem.W.kitOne K (.type n) (.type "int") = some true ∧ PySem.W.kitOne K (.type n) (.type "bool") = some false) ∨
    (isI x = false ∧ PySem.W.kitOne K (.type n) (.type "int") = some true ∧ PySem.W.kitOne K (.type n) (.type "bool") = some true) ∨
    (isI x = false ∧ PySem.W.kitOne K (.type n) (.type "int") = some false) := by
  unfold Ty at h
  generalize et : Value.type n = t at h
  cases h with
  | base b =>
    cases b with
    | non => cases et; exact .inr (.inr ⟨rfl, kit_ty (by decide +kernel)⟩)
    | bl y => cases et; exact .inr (.inl ⟨rfl, kit_ty (by decide +kernel), kit_ty (by decide +kernel)⟩)
    | int i => cases et; exact .inl ⟨rfl, kit_ty (by decide +kernel), kit_ty (by decide +kernel)⟩
    | str y => cases et; exact .inr (.inr ⟨rfl, kit_ty (by decide +kernel)⟩)
    | flt y => cases et; exact .inr (.inr ⟨rfl, kit_ty (by decide +kernel)⟩)
    | lst e => cases et; exact .inr (.inr ⟨rfl, kit_ty (by decide +kernel)⟩)
    | frz e => cases et; exact .inr (.inr ⟨rfl, kit_ty (by decide +kernel)⟩)
    | tup e => cases et; exact .inr (.inr ⟨rfl, kit_ty (by decide +kernel)⟩)
    | dK e => cases et; exact .inr (.inr ⟨rfl, kit_ty (by decide +kernel)⟩)
    | dT e => cases et; exact .inr (.inr ⟨rfl, kit_ty (by decide +kernel)⟩)
    | ins e cl ha hn htk hm => cases et
  | byt y => cases et; exact .inr (.inr ⟨rfl, kit_ty (by decide +kernel)⟩)
  | set e => cases et; exact .inr (.inr ⟨rfl, kit_ty (by decide +kernel)⟩)
  | kList e c => cases et; exact .inr (.inr ⟨rfl, kit_ty (by decide +kernel)⟩)
  | kTuple e c => cases et; exact .inr (.inr ⟨rfl, kit_ty (by decide +kernel)⟩)
  | kDict e c => cases et; exact .inr (.inr ⟨rfl, kit_ty (by decide +kernel)⟩)
  | fTuple e => cases et; exact .inr (.inr ⟨rfl, kit_ty (by decide +kernel)⟩)
  | fDict e => cases et; exact .inr (.inr ⟨rfl, kit_ty (by decide +kernel)⟩)
theorem kit_tuple_no {K : PySem.W.Frag} {H : Hp} {x : V} {n : String} (h : Ty K H x n) (ne : n ≠ "tuple") : PySem.W.kitOne K (.type n) (.type "tuple") = some false := by
  unfold Ty at h
  generalize et : Value.type n = t at h
  cases h with
  | base b =>
    cases b with
    | tup e => cases et; exact absurd rfl ne
    | ins e cl ha hn htk hm => cases et
    | _ => cases et; exact kit_ty (by decide +kernel)
  | kTuple e c => cases et; exact absurd rfl ne
  | fTuple e => cases et; exact absurd rfl ne
  | _ => cases et; exact kit_ty (by decide +kernel)
def spInt (K : PySem.W.Frag) : Sp := fun vs H Q _ => ∃ (x : V) (n : String), vs = [x] ∧ Ty K H x n ∧ Q (.bl (isI x)) H
def spWithin (K : PySem.W.Frag) : Sp := fun vs H Q _ => ∃ (x : V) (n : String) (lo hi : Int), vs = [x, .int lo, .int hi] ∧ Ty K H x n ∧ Q (.bl (isW lo hi x)) H
/-- of a tuple: all within; of another thing: no -/
def rAre (K : PySem.W.Frag) (x : V) (lo hi : Int) (H : Hp) (Q : VK) : Prop :=
  (∃ a xs, x = .ref a ∧ SqT K H a xs ∧ xs.length ≤ 100000 ∧ (∀ y ∈ xs, ∃ n, Ty K H y n) ∧ ∀ H', Same H H' → Q (.bl (xs.all (isW lo hi))) H') ∨ (∃ n, Ty K H x n ∧ n ≠ "tuple" ∧ Q (.bl false) H)
def spAre (K : PySem.W.Frag) : Sp := fun vs H Q _ => ∃ (x : V) (lo hi : Int), vs = [x, .int lo, .int hi] ∧ rAre K x lo hi H Q
def spWords (K : PySem.W.Frag) : Sp := fun vs H Q _ => ∃ (x : V), vs = [x] ∧ rAre K x 0 1000000000 H Q
/-- the module's constants and the free names of built-ins -/
structure Kn (mg : Str → Option Value) : Prop where
  isi : mg "isinstance" = none
  int : mg "int" = none
  bool : mg "bool" = none
  tuple : mg "tuple" = none
  all : mg "all" = none
  len : mg "len" = none
  most : ∃ t, mg "MOST_WORD" = some (.int 1000000000 t)
theorem boot_bool : bootBuiltins "bool" = some (.type "bool") := by decide +kernel
theorem boot_tuple : bootBuiltins "tuple" = some (.type "tuple") := by decide +kernel
theorem boot_all : bootBuiltins "all" = some (.builtin "all") := by decide +kernel
section
variable {P : Program} {w : World} {K : PySem.W.Frag} {mg : Str → Option Value} {base : Heap}
theorem ok_int (D : DefT K mg "is_integer" S_is_integer) (T : Kn mg) : FnOk P w K mg base CX0 1 D.f D.fd ["thing"] (spInt K) := by
  refine D.F.ok sc_is_integer (fun vs H Q E h => ?_) (fun cdv A outer s H vs Q E hr h => ?_)
  · obtain ⟨x, n, rfl, _⟩ := h
    rfl
  · obtain ⟨x, n, rfl, ty, k⟩ := h
    refine ⟨_, pss_one (ps_ret (pe_and (pe_callB call_isi (by rfl) T.isi PyProof.Rows.boot_isinstance (pa_cons (pv 0) (pa_cons (pe_bltn (v := .ty "int") (by rfl) T.int PyProof.Rows.boot_int rfl) pa_nil)))
      (pe_one (pe_not (pe_callB call_isi (by rfl) T.isi PyProof.Rows.boot_isinstance (pa_cons (pv 0) (pa_cons (pe_bltn (v := .ty "bool") (by rfl) T.bool boot_bool rfl) pa_nil))))))), ?_⟩
    rcases ty_int ty with ⟨e, h1, h2⟩ | ⟨e, h1, h2⟩ | ⟨e, h1⟩
    · refine ⟨_, rfl, x, .ty "int", .type n, .type "int", true, rfl, .ty _, ty, h1, true, rfl, ?_⟩
      refine iteT ?_
      refine ⟨_, rfl, x, .ty "bool", .type n, .type "bool", false, rfl, .ty _, ty, h2, false, rfl, ?_⟩
      rw [e] at k; exact k
    · refine ⟨_, rfl, x, .ty "int", .type n, .type "int", true, rfl, .ty _, ty, h1, true, rfl, ?_⟩
      refine iteT ?_
      refine ⟨_, rfl, x, .ty "bool", .type n, .type "bool", true, rfl, .ty _, ty, h2, true, rfl, ?_⟩
      rw [e] at k; exact k
    · refine ⟨_, rfl, x, .ty "int", .type n, .type "int", false, rfl, .ty _, ty, h1, false, rfl, ?_⟩
      refine iteF ?_
      rw [e] at k; exact k
theorem ok_within (D : DefT K mg "is_within" S_is_within) (T : Kn mg) (Gi : Cal P w K mg base 1 "is_integer" ["thing"] (spInt K)) : FnOk P w K mg base CX0 2 D.f D.fd ["thing", "least", "most"] (spWithin K) := by
  refine D.F.ok sc_is_within (fun vs H Q E h => ?_) (fun cdv A outer s H vs Q E hr h => ?_)
  · obtain ⟨x, n, lo, hi, rfl, _⟩ := h
    rfl
  · obtain ⟨x, n, lo, hi, rfl, ty, k⟩ := h
    refine ⟨_, pss_one (ps_ret (pe_and (pc Gi hr (pa_cons (pv 0) pa_nil)) (pe_one (pe_chain op_le op_le (pv 1) (pv 0) (pv 2))))), ?_⟩
    refine ⟨_, rfl, x, n, rfl, ty, ?_⟩
    cases e : isI x with
    | false =>
      refine ⟨_, rfl, iteF ?_⟩
      have e2 : isW lo hi x = false := by
        cases x with
        | int i => cases e
        | _ => rfl
      rw [e2] at k; exact k
    | true =>
      obtain ⟨i, rfl⟩ : ∃ i, x = .int i := by
        cases x with
        | int i => exact ⟨i, rfl⟩
        | _ => cases e
      refine ⟨_, rfl, iteT ?_⟩
      refine ⟨_, rfl, _, rfl, _, _, rfl, rfl, _, rfl, ?_⟩
      refine ite2 (fun h => ?_) (fun h => ?_)
      · have h : lo ≤ i := of_decide_eq_true h
        refine ⟨_, rfl, _, _, rfl, rfl, ?_⟩
        have e2 : isW lo hi (.int i) = decide (i ≤ hi) := by simp [isW, h]
        rw [e2] at k; exact k
      · have h : ¬ lo ≤ i := fun z => h (decide_eq_true z)
        have e2 : isW lo hi (.int i) = false := by simp [isW, h]
        rw [e2] at k; exact k
end
end Tk17

namespace Tk17
open PySem PySem.Spec PyProof.Rows L2 Tk
section
variable {P : Program} {w : World} {K : PySem.W.Frag} {mg : Str → Option Value} {base : Heap}
theorem ok_are (D : DefT K mg "are_within" S_are_within) (T : Kn mg) (Gw : Cal P w K mg base 2 "is_within" ["thing", "least", "most"] (spWithin K)) : FnOk P w K mg base CX0 3 D.f D.fd ["thing", "least", "most"] (spAre K) := by
  refine D.F.ok sc_are_within (fun vs H Q E h => ?_) (fun cdv A outer s H vs Q E hr h => ?_)
  · obtain ⟨x, lo, hi, rfl, _⟩ := h
    rfl
  · obtain ⟨x, lo, hi, rfl, k⟩ := h
    have nd := sc_are_within.nd
    refine ⟨_, pss_one (ps_ret (pe_and (pe_callB call_isi (by rfl) T.isi PyProof.Rows.boot_isinstance (pa_cons (pv 0) (pa_cons (pe_bltn (v := .ty "tuple") (by rfl) T.tuple boot_tuple rfl) pa_nil)))
      (pe_one (pe_callB (cr_all rfl) (by rfl) T.all boot_all (pa_cons (pe_lc (own := [("part", 3)]) (g := gName 3) (tt := tYes) rfl nd (pi_tup (pv 0)) (blkOk_by (N := ["thing", "least", "most", "part"]) (sc := defScope S_are_within) (by decide +kernel))
            (fun _ _ _ _ _ => pg_name (i := 3) nd rfl (Or.inl rfl)) (fun _ _ _ _ _ => pts_nil) (fun _ _ _ _ _ => pc Gw hr (pa_cons (pv 3) (pa_cons (pv 1) (pa_cons (pv 2) pa_nil))))) pa_nil))))), ?_⟩
    rcases k with ⟨a, xs, rfl, hx, hz, hty, k⟩ | ⟨n, ty, ne, k⟩
    · refine ⟨_, rfl, .ref a, .ty "tuple", .type "tuple", .type "tuple", true, rfl, .ty _, Ty.ofT hx, kit_ty (by decide +kernel), true, rfl, ?_⟩
      refine iteT ?_
      refine ⟨_, rfl, a, rfl, ⟨xs, hx⟩, fun q hq => ?_⟩
      refine lc_tup (K := K) (a := a) (xs := xs) (fun i H4 => H4 q = some (.lst ((xs.take i).map fun y => V.bl (isW lo hi y))) ∧ Same H H4) ⟨by rw [upd_same]; rfl, Same.new hq⟩ (fun i H4 _ h4 => sameT h4.2 hx) ?_ ?_
      · rintro i y H4 hi' ⟨h4, s4⟩
        obtain ⟨n, ty⟩ := hty y (List.mem_of_getElem? hi')
        have hil := (List.getElem?_eq_some_iff.mp hi').1
        refine ⟨rfl, tyes ?_⟩
        refine ⟨_, rfl, _, rfl, _, rfl, y, n, lo, hi, rfl, Ty.same s4 ty, _, h4, ?_, ?_⟩
        · rw [List.length_map, List.length_take]
          exact Nat.lt_of_le_of_lt (Nat.le_trans (Nat.min_le_right _ _) hz) (by decide)
        · exact ⟨by rw [upd_same, ← take_map_next hi'], Same.put hq s4⟩
      · rintro H4 ⟨h4, s4⟩
        rw [List.take_length] at h4
        refine ⟨q, xs.map (isW lo hi), rfl, SqL.of (by rw [h4, List.map_map]; rfl), ?_⟩
        have e : (xs.map (isW lo hi)).all id = xs.all (isW lo hi) := by
          rw [List.all_map]; rfl
        rw [e]
        exact k H4 s4
    · refine ⟨_, rfl, x, .ty "tuple", .type n, .type "tuple", false, rfl, .ty _, ty, kit_tuple_no ty ne, false, rfl, ?_⟩
      refine iteF ?_
      exact k
theorem ok_words (D : DefT K mg "are_words" S_are_words) (T : Kn mg) (Ga : Cal P w K mg base 3 "are_within" ["thing", "least", "most"] (spAre K)) : FnOk P w K mg base CX0 4 D.f D.fd ["thing"] (spWords K) := by
  refine D.F.ok sc_are_words (fun vs H Q E h => ?_) (fun cdv A outer s H vs Q E hr h => ?_)
  · obtain ⟨x, rfl, _⟩ := h
    rfl
  · obtain ⟨x, rfl, k⟩ := h
    obtain ⟨t, ht⟩ := T.most
    refine ⟨_, pss_one (ps_ret (pc Ga hr (pa_cons (pv 0) (pa_cons pe_int (pa_cons (pe_glob (v := .int 1000000000) rfl ht ⟨_, rfl⟩) pa_nil))))), ?_⟩
    exact ⟨_, rfl, x, 0, 1000000000, rfl, k⟩
end
end Tk17

namespace Tk17
open PySem PySem.Spec PyProof.Rows L2 Tk
/-! ### the disk: what an object looks like between two calls -/
def fuV : Option Int → V
  | none => .non
  | some n => .int n
def fl (z l wl nl : Addr) (fu : V) : List (Str × V) := [("_sizes", .ref z), ("_standing", .ref l), ("_waiting", .ref wl), ("_newest", .ref nl), ("_fuse", fu)]
section
variable (z l wl nl z' : Addr) (fu fu' : V)
theorem fl_sizes : (fl z l wl nl fu).lookup ("_sizes" : Str) = some (.ref z) := rfl
theorem fl_standing : (fl z l wl nl fu).lookup ("_standing" : Str) = some (.ref l) := rfl
theorem fl_waiting : (fl z l wl nl fu).lookup ("_waiting" : Str) = some (.ref wl) := rfl
theorem fl_newest : (fl z l wl nl fu).lookup ("_newest" : Str) = some (.ref nl) := rfl
theorem fl_fuse : (fl z l wl nl fu).lookup ("_fuse" : Str) = some fu := rfl
theorem fl_init : putF "_fuse" .non (putF "_newest" (.ref nl) (putF "_waiting" (.ref wl) (putF "_standing" (.ref l) (putF "_sizes" (.ref z) [])))) = fl z l wl nl .non := rfl
theorem fl_pw : putF "_waiting" (.ref z') (fl z l wl nl fu) = fl z l z' nl fu := rfl
theorem fl_pn : putF "_newest" (.ref z') (fl z l wl nl fu) = fl z l wl z' fu := rfl
theorem fl_ps : putF "_standing" (.ref z') (fl z l wl nl fu) = fl z z' wl nl fu := rfl
theorem fl_pf : putF "_fuse" fu' (fl z l wl nl fu) = fl z l wl nl fu' := rfl
end
/-- a block with these words -/
def Blk (K : PySem.W.Frag) (H : Hp) (x : V) (ws : List Int) : Prop := ∃ a, x = .ref a ∧ SqT K H a (ws.map V.int) ∧ ws.length = 32 ∧ Wd ws
/-- a list of blocks -/
def Blks (K : PySem.W.Frag) (H : Hp) : List V → List (List Int) → Prop := Paired (Blk K H)
/-- a waiting write -/
def Wt (K : PySem.W.Frag) (H : Hp) (many : Int) (x : V) (p : Int × List Int) : Prop := ∃ t y, x = .ref t ∧ SqT K H t [.int p.1, y] ∧ Blk K H y p.2 ∧ 0 ≤ p.1 ∧ p.1 < many
/-- the newest waiting block of a place -/
def lastW (wt : List (Int × List Int)) (pl : Int) : Option (List Int) := (wt.reverse.find? fun p => decide (p.1 = pl)).map (·.2)
def Nw (K : PySem.W.Frag) (H : Hp) (kvs : List (Key × V)) (wt : List (Int × List Int)) : Prop :=
  ∀ pl : Int, match lastW wt pl with
    | none => valV kvs (Sum.inl pl) = none
    | some ws => ∃ y, valV kvs (Sum.inl pl) = some y ∧ Blk K H y ws
/-- the mutable parts of a disk: itself, its lists, its dict -/
structure DiskAt (K : PySem.W.Frag) (C : Addr) (H : Hp) (p z l wl nl : Addr) (s b : Int) (st : List (List Int)) (wt : List (Int × List Int)) (fu : Option Int) : Prop where
  ok : SizeOk s b
  ob : ∃ dx, H p = some (.ins C dx (fl z l wl nl (fuV fu)))
  sz : H z = some (.tup (sizeV s b))
  fst : ∃ xs, H l = some (.lst xs) ∧ Blks K H xs st
  len : (st.length : Int) = manyI s b
  fwt : ∃ ys, H wl = some (.lst ys) ∧ Paired (Wt K H (manyI s b)) ys wt
  wlen : wt.length ≤ 1000
  nw : ∃ kvs, H nl = some (.dK kvs) ∧ Nw K H kvs wt ∧ kvs.length ≤ wt.length
  lw : l ≠ wl
/-- what the walk asks of the class, of the module -/
structure DT (K : PySem.W.Frag) (mg : Str → Option Value) (C fI ba : Addr) : Prop where
  cl : Cls K C
  mkC : Mk K C fI
  mgC : mg "Disk" = some (.ref C)
  ins : C8.InsC K C
  nS : NoAttr K C "_sizes"
  nT : NoAttr K C "_standing"
  nW : NoAttr K C "_waiting"
  nN : NoAttr K C "_newest"
  nF : NoAttr K C "_fuse"
  bl : mg "BLANK" = some (.ref ba)
  c1 : ∃ t, mg "LEAST_SEGMENTS" = some (.int 6 t)
  c2 : ∃ t, mg "MOST_SEGMENTS" = some (.int 40 t)
  c3 : ∃ t, mg "LEAST_BLOCKS" = some (.int 4 t)
  c4 : ∃ t, mg "MOST_BLOCKS" = some (.int 24 t)
  c5 : ∃ t, mg "BLOCK_WORDS" = some (.int 32 t)
  c6 : ∃ t, mg "CONTENT_WORDS" = some (.int 28 t)
  c7 : ∃ t, mg "ROOT_WORDS" = some (.int 4 t)
def Blank (K : PySem.W.Frag) (H : Hp) (ba : Addr) : Prop := SqT K H ba ((List.replicate 32 (0 : Int)).map V.int)
theorem Blk.same {K : PySem.W.Frag} {H H' : Hp} {x : V} {ws : List Int} (s : Same H H') (h : Blk K H x ws) : Blk K H' x ws := by
  obtain ⟨a, e, h1, h2⟩ := h
  exact ⟨a, e, sameT s h1, h2⟩
/-- tuples stay where a list, a dict, an instance is changed -/
def TupSame (H H' : Hp) : Prop := ∀ b xs, Rd H b (.tup xs) → Rd H' b (.tup xs)
theorem TupSame.of {H H' : Hp} (s : Same H H') : TupSame H H' := fun b xs h => by
  rcases h with h | ⟨o, h⟩
  · exact .inl (s _ _ h)
  · exact .inr ⟨o, s _ _ h⟩
theorem TupSame.refl {H : Hp} : TupSame H H := fun _ _ h => h
theorem TupSame.trans {H H1 H2 : Hp} (a : TupSame H H1) (b : TupSame H1 H2) : TupSame H H2 := fun c xs h => b c xs (a c xs h)
theorem TupSame.put {H : Hp} {q : Addr} {o o' : HO} (h : H q = some o) (n : ∀ xs, o ≠ .tup xs) (n2 : ∀ ob u, o ≠ .frz ob u) : TupSame H (upd H q o') := fun b xs r => by
  have ne : b ≠ q := fun e => by
    subst e
    rcases r with r | ⟨ob, r⟩
    · rw [h] at r; exact n xs (Option.some.inj r)
    · rw [h] at r; exact n2 _ _ (Option.some.inj r)
  rcases r with r | ⟨ob, r⟩
  · exact .inl (by rw [upd_ne ne]; exact r)
  · exact .inr ⟨ob, by rw [upd_ne ne]; exact r⟩
theorem tupT {K : PySem.W.Frag} {H H' : Hp} {a : Addr} {xs : List V} (s : TupSame H H') (h : SqT K H a xs) : SqT K H' a xs := by
  rcases h with h | h
  · exact .inl (s _ _ h)
  · exact .inr h
theorem Blk.tup {K : PySem.W.Frag} {H H' : Hp} {x : V} {ws : List Int} (s : TupSame H H') (h : Blk K H x ws) : Blk K H' x ws := by
  obtain ⟨a, e, h1, h2⟩ := h
  exact ⟨a, e, tupT s h1, h2⟩
theorem Blks.tup {K : PySem.W.Frag} {H H' : Hp} {xs : List V} {bs : List (List Int)} (s : TupSame H H') (h : Blks K H xs bs) : Blks K H' xs bs := Paired.mapP h fun _ _ q => q.tup s
theorem Wt.tup {K : PySem.W.Frag} {H H' : Hp} {m : Int} {x : V} {p : Int × List Int} (s : TupSame H H') (h : Wt K H m x p) : Wt K H' m x p := by
  obtain ⟨t, y, e, h1, h2, h3⟩ := h
  exact ⟨t, y, e, tupT s h1, h2.tup s, h3⟩
theorem Nw.tup {K : PySem.W.Frag} {H H' : Hp} {kvs : List (Key × V)} {wt : List (Int × List Int)} (s : TupSame H H') (h : Nw K H kvs wt) : Nw K H' kvs wt := fun pl => by
  have q := h pl
  revert q
  cases lastW wt pl with
  | none => exact id
  | some ws => exact fun ⟨y, h1, h2⟩ => ⟨y, h1, h2.tup s⟩
theorem DiskAt.same {K : PySem.W.Frag} {C : Addr} {H H' : Hp} {p z l wl nl : Addr} {s b : Int} {st : List (List Int)} {wt : List (Int × List Int)} {fu : Option Int} (e : Same H H') (D : DiskAt K C H p z l wl nl s b st wt fu) : DiskAt K C H' p z l wl nl s b st wt fu := by
  obtain ⟨ok, ⟨dx, h1⟩, h2, ⟨xs, h3, h4⟩, h5, ⟨ys, h6, h7⟩, h8, ⟨kvs, h9, h10, h11⟩, h12⟩ := D
  have t := TupSame.of e
  exact ⟨ok, ⟨dx, e _ _ h1⟩, e _ _ h2, ⟨xs, e _ _ h3, h4.tup t⟩, h5, ⟨ys, e _ _ h6, Paired.mapP h7 fun _ _ q => q.tup t⟩, h8, ⟨kvs, e _ _ h9, h10.tup t, h11⟩, h12⟩
def blankS (s b : Int) : List (List Int) := List.replicate (manyI s b).toNat (List.replicate 32 0)
def spDInit (K : PySem.W.Frag) (C ba : Addr) : Sp := fun vs H Q _ => ∃ (p dx : Addr) (s b : Int), vs = [.ref p, .int s, .int b] ∧ H p = some (.ins C dx []) ∧ SizeOk s b ∧ Blank K H ba ∧
  ∀ (z l wl nl : Addr) (H' : Hp), H z = none → H l = none → H wl = none → H nl = none → DiskAt K C H' p z l wl nl s b (blankS s b) [] none → (∀ c o, H c = some o → c ≠ p → H' c = some o) → Q .non H'
theorem flat_one {α : Type} (n : Nat) (x : α) : (List.replicate n [x]).flatten = List.replicate n x := by
  induction n with
  | zero => rfl
  | succ n ih => rw [List.replicate_succ, List.flatten_cons, ih, List.replicate_succ]; rfl
theorem blks_rep {K : PySem.W.Frag} {H : Hp} {x : V} {ws : List Int} (h : Blk K H x ws) : ∀ n, Blks K H (List.replicate n x) (List.replicate n ws)
  | 0 => .nil
  | n + 1 => .cons h (blks_rep h n)
theorem blank_blk {K : PySem.W.Frag} {H : Hp} {ba : Addr} (h : Blank K H ba) : Blk K H (.ref ba) (List.replicate 32 0) := ⟨ba, rfl, h, by simp, Wd.rep (by decide) (by decide) 32⟩
theorem nw_nil {K : PySem.W.Frag} {H : Hp} : Nw K H [] [] := fun pl => rfl
section
variable {P : Program} {w : World} {K : PySem.W.Frag} {mg : Str → Option Value} {base : Heap} {C fI ba : Addr}
theorem ok_dinit (D : MthT K C "__init__" "Disk.__init__" S_Disk___init__) (T : DT K mg C fI ba) (Gw : Cal P w K mg base 2 "is_within" ["thing", "least", "most"] (spWithin K)) :
    FnOk P w K mg base CX0 3 D.f D.fd ["self", "segments", "blocks"] (spDInit K C ba) := by
  refine D.F.ok sc_Disk___init__ (fun vs H Q E h => ?_) (fun cdv A outer s0 H vs Q E hr h => ?_)
  · obtain ⟨p, dx, s, b, rfl, _⟩ := h
    rfl
  · obtain ⟨p, dx, s, b, rfl, hp, ok, hba, k⟩ := h
    have nd := sc_Disk___init__.nd
    obtain ⟨t1, c1⟩ := T.c1
    obtain ⟨t2, c2⟩ := T.c2
    obtain ⟨t3, c3⟩ := T.c3
    obtain ⟨t4, c4⟩ := T.c4
    obtain ⟨t6, c6⟩ := T.c6
    obtain ⟨t7, c7⟩ := T.c7
    refine ⟨_, pss_cons (ps_if (pt_not (pt_val (pc Gw hr (pa_cons (pv 1) (pa_cons (pe_glob (v := .int 6) rfl c1 ⟨_, rfl⟩) (pa_cons (pe_glob (v := .int 40) rfl c2 ⟨_, rfl⟩) pa_nil)))))) (pss_one ps_never) pss_nil)
      (pss_cons (ps_if (pt_not (pt_val (pc Gw hr (pa_cons (pv 2) (pa_cons (pe_glob (v := .int 4) rfl c3 ⟨_, rfl⟩) (pa_cons (pe_glob (v := .int 24) rfl c4 ⟨_, rfl⟩) pa_nil)))))) (pss_one ps_never) pss_nil)
      (pss_cons (ps_set (i := 3) nd rfl (Or.inl rfl) (pe_op op_mul (pe_op op_sub (pv 1) pe_int) (pe_op op_sub (pv 2) pe_int)))
      (pss_cons (ps_set (i := 4) nd rfl (Or.inl rfl) (pe_op op_fdiv (pe_op op_sub (pe_op op_add (pe_op op_add (pv 3) (pe_glob (v := .int 4) rfl c7 ⟨_, rfl⟩)) (pe_glob (v := .int 28) rfl c6 ⟨_, rfl⟩)) pe_int) (pe_glob (v := .int 28) rfl c6 ⟨_, rfl⟩)))
      (pss_cons (ps_fld (pv 0) (pe_tup (pa_cons (pv 1) (pa_cons (pv 2) (pa_cons (pv 3) (pa_cons (pv 4) pa_nil))))) rfl)
      (pss_cons (ps_fld (pv 0) (pe_op op_rep (pe_lst (pa_cons (pe_glob (v := .ref ba) rfl T.bl rfl) pa_nil)) (pe_op op_add (pe_op op_mul pe_int (pv 4)) (pe_op op_mul (pv 1) (pv 2)))) rfl)
      (pss_cons (ps_fld (pv 0) (pe_lst pa_nil) rfl)
      (pss_cons (ps_fld (pv 0) pe_dnewK rfl)
      (pss_one (ps_fld (pv 0) pe_non rfl))))))))), ?_⟩
    have ok' := ok
    obtain ⟨h1, h2, h3, h4⟩ := ok
    have ea : ((s - 4) * (b - 1) + 4 + 28 - 1) / 28 = areaI s b := by unfold areaI roomI; omega
    have w1 : isW 6 40 (.int s) = true := by simp [isW, h1, h2]
    have w2 : isW 4 24 (.int b) = true := by simp [isW, h3, h4]
    refine ⟨_, rfl, .int s, "int", 6, 40, rfl, Ty.int K H s, _, rfl, ?_⟩
    rw [w1]
    refine iteF ?_
    refine ⟨_, rfl, .int b, "int", 4, 24, rfl, Ty.int K H b, _, rfl, ?_⟩
    rw [w2]
    refine iteF ?_
    refine ⟨_, rfl, _, _, rfl, rfl, _, rfl, _, _, rfl, rfl, _, _, rfl, rfl, .inl ⟨by omega, by omega⟩, ?_⟩
    refine ⟨_, rfl, _, _, rfl, rfl, _, _, rfl, rfl, _, _, rfl, rfl, _, _, rfl, rfl, ⟨by decide, by decide⟩, ?_⟩
    refine ⟨_, rfl, _, rfl, _, rfl, _, rfl, (by show 4 ≤ sizeLine; decide), fun z hz => ?_⟩
    have npz : p ≠ z := ne_of_none hp hz
    refine ⟨_, rfl, p, C, dx, [], rfl, by rw [upd_ne npz]; exact hp, T.cl, T.nS, (by show 0 < 1000; decide), ?_⟩
    have a1 : ∀ o, (upd (upd H z (.tup (sizeV s b))) p o) p = some o := fun o => upd_same
    have a2 : ∀ o, (upd (upd H z (.tup (sizeV s b))) p o) z = some (.tup (sizeV s b)) := fun o => by rw [upd_ne npz.symm, upd_same]
    have a3 : ∀ o c u, H c = some u → c ≠ p → (upd (upd H z (.tup (sizeV s b))) p o) c = some u := fun o c u e n => by rw [upd_ne n, upd_ne (ne_of_none e hz)]; exact e
    have ez : [V.int s, V.int b, V.int ((s - 4) * (b - 1)), V.int (((s - 4) * (b - 1) + 4 + 28 - 1) / 28)] = sizeV s b := by rw [ea]; rfl
    show _
    rw [ez]
    specialize a1 (.ins C dx (putF "_sizes" (.ref z) []))
    specialize a2 (.ins C dx (putF "_sizes" (.ref z) []))
    specialize a3 (.ins C dx (putF "_sizes" (.ref z) []))
    generalize upd (upd H z (.tup (sizeV s b))) p (.ins C dx (putF "_sizes" (.ref z) [])) = H1 at a1 a2 a3 ⊢
    have pr := ok'.prod
    have ar := ok'.area
    have mn := ok'.many
    have em : 2 * areaI s b + s * b = manyI s b := rfl
    -- self._standing
    refine ⟨(by show 1 ≤ sizeLine; decide), fun q hq => ?_⟩
    refine ⟨_, rfl, _, _, rfl, rfl, .inl ⟨by decide, by decide⟩, _, rfl, _, rfl, _, _, rfl, rfl, .inl ⟨by omega, by omega⟩, _, _, rfl, rfl, q, _, [.ref ba], rfl, rfl, upd_same, ?_, ?_, ?_, fun l hl => ?_⟩
    · rw [ea, em]; omega
    · rw [ea, em]; omega
    · rw [ea, em]
      show 1 * (manyI s b).toNat ≤ sizeLine
      exact Nat.le_trans (show 1 * (manyI s b).toNat ≤ 1020 by omega) (by decide)
    show _
    rw [ea, em, flat_one]
    have pq : p ≠ q := ne_of_none a1 hq
    have pl : p ≠ l := fun e => by rw [← e, upd_ne pq, a1] at hl; cases hl
    have zq : z ≠ q := ne_of_none a2 hq
    have zl : z ≠ l := fun e => by rw [← e, upd_ne zq, a2] at hl; cases hl
    have hl0 : H l = none := by
      cases e : H l with
      | none => rfl
      | some u =>
        have ne : l ≠ p := pl.symm
        have e1 := a3 l u e ne
        by_cases lq : l = q
        · rw [lq, hq] at e1; cases e1
        · rw [upd_ne lq, e1] at hl; cases hl
    refine ⟨_, rfl, p, C, dx, _, rfl, by rw [upd_ne pl, upd_ne pq]; exact a1, T.cl, T.nT, (by show 1 < 1000; decide), ?_⟩
    have b1 : ∀ o, (upd (upd (upd H1 q (.lst [.ref ba])) l (.lst (List.replicate (manyI s b).toNat (.ref ba)))) p o) p = some o := fun o => upd_same
    have b2 : ∀ o, (upd (upd (upd H1 q (.lst [.ref ba])) l (.lst (List.replicate (manyI s b).toNat (.ref ba)))) p o) z = some (.tup (sizeV s b)) := fun o => by rw [upd_ne npz.symm, upd_ne zl, upd_ne zq]; exact a2
    have b3 : ∀ o, (upd (upd (upd H1 q (.lst [.ref ba])) l (.lst (List.replicate (manyI s b).toNat (.ref ba)))) p o) l = some (.lst (List.replicate (manyI s b).toNat (.ref ba))) := fun o => by rw [upd_ne pl.symm, upd_same]
    have b4 : ∀ o c u, H c = some u → c ≠ p → (upd (upd (upd H1 q (.lst [.ref ba])) l (.lst (List.replicate (manyI s b).toNat (.ref ba)))) p o) c = some u := fun o c u e n => by
      have e1 := a3 c u e n
      rw [upd_ne n, upd_ne (ne_of_none e hl0), upd_ne (ne_of_none e1 hq)]; exact e1
    specialize b1 (.ins C dx (putF "_standing" (.ref l) (putF "_sizes" (.ref z) [])))
    specialize b2 (.ins C dx (putF "_standing" (.ref l) (putF "_sizes" (.ref z) [])))
    specialize b3 (.ins C dx (putF "_standing" (.ref l) (putF "_sizes" (.ref z) [])))
    specialize b4 (.ins C dx (putF "_standing" (.ref l) (putF "_sizes" (.ref z) [])))
    generalize upd (upd (upd H1 q (.lst [.ref ba])) l (.lst (List.replicate (manyI s b).toNat (.ref ba)))) p (.ins C dx (putF "_standing" (.ref l) (putF "_sizes" (.ref z) []))) = H2 at b1 b2 b3 b4 ⊢
    -- self._waiting
    refine ⟨(by show 0 ≤ sizeLine; decide), fun wl hw => ?_⟩
    have pw : p ≠ wl := ne_of_none b1 hw
    refine ⟨_, rfl, p, C, dx, _, rfl, by rw [upd_ne pw]; exact b1, T.cl, T.nW, (by show 2 < 1000; decide), ?_⟩
    -- self._newest
    intro nl hn
    have pn : p ≠ nl := fun e => by rw [← e, upd_same] at hn; cases hn
    have wn : wl ≠ nl := fun e => by rw [← e, upd_ne pw.symm, upd_same] at hn; cases hn
    have hn2 : H2 nl = none := by rw [upd_ne pn.symm, upd_ne wn.symm] at hn; exact hn
    refine ⟨_, rfl, p, C, dx, _, rfl, by rw [upd_ne pn]; exact upd_same, T.cl, T.nN, (by show 3 < 1000; decide), ?_⟩
    refine ⟨_, rfl, p, C, dx, _, rfl, upd_same, T.cl, T.nF, (by show 4 < 1000; decide), ?_⟩
    have zw : z ≠ wl := ne_of_none b2 hw
    have lw : l ≠ wl := ne_of_none b3 hw
    have zn : z ≠ nl := ne_of_none b2 hn2
    have ln : l ≠ nl := ne_of_none b3 hn2
    have frH : ∀ {c : Addr}, c ≠ p → H2 c = none → H c = none := fun {c} n e => by
      cases e1 : H c with
      | none => rfl
      | some u => rw [b4 c u e1 n] at e; cases e
    have b5 : ∀ c u, H c = some u → c ≠ p → c ≠ wl ∧ c ≠ nl := fun c u e n => ⟨ne_of_none (b4 c u e n) hw, ne_of_none (b4 c u e n) hn2⟩
    have stay : ∀ {o1 o2 o3 o4 o5 : HO} (c : Addr) (u : HO), H c = some u → c ≠ p → (upd (upd (upd (upd (upd H2 wl o1) p o2) nl o3) p o4) p o5) c = some u := fun c u e n => by
      rw [upd_ne n, upd_ne n, upd_ne (b5 c u e n).2, upd_ne n, upd_ne (b5 c u e n).1]; exact b4 c u e n
    refine k z l wl nl _ hz hl0 (frH pw.symm hw) (frH pn.symm hn2) ⟨ok', ⟨dx, upd_same⟩, ?_, ⟨_, ?_, blks_rep (blank_blk (ba := ba) ?_) _⟩, ?_, ⟨[], ?_, .nil⟩, by decide, ⟨[], ?_, nw_nil, by decide⟩, lw⟩ stay
    · rw [upd_ne npz.symm, upd_ne npz.symm, upd_ne zn, upd_ne npz.symm, upd_ne zw]; exact b2
    · rw [upd_ne pl.symm, upd_ne pl.symm, upd_ne ln, upd_ne pl.symm, upd_ne lw]; exact b3
    · rcases hba with (e | ⟨o, e⟩) | e
      · exact .inl (.inl (stay _ _ e (fun z => by subst z; rw [hp] at e; cases e)))
      · exact .inl (.inr ⟨o, stay _ _ e (fun z => by subst z; rw [hp] at e; cases e)⟩)
      · exact .inr e
    · unfold blankS; rw [List.length_replicate]; omega
    · rw [upd_ne pw.symm, upd_ne pw.symm, upd_ne wn, upd_ne pw.symm, upd_same]
    · rw [upd_ne pn.symm, upd_ne pn.symm, upd_same]
end
end Tk17

namespace Tk17
open PySem PySem.Spec PyProof.Rows L2 Tk
/-- a disk's addresses and what it holds -/
structure DS where
  p : Addr
  z : Addr
  l : Addr
  wl : Addr
  nl : Addr
  s : Int
  b : Int
  st : List (List Int)
  wt : List (Int × List Int)
  fu : Option Int
abbrev DA (K : PySem.W.Frag) (C : Addr) (H : Hp) (D : DS) : Prop := DiskAt K C H D.p D.z D.l D.wl D.nl D.s D.b D.st D.wt D.fu
abbrev DS.many (D : DS) : Int := manyI D.s D.b
def DS.read (D : DS) (pl : Int) : List Int := (lastW D.wt pl).getD (D.st.getD pl.toNat [])
theorem pairedLen {α β : Type} {F : α → β → Prop} : ∀ {xs : List α} {ys : List β}, Paired F xs ys → xs.length = ys.length
  | _, _, .nil => rfl
  | _, _, .cons _ t => by rw [List.length_cons, List.length_cons, pairedLen t]
theorem pairedGet {α β : Type} {F : α → β → Prop} : ∀ {xs : List α} {ys : List β} {i : Nat}, Paired F xs ys → i < ys.length → ∃ x y, xs[i]? = some x ∧ ys[i]? = some y ∧ F x y
  | _, _, _, .nil, h => absurd h (Nat.not_lt_zero _)
  | _, _, 0, .cons r t, _ => ⟨_, _, rfl, rfl, r⟩
  | _, _, i + 1, .cons r t, h => by
    obtain ⟨x, y, h1, h2, h3⟩ := pairedGet (i := i) t (Nat.lt_of_succ_lt_succ h)
    exact ⟨x, y, by simpa using h1, by simpa using h2, h3⟩
def spDSizes (K : PySem.W.Frag) (C : Addr) : Sp := fun vs H Q _ => ∃ D : DS, vs = [.ref D.p] ∧ DA K C H D ∧ Q (.ref D.z) H
def spDMany (K : PySem.W.Frag) (C : Addr) : Sp := fun vs H Q _ => ∃ D : DS, vs = [.ref D.p] ∧ DA K C H D ∧ Q (.int D.many) H
def spCheck (K : PySem.W.Frag) (C : Addr) : Sp := fun vs H Q _ => ∃ (D : DS) (pl : Int), vs = [.ref D.p, .int pl] ∧ DA K C H D ∧ 0 ≤ pl ∧ pl < D.many ∧ Q .non H
def spRead (K : PySem.W.Frag) (C : Addr) : Sp := fun vs H Q _ => ∃ (D : DS) (pl : Int), vs = [.ref D.p, .int pl] ∧ DA K C H D ∧ 0 ≤ pl ∧ pl < D.many ∧ ∀ y, Blk K H y (D.read pl) → Q y H
def spWaiting (K : PySem.W.Frag) (C : Addr) : Sp := fun vs H Q _ => ∃ (D : DS), vs = [.ref D.p] ∧ DA K C H D ∧ ∀ t ys, H t = none → Paired (Wt K H D.many) ys D.wt → Q (.ref t) (upd H t (.tup ys))
def spStanding (K : PySem.W.Frag) (C : Addr) : Sp := fun vs H Q _ => ∃ (D : DS), vs = [.ref D.p] ∧ DA K C H D ∧ ∀ t ys, H t = none → Blks K H ys D.st → Q (.ref t) (upd H t (.tup ys))
def fuDown : Option Int → Option Int
  | none => none
  | some n => some (n - 1)
section
variable {P : Program} {w : World} {K : PySem.W.Frag} {mg : Str → Option Value} {base : Heap} {C fI ba : Addr}
theorem ok_dsizes (D : MthT K C "sizes" "Disk.sizes" S_Disk_sizes) (T : DT K mg C fI ba) : FnOk P w K mg base CX0 1 D.f D.fd ["self"] (spDSizes K C) := by
  refine D.F.ok sc_Disk_sizes (fun vs H Q E h => ?_) (fun cdv A outer s H vs Q E hr h => ?_)
  · obtain ⟨D, rfl, _⟩ := h
    rfl
  · obtain ⟨D, rfl, ⟨ok, ⟨dx, h1⟩, h2, h3, h4, h5, h6, h7, h8⟩, k⟩ := h
    exact ⟨_, pss_one (ps_ret (pe_fld (pv 0) rfl)), _, rfl, D.p, C, dx, _, _, rfl, h1, T.cl, T.nS, fl_sizes .., k⟩
theorem ok_dmany (D : MthT K C "many" "Disk.many" S_Disk_many) (T : DT K mg C fI ba) (B : Bi mg) : FnOk P w K mg base CX0 1 D.f D.fd ["self"] (spDMany K C) := by
  refine D.F.ok sc_Disk_many (fun vs H Q E h => ?_) (fun cdv A outer s H vs Q E hr h => ?_)
  · obtain ⟨D, rfl, _⟩ := h
    rfl
  · obtain ⟨D, rfl, ⟨ok, ⟨dx, h1⟩, h2, ⟨xs, h3, h3b⟩, h4, h5, h6, h7, h8⟩, k⟩ := h
    refine ⟨_, pss_one (ps_ret (pe_callB call_len_seq (by rfl) B.len PySem.boot_len (pa_cons (pe_fld (pv 0) rfl) pa_nil))), _, rfl, D.p, C, dx, _, _, rfl, h1, T.cl, T.nT, fl_standing .., D.l, xs, rfl, .inl (SqL.of h3), ?_⟩
    rw [pairedLen h3b, h4]
    exact k
theorem ok_check (D : MthT K C "_check_place" "Disk._check_place" S_Disk__check_place) (T : DT K mg C fI ba) (B : Bi mg) (Gw : Cal P w K mg base 2 "is_within" ["thing", "least", "most"] (spWithin K)) :
    FnOk P w K mg base CX0 3 D.f D.fd ["self", "place"] (spCheck K C) := by
  refine D.F.ok sc_Disk__check_place (fun vs H Q E h => ?_) (fun cdv A outer s H vs Q E hr h => ?_)
  · obtain ⟨D, pl, rfl, _⟩ := h
    rfl
  · obtain ⟨D, pl, rfl, ⟨ok, ⟨dx, h1⟩, h2, ⟨xs, h3, h3b⟩, h4, h5, h6, h7, h8⟩, p0, p1, k⟩ := h
    refine ⟨_, pss_one (ps_if (pt_not (pt_val (pc Gw hr (pa_cons (pv 1) (pa_cons pe_int (pa_cons (pe_op op_sub (pe_callB call_len_seq (by rfl) B.len PySem.boot_len (pa_cons (pe_fld (pv 0) rfl) pa_nil)) pe_int) pa_nil)))))) (pss_one ps_never) pss_nil), ?_⟩
    refine ⟨_, rfl, _, rfl, D.p, C, dx, _, _, rfl, h1, T.cl, T.nT, fl_standing .., D.l, xs, rfl, .inl (SqL.of h3), _, _, rfl, rfl, .int pl, "int", 0, _, rfl, Ty.int K H pl, _, rfl, ?_⟩
    have e : isW 0 ((xs.length : Int) - 1) (.int pl) = true := by
      rw [pairedLen h3b, h4]
      have : pl ≤ manyI D.s D.b - 1 := by have := p1; unfold DS.many at this; omega
      simp [isW, p0, this]
    rw [e]
    refine iteF ?_
    exact k
theorem ok_waiting (D : MthT K C "waiting" "Disk.waiting" S_Disk_waiting) (T : DT K mg C fI ba) (Kt : Kn mg) : FnOk P w K mg base CX0 1 D.f D.fd ["self"] (spWaiting K C) := by
  refine D.F.ok sc_Disk_waiting (fun vs H Q E h => ?_) (fun cdv A outer s H vs Q E hr h => ?_)
  · obtain ⟨D, rfl, _⟩ := h
    rfl
  · obtain ⟨D, rfl, ⟨ok, ⟨dx, h1⟩, h2, h3, h4, ⟨ys, h5, h5b⟩, h6, h7, h8⟩, k⟩ := h
    refine ⟨_, pss_one (ps_ret (pe_callTy call_tuple_of (by rfl) Kt.tuple boot_tuple (pa_cons (pe_fld (pv 0) rfl) pa_nil))), _, rfl, D.p, C, dx, _, _, rfl, h1, T.cl, T.nW, fl_waiting .., D.wl, ys, rfl, .inl ⟨SqL.of h5, fun t ht => k t ys ht h5b⟩⟩
theorem ok_standing (D : MthT K C "standing" "Disk.standing" S_Disk_standing) (T : DT K mg C fI ba) (Kt : Kn mg) : FnOk P w K mg base CX0 1 D.f D.fd ["self"] (spStanding K C) := by
  refine D.F.ok sc_Disk_standing (fun vs H Q E h => ?_) (fun cdv A outer s H vs Q E hr h => ?_)
  · obtain ⟨D, rfl, _⟩ := h
    rfl
  · obtain ⟨D, rfl, ⟨ok, ⟨dx, h1⟩, h2, ⟨xs, h3, h3b⟩, h4, h5, h6, h7, h8⟩, k⟩ := h
    refine ⟨_, pss_one (ps_ret (pe_callTy call_tuple_of (by rfl) Kt.tuple boot_tuple (pa_cons (pe_fld (pv 0) rfl) pa_nil))), _, rfl, D.p, C, dx, _, _, rfl, h1, T.cl, T.nT, fl_standing .., D.l, xs, rfl, .inl ⟨SqL.of h3, fun t ht => k t xs ht h3b⟩⟩
theorem ok_read (D : MthT K C "read" "Disk.read" S_Disk_read) (T : DT K mg C fI ba) (Mc : MCal P w K mg base C 3 "_check_place" ["self", "place"] (spCheck K C)) : FnOk P w K mg base CX0 4 D.f D.fd ["self", "place"] (spRead K C) := by
  refine D.F.ok sc_Disk_read (fun vs H Q E h => ?_) (fun cdv A outer s H vs Q E hr h => ?_)
  · obtain ⟨D, pl, rfl, _⟩ := h
    rfl
  · obtain ⟨D, pl, rfl, DD, p0, p1, k⟩ := h
    have hu := hu_of hr
    obtain ⟨ok, ⟨dx, h1⟩, h2, ⟨xs, h3, h3b⟩, h4, h5, h6, ⟨kvs, h7, h7b, h7c⟩, h8⟩ := id DD
    refine ⟨_, pss_cons (ps_expr (pm T.cl Mc hr (pv 0) (pa_cons (pv 1) pa_nil)))
      (pss_one (ps_ret (pe_ifExp (pt_cmp (pc_din hu (pv 1) (pe_fld (pv 0) rfl))) (pe_dget hu (pe_fld (pv 0) rfl) (pv 1) (fun _ _ => rfl)) (pe_ix ix_list (pe_fld (pv 0) rfl) (pv 1) (fun _ _ => rfl))))), ?_⟩
    refine ⟨_, rfl, D.p, dx, _, rfl, h1, rfl, _, rfl, D, pl, rfl, DD, p0, p1, ?_⟩
    have q := h7b pl
    refine ⟨_, rfl, _, rfl, D.p, C, dx, _, _, rfl, h1, T.cl, T.nN, fl_newest .., D.nl, _, rfl, DGet.k (k := Sum.inl pl) h7, _, rfl, ?_⟩
    revert q
    cases e : lastW D.wt pl with
    | none =>
      intro q
      rw [q]
      refine iteF ?_
      have hlt : pl.toNat < D.st.length := by have := p1; unfold DS.many at this; omega
      obtain ⟨y, ws, g1, g2, g3⟩ := pairedGet h3b hlt
      refine ⟨_, rfl, D.p, C, dx, _, _, rfl, h1, T.cl, T.nT, fl_standing .., _, rfl, D.l, xs, pl, y, rfl, rfl, SqL.of h3, at_of (j := pl.toNat) (by omega) g1, ?_⟩
      refine k y ?_
      have e2 : D.read pl = ws := by
        unfold DS.read
        rw [e]
        show D.st.getD pl.toNat [] = ws
        rw [List.getD_eq_getElem?_getD, g2]; rfl
      rw [e2]; exact g3
    | some ws =>
      rintro ⟨y, q, qb⟩
      have q' := q
      rw [q]
      refine iteT ?_
      refine ⟨_, rfl, D.p, C, dx, _, _, rfl, h1, T.cl, T.nN, fl_newest .., _, rfl, D.nl, y, rfl, ?_, ?_⟩
      · rw [← q']; exact DGet.k (k := Sum.inl pl) h7
      · refine k y ?_
        have e2 : D.read pl = ws := by
          unfold DS.read
          rw [e]; rfl
        rw [e2]; exact qb
end
end Tk17

namespace Tk17
open PySem PySem.Spec PyProof.Rows L2 Tk
def fuOk (f : Option Int) : Prop := ∀ n, f = some n → 0 < n
def spBurn (K : PySem.W.Frag) (C : Addr) : Sp := fun vs H Q _ => ∃ (D : DS), vs = [.ref D.p] ∧ DA K C H D ∧ fuOk D.fu ∧
  ∀ H', DA K C H' { D with fu := fuDown D.fu } → But [D.p] H H' → TupSame H H' → Q .non H'
def spIsBlk (K : PySem.W.Frag) : Sp := fun vs H Q _ => ∃ (x : V) (ws : List Int), vs = [x] ∧ Blk K H x ws ∧ ∀ H', Same H H' → Q (.bl true) H'
def spWrite (K : PySem.W.Frag) (C : Addr) : Sp := fun vs H Q _ => ∃ (D : DS) (pl : Int) (y : V) (ws : List Int), vs = [.ref D.p, .int pl, y] ∧ DA K C H D ∧ 0 ≤ pl ∧ pl < D.many ∧ Blk K H y ws ∧ fuOk D.fu ∧ D.wt.length < 900 ∧
  ∀ H', DA K C H' { D with wt := D.wt ++ [(pl, ws)], fu := fuDown D.fu } → But [D.p, D.wl, D.nl] H H' → TupSame H H' → Q .non H'
theorem lastW_app (wt : List (Int × List Int)) (pl q : Int) (ws : List Int) : lastW (wt ++ [(pl, ws)]) q = if q = pl then some ws else lastW wt q := by
  unfold lastW
  rw [List.reverse_append]
  show (List.find? _ ((pl, ws) :: wt.reverse)).map _ = _
  rw [List.find?_cons]
  by_cases e : pl = q
  · subst e; simp
  · have e2 : ¬ q = pl := fun z => e z.symm
    simp [e, e2]
theorem Nw.app {K : PySem.W.Frag} {H : Hp} {kvs : List (Key × V)} {wt : List (Int × List Int)} {pl : Int} {y : V} {ws : List Int} (h : Nw K H kvs wt) (hb : Blk K H y ws) : Nw K H (putK kvs (Sum.inl pl) y) (wt ++ [(pl, ws)]) := fun q => by
  rw [lastW_app, valV_put]
  by_cases e : q = pl
  · rw [if_pos e, if_pos (by rw [e])]
    exact ⟨y, rfl, hb⟩
  · rw [if_neg e, if_neg (fun z => e (Sum.inl.inj z))]
    exact h q
theorem pairedApp {α β : Type} {F : α → β → Prop} {x : α} {y : β} (r : F x y) : ∀ {xs : List α} {ys : List β}, Paired F xs ys → Paired F (xs ++ [x]) (ys ++ [y])
  | _, _, .nil => .cons r .nil
  | _, _, .cons q t => .cons q (pairedApp r t)
section
variable {P : Program} {w : World} {K : PySem.W.Frag} {mg : Str → Option Value} {base : Heap} {C fI ba : Addr}
theorem ok_burn (D : MthT K C "_burn" "Disk._burn" S_Disk__burn) (T : DT K mg C fI ba) : FnOk P w K mg base CX0 1 D.f D.fd ["self"] (spBurn K C) := by
  refine D.F.ok sc_Disk__burn (fun vs H Q E h => ?_) (fun cdv A outer s H vs Q E hr h => ?_)
  · obtain ⟨D, rfl, _⟩ := h
    rfl
  · obtain ⟨D, rfl, DD, hf, k⟩ := h
    obtain ⟨ok, ⟨dx, h1⟩, h2, ⟨xs, h3, h3b⟩, h4, ⟨ys, h5, h5b⟩, h6, ⟨kvs, h7, h7b, h7c⟩, h8⟩ := id DD
    refine ⟨_, pss_cons (ps_if (pt_cmpR op_isN (pe_fld (pv 0) rfl) pe_non (nomark _)) (pss_one ps_retN) pss_nil)
      (pss_cons (ps_if (pt_cmpR op_eq (pe_fld (pv 0) rfl) pe_int (nomark _)) (pss_one ps_never) pss_nil)
      (pss_one (ps_fldaug (pv 0) pe_int in_sub))), ?_⟩
    refine ⟨_, rfl, D.p, C, dx, _, _, rfl, h1, T.cl, T.nF, fl_fuse .., rfl, _, rfl, ?_⟩
    cases ef : D.fu with
    | none =>
      refine iteT ?_
      refine k H ?_ But.refl TupSame.refl
      have e : fuDown D.fu = D.fu := by rw [ef]; rfl
      show DiskAt K C H D.p D.z D.l D.wl D.nl D.s D.b D.st D.wt (fuDown D.fu)
      rw [e]; exact DD
    | some n =>
      have n0 := hf n ef
      rw [ef] at h1
      refine iteF ?_
      refine ⟨_, rfl, D.p, C, dx, _, _, rfl, h1, T.cl, T.nF, fl_fuse .., rfl, _, rfl, ?_⟩
      have ne : ¬ V.int n = V.int 0 := fun z => by injection z with z; omega
      rw [show decide (fuV (some n) = V.int 0) = false from decide_eq_false ne]
      refine iteF ?_
      refine ⟨_, rfl, D.p, C, dx, _, _, rfl, h1, T.cl, T.nF, fl_fuse .., _, _, rfl, rfl, _, _, h1, (by show 5 < 1000; decide), ?_⟩
      have ts : TupSame H (upd H D.p (.ins C dx (fl D.z D.l D.wl D.nl (V.int (n - 1))))) := TupSame.put h1 (fun xs z => by cases z) (fun ob u z => by cases z)
      have e : fuDown D.fu = some (n - 1) := by rw [ef]; rfl
      refine k _ ?_ (But.put (by simp)) ts
      show DiskAt K C _ D.p D.z D.l D.wl D.nl D.s D.b D.st D.wt (fuDown D.fu)
      rw [e]
      refine ⟨ok, ⟨dx, upd_same⟩, ?_, ⟨xs, ?_, h3b.tup ts⟩, h4, ⟨ys, ?_, Paired.mapP h5b fun _ _ q => q.tup ts⟩, h6, ⟨kvs, ?_, h7b.tup ts, h7c⟩, h8⟩
      · rw [fl_pf, upd_ne (ne_of h2 h1 (by intro z; cases z))]; exact h2
      · rw [fl_pf, upd_ne (ne_of h3 h1 (by intro z; cases z))]; exact h3
      · rw [fl_pf, upd_ne (ne_of h5 h1 (by intro z; cases z))]; exact h5
      · rw [fl_pf, upd_ne (ne_of h7 h1 (by intro z; cases z))]; exact h7
theorem ok_isblk (D : DefT K mg "is_block" S_is_block) (T : DT K mg C fI ba) (Kt : Kn mg) (Gw : Cal P w K mg base 4 "are_words" ["thing"] (spWords K)) : FnOk P w K mg base CX0 5 D.f D.fd ["thing"] (spIsBlk K) := by
  refine D.F.ok sc_is_block (fun vs H Q E h => ?_) (fun cdv A outer s H vs Q E hr h => ?_)
  · obtain ⟨x, ws, rfl, _⟩ := h
    rfl
  · obtain ⟨x, ws, rfl, ⟨a, rfl, ha, hl, hw⟩, k⟩ := h
    obtain ⟨t5, c5⟩ := T.c5
    refine ⟨_, pss_one (ps_ret (pe_and (pc Gw hr (pa_cons (pv 0) pa_nil)) (pe_one (pe_cmpR op_eq (pe_callB call_len_seq (by rfl) Kt.len PySem.boot_len (pa_cons (pv 0) pa_nil)) (pe_glob (v := .int 32) rfl c5 ⟨_, rfl⟩) (nomark _))))), ?_⟩
    refine ⟨_, rfl, .ref a, rfl, .inl ⟨a, _, rfl, ha, by rw [List.length_map, hl]; decide, fun y hy => ?_, fun H' s' => ?_⟩⟩
    · obtain ⟨z, _, rfl⟩ := List.mem_map.mp hy
      exact ⟨_, Ty.int K H z⟩
    · have e : (ws.map V.int).all (isW 0 1000000000) = true := by
        rw [List.all_eq_true]
        intro y hy
        obtain ⟨z, hz, rfl⟩ := List.mem_map.mp hy
        have := hw z hz
        simp [isW, this.1, this.2]
      rw [e]
      refine ⟨_, rfl, iteT ?_⟩
      refine ⟨_, rfl, a, _, rfl, .inr (sameT s' ha), rfl, ?_⟩
      rw [List.length_map, hl]
      exact k H' s'
theorem ok_write (D : MthT K C "write" "Disk.write" S_Disk_write) (T : DT K mg C fI ba) (Mc : MCal P w K mg base C 3 "_check_place" ["self", "place"] (spCheck K C)) (Mb : MCal P w K mg base C 1 "_burn" ["self"] (spBurn K C))
    (Gb : Cal P w K mg base 5 "is_block" ["thing"] (spIsBlk K)) : FnOk P w K mg base CX0 6 D.f D.fd ["self", "place", "block"] (spWrite K C) := by
  refine D.F.ok sc_Disk_write (fun vs H Q E h => ?_) (fun cdv A outer s H vs Q E hr h => ?_)
  · obtain ⟨D, pl, y, ws, rfl, _⟩ := h
    rfl
  · obtain ⟨D, pl, y, ws, rfl, DD, p0, p1, hb, hf, hl, k⟩ := h
    have hu := hu_of hr
    refine ⟨_, pss_cons (ps_expr (pm T.cl Mc hr (pv 0) (pa_cons (pv 1) pa_nil)))
      (pss_cons (ps_if (pt_not (pt_val (pc Gb hr (pa_cons (pv 2) pa_nil)))) (pss_one ps_never) pss_nil)
      (pss_cons (ps_expr (pm0 T.cl Mb hr (pv 0)))
      (pss_cons (ps_expr (pe_bm PySem.F.plainAttrs_list PySem.F.slot_list_append PySem.F.type_list_append mt_append (pe_fld (pv 0) rfl) (pa_cons (pe_tup (pa_cons (pv 1) (pa_cons (pv 2) pa_nil))) pa_nil)))
      (pss_one (ps_dput hu (pe_fld (pv 0) rfl) (pv 1) (pv 2) rfl))))), ?_⟩
    obtain ⟨dx0, h10⟩ := DD.ob
    refine ⟨_, rfl, D.p, dx0, _, rfl, h10, rfl, _, rfl, D, pl, rfl, DD, p0, p1, ?_⟩
    refine ⟨_, rfl, y, ws, rfl, hb, fun H1 s1 => ⟨_, rfl, iteF ?_⟩⟩
    have DD1 := DD.same s1
    obtain ⟨dx1, h11⟩ := DD1.ob
    refine ⟨_, rfl, D.p, dx1, _, rfl, h11, rfl, D, rfl, DD1, hf, fun H2 DD2 b2 t2 => ?_⟩
    obtain ⟨ok, ⟨dx, h1⟩, h2, ⟨xs, h3, h3b⟩, h4, ⟨ys, h5, h5b⟩, h6, ⟨kvs, h7, h7b, h7c⟩, h8⟩ := id DD2
    have hb2 : Blk K H2 y ws := (hb.same s1).tup t2
    refine ⟨_, rfl, D.p, C, dx, _, _, rfl, h1, T.cl, T.nW, fl_waiting .., .inl ⟨rfl, _, SqL.of h5⟩, _, rfl, _, rfl, (by show 2 ≤ sizeLine; decide), fun t ht => ?_⟩
    have n1 : D.p ≠ t := ne_of_none h1 ht
    have n2 : D.z ≠ t := ne_of_none h2 ht
    have n3 : D.l ≠ t := ne_of_none h3 ht
    have n4 : D.wl ≠ t := ne_of_none h5 ht
    have n5 : D.nl ≠ t := ne_of_none h7 ht
    have m1 : D.p ≠ D.wl := ne_of h1 h5 (by intro z; cases z)
    have m2 : D.z ≠ D.wl := ne_of h2 h5 (by intro z; cases z)
    have m3 : D.nl ≠ D.wl := ne_of h7 h5 (by intro z; cases z)
    have m4 : D.p ≠ D.nl := ne_of h1 h7 (by intro z; cases z)
    have m5 : D.z ≠ D.nl := ne_of h2 h7 (by intro z; cases z)
    have m6 : D.l ≠ D.nl := ne_of h3 h7 (by intro z; cases z)
    have yl : ys.length = D.wt.length := pairedLen h5b
    refine ⟨D.wl, ys, _, rfl, rfl, by rw [upd_ne n4]; exact h5, small1000 (by omega), ?_⟩
    refine ⟨_, rfl, _, rfl, D.p, C, dx, _, _, rfl, by rw [upd_ne m1, upd_ne n1]; exact h1, T.cl, T.nN, fl_newest .., _, rfl, D.nl, _, rfl, DPut.k (k := Sum.inl pl) (by rw [upd_ne m3, upd_ne n5]; exact h7) (small1000 (by have q : kvs.length ≤ D.wt.length := h7c; omega)), ?_⟩
    have t3 : TupSame H2 (upd H2 t (.tup [V.int pl, y])) := TupSame.of (Same.new ht)
    have t4 : TupSame (upd H2 t (.tup [V.int pl, y])) (upd (upd H2 t (.tup [V.int pl, y])) D.wl (.lst (ys ++ [.ref t]))) := TupSame.put (by rw [upd_ne n4]; exact h5) (fun xs z => by cases z) (fun ob u z => by cases z)
    have t5 : TupSame (upd (upd H2 t (.tup [V.int pl, y])) D.wl (.lst (ys ++ [.ref t]))) (upd (upd (upd H2 t (.tup [V.int pl, y])) D.wl (.lst (ys ++ [.ref t]))) D.nl (.dK (putK kvs (Sum.inl pl) y))) :=
      TupSame.put (by rw [upd_ne m3, upd_ne n5]; exact h7) (fun xs z => by cases z) (fun ob u z => by cases z)
    have tt := (t3.trans t4).trans t5
    have m7 : D.l ≠ D.wl := h8
    refine k _ ?_ ?_ (((TupSame.of s1).trans t2).trans tt)
    · refine ⟨ok, ⟨dx, ?_⟩, ?_, ⟨xs, ?_, h3b.tup tt⟩, h4, ⟨ys ++ [.ref t], ?_, pairedApp ?_ (Paired.mapP h5b fun _ _ q => q.tup tt)⟩, ?_, ⟨_, upd_same, (h7b.tup tt).app (hb2.tup tt), ?_⟩, h8⟩
      · rw [upd_ne m4, upd_ne m1, upd_ne n1]; exact h1
      · rw [upd_ne m5, upd_ne m2, upd_ne n2]; exact h2
      · rw [upd_ne m6, upd_ne m7, upd_ne n3]; exact h3
      · rw [upd_ne m3.symm, upd_same]
      · have tn : t ≠ D.nl := n5.symm
        have tw : t ≠ D.wl := n4.symm
        exact ⟨t, y, rfl, SqT.of (by rw [upd_ne tn, upd_ne tw, upd_same]), hb2.tup tt, p0, p1⟩
      · rw [List.length_append, List.length_singleton]; have q : D.wt.length < 900 := hl; omega
      · have q1 := length_putK kvs (Sum.inl pl) y
        have q2 : kvs.length ≤ D.wt.length := h7c
        rw [List.length_append, List.length_singleton]; omega
    · intro c o e hc
      simp only [List.mem_cons, List.not_mem_nil, or_false, not_or] at hc
      have e2 := b2 c o (s1 c o e) (by simp [hc.1])
      rw [upd_ne hc.2.2, upd_ne hc.2.1, upd_ne (ne_of_none e2 ht)]; exact e2
end
end Tk17

namespace Tk17
open PySem PySem.Spec PyProof.Rows L2 Tk
/-- the blocks that stand behind the writes -/
def forcedS (st : List (List Int)) (wt : List (Int × List Int)) : List (List Int) := wt.foldl (fun st q => st.set q.1.toNat q.2) st
theorem forcedS_len : ∀ (wt : List (Int × List Int)) (st : List (List Int)), (forcedS st wt).length = st.length
  | [], _ => rfl
  | q :: r, st => by
    show (forcedS (st.set q.1.toNat q.2) r).length = st.length
    rw [forcedS_len r, List.length_set]
theorem forcedS_next {wt : List (Int × List Int)} {st : List (List Int)} {i : Nat} {q : Int × List Int} (h : wt[i]? = some q) : forcedS st (wt.take (i + 1)) = (forcedS st (wt.take i)).set q.1.toNat q.2 := by
  unfold forcedS
  rw [List.take_add_one, h, List.foldl_append]
  rfl
theorem pairedSet {α β : Type} {F : α → β → Prop} {x : α} {y : β} (r : F x y) : ∀ {xs : List α} {ys : List β} (i : Nat), Paired F xs ys → Paired F (xs.set i x) (ys.set i y)
  | _, _, _, .nil => .nil
  | _, _, 0, .cons _ t => .cons r t
  | _, _, i + 1, .cons q t => .cons q (pairedSet r i t)
theorem ixN_at {n : Nat} {pl : Int} (h0 : 0 ≤ pl) (h1 : pl < n) : ixN n pl = some pl.toNat := by
  unfold ixN
  rw [if_pos h0, if_pos h1]
def spNone (K : PySem.W.Frag) (C : Addr) : Sp := fun vs H Q _ => ∃ (D : DS), vs = [.ref D.p] ∧ DA K C H D ∧
  ∀ wl' nl' H', H wl' = none → H nl' = none → DA K C H' { D with wl := wl', nl := nl', wt := [] } → But [D.p] H H' → TupSame H H' → Q .non H'
def spForce (K : PySem.W.Frag) (C : Addr) : Sp := fun vs H Q _ => ∃ (D : DS), vs = [.ref D.p] ∧ DA K C H D ∧ fuOk D.fu ∧
  ∀ wl' nl' H', H wl' = none → H nl' = none → DA K C H' { D with wl := wl', nl := nl', wt := [], st := forcedS D.st D.wt, fu := fuDown D.fu } → But [D.p, D.l] H H' → TupSame H H' → Q .non H'
section
variable {P : Program} {w : World} {K : PySem.W.Frag} {mg : Str → Option Value} {base : Heap} {C fI ba : Addr}
theorem ok_wnone (D : MthT K C "_wait_for_none" "Disk._wait_for_none" S_Disk__wait_for_none) (T : DT K mg C fI ba) : FnOk P w K mg base CX0 1 D.f D.fd ["self"] (spNone K C) := by
  refine D.F.ok sc_Disk__wait_for_none (fun vs H Q E h => ?_) (fun cdv A outer s H vs Q E hr h => ?_)
  · obtain ⟨D, rfl, _⟩ := h
    rfl
  · obtain ⟨D, rfl, DD, k⟩ := h
    obtain ⟨ok, ⟨dx, h1⟩, h2, ⟨xs, h3, h3b⟩, h4, ⟨ys, h5, h5b⟩, h6, ⟨kvs, h7, h7b, h7c⟩, h8⟩ := id DD
    refine ⟨_, pss_cons (ps_fld (pv 0) (pe_lst pa_nil) rfl) (pss_one (ps_fld (pv 0) pe_dnewK rfl)), ?_⟩
    refine ⟨(by show 0 ≤ sizeLine; decide), fun wl hw => ?_⟩
    have pw : D.p ≠ wl := ne_of_none h1 hw
    refine ⟨_, rfl, D.p, C, dx, _, rfl, by rw [upd_ne pw]; exact h1, T.cl, T.nW, (by show 5 < 1000; decide), ?_⟩
    intro nl hn
    have pn : D.p ≠ nl := fun e => by rw [← e, upd_same] at hn; cases hn
    have wn : wl ≠ nl := fun e => by rw [← e, upd_ne pw.symm, upd_same] at hn; cases hn
    have hn2 : H nl = none := by rw [upd_ne pn.symm, upd_ne wn.symm] at hn; exact hn
    refine ⟨_, rfl, D.p, C, dx, _, rfl, by rw [upd_ne pn]; exact upd_same, T.cl, T.nN, (by show 5 < 1000; decide), ?_⟩
    have t1 : TupSame H (upd H wl (.lst [])) := TupSame.of (Same.new hw)
    have t2 : TupSame (upd H wl (.lst [])) (upd (upd H wl (.lst [])) D.p (.ins C dx (fl D.z D.l wl D.nl (fuV D.fu)))) := TupSame.put (by rw [upd_ne pw]; exact h1) (fun xs z => by cases z) (fun ob u z => by cases z)
    have t3 := t2.trans (TupSame.of (Same.new (o := .dK []) hn))
    have t4 := t3.trans (TupSame.put (q := D.p) (o := .ins C dx (fl D.z D.l wl D.nl (fuV D.fu))) (o' := .ins C dx (fl D.z D.l wl nl (fuV D.fu))) (by rw [upd_ne pn, upd_same]) (fun xs z => by cases z) (fun ob u z => by cases z))
    have tt := t1.trans t4
    have zp : D.z ≠ D.p := ne_of h2 h1 (by intro z; cases z)
    have lp : D.l ≠ D.p := ne_of h3 h1 (by intro z; cases z)
    have zw : D.z ≠ wl := ne_of_none h2 hw
    have lw : D.l ≠ wl := ne_of_none h3 hw
    have zn : D.z ≠ nl := ne_of_none h2 hn2
    have ln : D.l ≠ nl := ne_of_none h3 hn2
    refine k wl nl _ hw hn2 ⟨ok, ⟨dx, upd_same⟩, ?_, ⟨xs, ?_, h3b.tup tt⟩, h4, ⟨[], ?_, .nil⟩, Nat.zero_le _, ⟨[], ?_, nw_nil, Nat.zero_le _⟩, lw⟩ ?_ tt
    · show upd _ _ _ D.z = _
      rw [upd_ne zp, upd_ne zn, upd_ne zp, upd_ne zw]; exact h2
    · show upd _ _ _ D.l = _
      rw [upd_ne lp, upd_ne ln, upd_ne lp, upd_ne lw]; exact h3
    · show upd _ _ _ wl = _
      rw [upd_ne pw.symm, upd_ne wn, upd_ne pw.symm, upd_same]
    · show upd _ _ _ nl = _
      rw [upd_ne pn.symm, upd_same]
    · intro c o e hc
      have cp : c ≠ D.p := fun z => hc (by simp [z])
      rw [upd_ne cp, upd_ne (ne_of_none e hn2), upd_ne cp, upd_ne (ne_of_none e hw)]; exact e
theorem ok_force (D : MthT K C "force" "Disk.force" S_Disk_force) (T : DT K mg C fI ba) (Mb : MCal P w K mg base C 1 "_burn" ["self"] (spBurn K C)) (Mn : MCal P w K mg base C 1 "_wait_for_none" ["self"] (spNone K C)) :
    FnOk P w K mg base CX0 2 D.f D.fd ["self"] (spForce K C) := by
  refine D.F.ok sc_Disk_force (fun vs H Q E h => ?_) (fun cdv A outer s H vs Q E hr h => ?_)
  · obtain ⟨D, rfl, _⟩ := h
    rfl
  · obtain ⟨D, rfl, DD, hf, k⟩ := h
    have nd := sc_Disk_force.nd
    refine ⟨_, pss_cons (ps_expr (pm0 T.cl Mb hr (pv 0)))
      (pss_cons (ps_for PassesOwn.never rfl (pi_list (pe_fld (pv 0) rfl)) (pg_tup rfl (pgs_cons (pg_name (i := 1) nd rfl (Or.inl rfl)) (pgs_cons (pg_name (i := 2) nd rfl (Or.inl rfl)) pgs_nil)))
        (pss_one (ps_asg (pv 2) (pg_sub (pe_fld (pv 0) rfl) (pv 1) set_list))))
      (pss_one (ps_expr (pm0 T.cl Mn hr (pv 0))))), ?_⟩
    obtain ⟨dx0, h10⟩ := DD.ob
    refine ⟨_, rfl, D.p, dx0, _, rfl, h10, rfl, D, rfl, DD, hf, fun H1 DD1 b1 t1 => ?_⟩
    obtain ⟨ok, ⟨dx, h1⟩, h2, ⟨xs, h3, h3b⟩, h4, ⟨ys, h5, h5b⟩, h6, ⟨kvs, h7, h7b, h7c⟩, h8⟩ := id DD1
    refine ⟨_, rfl, D.p, C, dx, _, _, rfl, h1, T.cl, T.nW, fl_waiting .., D.wl, rfl, ⟨_, SqL.of h5⟩, ?_⟩
    have lw : D.l ≠ D.wl := h8
    have pl0 : D.p ≠ D.l := ne_of h1 h3 (by intro z; cases z)
    have zl0 : D.z ≠ D.l := ne_of h2 h3 (by intro z; cases z)
    have nl0 : D.nl ≠ D.l := ne_of h7 h3 (by intro z; cases z)
    refine for_list (K := K) (a := D.wl) (xs := ys) (fun i σ H2 => ∃ (v1 v2 : Option V) (zs : List V), σ = [some (.ref D.p), v1, v2] ∧ H2 D.l = some (.lst zs) ∧ Blks K H2 zs (forcedS D.st (D.wt.take i)) ∧ But [D.l] H1 H2 ∧ TupSame H1 H2)
      ⟨none, none, xs, rfl, h3, h3b, But.refl, TupSame.refl⟩ (fun i σ H2 _ ⟨_, _, _, _, _, _, b2, _⟩ => SqL.of (b2 _ _ h5 (by simp [lw.symm]))) ?_ ?_
    · rintro i y σ H2 hi ⟨v1, v2, zs, rfl, g1, g2, b2, t2⟩
      have hil : i < D.wt.length := by
        have q := (List.getElem?_eq_some_iff.mp hi).1
        rw [pairedLen h5b] at q
        exact q
      obtain ⟨y', q, e1, e2, hw⟩ := pairedGet h5b hil
      rw [hi] at e1
      cases e1
      obtain ⟨t, yb, rfl, g3, g4, g5, g6⟩ := hw
      have e3 : zs.length = D.st.length := by rw [pairedLen g2, forcedS_len]
      have e4 : (D.st.length : Int) = manyI D.s D.b := h4
      refine ⟨t, _, rfl, tupT t2 g3, rfl, ?_⟩
      have g6' : q.1 < manyI D.s D.b := g6
      have e5 : q.1 < (zs.length : Int) := by rw [e3, e4]; exact g6'
      refine ⟨_, _, rfl, _, _, rfl, rfl, ?_⟩
      refine ⟨_, rfl, _, rfl, D.p, C, dx, _, _, rfl, b2 _ _ h1 (by simp [pl0]), T.cl, T.nT, fl_standing .., _, rfl, D.l, zs, q.1, q.1.toNat, rfl, rfl, g1, ixN_at g5 e5, ?_⟩
      have t3 : TupSame H2 (upd H2 D.l (.lst (zs.set q.1.toNat yb))) := TupSame.put g1 (fun xs z => by cases z) (fun ob u z => by cases z)
      refine ⟨_, _, zs.set q.1.toNat yb, rfl, upd_same, ?_, b2.trans (But.put (by simp)), t2.trans t3⟩
      rw [forcedS_next e2]
      exact pairedSet ((g4.tup t2).tup t3) _ (g2.tup t3)
    · rintro σ H2 ⟨v1, v2, zs, rfl, g1, g2, b2, t2⟩
      rw [pairedLen h5b, List.take_length] at g2
      have h12 := b2 _ _ h1 (by simp [pl0])
      refine ⟨_, rfl, D.p, dx, _, rfl, h12, rfl, { D with st := forcedS D.st D.wt, fu := fuDown D.fu }, rfl, ?_, fun wl' nl' H' n1 n2 D' b3 t3 => ?_⟩
      · exact ⟨ok, ⟨dx, h12⟩, b2 _ _ h2 (by simp [zl0]), ⟨zs, g1, g2⟩, by show (((forcedS D.st D.wt).length : Nat) : Int) = _; rw [forcedS_len]; exact h4,
          ⟨ys, b2 _ _ h5 (by simp [lw.symm]), Paired.mapP h5b fun _ _ q => q.tup t2⟩, h6, ⟨kvs, b2 _ _ h7 (by simp [nl0]), h7b.tup t2, h7c⟩, h8⟩
      · have fr : ∀ {c : Addr}, c ≠ D.p → c ≠ D.l → H2 c = none → H c = none := fun {c} n1 n2 e => by
          cases q : H c with
          | none => rfl
          | some u => rw [b2 c u (b1 c u q (by simp [n1])) (by simp [n2])] at e; cases e
        have l2 : H2 D.l ≠ none := by rw [g1]; exact nofun
        have p2 : H2 D.p ≠ none := by rw [h12]; exact nofun
        refine k wl' nl' H' (fr (fun z => p2 (by rw [← z]; exact n1)) (fun z => l2 (by rw [← z]; exact n1)) n1) (fr (fun z => p2 (by rw [← z]; exact n2)) (fun z => l2 (by rw [← z]; exact n2)) n2) D' ?_ ((t1.trans t2).trans t3)
        intro c o e hc
        simp only [List.mem_cons, List.not_mem_nil, or_false, not_or] at hc
        exact b3 c o (b2 c o (b1 c o e (by simp [hc.1])) (by simp [hc.2])) (by show c ∉ [D.p]; simp [hc.1])
end
end Tk17

namespace Tk17
open PySem PySem.Spec PyProof.Rows L2 Tk
theorem slA_take {K : PySem.W.Frag} {H : Hp} {a : Addr} {xs : List V} {k : Int} {Q : VK} (hx : SqT K H a xs) (hk : 0 ≤ k) (h : ∀ r H', Same H H' → SqT K H' r (xs.take k.toNat) → Q (.ref r) H') : rSlA K (.ref a) none (some k) H Q := by
  obtain ⟨j, rfl⟩ : ∃ j : Nat, k = (j : Int) := ⟨k.toNat, by omega⟩
  rw [Int.toNat_natCast] at h
  refine ⟨a, xs, rfl, hx, fun hw => ?_, fun _ p hp => ?_⟩
  · have e : xs.take j = xs := by
      have q := hw.2
      rw [HT.sIx_nat] at q
      exact List.take_of_length_le (by omega)
    exact h a H (Same.refl H) (by rw [e]; exact hx)
  · refine h p _ (Same.new hp) (SqT.of ?_)
    rw [upd_same]
    show some (HO.tup ((xs.drop 0).take (HT.sIx xs.length xs.length (some ((j : Nat) : Int)) - 0))) = _
    rw [HT.sIx_nat, List.drop_zero, Nat.sub_zero]
    congr 2
    by_cases hj : j ≤ xs.length
    · rw [Nat.min_eq_left hj]
    · rw [Nat.min_eq_right (by omega), List.take_length, List.take_of_length_le (by omega)]
theorem slA_drop {K : PySem.W.Frag} {H : Hp} {a : Addr} {xs : List V} {k : Int} {Q : VK} (hx : SqT K H a xs) (hk : 0 ≤ k) (h : ∀ r H', Same H H' → SqT K H' r (xs.drop k.toNat) → Q (.ref r) H') : rSlA K (.ref a) (some k) none H Q := by
  obtain ⟨j, rfl⟩ : ∃ j : Nat, k = (j : Int) := ⟨k.toNat, by omega⟩
  rw [Int.toNat_natCast] at h
  refine ⟨a, xs, rfl, hx, fun hw => ?_, fun _ p hp => ?_⟩
  · have e : xs.drop j = xs := by
      have q := hw.1
      rw [HT.sIx_nat] at q
      by_cases hj : j = 0
      · rw [hj, List.drop_zero]
      · have : xs.length = 0 := by omega
        rw [List.eq_nil_of_length_eq_zero this]; simp
    exact h a H (Same.refl H) (by rw [e]; exact hx)
  · refine h p _ (Same.new hp) (SqT.of ?_)
    rw [upd_same]
    show some (HO.tup ((xs.drop (HT.sIx xs.length 0 (some ((j : Nat) : Int)))).take (xs.length - HT.sIx xs.length 0 (some ((j : Nat) : Int))))) = _
    rw [HT.sIx_nat]
    congr 2
    by_cases hj : j ≤ xs.length
    · rw [Nat.min_eq_left hj, List.take_of_length_le (by rw [List.length_drop]; omega)]
    · rw [Nat.min_eq_right (by omega), List.drop_of_length_le (Nat.le_refl _), List.drop_of_length_le (by omega)]; simp
theorem catA {K : PySem.W.Frag} {H : Hp} {a b : Addr} {xs ys : List V} {Q : VK} (hx : SqT K H a xs) (hy : SqT K H b ys) (hz : xs.length + ys.length ≤ 1000) (h : ∀ r H', Same H H' → SqT K H' r (xs ++ ys) → Q (.ref r) H') : rCatA K (.ref a) (.ref b) H Q := by
  refine ⟨a, b, xs, ys, rfl, rfl, hx, hy, Nat.le_trans hz (by decide), fun e => ?_, fun _ e => ?_, fun _ _ p hp => ?_⟩
  · exact h b H (Same.refl H) (by rw [e]; exact hy)
  · exact h a H (Same.refl H) (by rw [e, List.append_nil]; exact hx)
  · exact h p _ (Same.new hp) (SqT.of upd_same)
/-- a block torn: so many first words of the new one -/
def torn (new old : List Int) (k : Int) : List Int := new.take k.toNat ++ old.drop k.toNat
def cutTo (st : List (List Int)) (q : (Int × List Int) × Int) : List (List Int) := st.set q.1.1.toNat (torn q.1.2 (st.getD q.1.1.toNat []) q.2)
def cutS (st : List (List Int)) (wt : List (Int × List Int)) (ks : List Int) : List (List Int) := (wt.zip ks).foldl cutTo st
theorem cutF_len : ∀ (l : List ((Int × List Int) × Int)) (st : List (List Int)), (l.foldl cutTo st).length = st.length
  | [], _ => rfl
  | q :: r, st => by
    show (r.foldl cutTo (cutTo st q)).length = st.length
    rw [cutF_len r]
    unfold cutTo
    rw [List.length_set]
theorem cutF_next {l : List ((Int × List Int) × Int)} {st : List (List Int)} {i : Nat} {q : (Int × List Int) × Int} (h : l[i]? = some q) : (l.take (i + 1)).foldl cutTo st = cutTo ((l.take i).foldl cutTo st) q := by
  rw [List.take_add_one, h, List.foldl_append]
  rfl
theorem torn_blk {new old : List Int} {k : Int} (h0 : 0 ≤ k) (h1 : k ≤ 32) (l1 : new.length = 32) (l2 : old.length = 32) (w1 : Wd new) (w2 : Wd old) : (torn new old k).length = 32 ∧ Wd (torn new old k) := by
  unfold torn
  refine ⟨?_, fun z hz => ?_⟩
  · rw [List.length_append, List.length_take, List.length_drop]; omega
  · rcases List.mem_append.mp hz with h | h
    · exact w1 z (List.mem_of_mem_take h)
    · exact w2 z (List.mem_of_mem_drop h)
def spCut (K : PySem.W.Frag) (C : Addr) : Sp := fun vs H Q _ => ∃ (D : DS) (kp : Addr) (ks : List Int), vs = [.ref D.p, .ref kp] ∧ DA K C H D ∧ SqT K H kp (ks.map V.int) ∧ ks.length ≤ 1000 ∧ (∀ k ∈ ks, 0 ≤ k ∧ k ≤ 32) ∧
  ∀ wl' nl' H', H wl' = none → H nl' = none → DA K C H' { D with wl := wl', nl := nl', wt := [], st := cutS D.st D.wt ks, fu := none } → But [D.p, D.l] H H' → TupSame H H' → Q .non H'
def spIsKeep (K : PySem.W.Frag) : Sp := fun vs H Q _ => ∃ (x : V), vs = [x] ∧ rAre K x 0 32 H Q
section
variable {P : Program} {w : World} {K : PySem.W.Frag} {mg : Str → Option Value} {base : Heap} {C fI ba : Addr}
theorem ok_iskeep (D : DefT K mg "is_keep" S_is_keep) (T : DT K mg C fI ba) (Ga : Cal P w K mg base 3 "are_within" ["thing", "least", "most"] (spAre K)) : FnOk P w K mg base CX0 4 D.f D.fd ["thing"] (spIsKeep K) := by
  refine D.F.ok sc_is_keep (fun vs H Q E h => ?_) (fun cdv A outer s H vs Q E hr h => ?_)
  · obtain ⟨x, rfl, _⟩ := h
    rfl
  · obtain ⟨x, rfl, k⟩ := h
    obtain ⟨t5, c5⟩ := T.c5
    refine ⟨_, pss_one (ps_ret (pc Ga hr (pa_cons (pv 0) (pa_cons pe_int (pa_cons (pe_glob (v := .int 32) rfl c5 ⟨_, rfl⟩) pa_nil))))), ?_⟩
    exact ⟨_, rfl, x, 0, 32, rfl, k⟩
theorem ok_cut (D : MthT K C "cut" "Disk.cut" S_Disk_cut) (T : DT K mg C fI ba) (zz : mg "zip" = none) (Ga : Cal P w K mg base 4 "is_keep" ["thing"] (spIsKeep K)) (Mn : MCal P w K mg base C 1 "_wait_for_none" ["self"] (spNone K C)) :
    FnOk P w K mg base CX0 5 D.f D.fd ["self", "keep"] (spCut K C) := by
  refine D.F.ok sc_Disk_cut (fun vs H Q E h => ?_) (fun cdv A outer s H vs Q E hr h => ?_)
  · obtain ⟨D, kp, ks, rfl, _⟩ := h
    rfl
  · obtain ⟨D, kp, ks, rfl, DD, hkp, hkl, hk, k⟩ := h
    have nd := sc_Disk_cut.nd
    obtain ⟨t5, c5⟩ := T.c5
    refine ⟨_, pss_cons (ps_if (pt_not (pt_val (pc Ga hr (pa_cons (pv 1) pa_nil)))) (pss_one ps_never) pss_nil)
      (pss_cons (ps_for PassesOwn.never rfl (pi_zipM (by rfl) zz (pa_cons (pe_fld (pv 0) rfl) (pa_cons (pv 1) pa_nil)))
          (pg_tup rfl (pgs_cons (pg_tup rfl (pgs_cons (pg_name (i := 2) nd rfl (Or.inl rfl)) (pgs_cons (pg_name (i := 3) nd rfl (Or.inl rfl)) pgs_nil))) (pgs_cons (pg_name (i := 4) nd rfl (Or.inl rfl)) pgs_nil)))
        (pss_one (ps_asg (pe_op op_catA (pe_slice sl_tupA (pv 3) po_none (po_some (pv 4))) (pe_slice sl_tupA (pe_ix ix_list (pe_fld (pv 0) rfl) (pv 2) (fun _ _ => rfl)) (po_some (pv 4)) po_none)) (pg_sub (pe_fld (pv 0) rfl) (pv 2) set_list))))
      (pss_cons (ps_expr (pm0 T.cl Mn hr (pv 0)))
      (pss_one (ps_fld (pv 0) pe_non rfl)))), ?_⟩
    have allk : (ks.map V.int).all (isW 0 32) = true := by
      rw [List.all_eq_true]
      intro y hy
      obtain ⟨z, hz, rfl⟩ := List.mem_map.mp hy
      have := hk z hz
      simp [isW, this.1, this.2]
    refine ⟨_, rfl, .ref kp, rfl, .inl ⟨kp, _, rfl, hkp, by rw [List.length_map]; omega, fun y hy => ?_, fun H1 s1 => ?_⟩⟩
    · obtain ⟨z, _, rfl⟩ := List.mem_map.mp hy
      exact ⟨_, Ty.int K H z⟩
    rw [allk]
    refine ⟨_, rfl, iteF ?_⟩
    have DD1 := DD.same s1
    have hkp1 := sameT s1 hkp
    obtain ⟨ok, ⟨dx, h1⟩, h2, ⟨xs, h3, h3b⟩, h4, ⟨ys, h5, h5b⟩, h6, ⟨kvs, h7, h7b, h7c⟩, h8⟩ := id DD1
    refine ⟨_, rfl, D.p, C, dx, _, _, rfl, h1, T.cl, T.nW, fl_waiting .., _, rfl, D.wl, kp, ys, _, rfl, SqL.of h5, hkp1, ?_⟩
    have lw : D.l ≠ D.wl := h8
    have pl0 : D.p ≠ D.l := ne_of h1 h3 (by intro z; cases z)
    have zl0 : D.z ≠ D.l := ne_of h2 h3 (by intro z; cases z)
    have nl0 : D.nl ≠ D.l := ne_of h7 h3 (by intro z; cases z)
    have zlen : (D.wt.zip ks).length = min ys.length (ks.map V.int).length := by rw [List.length_zip, List.length_map, pairedLen h5b]
    refine for_zipM (K := K) (a := D.wl) (b := kp) (xs := ys) (ys := ks.map V.int) (fun i σ H2 => ∃ (v2 v3 v4 : Option V) (zs : List V), σ = [some (.ref D.p), some (.ref kp), v2, v3, v4] ∧ H2 D.l = some (.lst zs) ∧ Blks K H2 zs (((D.wt.zip ks).take i).foldl cutTo D.st) ∧ But [D.l] H1 H2 ∧ TupSame H1 H2)
      ⟨none, none, none, xs, rfl, h3, h3b, But.refl, TupSame.refl⟩ (fun i σ H2 ⟨_, _, _, _, _, _, _, b2, t2⟩ => ⟨SqL.of (b2 _ _ h5 (by simp [lw.symm])), tupT t2 hkp1⟩) ?_ ?_
    · rintro i y kv tp σ H2 hi hki ⟨v2, v3, v4, zs, rfl, g1, g2, b2, t2⟩ htp
      have hil : i < D.wt.length := by
        have q := (List.getElem?_eq_some_iff.mp hi).1
        rw [pairedLen h5b] at q
        exact q
      obtain ⟨y', q, e1, e2, hw⟩ := pairedGet h5b hil
      rw [hi] at e1
      cases e1
      obtain ⟨t, yb, rfl, g3, ⟨ab, rfl, g4, g4l, g4w⟩, g5, g6⟩ := hw
      obtain ⟨kz, hkz, rfl⟩ : ∃ z, ks[i]? = some z ∧ V.int z = kv := by simpa using hki
      have kb := hk kz (List.mem_of_getElem? hkz)
      have ezip : (D.wt.zip ks)[i]? = some (q, kz) := by
        rw [List.getElem?_zip_eq_some]
        exact ⟨e2, hkz⟩
      have e3 : zs.length = D.st.length := by rw [pairedLen g2, cutF_len]
      have e4 : (D.st.length : Int) = manyI D.s D.b := h4
      have g6' : q.1 < manyI D.s D.b := g6
      have e5 : q.1 < (zs.length : Int) := by rw [e3, e4]; exact g6'
      have s3 : Same H2 (upd H2 tp (.tup [V.ref t, V.int kz])) := Same.new htp
      have t3 := t2.trans (TupSame.of s3)
      have g13 := s3 _ _ g1
      have hp3 := s3 _ _ (b2 _ _ h1 (by simp [pl0]))
      have hlt : q.1.toNat < (((D.wt.zip ks).take i).foldl cutTo D.st).length := by rw [cutF_len]; omega
      obtain ⟨yo, wo, f1, f2, ⟨ao, rfl, f3, f3l, f3w⟩⟩ := pairedGet g2 hlt
      refine ⟨tp, _, rfl, SqT.of upd_same, rfl, ?_⟩
      refine ⟨_, _, rfl, t, _, rfl, tupT t3 g3, rfl, _, _, rfl, _, _, rfl, rfl, _, _, rfl, rfl, ?_⟩
      have ab3 := tupT t3 g4
      have ao3 := sameT s3 f3
      clear g3 g4 g6
      -- block[:many]
      refine ⟨_, rfl, _, rfl, kz, rfl, slA_take ab3 kb.1 fun r1 H4 s4 hr1 => ?_⟩
      -- self._standing[place][many:]
      refine ⟨_, rfl, D.p, C, dx, _, _, rfl, s4 _ _ hp3, T.cl, T.nT, fl_standing .., _, rfl, D.l, zs, q.1, .ref ao, rfl, rfl, SqL.of (s4 _ _ g13), at_of (j := q.1.toNat) (by omega) f1, _, rfl, kz, rfl, ?_⟩
      dsimp only [tNoPart]
      refine slA_drop (sameT s4 ao3) kb.1 fun r2 H5 s5 hr2 => ?_
      refine catA (sameT s5 hr1) hr2 (by rw [List.length_take, List.length_drop, List.length_map, List.length_map, g4l, f3l]; omega) fun r3 H6 s6 hr3 => ?_
      have s36 := (s3.trans s4).trans (s5.trans s6)
      have g16 := s36 _ _ g1
      refine ⟨_, rfl, D.p, C, dx, _, _, rfl, s36 _ _ (b2 _ _ h1 (by simp [pl0])), T.cl, T.nT, fl_standing .., _, rfl, D.l, zs, q.1, q.1.toNat, rfl, rfl, g16, ixN_at (by omega) e5, ?_⟩
      have t7 : TupSame H6 (upd H6 D.l (.lst (zs.set q.1.toNat (.ref r3)))) := TupSame.put g16 (fun xs z => by cases z) (fun ob u z => by cases z)
      have tw := torn_blk kb.1 kb.2 g4l f3l g4w f3w
      have bn : Blk K (upd H6 D.l (.lst (zs.set q.1.toNat (.ref r3)))) (.ref r3) (torn q.2 wo kz) := ⟨r3, rfl, tupT t7 (by unfold torn; rw [List.map_append, List.map_take, List.map_drop]; exact hr3), tw.1, tw.2⟩
      refine ⟨_, _, _, zs.set q.1.toNat (.ref r3), rfl, upd_same, ?_, (b2.trans (But.of_same s36)).trans (But.put (by simp)), (t2.trans (TupSame.of s36)).trans t7⟩
      rw [cutF_next ezip]
      have ew : (((D.wt.zip ks).take i).foldl cutTo D.st).getD q.1.toNat [] = wo := by rw [List.getD_eq_getElem?_getD, f2]; rfl
      unfold cutTo
      show Blks K _ _ (((((D.wt.zip ks).take i).foldl cutTo D.st)).set q.1.toNat (torn q.2 ((((D.wt.zip ks).take i).foldl cutTo D.st).getD q.1.toNat []) kz))
      rw [ew]
      exact pairedSet bn _ ((g2.tup (TupSame.of s36)).tup t7)
    · rintro σ H2 ⟨v2, v3, v4, zs, rfl, g1, g2, b2, t2⟩
      rw [← zlen, List.take_length] at g2
      have h12 := b2 _ _ h1 (by simp [pl0])
      refine ⟨_, rfl, D.p, dx, _, rfl, h12, rfl, { D with st := cutS D.st D.wt ks }, rfl, ?_, fun wl' nl' H' n1 n2 D' b3 t3 => ?_⟩
      · exact ⟨ok, ⟨dx, h12⟩, b2 _ _ h2 (by simp [zl0]), ⟨zs, g1, g2⟩, by show (((cutS D.st D.wt ks).length : Nat) : Int) = _; unfold cutS; rw [cutF_len]; exact h4,
          ⟨ys, b2 _ _ h5 (by simp [lw.symm]), Paired.mapP h5b fun _ _ q => q.tup t2⟩, h6, ⟨kvs, b2 _ _ h7 (by simp [nl0]), h7b.tup t2, h7c⟩, h8⟩
      · obtain ⟨ok', ⟨dx', q1⟩, q2, ⟨xs', q3, q3b⟩, q4, ⟨ys', q5, q5b⟩, q6, ⟨kvs', q7, q7b, q7c⟩, q8⟩ := id D'
        have fr : ∀ {c : Addr}, c ≠ D.p → c ≠ D.l → H2 c = none → H c = none := fun {c} n1 n2 e => by
          cases q : H c with
          | none => rfl
          | some u => rw [b2 c u (s1 c u q) (by simp [n2])] at e; cases e
        have l2 : H2 D.l ≠ none := by rw [g1]; exact nofun
        have p2 : H2 D.p ≠ none := by rw [h12]; exact nofun
        refine ⟨_, rfl, D.p, C, dx', _, rfl, q1, T.cl, T.nF, (by show 5 < 1000; decide), ?_⟩
        have t4 : TupSame H' (upd H' D.p (.ins C dx' (fl D.z D.l wl' nl' .non))) := TupSame.put q1 (fun xs z => by cases z) (fun ob u z => by cases z)
        refine k wl' nl' _ (fr (fun z => p2 (by rw [← z]; exact n1)) (fun z => l2 (by rw [← z]; exact n1)) n1) (fr (fun z => p2 (by rw [← z]; exact n2)) (fun z => l2 (by rw [← z]; exact n2)) n2) ?_ ?_ ((((TupSame.of s1).trans t2).trans t3).trans t4)
        · refine ⟨ok', ⟨dx', upd_same⟩, ?_, ⟨xs', ?_, q3b.tup t4⟩, q4, ⟨ys', ?_, Paired.mapP q5b fun _ _ q => q.tup t4⟩, q6, ⟨kvs', ?_, q7b.tup t4, q7c⟩, q8⟩
          · show upd _ _ _ D.z = _
            rw [upd_ne (ne_of q2 q1 (by intro z; cases z))]; exact q2
          · show upd _ _ _ D.l = _
            rw [upd_ne (ne_of q3 q1 (by intro z; cases z))]; exact q3
          · show upd _ _ _ wl' = _
            rw [upd_ne (ne_of q5 q1 (by intro z; cases z))]; exact q5
          · show upd _ _ _ nl' = _
            rw [upd_ne (ne_of q7 q1 (by intro z; cases z))]; exact q7
        · intro c o e hc
          simp only [List.mem_cons, List.not_mem_nil, or_false, not_or] at hc
          have cp : c ≠ D.p := hc.1
          rw [upd_ne cp]
          exact b3 c o (b2 c o (s1 c o e) (by simp [hc.2])) (by show c ∉ [D.p]; simp [hc.1])
end
end Tk17

namespace Tk17
open PySem PySem.Spec PyProof.Rows L2 Tk
/-! ### the law's own blocks: a dict with the sizes, what stands, what waits, the fuse -/
def kSizes : Key := Sum.inr ("sizes" : Str)
def kStand : Key := Sum.inr ("stand" : Str)
def kWait : Key := Sum.inr ("wait" : Str)
def kFuse : Key := Sum.inr ("fuse" : Str)
def itK (z sl wl : Addr) (fu : V) : List (Key × V) := [(kSizes, .ref z), (kStand, .ref sl), (kWait, .ref wl), (kFuse, fu)]
structure IS where
  it : Addr
  z : Addr
  sl : Addr
  wl : Addr
  s : Int
  b : Int
  st : List (List Int)
  wt : List (Int × List Int)
  fu : Option Int
structure IA (K : PySem.W.Frag) (H : Hp) (I : IS) : Prop where
  ok : SizeOk I.s I.b
  ob : H I.it = some (.dK (itK I.z I.sl I.wl (fuV I.fu)))
  sz : SqT K H I.z (sizeV I.s I.b)
  fst : ∃ xs, H I.sl = some (.lst xs) ∧ Blks K H xs I.st
  len : (I.st.length : Int) = manyI I.s I.b
  fwt : ∃ ys, H I.wl = some (.lst ys) ∧ Paired (Wt K H (manyI I.s I.b)) ys I.wt
  wlen : I.wt.length ≤ 1000
  lw : I.sl ≠ I.wl
section
variable {K : PySem.W.Frag} {H : Hp} {I : IS} {z sl wl : Addr} {fu fu' : V} {it wl' : Addr}
theorem dgS (h : H it = some (.dK (itK z sl wl fu))) : DGet H it (.str "sizes") (some (.ref z)) := DGet.k (k := kSizes) h
theorem dgT (h : H it = some (.dK (itK z sl wl fu))) : DGet H it (.str "stand") (some (.ref sl)) := DGet.k (k := kStand) h
theorem dgW (h : H it = some (.dK (itK z sl wl fu))) : DGet H it (.str "wait") (some (.ref wl)) := DGet.k (k := kWait) h
theorem dgF (h : H it = some (.dK (itK z sl wl fu))) : DGet H it (.str "fuse") (some fu) := DGet.k (k := kFuse) h
theorem dpW (h : H it = some (.dK (itK z sl wl fu))) : DPut H it (.str "wait") (.ref wl') (upd H it (.dK (itK z sl wl' fu))) := DPut.k (k := kWait) (v := V.ref wl') h (small1000 (by show 4 ≤ 1000; decide))
theorem dpF (h : H it = some (.dK (itK z sl wl fu))) : DPut H it (.str "fuse") fu' (upd H it (.dK (itK z sl wl fu'))) := DPut.k (k := kFuse) (v := fu') h (small1000 (by show 4 ≤ 1000; decide))
end
theorem IA.same {K : PySem.W.Frag} {H H' : Hp} {I : IS} (e : Same H H') (A : IA K H I) : IA K H' I := by
  obtain ⟨ok, h1, h2, ⟨xs, h3, h4⟩, h5, ⟨ys, h6, h7⟩, h8, h9⟩ := A
  have t := TupSame.of e
  exact ⟨ok, e _ _ h1, sameT e h2, ⟨xs, e _ _ h3, h4.tup t⟩, h5, ⟨ys, e _ _ h6, Paired.mapP h7 fun _ _ q => q.tup t⟩, h8, h9⟩
theorem IA.but {K : PySem.W.Frag} {l : List Addr} {H H' : Hp} {I : IS} (A : IA K H I) (b : But l H H') (t : TupSame H H') (n : ∀ x ∈ l, x ∉ [I.it, I.sl, I.wl]) : IA K H' I := by
  obtain ⟨ok, h1, h2, ⟨xs, h3, h4⟩, h5, ⟨ys, h6, h7⟩, h8, h9⟩ := A
  exact ⟨ok, b _ _ h1 fun z => n _ z (by simp), tupT t h2, ⟨xs, b _ _ h3 fun z => n _ z (by simp), h4.tup t⟩, h5, ⟨ys, b _ _ h6 fun z => n _ z (by simp), Paired.mapP h7 fun _ _ q => q.tup t⟩, h8, h9⟩
def spBlank (K : PySem.W.Frag) : Sp := fun vs H Q _ => ∃ (z : Addr) (s b : Int), vs = [.ref z] ∧ SqT K H z (sizeV s b) ∧ SizeOk s b ∧
  ∀ it sl wl H', H it = none → H sl = none → H wl = none → IA K H' ⟨it, z, sl, wl, s, b, blankS s b, [], none⟩ → Same H H' → Q (.ref it) H'
def spForced (K : PySem.W.Frag) : Sp := fun vs H Q _ => ∃ (I : IS), vs = [.ref I.it] ∧ IA K H I ∧
  ∀ wl' H', H wl' = none → IA K H' { I with wl := wl', wt := [], st := forcedS I.st I.wt } → But [I.it, I.sl] H H' → TupSame H H' → Q .non H'
def spFell (K : PySem.W.Frag) : Sp := fun vs H Q _ => ∃ (I : IS) (kp : Addr) (ks : List Int), vs = [.ref I.it, .ref kp] ∧ IA K H I ∧ SqT K H kp (ks.map V.int) ∧ ks.length ≤ 1000 ∧ (∀ k ∈ ks, 0 ≤ k ∧ k ≤ 32) ∧
  ∀ wl' H', H wl' = none → IA K H' { I with wl := wl', wt := [], st := cutS I.st I.wt ks, fu := none } → But [I.it, I.sl] H H' → TupSame H H' → Q .non H'
def spKeep (K : PySem.W.Frag) : Sp := fun vs H Q _ => ∃ (d c : Addr) (m : Int), vs = [.ref d, .int m] ∧ DeckAt H d c ∧ 0 ≤ m ∧ m ≤ 900 ∧
  ∀ (p : Addr) (ks : List Int) (H' : Hp), H' p = some (.tup (ks.map V.int)) → ks.length ≤ 1000 → (∀ k ∈ ks, 0 ≤ k ∧ k ≤ 32) → DeckAt H' d c → But [d, c] H H' → Q (.ref p) H'
def spDrawn : Sp := fun vs H Q _ => ∃ (d c : Addr), vs = [.ref d] ∧ DeckAt H d c ∧ ∀ (p : Addr) (s b : Int) (H' : Hp), H' p = some (.tup (sizeV s b)) → SizeOk s b → DeckAt H' d c → But [d, c] H H' → Q (.ref p) H'
section
variable {P : Program} {w : World} {K : PySem.W.Frag} {mg : Str → Option Value} {base : Heap}
theorem ok_blank (D : DefT K mg "_law_blank" S__law_blank) (Gm : Cal P w K mg base 1 "_law_many" ["sizes"] (spMany K)) : FnOk P w K mg base CX0 2 D.f D.fd ["sizes"] (spBlank K) := by
  refine D.F.ok sc__law_blank (fun vs H Q E h => ?_) (fun cdv A outer s0 H vs Q E hr h => ?_)
  · obtain ⟨z, s, b, rfl, _⟩ := h
    rfl
  · obtain ⟨z, s, b, rfl, hz, ok, k⟩ := h
    refine ⟨_, pss_one (ps_ret (pe_disp (pps_cons pe_str (pv 0) (pps_cons pe_str (pe_op op_rep (pe_lst (pa_cons (pe_op op_repT (pe_tup (pa_cons pe_int pa_nil)) pe_int) pa_nil)) (pc Gm hr (pa_cons (pv 0) pa_nil))) (pps_cons pe_str (pe_lst pa_nil) (pps_cons pe_str pe_non pps_nil)))) (by rfl) (by rfl) (fun z => by cases z) (by decide))), ?_⟩
    have mn := ok.many
    intro d hd
    have s1 := Same.new (o := .dK []) hd
    have d1 : (upd H d (.dK [])) d = some (.dK []) := upd_same
    have hz1 := sameT s1 hz
    generalize upd H d (.dK []) = H1 at s1 d1 hz1 ⊢
    refine ⟨_, rfl, (by show 1 ≤ sizeLine; decide), fun t1 ht1 => ⟨t1, 32, _, rfl, rfl, SqT.of upd_same, by simp, by decide, by decide, by show 1 ≤ 1000; decide, fun t2 ht2 => ?_⟩⟩
    have s2 := (Same.new (o := .tup [V.int 0]) ht1).trans (Same.new (o := .tup (List.replicate (Int.toNat 32) [V.int 0]).flatten) ht2)
    have b2 : Blk K (upd (upd H1 t1 (.tup [V.int 0])) t2 (.tup (List.replicate (Int.toNat 32) [V.int 0]).flatten)) (.ref t2) (List.replicate 32 0) := ⟨t2, rfl, SqT.of (by rw [upd_same, ← rep1]; rfl), by simp, Wd.rep (by decide) (by decide) 32⟩
    show _
    generalize upd (upd H1 t1 (.tup [V.int 0])) t2 (.tup (List.replicate (Int.toNat 32) [V.int 0]).flatten) = H2 at s2 b2 ⊢
    refine ⟨(by show 1 ≤ sizeLine; decide), fun l1 hl1 => ?_⟩
    have s3 := Same.new (o := .lst [V.ref t2]) hl1
    refine ⟨_, rfl, z, s, b, rfl, sameT (s2.trans s3) hz1, ok, l1, _, [V.ref t2], rfl, rfl, upd_same, by omega, by omega, ?_, fun sl hsl => ?_⟩
    · show 1 * (manyI s b).toNat ≤ sizeLine
      exact Nat.le_trans (show 1 * (manyI s b).toNat ≤ 1020 by omega) (by decide)
    rw [flat_one]
    have s4 := Same.new (o := .lst (List.replicate (manyI s b).toNat (V.ref t2))) hsl
    refine ⟨(by show 0 ≤ sizeLine; decide), fun wl hwl => ?_⟩
    have s5 := Same.new (o := .lst []) hwl
    have sAll := (s2.trans s3).trans (s4.trans s5)
    have dn := sAll _ _ d1
    refine ⟨dn, itK z sl wl .non, rfl, by show 4 ≤ 15; decide, ?_⟩
    have slf : (upd (upd (upd H2 l1 (.lst [V.ref t2])) sl (.lst (List.replicate (manyI s b).toNat (V.ref t2)))) wl (.lst [])) sl = some (.lst (List.replicate (manyI s b).toNat (V.ref t2))) := s5 _ _ upd_same
    have wlf : (upd (upd (upd H2 l1 (.lst [V.ref t2])) sl (.lst (List.replicate (manyI s b).toNat (V.ref t2)))) wl (.lst [])) wl = some (.lst []) := upd_same
    have nsd : sl ≠ d := ne_of slf dn (by intro e; cases e)
    have nwd : wl ≠ d := ne_of wlf dn (by intro e; cases e)
    have swl : sl ≠ wl := fun e => by rw [← e, upd_same] at hwl; cases hwl
    have fr1 : ∀ {c : Addr}, H1 c = none → H c = none := fun n => s1.free n
    have nsl : H1 sl = none := (s2.trans s3).free hsl
    have nwl : H1 wl = none := ((s2.trans s3).trans s4).free hwl
    have b5 := b2.same ((s3.trans s4).trans s5)
    have hz5 := sameT sAll hz1
    generalize upd (upd (upd H2 l1 (.lst [V.ref t2])) sl (.lst (List.replicate (manyI s b).toNat (V.ref t2)))) wl (.lst []) = H5 at slf wlf sAll dn b5 hz5 ⊢
    have tp : TupSame H5 (upd H5 d (.dK (itK z sl wl .non))) := TupSame.put dn (fun xs e => by cases e) (fun o u e => by cases e)
    refine k d sl wl _ hd (fr1 nsl) (fr1 nwl) ⟨ok, upd_same, tupT tp hz5, ⟨_, by show upd _ _ _ sl = _; rw [upd_ne nsd]; exact slf, blks_rep (b5.tup tp) _⟩, ?_, ⟨[], by show upd _ _ _ wl = _; rw [upd_ne nwd]; exact wlf, .nil⟩, Nat.zero_le _, swl⟩ ?_
    · have q : (((blankS s b).length : Nat) : Int) = manyI s b := by
        have z : ((manyI s b).toNat : Int) = manyI s b := by omega
        unfold blankS
        rw [List.length_replicate]
        exact z
      exact q
    · intro c o e
      rw [upd_ne (ne_of_none e hd)]
      exact sAll _ _ (s1 _ _ e)
theorem ok_forced (D : DefT K mg "_law_forced" S__law_forced) : FnOk P w K mg base CX0 1 D.f D.fd ["it"] (spForced K) := by
  refine D.F.ok sc__law_forced (fun vs H Q E h => ?_) (fun cdv A outer s0 H vs Q E hr h => ?_)
  · obtain ⟨I, rfl, _⟩ := h
    rfl
  · obtain ⟨I, rfl, IH, k⟩ := h
    have hu := hu_of hr
    have nd := sc__law_forced.nd
    obtain ⟨ok, h1, h2, ⟨xs, h3, h3b⟩, h4, ⟨ys, h5, h5b⟩, h6, h8⟩ := id IH
    refine ⟨_, pss_cons (ps_set (i := 1) nd rfl (Or.inl rfl) (pe_dget hu (pv 0) pe_str (fun _ _ => rfl)))
      (pss_cons (ps_for PassesOwn.never rfl (pi_list (pe_dget hu (pv 0) pe_str (fun _ _ => rfl))) (pg_tup rfl (pgs_cons (pg_name (i := 2) nd rfl (Or.inl rfl)) (pgs_cons (pg_name (i := 3) nd rfl (Or.inl rfl)) pgs_nil)))
        (pss_one (ps_asg (pv 3) (pg_sub (pv 1) (pv 2) set_list))))
      (pss_one (ps_dput hu (pv 0) pe_str (pe_lst pa_nil) rfl))), ?_⟩
    have is0 : I.it ≠ I.sl := ne_of h1 h3 (by intro e; cases e)
    have iw0 : I.it ≠ I.wl := ne_of h1 h5 (by intro e; cases e)
    refine ⟨_, rfl, _, _, rfl, dgT h1, ?_⟩
    refine ⟨_, rfl, _, _, rfl, dgW h1, I.wl, rfl, ⟨_, SqL.of h5⟩, ?_⟩
    refine for_list (K := K) (a := I.wl) (xs := ys) (fun i σ H2 => ∃ (v1 v2 : Option V) (zs : List V), σ = [some (.ref I.it), some (.ref I.sl), v1, v2] ∧ H2 I.sl = some (.lst zs) ∧ Blks K H2 zs (forcedS I.st (I.wt.take i)) ∧ But [I.sl] H H2 ∧ TupSame H H2)
      ⟨none, none, xs, rfl, h3, h3b, But.refl, TupSame.refl⟩ (fun i σ H2 _ ⟨_, _, _, _, _, _, b2, _⟩ => SqL.of (b2 _ _ h5 (by simp [h8.symm]))) ?_ ?_
    · rintro i y σ H2 hi ⟨v1, v2, zs, rfl, g1, g2, b2, t2⟩
      have hil : i < I.wt.length := by
        have q := (List.getElem?_eq_some_iff.mp hi).1
        rw [pairedLen h5b] at q
        exact q
      obtain ⟨y', q, e1, e2, hw⟩ := pairedGet h5b hil
      rw [hi] at e1
      cases e1
      obtain ⟨t, yb, rfl, g3, g4, g5, g6⟩ := hw
      have e3 : zs.length = I.st.length := by rw [pairedLen g2, forcedS_len]
      have e5 : q.1 < (zs.length : Int) := by rw [e3, h4]; exact g6
      refine ⟨t, _, rfl, tupT t2 g3, rfl, _, _, rfl, _, _, rfl, rfl, ?_⟩
      refine ⟨_, rfl, _, rfl, _, rfl, I.sl, zs, q.1, q.1.toNat, rfl, rfl, g1, ixN_at g5 e5, ?_⟩
      have t3 : TupSame H2 (upd H2 I.sl (.lst (zs.set q.1.toNat yb))) := TupSame.put g1 (fun xs z => by cases z) (fun ob u z => by cases z)
      refine ⟨_, _, zs.set q.1.toNat yb, rfl, upd_same, ?_, b2.trans (But.put (by simp)), t2.trans t3⟩
      rw [forcedS_next e2]
      exact pairedSet ((g4.tup t2).tup t3) _ (g2.tup t3)
    · rintro σ H2 ⟨v1, v2, zs, rfl, g1, g2, b2, t2⟩
      rw [pairedLen h5b, List.take_length] at g2
      have hi2 := b2 _ _ h1 (by simp [is0])
      refine ⟨(by show 0 ≤ sizeLine; decide), fun wl hw => ?_⟩
      have nsw : I.sl ≠ wl := ne_of_none g1 hw
      have niw : I.it ≠ wl := ne_of_none hi2 hw
      refine ⟨_, rfl, I.it, _, rfl, dpW (by rw [upd_ne niw]; exact hi2), ?_⟩
      have t3 := (TupSame.of (Same.new (o := .lst []) hw)).trans (TupSame.put (q := I.it) (o' := .dK (itK I.z I.sl wl (fuV I.fu))) (show (upd H2 wl (.lst [])) I.it = some (.dK (itK I.z I.sl I.wl (fuV I.fu))) by rw [upd_ne niw]; exact hi2) (fun xs z => by cases z) (fun ob u z => by cases z))
      have wH : H wl = none := by
        cases q : H wl with
        | none => rfl
        | some u => rw [b2 wl u q (by simp [nsw.symm])] at hw; cases hw
      refine k wl _ wH ⟨ok, upd_same, tupT (t2.trans t3) h2, ⟨zs, ?_, g2.tup t3⟩, by show (((forcedS I.st I.wt).length : Nat) : Int) = _; rw [forcedS_len]; exact h4, ⟨[], ?_, .nil⟩, Nat.zero_le _, nsw⟩ ?_ (t2.trans t3)
      · show upd _ _ _ I.sl = _
        rw [upd_ne is0.symm, upd_ne nsw]; exact g1
      · show upd _ _ _ wl = _
        rw [upd_ne niw.symm, upd_same]
      · intro c o e hc
        simp only [List.mem_cons, List.not_mem_nil, or_false, not_or] at hc
        rw [upd_ne hc.1, upd_ne (ne_of_none (b2 c o e (by simp [hc.2])) hw)]
        exact b2 c o e (by simp [hc.2])
end
end Tk17

namespace Tk17
open PySem PySem.Spec PyProof.Rows L2 Tk
theorem for_enum {K : PySem.W.Frag} {a : Addr} {xs : List V} {g : TG} {tb : TS} {D : Ends} {σ : L2.St} {H : Hp} (Pv : Nat → L2.St → Hp → Prop) (h0 : Pv 0 σ H) (hq : ∀ i σ H, Pv i σ H → SqL K H a xs)
    (hs : ∀ (i : Nat) (x : V) (T : Addr) (σ : L2.St) (H : Hp), xs[i]? = some x → Pv i σ H → H T = none → g (.ref T) σ (upd H T (.tup [.int (i : Nat), x])) fun σ2 H2 => tb { D with nx := Pv (i + 1), ct := Pv (i + 1), bk := D.nx } σ2 H2)
    (hd : ∀ σ H, Pv xs.length σ H → D.nx σ H) :
    ∃ W : Nat → Nat → L2.St → Hp → Prop, (∃ m, W 0 m σ H) ∧ ∀ i m σ H, W i m σ H →
      ((Ite K a).stop i H ∧ D.nx σ H) ∨ ((Ite K a).go i H ∧ ∃ N : L2.St → Hp → Prop, (∀ σ' H', N σ' H' → ∃ m', m' < m ∧ W (i + 1) m' σ' H') ∧ ∀ v H', (Ite K a).yld i H v H' → g v σ H' fun σ2 H2 => tb { D with nx := N, ct := N, bk := D.nx } σ2 H2) := by
  refine ⟨fun i m σ H => m = xs.length - i ∧ i ≤ xs.length ∧ Pv i σ H, ⟨_, rfl, Nat.zero_le _, h0⟩, ?_⟩
  rintro i m σ H ⟨rfl, hi, pp⟩
  have qx := hq i σ H pp
  by_cases hlt : i < xs.length
  · refine .inr ⟨⟨xs, _, qx, List.getElem?_eq_getElem hlt⟩, Pv (i + 1), fun σ' H' p' => ⟨_, by omega, rfl, by omega, p'⟩, ?_⟩
    rintro v H' ⟨T, x, rfl, hT, rfl, f1⟩
    exact hs i x T σ H (f1 _ qx) pp hT
  · have e : i = xs.length := by omega
    refine .inl ⟨⟨xs, qx, by omega⟩, hd σ H ?_⟩
    rw [← e]; exact pp
theorem set_getD {α : Type} (l : List α) (j : Nat) (d : α) : l.set j (l.getD j d) = l := by
  by_cases h : j < l.length
  · rw [List.getD_eq_getElem?_getD, List.getElem?_eq_getElem h]
    exact List.set_getElem_self h
  · exact List.set_eq_of_length_le (by omega)
section
variable {P : Program} {w : World} {K : PySem.W.Frag} {mg : Str → Option Value} {base : Heap}
theorem ok_fell (D : DefT K mg "_law_fell" S__law_fell) (hlen : mg "len" = none) (hen : mg "enumerate" = none) : FnOk P w K mg base CX0 1 D.f D.fd ["it", "keep"] (spFell K) := by
  refine D.F.ok sc__law_fell (fun vs H Q E h => ?_) (fun cdv A outer s0 H vs Q E hr h => ?_)
  · obtain ⟨I, kp, ks, rfl, _⟩ := h
    rfl
  · obtain ⟨I, kp, ks, rfl, IH, hkp, hkl, hk, k⟩ := h
    have hu := hu_of hr
    have nd := sc__law_fell.nd
    obtain ⟨ok, h1, h2, ⟨xs, h3, h3b⟩, h4, ⟨ys, h5, h5b⟩, h6, h8⟩ := id IH
    refine ⟨_, pss_cons (ps_set (i := 2) nd rfl (Or.inl rfl) (pe_dget hu (pv 0) pe_str (fun _ _ => rfl)))
      (pss_cons (ps_for PassesOwn.never rfl (pi_enum (by rfl) hen (pa_cons (pe_dget hu (pv 0) pe_str (fun _ _ => rfl)) pa_nil))
          (pg_tup rfl (pgs_cons (pg_name (i := 3) nd rfl (Or.inl rfl)) (pgs_cons (pg_tup rfl (pgs_cons (pg_name (i := 4) nd rfl (Or.inl rfl)) (pgs_cons (pg_name (i := 5) nd rfl (Or.inl rfl)) pgs_nil))) pgs_nil)))
        (pss_cons (ps_set (i := 6) nd rfl (Or.inl rfl) (pe_ifExp (pt_cmpR op_lt (pv 3) (pe_callB call_len_seq (by rfl) hlen PySem.boot_len (pa_cons (pv 1) pa_nil)) (nomark _)) (pe_ix ix_tup (pv 1) (pv 3) (fun _ _ => rfl)) pe_int))
        (pss_one (ps_asg (pe_op op_catA (pe_slice sl_tupA (pv 5) po_none (po_some (pv 6))) (pe_slice sl_tupA (pe_ix ix_list (pv 2) (pv 4) (fun _ _ => rfl)) (po_some (pv 6)) po_none)) (pg_sub (pv 2) (pv 4) set_list)))))
      (pss_cons (ps_dput hu (pv 0) pe_str (pe_lst pa_nil) rfl)
      (pss_one (ps_dput hu (pv 0) pe_str pe_non rfl)))), ?_⟩
    have is0 : I.it ≠ I.sl := ne_of h1 h3 (by intro e; cases e)
    have iw0 : I.it ≠ I.wl := ne_of h1 h5 (by intro e; cases e)
    refine ⟨_, rfl, _, _, rfl, dgT h1, ?_⟩
    refine ⟨_, rfl, _, _, rfl, dgW h1, I.wl, ys, rfl, SqL.of h5, ?_⟩
    refine for_enum (K := K) (a := I.wl) (xs := ys) (fun i σ H2 => ∃ (v3 v4 v5 v6 : Option V) (zs : List V), σ = [some (.ref I.it), some (.ref kp), some (.ref I.sl), v3, v4, v5, v6] ∧ H2 I.sl = some (.lst zs) ∧ Blks K H2 zs (((I.wt.zip ks).take i).foldl cutTo I.st) ∧ But [I.sl] H H2 ∧ TupSame H H2)
      ⟨none, none, none, none, xs, rfl, h3, h3b, But.refl, TupSame.refl⟩ (fun i σ H2 ⟨_, _, _, _, _, _, _, _, b2, _⟩ => SqL.of (b2 _ _ h5 (by simp [h8.symm]))) ?_ ?_
    · rintro i y tp σ H2 hi ⟨v3, v4, v5, v6, zs, rfl, g1, g2, b2, t2⟩ htp
      have hil : i < I.wt.length := by
        have q := (List.getElem?_eq_some_iff.mp hi).1
        rw [pairedLen h5b] at q
        exact q
      obtain ⟨y', q, e1, e2, hw⟩ := pairedGet h5b hil
      rw [hi] at e1
      cases e1
      obtain ⟨t, yb, rfl, g3, ⟨ab, rfl, g4, g4l, g4w⟩, g5, g6⟩ := hw
      have e3 : zs.length = I.st.length := by rw [pairedLen g2, cutF_len]
      have g6' : q.1 < manyI I.s I.b := g6
      have e4 : (I.st.length : Int) = manyI I.s I.b := h4
      have e5 : q.1 < (zs.length : Int) := by rw [e3, e4]; exact g6'
      have s3 : Same H2 (upd H2 tp (.tup [V.int ((i : Nat) : Int), V.ref t])) := Same.new htp
      have t3 := t2.trans (TupSame.of s3)
      have g13 := s3 _ _ g1
      have hkp3 := tupT t3 hkp
      have hlt : q.1.toNat < (((I.wt.zip ks).take i).foldl cutTo I.st).length := by rw [cutF_len]; omega
      obtain ⟨yo, wo, f1, f2, ⟨ao, rfl, f3, f3l, f3w⟩⟩ := pairedGet g2 hlt
      have ew : (((I.wt.zip ks).take i).foldl cutTo I.st).getD q.1.toNat [] = wo := by rw [List.getD_eq_getElem?_getD, f2]; rfl
      have ab3 := tupT t3 g4
      have ao3 := sameT s3 f3
      have tb3 := tupT t3 g3
      clear g3 g4 g6
      refine ⟨tp, _, rfl, SqT.of upd_same, rfl, ?_⟩
      refine ⟨_, _, rfl, _, _, rfl, t, _, rfl, tb3, rfl, _, _, rfl, _, _, rfl, rfl, rfl, ?_⟩
      refine ⟨_, rfl, _, rfl, kp, _, rfl, .inr hkp3, _, _, rfl, rfl, _, rfl, ?_⟩
      refine ite2 (fun hlt => ?_) (fun hlt => ?_)
      · have hlt' : i < ks.length := by
          have z : ((i : Nat) : Int) < (((ks.map V.int).length : Nat) : Int) := of_decide_eq_true hlt
          rw [List.length_map] at z
          omega
        have hkz : ks[i]? = some ks[i] := List.getElem?_eq_getElem hlt'
        have kb := hk _ (List.mem_of_getElem? hkz)
        have ezip : (I.wt.zip ks)[i]? = some (q, ks[i]) := by
          rw [List.getElem?_zip_eq_some]
          exact ⟨e2, hkz⟩
        have nx : ((I.wt.zip ks).take (i + 1)).foldl cutTo I.st = (((I.wt.zip ks).take i).foldl cutTo I.st).set q.1.toNat (torn q.2 wo ks[i]) := by
          rw [cutF_next ezip, ← ew]; rfl
        refine ⟨_, rfl, _, rfl, kp, _, _, V.int ks[i], rfl, rfl, hkp3, at_of (j := i) rfl (by rw [List.getElem?_map, hkz]; rfl), ?_⟩
        generalize ks[i] = kz at kb nx
        refine ⟨_, rfl, _, rfl, kz, rfl, slA_take ab3 kb.1 fun r1 H4 s4 hr1 => ?_⟩
        refine ⟨_, rfl, _, rfl, I.sl, zs, q.1, .ref ao, rfl, rfl, SqL.of (s4 _ _ g13), at_of (j := q.1.toNat) (by omega) f1, _, rfl, kz, rfl, ?_⟩
        dsimp only [tNoPart]
        refine slA_drop (sameT s4 ao3) kb.1 fun r2 H5 s5 hr2 => ?_
        refine catA (sameT s5 hr1) hr2 (by rw [List.length_take, List.length_drop, List.length_map, List.length_map, g4l, f3l]; omega) fun r3 H6 s6 hr3 => ?_
        have s36 := (s3.trans s4).trans (s5.trans s6)
        have g16 := s36 _ _ g1
        refine ⟨_, rfl, _, rfl, I.sl, zs, q.1, q.1.toNat, rfl, rfl, g16, ixN_at (by omega) e5, ?_⟩
        have t7 : TupSame H6 (upd H6 I.sl (.lst (zs.set q.1.toNat (.ref r3)))) := TupSame.put g16 (fun xs z => by cases z) (fun ob u z => by cases z)
        have tw := torn_blk kb.1 kb.2 g4l f3l g4w f3w
        have bn : Blk K (upd H6 I.sl (.lst (zs.set q.1.toNat (.ref r3)))) (.ref r3) (torn q.2 wo kz) := ⟨r3, rfl, tupT t7 (by unfold torn; rw [List.map_append, List.map_take, List.map_drop]; exact hr3), tw.1, tw.2⟩
        refine ⟨_, _, _, _, zs.set q.1.toNat (.ref r3), rfl, upd_same, ?_, (b2.trans (But.of_same s36)).trans (But.put (by simp)), (t2.trans (TupSame.of s36)).trans t7⟩
        rw [nx]
        exact pairedSet bn _ ((g2.tup (TupSame.of s36)).tup t7)
      · have hlt' : ks.length ≤ i := by
          have z : ¬ ((i : Nat) : Int) < (((ks.map V.int).length : Nat) : Int) := fun z9 => hlt (decide_eq_true z9)
          rw [List.length_map] at z
          omega
        have kb : (0 : Int) ≤ 0 ∧ (0 : Int) ≤ 32 := by decide
        have nx : ((I.wt.zip ks).take (i + 1)).foldl cutTo I.st = (((I.wt.zip ks).take i).foldl cutTo I.st).set q.1.toNat (torn q.2 wo 0) := by
          have zl : (I.wt.zip ks).length ≤ i := by rw [List.length_zip]; omega
          have z0 : torn q.2 wo 0 = wo := by simp [torn]
          rw [z0, ← ew, set_getD, List.take_of_length_le (by omega), List.take_of_length_le zl]
        refine ⟨_, rfl, _, rfl, 0, rfl, slA_take ab3 kb.1 fun r1 H4 s4 hr1 => ?_⟩
        refine ⟨_, rfl, _, rfl, I.sl, zs, q.1, .ref ao, rfl, rfl, SqL.of (s4 _ _ g13), at_of (j := q.1.toNat) (by omega) f1, _, rfl, 0, rfl, ?_⟩
        dsimp only [tNoPart]
        refine slA_drop (sameT s4 ao3) kb.1 fun r2 H5 s5 hr2 => ?_
        refine catA (sameT s5 hr1) hr2 (by rw [List.length_take, List.length_drop, List.length_map, List.length_map, g4l, f3l]; omega) fun r3 H6 s6 hr3 => ?_
        have s36 := (s3.trans s4).trans (s5.trans s6)
        have g16 := s36 _ _ g1
        refine ⟨_, rfl, _, rfl, I.sl, zs, q.1, q.1.toNat, rfl, rfl, g16, ixN_at (by omega) e5, ?_⟩
        have t7 : TupSame H6 (upd H6 I.sl (.lst (zs.set q.1.toNat (.ref r3)))) := TupSame.put g16 (fun xs z => by cases z) (fun ob u z => by cases z)
        have tw := torn_blk kb.1 kb.2 g4l f3l g4w f3w
        have bn : Blk K (upd H6 I.sl (.lst (zs.set q.1.toNat (.ref r3)))) (.ref r3) (torn q.2 wo 0) := ⟨r3, rfl, tupT t7 (by unfold torn; rw [List.map_append, List.map_take, List.map_drop]; exact hr3), tw.1, tw.2⟩
        refine ⟨_, _, _, _, zs.set q.1.toNat (.ref r3), rfl, upd_same, ?_, (b2.trans (But.of_same s36)).trans (But.put (by simp)), (t2.trans (TupSame.of s36)).trans t7⟩
        rw [nx]
        exact pairedSet bn _ ((g2.tup (TupSame.of s36)).tup t7)
    · rintro σ H2 ⟨v3, v4, v5, v6, zs, rfl, g1, g2, b2, t2⟩
      have z0 : (I.wt.zip ks).take ys.length = I.wt.zip ks := List.take_of_length_le (by rw [List.length_zip, pairedLen h5b]; omega)
      rw [z0] at g2
      have hi2 := b2 _ _ h1 (by simp [is0])
      refine ⟨(by show 0 ≤ sizeLine; decide), fun wl hw => ?_⟩
      have nsw : I.sl ≠ wl := ne_of_none g1 hw
      have niw : I.it ≠ wl := ne_of_none hi2 hw
      refine ⟨_, rfl, I.it, _, rfl, dpW (by rw [upd_ne niw]; exact hi2), ?_⟩
      refine ⟨_, rfl, I.it, _, rfl, dpF upd_same, ?_⟩
      have wH : H wl = none := by
        cases q : H wl with
        | none => rfl
        | some u => rw [b2 wl u q (by simp [nsw.symm])] at hw; cases hw
      have t3 := (TupSame.of (Same.new (o := .lst []) hw)).trans (TupSame.put (q := I.it) (o' := .dK (itK I.z I.sl wl (fuV I.fu))) (show (upd H2 wl (.lst [])) I.it = some (.dK (itK I.z I.sl I.wl (fuV I.fu))) by rw [upd_ne niw]; exact hi2) (fun xs z => by cases z) (fun ob u z => by cases z))
      have t4 := t3.trans (TupSame.put (q := I.it) (o' := .dK (itK I.z I.sl wl (fuV none))) upd_same (fun xs z => by cases z) (fun ob u z => by cases z))
      refine k wl _ wH ⟨ok, upd_same, tupT (t2.trans t4) h2, ⟨zs, ?_, g2.tup t4⟩, by show (((cutS I.st I.wt ks).length : Nat) : Int) = _; unfold cutS; rw [cutF_len]; exact h4, ⟨[], ?_, .nil⟩, Nat.zero_le _, nsw⟩ ?_ (t2.trans t4)
      · show upd _ _ _ I.sl = _
        rw [upd_ne is0.symm, upd_ne is0.symm, upd_ne nsw]; exact g1
      · show upd _ _ _ wl = _
        rw [upd_ne niw.symm, upd_ne niw.symm, upd_same]
      · intro c o e hc
        simp only [List.mem_cons, List.not_mem_nil, or_false, not_or] at hc
        rw [upd_ne hc.1, upd_ne hc.1, upd_ne (ne_of_none (b2 c o e (by simp [hc.2])) hw)]
        exact b2 c o e (by simp [hc.2])
end
end Tk17

namespace Tk17
open PySem PySem.Spec PyProof.Rows L2 Tk
section
variable {P : Program} {w : World} {K : PySem.W.Frag} {mg : Str → Option Value} {base : Heap}
theorem ok_keep (D : DefT K mg "_law_keep" S__law_keep) (B : Bi mg) (tT : mg "tuple" = none) (tR : mg "range" = none) (Gd : Cal P w K mg base 1 "_law_draw" ["deck", "below"] spDraw) (Gp : Cal P w K mg base 2 "_law_pick" ["deck", "some"] (spPick K)) :
    FnOk P w K mg base CX0 3 D.f D.fd ["deck", "many"] (spKeep K) := by
  refine D.F.ok sc__law_keep (fun vs H Q E h => ?_) (fun cdv A outer s H vs Q E hr h => ?_)
  · obtain ⟨d, c, m, rfl, _⟩ := h
    rfl
  · obtain ⟨d, c, m, rfl, Dk, m0, m1, k⟩ := h
    have nd := sc__law_keep.nd
    refine ⟨_, pss_cons (ps_set (i := 2) nd rfl (Or.inl rfl) (pe_callB (call_max2 rfl) (by rfl) B.max PyProof.Rows.boot_max (pa_cons pe_int (pa_cons (pe_op op_add (pv 1) (pc Gp hr (pa_cons (pv 0) (pa_cons (pe_lst (pa_cons pe_int (pa_cons pe_int (pa_cons (pe_un un_neg pe_int) (pa_cons pe_int (pa_cons (pe_un un_neg (pv 1)) pa_nil)))))) pa_nil)))) pa_nil))))
      (pss_one (ps_ret (pe_callTy call_tuple_of (by rfl) tT (by decide +kernel) (pa_cons (pe_lc (own := [("i", 3)]) (g := gName 3) (tt := tYes) rfl nd (pi_range1 (by rfl) tR (pa_cons (pv 2) pa_nil)) (blkOk_by (N := ["deck", "many", "length", "i"]) (sc := defScope S__law_keep) (by decide +kernel))
            (fun _ _ _ _ _ => pg_name (i := 3) nd rfl (Or.inl rfl)) (fun _ _ _ _ _ => pts_nil) (fun _ _ _ _ _ => pc Gp hr (pa_cons (pv 0) (pa_cons (pe_lst (pa_cons pe_int (pa_cons pe_int (pa_cons pe_int (pa_cons pe_int (pa_cons pe_int (pa_cons pe_int (pa_cons (pc Gd hr (pa_cons (pv 0) (pa_cons pe_int pa_nil))) pa_nil)))))))) pa_nil)))) pa_nil)))), ?_⟩
    refine ⟨_, rfl, _, rfl, _, rfl, _, rfl, _, rfl, ?_⟩
    refine ⟨(by show 5 ≤ sizeLine; decide), fun l hl => ?_⟩
    obtain ⟨ld, lc⟩ := Dk.nd hl
    refine ⟨d, c, l, _, rfl, Dk.same (Same.new hl), upd_same, lc, by simp, by show 5 ≤ 1000; decide, fun v H1 hv D1 b1 => ?_⟩
    obtain ⟨z, rfl, z0, z1⟩ : ∃ z : Int, v = .int z ∧ -900 ≤ z ∧ z ≤ 2 := by
      simp only [List.mem_cons, List.not_mem_nil, or_false] at hv
      rcases hv with h | h | h | h | h <;> exact ⟨_, h, by first | decide | omega, by first | decide | omega⟩
    have b01 := (But.new (l := [d, c]) (o := .lst _) hl).trans b1
    refine ⟨_, _, rfl, rfl, _, _, rfl, ?_⟩
    obtain ⟨n, en, hn⟩ : ∃ n : Nat, (if m + z > 0 then m + z else 0) = (n : Int) ∧ n ≤ 902 := ⟨(if m + z > 0 then m + z else 0).toNat, by split <;> omega, by split <;> omega⟩
    rw [en]
    refine ⟨_, rfl, (n : Int), rfl, by omega, by omega, fun q hq => ?_⟩
    refine lc_range (lo := 0) (n := n) (fun i H5 => Fills d c q H1 32 i H5) (Fills.start D1 hq) (fun i H5 hi F5 => ?_) (fun H5 F5 => ?_)
    · have D5 : DeckAt H5 d c := let ⟨_, _, _, _, x, _⟩ := F5; x
      refine ⟨rfl, tyes ?_⟩
      refine ⟨_, rfl, _, rfl, d, c, 33, rfl, D5, by decide, by decide, fun r H6 u0 u1 D6 b6 => ?_⟩
      refine ⟨(by show 7 ≤ sizeLine; decide), fun l2 hl2 => ?_⟩
      obtain ⟨ld2, lc2⟩ := D6.nd hl2
      refine ⟨d, c, l2, _, rfl, D6.same (Same.new hl2), upd_same, lc2, by simp, by show 7 ≤ 1000; decide, fun v H7 hv D7 b7 => ?_⟩
      obtain ⟨y, rfl, y0, y1⟩ : ∃ z : Int, v = .int z ∧ 0 ≤ z ∧ z ≤ 32 := by
        simp only [List.mem_cons, List.not_mem_nil, or_false] at hv
        rcases hv with h | h | h | h | h | h | h <;> exact ⟨_, h, by first | decide | omega, by first | decide | omega⟩
      exact Fills.step D1 hq (by omega) F5 y0 y1 D7 (b6.trans ((But.new hl2).trans b7))
    · obtain ⟨acc, h5, hl5, hw5, D5, b5⟩ := F5
      refine ⟨q, _, rfl, .inl ⟨SqL.of h5, fun p hp => ?_⟩⟩
      exact k p acc _ upd_same (by omega) hw5 (D5.same (Same.new hp)) ((b01.trans b5).trans (But.new hp))
theorem ok_drawn (D : DefT K mg "_law_drawn_sizes" S__law_drawn_sizes) (Gd : Cal P w K mg base 1 "_law_draw" ["deck", "below"] spDraw) (Gs : Cal P w K mg base 1 "_law_sizes" ["segments", "blocks"] spSizes) :
    FnOk P w K mg base CX0 2 D.f D.fd ["deck"] spDrawn := by
  refine D.F.ok sc__law_drawn_sizes (fun vs H Q E h => ?_) (fun cdv A outer s H vs Q E hr h => ?_)
  · obtain ⟨d, c, rfl, _⟩ := h
    rfl
  · obtain ⟨d, c, rfl, Dk, k⟩ := h
    refine ⟨_, pss_cons (ps_if (pt_cmpR op_eq (pc Gd hr (pa_cons (pv 0) (pa_cons pe_int pa_nil))) pe_int (nomark _))
        (pss_one (ps_ret (pc Gs hr (pa_cons (pe_op op_add pe_int (pc Gd hr (pa_cons (pv 0) (pa_cons pe_int pa_nil)))) (pa_cons (pe_op op_add pe_int (pc Gd hr (pa_cons (pv 0) (pa_cons pe_int pa_nil)))) pa_nil))))) pss_nil)
      (pss_one (ps_ret (pc Gs hr (pa_cons (pe_op op_add pe_int (pc Gd hr (pa_cons (pv 0) (pa_cons pe_int pa_nil)))) (pa_cons (pe_op op_add pe_int (pc Gd hr (pa_cons (pv 0) (pa_cons pe_int pa_nil)))) pa_nil))))), ?_⟩
    refine ⟨_, rfl, d, c, 16, rfl, Dk, by decide, by decide, fun v0 H0 p0 p1 D0 b0 => ?_⟩
    refine ⟨rfl, _, rfl, ?_⟩
    refine ite2 (fun _ => ?_) (fun _ => ?_)
    · refine ⟨_, rfl, d, c, 35, rfl, D0, by decide, by decide, fun v1 H1 q0 q1 D1 b1 => ?_⟩
      refine ⟨_, _, rfl, rfl, _, rfl, d, c, 21, rfl, D1, by decide, by decide, fun v2 H2 r0 r1 D2 b2 => ?_⟩
      refine ⟨_, _, rfl, rfl, _, _, rfl, ⟨by omega, by omega, by omega, by omega⟩, fun p hp => ?_⟩
      exact k p _ _ _ upd_same ⟨by omega, by omega, by omega, by omega⟩ (D2.same (Same.new hp)) (((b0.trans b1).trans b2).trans (But.new hp))
    · refine ⟨_, rfl, d, c, 4, rfl, D0, by decide, by decide, fun v1 H1 q0 q1 D1 b1 => ?_⟩
      refine ⟨_, _, rfl, rfl, _, rfl, d, c, 5, rfl, D1, by decide, by decide, fun v2 H2 r0 r1 D2 b2 => ?_⟩
      refine ⟨_, _, rfl, rfl, _, _, rfl, ⟨by omega, by omega, by omega, by omega⟩, fun p hp => ?_⟩
      exact k p _ _ _ upd_same ⟨by omega, by omega, by omega, by omega⟩ (D2.same (Same.new hp)) (((b0.trans b1).trans b2).trans (But.new hp))
end
end Tk17

namespace Tk17
open PySem PySem.Spec PyProof.Rows L2 Tk
theorem DeckAt.but {l : List Addr} {H H' : Hp} {d c : Addr} (D : DeckAt H d c) (b : But l H H') (n1 : d ∉ l) (n2 : c ∉ l) : DeckAt H' d c := by
  obtain ⟨m, t, ns, h1, h2, r⟩ := D.ex
  exact ⟨m, t, ns, b _ _ h1 n1, b _ _ h2 n2, r⟩
theorem DeckAt.tup {H H' : Hp} {d c : Addr} (D : DeckAt H d c) (b : But [d, c] H H') : TupSame H H' := by
  obtain ⟨m, t, ns, h1, h2, r⟩ := D.ex
  intro q xs hq
  have nd : q ≠ d := fun e => by
    subst e
    rcases hq with hq | ⟨o, hq⟩
    · rw [h1] at hq; cases hq
    · rw [h1] at hq; cases hq
  have nc : q ≠ c := fun e => by
    subst e
    rcases hq with hq | ⟨o, hq⟩
    · rw [h2] at hq; cases hq
    · rw [h2] at hq; cases hq
  rcases hq with hq | ⟨o, hq⟩
  · exact .inl (b _ _ hq (by simp [nd, nc]))
  · exact .inr ⟨o, b _ _ hq (by simp [nd, nc])⟩
theorem DA.but {K : PySem.W.Frag} {C : Addr} {l : List Addr} {H H' : Hp} {D : DS} (DD : DA K C H D) (b : But l H H') (t : TupSame H H') (n : ∀ x ∈ l, x ≠ D.p ∧ x ≠ D.z ∧ x ≠ D.l ∧ x ≠ D.wl ∧ x ≠ D.nl) : DA K C H' D := by
  obtain ⟨ok, ⟨dx, h1⟩, h2, ⟨xs, h3, h3b⟩, h4, ⟨ys, h5, h5b⟩, h6, ⟨kvs, h7, h7b, h7c⟩, h8⟩ := DD
  exact ⟨ok, ⟨dx, b _ _ h1 fun z => (n _ z).1 rfl⟩, b _ _ h2 fun z => (n _ z).2.1 rfl, ⟨xs, b _ _ h3 fun z => (n _ z).2.2.1 rfl, h3b.tup t⟩, h4, ⟨ys, b _ _ h5 fun z => (n _ z).2.2.2.1 rfl, Paired.mapP h5b fun _ _ q => q.tup t⟩, h6,
    ⟨kvs, b _ _ h7 fun z => (n _ z).2.2.2.2 rfl, h7b.tup t, h7c⟩, h8⟩
/-- a class that may be made -/
structure ICal (P : Program) (w : World) (K : PySem.W.Frag) (mg : Str → Option Value) (base : Heap) (C : Addr) (k : Nat) (ps : List Str) (sp : Sp) where
  f : Addr
  fd : FuncData
  mkC : Mk K C f
  b : Binds K fd ps []
  ok : FnOk P w K mg base CX0 k f fd ps sp
theorem pmk {X : Cx} {k j : Nat} {x : Str} {ps : List Str} {sp : Sp} {C : Addr} {e : Expr} {es : List Expr} {t : TA} {p pos : Pos} (I : ICal X.prog X.w X.K X.mg X.base C k ps sp) (hr : Room j X.A) (hm : X.mg x = some (.ref C)) (ha : PA X (e :: es) t) (hj : k + 1 ≤ j := by decide) (hg : Gl X x := by rfl)
    (hdb : (x == ("__debug__" : Str)) = false := by decide) (he : starEach (e :: es) X.env = (false, eval e X.env) :: starEach es X.env := by rfl) (hpl : (backTo pos (starEach es X.env)).any (·.1) = false := by rfl) :
    PE X (.Call (.Name x p) (e :: es) [] pos) (tMake C sp [] E0 t) := pe_make I.mkC I.ok (hr.mono hj) hg hm I.b .nil pass0 ha hdb he hpl
theorem boot_repr : bootBuiltins "repr" = some (.builtin "repr") := by decide +kernel
/-- the same text on both sides -/
theorem neStr {x : Str} {A B : Prop} (h : B) : if (!decide (V.str x = V.str x)) = true then A else B := iteNS rfl h
theorem guards_deeper (A : Around) (env : Env) (h : A.guards = some []) : (A.deeper env).guards = some [] := h
theorem fresh2 {H : Hp} {p q b : Addr} {o1 o2 : HO} (h : (upd (upd H p o1) q o2) b = none) : H b = none := by
  by_cases e : b = q
  · rw [e, upd_same] at h; cases h
  · rw [upd_ne e] at h
    by_cases e2 : b = p
    · rw [e2, upd_same] at h; cases h
    · rw [upd_ne e2] at h; exact h
theorem fresh1 {H : Hp} {p b : Addr} {o : HO} (h : (upd H p o) b = none) : H b = none := by
  by_cases e : b = p
  · rw [e, upd_same] at h; cases h
  · rw [upd_ne e] at h; exact h
def sizeP (s b : Int) : PyData := .tuple [.int s, .int b, .int (roomI s b), .int (areaI s b)]
def blkD (ws : List Int) : PyData := .tuple (ws.map PyData.int)
theorem dp_size {K : PySem.W.Frag} {H : Hp} {z : Addr} {s b : Int} (h : SqT K H z (sizeV s b)) : Dp K H (.ref z) (sizeP s b) := .tup h (.cons (.int _) (.cons (.int _) (.cons (.int _) (.cons (.int _) .nil))))
theorem dp_blk {K : PySem.W.Frag} {H : Hp} {y : V} {ws : List Int} (h : Blk K H y ws) : Dp K H y (blkD ws) := by
  obtain ⟨a, rfl, h1, _⟩ := h
  exact .tup h1 (dpInts K H ws)
theorem sh_size {s b : Int} (ok : SizeOk s b) : Sh (sizeP s b) 59 1 := by
  have h1 := ok.room
  have h2 := ok.area
  obtain ⟨k1, k2, k3, k4⟩ := ok
  exact Sh.tup (.cons (Sh.int (by omega) (by omega)) (.cons (Sh.int (by omega) (by omega)) (.cons (Sh.int (by omega) (by omega)) (.cons (Sh.int (by omega) (by omega)) .nil))))
theorem sh_blk {ws : List Int} (hl : ws.length = 32) (hw : Wd ws) : Sh (blkD ws) 451 1 := by
  have q : ShAll (ws.map PyData.int) ((12 + 2) * (ws.map PyData.int).length) 0 := ShAll.all fun d hd => by
    obtain ⟨z, hz, rfl⟩ := List.mem_map.mp hd
    have := hw z hz
    exact Sh.int this.1 (by omega)
  rw [List.length_map, hl] at q
  exact Sh.tup q
theorem Blank.tup {K : PySem.W.Frag} {H H' : Hp} {ba : Addr} (h : Blank K H ba) (t : TupSame H H') : Blank K H' ba := tupT t h
theorem alike_zero : PySem.W.alike (blkD (List.replicate 32 0)) (blkD (List.replicate 32 0)) = true := by decide +kernel
theorem depth_blk (ws : List Int) : (blkD ws).depth ≤ 2 := by
  have h := depth_ints ws
  unfold blkD
  simp only [PyData.depth]
  omega
theorem pairedMem {α β : Type} {F : α → β → Prop} : ∀ {xs : List α} {ys : List β} {x : α}, Paired F xs ys → x ∈ xs → ∃ y ∈ ys, F x y
  | _, _, _, .nil, h => absurd h List.not_mem_nil
  | _, _, x, .cons r t, h => by
    rcases List.mem_cons.mp h with e | h
    · exact ⟨_, List.mem_cons_self, e ▸ r⟩
    · obtain ⟨y, h1, h2⟩ := pairedMem t h
      exact ⟨y, List.mem_cons_of_mem _ h1, h2⟩

/-! ### the world of the law: deck, disk, own blocks, one more thing that stays -/
structure WD where
  d : Addr
  c : Addr
  p : Addr
  z : Addr
  l : Addr
  it : Addr
  z2 : Addr
  sl : Addr
  s : Int
  b : Int
structure W0 (K : PySem.W.Frag) (C : Addr) (H : Hp) (B : WD) (fw : Addr) (fo : HO) (wl nl wl2 : Addr) (st : List (List Int)) (wt : List (Int × List Int)) (st2 : List (List Int)) (wt2 : List (Int × List Int)) : Prop where
  dk : DeckAt H B.d B.c
  da : DA K C H ⟨B.p, B.z, B.l, wl, nl, B.s, B.b, st, wt, none⟩
  ia : IA K H ⟨B.it, B.z2, B.sl, wl2, B.s, B.b, st2, wt2, none⟩
  fk : H fw = some fo
  ab : ∀ x ∈ [B.d, B.c], x ∉ [B.p, B.l, wl, nl]
  ae : ∀ x ∈ [B.d, B.c], x ∉ [B.it, B.sl, wl2]
  be : ∀ x ∈ [B.it, B.sl, wl2], x ∉ [B.p, B.l, wl, nl]
  f1 : fw ∉ [B.d, B.c]
  f2 : fw ∉ [B.p, B.l, wl, nl]
  f3 : fw ∉ [B.it, B.sl, wl2]
def W13 (K : PySem.W.Frag) (C : Addr) (H : Hp) (B : WD) (fw : Addr) (fo : HO) (st : List (List Int)) (wt : List (Int × List Int)) (st2 : List (List Int)) (wt2 : List (Int × List Int)) : Prop := ∃ wl nl wl2, W0 K C H B fw fo wl nl wl2 st wt st2 wt2
section
variable {K : PySem.W.Frag} {C : Addr} {H H' : Hp} {B : WD} {fw : Addr} {fo : HO} {wl nl wl2 wl' nl' : Addr} {st st2 st' : List (List Int)} {wt wt2 wt' : List (Int × List Int)} {l : List Addr}
theorem W0.dn (W : W0 K C H B fw fo wl nl wl2 st wt st2 wt2) {y : Addr} (h : H y = none) : y ∉ [B.d, B.c] ∧ y ∉ [B.p, B.l, wl, nl] ∧ y ∉ [B.it, B.sl, wl2] ∧ y ≠ fw := by
  obtain ⟨m, t, ns, e1, e2, _⟩ := W.dk.ex
  obtain ⟨_, ⟨dx, g1⟩, g2, ⟨xs, g3, _⟩, _, ⟨ys, g5, _⟩, _, ⟨kvs, g7, _, _⟩, _⟩ := W.da
  obtain ⟨_, i1, _, ⟨xs2, i3, _⟩, _, ⟨ys2, i5, _⟩, _, _⟩ := W.ia
  have q := W.fk
  have n : ∀ {a : Addr} {o : HO}, H a = some o → y ≠ a := fun e z => by rw [z, e] at h; cases h
  refine ⟨?_, ?_, ?_, n q⟩
  · simp [n e1, n e2]
  · simp [n g1, n g3, n g5, n g7]
  · simp [n i1, n i3, n i5]
/-- the sizes of the disk stand in a tuple: it is none of the things that change -/
theorem W0.nz (W : W0 K C H B fw fo wl nl wl2 st wt st2 wt2) : B.z ∉ [B.d, B.c] ∧ B.z ∉ [B.p, B.l, wl, nl] ∧ B.z ∉ [B.it, B.sl, wl2] := by
  obtain ⟨m, t, ns, e1, e2, _⟩ := W.dk.ex
  obtain ⟨_, ⟨dx, g1⟩, g2, ⟨xs, g3, _⟩, _, ⟨ys, g5, _⟩, _, ⟨kvs, g7, _, _⟩, _⟩ := W.da
  obtain ⟨_, i1, _, ⟨xs2, i3, _⟩, _, ⟨ys2, i5, _⟩, _, _⟩ := W.ia
  have n : ∀ {a : Addr} {o : HO}, H a = some o → (∀ v, o ≠ .tup v) → B.z ≠ a := fun {a o} e t z => by
    have e' : H a = some (.tup (sizeV B.s B.b)) := by rw [← z]; exact g2
    rw [e] at e'
    cases e'
    exact t _ rfl
  refine ⟨?_, ?_, ?_⟩
  · simp [n e1 (fun v e => by cases e), n e2 (fun v e => by cases e)]
  · simp [n g1 (fun v e => by cases e), n g3 (fun v e => by cases e), n g5 (fun v e => by cases e), n g7 (fun v e => by cases e)]
  · simp [n i1 (fun v e => by cases e), n i3 (fun v e => by cases e), n i5 (fun v e => by cases e)]
theorem apart5 {p z l0 a b x : Addr} (h1 : x ∉ [p, l0, a, b]) (h2 : x ≠ z) : x ≠ p ∧ x ≠ z ∧ x ≠ l0 ∧ x ≠ a ∧ x ≠ b := by
  simp only [List.mem_cons, List.not_mem_nil, or_false, not_or] at h1
  exact ⟨h1.1, h2, h1.2.1, h1.2.2.1, h1.2.2.2⟩
theorem W13.same (W : W13 K C H B fw fo st wt st2 wt2) (e : Same H H') : W13 K C H' B fw fo st wt st2 wt2 := by
  obtain ⟨wl, nl, wl2, W⟩ := W
  exact ⟨wl, nl, wl2, W.dk.same e, W.da.same e, W.ia.same e, e _ _ W.fk, W.ab, W.ae, W.be, W.f1, W.f2, W.f3⟩
theorem W13.deck (W : W13 K C H B fw fo st wt st2 wt2) (D : DeckAt H' B.d B.c) (b : But [B.d, B.c] H H') : W13 K C H' B fw fo st wt st2 wt2 := by
  obtain ⟨wl, nl, wl2, W⟩ := W
  have t := W.dk.tup b
  refine ⟨wl, nl, wl2, D, W.da.but b t (fun x hx => apart5 (W.ab x hx) fun e => W.nz.1 ((show x = B.z from e) ▸ hx)), W.ia.but b t (fun x hx => W.ae x hx), b _ _ W.fk W.f1, W.ab, W.ae, W.be, W.f1, W.f2, W.f3⟩
theorem W13.take {q : Addr} {o : HO} (W : W13 K C H B fw fo st wt st2 wt2) (D : DeckAt H' B.d B.c) (b : But [B.d, B.c] H H') (n : H q = none) (h : H' q = some o) : W13 K C H' B q o st wt st2 wt2 := by
  obtain ⟨wl0, nl0, wl20, W0⟩ := W
  obtain ⟨n1, n2, n3, _⟩ := W0.dn n
  have t := W0.dk.tup b
  exact ⟨wl0, nl0, wl20, D, W0.da.but b t (fun x hx => apart5 (W0.ab x hx) fun e => W0.nz.1 ((show x = B.z from e) ▸ hx)), W0.ia.but b t (fun x hx => W0.ae x hx), h, W0.ab, W0.ae, W0.be, n1, n2, n3⟩
theorem notin_new {a : List Addr} {p l0 wl nl wl' nl' : Addr} (hw : wl' = wl ∨ wl' ∉ a) (hn : nl' = nl ∨ nl' ∉ a) (h : ∀ x ∈ a, x ∉ [p, l0, wl, nl]) : ∀ x ∈ a, x ∉ [p, l0, wl', nl'] := fun x hx hm => by
  have q := h x hx
  simp only [List.mem_cons, List.not_mem_nil, or_false, not_or] at q hm
  rcases hm with e | e | e | e
  · exact q.1 e
  · exact q.2.1 e
  · rcases hw with z | z
    · exact q.2.2.1 (e.trans z)
    · exact z (e ▸ hx)
  · rcases hn with z | z
    · exact q.2.2.2 (e.trans z)
    · exact z (e ▸ hx)
theorem W0.disk (W : W0 K C H B fw fo wl nl wl2 st wt st2 wt2) (D' : DA K C H' ⟨B.p, B.z, B.l, wl', nl', B.s, B.b, st', wt', none⟩) (b : But l H H') (t : TupSame H H') (hl : ∀ x ∈ l, x ∈ [B.p, B.l, wl, nl]) (hw : wl' = wl ∨ H wl' = none) (hn : nl' = nl ∨ H nl' = none) :
    W13 K C H' B fw fo st' wt' st2 wt2 := by
  have a1 : ∀ x ∈ l, x ∉ [B.d, B.c] := fun x hx h => W.ab x h (hl x hx)
  have a2 : ∀ x ∈ l, x ∉ [B.it, B.sl, wl2] := fun x hx h => W.be x h (hl x hx)
  refine ⟨wl', nl', wl2, W.dk.but b (fun h => a1 _ h (by simp)) (fun h => a1 _ h (by simp)), D', W.ia.but b t a2, b _ _ W.fk (fun h => W.f2 (hl _ h)), ?_, W.ae, ?_, W.f1, ?_, W.f3⟩
  · exact notin_new (hw.imp id fun h => (W.dn h).1) (hn.imp id fun h => (W.dn h).1) W.ab
  · exact notin_new (hw.imp id fun h => (W.dn h).2.2.1) (hn.imp id fun h => (W.dn h).2.2.1) W.be
  · exact notin_new (a := [fw]) (hw.imp id fun h => by simp [(W.dn h).2.2.2]) (hn.imp id fun h => by simp [(W.dn h).2.2.2]) (fun x hx => by rw [List.mem_singleton.mp hx]; exact W.f2) fw (by simp)
theorem notin_new3 {a : List Addr} {p l0 wl wl' : Addr} (hw : wl' = wl ∨ wl' ∉ a) (h : ∀ x ∈ a, x ∉ [p, l0, wl]) : ∀ x ∈ a, x ∉ [p, l0, wl'] := fun x hx hm => by
  have q := h x hx
  simp only [List.mem_cons, List.not_mem_nil, or_false, not_or] at q hm
  rcases hm with e | e | e
  · exact q.1 e
  · exact q.2.1 e
  · rcases hw with z | z
    · exact q.2.2 (e.trans z)
    · exact z (e ▸ hx)
theorem W0.own (W : W0 K C H B fw fo wl nl wl2 st wt st2 wt2) (I' : IA K H' ⟨B.it, B.z2, B.sl, wl', B.s, B.b, st', wt', none⟩) (b : But l H H') (t : TupSame H H') (hl : ∀ x ∈ l, x ∈ [B.it, B.sl, wl2]) (hw : wl' = wl2 ∨ H wl' = none) :
    W13 K C H' B fw fo st wt st' wt' := by
  have a1 : ∀ x ∈ l, x ∉ [B.d, B.c] := fun x hx h => W.ae x h (hl x hx)
  have a2 : ∀ x ∈ l, x ∉ [B.p, B.l, wl, nl] := fun x hx => W.be x (hl x hx)
  refine ⟨wl, nl, wl', W.dk.but b (fun h => a1 _ h (by simp)) (fun h => a1 _ h (by simp)), W.da.but b t (fun x hx => apart5 (a2 x hx) fun e => W.nz.2.2 ((show x = B.z from e) ▸ hl x hx)), I', b _ _ W.fk (fun h => W.f3 (hl _ h)), W.ab, ?_, ?_, W.f1, W.f2, ?_⟩
  · exact notin_new3 (hw.imp id fun h => (W.dn h).1) W.ae
  · intro x hx hm
    simp only [List.mem_cons, List.not_mem_nil, or_false] at hx
    rcases hx with e | e | e
    · exact W.be x (by simp [e]) hm
    · exact W.be x (by simp [e]) hm
    · rcases hw with z | z
      · exact W.be x (by simp [e, z]) hm
      · exact (W.dn z).2.1 (e ▸ hm)
  · exact notin_new3 (a := [fw]) (hw.imp id fun h => by simp [(W.dn h).2.2.2]) (fun x hx => by rw [List.mem_singleton.mp hx]; exact W.f3) fw (by simp)
end
/-! ### texts of what stands -/
theorem dp_blks {K : PySem.W.Frag} {H : Hp} : ∀ {ys : List V} {st : List (List Int)}, Blks K H ys st → DpAll K H ys (st.map blkD)
  | _, _, .nil => .nil
  | _, _, .cons r t => .cons (dp_blk r) (dp_blks t)
theorem sh_blkL {K : PySem.W.Frag} {H : Hp} {ys : List V} {st : List (List Int)} (h : Blks K H ys st) (hl : st.length ≤ 1020) : ShAll (st.map blkD) 470000 1 := by
  have q : ShAll (st.map blkD) ((451 + 2) * (st.map blkD).length) 1 := ShAll.all fun d hd => by
    obtain ⟨ws, hw, rfl⟩ := List.mem_map.mp hd
    obtain ⟨i, hi⟩ := List.getElem?_of_mem hw
    obtain ⟨x, y, _, e2, ⟨a, _, _, h3, h4⟩⟩ := pairedGet h (List.getElem?_eq_some_iff.mp hi).1
    rw [hi] at e2
    cases e2
    exact sh_blk h3 h4
  rw [List.length_map] at q
  obtain ⟨b1, b2, b3, b4⟩ := q
  exact ⟨b1, b2, b3, by omega⟩
theorem neNone {A B : Prop} (h : B) : if (!decide (V.str (PyData.shown .none) = V.str "None")) = true then A else B := iteNS (by simp [PyData.shown]) h
end Tk17

namespace Tk17
open PySem PySem.Spec PyProof.Rows L2 Tk
theorem subPL {p l wl nl x : Addr} (h : x ∈ [p, l]) : x ∈ [p, l, wl, nl] := by
  simp only [List.mem_cons, List.not_mem_nil, or_false] at h ⊢
  rcases h with h | h <;> simp [h]
theorem subPW {p l wl nl x : Addr} (h : x ∈ [p, wl, nl]) : x ∈ [p, l, wl, nl] := by
  simp only [List.mem_cons, List.not_mem_nil, or_false] at h ⊢
  rcases h with h | h | h <;> simp [h]
theorem subIS {p l wl x : Addr} (h : x ∈ [p, l]) : x ∈ [p, l, wl] := by
  simp only [List.mem_cons, List.not_mem_nil, or_false] at h ⊢
  rcases h with h | h <;> simp [h]
section
variable {K : PySem.W.Frag} {C : Addr} {H H' : Hp} {B : WD} {fw : Addr} {fo : HO} {wl nl wl2 wl' nl' : Addr} {st st2 st' : List (List Int)} {wt wt2 wt' : List (Int × List Int)} {l : List Addr}
theorem W0.push {pb tp l1 w' : Addr} {pl : Int} {ws : List Int} {ys : List V} (W : W0 K C H B fw fo wl nl wl2 st wt st2 wt2) (hb : Blk K H (.ref pb) ws) (p0 : 0 ≤ pl) (p1 : pl < manyI B.s B.b) (hlen : wt2.length < 900) (htp : H tp = none)
    (hl1 : (upd H tp (.tup [V.int pl, V.ref pb])) l1 = none) (hw : (upd (upd H tp (.tup [V.int pl, V.ref pb])) l1 (.lst [V.ref tp])) w' = none) (h5 : H wl2 = some (.lst ys)) :
    W13 K C (upd (upd (upd (upd H tp (.tup [V.int pl, V.ref pb])) l1 (.lst [V.ref tp])) w' (.lst (ys ++ [V.ref tp]))) B.it (.dK (itK B.z2 B.sl w' .non))) B fw fo st wt st2 (wt2 ++ [(pl, ws)]) := by
  obtain ⟨ok, i1, i2, ⟨xs, i3, i3b⟩, i4, ⟨ys', i5, i5b⟩, i6, i8⟩ := id W.ia
  rw [h5] at i5
  cases i5
  have s1 : Same H (upd H tp (.tup [V.int pl, V.ref pb])) := Same.new htp
  have s2 : Same _ (upd (upd H tp (.tup [V.int pl, V.ref pb])) l1 (.lst [V.ref tp])) := Same.new hl1
  have s3 : Same _ (upd (upd (upd H tp (.tup [V.int pl, V.ref pb])) l1 (.lst [V.ref tp])) w' (.lst (ys ++ [V.ref tp]))) := Same.new hw
  have sA := (s1.trans s2).trans s3
  have tpA := s3 _ _ (s2 _ _ (show (upd H tp (.tup [V.int pl, V.ref pb])) tp = some (.tup [V.int pl, V.ref pb]) from upd_same))
  have wA : (upd (upd (upd H tp (.tup [V.int pl, V.ref pb])) l1 (.lst [V.ref tp])) w' (.lst (ys ++ [V.ref tp]))) w' = some (.lst (ys ++ [V.ref tp])) := upd_same
  have wN : H w' = none := (s1.trans s2).free hw
  generalize upd (upd (upd H tp (.tup [V.int pl, V.ref pb])) l1 (.lst [V.ref tp])) w' (.lst (ys ++ [V.ref tp])) = H6 at sA tpA wA
  have i16 := sA _ _ i1
  have t7 : TupSame H6 (upd H6 B.it (.dK (itK B.z2 B.sl w' .non))) := TupSame.put i16 (fun xs z => by cases z) (fun ob u z => by cases z)
  have t := (TupSame.of sA).trans t7
  have nsi : B.sl ≠ B.it := ne_of i3 i1 (by intro e; cases e)
  have nwi : w' ≠ B.it := (ne_of_none i1 wN).symm
  refine W.own (l := [B.it]) (wl' := w') ⟨ok, upd_same, tupT t i2, ⟨xs, ?_, i3b.tup t⟩, i4, ⟨ys ++ [V.ref tp], ?_, pairedApp ?_ (Paired.mapP i5b fun _ _ q => q.tup t)⟩, ?_, (ne_of_none i3 wN)⟩ ((But.of_same sA).trans (But.put (by simp))) t (fun x hx => by rw [List.mem_singleton.mp hx]; simp) (.inr wN)
  · show upd _ _ _ B.sl = _
    rw [upd_ne nsi]; exact sA _ _ i3
  · show upd _ _ _ w' = _
    rw [upd_ne nwi]; exact wA
  · exact ⟨tp, _, rfl, tupT t7 (SqT.of tpA), hb.tup t, p0, p1⟩
  · show (wt2 ++ [(pl, ws)]).length ≤ 1000
    rw [List.length_append, List.length_singleton]; omega
end
theorem via2 {G : Prop} {Q : Addr → Hp → Prop} (Cn : Addr → Hp → Prop) (h : (∀ kp H', Cn kp H' → Q kp H') → G) (k : ∀ kp H', Cn kp H' → Q kp H') : G := h k
theorem via1 {G : Prop} {Q : Hp → Prop} (Cn : Hp → Prop) (h : (∀ H', Cn H' → Q H') → G) (k : ∀ H', Cn H' → Q H') : G := h k
/-- free names -/
structure Fr13 (mg : Str → Option Value) : Prop where
  repr : mg "repr" = none
  range : mg "range" = none
  tuple : mg "tuple" = none
structure All13 (P : Program) (w : World) (K : PySem.W.Frag) (mg : Str → Option Value) (base : Heap) (C ba : Addr) where
  fI : Addr
  T : DT K mg C fI ba
  Fr : Fr13 mg
  deck : Cal P w K mg base 1 "_law_deck" ["script"] (spDeck K)
  draw : Cal P w K mg base 1 "_law_draw" ["deck", "below"] spDraw
  pick : Cal P w K mg base 2 "_law_pick" ["deck", "some"] (spPick K)
  drawn : Cal P w K mg base 2 "_law_drawn_sizes" ["deck"] spDrawn
  many : Cal P w K mg base 1 "_law_many" ["sizes"] (spMany K)
  blank : Cal P w K mg base 2 "_law_blank" ["sizes"] (spBlank K)
  forced : Cal P w K mg base 1 "_law_forced" ["it"] (spForced K)
  fell : Cal P w K mg base 1 "_law_fell" ["it", "keep"] (spFell K)
  block : Cal P w K mg base 4 "_law_block" ["deck"] spBlock
  keep : Cal P w K mg base 3 "_law_keep" ["deck", "many"] (spKeep K)
  init : ICal P w K mg base C 3 ["self", "segments", "blocks"] (spDInit K C ba)
  initK : KBn K init.fd ["self", "segments", "blocks"] 1 ["blocks", "segments"] two1 two1
  mRead : MCal P w K mg base C 4 "read" ["self", "place"] (spRead K C)
  mWrite : MCal P w K mg base C 6 "write" ["self", "place", "block"] (spWrite K C)
  mForce : MCal P w K mg base C 2 "force" ["self"] (spForce K C)
  mWait : MCal P w K mg base C 1 "waiting" ["self"] (spWaiting K C)
  mStand : MCal P w K mg base C 1 "standing" ["self"] (spStanding K C)
  mCut : MCal P w K mg base C 4 "cut" ["self", "keep"] (spCut K C)
  cutK : KBn K mCut.fd ["self", "keep"] 1 ["keep"] one1 one1
theorem repA_ks {K : PySem.W.Frag} {H H' : Hp} {t p : Addr} {k v : Int} (ht : H t = some (.tup [V.int v])) (hc : (k = 1 ∧ p = t ∧ H' = H) ∨ (k ≠ 1 ∧ H p = none ∧ H' = upd H p (.tup (List.replicate k.toNat [V.int v]).flatten))) :
    Same H H' ∧ SqT K H' p ((List.replicate k.toNat v).map V.int) := by
  rcases hc with ⟨rfl, rfl, rfl⟩ | ⟨_, n, rfl⟩
  · exact ⟨Same.refl _, SqT.of ht⟩
  · exact ⟨Same.new n, SqT.of (by rw [upd_same, rep1])⟩
theorem rep_le {n : Nat} {v : Int} (h0 : 0 ≤ v) (h1 : v ≤ 32) : ∀ k ∈ List.replicate n v, 0 ≤ k ∧ k ≤ 32 := fun k hk => by
  rw [List.eq_of_mem_replicate hk]; exact ⟨h0, h1⟩
theorem dp_rd {K : PySem.W.Frag} {H : Hp} {g : Int → List Int} : ∀ {ys : List V} {ps : List Int}, Paired (fun y pl => Blk K H y (g pl)) ys ps → DpAll K H ys (ps.map fun pl => blkD (g pl))
  | _, _, .nil => .nil
  | _, _, .cons r t => .cons (dp_blk r) (dp_rd t)
theorem sh_rd {K : PySem.W.Frag} {H : Hp} {g : Int → List Int} {ys : List V} {ps : List Int} (h : Paired (fun y pl => Blk K H y (g pl)) ys ps) (hl : ps.length = 3) : ShAll (ps.map fun pl => blkD (g pl)) 2000 1 := by
  have q : ShAll (ps.map fun pl => blkD (g pl)) ((451 + 2) * (ps.map fun pl => blkD (g pl)).length) 1 := ShAll.all fun d hd => by
    obtain ⟨pl, hw, rfl⟩ := List.mem_map.mp hd
    obtain ⟨i, hi⟩ := List.getElem?_of_mem hw
    obtain ⟨x, y, _, e2, ⟨a, _, _, h3, h4⟩⟩ := pairedGet h (List.getElem?_eq_some_iff.mp hi).1
    rw [hi] at e2
    cases e2
    exact sh_blk h3 h4
  rw [List.length_map, hl] at q
  obtain ⟨b1, b2, b3, b4⟩ := q
  exact ⟨b1, b2, b3, by omega⟩
theorem pairedNext {α β : Type} {F : α → β → Prop} {xs : List α} {ys : List β} {i : Nat} {x : α} {y : β} (h : Paired F xs (ys.take i)) (e : ys[i]? = some y) (r : F x y) : Paired F (xs ++ [x]) (ys.take (i + 1)) := by
  rw [List.take_add_one, e]
  exact pairedApp r h
theorem cutS_nil (st : List (List Int)) (ks : List Int) : cutS st [] ks = st := by
  unfold cutS
  rw [List.zip_nil_left]
  rfl
end Tk17

namespace Tk17
open PySem PySem.Spec PyProof.Rows L2 Tk
structure PCut (P : Program) (w : World) (K : PySem.W.Frag) (mg : Str → Option Value) (base : Heap) (PC : Addr) where
  f : Addr
  fd : FuncData
  T : OexE K PC
  iC : PySem.W.findIn K (.ref PC) "__init__" = some (some (.ref f))
  tI : PySem.W.typeIn K (.ref f) = some (.type "function")
  b : Binds K fd ["self"] []
  ok : FnOk P w K mg base CX0 1 f fd ["self"] spInit0
  g : mg "PowerCut" = some (.ref PC)
def spBurnX (K : PySem.W.Frag) (C PC : Addr) : Sp := fun vs H Q E => ∃ (D : DS), vs = [.ref D.p] ∧ DA K C H D ∧ (∀ n, D.fu = some n → 0 ≤ n) ∧
  (fuOk D.fu → ∀ H', DA K C H' { D with fu := fuDown D.fu } → But [D.p] H H' → TupSame H H' → Q .non H') ∧ (D.fu = some 0 → E (.ref PC) none H)
section
variable {P : Program} {w : World} {K : PySem.W.Frag} {mg : Str → Option Value} {base : Heap} {C fI ba PC : Addr}
theorem ok_init0 {f : Addr} {fd : FuncData} (F : Fun K "__init__" "PowerCut.__init__" S_PowerCut___init__ f fd) : FnOk P w K mg base CX0 1 f fd ["self"] spInit0 := by
  refine F.ok sc_PowerCut___init__ (fun vs H Q E h => ?_) (fun cdv A outer s H vs Q E hr h => ?_)
  · obtain ⟨a, rfl, _⟩ := h
    rfl
  · obtain ⟨a, rfl, k⟩ := h
    exact ⟨_, pss_one ps_pass, k⟩
theorem ok_burnX (D : MthT K C "_burn" "Disk._burn" S_Disk__burn) (T : DT K mg C fI ba) (Z : PCut P w K mg base PC) : FnOk P w K mg base (L2.CX P w) 3 D.f D.fd ["self"] (spBurnX K C PC) := by
  refine D.F.okX sc_Disk__burn (fun vs H Q E h => ?_) (fun cdv A outer s H vs Q E hr h => ?_)
  · obtain ⟨D, rfl, _⟩ := h
    rfl
  · obtain ⟨D, rfl, DD, hnn, k, kx⟩ := h
    obtain ⟨ok, ⟨dx, h1⟩, h2, ⟨xs, h3, h3b⟩, h4, ⟨ys, h5, h5b⟩, h6, ⟨kvs, h7, h7b, h7c⟩, h8⟩ := id DD
    refine ⟨_, pss_cons (ps_if (pt_cmpR op_isN (pe_fld (pv 0) rfl) pe_non (nomark _)) (pss_one ps_retN) pss_nil)
      (pss_cons (ps_if (pt_cmpR op_eq (pe_fld (pv 0) rfl) pe_int (nomark _)) (pss_one (ps_raise rfl (takes_of rfl rfl rfl rfl) (pmk_ex0 Z.T Z.iC Z.tI Z.ok hr Z.b Z.g))) pss_nil)
      (pss_one (ps_fldaug (pv 0) pe_int in_sub))), ?_⟩
    refine ⟨_, rfl, D.p, C, dx, _, _, rfl, h1, T.cl, T.nF, fl_fuse .., rfl, _, rfl, ?_⟩
    cases ef : D.fu with
    | none =>
      refine iteT ?_
      have ho : fuOk D.fu := by rw [ef]; exact fun n e => by cases e
      refine k ho H ?_ But.refl TupSame.refl
      have e : fuDown D.fu = D.fu := by rw [ef]; rfl
      show DiskAt K C H D.p D.z D.l D.wl D.nl D.s D.b D.st D.wt (fuDown D.fu)
      rw [e]; exact DD
    | some n =>
      have n0 := hnn n ef
      rw [ef] at h1
      refine iteF ?_
      refine ⟨_, rfl, D.p, C, dx, _, _, rfl, h1, T.cl, T.nF, fl_fuse .., rfl, _, rfl, ?_⟩
      by_cases nz : n = 0
      · subst nz
        rw [show decide (fuV (some 0) = V.int 0) = true from decide_eq_true rfl]
        refine iteT ?_
        exact kx ef
      have ne : ¬ V.int n = V.int 0 := fun z => by injection z with z; omega
      rw [show decide (fuV (some n) = V.int 0) = false from decide_eq_false ne]
      refine iteF ?_
      refine ⟨_, rfl, D.p, C, dx, _, _, rfl, h1, T.cl, T.nF, fl_fuse .., _, _, rfl, rfl, _, _, h1, (by show 5 < 1000; decide), ?_⟩
      have ts : TupSame H (upd H D.p (.ins C dx (fl D.z D.l D.wl D.nl (V.int (n - 1))))) := TupSame.put h1 (fun xs z => by cases z) (fun ob u z => by cases z)
      have e : fuDown D.fu = some (n - 1) := by rw [ef]; rfl
      have ho : fuOk D.fu := by rw [ef]; exact fun m e => by cases e; omega
      refine k ho _ ?_ (But.put (by simp)) ts
      show DiskAt K C _ D.p D.z D.l D.wl D.nl D.s D.b D.st D.wt (fuDown D.fu)
      rw [e]
      refine ⟨ok, ⟨dx, upd_same⟩, ?_, ⟨xs, ?_, h3b.tup ts⟩, h4, ⟨ys, ?_, Paired.mapP h5b fun _ _ q => q.tup ts⟩, h6, ⟨kvs, ?_, h7b.tup ts, h7c⟩, h8⟩
      · rw [fl_pf, upd_ne (ne_of h2 h1 (by intro z; cases z))]; exact h2
      · rw [fl_pf, upd_ne (ne_of h3 h1 (by intro z; cases z))]; exact h3
      · rw [fl_pf, upd_ne (ne_of h5 h1 (by intro z; cases z))]; exact h5
      · rw [fl_pf, upd_ne (ne_of h7 h1 (by intro z; cases z))]; exact h7
end
end Tk17

namespace Tk17
open PySem PySem.Spec PyProof.Rows L2 Tk
def spWriteX (K : PySem.W.Frag) (C PC : Addr) : Sp := fun vs H Q E => ∃ (D : DS) (pl : Int) (y : V) (ws : List Int), vs = [.ref D.p, .int pl, y] ∧ DA K C H D ∧ 0 ≤ pl ∧ pl < D.many ∧ Blk K H y ws ∧ (∀ n, D.fu = some n → 0 ≤ n) ∧ D.wt.length < 900 ∧
  (fuOk D.fu → ∀ H', DA K C H' { D with wt := D.wt ++ [(pl, ws)], fu := fuDown D.fu } → But [D.p, D.wl, D.nl] H H' → TupSame H H' → Q .non H') ∧ (D.fu = some 0 → ∀ H', Same H H' → E (.ref PC) none H')
def spForceX (K : PySem.W.Frag) (C PC : Addr) : Sp := fun vs H Q E => ∃ (D : DS), vs = [.ref D.p] ∧ DA K C H D ∧ (∀ n, D.fu = some n → 0 ≤ n) ∧
  (fuOk D.fu → ∀ wl' nl' H', H wl' = none → H nl' = none → DA K C H' { D with wl := wl', nl := nl', wt := [], st := forcedS D.st D.wt, fu := fuDown D.fu } → But [D.p, D.l] H H' → TupSame H H' → Q .non H') ∧ (D.fu = some 0 → E (.ref PC) none H)
section
variable {P : Program} {w : World} {K : PySem.W.Frag} {mg : Str → Option Value} {base : Heap} {C fI ba PC : Addr}
theorem ok_writeX (D : MthT K C "write" "Disk.write" S_Disk_write) (T : DT K mg C fI ba) (Mc : MCal P w K mg base C 3 "_check_place" ["self", "place"] (spCheck K C)) (Mb : MCalX P w K mg base C 3 "_burn" ["self"] (spBurnX K C PC))
    (Gb : Cal P w K mg base 5 "is_block" ["thing"] (spIsBlk K)) : FnOk P w K mg base (L2.CX P w) 6 D.f D.fd ["self", "place", "block"] (spWriteX K C PC) := by
  refine D.F.okX sc_Disk_write (fun vs H Q E h => ?_) (fun cdv A outer s H vs Q E hr h => ?_)
  · obtain ⟨D, pl, y, ws, rfl, _⟩ := h
    rfl
  · obtain ⟨D, pl, y, ws, rfl, DD, p0, p1, hb, hnn, hl, k, kx⟩ := h
    have hu := hu_of hr
    refine ⟨_, pss_cons (ps_expr (pm T.cl Mc hr (pv 0) (pa_cons (pv 1) pa_nil)))
      (pss_cons (ps_if (pt_not (pt_val (pc Gb hr (pa_cons (pv 2) pa_nil)))) (pss_one ps_never) pss_nil)
      (pss_cons (ps_expr (pmX0 T.cl Mb (passes_call (takes_of rfl rfl rfl rfl) (fun _ _ _ _ h => h)) hr (pv 0)))
      (pss_cons (ps_expr (pe_bm PySem.F.plainAttrs_list PySem.F.slot_list_append PySem.F.type_list_append mt_append (pe_fld (pv 0) rfl) (pa_cons (pe_tup (pa_cons (pv 1) (pa_cons (pv 2) pa_nil))) pa_nil)))
      (pss_one (ps_dput hu (pe_fld (pv 0) rfl) (pv 1) (pv 2) rfl))))), ?_⟩
    obtain ⟨dx0, h10⟩ := DD.ob
    refine ⟨_, rfl, D.p, dx0, _, rfl, h10, rfl, _, rfl, D, pl, rfl, DD, p0, p1, ?_⟩
    refine ⟨_, rfl, y, ws, rfl, hb, fun H1 s1 => ⟨_, rfl, iteF ?_⟩⟩
    have DD1 := DD.same s1
    obtain ⟨dx1, h11⟩ := DD1.ob
    refine ⟨_, rfl, D.p, dx1, _, rfl, h11, rfl, D, rfl, DD1, hnn, (fun hf H2 DD2 b2 t2 => ?_), fun e0 => kx e0 H1 s1⟩
    obtain ⟨ok, ⟨dx, h1⟩, h2, ⟨xs, h3, h3b⟩, h4, ⟨ys, h5, h5b⟩, h6, ⟨kvs, h7, h7b, h7c⟩, h8⟩ := id DD2
    have hb2 : Blk K H2 y ws := (hb.same s1).tup t2
    refine ⟨_, rfl, D.p, C, dx, _, _, rfl, h1, T.cl, T.nW, fl_waiting .., .inl ⟨rfl, _, SqL.of h5⟩, _, rfl, _, rfl, (by show 2 ≤ sizeLine; decide), fun t ht => ?_⟩
    have n1 : D.p ≠ t := ne_of_none h1 ht
    have n2 : D.z ≠ t := ne_of_none h2 ht
    have n3 : D.l ≠ t := ne_of_none h3 ht
    have n4 : D.wl ≠ t := ne_of_none h5 ht
    have n5 : D.nl ≠ t := ne_of_none h7 ht
    have m1 : D.p ≠ D.wl := ne_of h1 h5 (by intro z; cases z)
    have m2 : D.z ≠ D.wl := ne_of h2 h5 (by intro z; cases z)
    have m3 : D.nl ≠ D.wl := ne_of h7 h5 (by intro z; cases z)
    have m4 : D.p ≠ D.nl := ne_of h1 h7 (by intro z; cases z)
    have m5 : D.z ≠ D.nl := ne_of h2 h7 (by intro z; cases z)
    have m6 : D.l ≠ D.nl := ne_of h3 h7 (by intro z; cases z)
    have yl : ys.length = D.wt.length := pairedLen h5b
    refine ⟨D.wl, ys, _, rfl, rfl, by rw [upd_ne n4]; exact h5, small1000 (by omega), ?_⟩
    refine ⟨_, rfl, _, rfl, D.p, C, dx, _, _, rfl, by rw [upd_ne m1, upd_ne n1]; exact h1, T.cl, T.nN, fl_newest .., _, rfl, D.nl, _, rfl, DPut.k (k := Sum.inl pl) (by rw [upd_ne m3, upd_ne n5]; exact h7) (small1000 (by have q : kvs.length ≤ D.wt.length := h7c; omega)), ?_⟩
    have t3 : TupSame H2 (upd H2 t (.tup [V.int pl, y])) := TupSame.of (Same.new ht)
    have t4 : TupSame (upd H2 t (.tup [V.int pl, y])) (upd (upd H2 t (.tup [V.int pl, y])) D.wl (.lst (ys ++ [.ref t]))) := TupSame.put (by rw [upd_ne n4]; exact h5) (fun xs z => by cases z) (fun ob u z => by cases z)
    have t5 : TupSame (upd (upd H2 t (.tup [V.int pl, y])) D.wl (.lst (ys ++ [.ref t]))) (upd (upd (upd H2 t (.tup [V.int pl, y])) D.wl (.lst (ys ++ [.ref t]))) D.nl (.dK (putK kvs (Sum.inl pl) y))) :=
      TupSame.put (by rw [upd_ne m3, upd_ne n5]; exact h7) (fun xs z => by cases z) (fun ob u z => by cases z)
    have tt := (t3.trans t4).trans t5
    have m7 : D.l ≠ D.wl := h8
    refine k hf _ ?_ ?_ (((TupSame.of s1).trans t2).trans tt)
    · refine ⟨ok, ⟨dx, ?_⟩, ?_, ⟨xs, ?_, h3b.tup tt⟩, h4, ⟨ys ++ [.ref t], ?_, pairedApp ?_ (Paired.mapP h5b fun _ _ q => q.tup tt)⟩, ?_, ⟨_, upd_same, (h7b.tup tt).app (hb2.tup tt), ?_⟩, h8⟩
      · rw [upd_ne m4, upd_ne m1, upd_ne n1]; exact h1
      · rw [upd_ne m5, upd_ne m2, upd_ne n2]; exact h2
      · rw [upd_ne m6, upd_ne m7, upd_ne n3]; exact h3
      · rw [upd_ne m3.symm, upd_same]
      · have tn : t ≠ D.nl := n5.symm
        have tw : t ≠ D.wl := n4.symm
        exact ⟨t, y, rfl, SqT.of (by rw [upd_ne tn, upd_ne tw, upd_same]), hb2.tup tt, p0, p1⟩
      · rw [List.length_append, List.length_singleton]; have q : D.wt.length < 900 := hl; omega
      · have q1 := length_putK kvs (Sum.inl pl) y
        have q2 : kvs.length ≤ D.wt.length := h7c
        rw [List.length_append, List.length_singleton]; omega
    · intro c o e hc
      simp only [List.mem_cons, List.not_mem_nil, or_false, not_or] at hc
      have e2 := b2 c o (s1 c o e) (by simp [hc.1])
      rw [upd_ne hc.2.2, upd_ne hc.2.1, upd_ne (ne_of_none e2 ht)]; exact e2
theorem ok_forceX (D : MthT K C "force" "Disk.force" S_Disk_force) (T : DT K mg C fI ba) (Mb : MCalX P w K mg base C 3 "_burn" ["self"] (spBurnX K C PC)) (Mn : MCal P w K mg base C 1 "_wait_for_none" ["self"] (spNone K C)) :
    FnOk P w K mg base (L2.CX P w) 4 D.f D.fd ["self"] (spForceX K C PC) := by
  refine D.F.okX sc_Disk_force (fun vs H Q E h => ?_) (fun cdv A outer s H vs Q E hr h => ?_)
  · obtain ⟨D, rfl, _⟩ := h
    rfl
  · obtain ⟨D, rfl, DD, hnn, k, kx⟩ := h
    have nd := sc_Disk_force.nd
    refine ⟨_, pss_cons (ps_expr (pmX0 T.cl Mb (passes_call (takes_of rfl rfl rfl rfl) (fun _ _ _ _ h => h)) hr (pv 0)))
      (pss_cons (ps_for (passes_of rfl) rfl (pi_list (pe_fld (pv 0) rfl)) (pg_tup rfl (pgs_cons (pg_name (i := 1) nd rfl (Or.inl rfl)) (pgs_cons (pg_name (i := 2) nd rfl (Or.inl rfl)) pgs_nil)))
        (pss_one (ps_asg (pv 2) (pg_sub (pe_fld (pv 0) rfl) (pv 1) set_list))))
      (pss_one (ps_expr (pm0 T.cl Mn hr (pv 0))))), ?_⟩
    obtain ⟨dx0, h10⟩ := DD.ob
    refine ⟨_, rfl, D.p, dx0, _, rfl, h10, rfl, D, rfl, DD, hnn, (fun hf H1 DD1 b1 t1 => ?_), kx⟩
    obtain ⟨ok, ⟨dx, h1⟩, h2, ⟨xs, h3, h3b⟩, h4, ⟨ys, h5, h5b⟩, h6, ⟨kvs, h7, h7b, h7c⟩, h8⟩ := id DD1
    refine ⟨_, rfl, D.p, C, dx, _, _, rfl, h1, T.cl, T.nW, fl_waiting .., D.wl, rfl, ⟨_, SqL.of h5⟩, ?_⟩
    have lw : D.l ≠ D.wl := h8
    have pl0 : D.p ≠ D.l := ne_of h1 h3 (by intro z; cases z)
    have zl0 : D.z ≠ D.l := ne_of h2 h3 (by intro z; cases z)
    have nl0 : D.nl ≠ D.l := ne_of h7 h3 (by intro z; cases z)
    refine for_list (K := K) (a := D.wl) (xs := ys) (fun i σ H2 => ∃ (v1 v2 : Option V) (zs : List V), σ = [some (.ref D.p), v1, v2] ∧ H2 D.l = some (.lst zs) ∧ Blks K H2 zs (forcedS D.st (D.wt.take i)) ∧ But [D.l] H1 H2 ∧ TupSame H1 H2)
      ⟨none, none, xs, rfl, h3, h3b, But.refl, TupSame.refl⟩ (fun i σ H2 _ ⟨_, _, _, _, _, _, b2, _⟩ => SqL.of (b2 _ _ h5 (by simp [lw.symm]))) ?_ ?_
    · rintro i y σ H2 hi ⟨v1, v2, zs, rfl, g1, g2, b2, t2⟩
      have hil : i < D.wt.length := by
        have q := (List.getElem?_eq_some_iff.mp hi).1
        rw [pairedLen h5b] at q
        exact q
      obtain ⟨y', q, e1, e2, hw⟩ := pairedGet h5b hil
      rw [hi] at e1
      cases e1
      obtain ⟨t, yb, rfl, g3, g4, g5, g6⟩ := hw
      have e3 : zs.length = D.st.length := by rw [pairedLen g2, forcedS_len]
      have e4 : (D.st.length : Int) = manyI D.s D.b := h4
      refine ⟨t, _, rfl, tupT t2 g3, rfl, ?_⟩
      have g6' : q.1 < manyI D.s D.b := g6
      have e5 : q.1 < (zs.length : Int) := by rw [e3, e4]; exact g6'
      refine ⟨_, _, rfl, _, _, rfl, rfl, ?_⟩
      refine ⟨_, rfl, _, rfl, D.p, C, dx, _, _, rfl, b2 _ _ h1 (by simp [pl0]), T.cl, T.nT, fl_standing .., _, rfl, D.l, zs, q.1, q.1.toNat, rfl, rfl, g1, ixN_at g5 e5, ?_⟩
      have t3 : TupSame H2 (upd H2 D.l (.lst (zs.set q.1.toNat yb))) := TupSame.put g1 (fun xs z => by cases z) (fun ob u z => by cases z)
      refine ⟨_, _, zs.set q.1.toNat yb, rfl, upd_same, ?_, b2.trans (But.put (by simp)), t2.trans t3⟩
      rw [forcedS_next e2]
      exact pairedSet ((g4.tup t2).tup t3) _ (g2.tup t3)
    · rintro σ H2 ⟨v1, v2, zs, rfl, g1, g2, b2, t2⟩
      rw [pairedLen h5b, List.take_length] at g2
      have h12 := b2 _ _ h1 (by simp [pl0])
      refine ⟨_, rfl, D.p, dx, _, rfl, h12, rfl, { D with st := forcedS D.st D.wt, fu := fuDown D.fu }, rfl, ?_, fun wl' nl' H' n1 n2 D' b3 t3 => ?_⟩
      · exact ⟨ok, ⟨dx, h12⟩, b2 _ _ h2 (by simp [zl0]), ⟨zs, g1, g2⟩, by show (((forcedS D.st D.wt).length : Nat) : Int) = _; rw [forcedS_len]; exact h4,
          ⟨ys, b2 _ _ h5 (by simp [lw.symm]), Paired.mapP h5b fun _ _ q => q.tup t2⟩, h6, ⟨kvs, b2 _ _ h7 (by simp [nl0]), h7b.tup t2, h7c⟩, h8⟩
      · have fr : ∀ {c : Addr}, c ≠ D.p → c ≠ D.l → H2 c = none → H c = none := fun {c} n1 n2 e => by
          cases q : H c with
          | none => rfl
          | some u => rw [b2 c u (b1 c u q (by simp [n1])) (by simp [n2])] at e; cases e
        have l2 : H2 D.l ≠ none := by rw [g1]; exact nofun
        have p2 : H2 D.p ≠ none := by rw [h12]; exact nofun
        refine k hf wl' nl' H' (fr (fun z => p2 (by rw [← z]; exact n1)) (fun z => l2 (by rw [← z]; exact n1)) n1) (fr (fun z => p2 (by rw [← z]; exact n2)) (fun z => l2 (by rw [← z]; exact n2)) n2) D' ?_ ((t1.trans t2).trans t3)
        intro c o e hc
        simp only [List.mem_cons, List.not_mem_nil, or_false, not_or] at hc
        exact b3 c o (b2 c o (b1 c o e (by simp [hc.1])) (by simp [hc.2])) (by show c ∉ [D.p]; simp [hc.1])
end
end Tk17

namespace Tk17
open PySem PySem.Spec PyProof.Rows L2 Tk
def spFuse (K : PySem.W.Frag) (C : Addr) : Sp := fun vs H Q _ => ∃ (D : DS) (n : Int), vs = [.ref D.p, .int n] ∧ DA K C H D ∧ 0 ≤ n ∧ ∀ H', DA K C H' { D with fu := some n } → But [D.p] H H' → TupSame H H' → Q .non H'
def spCopied (K : PySem.W.Frag) (C ba : Addr) : Sp := fun vs H Q _ => ∃ (D : DS), vs = [.ref D.p] ∧ DA K C H D ∧ Blank K H ba ∧
  ∀ p z l wl nl H', H p = none → H z = none → H l = none → H wl = none → H nl = none → DA K C H' ⟨p, z, l, wl, nl, D.s, D.b, D.st, D.wt, none⟩ → Same H H' → Q (.ref p) H'
def spIsFuse : Sp := fun vs H Q _ => ∃ (n : Int), vs = [.int n] ∧ 0 ≤ n ∧ Q (.bl true) H
section
variable {P : Program} {w : World} {K : PySem.W.Frag} {mg : Str → Option Value} {base : Heap} {C fI ba : Addr}
theorem ok_isfuse (D : DefT K mg "is_fuse" S_is_fuse) (Gi : Cal P w K mg base 1 "is_integer" ["thing"] (spInt K)) : FnOk P w K mg base CX0 2 D.f D.fd ["thing"] spIsFuse := by
  refine D.F.ok sc_is_fuse (fun vs H Q E h => ?_) (fun cdv A outer s H vs Q E hr h => ?_)
  · obtain ⟨n, rfl, _⟩ := h
    rfl
  · obtain ⟨n, rfl, n0, k⟩ := h
    refine ⟨_, pss_one (ps_ret (pe_and (pc Gi hr (pa_cons (pv 0) pa_nil)) (pe_one (pe_cmpR op_ge (pv 0) pe_int (nomark _))))), ?_⟩
    refine ⟨_, rfl, .int n, _, rfl, Ty.int K H n, ?_⟩
    refine ⟨true, rfl, iteT ?_⟩
    refine ⟨_, rfl, _, _, rfl, rfl, ?_⟩
    show Q (V.bl (decide (0 ≤ n))) H
    rw [show decide (0 ≤ n) = true from decide_eq_true n0]
    exact k
theorem ok_fuse (D : MthT K C "fuse" "Disk.fuse" S_Disk_fuse) (T : DT K mg C fI ba) (Gi : Cal P w K mg base 2 "is_fuse" ["thing"] spIsFuse) : FnOk P w K mg base CX0 3 D.f D.fd ["self", "many"] (spFuse K C) := by
  refine D.F.ok sc_Disk_fuse (fun vs H Q E h => ?_) (fun cdv A outer s H vs Q E hr h => ?_)
  · obtain ⟨D, n, rfl, _⟩ := h
    rfl
  · obtain ⟨D, n, rfl, DD, n0, k⟩ := h
    obtain ⟨ok, ⟨dx, h1⟩, h2, ⟨xs, h3, h3b⟩, h4, ⟨ys, h5, h5b⟩, h6, ⟨kvs, h7, h7b, h7c⟩, h8⟩ := id DD
    refine ⟨_, pss_cons (ps_if (pt_not (pt_val (pc Gi hr (pa_cons (pv 1) pa_nil)))) (pss_one ps_never) pss_nil)
      (pss_one (ps_fld (pv 0) (pv 1) rfl)), ?_⟩
    refine ⟨_, rfl, n, rfl, n0, _, rfl, iteF ?_⟩
    refine ⟨_, rfl, _, rfl, D.p, C, dx, _, rfl, h1, T.cl, T.nF, (by show 5 < 1000; decide), ?_⟩
    have ts : TupSame H (upd H D.p (.ins C dx (fl D.z D.l D.wl D.nl (V.int n)))) := TupSame.put h1 (fun xs z => by cases z) (fun ob u z => by cases z)
    refine k _ ⟨ok, ⟨dx, upd_same⟩, ?_, ⟨xs, ?_, h3b.tup ts⟩, h4, ⟨ys, ?_, Paired.mapP h5b fun _ _ q => q.tup ts⟩, h6, ⟨kvs, ?_, h7b.tup ts, h7c⟩, h8⟩ (But.put (by simp)) ts
    · show upd _ _ _ D.z = _
      rw [upd_ne (ne_of h2 h1 (by intro z; cases z))]; exact h2
    · show upd _ _ _ D.l = _
      rw [upd_ne (ne_of h3 h1 (by intro z; cases z))]; exact h3
    · show upd _ _ _ D.wl = _
      rw [upd_ne (ne_of h5 h1 (by intro z; cases z))]; exact h5
    · show upd _ _ _ D.nl = _
      rw [upd_ne (ne_of h7 h1 (by intro z; cases z))]; exact h7
theorem ok_copied (D : MthT K C "copied" "Disk.copied" S_Disk_copied) (T : DT K mg C fI ba) (hL : mg "list" = none) (hD : mg "dict" = none) (I : ICal P w K mg base C 3 ["self", "segments", "blocks"] (spDInit K C ba)) : FnOk P w K mg base CX0 5 D.f D.fd ["self"] (spCopied K C ba) := by
  refine D.F.ok sc_Disk_copied (fun vs H Q E h => ?_) (fun cdv A outer s H vs Q E hr h => ?_)
  · obtain ⟨D, rfl, _⟩ := h
    rfl
  · obtain ⟨D, rfl, DD, hB, k⟩ := h
    have nd := sc_Disk_copied.nd
    obtain ⟨ok, ⟨dx, h1⟩, h2, ⟨xs, h3, h3b⟩, h4, ⟨ys, h5, h5b⟩, h6, ⟨kvs, h7, h7b, h7c⟩, h8⟩ := id DD
    refine ⟨_, pss_cons (ps_set (i := 1) nd rfl (Or.inl rfl) (pmk I hr T.mgC (pa_cons (pe_ix ix_tup (pe_fld (pv 0) rfl) pe_int (fun _ _ => rfl)) (pa_cons (pe_ix ix_tup (pe_fld (pv 0) rfl) pe_int (fun _ _ => rfl)) pa_nil))))
      (pss_cons (ps_fld (pv 1) (pe_callTy call_list_of (by rfl) hL (by decide +kernel) (pa_cons (pe_fld (pv 0) rfl) pa_nil)) rfl)
      (pss_cons (ps_fld (pv 1) (pe_callTy call_list_of (by rfl) hL (by decide +kernel) (pa_cons (pe_fld (pv 0) rfl) pa_nil)) rfl)
      (pss_cons (ps_fld (pv 1) (pe_callTy call_dictD (by rfl) hD (by decide +kernel) (pa_cons (pe_fld (pv 0) rfl) pa_nil)) rfl)
      (pss_one (ps_ret (pv 1)))))), ?_⟩
    refine ⟨_, rfl, D.p, C, dx, _, _, rfl, h1, T.cl, T.nS, fl_sizes .., D.z, _, _, _, rfl, rfl, SqT.of h2, at_of (j := 0) rfl rfl, _, rfl, D.p, C, dx, _, _, rfl, h1, T.cl, T.nS, fl_sizes .., D.z, _, _, _, rfl, rfl, SqT.of h2, at_of (j := 1) rfl rfl, fun p dx0 hp hdx0 ne0 => ⟨p, dx0, D.s, D.b, rfl, upd_same, ok, hB.tup (TupSame.of ((Same.new hdx0).trans (Same.new (by rw [upd_ne (fun e => ne0 e.symm)]; exact hp)))), fun z l wl nl H6 hz hl6 hwl hnl DD6 k6 => ⟨rfl, ?_⟩⟩⟩
    have hpH : H p = none := hp
    have s26 : Same H H6 := fun b o e => k6 b o (by rw [upd_ne (ne_of_none e hp), upd_ne (ne_of_none e hdx0)]; exact e) (ne_of_none e hp)
    obtain ⟨dx2, g1⟩ := DD6.ob
    have g2 := DD6.sz
    have fz := fresh2 hz
    clear k6 hdx0 ne0 DD6 hl6 hwl hnl
    have zp : z ≠ p := ne_of g2 g1 (by intro e; cases e)
    refine ⟨_, rfl, D.p, C, dx, _, _, rfl, s26 _ _ h1, T.cl, T.nT, fl_standing .., D.l, xs, rfl, .inl (SqL.of (s26 _ _ h3)), fun l' hl' => ⟨_, rfl, p, C, dx2, _, rfl, by rw [upd_ne (ne_of_none g1 hl')]; exact g1, T.cl, T.nT, (by show 5 < 1000; decide), ?_⟩⟩
    have np : ∀ {c : Addr} {o : HO}, H c = some o → c ≠ p := fun e => ne_of_none e hpH
    have nl' : ∀ {c : Addr} {o : HO}, H c = some o → c ≠ l' := fun e => ne_of_none (s26 _ _ e) hl'
    have a1 : l' ≠ p := fun e => by rw [e, g1] at hl'; cases hl'
    have fl' : H l' = none := s26.free hl'
    -- what waits
    refine ⟨_, rfl, D.p, C, dx, _, _, rfl, by rw [upd_ne (np h1), upd_ne (nl' h1)]; exact s26 _ _ h1, T.cl, T.nW, fl_waiting .., D.wl, ys, rfl, .inl (SqL.of (by rw [upd_ne (np h5), upd_ne (nl' h5)]; exact s26 _ _ h5)), fun w' hw' => ⟨_, rfl, p, C, dx2, fl z l' wl nl .non, rfl, ?_, T.cl, T.nW, (by show 5 < 1000; decide), ?_⟩⟩
    · have a2 : p ≠ w' := fun e => by rw [← e, upd_same] at hw'; cases hw'
      rw [upd_ne a2, upd_same]; rfl
    have a2 : w' ≠ p := fun e => by rw [e, upd_same] at hw'; cases hw'
    have a3 : w' ≠ l' := fun e => by rw [e, upd_ne a1, upd_same] at hw'; cases hw'
    have fw' : H w' = none := s26.free (by rw [upd_ne a2, upd_ne a3] at hw'; exact hw')
    have nw' : ∀ {c : Addr} {o : HO}, H c = some o → c ≠ w' := fun e => ne_of_none e fw'
    -- the newest
    refine ⟨_, rfl, D.p, C, dx, _, _, rfl, by rw [upd_ne (np h1), upd_ne (nw' h1), upd_ne (np h1), upd_ne (nl' h1)]; exact s26 _ _ h1, T.cl, T.nN, fl_newest .., D.nl, kvs, rfl, Rd.of (by rw [upd_ne (np h7), upd_ne (nw' h7), upd_ne (np h7), upd_ne (nl' h7)]; exact s26 _ _ h7), fun n' hn' => ⟨_, rfl, p, C, dx2, fl z l' w' nl .non, rfl, ?_, T.cl, T.nN, (by show 5 < 1000; decide), ?_⟩⟩
    · have a4 : p ≠ n' := fun e => by rw [← e, upd_same] at hn'; cases hn'
      rw [upd_ne a4, upd_same]; rfl
    have a4 : n' ≠ p := fun e => by rw [e, upd_same] at hn'; cases hn'
    have a5 : n' ≠ w' := fun e => by rw [e, upd_ne a2, upd_same] at hn'; cases hn'
    have a6 : n' ≠ l' := fun e => by rw [e, upd_ne a1, upd_ne a3.symm, upd_ne a1, upd_same] at hn'; cases hn'
    have hn6 : H6 n' = none := by rw [upd_ne a4, upd_ne a5, upd_ne a4, upd_ne a6] at hn'; exact hn'
    have hw6 : H6 w' = none := by rw [upd_ne a2, upd_ne a3] at hw'; exact hw'
    have fn' : H n' = none := s26.free hn6
    have nn' : ∀ {c : Addr} {o : HO}, H c = some o → c ≠ n' := fun e => ne_of_none e fn'
    have sF : Same H (upd (upd (upd (upd (upd (upd H6 l' (.lst xs)) p (.ins C dx2 (fl z l' wl nl .non))) w' (.lst ys)) p (.ins C dx2 (fl z l' w' nl .non))) n' (.dK kvs)) p (.ins C dx2 (fl z l' w' n' .non))) := fun c o e => by
      rw [upd_ne (np e), upd_ne (nn' e), upd_ne (np e), upd_ne (nw' e), upd_ne (np e), upd_ne (nl' e)]
      exact s26 _ _ e
    have t := TupSame.of sF
    refine ⟨_, rfl, k p z l' w' n' (upd (upd (upd (upd (upd (upd H6 l' (.lst xs)) p (.ins C dx2 (fl z l' wl nl .non))) w' (.lst ys)) p (.ins C dx2 (fl z l' w' nl .non))) n' (.dK kvs)) p (.ins C dx2 (fl z l' w' n' .non))) hpH fz fl' fw' fn' ⟨ok, ⟨dx2, upd_same⟩, ?_, ⟨xs, ?_, h3b.tup t⟩, h4, ⟨ys, ?_, Paired.mapP h5b fun _ _ q => q.tup t⟩, h6, ⟨kvs, ?_, h7b.tup t, h7c⟩, a3.symm⟩ sF⟩
    · show upd _ _ _ z = _
      rw [upd_ne zp, upd_ne (ne_of_none g2 hn6), upd_ne zp, upd_ne (ne_of_none g2 hw6), upd_ne zp, upd_ne (ne_of_none g2 hl')]; exact g2
    · show upd _ _ _ l' = _
      rw [upd_ne a1, upd_ne a6.symm, upd_ne a1, upd_ne a3.symm, upd_ne a1, upd_same]
    · show upd _ _ _ w' = _
      rw [upd_ne a2, upd_ne a5.symm, upd_ne a2, upd_same]
    · show upd _ _ _ n' = _
      rw [upd_ne a4, upd_same]
end
end Tk17

namespace Tk17
open PySem PySem.Spec PyProof.Rows L2 Tk
/-! ### one disk, its own blocks, the deck: what a deed may change -/
def SE (D : DS) (I : IS) : List Addr := [D.p, D.l, D.wl, D.nl, I.it, I.sl, I.wl]
structure W1 (K : PySem.W.Frag) (C : Addr) (H : Hp) (d c : Addr) (D : DS) (I : IS) : Prop where
  dk : DeckAt H d c
  da : DA K C H D
  ia : IA K H I
  ab : ∀ x ∈ [d, c], x ∉ [D.p, D.l, D.wl, D.nl]
  ae : ∀ x ∈ [d, c], x ∉ [I.it, I.sl, I.wl]
  be : ∀ x ∈ [I.it, I.sl, I.wl], x ∉ [D.p, D.l, D.wl, D.nl]
structure Mt (D : DS) (I : IS) : Prop where
  s : I.s = D.s
  b : I.b = D.b
  st : I.st = D.st
  wt : I.wt = D.wt
  fu : I.fu = D.fu
  fn : ∀ n, D.fu = some n → 0 ≤ n
structure Mv (H H' : Hp) (d c : Addr) (D : DS) (I : IS) (D' : DS) (I' : IS) : Prop where
  p : D'.p = D.p
  z : D'.z = D.z
  l : D'.l = D.l
  it : I'.it = I.it
  iz : I'.z = I.z
  sl : I'.sl = I.sl
  wl : D'.wl = D.wl ∨ H D'.wl = none
  nl : D'.nl = D.nl ∨ H D'.nl = none
  iw : I'.wl = I.wl ∨ H I'.wl = none
  b : But (d :: c :: SE D I) H H'
  t : TupSame H H'
  k : ∀ x, H x ≠ none → H' x ≠ none
theorem butDom {l : List Addr} {H H' : Hp} (b : But l H H') (h : ∀ x ∈ l, H' x ≠ none) : ∀ x, H x ≠ none → H' x ≠ none := fun x hx => by
  by_cases m : x ∈ l
  · exact h x m
  · cases q : H x with
    | none => exact absurd q hx
    | some o => rw [b x o q m]; exact nofun
section
variable {K : PySem.W.Frag} {C d c : Addr} {H H' H2 : Hp} {D D' D2 : DS} {I I' I2 : IS} {l : List Addr}
theorem DeckAt.on (W : DeckAt H d c) : ∀ x ∈ [d, c], H x ≠ none := fun x hx => by
  obtain ⟨m, t, ns, e1, e2, _⟩ := W.ex
  simp only [List.mem_cons, List.not_mem_nil, or_false] at hx
  rcases hx with e | e <;> rw [e]
  · rw [e1]; exact nofun
  · rw [e2]; exact nofun
theorem da_on (W : DA K C H D) : ∀ x ∈ [D.p, D.l, D.wl, D.nl], H x ≠ none := fun x hx => by
  obtain ⟨_, ⟨dx, g1⟩, g2, ⟨xs, g3, _⟩, _, ⟨ys, g5, _⟩, _, ⟨kvs, g7, _, _⟩, _⟩ := W
  simp only [List.mem_cons, List.not_mem_nil, or_false] at hx
  rcases hx with e | e | e | e <;> rw [e]
  · rw [g1]; exact nofun
  · rw [g3]; exact nofun
  · rw [g5]; exact nofun
  · rw [g7]; exact nofun
theorem ia_on (W : IA K H I) : ∀ x ∈ [I.it, I.sl, I.wl], H x ≠ none := fun x hx => by
  obtain ⟨_, i1, _, ⟨xs2, i3, _⟩, _, ⟨ys2, i5, _⟩, _, _⟩ := W
  simp only [List.mem_cons, List.not_mem_nil, or_false] at hx
  rcases hx with e | e | e <;> rw [e]
  · rw [i1]; exact nofun
  · rw [i3]; exact nofun
  · rw [i5]; exact nofun
theorem Mv.refl : Mv H H d c D I D I := ⟨rfl, rfl, rfl, rfl, rfl, rfl, .inl rfl, .inl rfl, .inl rfl, But.refl, TupSame.refl, fun _ h => h⟩
theorem fresh_back {x : Addr} (k : ∀ x, H x ≠ none → H' x ≠ none) (h : H' x = none) : H x = none := by
  cases q : H x with
  | none => rfl
  | some o => exact absurd h (k x (by rw [q]; exact nofun))
theorem Mv.trans (m : Mv H H' d c D I D' I') (n : Mv H' H2 d c D' I' D2 I2) (w : W1 K C H d c D I) : Mv H H2 d c D I D2 I2 := by
  have fr : ∀ {x y z : Addr}, (y = z ∨ H y = none) → (x = y ∨ H' x = none) → (x = z ∨ H x = none) := fun {x y z} h1 h2 => by
    rcases h2 with e | e
    · rw [e]; exact h1
    · exact .inr (fresh_back m.k e)
  refine ⟨n.p.trans m.p, n.z.trans m.z, n.l.trans m.l, n.it.trans m.it, n.iz.trans m.iz, n.sl.trans m.sl, fr m.wl n.wl, fr m.nl n.nl, fr m.iw n.iw, fun x o h hx => ?_, m.t.trans n.t, fun x h => n.k x (m.k x h)⟩
  have nn : ∀ {y z : Addr}, (y = z ∨ H y = none) → x ≠ z → x ≠ y := fun h1 h2 e => by
    rcases h1 with q | q
    · exact h2 (e.trans q)
    · rw [← e, h] at q; cases q
  refine n.b x o (m.b x o h hx) ?_
  simp only [SE, List.mem_cons, List.not_mem_nil, or_false, not_or] at hx ⊢
  obtain ⟨x1, x2, x3, x4, x5, x6, x7, x8, x9⟩ := hx
  exact ⟨x1, x2, by rw [m.p]; exact x3, by rw [m.l]; exact x4, nn m.wl x5, nn m.nl x6, by rw [m.it]; exact x7, by rw [m.sl]; exact x8, nn m.iw x9⟩
theorem W1.nz (W : W1 K C H d c D I) : D.z ∉ [d, c] ∧ D.z ∉ [I.it, I.sl, I.wl] := by
  obtain ⟨m, t, ns, e1, e2, _⟩ := W.dk.ex
  obtain ⟨_, _, g2, _⟩ := W.da
  obtain ⟨_, i1, _, ⟨xs2, i3, _⟩, _, ⟨ys2, i5, _⟩, _, _⟩ := W.ia
  have n : ∀ {a : Addr} {o : HO}, H a = some o → (∀ v, o ≠ .tup v) → D.z ≠ a := fun {a o} e t z => by
    have e' : H a = some (.tup (sizeV D.s D.b)) := by rw [← z]; exact g2
    rw [e] at e'
    cases e'
    exact t _ rfl
  refine ⟨?_, ?_⟩
  · simp [n e1 (fun v e => by cases e), n e2 (fun v e => by cases e)]
  · simp [n i1 (fun v e => by cases e), n i3 (fun v e => by cases e), n i5 (fun v e => by cases e)]
theorem W1.same (W : W1 K C H d c D I) (e : Same H H') : W1 K C H' d c D I ∧ Mv H H' d c D I D I :=
  ⟨⟨W.dk.same e, W.da.same e, W.ia.same e, W.ab, W.ae, W.be⟩, ⟨rfl, rfl, rfl, rfl, rfl, rfl, .inl rfl, .inl rfl, .inl rfl, But.of_same e, TupSame.of e, fun x h => by
    cases q : H x with
    | none => exact absurd q h
    | some o => rw [e x o q]; exact nofun⟩⟩
theorem W1.deck (W : W1 K C H d c D I) (Dk : DeckAt H' d c) (b : But [d, c] H H') : W1 K C H' d c D I ∧ Mv H H' d c D I D I := by
  have t := W.dk.tup b
  refine ⟨⟨Dk, W.da.but b t (fun x hx => apart5 (W.ab x hx) fun e => W.nz.1 (e ▸ hx)), W.ia.but b t (fun x hx => W.ae x hx), W.ab, W.ae, W.be⟩, ⟨rfl, rfl, rfl, rfl, rfl, rfl, .inl rfl, .inl rfl, .inl rfl, b.mono fun x hx => ?_, t, butDom b Dk.on⟩⟩
  simp only [List.mem_cons, List.not_mem_nil, or_false] at hx
  rcases hx with e | e <;> simp [e]
theorem sub_disk {x : Addr} (hx : x ∈ [D.p, D.l, D.wl, D.nl]) : x ∈ d :: c :: SE D I := by
  simp only [SE, List.mem_cons, List.not_mem_nil, or_false] at hx ⊢
  rcases hx with e | e | e | e <;> simp [e]
theorem sub_own {x : Addr} (hx : x ∈ [I.it, I.sl, I.wl]) : x ∈ d :: c :: SE D I := by
  simp only [SE, List.mem_cons, List.not_mem_nil, or_false] at hx ⊢
  rcases hx with e | e | e <;> simp [e]
theorem W1.disk (W : W1 K C H d c D I) (e1 : D'.p = D.p) (e2 : D'.z = D.z) (e3 : D'.l = D.l) (DD : DA K C H' D') (b : But l H H') (t : TupSame H H') (hl : ∀ x ∈ l, x ∈ [D.p, D.l, D.wl, D.nl]) (hk : ∀ x ∈ l, H' x ≠ none) (hw : D'.wl = D.wl ∨ H D'.wl = none) (hn : D'.nl = D.nl ∨ H D'.nl = none) :
    W1 K C H' d c D' I ∧ Mv H H' d c D I D' I := by
  have a1 : ∀ x ∈ l, x ∉ [d, c] := fun x hx h => W.ab x h (hl x hx)
  have a2 : ∀ x ∈ l, x ∉ [I.it, I.sl, I.wl] := fun x hx h => W.be x h (hl x hx)
  have nw : ∀ {y : Addr}, H y = none → y ∉ [d, c] := fun h m => W.dk.on _ m h
  have nv : ∀ {y : Addr}, H y = none → y ∉ [I.it, I.sl, I.wl] := fun h m => ia_on W.ia _ m h
  refine ⟨⟨W.dk.but b (fun h => a1 _ h (by simp)) (fun h => a1 _ h (by simp)), DD, W.ia.but b t a2, ?_, W.ae, ?_⟩, ⟨e1, e2, e3, rfl, rfl, rfl, hw, hn, .inl rfl, b.mono fun x hx => sub_disk (hl x hx), t, butDom b hk⟩⟩
  · rw [e1, e3]; exact notin_new (hw.imp id nw) (hn.imp id nw) W.ab
  · rw [e1, e3]; exact notin_new (hw.imp id nv) (hn.imp id nv) W.be
theorem W1.own (W : W1 K C H d c D I) (e1 : I'.it = I.it) (e2 : I'.z = I.z) (e3 : I'.sl = I.sl) (II : IA K H' I') (b : But l H H') (t : TupSame H H') (hl : ∀ x ∈ l, x ∈ [I.it, I.sl, I.wl]) (hk : ∀ x ∈ l, H' x ≠ none) (hw : I'.wl = I.wl ∨ H I'.wl = none) :
    W1 K C H' d c D I' ∧ Mv H H' d c D I D I' := by
  have a1 : ∀ x ∈ l, x ∉ [d, c] := fun x hx h => W.ae x h (hl x hx)
  have a2 : ∀ x ∈ l, x ∉ [D.p, D.l, D.wl, D.nl] := fun x hx => W.be x (hl x hx)
  have nw : ∀ {y : Addr}, H y = none → y ∉ [d, c] := fun h m => W.dk.on _ m h
  refine ⟨⟨W.dk.but b (fun h => a1 _ h (by simp)) (fun h => a1 _ h (by simp)), W.da.but b t (fun x hx => apart5 (a2 x hx) fun e => W.nz.2 (e ▸ hl x hx)), II, W.ab, ?_, ?_⟩, ⟨rfl, rfl, rfl, e1, e2, e3, .inl rfl, .inl rfl, hw, b.mono fun x hx => sub_own (hl x hx), t, butDom b hk⟩⟩
  · rw [e1, e3]; exact notin_new3 (hw.imp id nw) W.ae
  · intro x hx hm
    simp only [List.mem_cons, List.not_mem_nil, or_false] at hx
    rcases hx with e | e | e
    · exact W.be x (by simp [e, e1]) hm
    · exact W.be x (by simp [e, e3]) hm
    · rcases hw with z | z
      · exact W.be x (by simp [e, z]) hm
      · exact da_on W.da _ (e ▸ hm) z
end
end Tk17

namespace Tk17
open PySem PySem.Spec PyProof.Rows L2 Tk
def Aft (K : PySem.W.Frag) (C : Addr) (H : Hp) (d c : Addr) (D : DS) (I : IS) (Q : Hp → Prop) : Prop :=
  ∀ D' I' H', W1 K C H' d c D' I' → Mt D' I' → Mv H H' d c D I D' I' → D'.wt.length ≤ D.wt.length + 1 → D'.s = D.s → D'.b = D.b → Q H'
def spSet (K : PySem.W.Frag) (C : Addr) : Sp := fun vs H Q _ => ∃ (d c : Addr) (D : DS) (I : IS), vs = [.ref d, .ref D.p, .ref I.it] ∧ W1 K C H d c D I ∧ Mt D I ∧ Aft K C H d c D I (Q .non)
def spPassed (K : PySem.W.Frag) (C : Addr) : Sp := fun vs H Q _ => ∃ (d c : Addr) (D : DS) (I : IS) (f : Bool), vs = [.ref d, .ref D.p, .ref I.it, .bl f] ∧ W1 K C H d c D I ∧ Mt D I ∧ D.wt.length < 900 ∧ Aft K C H d c D I (Q (.bl true))
def spDid (K : PySem.W.Frag) (C : Addr) : Sp := fun vs H Q _ => ∃ (d c : Addr) (D : DS) (I : IS), vs = [.ref d, .ref D.p, .ref I.it] ∧ W1 K C H d c D I ∧ Mt D I ∧ D.wt.length < 900 ∧ Aft K C H d c D I (Q (.bl true))
theorem IA.setF {K : PySem.W.Frag} {H : Hp} {I : IS} (A : IA K H I) (fu' : Option Int) : IA K (upd H I.it (.dK (itK I.z I.sl I.wl (fuV fu')))) { I with fu := fu' } := by
  obtain ⟨ok, h1, h2, ⟨xs, h3, h3b⟩, h4, ⟨ys, h5, h5b⟩, h6, h8⟩ := A
  have t : TupSame H (upd H I.it (.dK (itK I.z I.sl I.wl (fuV fu')))) := TupSame.put h1 (fun xs z => by cases z) (fun ob u z => by cases z)
  refine ⟨ok, upd_same, tupT t h2, ⟨xs, ?_, h3b.tup t⟩, h4, ⟨ys, ?_, Paired.mapP h5b fun _ _ q => q.tup t⟩, h6, h8⟩
  · show upd _ _ _ I.sl = _
    rw [upd_ne (ne_of h3 h1 (by intro e; cases e))]; exact h3
  · show upd _ _ _ I.wl = _
    rw [upd_ne (ne_of h5 h1 (by intro e; cases e))]; exact h5
theorem itF_tup {K : PySem.W.Frag} {H : Hp} {I : IS} (A : IA K H I) (fu' : Option Int) : TupSame H (upd H I.it (.dK (itK I.z I.sl I.wl (fuV fu')))) := TupSame.put A.ob (fun xs z => by cases z) (fun ob u z => by cases z)
theorem IA.push {K : PySem.W.Frag} {H : Hp} {I : IS} {pb tp l1 w' : Addr} {pl : Int} {ws : List Int} {ys : List V} (A : IA K H I) (hb : Blk K H (.ref pb) ws) (p0 : 0 ≤ pl) (p1 : pl < manyI I.s I.b) (hlen : I.wt.length < 1000) (htp : H tp = none)
    (hl1 : (upd H tp (.tup [V.int pl, V.ref pb])) l1 = none) (hw : (upd (upd H tp (.tup [V.int pl, V.ref pb])) l1 (.lst [V.ref tp])) w' = none) (h5 : H I.wl = some (.lst ys)) :
    IA K (upd (upd (upd (upd H tp (.tup [V.int pl, V.ref pb])) l1 (.lst [V.ref tp])) w' (.lst (ys ++ [V.ref tp]))) I.it (.dK (itK I.z I.sl w' (fuV I.fu)))) { I with wl := w', wt := I.wt ++ [(pl, ws)] } ∧
    But [I.it] H (upd (upd (upd (upd H tp (.tup [V.int pl, V.ref pb])) l1 (.lst [V.ref tp])) w' (.lst (ys ++ [V.ref tp]))) I.it (.dK (itK I.z I.sl w' (fuV I.fu)))) ∧
    TupSame H (upd (upd (upd (upd H tp (.tup [V.int pl, V.ref pb])) l1 (.lst [V.ref tp])) w' (.lst (ys ++ [V.ref tp]))) I.it (.dK (itK I.z I.sl w' (fuV I.fu)))) ∧ H w' = none := by
  obtain ⟨ok, i1, i2, ⟨xs, i3, i3b⟩, i4, ⟨ys', i5, i5b⟩, i6, i8⟩ := A
  rw [h5] at i5
  cases i5
  have sA := ((Same.new (o := .tup [V.int pl, V.ref pb]) htp).trans (Same.new (o := .lst [V.ref tp]) hl1)).trans (Same.new (o := .lst (ys ++ [V.ref tp])) hw)
  have tpA := ((Same.new (o := .lst [V.ref tp]) hl1).trans (Same.new (o := .lst (ys ++ [V.ref tp])) hw)) _ _ (show (upd H tp (.tup [V.int pl, V.ref pb])) tp = some (.tup [V.int pl, V.ref pb]) from upd_same)
  have wA : (upd (upd (upd H tp (.tup [V.int pl, V.ref pb])) l1 (.lst [V.ref tp])) w' (.lst (ys ++ [V.ref tp]))) w' = some (.lst (ys ++ [V.ref tp])) := upd_same
  have wN : H w' = none := ((Same.new (o := .tup [V.int pl, V.ref pb]) htp).trans (Same.new (o := .lst [V.ref tp]) hl1)).free hw
  generalize upd (upd (upd H tp (.tup [V.int pl, V.ref pb])) l1 (.lst [V.ref tp])) w' (.lst (ys ++ [V.ref tp])) = H6 at sA tpA wA ⊢
  have t7 : TupSame H6 (upd H6 I.it (.dK (itK I.z I.sl w' (fuV I.fu)))) := TupSame.put (sA _ _ i1) (fun xs z => by cases z) (fun ob u z => by cases z)
  have t := (TupSame.of sA).trans t7
  have nsi : I.sl ≠ I.it := ne_of i3 i1 (by intro e; cases e)
  have nwi : w' ≠ I.it := (ne_of_none i1 wN).symm
  refine ⟨⟨ok, upd_same, tupT t i2, ⟨xs, ?_, i3b.tup t⟩, i4, ⟨ys ++ [V.ref tp], ?_, pairedApp ?_ (Paired.mapP i5b fun _ _ q => q.tup t)⟩, ?_, (ne_of_none i3 wN)⟩, (But.of_same sA).trans (But.put (by simp)), t, wN⟩
  · show upd _ _ _ I.sl = _
    rw [upd_ne nsi]; exact sA _ _ i3
  · show upd _ _ _ w' = _
    rw [upd_ne nwi]; exact wA
  · exact ⟨tp, _, rfl, tupT t7 (SqT.of tpA), hb.tup t, p0, p1⟩
  · show (I.wt ++ [(pl, ws)]).length ≤ 1000
    rw [List.length_append, List.length_singleton]; omega
theorem own1 {K : PySem.W.Frag} {H : Hp} {I : IS} (A : IA K H I) : ∀ x ∈ [I.it], H x ≠ none := fun x hx => ia_on A x (by rw [List.mem_singleton.mp hx]; simp)
section
variable {P : Program} {w : World} {K : PySem.W.Frag} {mg : Str → Option Value} {base : Heap} {C fI ba PC : Addr}
theorem ok_set (Df : DefT K mg "_law_set" S__law_set) (T : DT K mg C fI ba) (Gd : Cal P w K mg base 1 "_law_draw" ["deck", "below"] spDraw) (Mf : MCal P w K mg base C 3 "fuse" ["self", "many"] (spFuse K C)) : FnOk P w K mg base CX0 4 Df.f Df.fd ["deck", "disk", "it"] (spSet K C) := by
  refine Df.F.ok sc__law_set (fun vs H Q E h => ?_) (fun cdv A outer s0 H vs Q E hr h => ?_)
  · obtain ⟨d, c, D, I, rfl, _⟩ := h
    rfl
  · obtain ⟨d, c, D, I, rfl, W, M, k⟩ := h
    have hu := hu_of hr
    refine ⟨_, pss_cons (ps_dput hu (pv 2) pe_str (pc Gd hr (pa_cons (pv 0) (pa_cons pe_int pa_nil))) rfl)
      (pss_one (ps_expr (pm T.cl Mf hr (pv 1) (pa_cons (pe_dget hu (pv 2) pe_str (fun _ _ => rfl)) pa_nil)))), ?_⟩
    refine ⟨_, rfl, d, c, 4, rfl, W.dk, by decide, by decide, fun v H1 v0 v1 D1 b1 => ?_⟩
    obtain ⟨Wa, ma⟩ := W.deck D1 b1
    refine ⟨_, rfl, I.it, upd H1 I.it (.dK (itK I.z I.sl I.wl (fuV (some v)))), rfl, dpF Wa.ia.ob, ?_⟩
    obtain ⟨Wb, mb⟩ := Wa.own (I' := { I with fu := some v }) (l := [I.it]) rfl rfl rfl (Wa.ia.setF (some v)) (But.put (by simp)) (itF_tup Wa.ia (some v)) (fun x hx => by rw [List.mem_singleton.mp hx]; simp) (own1 (I := { I with fu := some v }) (Wa.ia.setF (some v))) (.inl rfl)
    generalize upd H1 I.it (.dK (itK I.z I.sl I.wl (fuV (some v)))) = H2 at Wb mb ⊢
    obtain ⟨dx, ob⟩ := Wb.da.ob
    have i1 : H2 I.it = some (.dK (itK I.z I.sl I.wl (fuV (some v)))) := Wb.ia.ob
    refine ⟨_, rfl, D.p, dx, _, rfl, ob, rfl, _, rfl, _, _, rfl, dgF i1, D, v, rfl, Wb.da, v0, fun H3 D3 b3 t3 => ?_⟩
    obtain ⟨Wc, mc⟩ := Wb.disk (D' := { D with fu := some v }) (l := [D.p]) rfl rfl rfl D3 b3 t3 (fun x hx => by rw [List.mem_singleton.mp hx]; simp) (fun x hx => da_on D3 x (by rw [List.mem_singleton.mp hx]; simp)) (.inl rfl) (.inl rfl)
    exact k { D with fu := some v } { I with fu := some v } H3 Wc ⟨M.s, M.b, M.st, M.wt, rfl, fun n e => by cases e; exact v0⟩ (ma.trans (mb.trans mc Wa) W) (Nat.le_succ _) rfl rfl
theorem ok_passed (Df : DefT K mg "_law_is_passed" S__law_is_passed) (T : DT K mg C fI ba) (Z : PCut P w K mg base PC) (eP : PySem.W.exmOne K (.ref PC) (.ref PC) = some true) (Gd : Cal P w K mg base 1 "_law_draw" ["deck", "below"] spDraw) (Gm : Cal P w K mg base 1 "_law_many" ["sizes"] (spMany K)) (Gb : Cal P w K mg base 4 "_law_block" ["deck"] spBlock)
    (Gf : Cal P w K mg base 1 "_law_forced" ["it"] (spForced K)) (Mf : MCalX P w K mg base C 4 "force" ["self"] (spForceX K C PC)) (Mw : MCalX P w K mg base C 6 "write" ["self", "place", "block"] (spWriteX K C PC)) (kw : KBn K Mw.fd ["self", "place", "block"] 1 ["block", "place"] two1 two1) :
    FnOk P w K mg base CX0 7 Df.f Df.fd ["deck", "disk", "it", "is_force"] (spPassed K C) := by
  refine Df.F.ok sc__law_is_passed (fun vs H Q E h => ?_) (fun cdv A outer s0 H vs Q E hr h => ?_)
  · obtain ⟨d, c, D, I, f, rfl, _⟩ := h
    rfl
  · obtain ⟨d, c, D, I, f, rfl, W, M, hlen, k⟩ := h
    have hu := hu_of hr
    have nd := sc__law_is_passed.nd
    refine ⟨_, pss_cons (ps_par3 (i := 4) (j := 5) (l := 6) rfl nd rfl rfl rfl (by decide) (by decide) (by decide) rfl rfl rfl (pa_cons (pc Gd hr (pa_cons (pv 0) (pa_cons (pc Gm hr (pa_cons (pe_dget hu (pv 2) pe_str (fun _ _ => rfl)) pa_nil)) pa_nil))) (pa_cons (pc Gb hr (pa_cons (pv 0) pa_nil)) (pa_cons pe_bl pa_nil))) (by rfl))
      (pss_cons (ps_try_only rfl rfl ⟨rfl, by decide, .inl Z.g⟩ takes0
          (fun W pn xe tk _ => pss_one (ps_if (pt_val (pv 3)) (pss_one (ps_expr (pmS0 T.cl Mf (fun σ => passAt tk σ) hr (pv 1)))) (pss_one (ps_expr (pmKS T.cl Mw (fun σ => passAt tk σ) kw hr (pv 1) (pk_cons (pv 5) (pk_cons (pv 4) pk_nil)))))))
          (fun a oe cls dd pn _ _ => pss_one (ps_set (i := 6) nd rfl (Or.inl rfl) pe_bl)))
      (pss_cons (ps_if (pt_cmpR op_eq (pe_dget hu (pv 2) pe_str (fun _ _ => rfl)) pe_int (nomark _)) (pss_one (ps_ret (pe_not (pv 6)))) pss_nil)
      (pss_cons (ps_dput hu (pv 2) pe_str (pe_ifExp (pt_cmpR op_isN (pe_dget hu (pv 2) pe_str (fun _ _ => rfl)) pe_non (nomark _)) (pe_dget hu (pv 2) pe_str (fun _ _ => rfl)) (pe_op op_sub (pe_dget hu (pv 2) pe_str (fun _ _ => rfl)) pe_int)) rfl)
      (pss_cons (ps_if (pt_val (pv 3)) (pss_one (ps_expr (pc Gf hr (pa_cons (pv 2) pa_nil))))
          (pss_one (ps_dput hu (pv 2) pe_str (pe_op op_cat (pe_dget hu (pv 2) pe_str (fun _ _ => rfl)) (pe_lst (pa_cons (pe_tup (pa_cons (pv 4) (pa_cons (pv 5) pa_nil))) pa_nil))) rfl)))
      (pss_one (ps_ret (pv 6))))))), ?_⟩
    have oks : SizeOk D.s D.b := W.da.ok
    obtain ⟨mm0, mm1⟩ := oks.many
    have em : manyI I.s I.b = manyI D.s D.b := by rw [M.s, M.b]
    refine ⟨_, rfl, _, rfl, _, _, rfl, dgS W.ia.ob, I.z, I.s, I.b, rfl, W.ia.sz, W.ia.ok, d, c, manyI I.s I.b, rfl, W.dk, by omega, by omega, fun pl H1 p0 p1 D1 b1 => ?_⟩
    obtain ⟨Wa, ma⟩ := W.deck D1 b1
    refine ⟨_, rfl, d, c, rfl, D1, fun pb ws H2 hpb h2 hwl hww D2 b2 => ?_⟩
    obtain ⟨Wb, mb⟩ := Wa.deck D2 b2
    have bk : Blk K H2 (.ref pb) ws := ⟨pb, rfl, SqT.of h2, hwl, hww⟩
    have m2 := ma.trans mb W
    rw [em] at p1
    refine ⟨_, _, _, rfl, ?_⟩
    obtain ⟨dx, ob⟩ := Wb.da.ob
    cases f with
    | true =>
      refine ⟨_, rfl, _, rfl, iteT ?_⟩
      refine ⟨_, rfl, D.p, dx, _, rfl, ob, rfl, D, rfl, Wb.da, M.fn, (fun hf wl' nl' H3 n1 n2 D3 b3 t3 => ?_), (fun e0 => ⟨true, eP, (fun _ a ha => ?_), fun q => nomatch q⟩)⟩
      · obtain ⟨Wc, mc⟩ := Wb.disk (D' := { D with wl := wl', nl := nl', wt := [], st := forcedS D.st D.wt, fu := fuDown D.fu }) (l := [D.p, D.l]) rfl rfl rfl D3 b3 t3 (fun x hx => subPL hx) (fun x hx => da_on D3 x (show x ∈ [D.p, D.l, wl', nl'] from subPL hx)) (.inr n1) (.inr n2)
        cases ef : D.fu with
        | none =>
          have i1 : H3 I.it = some (.dK (itK I.z I.sl I.wl (.non))) := by
            have q := Wc.ia.ob
            rw [M.fu, ef] at q
            exact q
          refine ⟨_, rfl, _, _, rfl, dgF i1, rfl, _, rfl, ?_⟩
          rw [show decide (V.non = V.int 0) = false from rfl]
          refine iteF ?_
          refine ⟨_, rfl, _, _, rfl, dgF i1, rfl, _, rfl, iteT ⟨_, rfl, _, _, rfl, dgF i1, _, rfl, I.it, upd H3 I.it (.dK (itK I.z I.sl I.wl (fuV none))), rfl, dpF i1, ?_⟩⟩
          obtain ⟨Wd, md⟩ := Wc.own (I' := { I with fu := none }) (l := [I.it]) rfl rfl rfl (Wc.ia.setF none) (But.put (by simp)) (itF_tup Wc.ia none) (fun x hx => by rw [List.mem_singleton.mp hx]; simp) (own1 (I := { I with fu := none }) (Wc.ia.setF none)) (.inl rfl)
          have bk4 := True.intro
          generalize upd H3 I.it (.dK (itK I.z I.sl I.wl (fuV none))) = H4 at Wd md ⊢
          have eF : none = fuDown D.fu := by rw [ef]; rfl
          have fF : ∀ m, fuDown D.fu = some m → 0 ≤ m := by
            rw [ef]
            exact (fun m e => by cases e)
          have m4 := (m2.trans (mc.trans md Wb) W)
          refine ⟨_, rfl, _, rfl, iteT ?_⟩
          refine ⟨_, rfl, { I with fu := fuDown D.fu }, rfl, by rw [← eF]; exact Wd.ia, fun wl5 H5 n5 I5 b5 t5 => ?_⟩
          obtain ⟨We, me⟩ := Wd.own (I' := { I with fu := fuDown D.fu, wl := wl5, wt := [], st := forcedS I.st I.wt }) (l := [I.it, I.sl]) rfl rfl rfl I5 b5 t5 (fun x hx => subIS hx) (fun x hx => ia_on I5 x (show x ∈ [I.it, I.sl, wl5] from subIS hx)) (.inr n5)
          exact ⟨_, rfl, k _ _ H5 We ⟨M.s, M.b, by show forcedS I.st I.wt = forcedS D.st D.wt; rw [M.st, M.wt], rfl, rfl, fF⟩ (m4.trans me W) (Nat.zero_le _) rfl rfl⟩
        | some n =>
          have i1 : H3 I.it = some (.dK (itK I.z I.sl I.wl (.int n))) := by
            have q := Wc.ia.ob
            rw [M.fu, ef] at q
            exact q
          refine ⟨_, rfl, _, _, rfl, dgF i1, rfl, _, rfl, ?_⟩
          have n0 := hf n ef
          rw [show decide (V.int n = V.int 0) = false from decide_eq_false (fun z => by injection z with z; omega)]
          refine iteF ?_
          refine ⟨_, rfl, _, _, rfl, dgF i1, rfl, _, rfl, iteF ⟨_, rfl, _, _, rfl, dgF i1, _, _, rfl, rfl, _, rfl, I.it, upd H3 I.it (.dK (itK I.z I.sl I.wl (fuV (some (n - 1))))), rfl, dpF i1, ?_⟩⟩
          obtain ⟨Wd, md⟩ := Wc.own (I' := { I with fu := (some (n - 1)) }) (l := [I.it]) rfl rfl rfl (Wc.ia.setF (some (n - 1))) (But.put (by simp)) (itF_tup Wc.ia (some (n - 1))) (fun x hx => by rw [List.mem_singleton.mp hx]; simp) (own1 (I := { I with fu := (some (n - 1)) }) (Wc.ia.setF (some (n - 1)))) (.inl rfl)
          have bk4 := True.intro
          generalize upd H3 I.it (.dK (itK I.z I.sl I.wl (fuV (some (n - 1))))) = H4 at Wd md ⊢
          have eF : (some (n - 1)) = fuDown D.fu := by rw [ef]; rfl
          have fF : ∀ m, fuDown D.fu = some m → 0 ≤ m := by
            rw [ef]
            exact (fun m e => by cases e; omega)
          have m4 := (m2.trans (mc.trans md Wb) W)
          refine ⟨_, rfl, _, rfl, iteT ?_⟩
          refine ⟨_, rfl, { I with fu := fuDown D.fu }, rfl, by rw [← eF]; exact Wd.ia, fun wl5 H5 n5 I5 b5 t5 => ?_⟩
          obtain ⟨We, me⟩ := Wd.own (I' := { I with fu := fuDown D.fu, wl := wl5, wt := [], st := forcedS I.st I.wt }) (l := [I.it, I.sl]) rfl rfl rfl I5 b5 t5 (fun x hx => subIS hx) (fun x hx => ia_on I5 x (show x ∈ [I.it, I.sl, wl5] from subIS hx)) (.inr n5)
          exact ⟨_, rfl, k _ _ H5 We ⟨M.s, M.b, by show forcedS I.st I.wt = forcedS D.st D.wt; rw [M.st, M.wt], rfl, rfl, fF⟩ (m4.trans me W) (Nat.zero_le _) rfl rfl⟩
      · skip
        have efu : I.fu = some 0 := M.fu.trans e0
        have i1 : H2 I.it = some (.dK (itK I.z I.sl I.wl (.int 0))) := by
          have q := Wb.ia.ob
          rw [efu] at q
          exact q
        refine ⟨_, rfl, _, _, rfl, dgF i1, rfl, _, rfl, ?_⟩
        rw [show decide (V.int 0 = V.int 0) = true from rfl]
        refine iteT ⟨_, rfl, _, rfl, ?_⟩
        exact k D I H2 Wb M m2 (Nat.le_succ _) rfl rfl
    | false =>
      refine ⟨_, rfl, _, rfl, iteF ?_⟩
      refine ⟨_, rfl, D.p, dx, _, rfl, ob, rfl, _, rfl, _, rfl, rfl, D, pl, .ref pb, ws, rfl, Wb.da, p0, p1, bk, M.fn, hlen, (fun hf H3 D3 b3 t3 => ?_), (fun e0 H3 s3 => ⟨true, eP, (fun _ a ha => ?_), fun q => nomatch q⟩)⟩
      · obtain ⟨Wc, mc⟩ := Wb.disk (D' := { D with wt := D.wt ++ [(pl, ws)], fu := fuDown D.fu }) (l := [D.p, D.wl, D.nl]) rfl rfl rfl D3 b3 t3 (fun x hx => subPW hx) (fun x hx => da_on D3 x (show x ∈ [D.p, D.l, D.wl, D.nl] from subPW hx)) (.inl rfl) (.inl rfl)
        have bk3 := bk.tup t3
        cases ef : D.fu with
        | none =>
          have i1 : H3 I.it = some (.dK (itK I.z I.sl I.wl (.non))) := by
            have q := Wc.ia.ob
            rw [M.fu, ef] at q
            exact q
          refine ⟨_, rfl, _, _, rfl, dgF i1, rfl, _, rfl, ?_⟩
          rw [show decide (V.non = V.int 0) = false from rfl]
          refine iteF ?_
          refine ⟨_, rfl, _, _, rfl, dgF i1, rfl, _, rfl, iteT ⟨_, rfl, _, _, rfl, dgF i1, _, rfl, I.it, upd H3 I.it (.dK (itK I.z I.sl I.wl (fuV none))), rfl, dpF i1, ?_⟩⟩
          obtain ⟨Wd, md⟩ := Wc.own (I' := { I with fu := none }) (l := [I.it]) rfl rfl rfl (Wc.ia.setF none) (But.put (by simp)) (itF_tup Wc.ia none) (fun x hx => by rw [List.mem_singleton.mp hx]; simp) (own1 (I := { I with fu := none }) (Wc.ia.setF none)) (.inl rfl)
          have bk4 := bk3.tup (itF_tup Wc.ia none)
          generalize upd H3 I.it (.dK (itK I.z I.sl I.wl (fuV none))) = H4 at Wd md bk4 ⊢
          have eF : none = fuDown D.fu := by rw [ef]; rfl
          have fF : ∀ m, fuDown D.fu = some m → 0 ≤ m := by
            rw [ef]
            exact (fun m e => by cases e)
          have m4 := (m2.trans (mc.trans md Wb) W)
          refine ⟨_, rfl, _, rfl, iteF ?_⟩
          obtain ⟨_, i4, _, _, _, ⟨ys, i5, i5b⟩, _, _⟩ := id Wd.ia
          have yl : ys.length = I.wt.length := pairedLen i5b
          have wl' : I.wt.length < 900 := by rw [M.wt]; exact hlen
          refine ⟨_, rfl, _, _, rfl, dgW i4, _, rfl, _, rfl, (by show 2 ≤ sizeLine; decide), fun tp htp => ⟨(by show 1 ≤ sizeLine; decide), fun l1 hl1 => ⟨_, l1, ys, _, rfl, rfl, ((Same.new htp).trans (Same.new hl1)) _ _ i5, upd_same, ?_, fun w' hw' => ⟨_, rfl, I.it, _, rfl, dpW (((Same.new htp).trans (Same.new hl1)).trans (Same.new hw') _ _ i4), ?_⟩⟩⟩⟩
          · refine Nat.le_trans (show ys.length + 1 ≤ 1000 from ?_) (by decide)
            omega
          obtain ⟨I6, b6, t6, n6⟩ := Wd.ia.push bk4 p0 (by show pl < manyI I.s I.b; omega) (by show I.wt.length < 1000; omega) htp hl1 hw' i5
          obtain ⟨We, me⟩ := Wd.own (I' := { I with fu := none, wl := w', wt := I.wt ++ [(pl, ws)] }) (l := [I.it]) rfl rfl rfl I6 b6 t6 (fun x hx => by rw [List.mem_singleton.mp hx]; simp) (fun x hx => ia_on I6 x (by rw [List.mem_singleton.mp hx]; exact List.mem_cons_self)) (.inr n6)
          exact ⟨_, rfl, k _ _ _ We ⟨M.s, M.b, M.st, by show I.wt ++ [(pl, ws)] = D.wt ++ [(pl, ws)]; rw [M.wt], eF, fF⟩ (m4.trans me W) (by show (D.wt ++ [(pl, ws)]).length ≤ _; rw [List.length_append, List.length_singleton]; exact Nat.le_refl _) rfl rfl⟩
        | some n =>
          have i1 : H3 I.it = some (.dK (itK I.z I.sl I.wl (.int n))) := by
            have q := Wc.ia.ob
            rw [M.fu, ef] at q
            exact q
          refine ⟨_, rfl, _, _, rfl, dgF i1, rfl, _, rfl, ?_⟩
          have n0 := hf n ef
          rw [show decide (V.int n = V.int 0) = false from decide_eq_false (fun z => by injection z with z; omega)]
          refine iteF ?_
          refine ⟨_, rfl, _, _, rfl, dgF i1, rfl, _, rfl, iteF ⟨_, rfl, _, _, rfl, dgF i1, _, _, rfl, rfl, _, rfl, I.it, upd H3 I.it (.dK (itK I.z I.sl I.wl (fuV (some (n - 1))))), rfl, dpF i1, ?_⟩⟩
          obtain ⟨Wd, md⟩ := Wc.own (I' := { I with fu := (some (n - 1)) }) (l := [I.it]) rfl rfl rfl (Wc.ia.setF (some (n - 1))) (But.put (by simp)) (itF_tup Wc.ia (some (n - 1))) (fun x hx => by rw [List.mem_singleton.mp hx]; simp) (own1 (I := { I with fu := (some (n - 1)) }) (Wc.ia.setF (some (n - 1)))) (.inl rfl)
          have bk4 := bk3.tup (itF_tup Wc.ia (some (n - 1)))
          generalize upd H3 I.it (.dK (itK I.z I.sl I.wl (fuV (some (n - 1))))) = H4 at Wd md bk4 ⊢
          have eF : (some (n - 1)) = fuDown D.fu := by rw [ef]; rfl
          have fF : ∀ m, fuDown D.fu = some m → 0 ≤ m := by
            rw [ef]
            exact (fun m e => by cases e; omega)
          have m4 := (m2.trans (mc.trans md Wb) W)
          refine ⟨_, rfl, _, rfl, iteF ?_⟩
          obtain ⟨_, i4, _, _, _, ⟨ys, i5, i5b⟩, _, _⟩ := id Wd.ia
          have yl : ys.length = I.wt.length := pairedLen i5b
          have wl' : I.wt.length < 900 := by rw [M.wt]; exact hlen
          refine ⟨_, rfl, _, _, rfl, dgW i4, _, rfl, _, rfl, (by show 2 ≤ sizeLine; decide), fun tp htp => ⟨(by show 1 ≤ sizeLine; decide), fun l1 hl1 => ⟨_, l1, ys, _, rfl, rfl, ((Same.new htp).trans (Same.new hl1)) _ _ i5, upd_same, ?_, fun w' hw' => ⟨_, rfl, I.it, _, rfl, dpW (((Same.new htp).trans (Same.new hl1)).trans (Same.new hw') _ _ i4), ?_⟩⟩⟩⟩
          · refine Nat.le_trans (show ys.length + 1 ≤ 1000 from ?_) (by decide)
            omega
          obtain ⟨I6, b6, t6, n6⟩ := Wd.ia.push bk4 p0 (by show pl < manyI I.s I.b; omega) (by show I.wt.length < 1000; omega) htp hl1 hw' i5
          obtain ⟨We, me⟩ := Wd.own (I' := { I with fu := (some (n - 1)), wl := w', wt := I.wt ++ [(pl, ws)] }) (l := [I.it]) rfl rfl rfl I6 b6 t6 (fun x hx => by rw [List.mem_singleton.mp hx]; simp) (fun x hx => ia_on I6 x (by rw [List.mem_singleton.mp hx]; exact List.mem_cons_self)) (.inr n6)
          exact ⟨_, rfl, k _ _ _ We ⟨M.s, M.b, M.st, by show I.wt ++ [(pl, ws)] = D.wt ++ [(pl, ws)]; rw [M.wt], eF, fF⟩ (m4.trans me W) (by show (D.wt ++ [(pl, ws)]).length ≤ _; rw [List.length_append, List.length_singleton]; exact Nat.le_refl _) rfl rfl⟩
      · obtain ⟨Wz, mz⟩ := Wb.same s3
        have efu : I.fu = some 0 := M.fu.trans e0
        have i1 : H3 I.it = some (.dK (itK I.z I.sl I.wl (.int 0))) := by
          have q := Wz.ia.ob
          rw [efu] at q
          exact q
        refine ⟨_, rfl, _, _, rfl, dgF i1, rfl, _, rfl, ?_⟩
        rw [show decide (V.int 0 = V.int 0) = true from rfl]
        refine iteT ⟨_, rfl, _, rfl, ?_⟩
        exact k D I H3 Wz M (m2.trans mz W) (Nat.le_succ _) rfl rfl
end
end Tk17

namespace Tk17
open PySem PySem.Spec PyProof.Rows L2 Tk
def spOCopied (K : PySem.W.Frag) : Sp := fun vs H Q _ => ∃ (I : IS), vs = [.ref I.it] ∧ IA K H I ∧
  ∀ it sl wl H', H it = none → H sl = none → H wl = none → IA K H' ⟨it, I.z, sl, wl, I.s, I.b, I.st, I.wt, none⟩ → Same H H' → Q (.ref it) H'
def spShuf (K : PySem.W.Frag) : Sp := fun vs H Q _ => ∃ (d c l : Addr), vs = [.ref d, .ref l] ∧ DeckAt H d c ∧ H l = some (.lst [V.int 0, V.int 1, V.int 2]) ∧
  ∀ (p : Addr) (ks : List Int) (H' : Hp), H p = none → H' p = some (.lst (ks.map V.int)) → ks.length = 3 → (∀ k ∈ ks, 0 ≤ k ∧ k < 3) → DeckAt H' d c → But [d, c] H H' → Q (.ref p) H'
section
variable {P : Program} {w : World} {K : PySem.W.Frag} {mg : Str → Option Value} {base : Heap} {C fI ba PC : Addr}
theorem ok_did (Df : DefT K mg "_law_did" S__law_did) (T : DT K mg C fI ba) (hlen0 : mg "len" = none) (Gd : Cal P w K mg base 1 "_law_draw" ["deck", "below"] spDraw) (Gk : Cal P w K mg base 3 "_law_keep" ["deck", "many"] (spKeep K)) (Gl : Cal P w K mg base 1 "_law_fell" ["it", "keep"] (spFell K))
    (Gs : Cal P w K mg base 4 "_law_set" ["deck", "disk", "it"] (spSet K C)) (Gp : Cal P w K mg base 7 "_law_is_passed" ["deck", "disk", "it", "is_force"] (spPassed K C)) (Mc : MCal P w K mg base C 5 "cut" ["self", "keep"] (spCut K C)) (kc : KBn K Mc.fd ["self", "keep"] 1 ["keep"] one1 one1) :
    FnOk P w K mg base CX0 8 Df.f Df.fd ["deck", "disk", "it"] (spDid K C) := by
  refine Df.F.ok sc__law_did (fun vs H Q E h => ?_) (fun cdv A outer s0 H vs Q E hr h => ?_)
  · obtain ⟨d, c, D, I, rfl, _⟩ := h
    rfl
  · obtain ⟨d, c, D, I, rfl, W, M, hlen, k⟩ := h
    have hu := hu_of hr
    have nd := sc__law_did.nd
    refine ⟨_, pss_cons (ps_set (i := 3) nd rfl (Or.inl rfl) (pc Gd hr (pa_cons (pv 0) (pa_cons pe_int pa_nil))))
      (pss_cons (ps_if (pt_cmpR op_eq (pv 3) pe_int (nomark _))
        (pss_cons (ps_set (i := 4) nd rfl (Or.inl rfl) (pc Gk hr (pa_cons (pv 0) (pa_cons (pe_callB call_len_seq (by rfl) hlen0 PySem.boot_len (pa_cons (pe_dget hu (pv 2) pe_str (fun _ _ => rfl)) pa_nil)) pa_nil))))
        (pss_cons (ps_expr (pmK T.cl Mc kc hr (pv 1) (pk_cons (pv 4) pk_nil)))
        (pss_cons (ps_expr (pc Gl hr (pa_cons (pv 2) (pa_cons (pv 4) pa_nil))))
        (pss_one (ps_ret pe_bl))))) pss_nil)
      (pss_cons (ps_if (pt_cmpR op_eq (pv 3) pe_int (nomark _))
        (pss_cons (ps_expr (pc Gs hr (pa_cons (pv 0) (pa_cons (pv 1) (pa_cons (pv 2) pa_nil))))) (pss_one (ps_ret pe_bl))) pss_nil)
      (pss_one (ps_ret (pc Gp hr (pa_cons (pv 0) (pa_cons (pv 1) (pa_cons (pv 2) (pa_cons (pe_cmpR op_eq (pv 3) pe_int (nomark _)) pa_nil))))))))), ?_⟩
    refine ⟨_, rfl, d, c, 8, rfl, W.dk, by decide, by decide, fun way H1 v0 v1 D1 b1 => ?_⟩
    obtain ⟨Wa, ma⟩ := W.deck D1 b1
    refine ⟨_, rfl, rfl, _, rfl, ?_⟩
    refine ite2 (fun _ => ?_) (fun _ => ?_)
    · obtain ⟨_, i1, _, _, _, ⟨ys, i5, i5b⟩, i6, _⟩ := id Wa.ia
      have yl : ys.length = I.wt.length := pairedLen i5b
      have wl' : I.wt.length < 900 := by rw [M.wt]; exact hlen
      refine ⟨_, rfl, _, rfl, _, _, rfl, dgW i1, I.wl, ys, rfl, .inl (SqL.of i5), d, c, (ys.length : Int), rfl, D1, by omega, by omega, fun kp ks H2 hkp hkl hkb D2 b2 => ?_⟩
      obtain ⟨Wb, mb⟩ := Wa.deck D2 b2
      obtain ⟨dx, ob⟩ := Wb.da.ob
      refine ⟨_, rfl, D.p, dx, _, rfl, ob, rfl, _, rfl, rfl, D, kp, ks, rfl, Wb.da, SqT.of hkp, hkl, hkb, fun wl2 nl2 H3 n1 n2 D3 b3 t3 => ?_⟩
      obtain ⟨Wc, mc⟩ := Wb.disk (D' := { D with wl := wl2, nl := nl2, wt := [], st := cutS D.st D.wt ks, fu := none }) (l := [D.p, D.l]) rfl rfl rfl D3 b3 t3 (fun x hx => subPL hx) (fun x hx => da_on D3 x (show x ∈ [D.p, D.l, wl2, nl2] from subPL hx)) (.inr n1) (.inr n2)
      refine ⟨_, rfl, _, rfl, I, kp, ks, rfl, Wc.ia, tupT t3 (SqT.of hkp), hkl, hkb, fun wl3 H4 n3 I4 b4 t4 => ?_⟩
      obtain ⟨Wd, md⟩ := Wc.own (I' := { I with wl := wl3, wt := [], st := cutS I.st I.wt ks, fu := none }) (l := [I.it, I.sl]) rfl rfl rfl I4 b4 t4 (fun x hx => subIS hx) (fun x hx => ia_on I4 x (show x ∈ [I.it, I.sl, wl3] from subIS hx)) (.inr n3)
      exact k _ _ H4 Wd ⟨M.s, M.b, by show cutS I.st I.wt ks = cutS D.st D.wt ks; rw [M.st, M.wt], rfl, rfl, fun n e => by cases e⟩ (ma.trans (mb.trans (mc.trans md Wb) Wa) W) (Nat.zero_le _) rfl rfl
    refine ⟨_, rfl, rfl, _, rfl, ?_⟩
    refine ite2 (fun _ => ?_) (fun _ => ?_)
    · refine ⟨_, rfl, _, rfl, _, rfl, d, c, D, I, rfl, Wa, M, fun D' I' H' W' M' m' l' e1 e2 => ?_⟩
      exact k D' I' H' W' M' (ma.trans m' W) l' e1 e2
    · refine ⟨_, rfl, _, rfl, _, rfl, _, rfl, rfl, d, c, D, I, _, rfl, Wa, M, hlen, fun D' I' H' W' M' m' l' e1 e2 => ?_⟩
      exact k D' I' H' W' M' (ma.trans m' W) l' e1 e2
theorem ok_ocopied (D : DefT K mg "_law_copied" S__law_copied) (hL : mg "list" = none) : FnOk P w K mg base CX0 1 D.f D.fd ["it"] (spOCopied K) := by
  refine D.F.ok sc__law_copied (fun vs H Q E h => ?_) (fun cdv A outer s0 H vs Q E hr h => ?_)
  · obtain ⟨I, rfl, _⟩ := h
    rfl
  · obtain ⟨I, rfl, IH, k⟩ := h
    have hu := hu_of hr
    obtain ⟨ok, h1, h2, ⟨xs, h3, h3b⟩, h4, ⟨ys, h5, h5b⟩, h6, h8⟩ := id IH
    refine ⟨_, pss_one (ps_ret (pe_disp (pps_cons pe_str (pe_dget hu (pv 0) pe_str (fun _ _ => rfl)) (pps_cons pe_str (pe_callTy call_list_of (by rfl) hL (by decide +kernel) (pa_cons (pe_dget hu (pv 0) pe_str (fun _ _ => rfl)) pa_nil))
      (pps_cons pe_str (pe_callTy call_list_of (by rfl) hL (by decide +kernel) (pa_cons (pe_dget hu (pv 0) pe_str (fun _ _ => rfl)) pa_nil)) (pps_cons pe_str pe_non pps_nil)))) (by rfl) (by rfl) (fun z => by cases z) (by decide))), ?_⟩
    intro dd hd
    have s1 := Same.new (o := .dK []) hd
    have d1 : (upd H dd (.dK [])) dd = some (.dK []) := upd_same
    generalize upd H dd (.dK []) = H1 at s1 d1 ⊢
    refine ⟨_, rfl, _, _, rfl, dgS (s1 _ _ h1), _, rfl, _, _, rfl, dgT (s1 _ _ h1), I.sl, xs, rfl, .inl (SqL.of (s1 _ _ h3)), fun sl hsl => ?_⟩
    have s2 := Same.new (o := .lst xs) hsl
    refine ⟨_, rfl, _, _, rfl, dgW ((s1.trans s2) _ _ h1), I.wl, ys, rfl, .inl (SqL.of ((s1.trans s2) _ _ h5)), fun wl hwl => ?_⟩
    have s3 := Same.new (o := .lst ys) hwl
    have dn := (s2.trans s3) _ _ d1
    refine ⟨dn, itK I.z sl wl .non, rfl, by show 4 ≤ 15; decide, ?_⟩
    have slf := s3 _ _ (show (upd H1 sl (.lst xs)) sl = some (.lst xs) from upd_same)
    have wlf : (upd (upd H1 sl (.lst xs)) wl (.lst ys)) wl = some (.lst ys) := upd_same
    have nsd : sl ≠ dd := ne_of slf dn (by intro e; cases e)
    have nwd : wl ≠ dd := ne_of wlf dn (by intro e; cases e)
    have swl : sl ≠ wl := fun e => by rw [← e, upd_same] at hwl; cases hwl
    have fsl : H sl = none := s1.free hsl
    have fwl : H wl = none := (s1.trans s2).free hwl
    have sA := s2.trans s3
    generalize upd (upd H1 sl (.lst xs)) wl (.lst ys) = H3 at slf wlf dn sA ⊢
    have sF : Same H (upd H3 dd (.dK (itK I.z sl wl .non))) := Same.put hd (s1.trans sA)
    have t := TupSame.of sF
    refine k dd sl wl _ hd fsl fwl ⟨ok, upd_same, tupT t h2, ⟨xs, ?_, h3b.tup t⟩, h4, ⟨ys, ?_, Paired.mapP h5b fun _ _ q => q.tup t⟩, h6, swl⟩ sF
    · show upd _ _ _ sl = _
      rw [upd_ne nsd]; exact slf
    · show upd _ _ _ wl = _
      rw [upd_ne nwd]; exact wlf
end
end Tk17

namespace Tk17
open PySem PySem.Spec PyProof.Rows L2 Tk
section
variable {P : Program} {w : World} {K : PySem.W.Frag} {mg : Str → Option Value} {base : Heap} {C fI ba PC : Addr}
theorem ok_shuf (D : DefT K mg "_law_shuffled" S__law_shuffled) (B : Bi mg) (hL : mg "list" = none) (hR : mg "range" = none) (Gd : Cal P w K mg base 1 "_law_draw" ["deck", "below"] spDraw) : FnOk P w K mg base CX0 2 D.f D.fd ["deck", "some"] (spShuf K) := by
  refine D.F.ok sc__law_shuffled (fun vs H Q E h => ?_) (fun cdv A outer s0 H vs Q E hr h => ?_)
  · obtain ⟨d, c, l, rfl, _⟩ := h
    rfl
  · obtain ⟨d, c, l, rfl, Dk, hl, k⟩ := h
    have nd := sc__law_shuffled.nd
    refine ⟨_, pss_cons (ps_par (i := 2) (j := 3) (by rfl) nd rfl rfl (by decide) rfl rfl (pa_cons (pe_callTy call_list_of (by rfl) hL (by decide +kernel) (pa_cons (pv 1) pa_nil)) (pa_cons (pe_lst pa_nil) pa_nil)) (by rfl))
      (pss_cons (ps_for PassesOwn.never rfl (pi_range1 (by rfl) hR (pa_cons (pe_callB call_len_seq (by rfl) B.len PySem.boot_len (pa_cons (pv 2) pa_nil)) pa_nil)) (pg_name (i := 4) nd rfl (Or.inl rfl))
        (pss_one (ps_expr (pe_bm PySem.F.plainAttrs_list PySem.F.slot_list_append PySem.F.type_list_append mt_append (pv 3) (pa_cons (pe_bm PySem.F.plainAttrs_list PySem.F.slot_list_pop PySem.F.type_list_pop mt_popAt (pv 2) (pa_cons (pc Gd hr (pa_cons (pv 0) (pa_cons (pe_callB call_len_seq (by rfl) B.len PySem.boot_len (pa_cons (pv 2) pa_nil)) pa_nil))) pa_nil)) pa_nil)))))
      (pss_one (ps_ret (pv 3)))), ?_⟩
    refine ⟨_, rfl, l, _, rfl, .inl (SqL.of hl), fun lf hlf => ⟨(by show 0 ≤ sizeLine; decide), fun fd hfd => ⟨_, _, rfl, ?_⟩⟩⟩
    have s1 := (Same.new (o := .lst [V.int 0, V.int 1, V.int 2]) hlf).trans (Same.new (o := .lst []) hfd)
    have fdH : H fd = none := (Same.new (o := .lst [V.int 0, V.int 1, V.int 2]) hlf).free hfd
    have nlf : lf ≠ fd := fun e => by rw [← e, upd_same] at hfd; cases hfd
    have e1 : (upd (upd H lf (.lst [V.int 0, V.int 1, V.int 2])) fd (.lst [])) lf = some (.lst [V.int 0, V.int 1, V.int 2]) := by rw [upd_ne nlf, upd_same]
    have e2 : (upd (upd H lf (.lst [V.int 0, V.int 1, V.int 2])) fd (.lst [])) fd = some (.lst []) := upd_same
    obtain ⟨a1, a2⟩ := Dk.nd hlf
    obtain ⟨a3, a4⟩ := Dk.nd fdH
    generalize upd (upd H lf (.lst [V.int 0, V.int 1, V.int 2])) fd (.lst []) = H1 at s1 e1 e2 ⊢
    refine ⟨_, rfl, lf, _, rfl, .inl (SqL.of e1), 3, rfl, by decide, by decide, ?_⟩
    refine for_range (lo := 0) (n := 3) (fun i σ H2 => ∃ (v4 : Option V) (xs : List V) (ks : List Int), σ = [some (.ref d), some (.ref l), some (.ref lf), some (.ref fd), v4] ∧ H2 lf = some (.lst xs) ∧ H2 fd = some (.lst (ks.map V.int)) ∧ xs.length + i = 3 ∧ ks.length = i ∧ (∀ v ∈ xs, ∃ z : Int, v = .int z ∧ 0 ≤ z ∧ z < 3) ∧ (∀ z ∈ ks, 0 ≤ z ∧ z < 3) ∧ DeckAt H2 d c ∧ But [d, c] H H2)
      ⟨none, _, [], rfl, e1, e2, rfl, rfl, ?_, fun _ h => absurd h List.not_mem_nil, Dk.same s1, But.of_same s1⟩ ?_ ?_
    · intro v hv
      simp only [List.mem_cons, List.not_mem_nil, or_false] at hv
      rcases hv with h | h | h <;> exact ⟨_, h, by decide, by decide⟩
    · rintro i σ H2 hi ⟨v4, xs, ks, rfl, g1, g2, g3, g4, g5, g6, D2, b2⟩
      refine ⟨_, rfl, .inl ⟨rfl, _, SqL.of g2⟩, _, rfl, .inl ⟨rfl, _, SqL.of g1⟩, _, rfl, _, rfl, lf, _, rfl, .inl (SqL.of g1), d, c, (xs.length : Int), rfl, D2, by omega, by omega, fun v H3 v0 v1 D3 b3 => ?_⟩
      have g1' := b3 _ _ g1 (by simp [a1, a2])
      have g2' := b3 _ _ g2 (by simp [a3, a4])
      have hlt : v.toNat < xs.length := by omega
      refine ⟨lf, xs, v, v.toNat, xs[v.toNat], rfl, rfl, g1', by omega, by omega, ?_, List.getElem?_eq_getElem hlt, ?_⟩
      · unfold seqIndex?
        simp [show ¬ v < 0 by omega, v0, v1]
      obtain ⟨z, ez, z0, z1⟩ := g5 _ (List.getElem_mem hlt)
      rw [ez]
      refine ⟨fd, _, _, rfl, rfl, by rw [upd_ne nlf.symm]; exact g2', small1000 (by rw [List.length_map]; omega), ?_⟩
      refine ⟨_, xs.eraseIdx v.toNat, ks ++ [z], rfl, by rw [upd_ne nlf, upd_same], by rw [upd_same, List.map_append]; rfl, by rw [List.length_eraseIdx_of_lt hlt]; omega, by rw [List.length_append, List.length_singleton]; omega, fun y hy => g5 y (List.mem_of_mem_eraseIdx hy), ?_, (D3.put a1 a2).put a3 a4, ?_⟩
      · intro y hy
        rcases List.mem_append.mp hy with h | h
        · exact g6 y h
        · rw [List.mem_singleton.mp h]; exact ⟨z0, z1⟩
      · exact butPutNew fdH (butPutNew hlf (b2.trans b3))
    · rintro σ H2 ⟨v4, xs, ks, rfl, g1, g2, g3, g4, g5, g6, D2, b2⟩
      exact ⟨_, rfl, k fd ks H2 fdH g2 g4 g6 D2 b2⟩
end
end Tk17

namespace Tk17
open PySem PySem.Spec PyProof.Rows L2 Tk
theorem lastW_cons (q : Int × List Int) (r : List (Int × List Int)) (pl : Int) : lastW (q :: r) pl = (lastW r pl).or (if q.1 = pl then some q.2 else none) := by
  unfold lastW
  rw [List.reverse_cons, List.find?_append]
  cases r.reverse.find? (fun p => decide (p.1 = pl)) with
  | some y => rfl
  | none =>
    by_cases e : q.1 = pl
    · simp [e]
    · simp [e]
theorem forced_rd : ∀ (wt : List (Int × List Int)) (st : List (List Int)) (pl : Int), 0 ≤ pl → pl.toNat < st.length → (∀ q ∈ wt, 0 ≤ q.1) → (forcedS st wt).getD pl.toNat [] = (lastW wt pl).getD (st.getD pl.toNat [])
  | [], st, pl, _, _, _ => rfl
  | q :: r, st, pl, h0, hl, hq => by
    show (forcedS (st.set q.1.toNat q.2) r).getD pl.toNat [] = _
    rw [forced_rd r (st.set q.1.toNat q.2) pl h0 (by rw [List.length_set]; exact hl) (fun y hy => hq y (List.mem_cons_of_mem _ hy)), lastW_cons]
    cases lastW r pl with
    | some y => rfl
    | none =>
      have q0 := hq q List.mem_cons_self
      by_cases e : q.1 = pl
      · subst e
        simp [List.getD_eq_getElem?_getD, List.getElem?_set_self hl]
      · have ne : q.1.toNat ≠ pl.toNat := by omega
        simp [e, List.getD_eq_getElem?_getD, List.getElem?_set_ne ne]
theorem lc_enum {K : PySem.W.Frag} {a : Addr} {xs : List V} {g : TG} {tt : TT} {te : TE} {vs : List Nat} {σ : L2.St} {H1 : Hp} {D : Addr} {Qd : Hp → Prop} (Pv : Nat → Hp → Prop) (h0 : Pv 0 (upd H1 D (.lst []))) (hl : ∀ i H, Pv i H → SqL K H a xs)
    (hs : ∀ i x T H, xs[i]? = some x → Pv i H → H T = none → g (.ref T) (wipe σ vs) (upd H T (.tup [.int (i : Nat), x])) fun σ2 H2 => wipe σ2 vs = wipe σ vs ∧ tt σ2 H2 fun b H3 =>
      if b = true then te σ2 H3 fun y H4 => ∃ acc, H4 D = some (.lst acc) ∧ acc.length < sizeLine ∧ Pv (i + 1) (upd H4 D (.lst (acc ++ [y]))) else Pv (i + 1) H3) (hd : ∀ H, Pv xs.length H → Qd H) :
    ∃ W : Nat → Nat → Hp → Prop, (∃ m, W 0 m (upd H1 D (.lst []))) ∧ ∀ i m H, W i m H →
      ((Ite K a).stop i H ∧ Qd H) ∨ ((Ite K a).go i H ∧ ∃ Nx : Hp → Prop, (∀ H', Nx H' → ∃ m', m' < m ∧ W (i + 1) m' H') ∧ ∀ x H', (Ite K a).yld i H x H' → g x (wipe σ vs) H' fun σ2 H2 => wipe σ2 vs = wipe σ vs ∧ tt σ2 H2 fun b H3 =>
        if b = true then te σ2 H3 fun y H4 => ∃ acc, H4 D = some (.lst acc) ∧ acc.length < sizeLine ∧ Nx (upd H4 D (.lst (acc ++ [y]))) else Nx H3) := by
  refine ⟨fun i m H => m = xs.length - i ∧ i ≤ xs.length ∧ Pv i H, ⟨xs.length, rfl, Nat.zero_le _, h0⟩, ?_⟩
  rintro i m H ⟨rfl, hi, p⟩
  have q := hl i H p
  by_cases hlt : i < xs.length
  · refine .inr ⟨⟨xs, _, q, List.getElem?_eq_getElem hlt⟩, Pv (i + 1), fun H' p' => ⟨_, by omega, rfl, by omega, p'⟩, ?_⟩
    rintro x H' ⟨T, y, rfl, hT, rfl, f1⟩
    exact hs i y T H (f1 _ q) p hT
  · have e : i = xs.length := by omega
    exact .inl ⟨⟨xs, q, by omega⟩, hd H (by rw [← e]; exact p)⟩
theorem shaped_tup (ns : List Int) : SeqAt.shaped (.tuple (ns.map PyData.int)) = true := by
  have h := depth_ints ns
  refine Bool.and_eq_true_iff.mpr ⟨by simp only [PyData.canLay0, canLay_ints], decide_eq_true ?_⟩
  simp only [PyData.depth]
  omega
theorem eqv_tup (ns : List Int) : PyData.eqv (blkD ns) (blkD ns) = true := PySem.SeqAt.eqv_refl _ (by show PyData.canLay0 (.tuple (ns.map PyData.int)) = true; simp only [PyData.canLay0, canLay_ints])
def spSame (K : PySem.W.Frag) (C : Addr) : Sp := fun vs H Q _ => ∃ (D : DS) (I : IS), vs = [.ref D.p, .ref I.it] ∧ DA K C H D ∧ IA K H I ∧ Mt D I ∧ D.wt.length ≤ 40 ∧ ∀ H', Same H H' → Q (.bl true) H'
def wtD (q : Int × List Int) : PyData := .tuple [.int q.1, blkD q.2]
theorem dp_wts {K : PySem.W.Frag} {H : Hp} {many : Int} : ∀ {ys : List V} {wt : List (Int × List Int)}, Paired (Wt K H many) ys wt → DpAll K H ys (wt.map wtD)
  | _, _, .nil => .nil
  | _, _, .cons r t => by
    obtain ⟨a, y, rfl, h1, h2, _, _⟩ := r
    exact .cons (.tup h1 (.cons (.int _) (.cons (dp_blk h2) .nil))) (dp_wts t)
theorem sh_wts {K : PySem.W.Frag} {H : Hp} {many : Int} {ys : List V} {wt : List (Int × List Int)} (h : Paired (Wt K H many) ys wt) (hm : many ≤ 1020) (hl : wt.length ≤ 40) : ShAll (wt.map wtD) 20000 2 := by
  have q : ShAll (wt.map wtD) ((470 + 2) * (wt.map wtD).length) 2 := ShAll.all fun d hd => by
    obtain ⟨pl, hw, rfl⟩ := List.mem_map.mp hd
    obtain ⟨i, hi⟩ := List.getElem?_of_mem hw
    obtain ⟨x, y, _, e2, ⟨a, yb, _, _, ⟨_, _, _, h3, h4⟩, h5, h6⟩⟩ := pairedGet h (List.getElem?_eq_some_iff.mp hi).1
    rw [hi] at e2
    cases e2
    exact (Sh.tup (.cons ((Sh.int h5 (by omega)).up (Nat.le_refl _) (Nat.zero_le _)) (.cons (sh_blk h3 h4) .nil))).up (by decide) (by decide)
  rw [List.length_map] at q
  obtain ⟨b1, b2, b3, b4⟩ := q
  exact ⟨b1, b2, b3, by omega⟩
section
variable {P : Program} {w : World} {K : PySem.W.Frag} {mg : Str → Option Value} {base : Heap} {C fI ba PC : Addr}
theorem ok_same (Df : DefT K mg "_law_is_same" S__law_is_same) (T : DT K mg C fI ba) (hL : mg "list" = none) (tT : mg "tuple" = none) (tS : mg "repr" = none) (hen : mg "enumerate" = none)
    (Mz : MCal P w K mg base C 1 "sizes" ["self"] (spDSizes K C)) (Mr : MCal P w K mg base C 4 "read" ["self", "place"] (spRead K C)) (Mw : MCal P w K mg base C 1 "waiting" ["self"] (spWaiting K C)) (Ms : MCal P w K mg base C 1 "standing" ["self"] (spStanding K C)) :
    FnG P w K mg base 5 Df.f Df.fd ["disk", "it"] (spSame K C) := by
  refine okG Df.F sc__law_is_same (fun vs H Q E h => ?_) (fun cdv A outer s0 H vs Q E hr hg h => ?_)
  · obtain ⟨D, I, rfl, _⟩ := h
    rfl
  · obtain ⟨D, I, rfl, DD, II, M, hlen, k⟩ := h
    have hu := hu_of hr
    have hu64 := hr.units
    have nd := sc__law_is_same.nd
    obtain ⟨p, z, l, wl, nl, s, b, st, wt, fu⟩ := D
    obtain ⟨it, iz, sl, iwl, s2, b2, st2, wt2, fu2⟩ := I
    obtain ⟨e1, e2, e3, e4, e5, fn⟩ := M
    dsimp only at e1 e2 e3 e4 e5 hlen
    subst e1 e2 e3 e4 e5
    refine ⟨_, pss_cons (ps_set (i := 2) nd rfl (Or.inl rfl) (pe_callTy call_list_of (by rfl) hL (by decide +kernel) (pa_cons (pe_dget hu (pv 1) pe_str (fun _ _ => rfl)) pa_nil)))
      (pss_cons (ps_for PassesOwn.never rfl (pi_list (pe_dget hu (pv 1) pe_str (fun _ _ => rfl))) (pg_tup rfl (pgs_cons (pg_name (i := 3) nd rfl (Or.inl rfl)) (pgs_cons (pg_name (i := 4) nd rfl (Or.inl rfl)) pgs_nil)))
        (pss_one (ps_asg (pv 4) (pg_sub (pv 2) (pv 3) set_list))))
      (pss_cons (ps_if (pt_cmpR op_ne (pe_callB (call_show hg hu64) (by rfl) tS boot_repr (pa_cons (pe_tup (pa_cons (pm0 T.cl Mz hr (pv 0)) (pa_cons (pm0 T.cl Mw hr (pv 0)) (pa_cons (pm0 T.cl Ms hr (pv 0)) pa_nil)))) pa_nil))
        (pe_callB (call_show hg hu64) (by rfl) tS boot_repr (pa_cons (pe_tup (pa_cons (pe_dget hu (pv 1) pe_str (fun _ _ => rfl)) (pa_cons (pe_callTy call_tuple_of (by rfl) tT (by decide +kernel) (pa_cons (pe_dget hu (pv 1) pe_str (fun _ _ => rfl)) pa_nil)) (pa_cons (pe_callTy call_tuple_of (by rfl) tT (by decide +kernel) (pa_cons (pe_dget hu (pv 1) pe_str (fun _ _ => rfl)) pa_nil)) pa_nil)))) pa_nil)) (nomark _)) (pss_one (ps_ret pe_bl)) pss_nil)
      (pss_one (ps_ret (pe_cmpR (op_eqD hu64) (pe_lc (own := [("place", 3), ("block", 4)]) (g := gTup K 2 (gCons (gName 3) (gCons (gName 4) gNil))) (tt := tTest (tOp (rNeD K) (tMeth C "read" (spRead K C) [] E0 (tVar 0) (tCons (tVar 3) tNil)) (tVar 4))) rfl nd (pi_enum (by rfl) hen (pa_cons (pv 2) pa_nil)) (blkOk_by (N := ["disk", "it", "seen", "place", "block"]) (sc := defScope S__law_is_same) (by decide +kernel))
          (fun _ _ _ _ _ => pg_tup rfl (pgs_cons (pg_name (i := 3) nd rfl (Or.inl rfl)) (pgs_cons (pg_name (i := 4) nd rfl (Or.inl rfl)) pgs_nil))) (fun _ _ _ _ _ => pts_one (pt_cmpR (op_neD hu64) (pm T.cl Mr hr (pv 0) (pa_cons (pv 3) pa_nil)) (pv 4) (nomark _))) (fun _ _ _ _ _ => pv 3)) (pe_lst pa_nil) (nomark _)))))), ?_⟩
    obtain ⟨ok, i1, i2, ⟨xs, i3, i3b⟩, i4, ⟨ws, i5, i5b⟩, i6, i8⟩ := id II
    have i4' : (st2.length : Int) = manyI s2 b2 := i4
    have i5c : Paired (Wt K H (manyI s2 b2)) ws wt2 := i5b
    obtain ⟨mm0, mm1⟩ := (show SizeOk s2 b2 from ok).many
    refine ⟨_, rfl, _, _, rfl, dgT i1, sl, xs, rfl, .inl (SqL.of i3), fun sn hsn => ?_⟩
    have s1 := Same.new (o := .lst xs) hsn
    have e1 : (upd H sn (.lst xs)) sn = some (.lst xs) := upd_same
    generalize upd H sn (.lst xs) = H1 at s1 e1 ⊢
    refine ⟨_, rfl, _, _, rfl, dgW (s1 _ _ i1), iwl, rfl, ⟨_, SqL.of (s1 _ _ i5)⟩, ?_⟩
    refine for_list (K := K) (a := iwl) (xs := ws) (fun i σ H2 => ∃ (v3 v4 : Option V) (zs : List V), σ = [some (.ref p), some (.ref it), some (.ref sn), v3, v4] ∧ H2 sn = some (.lst zs) ∧ Blks K H2 zs (forcedS st2 (wt2.take i)) ∧ Same H H2)
      ⟨none, none, xs, rfl, e1, i3b.tup (TupSame.of s1), s1⟩ (fun i σ H2 _ ⟨_, _, _, _, _, _, s⟩ => SqL.of (s _ _ i5)) ?_ ?_
    · rintro i y σ H2 hi ⟨v3, v4, zs, rfl, g1, g2, sS⟩
      have hil : i < wt2.length := by
        have q := (List.getElem?_eq_some_iff.mp hi).1
        rw [pairedLen i5b] at q
        exact q
      obtain ⟨y', q, f1, f2, hw⟩ := pairedGet i5c hil
      rw [hi] at f1
      cases f1
      obtain ⟨t, yb, rfl, g3, g4, g5, g6⟩ := hw
      have e3 : zs.length = st2.length := by rw [pairedLen g2, forcedS_len]
      refine ⟨t, _, rfl, sameT sS g3, rfl, _, _, rfl, _, _, rfl, rfl, ?_⟩
      refine ⟨_, rfl, _, rfl, _, rfl, sn, zs, q.1, q.1.toNat, rfl, rfl, g1, ixN_at g5 (by omega), ?_⟩
      have t3 : TupSame H2 (upd H2 sn (.lst (zs.set q.1.toNat yb))) := TupSame.put g1 (fun xs z => by cases z) (fun ob u z => by cases z)
      refine ⟨_, _, zs.set q.1.toNat yb, rfl, upd_same, ?_, Same.put hsn sS⟩
      rw [forcedS_next f2]
      exact pairedSet ((g4.tup (TupSame.of sS)).tup t3) _ (g2.tup t3)
    rintro σ H2 ⟨v3, v4, zs, rfl, g1, g2, sS⟩
    rw [pairedLen i5b, List.take_length] at g2
    -- the texts
    have stn : st2.length ≤ 1020 := by omega
    have DD2 := DD.same sS
    obtain ⟨dx, ob⟩ := DD2.ob
    refine ⟨_, rfl, p, dx, _, rfl, ob, rfl, ⟨p, z, l, wl, nl, s2, b2, st2, wt2, fu2⟩, rfl, DD2, _, rfl, p, dx, _, rfl, ob, rfl, ⟨p, z, l, wl, nl, s2, b2, st2, wt2, fu2⟩, rfl, DD2, fun t3 ys3 ht3 hy3 => ?_⟩
    have s16 : Same H2 (upd H2 t3 (.tup ys3)) := Same.new ht3
    have t316 : (upd H2 t3 (.tup ys3)) t3 = some (.tup ys3) := upd_same
    generalize upd H2 t3 (.tup ys3) = H16 at s16 t316 ⊢
    refine ⟨_, rfl, p, dx, _, rfl, s16 _ _ ob, rfl, ⟨p, z, l, wl, nl, s2, b2, st2, wt2, fu2⟩, rfl, DD2.same s16, fun t4 ys4 ht4 hy4 => ⟨(by show 3 ≤ sizeLine; decide), fun t5 ht5 => ?_⟩⟩
    have shA : Sh (.tuple [sizeP s2 b2, .tuple (wt2.map wtD), .tuple (st2.map blkD)]) 16000000 50 := (Sh.tup (.cons ((sh_size ok).up (Nat.le_refl _) (by decide)) (.cons (Sh.tup (sh_wts i5c mm1 hlen)) (.cons ((Sh.tup (sh_blkL i3b stn)).up (Nat.le_refl _) (by decide)) .nil)))).up (by decide) (by decide)
    have s17 := Same.new (o := .tup ys4) ht4
    have s18 := Same.new (o := .tup [V.ref z, V.ref t3, V.ref t4]) ht5
    have hy3' : Paired (Wt K H2 (manyI s2 b2)) ys3 wt2 := hy3
    have t36 := TupSame.of (s16.trans (s17.trans s18))
    have hz2 : H2 z = some (.tup (sizeV s2 b2)) := DD2.sz
    refine ⟨.ref t5, .tuple [sizeP s2 b2, .tuple (wt2.map wtD), .tuple (st2.map blkD)], rfl, .tup (SqT.of upd_same) (.cons (dp_size (SqT.of (s18 _ _ (s17 _ _ (s16 _ _ hz2))))) (.cons (.tup (SqT.of (s18 _ _ (s17 _ _ t316))) (dp_wts (Paired.mapP hy3' fun _ _ q => q.tup t36))) (.cons (.tup (SqT.of (s18 _ _ upd_same)) (dp_blks (hy4.tup (TupSame.of (s17.trans s18))))) .nil))), shA, ?_⟩
    have sB := (s16.trans s17).trans s18
    show _
    generalize upd (upd H16 t4 (.tup ys4)) t5 (.tup [V.ref z, V.ref t3, V.ref t4]) = H18 at sB ⊢
    clear s16 s17 s18 t316 ht3 ht4 ht5 hy3 hy4 hy3' t36
    have sX := sS.trans sB
    refine ⟨_, rfl, _, _, rfl, dgS (sX _ _ i1), _, rfl, _, _, rfl, dgW (sX _ _ i1), iwl, _, rfl, .inl ⟨SqL.of (sX _ _ i5), fun t6 ht6 => ?_⟩⟩
    have s19 := Same.new (o := .tup ws) ht6
    have t619 : (upd H18 t6 (.tup ws)) t6 = some (.tup ws) := upd_same
    generalize upd H18 t6 (.tup ws) = H19 at s19 t619 ⊢
    have sC := sX.trans s19
    refine ⟨_, rfl, _, _, rfl, dgT (sC _ _ i1), sl, _, rfl, .inl ⟨SqL.of (sC _ _ i3), fun t7 ht7 => ⟨(by show 3 ≤ sizeLine; decide), fun t8 ht8 => ?_⟩⟩⟩
    have s20 := Same.new (o := .tup xs) ht7
    have s21 := Same.new (o := .tup [V.ref iz, V.ref t6, V.ref t7]) ht8
    have sD := sC.trans (s20.trans s21)
    refine ⟨.ref t8, .tuple [sizeP s2 b2, .tuple (wt2.map wtD), .tuple (st2.map blkD)], rfl, .tup (SqT.of upd_same) (.cons (dp_size (sameT sD i2)) (.cons (.tup (SqT.of (s21 _ _ (s20 _ _ t619))) (dp_wts (Paired.mapP i5c fun _ _ q => q.tup (TupSame.of sD)))) (.cons (.tup (SqT.of (s21 _ _ upd_same)) (dp_blks (i3b.tup (TupSame.of sD)))) .nil))), shA, ?_⟩
    generalize PyData.shown (.tuple [sizeP s2 b2, .tuple (wt2.map wtD), .tuple (st2.map blkD)]) = sx
    refine ⟨rfl, _, rfl, neStr ?_⟩
    have sE := (sB.trans s19).trans (s20.trans s21)
    have g3 := sE _ _ g1
    have g4 : Blks K _ zs (forcedS st2 wt2) := g2.tup (TupSame.of sE)
    show _
    generalize upd (upd H19 t7 (.tup xs)) t8 (.tup [V.ref iz, V.ref t6, V.ref t7]) = H22 at sD sE g3 g4 ⊢
    clear shA sB sC sX s19 s20 s21 t619 ht6 ht7 ht8 sx g1 g2
    have DD3 := DD.same sD
    obtain ⟨dx3, ob3⟩ := DD3.ob
    have zl : zs.length = st2.length := by rw [pairedLen g4, forcedS_len]
    have q0 : ∀ q ∈ wt2, 0 ≤ q.1 := fun q hq => by
      obtain ⟨i, hi⟩ := List.getElem?_of_mem hq
      obtain ⟨x, y, _, f2, ⟨_, _, _, _, _, h5, _⟩⟩ := pairedGet i5c (List.getElem?_eq_some_iff.mp hi).1
      rw [hi] at f2
      cases f2
      exact h5
    refine ⟨_, rfl, sn, zs, rfl, SqL.of g3, fun r hr => lc_enum (K := K) (a := sn) (xs := zs) (fun i H' => H' r = some (.lst []) ∧ Same H22 H') ⟨upd_same, Same.new hr⟩ (fun i H' ⟨_, s⟩ => SqL.of (s _ _ g3)) ?_ ?_⟩
    · rintro i x Tp H' hx ⟨hr', s⟩ hT
      have hil := (List.getElem?_eq_some_iff.mp hx).1
      have s5 := Same.new (o := .tup [V.int ((i : Nat) : Int), x]) hT
      have sA := s.trans s5
      obtain ⟨x', wo, f1, f2, f3⟩ := pairedGet g4 (show i < (forcedS st2 wt2).length by rw [forcedS_len]; omega)
      rw [hx] at f1
      cases f1
      have ew : DS.read ⟨p, z, l, wl, nl, s2, b2, st2, wt2, fu2⟩ ((i : Nat) : Int) = wo := by
        have q := forced_rd wt2 st2 ((i : Nat) : Int) (by omega) (by rw [Int.toNat_natCast]; omega) q0
        show (lastW wt2 ((i : Nat) : Int)).getD (st2.getD ((i : Nat) : Int).toNat []) = wo
        rw [← q, Int.toNat_natCast, List.getD_eq_getElem?_getD, f2]
        rfl
      refine ⟨Tp, _, rfl, SqT.of upd_same, rfl, _, _, rfl, _, _, rfl, rfl, rfl, ?_⟩
      refine ⟨_, rfl, p, dx3, _, rfl, sA _ _ ob3, rfl, _, rfl, ⟨p, z, l, wl, nl, s2, b2, st2, wt2, fu2⟩, ((i : Nat) : Int), rfl, DD3.same sA, by omega, (by show ((i : Nat) : Int) < manyI s2 b2; omega), fun y hy => ?_⟩
      rw [ew] at hy
      refine ⟨_, rfl, blkD wo, blkD wo, dp_blk hy, dp_blk (f3.tup (TupSame.of sA)), shaped_tup _, shaped_tup _, _, rfl, ?_⟩
      rw [eqv_tup]
      exact iteF ⟨s5 _ _ hr', sA⟩
    rintro H' ⟨hr', s⟩
    refine ⟨(by show 0 ≤ sizeLine; decide), fun r2 hr2 => ?_⟩
    have s6 := Same.new (o := .lst []) hr2
    refine ⟨.list [], .list [], .lst (SqL.of (s6 _ _ hr')) .nil, .lst (SqL.of upd_same) .nil, shaped_ints [], shaped_ints [], ?_⟩
    have e : PyData.eqv (.list []) (.list []) = true := PySem.SeqAt.eqv_refl _ (by simp [PyData.canLay0, PyData.canLayAll0])
    rw [e]
    exact k _ ((sD.trans s).trans s6)
end
end Tk17

namespace Tk17
open PySem PySem.Spec PyProof.Rows L2 Tk
/-! ### up to three disks with their own blocks, all apart -/
structure MW (K : PySem.W.Frag) (C : Addr) (H : Hp) (d c : Addr) (n : Nat) (es : List (DS × IS)) : Prop where
  dk : DeckAt H d c
  el : ∀ (i : Nat) (e : DS × IS), es[i]? = some e → W1 K C H d c e.1 e.2 ∧ Mt e.1 e.2 ∧ e.1.wt.length ≤ n
  ap : ∀ (i j : Nat) (e f : DS × IS), es[i]? = some e → es[j]? = some f → i ≠ j → ∀ x ∈ SE e.1 e.2, x ∉ SE f.1 f.2
structure Pr (H : Hp) (d c : Addr) (es : List (DS × IS)) (a : Addr) (o : HO) : Prop where
  h : H a = some o
  nd : a ∉ [d, c]
  ne : ∀ (i : Nat) (e : DS × IS), es[i]? = some e → a ∉ SE e.1 e.2
section
variable {K : PySem.W.Frag} {C d c : Addr} {H H' : Hp} {D D' F : DS} {I I' J : IS} {l : List Addr} {n : Nat} {es : List (DS × IS)} {a : Addr} {o : HO}
theorem se_split {x : Addr} (h : x ∉ SE D I) : x ∉ [D.p, D.l, D.wl, D.nl] ∧ x ∉ [I.it, I.sl, I.wl] := by
  simp only [SE, List.mem_cons, List.not_mem_nil, or_false, not_or] at h ⊢
  obtain ⟨x3, x4, x5, x6, x7, x8, x9⟩ := h
  exact ⟨⟨x3, x4, x5, x6⟩, x7, x8, x9⟩
theorem se_on (W : W1 K C H d c D I) : ∀ x ∈ SE D I, H x ≠ none ∧ ∀ v, H x ≠ some (.tup v) := fun x hx => by
  obtain ⟨_, ⟨dx, g1⟩, g2, ⟨xs, g3, _⟩, _, ⟨ys, g5, _⟩, _, ⟨kvs, g7, _, _⟩, _⟩ := W.da
  obtain ⟨_, i1, _, ⟨xs2, i3, _⟩, _, ⟨ys2, i5, _⟩, _, _⟩ := W.ia
  have q : ∀ {y : Addr} {u : HO}, H y = some u → (∀ v, u ≠ .tup v) → x = y → H x ≠ none ∧ ∀ v, H x ≠ some (.tup v) := fun e t z => by
    rw [z, e]
    exact ⟨nofun, fun v h => t v (Option.some.inj h)⟩
  simp only [SE, List.mem_cons, List.not_mem_nil, or_false] at hx
  rcases hx with e | e | e | e | e | e | e
  · exact q g1 (fun v z => by cases z) e
  · exact q g3 (fun v z => by cases z) e
  · exact q g5 (fun v z => by cases z) e
  · exact q g7 (fun v z => by cases z) e
  · exact q i1 (fun v z => by cases z) e
  · exact q i3 (fun v z => by cases z) e
  · exact q i5 (fun v z => by cases z) e
theorem W1.frame (W : W1 K C H d c F J) (Dk : DeckAt H' d c) (b : But l H H') (t : TupSame H H') (hl : ∀ x ∈ l, x ∈ [d, c] ∨ (x ∉ SE F J ∧ ∀ v, H x ≠ some (.tup v))) : W1 K C H' d c F J := by
  have zt : H F.z = some (.tup (sizeV F.s F.b)) := W.da.sz
  refine ⟨Dk, W.da.but b t (fun x hx => ?_), W.ia.but b t (fun x hx => ?_), W.ab, W.ae, W.be⟩
  · rcases hl x hx with h | ⟨h, hv⟩
    · exact apart5 (W.ab x h) fun e => W.nz.1 (e ▸ h)
    · exact apart5 (se_split h).1 fun e => hv _ (by rw [e]; exact zt)
  · rcases hl x hx with h | ⟨h, hv⟩
    · exact W.ae x h
    · exact (se_split h).2
theorem MW.same (M : MW K C H d c n es) (s : Same H H') : MW K C H' d c n es := ⟨M.dk.same s, fun i e h => ⟨(M.el i e h).1.same s |>.1, (M.el i e h).2⟩, M.ap⟩
theorem Pr.same (p : Pr H d c es a o) (s : Same H H') : Pr H' d c es a o := ⟨s _ _ p.h, p.nd, p.ne⟩
theorem MW.deck (M : MW K C H d c n es) (Dk : DeckAt H' d c) (b : But [d, c] H H') : MW K C H' d c n es := ⟨Dk, fun i e h => ⟨(M.el i e h).1.deck Dk b |>.1, (M.el i e h).2⟩, M.ap⟩
theorem Pr.deck (p : Pr H d c es a o) (b : But [d, c] H H') : Pr H' d c es a o := ⟨b _ _ p.h p.nd, p.nd, p.ne⟩
theorem Mv.sub (m : Mv H H' d c D I D' I') : ∀ x ∈ SE D' I', x ∈ SE D I ∨ H x = none := fun x hx => by
  simp only [SE, List.mem_cons, List.not_mem_nil, or_false] at hx ⊢
  rcases hx with e | e | e | e | e | e | e
  · rw [e, m.p]; exact .inl (.inl rfl)
  · rw [e, m.l]; exact .inl (.inr (.inl rfl))
  · rcases m.wl with z | z
    · rw [e, z]; simp
    · rw [e]; exact .inr z
  · rcases m.nl with z | z
    · rw [e, z]; simp
    · rw [e]; exact .inr z
  · rw [e, m.it]; simp
  · rw [e, m.sl]; simp
  · rcases m.iw with z | z
    · rw [e, z]; simp
    · rw [e]; exact .inr z
theorem MW.step {i : Nat} (M : MW K C H d c n es) (hi : es[i]? = some (D, I)) (W : W1 K C H' d c D' I') (m : Mv H H' d c D I D' I') (t : Mt D' I') (hn : D'.wt.length ≤ n + 1) : MW K C H' d c (n + 1) (es.set i (D', I')) := by
  have W0 := (M.el i _ hi).1
  have hil : i < es.length := (List.getElem?_eq_some_iff.mp hi).1
  refine ⟨W.dk, fun j f hj => ?_, fun j k e f hj hk hne x hx => ?_⟩
  · by_cases e : i = j
    · subst e
      rw [List.getElem?_set_self hil] at hj
      cases hj
      exact ⟨W, t, hn⟩
    · rw [List.getElem?_set_ne e] at hj
      obtain ⟨Wf, tf, lf⟩ := M.el j f hj
      refine ⟨Wf.frame W.dk m.b m.t (fun x hx => ?_), tf, by omega⟩
      rcases List.mem_cons.mp hx with h | h
      · exact .inl (by simp [h])
      rcases List.mem_cons.mp h with h | h
      · exact .inl (by simp [h])
      · exact .inr ⟨M.ap i j _ f hi hj e x h, (se_on W0 x h).2⟩
  · have old : ∀ {g : DS × IS} {q : Nat}, es[q]? = some g → i ≠ q → ∀ y ∈ SE D' I', y ∉ SE g.1 g.2 := fun {g q} hq hne y hy hm => by
      rcases m.sub y hy with h | h
      · exact M.ap i q _ g hi hq hne y h hm
      · exact (se_on (M.el q g hq).1 y hm).1 h
    by_cases e1 : i = j
    · subst e1
      rw [List.getElem?_set_self hil] at hj
      cases hj
      rw [List.getElem?_set_ne hne] at hk
      exact old hk hne x hx
    · rw [List.getElem?_set_ne e1] at hj
      by_cases e2 : i = k
      · subst e2
        rw [List.getElem?_set_self hil] at hk
        cases hk
        exact fun hm => old hj e1 x hm hx
      · rw [List.getElem?_set_ne e2] at hk
        exact M.ap j k e f hj hk hne x hx
theorem Pr.step {i : Nat} (p : Pr H d c es a o) (hi : es[i]? = some (D, I)) (m : Mv H H' d c D I D' I') : Pr H' d c (es.set i (D', I')) a o := by
  have hil : i < es.length := (List.getElem?_eq_some_iff.mp hi).1
  have nd := p.nd
  refine ⟨m.b _ _ p.h ?_, p.nd, fun j f hj hm => ?_⟩
  · have q := p.ne i _ hi
    simp only [List.mem_cons, List.not_mem_nil, or_false, not_or] at nd ⊢
    exact ⟨nd.1, nd.2, q⟩
  · by_cases e : i = j
    · subst e
      rw [List.getElem?_set_self hil] at hj
      cases hj
      rcases m.sub a hm with h | h
      · exact p.ne i _ hi h
      · rw [p.h] at h; cases h
    · rw [List.getElem?_set_ne e] at hj
      exact p.ne j f hj hm
theorem get_app {α : Type} {l : List α} {x y : α} {i : Nat} (h : (l ++ [x])[i]? = some y) : l[i]? = some y ∨ (i = l.length ∧ y = x) := by
  rcases Nat.lt_or_ge i l.length with h1 | h1
  · rw [List.getElem?_append_left h1] at h
    exact .inl h
  · have h2 := (List.getElem?_eq_some_iff.mp h).1
    rw [List.length_append, List.length_singleton] at h2
    have e : i = l.length := by omega
    subst e
    rw [List.getElem?_append_right (Nat.le_refl _), Nat.sub_self] at h
    cases h
    exact .inr ⟨rfl, rfl⟩
theorem MW.add (M : MW K C H d c n es) (s : Same H H') (W : W1 K C H' d c D' I') (t : Mt D' I') (hn : D'.wt.length ≤ n) (hf : ∀ x ∈ SE D' I', H x = none) : MW K C H' d c n (es ++ [(D', I')]) := by
  have M' := M.same s
  refine ⟨W.dk, fun j f hj => ?_, fun j k e f hj hk hne x hx hm => ?_⟩
  · rcases get_app hj with h | ⟨_, h⟩
    · exact M'.el j f h
    · subst h; exact ⟨W, t, hn⟩
  · rcases get_app hj with h1 | ⟨h1, h1'⟩ <;> rcases get_app hk with h2 | ⟨h2, h2'⟩
    · exact M.ap j k e f h1 h2 hne x hx hm
    · subst h2'
      exact (se_on (M.el j e h1).1 x hx).1 (hf x hm)
    · subst h1'
      exact (se_on (M.el k f h2).1 x hm).1 (hf x hx)
    · exact hne (h1.trans h2.symm)
theorem Pr.add (p : Pr H d c es a o) (s : Same H H') (hf : ∀ x ∈ SE D' I', H x = none) : Pr H' d c (es ++ [(D', I')]) a o := by
  refine ⟨s _ _ p.h, p.nd, fun j f hj hm => ?_⟩
  rcases get_app hj with h | ⟨_, h⟩
  · exact p.ne j f h hm
  · subst h
    have q := hf a hm
    rw [p.h] at q; cases q
/-- a thing that stays is changed -/
theorem MW.put {o' : HO} (M : MW K C H d c n es) (p : Pr H d c es a o) (ht : ∀ v, o ≠ .tup v) (t : TupSame H (upd H a o')) : MW K C (upd H a o') d c n es := by
  have nd := p.nd
  simp only [List.mem_cons, List.not_mem_nil, or_false, not_or] at nd
  have Dk : DeckAt (upd H a o') d c := M.dk.put nd.1 nd.2
  refine ⟨Dk, fun i e h => ⟨(M.el i e h).1.frame (l := [a]) Dk (But.put (by simp)) t (fun x hx => ?_), (M.el i e h).2⟩, M.ap⟩
  rw [List.mem_singleton.mp hx]
  exact .inr ⟨p.ne i e h, fun v q => ht v (by rw [p.h] at q; exact Option.some.inj q)⟩
theorem Pr.put {b : Addr} {o' u : HO} (p : Pr H d c es b u) (ne : a ≠ b) : Pr (upd H a o') d c es b u := ⟨by rw [upd_ne ne.symm]; exact p.h, p.nd, p.ne⟩
theorem Pr.self {o' : HO} (p : Pr H d c es a o) : Pr (upd H a o') d c es a o' := ⟨upd_same, p.nd, p.ne⟩
theorem Pr.new (M : MW K C H d c n es) (hn : H a = none) : Pr (upd H a o) d c es a o := ⟨upd_same, fun h => M.dk.on a h hn, fun i e h hm => (se_on (M.el i e h).1 a hm).1 hn⟩
end
end Tk17

namespace Tk17
open PySem PySem.Spec PyProof.Rows L2 Tk
structure LW (K : PySem.W.Frag) (C ba : Addr) (H : Hp) (d c dl ol : Addr) (n : Nat) (es : List (DS × IS)) : Prop where
  mw : MW K C H d c n es
  pd : Pr H d c es dl (.lst (es.map fun e => V.ref e.1.p))
  po : Pr H d c es ol (.lst (es.map fun e => V.ref e.2.it))
  ne : dl ≠ ol
  bl : Blank K H ba
theorem map_set_same {α : Type} {f : α → V} {es : List α} {i : Nat} {x y : α} (h : es[i]? = some y) (e : f x = f y) : (es.set i x).map f = es.map f := by
  rw [List.map_set]
  have q : (es.map f)[i]? = some (f x) := by rw [List.getElem?_map, h, e]; rfl
  obtain ⟨h1, h2⟩ := List.getElem?_eq_some_iff.mp q
  rw [← h2, List.set_getElem_self]
section
variable {K : PySem.W.Frag} {C ba d c dl ol : Addr} {H H' : Hp} {D D' : DS} {I I' : IS} {n : Nat} {es : List (DS × IS)}
theorem LW.same (L : LW K C ba H d c dl ol n es) (s : Same H H') : LW K C ba H' d c dl ol n es := ⟨L.mw.same s, L.pd.same s, L.po.same s, L.ne, L.bl.tup (TupSame.of s)⟩
theorem LW.deck (L : LW K C ba H d c dl ol n es) (Dk : DeckAt H' d c) (b : But [d, c] H H') : LW K C ba H' d c dl ol n es := ⟨L.mw.deck Dk b, L.pd.deck b, L.po.deck b, L.ne, L.bl.tup (L.mw.dk.tup b)⟩
theorem LW.step {i : Nat} (L : LW K C ba H d c dl ol n es) (hi : es[i]? = some (D, I)) (W : W1 K C H' d c D' I') (m : Mv H H' d c D I D' I') (t : Mt D' I') (hn : D'.wt.length ≤ D.wt.length + 1) : LW K C ba H' d c dl ol (n + 1) (es.set i (D', I')) := by
  have q := (L.mw.el i _ hi).2.2
  have q' : D.wt.length ≤ n := q
  have p1 := L.pd.step hi m
  have p2 := L.po.step hi m
  refine ⟨L.mw.step hi W m t (by omega), ?_, ?_, L.ne, L.bl.tup m.t⟩
  · rw [map_set_same (y := (D, I)) hi (by show V.ref D'.p = V.ref D.p; rw [m.p])]; exact p1
  · rw [map_set_same (y := (D, I)) hi (by show V.ref I'.it = V.ref I.it; rw [m.it])]; exact p2
theorem LW.len {i : Nat} (h : i < es.length) : ∃ D I, es[i]? = some (D, I) := ⟨es[i].1, es[i].2, List.getElem?_eq_getElem h⟩
end
theorem MW.add2 {K : PySem.W.Frag} {C d c : Addr} {H : Hp} {D' : DS} {I' : IS} {n : Nat} {es : List (DS × IS)} (M : MW K C H d c n es) (W : W1 K C H d c D' I') (t : Mt D' I') (hn : D'.wt.length ≤ n) (hx : ∀ (i : Nat) (e : DS × IS), es[i]? = some e → ∀ x ∈ SE D' I', x ∉ SE e.1 e.2) : MW K C H d c n (es ++ [(D', I')]) := by
  refine ⟨M.dk, fun j f hj => ?_, fun j k e f hj hk hne x hx' hm => ?_⟩
  · rcases get_app hj with h | ⟨_, h⟩
    · exact M.el j f h
    · subst h; exact ⟨W, t, hn⟩
  · rcases get_app hj with h1 | ⟨h1, h1'⟩ <;> rcases get_app hk with h2 | ⟨h2, h2'⟩
    · exact M.ap j k e f h1 h2 hne x hx' hm
    · subst h2'
      exact hx j e h1 x hm hx'
    · subst h1'
      exact hx k f h2 x hx' hm
    · exact hne (h1.trans h2.symm)
theorem Pr.add2 {d c : Addr} {H : Hp} {D' : DS} {I' : IS} {es : List (DS × IS)} {a : Addr} {o : HO} (p : Pr H d c es a o) (hx : a ∉ SE D' I') : Pr H d c (es ++ [(D', I')]) a o := by
  refine ⟨p.h, p.nd, fun j f hj hm => ?_⟩
  rcases get_app hj with h | ⟨_, h⟩
  · exact p.ne j f h hm
  · subst h; exact hx hm
theorem LW.add {K : PySem.W.Frag} {C ba d c dl ol : Addr} {H H3 H5 : Hp} {n : Nat} {es : List (DS × IS)} {D : DS} {I : IS} {p z l wl nl it sl iwl : Addr} (L : LW K C ba H d c dl ol n es) (t : Mt D I) (hn : D.wt.length ≤ n)
    (hp : H p = none) (hl : H l = none) (hwl : H wl = none) (hnl : H nl = none) (DD : DA K C H3 ⟨p, z, l, wl, nl, D.s, D.b, D.st, D.wt, none⟩) (s3 : Same H H3)
    (hit : (upd H3 dl (.lst (es.map (fun e => V.ref e.1.p) ++ [V.ref p]))) it = none) (hsl : (upd H3 dl (.lst (es.map (fun e => V.ref e.1.p) ++ [V.ref p]))) sl = none) (hiw : (upd H3 dl (.lst (es.map (fun e => V.ref e.1.p) ++ [V.ref p]))) iwl = none)
    (II : IA K H5 ⟨it, I.z, sl, iwl, I.s, I.b, I.st, I.wt, none⟩) (s5 : Same (upd H3 dl (.lst (es.map (fun e => V.ref e.1.p) ++ [V.ref p]))) H5) :
    LW K C ba (upd H5 ol (.lst (es.map (fun e => V.ref e.2.it) ++ [V.ref it]))) d c dl ol n (es ++ [(⟨p, z, l, wl, nl, D.s, D.b, D.st, D.wt, none⟩, ⟨it, I.z, sl, iwl, I.s, I.b, I.st, I.wt, none⟩)]) := by
  have L3 := L.same s3
  have t4 : TupSame H3 (upd H3 dl (.lst (es.map (fun e => V.ref e.1.p) ++ [V.ref p]))) := TupSame.put L3.pd.h (fun xs z => by cases z) (fun ob u z => by cases z)
  have m4 := L3.mw.put (o' := .lst (es.map (fun e => V.ref e.1.p) ++ [V.ref p])) L3.pd (fun v z => by cases z) t4
  have pd4 := L3.pd.self (o' := .lst (es.map (fun e => V.ref e.1.p) ++ [V.ref p]))
  have po4 := L3.po.put (o' := .lst (es.map (fun e => V.ref e.1.p) ++ [V.ref p])) L.ne
  have n0 : ∀ {x y : Addr}, H x ≠ none → H y = none → x ≠ y := fun hx hy e => hx (e ▸ hy)
  have dlT : H dl ≠ none := by rw [L.pd.h]; exact nofun
  have olT : H ol ≠ none := by rw [L.po.h]; exact nofun
  have DD4 : DA K C (upd H3 dl (.lst (es.map (fun e => V.ref e.1.p) ++ [V.ref p]))) ⟨p, z, l, wl, nl, D.s, D.b, D.st, D.wt, none⟩ := by
    have zn : dl ≠ z := fun e => by
      have q : H3 z = some (.tup (sizeV D.s D.b)) := DD.sz
      have q2 := L3.pd.h
      rw [e, q] at q2
      cases q2
    refine DD.but (l := [dl]) (But.put (by simp)) t4 fun x hx => ?_
    rw [List.mem_singleton.mp hx]
    exact ⟨n0 dlT hp, zn, n0 dlT hl, n0 dlT hwl, n0 dlT hnl⟩
  generalize upd H3 dl (.lst (es.map (fun e => V.ref e.1.p) ++ [V.ref p])) = H4 at *
  have m5 := m4.same s5
  have pd5 := pd4.same s5
  have po5 := po4.same s5
  have DD5 : DA K C H5 ⟨p, z, l, wl, nl, D.s, D.b, D.st, D.wt, none⟩ := DD4.same s5
  have t6 : TupSame H5 (upd H5 ol (.lst (es.map (fun e => V.ref e.2.it) ++ [V.ref it]))) := TupSame.put po5.h (fun xs z => by cases z) (fun ob u z => by cases z)
  have m6 := m5.put (o' := .lst (es.map (fun e => V.ref e.2.it) ++ [V.ref it])) po5 (fun v z => by cases z) t6
  have pd6 := pd5.put (o' := .lst (es.map (fun e => V.ref e.2.it) ++ [V.ref it])) L.ne.symm
  have po6 := po5.self (o' := .lst (es.map (fun e => V.ref e.2.it) ++ [V.ref it]))
  have n4 : ∀ {x y : Addr}, H4 x ≠ none → H4 y = none → x ≠ y := fun hx hy e => hx (e ▸ hy)
  have ol4 : H4 ol ≠ none := by rw [po4.h]; exact nofun
  have dl4 : H4 dl ≠ none := by rw [pd4.h]; exact nofun
  have DD6 : DA K C (upd H5 ol (.lst (es.map (fun e => V.ref e.2.it) ++ [V.ref it]))) ⟨p, z, l, wl, nl, D.s, D.b, D.st, D.wt, none⟩ := by
    have zn : ol ≠ z := fun e => by
      have q : H5 z = some (.tup (sizeV D.s D.b)) := DD5.sz
      have q2 := po5.h
      rw [e, q] at q2
      cases q2
    refine DD5.but (l := [ol]) (But.put (by simp)) t6 fun x hx => ?_
    rw [List.mem_singleton.mp hx]
    exact ⟨n0 olT hp, zn, n0 olT hl, n0 olT hwl, n0 olT hnl⟩
  have II6 : IA K (upd H5 ol (.lst (es.map (fun e => V.ref e.2.it) ++ [V.ref it]))) ⟨it, I.z, sl, iwl, I.s, I.b, I.st, I.wt, none⟩ := by
    refine II.but (l := [ol]) (But.put (by simp)) t6 fun x hx => ?_
    rw [List.mem_singleton.mp hx]
    simp [n4 ol4 hit, n4 ol4 hsl, n4 ol4 hiw]
  have dT : ∀ x ∈ [d, c], H x ≠ none := L.mw.dk.on
  have dT4 : ∀ x ∈ [d, c], H4 x ≠ none := m4.dk.on
  have d4 := da_on DD4
  have W6 : W1 K C (upd H5 ol (.lst (es.map (fun e => V.ref e.2.it) ++ [V.ref it]))) d c ⟨p, z, l, wl, nl, D.s, D.b, D.st, D.wt, none⟩ ⟨it, I.z, sl, iwl, I.s, I.b, I.st, I.wt, none⟩ := by
    refine ⟨m6.dk, DD6, II6, fun x hx => ?_, fun x hx => ?_, fun x hx hm => ?_⟩
    · have q := dT x hx
      simp [n0 q hp, n0 q hl, n0 q hwl, n0 q hnl]
    · have q := dT4 x hx
      simp [n4 q hit, n4 q hsl, n4 q hiw]
    · have q := d4 x hm
      simp only [List.mem_cons, List.not_mem_nil, or_false] at hx
      rcases hx with e | e | e
      · exact n4 q hit e
      · exact n4 q hsl e
      · exact n4 q hiw e
  have apart : ∀ y, H y ≠ none → H4 y ≠ none → y ∉ SE ⟨p, z, l, wl, nl, D.s, D.b, D.st, D.wt, none⟩ ⟨it, I.z, sl, iwl, I.s, I.b, I.st, I.wt, none⟩ := fun y h1 h2 => by
    simp [SE, n0 h1 hp, n0 h1 hl, n0 h1 hwl, n0 h1 hnl, n4 h2 hit, n4 h2 hsl, n4 h2 hiw]
  refine ⟨m6.add2 W6 ⟨t.s, t.b, t.st, t.wt, rfl, fun n e => by cases e⟩ hn (fun i e he x hx hm => apart x (se_on (L.mw.el i e he).1 x hm).1 (se_on (m4.el i e he).1 x hm).1 hx), ?_, ?_, L.ne, ((L3.bl.tup t4).tup (TupSame.of s5)).tup t6⟩
  · rw [List.map_append]; exact pd6.add2 (apart dl dlT dl4)
  · rw [List.map_append]; exact po6.add2 (apart ol olT ol4)
theorem at_m1 {xs : List V} {x : V} {n : Nat} (h : xs[n]? = some x) (hl : xs.length = n + 1) : atI xs (-1) = some x := by
  have q : ixN xs.length (-1) = some n := by
    unfold ixN
    rw [hl]
    simp
    omega
  unfold atI
  rw [q]
  exact h
end Tk17

namespace Tk17
open PySem PySem.Spec PyProof.Rows L2 Tk
structure Fr17 (mg : Str → Option Value) : Prop where
  range : mg "range" = none
  len : mg "len" = none
  zip : mg "zip" = none
structure All17 (P : Program) (w : World) (K : PySem.W.Frag) (mg : Str → Option Value) (base : Heap) (C ba : Addr) where
  fI : Addr
  T : DT K mg C fI ba
  Fr : Fr17 mg
  cmp : CmpC K C
  deck : Cal P w K mg base 1 "_law_deck" ["script"] (spDeck K)
  draw : Cal P w K mg base 1 "_law_draw" ["deck", "below"] spDraw
  drawn : Cal P w K mg base 2 "_law_drawn_sizes" ["deck"] spDrawn
  blank : Cal P w K mg base 2 "_law_blank" ["sizes"] (spBlank K)
  shuf : Cal P w K mg base 2 "_law_shuffled" ["deck", "some"] (spShuf K)
  ocopied : Cal P w K mg base 1 "_law_copied" ["it"] (spOCopied K)
  same : CalG P w K mg base 5 "_law_is_same" ["disk", "it"] (spSame K C)
  set : Cal P w K mg base 4 "_law_set" ["deck", "disk", "it"] (spSet K C)
  passed : Cal P w K mg base 7 "_law_is_passed" ["deck", "disk", "it", "is_force"] (spPassed K C)
  did : Cal P w K mg base 8 "_law_did" ["deck", "disk", "it"] (spDid K C)
  init : ICal P w K mg base C 3 ["self", "segments", "blocks"] (spDInit K C ba)
  mCopied : MCal P w K mg base C 5 "copied" ["self"] (spCopied K C ba)
section
variable {P : Program} {w : World} {K : PySem.W.Frag} {mg : Str → Option Value} {base : Heap} {C ba : Addr}
theorem run_law {f : Addr} {fd : FuncData} {s₁ : Shared} {H : Hp} {a : Addr} {u : Value} {ns : List Int} (F : Fun K "law" "law" S_law f fd) (L : All17 P w K mg base C ba) (en : Env0 P w K mg base callerA [] s₁ H) (hb : BindsTo s₁ fd ⟨[u], []⟩ [("script", u)]) (hu : u = .ref a)
    (hS : SqL K H a (ns.map V.int)) (hl : ns.length ≤ 63) (hB : Blank K H ba) :
    codeAny (model P w) callerA (.call (.ref f) ⟨[u], []⟩) (CR CX0 [] P w H s₁ (fun v _ => v = .bl true) E0) s₁ := by
  have hr0 : Room 9 callerA := ⟨rfl, by decide, by decide⟩
  refine def_run (N := ["script", "deck", "sizes", "disks", "own", "turn", "go", "at", "disk", "it"]) (ps := ["script"]) (us := [u]) (vs := [.ref a]) F sc_law rfl hr0 en hb (.cons hu .nil) fun cdv => ?_
  have hr := hr0.deeper (envOfC "law" (defScope S_law) s₁.heap.objs.size f cdv)
  have hg : (callerA.deeper (envOfC "law" (defScope S_law) s₁.heap.objs.size f cdv)).guards = some [] := guards_deeper _ _ rfl
  have hu64 := hr.units
  have hu := hu_of hr
  have nd := sc_law.nd
  have T := L.T
  refine ⟨_, pss_cons (ps_set (i := 1) nd rfl (Or.inl rfl) (pc L.deck hr (pa_cons (pv 0) pa_nil)))
    (pss_cons (ps_set (i := 2) nd rfl (Or.inl rfl) (pc L.drawn hr (pa_cons (pv 1) pa_nil)))
    (pss_cons (ps_par (i := 3) (j := 4) (by rfl) nd rfl rfl (by decide) rfl rfl (pa_cons (pe_lst (pa_cons (pmk L.init hr T.mgC (pa_cons (pe_ix ix_tup (pv 2) pe_int (fun _ _ => rfl)) (pa_cons (pe_ix ix_tup (pv 2) pe_int (fun _ _ => rfl)) pa_nil))) pa_nil)) (pa_cons (pe_lst (pa_cons (pc L.blank hr (pa_cons (pv 2) pa_nil)) pa_nil)) pa_nil)) (by rfl))
    (pss_cons (ps_for PassesOwn.never rfl (pi_range1 (by rfl) L.Fr.range (pa_cons pe_int pa_nil)) (pg_name (i := 5) nd rfl (Or.inl rfl))
      (pss_cons (ps_for PassesOwn.never rfl (pi_range1 (by rfl) L.Fr.range (pa_cons (pc L.draw hr (pa_cons (pv 1) (pa_cons pe_int pa_nil))) pa_nil)) (pg_name (i := 6) nd rfl (Or.inl rfl)) (pss_cons (ps_set (i := 7) nd rfl (Or.inl rfl) (pc L.draw hr (pa_cons (pv 1) (pa_cons (pe_callB call_len_seq (by rfl) L.Fr.len PySem.boot_len (pa_cons (pv 3) pa_nil)) pa_nil))))
        (pss_one (ps_if (pt_not (pt_val (pc L.did hr (pa_cons (pv 1) (pa_cons (pe_ix ix_list (pv 3) (pv 7) (fun _ _ => rfl)) (pa_cons (pe_ix ix_list (pv 4) (pv 7) (fun _ _ => rfl)) pa_nil)))))) (pss_one (ps_ret pe_bl)) pss_nil))))
        (pss_cons (ps_if (pt_cmpR (op_neD hu64) (pe_lc (own := [("disk", 8), ("it", 9)]) (g := gTup K 2 (gCons (gName 8) (gCons (gName 9) gNil))) (tt := tNot (tB (tCall (spSame K C) [] E0 (tCons (tVar 8) (tCons (tVar 9) tNil))))) rfl nd (pi_zip (by rfl) L.Fr.zip (pa_cons (pv 3) (pa_cons (pv 4) pa_nil))) (blkOk_by (N := ["script", "deck", "sizes", "disks", "own", "turn", "go", "at", "disk", "it"]) (sc := defScope S_law) (by decide +kernel)) (fun _ _ _ _ _ => pg_tup rfl (pgs_cons (pg_name (i := 8) nd rfl (Or.inl rfl)) (pgs_cons (pg_name (i := 9) nd rfl (Or.inl rfl)) pgs_nil))) (fun _ _ _ _ _ => pts_one (pt_not (pt_val (pcG L.same hr hg (pa_cons (pv 8) (pa_cons (pv 9) pa_nil)))))) (fun _ _ _ _ _ => pe_int)) (pe_lst pa_nil) (nomark _)) (pss_one (ps_ret pe_bl)) pss_nil)
        (pss_one (ps_if (pt_cmpR op_lt (pv 5) pe_int (nomark _)) (pss_cons (ps_set (i := 7) nd rfl (Or.inl rfl) (pc L.draw hr (pa_cons (pv 1) (pa_cons (pe_callB call_len_seq (by rfl) L.Fr.len PySem.boot_len (pa_cons (pv 3) pa_nil)) pa_nil))))
          (pss_cons (ps_if (pt_cmpR op_gt (pc L.draw hr (pa_cons (pv 1) (pa_cons pe_int pa_nil))) pe_int (nomark _)) (pss_one (ps_expr (pc L.set hr (pa_cons (pv 1) (pa_cons (pe_ix ix_list (pv 3) (pv 7) (fun _ _ => rfl)) (pa_cons (pe_ix ix_list (pv 4) (pv 7) (fun _ _ => rfl)) pa_nil)))))) pss_nil)
          (pss_cons (ps_expr (pe_bm PySem.F.plainAttrs_list PySem.F.slot_list_append PySem.F.type_list_append mt_append (pv 3) (pa_cons (pm0 T.cl L.mCopied hr (pe_ix ix_list (pv 3) (pv 7) (fun _ _ => rfl))) pa_nil)))
          (pss_cons (ps_expr (pe_bm PySem.F.plainAttrs_list PySem.F.slot_list_append PySem.F.type_list_append mt_append (pv 4) (pa_cons (pc L.ocopied hr (pa_cons (pe_ix ix_list (pv 4) (pv 7) (fun _ _ => rfl)) pa_nil)) pa_nil)))
          (pss_cons (ps_if (PW.pt (pw_or (pt_not (pt_val (pcG L.same hr hg (pa_cons (pe_ix ix_list (pv 3) (pe_un un_neg pe_int) (fun _ _ => rfl)) (pa_cons (pe_ix ix_list (pv 4) (pe_un un_neg pe_int) (fun _ _ => rfl)) pa_nil))))) (pw_or1 (pt_not (pt_val (pcG L.same hr hg (pa_cons (pe_ix ix_list (pv 3) (pv 7) (fun _ _ => rfl)) (pa_cons (pe_ix ix_list (pv 4) (pv 7) (fun _ _ => rfl)) pa_nil)))))))) (pss_one (ps_ret pe_bl)) pss_nil)
          (pss_cons (ps_if (PW.pt (pw_or (pt_cmpR (op_eqIns L.cmp hu64) (pe_ix ix_list (pv 3) (pe_un un_neg pe_int) (fun _ _ => rfl)) (pe_ix ix_list (pv 3) (pv 7) (fun _ _ => rfl)) (nomark _)) (pw_or1 (pt_not (pt_cmpR (op_eqIns L.cmp hu64) (pe_ix ix_list (pv 3) (pe_un un_neg pe_int) (fun _ _ => rfl)) (pe_ix ix_list (pv 3) (pe_un un_neg pe_int) (fun _ _ => rfl)) (nomark _)))))) (pss_one (ps_ret pe_bl)) pss_nil)
          (pss_one (ps_if (pt_not (pt_val (pc L.passed hr (pa_cons (pv 1) (pa_cons (pe_ix ix_list (pv 3) (pe_un un_neg pe_int) (fun _ _ => rfl)) (pa_cons (pe_ix ix_list (pv 4) (pe_un un_neg pe_int) (fun _ _ => rfl)) (pa_cons pe_bl pa_nil))))))) (pss_one (ps_ret pe_bl)) pss_nil)))))))) pss_nil)))))
    (pss_cons (ps_for PassesOwn.never rfl (pi_list (pc L.shuf hr (pa_cons (pv 1) (pa_cons (pe_lst (pa_cons pe_int (pa_cons pe_int (pa_cons pe_int pa_nil)))) pa_nil)))) (pg_name (i := 7) nd rfl (Or.inl rfl))
      (pss_one (ps_if (pt_not (pt_val (pc L.did hr (pa_cons (pv 1) (pa_cons (pe_ix ix_list (pv 3) (pv 7) (fun _ _ => rfl)) (pa_cons (pe_ix ix_list (pv 4) (pv 7) (fun _ _ => rfl)) pa_nil)))))) (pss_one (ps_ret pe_bl)) pss_nil)))
    (pss_one (ps_ret (pe_cmpR (op_eqD hu64) (pe_lc (own := [("disk", 8), ("it", 9)]) (g := gTup K 2 (gCons (gName 8) (gCons (gName 9) gNil))) (tt := tNot (tB (tCall (spSame K C) [] E0 (tCons (tVar 8) (tCons (tVar 9) tNil))))) rfl nd (pi_zip (by rfl) L.Fr.zip (pa_cons (pv 3) (pa_cons (pv 4) pa_nil))) (blkOk_by (N := ["script", "deck", "sizes", "disks", "own", "turn", "go", "at", "disk", "it"]) (sc := defScope S_law) (by decide +kernel)) (fun _ _ _ _ _ => pg_tup rfl (pgs_cons (pg_name (i := 8) nd rfl (Or.inl rfl)) (pgs_cons (pg_name (i := 9) nd rfl (Or.inl rfl)) pgs_nil))) (fun _ _ _ _ _ => pts_one (pt_not (pt_val (pcG L.same hr hg (pa_cons (pv 8) (pa_cons (pv 9) pa_nil)))))) (fun _ _ _ _ _ => pe_int)) (pe_lst pa_nil) (nomark _)))))))), ?_⟩
  refine ⟨_, rfl, a, ns, rfl, hS, hl, fun d c H1 hd hc D1 s1 => ?_⟩
  refine ⟨_, rfl, d, c, rfl, D1, fun z2 sg bl H2 hz2 ok D2 b2 => ?_⟩
  have B2 : Blank K H2 ba := hB.tup ((TupSame.of s1).trans (D1.tup b2))
  refine ⟨_, rfl, z2, _, _, _, rfl, rfl, SqT.of hz2, at_of (j := 0) rfl rfl, _, rfl, z2, _, _, _, rfl, rfl, SqT.of hz2, at_of (j := 1) rfl rfl, fun p dx0 hp hdx0 ne0 => ⟨p, dx0, sg, bl, rfl, upd_same, ok, B2.tup (TupSame.of ((Same.new hdx0).trans (Same.new (by rw [upd_ne (fun e => ne0 e.symm)]; exact hp)))), fun z l wl nl H6 hz hl6 hwl hnl DD6 k6 => ⟨rfl, (by show 1 ≤ sizeLine; decide), fun dl hdl => ?_⟩⟩⟩
  have s26 : Same H2 H6 := fun b o e => k6 b o (by rw [upd_ne (ne_of_none e hp), upd_ne (ne_of_none e hdx0)]; exact e) (ne_of_none e hp)
  have s67 := Same.new (o := .lst [V.ref p]) hdl
  have hz7 := s67 _ _ (s26 _ _ hz2)
  have dl7 : (upd H6 dl (.lst [V.ref p])) dl = some (.lst [V.ref p]) := upd_same
  have D6 := D2.same s26
  have DD6a : DA K C H6 ⟨p, z, l, wl, nl, sg, bl, blankS sg bl, [], none⟩ := DD6
  have od6 := da_on DD6a
  generalize upd H6 dl (.lst [V.ref p]) = H7 at s67 hz7 dl7 ⊢
  refine ⟨_, rfl, z2, sg, bl, rfl, SqT.of hz7, ok, fun it sl wl2 H8 hit hsl hwl2 I8 s78 => ⟨(by show 1 ≤ sizeLine; decide), fun ol hol => ⟨_, _, rfl, ?_⟩⟩⟩
  have s89 := Same.new (o := .lst [V.ref it]) hol
  have ol9 : (upd H8 ol (.lst [V.ref it])) ol = some (.lst [V.ref it]) := upd_same
  have DD7a : DA K C H7 ⟨p, z, l, wl, nl, sg, bl, blankS sg bl, [], none⟩ := DD6.same s67
  have DD8 : DA K C H8 ⟨p, z, l, wl, nl, sg, bl, blankS sg bl, [], none⟩ := DD7a.same s78
  have od7 := da_on DD7a
  have od8 := da_on DD8
  have oi8 := ia_on I8
  have dl8 := s78 _ _ dl7
  have D7 := D6.same s67
  have D8 := D7.same s78
  generalize upd H8 ol (.lst [V.ref it]) = H9 at s89 ol9 ⊢
  have n0 : ∀ {G : Hp} {x y : Addr}, G x ≠ none → G y = none → x ≠ y := fun hx hy e => hx (e ▸ hy)
  have L9 : LW K C ba H9 d c dl ol 0 [(⟨p, z, l, wl, nl, sg, bl, blankS sg bl, [], none⟩, ⟨it, z2, sl, wl2, sg, bl, blankS sg bl, [], none⟩)] := by
    have dT2 := D2.on
    have fp := hp
    have fl6 := fresh2 hl6
    have fwl := fresh2 hwl
    have fnl := fresh2 hnl
    have W9 : W1 K C H9 d c ⟨p, z, l, wl, nl, sg, bl, blankS sg bl, [], none⟩ ⟨it, z2, sl, wl2, sg, bl, blankS sg bl, [], none⟩ := by
      refine ⟨D8.same s89, DD8.same s89, I8.same s89, fun x hx => ?_, fun x hx => ?_, fun x hx hm => ?_⟩
      · have q := dT2 x hx
        simp [n0 q fp, n0 q fl6, n0 q fwl, n0 q fnl]
      · have q := D7.on x hx
        simp [n0 q hit, n0 q hsl, n0 q hwl2]
      · have q := od7 x hm
        simp only [List.mem_cons, List.not_mem_nil, or_false] at hx
        rcases hx with e | e | e
        · exact n0 q hit e
        · exact n0 q hsl e
        · exact n0 q hwl2 e
    have g1 : ∀ {α : Type} {x y : α} {i : Nat}, [x][i]? = some y → y = x ∧ i = 0 := fun {α x y i} h => by
      cases i with
      | zero => cases h; exact ⟨rfl, rfl⟩
      | succ j => cases h
    refine ⟨⟨D8.same s89, fun i e h => ?_, fun i j e f h1 h2 hne => absurd ((g1 h1).2.trans (g1 h2).2.symm) hne⟩, ⟨s89 _ _ dl8, fun h => D6.on _ h hdl, fun i e h hm => ?_⟩, ⟨ol9, fun h => D8.on _ h hol, fun i e h hm => ?_⟩, fun e => ?_, ((B2.tup (TupSame.of (s26.trans s67))).tup (TupSame.of s78)).tup (TupSame.of s89)⟩
    · obtain ⟨e1, _⟩ := g1 h
      subst e1
      exact ⟨W9, ⟨rfl, rfl, rfl, rfl, rfl, fun n e => by cases e⟩, Nat.le_refl _⟩
    · obtain ⟨e1, _⟩ := g1 h
      subst e1
      have q6 : H7 dl ≠ none := by rw [dl7]; exact nofun
      simp only [SE, List.mem_cons, List.not_mem_nil, or_false] at hm
      rcases hm with e | e | e | e | e | e | e
      · exact od6 p (by simp) (e ▸ hdl)
      · exact od6 l (by simp) (e ▸ hdl)
      · exact od6 wl (by simp) (e ▸ hdl)
      · exact od6 nl (by simp) (e ▸ hdl)
      · exact n0 q6 hit e
      · exact n0 q6 hsl e
      · exact n0 q6 hwl2 e
    · obtain ⟨e1, _⟩ := g1 h
      subst e1
      rcases List.mem_append.mp (show ol ∈ [p, l, wl, nl] ++ [it, sl, wl2] from hm) with h | h
      · exact od8 ol h hol
      · exact oi8 ol h hol
    · rw [e, hol] at dl8; cases dl8
  clear DD6a DD7a B2 s26 s67 hz7 dl7 D6 od6 s78 s89 ol9 DD8 od7 od8 oi8 dl8 D7 D8 hdl hit hsl hwl2 I8 hol DD6 k6 hz hl6 hwl hnl hp hdx0 ne0 D2 b2 D1 s1 hd hc
  have len2 : ∀ es : List (DS × IS), (es.map fun e => V.ref e.1.p).length = es.length := fun es => List.length_map _
  have gD : ∀ {es : List (DS × IS)} {i : Nat} {D : DS} {I : IS}, es[i]? = some (D, I) → (es.map fun e => V.ref e.1.p)[i]? = some (.ref D.p) := fun h => by rw [List.getElem?_map, h]; rfl
  have gI : ∀ {es : List (DS × IS)} {i : Nat} {D : DS} {I : IS}, es[i]? = some (D, I) → (es.map fun e => V.ref e.2.it)[i]? = some (.ref I.it) := fun h => by rw [List.getElem?_map, h]; rfl
  refine ⟨3, rfl, by decide, by decide, for_range (lo := 0) (n := 3) (fun i σ H => ∃ (v5 v6 v7 v8 v9 : Option V) (n : Nat) (es : List (DS × IS)), σ = [some (.ref a), some (.ref d), some (.ref z2), some (.ref dl), some (.ref ol), v5, v6, v7, v8, v9] ∧ LW K C ba H d c dl ol n es ∧ n ≤ 10 * i ∧ es.length = min (i + 1) 3)
    ⟨_, _, _, _, _, 0, _, rfl, L9, Nat.le_refl _, rfl⟩ ?_ ?_⟩
  · rintro i0 σ H0 hi0 ⟨v5, v6, v7, v8, v9, n, es, rfl, L0, hn, hes⟩
    clear L9
    refine ⟨_, rfl, d, c, 9, rfl, L0.mw.dk, by decide, by decide, fun m H1 u0 u1 D1 b1 => ⟨m, rfl, by omega, by omega, for_range (lo := 0) (n := m.toNat) (fun j σ H => ∃ (v6 v7 v8 v9 : Option V) (n : Nat) (es : List (DS × IS)), σ = [some (.ref a), some (.ref d), some (.ref z2), some (.ref dl), some (.ref ol), some (.int (0 + (i0 : Int))), v6, v7, v8, v9] ∧ LW K C ba H d c dl ol n es ∧ n ≤ 10 * i0 + j ∧ es.length = min (i0 + 1) 3)
      ⟨_, _, _, _, n, es, rfl, L0.deck D1 b1, by omega, hes⟩ ?_ ?_⟩⟩
    · rintro j σ H3 hj ⟨v6, v7, v8, v9, n3, es3, rfl, L3, hn3, hes3⟩
      have l3 := len2 es3
      refine ⟨_, rfl, _, rfl, dl, _, rfl, .inl (SqL.of L3.pd.h), d, c, _, rfl, L3.mw.dk, by omega, by omega, fun v H4 w0 w1 D4 b4 => ?_⟩
      have L4 := L3.deck D4 b4
      obtain ⟨D, I, he⟩ := LW.len (es := es3) (i := v.toNat) (by omega)
      obtain ⟨We, Me, le⟩ := L4.mw.el _ _ he
      have le' : D.wt.length ≤ n3 := le
      refine ⟨_, rfl, _, rfl, _, rfl, dl, _, v, .ref D.p, rfl, rfl, SqL.of L4.pd.h, at_of (j := v.toNat) (by omega) (gD he), _, rfl, _, rfl, ol, _, v, .ref I.it, rfl, rfl, SqL.of L4.po.h, at_of (j := v.toNat) (by omega) (gI he), d, c, D, I, rfl, We, Me, by omega, fun D' I' H5 W5 M5 m5 q5 _ _ => ⟨_, rfl, iteF ?_⟩⟩
      exact ⟨_, _, _, _, n3 + 1, _, rfl, L4.step he W5 m5 M5 q5, by omega, by rw [List.length_set]; exact hes3⟩
    rintro σ H3 ⟨v6, v7, v8, v9, n3, es3, rfl, L3, hn3, hes3⟩
    clear L0 hes
    have nm : n3 ≤ 10 * i0 + 8 := by omega
    -- all tell the same
    refine ⟨_, rfl, _, rfl, dl, ol, _, _, rfl, SqL.of L3.pd.h, SqL.of L3.po.h, fun r hr => lc_zip (K := K) (a := dl) (b := ol) (xs := es3.map fun e => V.ref e.1.p) (ys := es3.map fun e => V.ref e.2.it) (by rw [List.length_map, List.length_map]) (fun i H' => H' r = some (.lst []) ∧ Same H3 H') ⟨upd_same, Same.new hr⟩ (fun i H' ⟨_, s⟩ => ⟨SqL.of (s _ _ L3.pd.h), SqL.of (s _ _ L3.po.h)⟩) ?_ ?_⟩
    · rintro i x y Tp H' hx hy ⟨hr', s⟩ hT
      have hil : i < es3.length := by
        have q := (List.getElem?_eq_some_iff.mp hx).1
        rw [List.length_map] at q
        exact q
      obtain ⟨D, I, he⟩ := LW.len (es := es3) (i := i) hil
      rw [gD he] at hx
      rw [gI he] at hy
      cases hx
      cases hy
      have s5 := Same.new (o := .tup [V.ref D.p, V.ref I.it]) hT
      have sA := s.trans s5
      obtain ⟨We, Me, le⟩ := (L3.same sA).mw.el _ _ he
      have le' : D.wt.length ≤ n3 := le
      refine ⟨Tp, _, rfl, SqT.of upd_same, rfl, _, _, rfl, _, _, rfl, rfl, rfl, ?_⟩
      exact ⟨_, rfl, _, rfl, D, I, rfl, We.da, We.ia, Me, by omega, fun H'' s' => ⟨_, rfl, iteF ⟨s' _ _ (s5 _ _ hr'), sA.trans s'⟩⟩⟩
    rintro H4 ⟨hr4, s4⟩
    refine ⟨(by show 0 ≤ sizeLine; decide), fun r2 hr2 => ⟨.list [], .list [], .lst (SqL.of (Same.new hr2 _ _ hr4)) .nil, .lst (SqL.of upd_same) .nil, shaped_ints [], shaped_ints [], ?_⟩⟩
    have ev : PyData.eqv (.list []) (.list []) = true := PySem.SeqAt.eqv_refl _ (by simp [PyData.canLay0, PyData.canLayAll0])
    rw [ev]
    refine ⟨_, rfl, iteF ?_⟩
    have L4 := L3.same (s4.trans (Same.new (o := .lst []) hr2))
    show _
    generalize upd H4 r2 (.lst []) = H5 at L4 ⊢
    refine ⟨_, rfl, _, _, rfl, rfl, _, rfl, ?_⟩
    refine ite2 (fun ht => ?_) (fun ht => ?_)
    · have ht' : i0 < 2 := by
        have q := of_decide_eq_true ht
        omega
      have el : es3.length = i0 + 1 := by omega
      have l3 := len2 es3
      refine ⟨_, rfl, _, rfl, dl, _, rfl, .inl (SqL.of L4.pd.h), d, c, _, rfl, L4.mw.dk, by omega, by omega, fun v H5 w0 w1 D5 b5 => ?_⟩
      have L5 := L4.deck D5 b5
      obtain ⟨D0, I0, he0⟩ := LW.len (es := es3) (i := v.toNat) (by omega)
      apply via1 (fun H' => ∃ n' es', LW K C ba H' d c dl ol n' es' ∧ n' ≤ 10 * i0 + 9 ∧ es'.length = i0 + 1)
      · intro cont
        refine ⟨_, rfl, d, c, 3, rfl, D5, by decide, by decide, fun w' H6 x0 x1 D6 b6 => ⟨_, _, rfl, rfl, _, rfl, ?_⟩⟩
        have L6 := L5.deck D6 b6
        refine ite2 (fun _ => ?_) (fun _ => ?_)
        · obtain ⟨We, Me, le⟩ := L6.mw.el _ _ he0
          refine ⟨_, rfl, _, rfl, _, rfl, dl, _, v, .ref D0.p, rfl, rfl, SqL.of L6.pd.h, at_of (j := v.toNat) (by omega) (gD he0), _, rfl, _, rfl, ol, _, v, .ref I0.it, rfl, rfl, SqL.of L6.po.h, at_of (j := v.toNat) (by omega) (gI he0), d, c, D0, I0, rfl, We, Me, fun D' I' H7 W7 M7 m7 q7 _ _ => ?_⟩
          exact cont H7 ⟨n3 + 1, _, L6.step he0 W7 m7 M7 q7, by omega, by rw [List.length_set]; exact el⟩
        · exact cont H6 ⟨n3, es3, L6, by omega, el⟩
      rintro H6 ⟨n6, es6, L6, hn6, el6⟩
      clear L5 L4 L3 he0 D5 b5
      have l6 := len2 es6
      have vl : v.toNat < es6.length := by omega
      obtain ⟨D, I, he⟩ := LW.len (es := es6) (i := v.toNat) vl
      obtain ⟨We, Me, le⟩ := L6.mw.el _ _ he
      have le' : D.wt.length ≤ n6 := le
      obtain ⟨dx, ob⟩ := We.da.ob
      refine ⟨_, rfl, .inl ⟨rfl, _, SqL.of L6.pd.h⟩, _, rfl, _, rfl, dl, _, v, .ref D.p, rfl, rfl, SqL.of L6.pd.h, at_of (j := v.toNat) (by omega) (gD he), D.p, dx, _, rfl, ob, rfl, D, rfl, We.da, L6.bl, fun p z l wl nl H7 hp hz hl7 hwl hnl DD7 s67 => ?_⟩
      have L7 := L6.same s67
      refine ⟨dl, _, _, rfl, rfl, L7.pd.h, small1000 (by omega), ?_⟩
      have t8 : TupSame H7 (upd H7 dl (.lst (es6.map (fun e => V.ref e.1.p) ++ [V.ref p]))) := TupSame.put L7.pd.h (fun xs z => by cases z) (fun ob u z => by cases z)
      have m8 := L7.mw.put (o' := .lst (es6.map (fun e => V.ref e.1.p) ++ [V.ref p])) L7.pd (fun v z => by cases z) t8
      have po8 := L7.po.put (o' := .lst (es6.map (fun e => V.ref e.1.p) ++ [V.ref p])) L7.ne
      obtain ⟨We8, _, _⟩ := m8.el _ _ he
      refine ⟨_, rfl, .inl ⟨rfl, _, SqL.of po8.h⟩, _, rfl, _, rfl, ol, _, v, .ref I.it, rfl, rfl, SqL.of po8.h, at_of (j := v.toNat) (by omega) (gI he), I, rfl, We8.ia, fun it sl iwl H9 hit hsl hiw II9 s89 => ?_⟩
      have po9 := po8.same s89
      refine ⟨ol, _, _, rfl, rfl, po9.h, small1000 (by rw [List.length_map]; omega), ?_⟩
      have L10 := L6.add Me le' hp hl7 hwl hnl DD7 s67 hit hsl hiw II9 s89
      show _
      generalize upd H9 ol (.lst (es6.map (fun e => V.ref e.2.it) ++ [V.ref it])) = H10 at L10 ⊢
      clear L7 t8 m8 po8 We8 po9 II9 s89 DD7 s67 hit hsl hiw hp hz hl7 hwl hnl We ob L6
      have M10 := L10.mw
      have en : (es6 ++ [((⟨p, z, l, wl, nl, D.s, D.b, D.st, D.wt, none⟩ : DS), (⟨it, I.z, sl, iwl, I.s, I.b, I.st, I.wt, none⟩ : IS))])[es6.length]? = some (⟨p, z, l, wl, nl, D.s, D.b, D.st, D.wt, none⟩, ⟨it, I.z, sl, iwl, I.s, I.b, I.st, I.wt, none⟩) := by
        rw [List.getElem?_append_right (Nat.le_refl _), Nat.sub_self]; rfl
      have eo : (es6 ++ [((⟨p, z, l, wl, nl, D.s, D.b, D.st, D.wt, none⟩ : DS), (⟨it, I.z, sl, iwl, I.s, I.b, I.st, I.wt, none⟩ : IS))])[v.toNat]? = some (D, I) := by
        rw [List.getElem?_append_left vl]; exact he
      have el10 : (es6 ++ [((⟨p, z, l, wl, nl, D.s, D.b, D.st, D.wt, none⟩ : DS), (⟨it, I.z, sl, iwl, I.s, I.b, I.st, I.wt, none⟩ : IS))]).length = es6.length + 1 := by rw [List.length_append, List.length_singleton]
      generalize (⟨p, z, l, wl, nl, D.s, D.b, D.st, D.wt, none⟩ : DS) = Dn at L10 M10 en eo el10
      generalize (⟨it, I.z, sl, iwl, I.s, I.b, I.st, I.wt, none⟩ : IS) = In at L10 M10 en eo el10
      generalize es6 ++ [(Dn, In)] = es at L10 M10 en eo el10
      have lD : (es.map fun e => V.ref e.1.p).length = es6.length + 1 := by rw [List.length_map]; exact el10
      have lI : (es.map fun e => V.ref e.2.it).length = es6.length + 1 := by rw [List.length_map]; exact el10
      have vD := at_m1 (gD en) lD
      have vI := at_m1 (gI en) lI
      have wD := at_of (z := v) (j := v.toNat) (by omega) (gD eo)
      have wI := at_of (z := v) (j := v.toNat) (by omega) (gI eo)
      obtain ⟨Wn, Mn, ln⟩ := M10.el _ _ en
      have ln' : Dn.wt.length ≤ n6 := ln
      -- both tell the same
      refine ⟨_, rfl, _, rfl, dl, _, -1, .ref Dn.p, rfl, rfl, SqL.of L10.pd.h, vD, _, rfl, _, rfl, ol, _, -1, .ref In.it, rfl, rfl, SqL.of L10.po.h, vI, Dn, In, rfl, Wn.da, Wn.ia, Mn, by omega, fun H11 s11 => ⟨_, rfl, iteF ?_⟩⟩
      have L11 := L10.same s11
      obtain ⟨Wo, Mo, lo⟩ := L11.mw.el _ _ eo
      refine ⟨_, rfl, _, rfl, dl, _, v, .ref D.p, rfl, rfl, SqL.of L11.pd.h, wD, _, rfl, _, rfl, ol, _, v, .ref I.it, rfl, rfl, SqL.of L11.po.h, wI, D, I, rfl, Wo.da, Wo.ia, Mo, by omega, fun H12 s12 => ⟨_, rfl, iteF ?_⟩⟩
      have L12 := L11.same s12
      obtain ⟨Wp, Mp, _⟩ := L12.mw.el _ _ en
      obtain ⟨Wq, _, _⟩ := L12.mw.el _ _ eo
      obtain ⟨dxn, obn⟩ := Wp.da.ob
      obtain ⟨dxo, obo⟩ := Wq.da.ob
      have pne : ¬ Dn.p = D.p := fun e => L12.mw.ap _ _ _ _ en eo (by omega) Dn.p (by simp [SE]) (by simp [SE, e])
      refine ⟨_, rfl, _, rfl, dl, _, -1, .ref Dn.p, rfl, rfl, SqL.of L12.pd.h, vD, _, rfl, _, rfl, dl, _, v, .ref D.p, rfl, rfl, SqL.of L12.pd.h, wD, Dn.p, D.p, dxn, dxo, _, _, rfl, rfl, obn, obo, _, rfl, ?_⟩
      rw [show decide (Dn.p = D.p) = false from decide_eq_false pne]
      refine iteF ?_
      refine ⟨_, rfl, _, rfl, dl, _, -1, .ref Dn.p, rfl, rfl, SqL.of L12.pd.h, vD, _, rfl, _, rfl, dl, _, -1, .ref Dn.p, rfl, rfl, SqL.of L12.pd.h, vD, Dn.p, Dn.p, dxn, dxn, _, _, rfl, rfl, obn, obn, _, rfl, ?_⟩
      rw [show decide (Dn.p = Dn.p) = true from decide_eq_true rfl]
      refine iteF ?_
      -- a write to the copy
      refine ⟨_, rfl, _, rfl, _, rfl, dl, _, -1, .ref Dn.p, rfl, rfl, SqL.of L12.pd.h, vD, _, rfl, _, rfl, ol, _, -1, .ref In.it, rfl, rfl, SqL.of L12.po.h, vI, d, c, Dn, In, false, rfl, Wp, Mp, by omega, fun D' I' H13 W13' M13' m13 q13 _ _ => ⟨_, rfl, iteF ?_⟩⟩
      exact ⟨_, _, _, _, _, n6 + 1, _, rfl, L12.step en W13' m13 M13' q13, by omega, by rw [List.length_set, el10]; omega⟩
    · have ht' : ¬ i0 < 2 := fun q => ht (decide_eq_true (by omega))
      exact ⟨_, _, _, _, _, n3, es3, rfl, L4, by omega, by omega⟩
  · rintro σ H0 ⟨v5, v6, v7, v8, v9, n, es, rfl, L0, hn, hes⟩
    have es3 : es.length = 3 := by omega
    refine ⟨_, rfl, (by show 3 ≤ sizeLine; decide), fun l hl => ⟨d, c, l, rfl, L0.mw.dk.same (Same.new hl), upd_same, fun q ks H1 hq e1 hk3 hkb D1 b1 => ⟨q, rfl, ⟨_, SqL.of e1⟩, ?_⟩⟩⟩
    have Lx := L0.same (Same.new (o := .lst [V.int 0, V.int 1, V.int 2]) hl)
    have L1 := Lx.deck D1 b1
    have pq : Pr H1 d c es q (.lst (ks.map V.int)) := ⟨e1, fun h => Lx.mw.dk.on q h hq, fun i f h hm => (se_on (Lx.mw.el i f h).1 q hm).1 hq⟩
    refine for_list (K := K) (a := q) (xs := ks.map V.int) (fun i σ H => ∃ (v5 v6 v7 v8 v9 : Option V) (n : Nat) (es : List (DS × IS)), σ = [some (.ref a), some (.ref d), some (.ref z2), some (.ref dl), some (.ref ol), v5, v6, v7, v8, v9] ∧ LW K C ba H d c dl ol n es ∧ n ≤ 30 + i ∧ es.length = 3 ∧ Pr H d c es q (.lst (ks.map V.int)))
      ⟨_, _, _, _, _, n, es, rfl, L1, by omega, es3, pq⟩ (fun i σ H _ ⟨_, _, _, _, _, _, _, _, _, _, _, p⟩ => SqL.of p.h) ?_ ?_
    · rintro j x σ H3 hj ⟨v5, v6, v7, v8, v9, n3, es3, rfl, L3, hn3, hes3, p3⟩
      obtain ⟨k, hk, rfl⟩ : ∃ k, ks[j]? = some k ∧ V.int k = x := by simpa using hj
      have kb := hkb _ (List.mem_of_getElem? hk)
      have jl := (List.getElem?_eq_some_iff.mp hk).1
      obtain ⟨D, I, he⟩ := LW.len (es := es3) (i := k.toNat) (by omega)
      obtain ⟨We, Me, le⟩ := L3.mw.el _ _ he
      have le' : D.wt.length ≤ n3 := le
      refine ⟨_, rfl, _, rfl, _, rfl, dl, _, k, .ref D.p, rfl, rfl, SqL.of L3.pd.h, at_of (j := k.toNat) (by omega) (gD he), _, rfl, _, rfl, ol, _, k, .ref I.it, rfl, rfl, SqL.of L3.po.h, at_of (j := k.toNat) (by omega) (gI he), d, c, D, I, rfl, We, Me, by omega, fun D' I' H5 W5 M5 m5 q5 _ _ => ⟨_, rfl, iteF ?_⟩⟩
      exact ⟨_, _, _, _, _, n3 + 1, _, rfl, L3.step he W5 m5 M5 q5, by omega, by rw [List.length_set]; exact hes3, p3.step he m5⟩
    · rintro σ H3 ⟨v5, v6, v7, v8, v9, n3, es4, rfl, L3, hn3, hes3, p3⟩
      rw [List.length_map, hk3] at hn3
      refine ⟨_, rfl, _, rfl, dl, ol, _, _, rfl, SqL.of L3.pd.h, SqL.of L3.po.h, fun r hr => lc_zip (K := K) (a := dl) (b := ol) (xs := es4.map fun e => V.ref e.1.p) (ys := es4.map fun e => V.ref e.2.it) (by rw [List.length_map, List.length_map]) (fun i H' => H' r = some (.lst []) ∧ Same H3 H') ⟨upd_same, Same.new hr⟩ (fun i H' ⟨_, s⟩ => ⟨SqL.of (s _ _ L3.pd.h), SqL.of (s _ _ L3.po.h)⟩) ?_ ?_⟩
      · rintro i x y Tp H' hx hy ⟨hr', s⟩ hT
        have hil : i < es4.length := by
          have q := (List.getElem?_eq_some_iff.mp hx).1
          rw [List.length_map] at q
          exact q
        obtain ⟨D, I, he⟩ := LW.len (es := es4) (i := i) hil
        rw [gD he] at hx
        rw [gI he] at hy
        cases hx
        cases hy
        have s5 := Same.new (o := .tup [V.ref D.p, V.ref I.it]) hT
        have sA := s.trans s5
        obtain ⟨We, Me, le⟩ := (L3.same sA).mw.el _ _ he
        have le' : D.wt.length ≤ n3 := le
        refine ⟨Tp, _, rfl, SqT.of upd_same, rfl, _, _, rfl, _, _, rfl, rfl, rfl, ?_⟩
        exact ⟨_, rfl, _, rfl, D, I, rfl, We.da, We.ia, Me, by omega, fun H'' s' => ⟨_, rfl, iteF ⟨s' _ _ (s5 _ _ hr'), sA.trans s'⟩⟩⟩
      rintro H4 ⟨hr4, s4⟩
      refine ⟨(by show 0 ≤ sizeLine; decide), fun r2 hr2 => ⟨.list [], .list [], .lst (SqL.of (Same.new hr2 _ _ hr4)) .nil, .lst (SqL.of upd_same) .nil, shaped_ints [], shaped_ints [], ?_⟩⟩
      have ev : PyData.eqv (.list []) (.list []) = true := PySem.SeqAt.eqv_refl _ (by simp [PyData.canLay0, PyData.canLayAll0])
      rw [ev]
end
end Tk17

namespace Tk17
open PySem PySem.Spec PyProof.Rows L2 Tk
theorem lit_ints {h : Heap} : ∀ {vs : List Value} {zs : List Int} {as : List Addr}, PySem.W.ReadsAllW [] (fun _ => none) h vs (zs.map PySem.W.WData.int) as → Vals (zs.map V.int) vs
  | _, [], _, r => by cases r; exact .nil
  | _, z :: zs, _, r => by
    cases r with
    | cons r1 r2 =>
      cases r1
      exact .cons ⟨_, rfl⟩ (lit_ints r2)
theorem loose_int {lv : List (Str × PySem.W.WData)} {mg : Str → Option Value} {h : Heap} {n : Str} {i : Int} (L : PySem.W.LooseAre lv mg h) (m : (n, PySem.W.WData.int i) ∈ lv) : ∃ t, mg n = some (.int i t) := by
  obtain ⟨v, e, r⟩ := L.val _ m
  cases r
  exact ⟨_, e⟩
theorem loose_tup {lv : List (Str × PySem.W.WData)} {mg : Str → Option Value} {h : Heap} {n : Str} {zs : List Int} (L : PySem.W.LooseAre lv mg h) (m : (n, PySem.W.WData.tuple (zs.map PySem.W.WData.int)) ∈ lv) (hz : zs.length ≤ sizeLine) : ∃ b, mg n = some (.ref b) ∧ TupAt h b (zs.map V.int) := by
  obtain ⟨v, e, r⟩ := L.val _ m
  cases r with
  | @tuple a o vs k xs as h1 h2 h3 h4 =>
    exact ⟨a, e, ⟨o, vs.toList, k, h1, h2, by simpa using h3, lit_ints h4, by rw [List.length_map]; exact hz⟩⟩
section
theorem all_mk {l : PySem.W.OpenLaw} {w : World} {K : PySem.W.Frag} {h : Heap} {mg : Str → Option Value} {fa C : Addr} (X : K.In h) (G : h.Ns mainGlobals mg) (hfa : mg "law" = some (.ref fa)) (hM : ∃ t, mg "MOST_WORD" = some (.int 1000000000 t)) (hBL : ∃ b, mg "BLANK" = some (.ref b) ∧ TupAt h b ((List.replicate 32 (0 : Int)).map V.int))
    {f0 f1 f2 f3 f4 f5 f6 f7 f8 f9 f10 f11 f12 f13 f14 f15 f16 f17 f18 f19 f20 f21 f22 f23 f24 f25 f26 f27 f28 f29 f30 f31 f32 f33 f34 f35 f36 f37 f38 f39 : Addr} {od0 an0 od1 an1 od2 an2 od3 an3 od4 an4 od5 an5 od6 an6 od7 an7 od8 an8 od9 an9 od10 an10 od11 an11 od12 an12 od13 an13 od14 an14 od15 an15 od16 an16 od17 an17 od18 an18 od19 an19 od20 an20 od21 an21 od22 an22 od23 an23 od24 an24 od25 an25 od26 an26 od27 an27 od28 an28 od29 an29 od30 an30 od31 an31 od32 an32 od33 an33 od34 an34 od35 an35 od36 an36 od37 an37 od38 an38 od39 an39 : Option Addr} {sl0 sl1 sl2 sl3 sl4 sl5 sl6 sl7 sl8 sl9 sl10 sl11 sl12 sl13 sl14 sl15 sl16 sl17 sl18 sl19 sl20 sl21 sl22 sl23 sl24 sl25 sl26 sl27 sl28 sl29 sl30 sl31 sl32 sl33 sl34 sl35 sl36 sl37 sl38 sl39 : Array (Option Value)} {oc0 kV0 dc0 pm0 cd0 ct0 oc1 kV1 dc1 pm1 cd1 ct1 oc2 kV2 dc2 pm2 cd2 ct2 oc3 kV3 dc3 pm3 cd3 ct3 oc4 kV4 dc4 pm4 cd4 ct4 oc5 kV5 dc5 pm5 cd5 ct5 oc6 kV6 dc6 pm6 cd6 ct6 oc7 kV7 dc7 pm7 cd7 ct7 oc8 kV8 dc8 pm8 cd8 ct8 oc9 kV9 dc9 pm9 cd9 ct9 oc10 kV10 dc10 pm10 cd10 ct10 oc11 kV11 dc11 pm11 cd11 ct11 oc12 kV12 dc12 pm12 cd12 ct12 oc13 kV13 dc13 pm13 cd13 ct13 oc14 kV14 dc14 pm14 cd14 ct14 oc15 kV15 dc15 pm15 cd15 ct15 oc16 kV16 dc16 pm16 cd16 ct16 oc17 kV17 dc17 pm17 cd17 ct17 oc18 kV18 dc18 pm18 cd18 ct18 oc19 kV19 dc19 pm19 cd19 ct19 oc20 kV20 dc20 pm20 cd20 ct20 oc21 kV21 dc21 pm21 cd21 ct21 oc22 kV22 dc22 pm22 cd22 ct22 oc23 kV23 dc23 pm23 cd23 ct23 oc24 kV24 dc24 pm24 cd24 ct24 oc25 kV25 dc25 pm25 cd25 ct25 oc26 kV26 dc26 pm26 cd26 ct26 oc27 kV27 dc27 pm27 cd27 ct27 oc28 kV28 dc28 pm28 cd28 ct28 oc29 kV29 dc29 pm29 cd29 ct29 oc30 kV30 dc30 pm30 cd30 ct30 oc31 kV31 dc31 pm31 cd31 ct31 oc32 kV32 dc32 pm32 cd32 ct32 oc33 kV33 dc33 pm33 cd33 ct33 oc34 kV34 dc34 pm34 cd34 ct34 oc35 kV35 dc35 pm35 cd35 ct35 oc36 kV36 dc36 pm36 cd36 ct36 oc37 kV37 dc37 pm37 cd37 ct37 oc38 kV38 dc38 pm38 cd38 ct38 oc39 kV39 dc39 pm39 cd39 ct39 : Value} {tk1 tk2 tk3 tk4 tk5 tk6 tk7 : Tok} {PC fP N1 N2 : Addr} {odP anP : Option Addr} {slP : Array (Option Value)} {ocP kVP dcP pmP cdP ctP : Value} {nmA qA nmB qB0 : Str} {bsA bmA subA bsB subB : List Value} {snA snB : List Str} {abA abB hdB : Bool} {colA colB : Option Bool} {ddA ddB : Option Addr} {kA0 kA1 kA2 kA3 kA5 kB0 kB1 kB2 kB3 kB5 : Option Value} {newB : String} {cN2 : Value} {dN2 : Option Addr} {eN2 : Array DictEntry} {nN2 : Nat} {sN2 : Array (Option Value)}
    (aC : PySem.W.nsIn K mainGlobals "Disk" = some (some (.ref C)))
    (a0 : PySem.W.nsIn K mainGlobals "is_integer" = some (some (.ref f0)))
    (l0 : K.lookup f0 = some ⟨oc0, od0, .func (PySem.W.fnOf "is_integer" "is_integer" (defArgs S_is_integer) (defBody S_is_integer) (defScope S_is_integer) .none kV0 dc0 pm0 an0 cd0 ct0), sl0⟩)
    (c0 : PySem.W.codeIn K cd0 "is_integer" = true)
    (k0 : PySem.W.keepIn K (.ref f0) = true)
    (a1 : PySem.W.nsIn K mainGlobals "is_within" = some (some (.ref f1)))
    (l1 : K.lookup f1 = some ⟨oc1, od1, .func (PySem.W.fnOf "is_within" "is_within" (defArgs S_is_within) (defBody S_is_within) (defScope S_is_within) .none kV1 dc1 pm1 an1 cd1 ct1), sl1⟩)
    (c1 : PySem.W.codeIn K cd1 "is_within" = true)
    (k1 : PySem.W.keepIn K (.ref f1) = true)
    (a2 : PySem.W.nsIn K mainGlobals "are_within" = some (some (.ref f2)))
    (l2 : K.lookup f2 = some ⟨oc2, od2, .func (PySem.W.fnOf "are_within" "are_within" (defArgs S_are_within) (defBody S_are_within) (defScope S_are_within) .none kV2 dc2 pm2 an2 cd2 ct2), sl2⟩)
    (c2 : PySem.W.codeIn K cd2 "are_within" = true)
    (k2 : PySem.W.keepIn K (.ref f2) = true)
    (a3 : PySem.W.nsIn K mainGlobals "are_words" = some (some (.ref f3)))
    (l3 : K.lookup f3 = some ⟨oc3, od3, .func (PySem.W.fnOf "are_words" "are_words" (defArgs S_are_words) (defBody S_are_words) (defScope S_are_words) .none kV3 dc3 pm3 an3 cd3 ct3), sl3⟩)
    (c3 : PySem.W.codeIn K cd3 "are_words" = true)
    (k3 : PySem.W.keepIn K (.ref f3) = true)
    (a4 : PySem.W.nsIn K mainGlobals "is_block" = some (some (.ref f4)))
    (l4 : K.lookup f4 = some ⟨oc4, od4, .func (PySem.W.fnOf "is_block" "is_block" (defArgs S_is_block) (defBody S_is_block) (defScope S_is_block) .none kV4 dc4 pm4 an4 cd4 ct4), sl4⟩)
    (c4 : PySem.W.codeIn K cd4 "is_block" = true)
    (k4 : PySem.W.keepIn K (.ref f4) = true)
    (a5 : PySem.W.nsIn K mainGlobals "is_keep" = some (some (.ref f5)))
    (l5 : K.lookup f5 = some ⟨oc5, od5, .func (PySem.W.fnOf "is_keep" "is_keep" (defArgs S_is_keep) (defBody S_is_keep) (defScope S_is_keep) .none kV5 dc5 pm5 an5 cd5 ct5), sl5⟩)
    (c5 : PySem.W.codeIn K cd5 "is_keep" = true)
    (k5 : PySem.W.keepIn K (.ref f5) = true)
    (a6 : PySem.W.nsIn K mainGlobals "is_fuse" = some (some (.ref f6)))
    (l6 : K.lookup f6 = some ⟨oc6, od6, .func (PySem.W.fnOf "is_fuse" "is_fuse" (defArgs S_is_fuse) (defBody S_is_fuse) (defScope S_is_fuse) .none kV6 dc6 pm6 an6 cd6 ct6), sl6⟩)
    (c6 : PySem.W.codeIn K cd6 "is_fuse" = true)
    (k6 : PySem.W.keepIn K (.ref f6) = true)
    (a7 : PySem.W.findIn K (.ref C) "__init__" = some (some (.ref f7)))
    (l7 : K.lookup f7 = some ⟨oc7, od7, .func (PySem.W.fnOf "__init__" "Disk.__init__" (defArgs S_Disk___init__) (defBody S_Disk___init__) (defScope S_Disk___init__) .none kV7 dc7 pm7 an7 cd7 ct7), sl7⟩)
    (c7 : PySem.W.codeIn K cd7 "Disk.__init__" = true)
    (k7 : PySem.W.keepIn K (.ref f7) = true)
    (i7 : PySem.W.isFn K (.ref f7) = true)
    (a8 : PySem.W.findIn K (.ref C) "sizes" = some (some (.ref f8)))
    (l8 : K.lookup f8 = some ⟨oc8, od8, .func (PySem.W.fnOf "sizes" "Disk.sizes" (defArgs S_Disk_sizes) (defBody S_Disk_sizes) (defScope S_Disk_sizes) .none kV8 dc8 pm8 an8 cd8 ct8), sl8⟩)
    (c8 : PySem.W.codeIn K cd8 "Disk.sizes" = true)
    (k8 : PySem.W.keepIn K (.ref f8) = true)
    (i8 : PySem.W.isFn K (.ref f8) = true)
    (a9 : PySem.W.findIn K (.ref C) "many" = some (some (.ref f9)))
    (l9 : K.lookup f9 = some ⟨oc9, od9, .func (PySem.W.fnOf "many" "Disk.many" (defArgs S_Disk_many) (defBody S_Disk_many) (defScope S_Disk_many) .none kV9 dc9 pm9 an9 cd9 ct9), sl9⟩)
    (c9 : PySem.W.codeIn K cd9 "Disk.many" = true)
    (k9 : PySem.W.keepIn K (.ref f9) = true)
    (i9 : PySem.W.isFn K (.ref f9) = true)
    (a10 : PySem.W.findIn K (.ref C) "read" = some (some (.ref f10)))
    (l10 : K.lookup f10 = some ⟨oc10, od10, .func (PySem.W.fnOf "read" "Disk.read" (defArgs S_Disk_read) (defBody S_Disk_read) (defScope S_Disk_read) .none kV10 dc10 pm10 an10 cd10 ct10), sl10⟩)
    (c10 : PySem.W.codeIn K cd10 "Disk.read" = true)
    (k10 : PySem.W.keepIn K (.ref f10) = true)
    (i10 : PySem.W.isFn K (.ref f10) = true)
    (a11 : PySem.W.findIn K (.ref C) "write" = some (some (.ref f11)))
    (l11 : K.lookup f11 = some ⟨oc11, od11, .func (PySem.W.fnOf "write" "Disk.write" (defArgs S_Disk_write) (defBody S_Disk_write) (defScope S_Disk_write) .none kV11 dc11 pm11 an11 cd11 ct11), sl11⟩)
    (c11 : PySem.W.codeIn K cd11 "Disk.write" = true)
    (k11 : PySem.W.keepIn K (.ref f11) = true)
    (i11 : PySem.W.isFn K (.ref f11) = true)
    (a12 : PySem.W.findIn K (.ref C) "force" = some (some (.ref f12)))
    (l12 : K.lookup f12 = some ⟨oc12, od12, .func (PySem.W.fnOf "force" "Disk.force" (defArgs S_Disk_force) (defBody S_Disk_force) (defScope S_Disk_force) .none kV12 dc12 pm12 an12 cd12 ct12), sl12⟩)
    (c12 : PySem.W.codeIn K cd12 "Disk.force" = true)
    (k12 : PySem.W.keepIn K (.ref f12) = true)
    (i12 : PySem.W.isFn K (.ref f12) = true)
    (a13 : PySem.W.findIn K (.ref C) "waiting" = some (some (.ref f13)))
    (l13 : K.lookup f13 = some ⟨oc13, od13, .func (PySem.W.fnOf "waiting" "Disk.waiting" (defArgs S_Disk_waiting) (defBody S_Disk_waiting) (defScope S_Disk_waiting) .none kV13 dc13 pm13 an13 cd13 ct13), sl13⟩)
    (c13 : PySem.W.codeIn K cd13 "Disk.waiting" = true)
    (k13 : PySem.W.keepIn K (.ref f13) = true)
    (i13 : PySem.W.isFn K (.ref f13) = true)
    (a14 : PySem.W.findIn K (.ref C) "standing" = some (some (.ref f14)))
    (l14 : K.lookup f14 = some ⟨oc14, od14, .func (PySem.W.fnOf "standing" "Disk.standing" (defArgs S_Disk_standing) (defBody S_Disk_standing) (defScope S_Disk_standing) .none kV14 dc14 pm14 an14 cd14 ct14), sl14⟩)
    (c14 : PySem.W.codeIn K cd14 "Disk.standing" = true)
    (k14 : PySem.W.keepIn K (.ref f14) = true)
    (i14 : PySem.W.isFn K (.ref f14) = true)
    (a15 : PySem.W.findIn K (.ref C) "cut" = some (some (.ref f15)))
    (l15 : K.lookup f15 = some ⟨oc15, od15, .func (PySem.W.fnOf "cut" "Disk.cut" (defArgs S_Disk_cut) (defBody S_Disk_cut) (defScope S_Disk_cut) .none kV15 dc15 pm15 an15 cd15 ct15), sl15⟩)
    (c15 : PySem.W.codeIn K cd15 "Disk.cut" = true)
    (k15 : PySem.W.keepIn K (.ref f15) = true)
    (i15 : PySem.W.isFn K (.ref f15) = true)
    (a16 : PySem.W.findIn K (.ref C) "fuse" = some (some (.ref f16)))
    (l16 : K.lookup f16 = some ⟨oc16, od16, .func (PySem.W.fnOf "fuse" "Disk.fuse" (defArgs S_Disk_fuse) (defBody S_Disk_fuse) (defScope S_Disk_fuse) .none kV16 dc16 pm16 an16 cd16 ct16), sl16⟩)
    (c16 : PySem.W.codeIn K cd16 "Disk.fuse" = true)
    (k16 : PySem.W.keepIn K (.ref f16) = true)
    (i16 : PySem.W.isFn K (.ref f16) = true)
    (a17 : PySem.W.findIn K (.ref C) "copied" = some (some (.ref f17)))
    (l17 : K.lookup f17 = some ⟨oc17, od17, .func (PySem.W.fnOf "copied" "Disk.copied" (defArgs S_Disk_copied) (defBody S_Disk_copied) (defScope S_Disk_copied) .none kV17 dc17 pm17 an17 cd17 ct17), sl17⟩)
    (c17 : PySem.W.codeIn K cd17 "Disk.copied" = true)
    (k17 : PySem.W.keepIn K (.ref f17) = true)
    (i17 : PySem.W.isFn K (.ref f17) = true)
    (a18 : PySem.W.findIn K (.ref C) "_check_place" = some (some (.ref f18)))
    (l18 : K.lookup f18 = some ⟨oc18, od18, .func (PySem.W.fnOf "_check_place" "Disk._check_place" (defArgs S_Disk__check_place) (defBody S_Disk__check_place) (defScope S_Disk__check_place) .none kV18 dc18 pm18 an18 cd18 ct18), sl18⟩)
    (c18 : PySem.W.codeIn K cd18 "Disk._check_place" = true)
    (k18 : PySem.W.keepIn K (.ref f18) = true)
    (i18 : PySem.W.isFn K (.ref f18) = true)
    (a19 : PySem.W.findIn K (.ref C) "_burn" = some (some (.ref f19)))
    (l19 : K.lookup f19 = some ⟨oc19, od19, .func (PySem.W.fnOf "_burn" "Disk._burn" (defArgs S_Disk__burn) (defBody S_Disk__burn) (defScope S_Disk__burn) .none kV19 dc19 pm19 an19 cd19 ct19), sl19⟩)
    (c19 : PySem.W.codeIn K cd19 "Disk._burn" = true)
    (k19 : PySem.W.keepIn K (.ref f19) = true)
    (i19 : PySem.W.isFn K (.ref f19) = true)
    (a20 : PySem.W.findIn K (.ref C) "_wait_for_none" = some (some (.ref f20)))
    (l20 : K.lookup f20 = some ⟨oc20, od20, .func (PySem.W.fnOf "_wait_for_none" "Disk._wait_for_none" (defArgs S_Disk__wait_for_none) (defBody S_Disk__wait_for_none) (defScope S_Disk__wait_for_none) .none kV20 dc20 pm20 an20 cd20 ct20), sl20⟩)
    (c20 : PySem.W.codeIn K cd20 "Disk._wait_for_none" = true)
    (k20 : PySem.W.keepIn K (.ref f20) = true)
    (i20 : PySem.W.isFn K (.ref f20) = true)
    (a21 : PySem.W.nsIn K mainGlobals "_law_deck" = some (some (.ref f21)))
    (l21 : K.lookup f21 = some ⟨oc21, od21, .func (PySem.W.fnOf "_law_deck" "_law_deck" (defArgs S__law_deck) (defBody S__law_deck) (defScope S__law_deck) .none kV21 dc21 pm21 an21 cd21 ct21), sl21⟩)
    (c21 : PySem.W.codeIn K cd21 "_law_deck" = true)
    (k21 : PySem.W.keepIn K (.ref f21) = true)
    (a22 : PySem.W.nsIn K mainGlobals "_law_draw" = some (some (.ref f22)))
    (l22 : K.lookup f22 = some ⟨oc22, od22, .func (PySem.W.fnOf "_law_draw" "_law_draw" (defArgs S__law_draw) (defBody S__law_draw) (defScope S__law_draw) .none kV22 dc22 pm22 an22 cd22 ct22), sl22⟩)
    (c22 : PySem.W.codeIn K cd22 "_law_draw" = true)
    (k22 : PySem.W.keepIn K (.ref f22) = true)
    (a23 : PySem.W.nsIn K mainGlobals "_law_pick" = some (some (.ref f23)))
    (l23 : K.lookup f23 = some ⟨oc23, od23, .func (PySem.W.fnOf "_law_pick" "_law_pick" (defArgs S__law_pick) (defBody S__law_pick) (defScope S__law_pick) .none kV23 dc23 pm23 an23 cd23 ct23), sl23⟩)
    (c23 : PySem.W.codeIn K cd23 "_law_pick" = true)
    (k23 : PySem.W.keepIn K (.ref f23) = true)
    (a24 : PySem.W.nsIn K mainGlobals "_law_shuffled" = some (some (.ref f24)))
    (l24 : K.lookup f24 = some ⟨oc24, od24, .func (PySem.W.fnOf "_law_shuffled" "_law_shuffled" (defArgs S__law_shuffled) (defBody S__law_shuffled) (defScope S__law_shuffled) .none kV24 dc24 pm24 an24 cd24 ct24), sl24⟩)
    (c24 : PySem.W.codeIn K cd24 "_law_shuffled" = true)
    (k24 : PySem.W.keepIn K (.ref f24) = true)
    (a25 : PySem.W.nsIn K mainGlobals "_law_sizes" = some (some (.ref f25)))
    (l25 : K.lookup f25 = some ⟨oc25, od25, .func (PySem.W.fnOf "_law_sizes" "_law_sizes" (defArgs S__law_sizes) (defBody S__law_sizes) (defScope S__law_sizes) .none kV25 dc25 pm25 an25 cd25 ct25), sl25⟩)
    (c25 : PySem.W.codeIn K cd25 "_law_sizes" = true)
    (k25 : PySem.W.keepIn K (.ref f25) = true)
    (a26 : PySem.W.nsIn K mainGlobals "_law_many" = some (some (.ref f26)))
    (l26 : K.lookup f26 = some ⟨oc26, od26, .func (PySem.W.fnOf "_law_many" "_law_many" (defArgs S__law_many) (defBody S__law_many) (defScope S__law_many) .none kV26 dc26 pm26 an26 cd26 ct26), sl26⟩)
    (c26 : PySem.W.codeIn K cd26 "_law_many" = true)
    (k26 : PySem.W.keepIn K (.ref f26) = true)
    (a27 : PySem.W.nsIn K mainGlobals "_law_blank" = some (some (.ref f27)))
    (l27 : K.lookup f27 = some ⟨oc27, od27, .func (PySem.W.fnOf "_law_blank" "_law_blank" (defArgs S__law_blank) (defBody S__law_blank) (defScope S__law_blank) .none kV27 dc27 pm27 an27 cd27 ct27), sl27⟩)
    (c27 : PySem.W.codeIn K cd27 "_law_blank" = true)
    (k27 : PySem.W.keepIn K (.ref f27) = true)
    (a28 : PySem.W.nsIn K mainGlobals "_law_forced" = some (some (.ref f28)))
    (l28 : K.lookup f28 = some ⟨oc28, od28, .func (PySem.W.fnOf "_law_forced" "_law_forced" (defArgs S__law_forced) (defBody S__law_forced) (defScope S__law_forced) .none kV28 dc28 pm28 an28 cd28 ct28), sl28⟩)
    (c28 : PySem.W.codeIn K cd28 "_law_forced" = true)
    (k28 : PySem.W.keepIn K (.ref f28) = true)
    (a29 : PySem.W.nsIn K mainGlobals "_law_fell" = some (some (.ref f29)))
    (l29 : K.lookup f29 = some ⟨oc29, od29, .func (PySem.W.fnOf "_law_fell" "_law_fell" (defArgs S__law_fell) (defBody S__law_fell) (defScope S__law_fell) .none kV29 dc29 pm29 an29 cd29 ct29), sl29⟩)
    (c29 : PySem.W.codeIn K cd29 "_law_fell" = true)
    (k29 : PySem.W.keepIn K (.ref f29) = true)
    (a30 : PySem.W.nsIn K mainGlobals "_law_word" = some (some (.ref f30)))
    (l30 : K.lookup f30 = some ⟨oc30, od30, .func (PySem.W.fnOf "_law_word" "_law_word" (defArgs S__law_word) (defBody S__law_word) (defScope S__law_word) .none kV30 dc30 pm30 an30 cd30 ct30), sl30⟩)
    (c30 : PySem.W.codeIn K cd30 "_law_word" = true)
    (k30 : PySem.W.keepIn K (.ref f30) = true)
    (a31 : PySem.W.nsIn K mainGlobals "_law_block" = some (some (.ref f31)))
    (l31 : K.lookup f31 = some ⟨oc31, od31, .func (PySem.W.fnOf "_law_block" "_law_block" (defArgs S__law_block) (defBody S__law_block) (defScope S__law_block) .none kV31 dc31 pm31 an31 cd31 ct31), sl31⟩)
    (c31 : PySem.W.codeIn K cd31 "_law_block" = true)
    (k31 : PySem.W.keepIn K (.ref f31) = true)
    (a32 : PySem.W.nsIn K mainGlobals "_law_keep" = some (some (.ref f32)))
    (l32 : K.lookup f32 = some ⟨oc32, od32, .func (PySem.W.fnOf "_law_keep" "_law_keep" (defArgs S__law_keep) (defBody S__law_keep) (defScope S__law_keep) .none kV32 dc32 pm32 an32 cd32 ct32), sl32⟩)
    (c32 : PySem.W.codeIn K cd32 "_law_keep" = true)
    (k32 : PySem.W.keepIn K (.ref f32) = true)
    (a33 : PySem.W.nsIn K mainGlobals "_law_drawn_sizes" = some (some (.ref f33)))
    (l33 : K.lookup f33 = some ⟨oc33, od33, .func (PySem.W.fnOf "_law_drawn_sizes" "_law_drawn_sizes" (defArgs S__law_drawn_sizes) (defBody S__law_drawn_sizes) (defScope S__law_drawn_sizes) .none kV33 dc33 pm33 an33 cd33 ct33), sl33⟩)
    (c33 : PySem.W.codeIn K cd33 "_law_drawn_sizes" = true)
    (k33 : PySem.W.keepIn K (.ref f33) = true)
    (a34 : PySem.W.nsIn K mainGlobals "_law_copied" = some (some (.ref f34)))
    (l34 : K.lookup f34 = some ⟨oc34, od34, .func (PySem.W.fnOf "_law_copied" "_law_copied" (defArgs S__law_copied) (defBody S__law_copied) (defScope S__law_copied) .none kV34 dc34 pm34 an34 cd34 ct34), sl34⟩)
    (c34 : PySem.W.codeIn K cd34 "_law_copied" = true)
    (k34 : PySem.W.keepIn K (.ref f34) = true)
    (a35 : PySem.W.nsIn K mainGlobals "_law_is_same" = some (some (.ref f35)))
    (l35 : K.lookup f35 = some ⟨oc35, od35, .func (PySem.W.fnOf "_law_is_same" "_law_is_same" (defArgs S__law_is_same) (defBody S__law_is_same) (defScope S__law_is_same) .none kV35 dc35 pm35 an35 cd35 ct35), sl35⟩)
    (c35 : PySem.W.codeIn K cd35 "_law_is_same" = true)
    (k35 : PySem.W.keepIn K (.ref f35) = true)
    (a36 : PySem.W.nsIn K mainGlobals "_law_did" = some (some (.ref f36)))
    (l36 : K.lookup f36 = some ⟨oc36, od36, .func (PySem.W.fnOf "_law_did" "_law_did" (defArgs S__law_did) (defBody S__law_did) (defScope S__law_did) .none kV36 dc36 pm36 an36 cd36 ct36), sl36⟩)
    (c36 : PySem.W.codeIn K cd36 "_law_did" = true)
    (k36 : PySem.W.keepIn K (.ref f36) = true)
    (a37 : PySem.W.nsIn K mainGlobals "_law_set" = some (some (.ref f37)))
    (l37 : K.lookup f37 = some ⟨oc37, od37, .func (PySem.W.fnOf "_law_set" "_law_set" (defArgs S__law_set) (defBody S__law_set) (defScope S__law_set) .none kV37 dc37 pm37 an37 cd37 ct37), sl37⟩)
    (c37 : PySem.W.codeIn K cd37 "_law_set" = true)
    (k37 : PySem.W.keepIn K (.ref f37) = true)
    (a38 : PySem.W.nsIn K mainGlobals "_law_is_passed" = some (some (.ref f38)))
    (l38 : K.lookup f38 = some ⟨oc38, od38, .func (PySem.W.fnOf "_law_is_passed" "_law_is_passed" (defArgs S__law_is_passed) (defBody S__law_is_passed) (defScope S__law_is_passed) .none kV38 dc38 pm38 an38 cd38 ct38), sl38⟩)
    (c38 : PySem.W.codeIn K cd38 "_law_is_passed" = true)
    (k38 : PySem.W.keepIn K (.ref f38) = true)
    (a39 : PySem.W.nsIn K mainGlobals "law" = some (some (.ref f39)))
    (l39 : K.lookup f39 = some ⟨oc39, od39, .func (PySem.W.fnOf "law" "law" (defArgs S_law) (defBody S_law) (defScope S_law) .none kV39 dc39 pm39 an39 cd39 ct39), sl39⟩)
    (c39 : PySem.W.codeIn K cd39 "law" = true)
    (k39 : PySem.W.keepIn K (.ref f39) = true)
    (pg : PySem.W.plainGet K C Str.empty = true)
    (hd : PySem.W.hasDictIn K C = true)
    (po : PySem.W.plainOver K C = true)
    (sa : PySem.W.findIn K (.ref C) "__setattr__" = some (some (.builtin "object.__setattr__")))
    (mkI : PySem.W.makesIn K C = true)
    (kC : PySem.W.keepIn K (.ref C) = true)
    (nS : PySem.W.findIn K (.ref C) "_sizes" = some none)
    (nT : PySem.W.findIn K (.ref C) "_standing" = some none)
    (nW : PySem.W.findIn K (.ref C) "_waiting" = some none)
    (nN : PySem.W.findIn K (.ref C) "_newest" = some none)
    (nF : PySem.W.findIn K (.ref C) "_fuse" = some none)
    (ic : PySem.W.findIn K (.ref C) "__class__" = some (some (.builtin "object.__class__")))
    (ig : PySem.W.specialIn K (.builtin "object.__class__") "__get__" = some (some (.builtin "getset_descriptor.__get__")))
    (it : PySem.W.takesIn K (.builtin "object.__class__") = some true)
    (im : PySem.W.mroIn K C (.type "object") = some true)
    (m1 : PySem.W.nsIn K mainGlobals "LEAST_SEGMENTS" = some (some (.int 6 tk1)))
    (m2 : PySem.W.nsIn K mainGlobals "MOST_SEGMENTS" = some (some (.int 40 tk2)))
    (m3 : PySem.W.nsIn K mainGlobals "LEAST_BLOCKS" = some (some (.int 4 tk3)))
    (m4 : PySem.W.nsIn K mainGlobals "MOST_BLOCKS" = some (some (.int 24 tk4)))
    (m5 : PySem.W.nsIn K mainGlobals "BLOCK_WORDS" = some (some (.int 32 tk5)))
    (m6 : PySem.W.nsIn K mainGlobals "CONTENT_WORDS" = some (some (.int 28 tk6)))
    (m7 : PySem.W.nsIn K mainGlobals "ROOT_WORDS" = some (some (.int 4 tk7)))
    (z_int : PySem.W.nsIn K mainGlobals "int" = some none)
    (z_bool : PySem.W.nsIn K mainGlobals "bool" = some none)
    (z_tuple : PySem.W.nsIn K mainGlobals "tuple" = some none)
    (z_all : PySem.W.nsIn K mainGlobals "all" = some none)
    (z_len : PySem.W.nsIn K mainGlobals "len" = some none)
    (z_isinstance : PySem.W.nsIn K mainGlobals "isinstance" = some none)
    (z_max : PySem.W.nsIn K mainGlobals "max" = some none)
    (z_repr : PySem.W.nsIn K mainGlobals "repr" = some none)
    (z_range : PySem.W.nsIn K mainGlobals "range" = some none)
    (z_list : PySem.W.nsIn K mainGlobals "list" = some none)
    (z_zip : PySem.W.nsIn K mainGlobals "zip" = some none)
    (z_enumerate : PySem.W.nsIn K mainGlobals "enumerate" = some none)
    (z_dict : PySem.W.nsIn K mainGlobals "dict" = some none)
    (pA : PySem.W.nsIn K mainGlobals "PowerCut" = some (some (.ref PC)))
    (pI : PySem.W.findIn K (.ref PC) "__init__" = some (some (.ref fP)))
    (pL : K.lookup fP = some ⟨ocP, odP, .func (PySem.W.fnOf "__init__" "PowerCut.__init__" (defArgs S_PowerCut___init__) (defBody S_PowerCut___init__) (defScope S_PowerCut___init__) .none kVP dcP pmP anP cdP ctP), slP⟩)
    (pC : PySem.W.codeIn K cdP "PowerCut.__init__" = true)
    (pK : PySem.W.keepIn K (.ref fP) = true)
    (pT : PySem.W.typeIn K (.ref fP) = some (.type "function"))
    (qC : K.lookup PC = some (excClassObj nmA qA PC N1 bsA bmA true snA subA abA colA ddA kA0 kA1 kA2 kA3 kA5 "Exception.__new__"))
    (qB : refsEx bmA = true)
    (qE : PySem.W.subIn K (.ref PC) (.type "BaseException") = some true)
    (qT : PySem.W.typeIn K (.ref PC) = some (.type "type"))
    (qK : PySem.W.keepIn K (.ref PC) = true)
    (iP : PySem.W.isClsIn K PC = true)
    (sP : PySem.W.subIn K (.ref PC) (.ref PC) = some true)
    (dC : K.lookup C = some (excClassObj nmB qB0 C N2 bsB [.type "object"] hdB snB subB abB colB ddB kB0 kB1 kB2 kB3 kB5 newB))
    (dN1 : K.lookup N2 = some ⟨cN2, dN2, .dict eN2 nN2, sN2⟩)
    (dN3 : (eN2.all fun e => match e.key with | .str _ _ => true | _ => false) = true)
    (d1 : PySem.W.nsIn K N2 "__eq__" = some none)
    (d2 : PySem.W.nsIn K N2 "__ne__" = some none)
    : ∃ (fd : FuncData) (t : Addr), TupAt h t ((List.replicate 32 (0 : Int)).map V.int) ∧ (∀ (s : Shared) (u : Value), BindsTo s fd ⟨[u], []⟩ [("script", u)]) ∧
        ∀ (base : Heap) (s₁ : Shared) (H : Hp) (a : Addr) (u : Value) (ns : List Int), Env0 l.prog w K mg base callerA [] s₁ H → BindsTo s₁ fd ⟨[u], []⟩ [("script", u)] → u = .ref a →
          SqL K H a (ns.map V.int) → ns.length ≤ 63 → SqT K H t ((List.replicate 32 (0 : Int)).map V.int) → (∀ b, H b ≠ none → b = a ∨ b = t) →
          codeAny (model l.prog w) callerA (.call (.ref fa) ⟨[u], []⟩) (CR CX0 [] l.prog w H s₁ (fun v _ => v = .bl true) E0) s₁ := by
  have e := hfa.symm.trans (PySem.W.mg_of X G a39)
  cases e
  obtain ⟨ba, hba, htup⟩ := hBL
  have mgo : ∀ {n : Str} {v : Value}, PySem.W.nsIn K mainGlobals n = some (some v) → mg n = some v := fun e => PySem.W.mg_of X G e
  have mgn : ∀ {n : Str}, PySem.W.nsIn K mainGlobals n = some none → mg n = none := fun e => PySem.W.mg_none_of X G e
  have ie : PySem.W.kitOne K (.ref C) (.ref C) = some true := by
    unfold PySem.W.kitOne
    rw [if_pos (beq_self_eq_true _)]
  have cl : Cls K C := ⟨pg, hd, po, sa⟩
  have T : DT K mg C f7 ba := ⟨cl, ⟨mkI, a7, i7, kC⟩, mgo aC, ⟨cl, ic, ig, it, im, ie⟩, nS, nT, nW, nN, nF, hba, ⟨_, mgo m1⟩, ⟨_, mgo m2⟩, ⟨_, mgo m3⟩, ⟨_, mgo m4⟩, ⟨_, mgo m5⟩, ⟨_, mgo m6⟩, ⟨_, mgo m7⟩⟩
  have Kt : Kn mg := ⟨mgn z_isinstance, mgn z_int, mgn z_bool, mgn z_tuple, mgn z_all, mgn z_len, hM⟩
  have B : Bi mg := ⟨mgn z_int, mgn z_max, mgn z_len⟩
  have FL := fun_mk (st := S_law) l39 c39 k39
  let dInt : DefT K mg "is_integer" S_is_integer := ⟨_, _, fun_mk (st := S_is_integer) l0 c0 k0, mgo a0⟩
  let dWithin : DefT K mg "is_within" S_is_within := ⟨_, _, fun_mk (st := S_is_within) l1 c1 k1, mgo a1⟩
  let dAre : DefT K mg "are_within" S_are_within := ⟨_, _, fun_mk (st := S_are_within) l2 c2 k2, mgo a2⟩
  let dKeepP : DefT K mg "is_keep" S_is_keep := ⟨_, _, fun_mk (st := S_is_keep) l5 c5 k5, mgo a5⟩
  let dFuseP : DefT K mg "is_fuse" S_is_fuse := ⟨_, _, fun_mk (st := S_is_fuse) l6 c6 k6, mgo a6⟩
  let dWords : DefT K mg "are_words" S_are_words := ⟨_, _, fun_mk (st := S_are_words) l3 c3 k3, mgo a3⟩
  let dBlk : DefT K mg "is_block" S_is_block := ⟨_, _, fun_mk (st := S_is_block) l4 c4 k4, mgo a4⟩
  let dDeck : DefT K mg "_law_deck" S__law_deck := ⟨_, _, fun_mk (st := S__law_deck) l21 c21 k21, mgo a21⟩
  let dDraw : DefT K mg "_law_draw" S__law_draw := ⟨_, _, fun_mk (st := S__law_draw) l22 c22 k22, mgo a22⟩
  let dPick : DefT K mg "_law_pick" S__law_pick := ⟨_, _, fun_mk (st := S__law_pick) l23 c23 k23, mgo a23⟩
  let dSizes : DefT K mg "_law_sizes" S__law_sizes := ⟨_, _, fun_mk (st := S__law_sizes) l25 c25 k25, mgo a25⟩
  let dMany : DefT K mg "_law_many" S__law_many := ⟨_, _, fun_mk (st := S__law_many) l26 c26 k26, mgo a26⟩
  let dWord : DefT K mg "_law_word" S__law_word := ⟨_, _, fun_mk (st := S__law_word) l30 c30 k30, mgo a30⟩
  let dBlock : DefT K mg "_law_block" S__law_block := ⟨_, _, fun_mk (st := S__law_block) l31 c31 k31, mgo a31⟩
  let dBlank : DefT K mg "_law_blank" S__law_blank := ⟨_, _, fun_mk (st := S__law_blank) l27 c27 k27, mgo a27⟩
  let dShuf : DefT K mg "_law_shuffled" S__law_shuffled := ⟨_, _, fun_mk (st := S__law_shuffled) l24 c24 k24, mgo a24⟩
  let dOCop : DefT K mg "_law_copied" S__law_copied := ⟨_, _, fun_mk (st := S__law_copied) l34 c34 k34, mgo a34⟩
  let dSame : DefT K mg "_law_is_same" S__law_is_same := ⟨_, _, fun_mk (st := S__law_is_same) l35 c35 k35, mgo a35⟩
  let dDid : DefT K mg "_law_did" S__law_did := ⟨_, _, fun_mk (st := S__law_did) l36 c36 k36, mgo a36⟩
  let dSet : DefT K mg "_law_set" S__law_set := ⟨_, _, fun_mk (st := S__law_set) l37 c37 k37, mgo a37⟩
  let dPassed : DefT K mg "_law_is_passed" S__law_is_passed := ⟨_, _, fun_mk (st := S__law_is_passed) l38 c38 k38, mgo a38⟩
  let dForced : DefT K mg "_law_forced" S__law_forced := ⟨_, _, fun_mk (st := S__law_forced) l28 c28 k28, mgo a28⟩
  let dFell : DefT K mg "_law_fell" S__law_fell := ⟨_, _, fun_mk (st := S__law_fell) l29 c29 k29, mgo a29⟩
  let dKeep : DefT K mg "_law_keep" S__law_keep := ⟨_, _, fun_mk (st := S__law_keep) l32 c32 k32, mgo a32⟩
  let dDrawn : DefT K mg "_law_drawn_sizes" S__law_drawn_sizes := ⟨_, _, fun_mk (st := S__law_drawn_sizes) l33 c33 k33, mgo a33⟩
  let nInit : MthT K C "__init__" "Disk.__init__" S_Disk___init__ := ⟨_, _, fun_mk (st := S_Disk___init__) l7 c7 k7, ⟨a7, i7, k7⟩⟩
  let nMany : MthT K C "many" "Disk.many" S_Disk_many := ⟨_, _, fun_mk (st := S_Disk_many) l9 c9 k9, ⟨a9, i9, k9⟩⟩
  let nSizes : MthT K C "sizes" "Disk.sizes" S_Disk_sizes := ⟨_, _, fun_mk (st := S_Disk_sizes) l8 c8 k8, ⟨a8, i8, k8⟩⟩
  let nRead : MthT K C "read" "Disk.read" S_Disk_read := ⟨_, _, fun_mk (st := S_Disk_read) l10 c10 k10, ⟨a10, i10, k10⟩⟩
  let nWrite : MthT K C "write" "Disk.write" S_Disk_write := ⟨_, _, fun_mk (st := S_Disk_write) l11 c11 k11, ⟨a11, i11, k11⟩⟩
  let nForce : MthT K C "force" "Disk.force" S_Disk_force := ⟨_, _, fun_mk (st := S_Disk_force) l12 c12 k12, ⟨a12, i12, k12⟩⟩
  let nWait : MthT K C "waiting" "Disk.waiting" S_Disk_waiting := ⟨_, _, fun_mk (st := S_Disk_waiting) l13 c13 k13, ⟨a13, i13, k13⟩⟩
  let nStand : MthT K C "standing" "Disk.standing" S_Disk_standing := ⟨_, _, fun_mk (st := S_Disk_standing) l14 c14 k14, ⟨a14, i14, k14⟩⟩
  let nFuse : MthT K C "fuse" "Disk.fuse" S_Disk_fuse := ⟨_, _, fun_mk (st := S_Disk_fuse) l16 c16 k16, ⟨a16, i16, k16⟩⟩
  let nCopied : MthT K C "copied" "Disk.copied" S_Disk_copied := ⟨_, _, fun_mk (st := S_Disk_copied) l17 c17 k17, ⟨a17, i17, k17⟩⟩
  let nCut : MthT K C "cut" "Disk.cut" S_Disk_cut := ⟨_, _, fun_mk (st := S_Disk_cut) l15 c15 k15, ⟨a15, i15, k15⟩⟩
  let nCheck : MthT K C "_check_place" "Disk._check_place" S_Disk__check_place := ⟨_, _, fun_mk (st := S_Disk__check_place) l18 c18 k18, ⟨a18, i18, k18⟩⟩
  let nBurn : MthT K C "_burn" "Disk._burn" S_Disk__burn := ⟨_, _, fun_mk (st := S_Disk__burn) l19 c19 k19, ⟨a19, i19, k19⟩⟩
  let nNone : MthT K C "_wait_for_none" "Disk._wait_for_none" S_Disk__wait_for_none := ⟨_, _, fun_mk (st := S_Disk__wait_for_none) l20 c20 k20, ⟨a20, i20, k20⟩⟩
  refine ⟨PySem.W.fnOf "law" "law" (defArgs S_law) (defBody S_law) (defScope S_law) .none kV39 dc39 pm39 an39 cd39 ct39, ba, htup, fun s v => .of_eq rfl, fun base s₁ H a u ns en hb hu hS hl hB _ => ?_⟩
  let gInt : Cal l.prog w K mg base 1 _ _ _ := dInt.cal (dInt.F.binds (ps := ["thing"]) fun _ _ _ _ _ _ us hl => match us, hl with | [_], _ => rfl) (ok_int dInt Kt)
  let gWithin : Cal l.prog w K mg base 2 _ _ _ := dWithin.cal (dWithin.F.binds (ps := ["thing", "least", "most"]) fun _ _ _ _ _ _ us hl => match us, hl with | [_, _, _], _ => rfl) (ok_within dWithin Kt gInt)
  let gAre : Cal l.prog w K mg base 3 _ _ _ := dAre.cal (dAre.F.binds (ps := ["thing", "least", "most"]) fun _ _ _ _ _ _ us hl => match us, hl with | [_, _, _], _ => rfl) (ok_are dAre Kt gWithin)
  let gWords : Cal l.prog w K mg base 4 _ _ _ := dWords.cal (dWords.F.binds (ps := ["thing"]) fun _ _ _ _ _ _ us hl => match us, hl with | [_], _ => rfl) (ok_words dWords Kt gAre)
  let gBlk : Cal l.prog w K mg base 5 _ _ _ := dBlk.cal (dBlk.F.binds (ps := ["thing"]) fun _ _ _ _ _ _ us hl => match us, hl with | [_], _ => rfl) (ok_isblk dBlk T Kt gWords)
  let gManyM : MCal l.prog w K mg base C 1 _ _ _ := nMany.cal (nMany.F.binds (ps := ["self"]) fun _ _ _ _ _ _ us hl => match us, hl with | [_], _ => rfl) (ok_dmany nMany T B)
  let gCheck : MCal l.prog w K mg base C 3 _ _ _ := nCheck.cal (nCheck.F.binds (ps := ["self", "place"]) fun _ _ _ _ _ _ us hl => match us, hl with | [_, _], _ => rfl) (ok_check nCheck T B gWithin)
  let gNone : MCal l.prog w K mg base C 1 _ _ _ := nNone.cal (nNone.F.binds (ps := ["self"]) fun _ _ _ _ _ _ us hl => match us, hl with | [_], _ => rfl) (ok_wnone nNone T)
  let gRead : MCal l.prog w K mg base C 4 _ _ _ := nRead.cal (nRead.F.binds (ps := ["self", "place"]) fun _ _ _ _ _ _ us hl => match us, hl with | [_, _], _ => rfl) (ok_read nRead T gCheck)
  let gWait : MCal l.prog w K mg base C 1 _ _ _ := nWait.cal (nWait.F.binds (ps := ["self"]) fun _ _ _ _ _ _ us hl => match us, hl with | [_], _ => rfl) (ok_waiting nWait T Kt)
  let gStand : MCal l.prog w K mg base C 1 _ _ _ := nStand.cal (nStand.F.binds (ps := ["self"]) fun _ _ _ _ _ _ us hl => match us, hl with | [_], _ => rfl) (ok_standing nStand T Kt)
  let gKeepP : Cal l.prog w K mg base 4 _ _ _ := dKeepP.cal (dKeepP.F.binds (ps := ["thing"]) fun _ _ _ _ _ _ us hl => match us, hl with | [_], _ => rfl) (ok_iskeep dKeepP T gAre)
  let gCut : MCal l.prog w K mg base C 5 _ _ _ := nCut.cal (nCut.F.binds (ps := ["self", "keep"]) fun _ _ _ _ _ _ us hl => match us, hl with | [_, _], _ => rfl) (ok_cut nCut T (mgn z_zip) gKeepP gNone)
  let gInit : ICal l.prog w K mg base C 3 ["self", "segments", "blocks"] (spDInit K C ba) := ⟨nInit.f, nInit.fd, T.mkC, nInit.F.binds (ps := ["self", "segments", "blocks"]) fun _ _ _ _ _ _ us hl => match us, hl with | [_, _, _], _ => rfl, ok_dinit nInit T gWithin⟩
  let gDeck : Cal l.prog w K mg base 1 _ _ _ := dDeck.cal (dDeck.F.binds (ps := ["script"]) fun _ _ _ _ _ _ us hl => match us, hl with | [_], _ => rfl) (ok_deck dDeck B)
  let gDraw : Cal l.prog w K mg base 1 _ _ _ := dDraw.cal (dDraw.F.binds (ps := ["deck", "below"]) fun _ _ _ _ _ _ us hl => match us, hl with | [_, _], _ => rfl) (ok_draw dDraw B)
  let gPick : Cal l.prog w K mg base 2 _ _ _ := dPick.cal (dPick.F.binds (ps := ["deck", "some"]) fun _ _ _ _ _ _ us hl => match us, hl with | [_, _], _ => rfl) (ok_pick dPick B gDraw)
  let gSizes : Cal l.prog w K mg base 1 _ _ _ := dSizes.cal (dSizes.F.binds (ps := ["segments", "blocks"]) fun _ _ _ _ _ _ us hl => match us, hl with | [_, _], _ => rfl) (ok_sizes dSizes)
  let gMany : Cal l.prog w K mg base 1 _ _ _ := dMany.cal (dMany.F.binds (ps := ["sizes"]) fun _ _ _ _ _ _ us hl => match us, hl with | [_], _ => rfl) (ok_many dMany)
  let gWord : Cal l.prog w K mg base 3 _ _ _ := dWord.cal (dWord.F.binds (ps := ["deck"]) fun _ _ _ _ _ _ us hl => match us, hl with | [_], _ => rfl) (ok_word dWord gDraw gPick)
  let gBlock : Cal l.prog w K mg base 4 _ _ _ := dBlock.cal (dBlock.F.binds (ps := ["deck"]) fun _ _ _ _ _ _ us hl => match us, hl with | [_], _ => rfl) (ok_block dBlock B (mgn z_tuple) (mgn z_range) gDraw gWord)
  let gBlank : Cal l.prog w K mg base 2 _ _ _ := dBlank.cal (dBlank.F.binds (ps := ["sizes"]) fun _ _ _ _ _ _ us hl => match us, hl with | [_], _ => rfl) (ok_blank dBlank gMany)
  let gForced : Cal l.prog w K mg base 1 _ _ _ := dForced.cal (dForced.F.binds (ps := ["it"]) fun _ _ _ _ _ _ us hl => match us, hl with | [_], _ => rfl) (ok_forced dForced)
  let gFell : Cal l.prog w K mg base 1 _ _ _ := dFell.cal (dFell.F.binds (ps := ["it", "keep"]) fun _ _ _ _ _ _ us hl => match us, hl with | [_, _], _ => rfl) (ok_fell dFell (mgn z_len) (mgn z_enumerate))
  let gKeep : Cal l.prog w K mg base 3 _ _ _ := dKeep.cal (dKeep.F.binds (ps := ["deck", "many"]) fun _ _ _ _ _ _ us hl => match us, hl with | [_, _], _ => rfl) (ok_keep dKeep B (mgn z_tuple) (mgn z_range) gDraw gPick)
  let gDrawn : Cal l.prog w K mg base 2 _ _ _ := dDrawn.cal (dDrawn.F.binds (ps := ["deck"]) fun _ _ _ _ _ _ us hl => match us, hl with | [_], _ => rfl) (ok_drawn dDrawn gDraw gSizes)
  have eP : PySem.W.exmOne K (.ref PC) (.ref PC) = some true := by
    unfold PySem.W.exmOne
    rw [if_pos (by rw [qE]; rfl)]
    show (if ((PySem.W.clsIn K PC).isSome && PySem.W.typeIn K (.ref PC) == some (.type "type")) = true then PySem.W.subIn K (.ref PC) (.ref PC) else none) = some true
    rw [if_pos (by simp [show (PySem.W.clsIn K PC).isSome = true from iP, qT])]
    exact sP
  have dN : PySem.W.nsOkIn K N2 = true := by
    unfold PySem.W.nsOkIn
    rw [dN1]
    exact dN3
  have FP := fun_mk (st := S_PowerCut___init__) pL pC pK
  let Z : PCut l.prog w K mg base PC := ⟨fP, _, ⟨⟨_, _, _, _, _, _, _, _, _, _, _, _, _, _, _, qC, qB⟩, qE, qT, qK⟩, pI, pT, FP.binds (ps := ["self"]) fun _ _ _ _ _ _ us hl => match us, hl with | [_], _ => rfl, ok_init0 FP, mgo pA⟩
  have cmp : CmpC K C := ⟨⟨_, _, _, _, _, _, _, _, _, _, _, _, _, _, _, _, dC, d1, d2, fun h X => ⟨_, Heap.Ns.of_isNs (PySem.W.isNs_of_in X dN)⟩⟩⟩
  let gSizesM : MCal l.prog w K mg base C 1 _ _ _ := nSizes.cal (nSizes.F.binds (ps := ["self"]) fun _ _ _ _ _ _ us hl => match us, hl with | [_], _ => rfl) (ok_dsizes nSizes T)
  let xBurn : MCalX l.prog w K mg base C 3 _ _ _ := nBurn.calX (nBurn.F.binds (ps := ["self"]) fun _ _ _ _ _ _ us hl => match us, hl with | [_], _ => rfl) (ok_burnX nBurn T Z)
  let xWrite : MCalX l.prog w K mg base C 6 _ _ _ := nWrite.calX (nWrite.F.binds (ps := ["self", "place", "block"]) fun _ _ _ _ _ _ us hl => match us, hl with | [_, _, _], _ => rfl) (ok_writeX nWrite T gCheck xBurn gBlk)
  let xForce : MCalX l.prog w K mg base C 4 _ _ _ := nForce.calX (nForce.F.binds (ps := ["self"]) fun _ _ _ _ _ _ us hl => match us, hl with | [_], _ => rfl) (ok_forceX nForce T xBurn gNone)
  let gFuseP : Cal l.prog w K mg base 2 _ _ _ := dFuseP.cal (dFuseP.F.binds (ps := ["thing"]) fun _ _ _ _ _ _ us hl => match us, hl with | [_], _ => rfl) (ok_isfuse dFuseP gInt)
  let gFuse : MCal l.prog w K mg base C 3 _ _ _ := nFuse.cal (nFuse.F.binds (ps := ["self", "many"]) fun _ _ _ _ _ _ us hl => match us, hl with | [_, _], _ => rfl) (ok_fuse nFuse T gFuseP)
  let gCopied : MCal l.prog w K mg base C 5 _ _ _ := nCopied.cal (nCopied.F.binds (ps := ["self"]) fun _ _ _ _ _ _ us hl => match us, hl with | [_], _ => rfl) (ok_copied nCopied T (mgn z_list) (mgn z_dict) gInit)
  let gShuf : Cal l.prog w K mg base 2 _ _ _ := dShuf.cal (dShuf.F.binds (ps := ["deck", "some"]) fun _ _ _ _ _ _ us hl => match us, hl with | [_, _], _ => rfl) (ok_shuf dShuf B (mgn z_list) (mgn z_range) gDraw)
  let gOCop : Cal l.prog w K mg base 1 _ _ _ := dOCop.cal (dOCop.F.binds (ps := ["it"]) fun _ _ _ _ _ _ us hl => match us, hl with | [_], _ => rfl) (ok_ocopied dOCop (mgn z_list))
  let gSame : CalG l.prog w K mg base 5 _ _ _ := dSame.calG (dSame.F.binds (ps := ["disk", "it"]) fun _ _ _ _ _ _ us hl => match us, hl with | [_, _], _ => rfl) (ok_same dSame T (mgn z_list) (mgn z_tuple) (mgn z_repr) (mgn z_enumerate) gSizesM gRead gWait gStand)
  let gSet : Cal l.prog w K mg base 4 _ _ _ := dSet.cal (dSet.F.binds (ps := ["deck", "disk", "it"]) fun _ _ _ _ _ _ us hl => match us, hl with | [_, _, _], _ => rfl) (ok_set dSet T gDraw gFuse)
  have kw : KBn K xWrite.fd ["self", "place", "block"] 1 ["block", "place"] two1 two1 := by
    refine ⟨fun s us ws _ h1 h2 => ?_, two1_rel⟩
    match us, ws, h1, h2 with
    | [x], [y, z], _, _ => exact .of_eq rfl
  have kc : KBn K gCut.fd ["self", "keep"] 1 ["keep"] one1 one1 := by
    refine ⟨fun s us ws _ h1 h2 => ?_, one1_rel⟩
    match us, ws, h1, h2 with
    | [x], [y], _, _ => exact .of_eq rfl
  let gPassed : Cal l.prog w K mg base 7 _ _ _ := dPassed.cal (dPassed.F.binds (ps := ["deck", "disk", "it", "is_force"]) fun _ _ _ _ _ _ us hl => match us, hl with | [_, _, _, _], _ => rfl) (ok_passed dPassed T Z eP gDraw gMany gBlock gForced xForce xWrite kw)
  let gDid : Cal l.prog w K mg base 8 _ _ _ := dDid.cal (dDid.F.binds (ps := ["deck", "disk", "it"]) fun _ _ _ _ _ _ us hl => match us, hl with | [_, _, _], _ => rfl) (ok_did dDid T (mgn z_len) gDraw gKeep gFell gSet gPassed gCut kc)
  exact run_law FL ⟨_, T, ⟨mgn z_range, mgn z_len, mgn z_zip⟩, cmp, gDeck, gDraw, gDrawn, gBlank, gShuf, gOCop, gSame, gSet, gPassed, gDid, gInit, gCopied⟩ en hb hu hS hl hB
end
end Tk17

open PySem PySem.W PyProof.Rows
set_option maxRecDepth 100000 in
set_option maxHeartbeats 0 in
theorem PySem.Challenge.cw_trailkeep_k17_copies_of_disks_holds : PySem.Challenge.rw_trailkeep_k17_copies_of_disks.Holds := by
  w_on; o_law; k_head; (case hw => w_witness2)
  k_fill
  refine Tk.walk_law (l := PySem.Challenge.rw_trailkeep_k17_copies_of_disks) (x := "script") (zs := (List.replicate 32 (0 : Int)).map L2.V.int) rfl (by decide) rfl (fun w h Y => PySem.W.kIn_of Y) ?F
  case F =>
    intro w mg fa h KX G hX hmg
    refine' Tk17.all_mk (l := PySem.Challenge.rw_trailkeep_k17_copies_of_disks) KX G hmg (Tk17.loose_int hX.2 (List.Mem.head _)) (Tk17.loose_tup (zs := List.replicate 32 (0 : Int)) hX.2 (List.Mem.tail _ (List.Mem.head _)) (by decide)) ?aC ?a0 ?l0 ?c0 ?k0 ?a1 ?l1 ?c1 ?k1 ?a2 ?l2 ?c2 ?k2 ?a3 ?l3 ?c3 ?k3 ?a4 ?l4 ?c4 ?k4 ?a5 ?l5 ?c5 ?k5 ?a6 ?l6 ?c6 ?k6 ?a7 ?l7 ?c7 ?k7 ?i7 ?a8 ?l8 ?c8 ?k8 ?i8 ?a9 ?l9 ?c9 ?k9 ?i9 ?a10 ?l10 ?c10 ?k10 ?i10 ?a11 ?l11 ?c11 ?k11 ?i11 ?a12 ?l12 ?c12 ?k12 ?i12 ?a13 ?l13 ?c13 ?k13 ?i13 ?a14 ?l14 ?c14 ?k14 ?i14 ?a15 ?l15 ?c15 ?k15 ?i15 ?a16 ?l16 ?c16 ?k16 ?i16 ?a17 ?l17 ?c17 ?k17 ?i17 ?a18 ?l18 ?c18 ?k18 ?i18 ?a19 ?l19 ?c19 ?k19 ?i19 ?a20 ?l20 ?c20 ?k20 ?i20 ?a21 ?l21 ?c21 ?k21 ?a22 ?l22 ?c22 ?k22 ?a23 ?l23 ?c23 ?k23 ?a24 ?l24 ?c24 ?k24 ?a25 ?l25 ?c25 ?k25 ?a26 ?l26 ?c26 ?k26 ?a27 ?l27 ?c27 ?k27 ?a28 ?l28 ?c28 ?k28 ?a29 ?l29 ?c29 ?k29 ?a30 ?l30 ?c30 ?k30 ?a31 ?l31 ?c31 ?k31 ?a32 ?l32 ?c32 ?k32 ?a33 ?l33 ?c33 ?k33 ?a34 ?l34 ?c34 ?k34 ?a35 ?l35 ?c35 ?k35 ?a36 ?l36 ?c36 ?k36 ?a37 ?l37 ?c37 ?k37 ?a38 ?l38 ?c38 ?k38 ?a39 ?l39 ?c39 ?k39 ?pg ?hd ?po ?sa ?mkI ?kC ?nS ?nT ?nW ?nN ?nF ?ic ?ig ?it ?im ?m1 ?m2 ?m3 ?m4 ?m5 ?m6 ?m7 ?z_int ?z_bool ?z_tuple ?z_all ?z_len ?z_isinstance ?z_max ?z_repr ?z_range ?z_list ?z_zip ?z_enumerate ?z_dict ?pA ?pI ?pL ?pC ?pK ?pT ?qC ?qB ?qE ?qT ?qK ?iP ?sP ?dC ?dN1 ?dN3 ?d1 ?d2
    (case aC => k_is)
    (case a0 => k_is)
    (case l0 => k_is)
    (case c0 => k_is)
    (case k0 => k_is)
    (case a1 => k_is)
    (case l1 => k_is)
    (case c1 => k_is)
    (case k1 => k_is)
    (case a2 => k_is)
    (case l2 => k_is)
    (case c2 => k_is)
    (case k2 => k_is)
    (case a3 => k_is)
    (case l3 => k_is)
    (case c3 => k_is)
    (case k3 => k_is)
    (case a4 => k_is)
    (case l4 => k_is)
    (case c4 => k_is)
    (case k4 => k_is)
    (case a5 => k_is)
    (case l5 => k_is)
    (case c5 => k_is)
    (case k5 => k_is)
    (case a6 => k_is)
    (case l6 => k_is)
    (case c6 => k_is)
    (case k6 => k_is)
    (case a7 => k_is)
    (case l7 => k_is)
    (case c7 => k_is)
    (case k7 => k_is)
    (case i7 => k_is)
    (case a8 => k_is)
    (case l8 => k_is)
    (case c8 => k_is)
    (case k8 => k_is)
    (case i8 => k_is)
    (case a9 => k_is)
    (case l9 => k_is)
    (case c9 => k_is)
    (case k9 => k_is)
    (case i9 => k_is)
    (case a10 => k_is)
    (case l10 => k_is)
    (case c10 => k_is)
    (case k10 => k_is)
    (case i10 => k_is)
    (case a11 => k_is)
    (case l11 => k_is)
    (case c11 => k_is)
    (case k11 => k_is)
    (case i11 => k_is)
    (case a12 => k_is)
    (case l12 => k_is)
    (case c12 => k_is)
    (case k12 => k_is)
    (case i12 => k_is)
    (case a13 => k_is)
    (case l13 => k_is)
    (case c13 => k_is)
    (case k13 => k_is)
    (case i13 => k_is)
    (case a14 => k_is)
    (case l14 => k_is)
    (case c14 => k_is)
    (case k14 => k_is)
    (case i14 => k_is)
    (case a15 => k_is)
    (case l15 => k_is)
    (case c15 => k_is)
    (case k15 => k_is)
    (case i15 => k_is)
    (case a16 => k_is)
    (case l16 => k_is)
    (case c16 => k_is)
    (case k16 => k_is)
    (case i16 => k_is)
    (case a17 => k_is)
    (case l17 => k_is)
    (case c17 => k_is)
    (case k17 => k_is)
    (case i17 => k_is)
    (case a18 => k_is)
    (case l18 => k_is)
    (case c18 => k_is)
    (case k18 => k_is)
    (case i18 => k_is)
    (case a19 => k_is)
    (case l19 => k_is)
    (case c19 => k_is)
    (case k19 => k_is)
    (case i19 => k_is)
    (case a20 => k_is)
    (case l20 => k_is)
    (case c20 => k_is)
    (case k20 => k_is)
    (case i20 => k_is)
    (case a21 => k_is)
    (case l21 => k_is)
    (case c21 => k_is)
    (case k21 => k_is)
    (case a22 => k_is)
    (case l22 => k_is)
    (case c22 => k_is)
    (case k22 => k_is)
    (case a23 => k_is)
    (case l23 => k_is)
    (case c23 => k_is)
    (case k23 => k_is)
    (case a24 => k_is)
    (case l24 => k_is)
    (case c24 => k_is)
    (case k24 => k_is)
    (case a25 => k_is)
    (case l25 => k_is)
    (case c25 => k_is)
    (case k25 => k_is)
    (case a26 => k_is)
    (case l26 => k_is)
    (case c26 => k_is)
    (case k26 => k_is)
    (case a27 => k_is)
    (case l27 => k_is)
    (case c27 => k_is)
    (case k27 => k_is)
    (case a28 => k_is)
    (case l28 => k_is)
    (case c28 => k_is)
    (case k28 => k_is)
    (case a29 => k_is)
    (case l29 => k_is)
    (case c29 => k_is)
    (case k29 => k_is)
    (case a30 => k_is)
    (case l30 => k_is)
    (case c30 => k_is)
    (case k30 => k_is)
    (case a31 => k_is)
    (case l31 => k_is)
    (case c31 => k_is)
    (case k31 => k_is)
    (case a32 => k_is)
    (case l32 => k_is)
    (case c32 => k_is)
    (case k32 => k_is)
    (case a33 => k_is)
    (case l33 => k_is)
    (case c33 => k_is)
    (case k33 => k_is)
    (case a34 => k_is)
    (case l34 => k_is)
    (case c34 => k_is)
    (case k34 => k_is)
    (case a35 => k_is)
    (case l35 => k_is)
    (case c35 => k_is)
    (case k35 => k_is)
    (case a36 => k_is)
    (case l36 => k_is)
    (case c36 => k_is)
    (case k36 => k_is)
    (case a37 => k_is)
    (case l37 => k_is)
    (case c37 => k_is)
    (case k37 => k_is)
    (case a38 => k_is)
    (case l38 => k_is)
    (case c38 => k_is)
    (case k38 => k_is)
    (case a39 => k_is)
    (case l39 => k_is)
    (case c39 => k_is)
    (case k39 => k_is)
    (case pg => k_is)
    (case hd => k_is)
    (case po => k_is)
    (case sa => k_is)
    (case mkI => k_is)
    (case kC => k_is)
    (case nS => k_is)
    (case nT => k_is)
    (case nW => k_is)
    (case nN => k_is)
    (case nF => k_is)
    (case ic => k_is)
    (case ig => k_is)
    (case it => k_is)
    (case im => k_is)
    (case m1 => k_is)
    (case m2 => k_is)
    (case m3 => k_is)
    (case m4 => k_is)
    (case m5 => k_is)
    (case m6 => k_is)
    (case m7 => k_is)
    (case z_int => k_is)
    (case z_bool => k_is)
    (case z_tuple => k_is)
    (case z_all => k_is)
    (case z_len => k_is)
    (case z_isinstance => k_is)
    (case z_max => k_is)
    (case z_repr => k_is)
    (case z_range => k_is)
    (case z_list => k_is)
    (case z_zip => k_is)
    (case z_enumerate => k_is)
    (case z_dict => k_is)
    (case pA => k_is)
    (case pI => k_is)
    (case pL => k_is)
    (case pC => k_is)
    (case pK => k_is)
    (case pT => k_is)
    (case qC => k_is)
    (case qB => decide +kernel)
    (case qE => k_is)
    (case qT => k_is)
    (case qK => k_is)
    (case iP => k_is)
    (case sP => k_is)
    (case dC => k_is)
    (case dN1 => k_is)
    (case dN3 => first | (simp; done) | (simp [List.all]; done) | rfl | kernel_rfl)
    (case d1 => k_is)
    (case d2 => k_is)
