import PyProof.Rows.All
import Wide.All
import OpenK.AllK
import Wide.FinOn
import PyProof.EqAt
import PyProof.EqKinds
import PyProof.TupleCall
import PyProof.ReprRoads
import PyProof.Rows.RuleB_pow
import KE.KExcMore
import KE.KExcMake
import KE.KExcIs
import KE.KDictCopyH
import HandS.ForMost
import HandS.Exc
import HandS.ExcOwn
import HandS.ExcValue
import HandS.ExcInit
import HandS.IsInst
import HandS.DictComp
import HandS.FStr
import HandS.RaiseMore
import HandS.Style
import PyProof.Rows.FactsExc_KeyError
import HandS.Wide
import HandS.Small
import HandS.TryMany
import HandS.ExcField
import HandS.Lambda
import HandS.WordsExc
import HandS.MakeKwOnly
import HandS.Defaults
import HandS.DictTup
import KE.KDictDisplayH
import HandS.Strs
import HandS.Set
import HandS.More
import HandS.Conv
import KE.SortData
import KE.DataCmp
import HandS.Walk
import KE.SortLaws
import HandS.ListItems
import KE.KStar
import HandS.WordsDict
import HandS.Star
import HandS.Codes
import KE.LtData
import HandS.NoneIn
import HandS.TupAny
import KE.KEqNest
import KE.KCallOwn
import OpenK.KOps
import OpenK.KMeth
import HandS.Property
import HandS.RaiseOp
import HandS.Finally
import KE.KNestM
import PySem.Challenge.RW_dawnway_k02_what_nets_tell
set_option Elab.async false
set_option linter.all false
set_option maxRecDepth 100000
set_option maxHeartbeats 4000000
namespace DW
open PySem PySem.Spec PyProof.Rows L2

/-! ### promises of defs that may write out data: no repr is under way -/
structure FnG (P : Program) (w : World) (K : PySem.W.Frag) (mg : Str → Option Value) (base : Heap) (k : Nat) (f : Addr) (fd : FuncData) (ps : List Str) (sp : Sp) : Prop where
  len : ∀ vs H Q, sp vs H Q E0 → vs.length = ps.length
  run : ∀ (A : Around) (outer : List Env) (s : Shared) (H : Hp) (args : Args) (us : List Value) (vs : List V) (Q : VK),
    Room k A → A.guards = some [] → Env0 P w K mg base A outer s H → BindsTo s fd args (ps.zip us) → Vals vs us →
    sp vs H Q E0 → codeAny (model P w) A (.call (.ref f) args) (CR CX0 outer P w H s Q E0) s

section
variable {P : Program} {w : World} {K : PySem.W.Frag} {mg : Str → Option Value} {base : Heap}
theorem FnG.of {k : Nat} {f : Addr} {fd : FuncData} {ps : List Str} {sp : Sp} (F : FnOk P w K mg base CX0 k f fd ps sp) : FnG P w K mg base k f fd ps sp :=
  ⟨fun vs H Q h => F.len vs H Q E0 h, fun A outer s H args us vs Q hr _ e0 hb r h => F.run A outer s H args us vs Q E0 hr e0 hb r h⟩

theorem fng {x qual : Str} {st : Stmt} {f : Addr} {fd : FuncData} {N ps : List Str} {k : Nat} {sp : Sp} (F : Fun K x qual st f fd) (S : FnScope N ps (defScope st))
    (len : ∀ vs H Q, sp vs H Q E0 → vs.length = ps.length)
    (hbody : ∀ (cdv : Value) (A : Around) (outer : List Env) (s : Shared) (H : Hp) (vs : List V) (Q : VK),
      Room k (A.deeper (envOfC qual (defScope st) s.heap.objs.size f cdv)) → A.guards = some [] → sp vs H Q E0 →
      ∃ t, PSs (cxOf CX0 P w K mg base N qual (defScope st) f cdv A outer s H E0).nox (defBody st) t ∧
        t { nx := fun _ H' => Q .non H', rt := Q } (start N vs) H) : FnG P w K mg base (k + 1) f fd ps sp := by
  obtain ⟨oc, od, kV, doc, pm, an, cdv, ct, osl, rfl, lk, hcd⟩ := F.ex
  refine ⟨len, fun A outer s H args us vs Q hr hg env0 hb r hsp => ?_⟩
  have hlen := len _ _ _ hsp
  have inK : K.In s.heap := env0.mod.kin.keeps fun a o q => (env0.bs a o q).1
  have lim : s.heap.NoLimit := env0.mod.nolimit.keeps fun a o q => (env0.bs a o q).1
  have hk : ∀ y ∈ ps.zip us, (defScope st).names.lookup y.1 = some .local ∨
      ((defScope st).names.lookup y.1 = some .cell ∧ ((cellsFrom (s.heap.objs.size + 1) (defScope st).names []).lookup y.1).isSome = true) := by
    rintro ⟨n, v⟩ hy
    rcases S.par n (List.of_mem_zip hy).1 with q | q
    · exact Or.inl q
    · exact Or.inr ⟨q, PySem.W.cellsFrom_some _ _ _ (Or.inl q)⟩
  refine codeAny_call_function hr.depth (inK _ _ lk) rfl S.co S.gen rfl (PySem.W.codeRec_of inK hcd) (hb _ _ _ _ ?_)
  refine wpAny_newFunctionEnv_cells S.kind hk fun env he s1 x => ?_
  subst he
  refine ⟨lim.keeps x.toInCall.keep, codeAny_func ?_⟩
  obtain ⟨t, ht, hq⟩ := hbody cdv A outer s H vs Q (hr.deeper _) hg hsp
  have I0 : Inv (cxOf CX0 P w K mg base N qual (defScope st) f cdv A outer s H E0) [] (start N vs) H s1 := inv_start S hr.hd env0 hlen r x
  refine wpAny_mono (ht.nox.run [] s1 (start N vs) H _ I0 hq) (fun fl s' hs => ?_) fun e s' z => z
  cases fl with
  | brk =>
    obtain ⟨_, _, _, q⟩ := hs
    exact q.elim
  | cont =>
    obtain ⟨_, _, _, q⟩ := hs
    exact q.elim
  | next =>
    obtain ⟨σ', H', J, q⟩ := hs
    exact ⟨V.non, H', J.os, J.bare, J.base, J.hok, rfl, q⟩
  | ret u =>
    obtain ⟨v, σ', H', J, rv, q⟩ := hs
    exact ⟨v, H', J.os, J.bare, J.base, J.hok, rv, q⟩
end

section
variable {X : Cx} {k : Nat} {f C : Addr} {fd : FuncData} {ps : List Str} {sp : Sp} {x : Str} {p pos : Pos} {e : Expr} {es : List Expr} {t : TA}
theorem run_g {pins : List (Addr × Obj)} {σ : L2.St} {H : Hp} {s : Shared} {Q : VK} {us : List Value} {vs : List V} (F : FnG X.prog X.w X.K X.mg X.base k f fd ps sp)
    (hr : Room k X.A) (hg : X.A.guards = some []) (hb : Binds X.K fd ps []) (I : Inv X pins σ H s) (r : Vals vs us) (h : sp vs H Q E0) :
    wpAny (model X.prog X.w) X.A (call (.ref f) us) (EP X pins σ Q) X.xe s := by
  have hl : us.length = ps.length := r.length.symm.trans (F.len _ _ _ h)
  have b := hb s us I.kIn (by rw [List.append_nil]; exact hl)
  rw [List.append_nil] at b
  refine wpAny_call (codeAny_mono (F.run X.A X.stack s H ⟨us, []⟩ us vs Q hr hg I.env0 b r h) fun r s' hq => ?_)
  rcases r with er | fl
  · exact hq.elim
  · cases fl with
    | ret u => exact I.after hq
    | _ => exact False.elim hq
/-- a call of such a def -/
theorem pe_g (F : FnG X.prog X.w X.K X.mg X.base k f fd ps sp) (hr : Room k X.A) (hgu : X.A.guards = some []) (hg : Gl X x) (hm : X.mg x = some (.ref f))
    (hk : PySem.W.keepIn X.K (.ref f) = true) (hb : Binds X.K fd ps []) (ha : PA X (e :: es) t) (hdb : (x == ("__debug__" : Str)) = false := by decide)
    (he : starEach (e :: es) X.env = (false, eval e X.env) :: starEach es X.env := by rfl) (hpl : (backTo pos (starEach es X.env)).any (·.1) = false := by rfl) :
    PE X (.Call (.Name x p) (e :: es) [] pos) (tCall sp [] E0 t) := by
  refine ⟨fun pins s σ H Q I h => ?_⟩
  refine wpAny_Call_Name_kw (ld_glob I hg hm ?_ hdb)
  refine PySem.W.callWith_K (h₀ := X.base) I.ok.mod.kin hk (thn (ha.run pos pins s σ H _ I h) ?_) he hpl
  rintro us s1 ⟨vs, H1, I1, r, q⟩
  rw [List.append_nil] at q
  exact ⟨I1.kIn, run_g F hr hgu hb I1 r q⟩
end

/-! ### two new objects at once -/
section
variable {X : Cx} {pins : List (Addr × Obj)} {σ : L2.St} {H : Hp} {s : Shared}
theorem laid2 {h' : Heap} {a t : Addr} {o u : HO} {tk : Nat} (I : Inv X pins σ H s) (k : ∀ b v, s.heap.get? b = some v → h'.get? b = some v)
    (ha : s.heap.objs.size ≤ a) (ht : s.heap.objs.size ≤ t) (ne : t ≠ a) (n1 : ObjOk X.prog X.w (upd (upd H t u) a o) h' t u) (n2 : ObjOk X.prog X.w (upd (upd H t u) a o) h' a o) :
    Inv X pins σ (upd (upd H t u) a o) { s with heap := h', toks := tk } := by
  have na : H a = none := I.hok.fresh ha
  have nt : H t = none := I.hok.fresh ht
  have old : ∀ b v, H b = some v → upd (upd H t u) a o b = some v := fun b v q => by
    rw [upd_ne (ne_of_none q na), upd_ne (ne_of_none q nt)]; exact q
  have there : ∀ b v, s.heap.get? b = some v → b ≠ a ∧ b ≠ t := fun b v q =>
    ⟨Nat.ne_of_lt (Nat.lt_of_lt_of_le (Heap.lt_size q) ha), Nat.ne_of_lt (Nat.lt_of_lt_of_le (Heap.lt_size q) ht)⟩
  refine I.un ⟨fun b v q _ _ _ => k b v q, fun b v q _ _ _ => ⟨v.slots, k b v q⟩, fun b v q n _ => ?_, fun b v q _ => ⟨v, k b v q⟩,
    fun b xs q => old b _ q, fun b ob xs q => old b _ q, fun b qs q => ⟨#[], by rw [old b _ q]; simp⟩⟩ fun b v q => ?_
  · rw [upd_ne (there b v q).1, upd_ne (there b v q).2]; exact n
  · by_cases hb : b = a
    · subst hb; rw [upd_same] at q; cases q; exact n2
    · rw [upd_ne hb] at q
      by_cases hc : b = t
      · subst hc; rw [upd_same] at q; cases q; exact n1
      · rw [upd_ne hc] at q
        exact (I.hok b v q).stay (fun c z _ y => k c z y) (fun c y => old c _ y) fun c xs y => old c _ y
end

/-! ### exceptions that are held as values -/
abbrev exr (C : Addr) (d : Option Addr) (t : Addr) : Obj := { cls := .ref C, dict := d, data := .fields #[.ref t, .none, .none, .none, .bool false, .none] }
/-- at a: an exception of the class at C, its dict, its args at t -/
def exq (a C : Addr) (d : Option Addr) (t : Addr) : HO := .ext fun h => h.get? a = some (exr C d t)
theorem exq_ok {P : Program} {w : World} {H : Hp} {h : Heap} {a C t : Addr} {d : Option Addr} (e : h.get? a = some (exr C d t)) : ObjOk P w H h a (exq a C d t) :=
  ⟨e, ⟨_, e⟩, fun _ _ z q => q _ z⟩
theorem exq_at {P : Program} {w : World} {H : Hp} {h : Heap} {a C t : Addr} {d : Option Addr} (x : HOk P w H h) (e : H a = some (exq a C d t)) : h.get? a = some (exr C d t) := by
  have z : ObjOk P w H h a (.ext fun h => h.get? a = some (exr C d t)) := x a _ e
  exact z.1
theorem exq_tup {a C t : Addr} {d : Option Addr} {xs : List V} : exq a C d t ≠ .tup xs := fun z => by
  have y : HO.ext _ = HO.tup xs := z
  cases y
theorem exq_own {a C t b : Addr} {d : Option Addr} : exq a C d t ≠ .own b := fun z => by
  have y : HO.ext _ = HO.own b := z
  cases y
theorem exq_frz {a C t : Addr} {d : Option Addr} {o : Obj} {u : HO} : exq a C d t ≠ .frz o u := fun z => by
  have y : HO.ext _ = HO.frz o u := z
  cases y
theorem exq_tbl {a C t : Addr} {d : Option Addr} {qs : Array Value} : exq a C d t ≠ .tbl qs := fun z => by
  have y : HO.ext _ = HO.tbl qs := z
  cases y
/-- what the written part says of an exception class that is made, read and asked -/
structure ExK (K : PySem.W.Frag) (C : Addr) : Prop where
  kC : PySem.W.keepIn K (.ref C) = true
  cl : (PySem.W.clsIn K C).isSome = true
  hd : PySem.W.hasDictIn K C = true
  ga : PySem.W.findIn K (.ref C) "__getattribute__" = some (some (.builtin "BaseException.__getattribute__"))
  gg : PySem.W.findIn K (.ref C) "__getattr__" = some none
  sa : PySem.W.findIn K (.ref C) "__setattr__" = some (some (.builtin "object.__setattr__"))
  st : PySem.W.findIn K (.ref C) "__str__" = some (some (.builtin "BaseException.__str__")) ∨ PySem.W.findIn K (.ref C) "__str__" = some (some (.builtin "KeyError.__str__"))
  ex : PySem.W.subIn K (.ref C) (.type "BaseException") = some true
  cc : PySem.W.findIn K (.ref C) "__class__" = some (some (.builtin "object.__class__"))
  cg : PySem.W.specialIn K (.builtin "object.__class__") "__get__" = some (some (.builtin "getset_descriptor.__get__"))
  ct : PySem.W.takesIn K (.builtin "object.__class__") = some true
  ob : PySem.W.mroIn K C (.type "object") = some true
section
variable {X : Cx} {C fI : Addr} {bmB : List Value} {B newId initId : String} {x : Str} {e : Expr} {te : TE} {p pos : Pos}
/-- X(e), no __init__ of its own -/
def tExP (C : Addr) (te : TE) : TE := fun σ H Q => te σ H fun v H1 => ∀ a t, H1 a = none → H1 t = none → t ≠ a → Q (.ref a) (upd (upd H1 t (.tup [v])) a (exq a C none t))
theorem pe_exP (FB : ExcBaseFacts B newId initId bmB) (q : PySem.W.excInitIn X.K C bmB newId = true) (hi : PySem.W.findIn X.K (.ref C) "__init__" = some (some (.builtin initId)))
    (kC : PySem.W.keepIn X.K (.ref C) = true) (gC : X.mg x = some (.ref C)) (hg : Gl X x) (he : PE X e te)
    (hs : starEach [e] X.env = (false, eval e X.env) :: starEach [] X.env := by rfl) (hdb : (x == ("__debug__" : Str)) = false := by decide) :
    PE X (.Call (.Name x p) [e] [] pos) (tExP C te) := by
  refine ⟨fun pins s σ H Q I h => ?_⟩
  refine wpAny_Call_Name_kw (ld_glob I hg gC ?_ hdb)
  refine PySem.W.callWith_K (h₀ := X.base) I.ok.mod.kin kC ?_ hs (by rfl)
  rw [hs]
  show wpAny _ _ (spliced ((false, eval e X.env) :: backTo pos (starEach [] X.env))) _ _ s
  refine Calls.spliced_cons (thn (he.run pins s σ H _ I h) ?_)
  rintro u s1 ⟨v, H1, I1, r1, q1⟩
  refine Calls.spliced_nil ⟨I1.kIn, ?_⟩
  show wpAny _ _ (call (.ref C) [u]) _ _ _
  obtain ⟨nm, N, qn, bs, bm, hdct, sn, sub, ab, col, dd, k0, k1, k2, k3, k5, hC, hT⟩ := PySem.W.excInit_of I1.kIn q
  have hi' : PySem.W.Looks (model X.prog X.w) s1.heap (typeLookup (.ref C) "__init__") (some (.builtin initId)) := PySem.W.looks_findIn I1.kIn hi
  obtain ⟨hp, g, d, tk, os⟩ := s1
  refine PySem.W.call_B FB hT hC hi' (by show 1 ≤ sizeLine; rw [sizeLine_eq]; omega) fun h' k ea et => ?_
  have n1 : H1 (hp.objs.size + 1) = none := I1.hok.fresh (Nat.le_succ _)
  have n2 : H1 (hp.objs.size + 2) = none := I1.hok.fresh (Nat.le_add_right _ 2)
  have ne : hp.objs.size + 2 ≠ hp.objs.size + 1 := Nat.ne_of_gt (Nat.lt_succ_self _)
  refine ⟨.ref (hp.objs.size + 1), _, laid2 (tk := tk) I1 k (Nat.le_succ _) (Nat.le_add_right _ 2) ne ?_ (exq_ok ea), rfl, q1 _ _ n1 n2 ne⟩
  exact ⟨by show 1 ≤ sizeLine; rw [sizeLine_eq]; omega, [u], .cons r1 .nil, ⟨_, et, rfl, _, rfl⟩⟩
end
end DW
namespace DW
open PySem PySem.Spec PyProof.Rows L2

/-! ### data, a flat dict too -/
def keyD : Key → PyData
  | .inl i => .int i
  | .inr x => .str x
inductive Dd (K : PySem.W.Frag) (H : Hp) : V → PyData → Prop where
  | base {v : V} {d : PyData} (h : Dp K H v d) (n : d.hasDict = false) : Dd K H v d
  | dct {a : Addr} {kvs : List (Key × Int)} (h : H a = some (.dK (kvs.map fun p => (p.1, V.int p.2)))) :
      Dd K H (.ref a) (.dict (kvs.map fun p => (keyD p.1, PyData.int p.2)))
section
variable {X : Cx} {pins : List (Addr × Obj)} {σ : L2.St} {H : Hp} {s : Shared}
theorem key_reads {h : Heap} {k : Key} {u : Value} (e : keyIs k u = true) : Reads h u (keyD k) [] := by
  rcases keyIs_shape e with ⟨i, t, rfl, rfl⟩ | ⟨x, t, rfl, rfl⟩
  · exact .int i t
  · exact .str x t
theorem pairs_reads {h : Heap} {P : Program} {w : World} : ∀ {kvs : List (Key × Int)} {es : List DictEntry} {vs : List (Key × Value)},
    KV (kvs.map fun p => (p.1, V.int p.2)) vs → Pairs (mixKind P w) es vs →
    ReadsAll h (es.map (·.key)) ((kvs.map fun p => (keyD p.1, PyData.int p.2)).map (·.1)) [] ∧
    ReadsAll h (es.map (·.val)) ((kvs.map fun p => (keyD p.1, PyData.int p.2)).map (·.2)) []
  | [], _, _, r, q => by
    cases r
    cases q
    exact ⟨.nil, .nil⟩
  | p :: l, _, _, r, q => by
    cases r with
    | cons r1 r2 =>
      cases q with
      | cons q1 q2 q3 =>
        obtain ⟨z1, z2⟩ := pairs_reads (h := h) r2 q3
        obtain ⟨e1, e2⟩ := r1
        refine ⟨?_, ?_⟩
        · have y := key_reads (h := h) (by rw [← e1] at q1; exact q1)
          exact ReadsAll.cons (as := []) y z1
        · obtain ⟨t, e2⟩ := e2
          refine ReadsAll.cons (as := []) ?_ z2
          dsimp only
          rw [q2, e2]
          exact Reads.int p.2 t
theorem Dd.reads {v : V} {u : Value} {d : PyData} (I : Inv X pins σ H s) (h : Dd X.K H v d) (r : RelV v u) :
    ∃ as, Reads s.heap u d as ∧ (d.hasDict = true → sysModules ∉ as) := by
  cases h with
  | base h n =>
    obtain ⟨as, q⟩ := Dp.reads I d v u h r
    exact ⟨as, q, fun z => by rw [n] at z; cases z⟩
  | @dct a kvs h =>
    cases r
    obtain ⟨_, hs, vs, rel, o, es, ep, ho, hx, hd, _, hp, _⟩ := (show ObjOk X.prog X.w H s.heap a (.dK _) from I.hok a _ h)
    obtain ⟨z1, z2⟩ := pairs_reads (h := s.heap) rel hp
    refine ⟨_, Reads.dict ho hx.1 hd z1 z2, fun _ hm => ?_⟩
    have e : sysModules = a := by simpa using hm
    rw [e] at hs
    simp at hs
/-- repr(x) of data -/
def rRepr (K : PySem.W.Frag) : List V → Hp → VK → Prop := fun xs H Q => ∃ v d, xs = [v] ∧ Dd K H v d ∧ d.showable = true ∧ d.shown.length ≤ sizeLine ∧ d.depth ≤ 60 ∧ Q (.str d.shown) H
theorem call_repr (hg : X.A.guards = some []) (hu : X.A.units + 64 < cLine) : CallR X (.builtin "repr") (rRepr X.K) := by
  intro pins s σ H xs us Q I r h
  obtain ⟨v, d, rfl, hd, hs, hz, hp, q⟩ := h
  obtain ⟨u, rfl, r1⟩ := vals1 r
  obtain ⟨as, hr, hm⟩ := hd.reads I r1
  cases hr with
  | none => exact PySem.P.repr_of_none ⟨.str _, H, I.tok _, ⟨_, rfl⟩, q⟩
  | bool b => exact PySem.P.repr_of_bool ⟨.str _, H, I.tok _, ⟨_, rfl⟩, q⟩
  | int i t => exact PySem.P.repr_of_int (by simpa [PyData.showable] using hs) ⟨.str _, H, I.tok _, ⟨_, rfl⟩, q⟩
  | str x t => exact PySem.P.repr_of_str ⟨.str _, H, I.tok _, ⟨_, rfl⟩, q⟩ hz
  | list h1 h2 h3 h4 => exact repr_of_reads' (Reads.list h1 h2 h3 h4) hs hm hg (by omega) (fun _ _ z => z) (fun h' t tk k => ⟨.str _, H, I.kept (t' := tk) k, ⟨_, rfl⟩, q⟩) hz
  | tuple h1 h2 h3 h4 => exact repr_of_reads' (Reads.tuple h1 h2 h3 h4) hs hm hg (by omega) (fun _ _ z => z) (fun h' t tk k => ⟨.str _, H, I.kept (t' := tk) k, ⟨_, rfl⟩, q⟩) hz
  | dict h1 h2 h3 h4 h5 => exact repr_of_reads' (Reads.dict h1 h2 h3 h4 h5) hs hm hg (by omega) (fun _ _ z => z) (fun h' t tk k => ⟨.str _, H, I.kept (t' := tk) k, ⟨_, rfl⟩, q⟩) hz
/-- {x!r} of data -/
def tFmtD (K : PySem.W.Frag) (te : TE) : TE := fun σ H Q => te σ H fun v H1 => ∃ d, Dd K H1 v d ∧ d.showable = true ∧ d.shown.length ≤ sizeLine ∧ d.depth ≤ 60 ∧ Q (.str d.shown) H1
theorem pe_fmtD {e : Expr} {te : TE} {pos : Pos} (hg : X.A.guards = some []) (hu : X.A.units + 64 < cLine) (he : PE X e te) : PE X (.FormattedValue e 114 none pos) (tFmtD X.K te) := by
  refine ⟨fun pins s σ H Q I h => ?_⟩
  refine wpAny_FormattedValue_repr (thn (he.run pins s σ H _ I h) ?_)
  rintro u s1 ⟨v, H1, I1, r1, d, hd, hs, hz, hp, q⟩
  obtain ⟨as, hr, hm⟩ := hd.reads I1 r1
  have fin : ∀ (h' : Heap) (t tk : Nat), (∀ b o, s1.heap.get? b = some o → h'.get? b = some o) →
      wpAny (model X.prog X.w) X.A (formatField (.str d.shown t) Str.empty) (EP X pins σ Q) X.xe { s1 with heap := h', toks := tk } := fun h' t tk k =>
    wpAny_formatField_str ⟨.str d.shown, H1, (I1.kept (t' := tk) k).tok _, ⟨_, rfl⟩, q⟩ ⟨.str d.shown, H1, (I1.kept (t' := tk) k).tok _, ⟨_, rfl⟩, q⟩ hz
  cases hr with
  | none => exact pyReprObj_none (fin _ _ _ fun _ _ z => z)
  | bool b => exact pyReprObj_bool (fin _ _ _ fun _ _ z => z)
  | int i t => exact pyReprObj_int (by simpa [PyData.showable] using hs) (fin _ _ _ fun _ _ z => z)
  | str x t => exact pyReprObj_str (fin _ _ _ fun _ _ z => z) hz
  | list h1 h2 h3 h4 => exact pyReprObj_of_reads (Reads.list h1 h2 h3 h4) hs hm hg (by omega) (fun _ _ z => z) (fun h' t tk k => fin h' t tk k) hz
  | tuple h1 h2 h3 h4 => exact pyReprObj_of_reads (Reads.tuple h1 h2 h3 h4) hs hm hg (by omega) (fun _ _ z => z) (fun h' t tk k => fin h' t tk k) hz
  | dict h1 h2 h3 h4 h5 => exact pyReprObj_of_reads (Reads.dict h1 h2 h3 h4 h5) hs hm hg (by omega) (fun _ _ z => z) (fun h' t tk k => fin h' t tk k) hz
end

/-! ### isinstance, str, a field of an exception that is held -/
section
variable {X : Cx}
def rIsX (K : PySem.W.Frag) : List V → Hp → VK → Prop := fun xs H Q => ∃ (a C : Addr) (d : Option Addr) (t : Addr) (c : V) (u : Value) (b : Bool), xs = [.ref a, c] ∧ ClsV c u ∧ H a = some (exq a C d t) ∧
  (∀ x, d = some x → ∃ fs, H x = some (exd x fs)) ∧ ExK K C ∧ PySem.W.kitOne K (.ref C) u = some b ∧ Q (.bl b) H
theorem exq_inst {pins : List (Addr × Obj)} {σ : L2.St} {H : Hp} {s : Shared} {a C t : Addr} {d : Option Addr} (I : Inv X pins σ H s) (e : H a = some (exq a C d t))
    (hd : ∀ x, d = some x → ∃ fs, H x = some (exd x fs)) : ∃ od, PySem.W.InstAt s.heap a (exr C d t) C od := by
  have z := exq_at I.hok e
  cases d with
  | none => exact ⟨none, z, rfl, rfl, trivial⟩
  | some x =>
    obtain ⟨fs, ex⟩ := hd x rfl
    obtain ⟨mA, ⟨o, es, ep, ho, _⟩, _⟩ := exd_at I.hok ex
    exact ⟨some o, z, rfl, rfl, ho⟩
theorem call_isX : CallR X (.builtin "isinstance") (rIsX X.K) := by
  intro pins s σ H xs us Q I r h
  obtain ⟨a, C, d, t, c, u, b, rfl, hc, ha, hd, T, hk, q⟩ := h
  obtain ⟨u1, u2, rfl, r1, r2⟩ := vals2 r
  cases (show u1 = Value.ref a from r1)
  have e2 := hc.eq r2
  subst e2
  obtain ⟨od, J⟩ := exq_inst I ha hd
  exact PySem.W.kia_one (PySem.W.kitx_exc T.cl T.ga T.gg T.ex T.cc T.cg T.ct T.ob) I.kIn J hk (fun z => nomatch z) fun tk => ⟨.bl b, H, I.tok tk, rfl, q⟩
/-- str(e) -/
def rStrX (K : PySem.W.Frag) : List V → Hp → VK → Prop := fun xs H Q => ∃ (a C : Addr) (d : Option Addr) (t : Addr) (m : Str), xs = [.ref a] ∧ H a = some (exq a C d t) ∧ H t = some (.tup [.str m]) ∧
  ExK K C ∧ PySem.W.findIn K (.ref C) "__str__" = some (some (.builtin "BaseException.__str__")) ∧ Q (.str m) H
theorem call_strX (hu : X.A.units + 64 < cLine) : CallR X (.type "str") (rStrX X.K) := by
  intro pins s σ H xs us Q I r h
  obtain ⟨a, C, d, t, m, rfl, ha, ht, T, hs, q⟩ := h
  obtain ⟨u1, rfl, r1⟩ := vals1 r
  cases (show u1 = Value.ref a from r1)
  have z := exq_at I.hok ha
  obtain ⟨_, its, rv, o, ho, hc, n, hdt⟩ := (show ObjOk X.prog X.w H s.heap t (.tup [.str m]) from I.hok t _ ht)
  cases rv with
  | cons r2 r3 =>
    cases r3
    obtain ⟨tk, rfl⟩ := r2
    exact PySem.P.str_of_C_one (C := C) (by omega) ⟨I.kIn, _, _, z, rfl, rfl, rfl⟩ ⟨o, n, ho, hc, hdt⟩ hs T.ex ⟨.str m, H, I, ⟨_, rfl⟩, q⟩
/-- e.f -/
def tXfld (K : PySem.W.Frag) (f : Str) (te : TE) : TE := fun σ H Q => te σ H fun x H1 => ∃ (a C dx t : Addr) (fs : List (Str × V)) (v : V), x = .ref a ∧ H1 a = some (exq a C (some dx) t) ∧ H1 dx = some (exd dx fs) ∧
  ExK K C ∧ PySem.W.findIn K (.ref C) f = some none ∧ fs.lookup f = some v ∧ Q v H1
theorem pe_xfld {e : Expr} {te : TE} {pos : Pos} {f : Str} (he : PE X e te) (hb : attributeBase e f X.env (eval e X.env) = eval e X.env := by rfl) : PE X (.Attribute e f pos) (tXfld X.K f te) := by
  refine ⟨fun pins s σ H Q I h => ?_⟩
  refine attr_of hb (thn (he.run pins s σ H _ I h) ?_)
  rintro u s1 ⟨x, H1, I1, rx, a, C, dx, t, fs, v, rfl, ha, hx, T, hno, l, q⟩
  cases (show u = Value.ref a from rx)
  have z := exq_at I1.hok ha
  obtain ⟨mA, hns, hr⟩ := exd_at I1.hok hx
  obtain ⟨od, ho, hl⟩ := lookIn_ns hns
  obtain ⟨u, hu, ru⟩ := RelO.some_of (v := v) (o := mA f) (by rw [← l]; exact hr f)
  have J : PySem.W.InstAt s1.heap a (exr C (some dx) t) C (some od) := ⟨z, rfl, rfl, ho⟩
  exact PySem.PX.exc_get I1.kIn J T.ga T.gg T.ex (PySem.W.findObj_own T.hd hno rfl (by rw [hl, hu])) (handed_of ru) ⟨v, H1, I1.tok _, ru, q⟩
end

/-! ### self.f = e on an exception that has no dict yet -/
section
variable {X : Cx} {o e : Expr} {to te : TE} {f : Str} {p' pos : Pos}
def tXst (K : PySem.W.Frag) (bmB : List Value) (f : Str) (to te : TE) : TS := fun D σ H => te σ H fun y H1 => to σ H1 fun x H2 => ∃ a C t : Addr, x = .ref a ∧ ExK K C ∧ PySem.W.excOver K C bmB = true ∧ PySem.W.takerIn K C f = some none ∧
  H2 a = some (exq a C none t) ∧ ∀ dx, H2 dx = none → dx ≠ a → D.nx σ (upd (upd H2 dx (exd dx [(f, y)])) a (exq a C (some dx) t))
theorem ps_xst {B : String} {bmB : List Value} (SF : StoreFacts B bmB "object.__setattr__" "object") (ho : PE X o to) (he : PE X e te)
    (hs : swapsWith e (some (.Attribute o f p')) pos.line X.env = pure false := by rfl) : PS X (.Assign [.Attribute o f p'] e pos) (tXst X.K bmB f to te) := by
  refine ⟨fun pins s σ H D I h => ?_⟩
  refine plainObj_wpAny_Assign_Attribute (thn (he.run pins s σ H _ I h) fun u s1 h1 => ?_) hs
  obtain ⟨y, H1, I1, r1, q1⟩ := h1
  refine thn (ho.run pins s1 σ H1 _ I1 q1) fun v s2 h2 => ?_
  obtain ⟨x, H2, I2, r2, a, C, t, rfl, T, hov, htk, ea, q⟩ := h2
  cases (show v = Value.ref a from r2)
  have z := exq_at I2.hok ea
  obtain ⟨cd, hcd, hh⟩ := PySem.W.any_some T.hd
  have Lc : PySem.W.Looks (model X.prog X.w) s2.heap (classData C) cd := PySem.W.looks_clsIn I2.kIn hcd
  have hn : H2 s2.heap.objs.size = none := I2.hok.fresh (Nat.le_refl _)
  have hlt : a < s2.heap.objs.size := Heap.lt_size z
  have hne : s2.heap.objs.size ≠ a := Nat.ne_of_gt hlt
  have q := q _ hn hne
  obtain ⟨hp, g, d, tk, os⟩ := s2
  dsimp only at z hn hlt hne q Lc
  refine PySem.W.set_plain (od := none) I2.kIn ⟨z, rfl, rfl, trivial⟩ T.sa ?_
  refine PySem.W.osa_openX (s := ⟨hp, g, d, tk + 1, os⟩) (od := none) (r := none) SF I2.kIn ⟨z, rfl, rfl, trivial⟩ hov htk fun b => ?_
  refine wpAny_bind (wpAny_pure (wpAny_bind (PySem.W.instanceDict_exc (s := ⟨hp, g, d, tk + 1, os⟩) z Lc hh ?_)))
  show wpAny _ _ (Builtin.ObjectAttr.storeInDict hp.objs.size (.str f tk) f u) _ _ _
  have hget : ((hp.push (PySem.W.dictOf [] 0)).update a fun o => { o with dict := some hp.objs.size }).get? hp.objs.size = some (PySem.W.dictOf [] 0) := by
    rw [Heap.get?_update_other _ _ (Ne.symm hne)]
    exact Heap.get?_push_size hp rfl
  have hga : ((hp.push (PySem.W.dictOf [] 0)).update a fun o => { o with dict := some hp.objs.size }).get? a = some (exr C (some hp.objs.size) t) :=
    Heap.get?_update_self _ (Heap.get?_push_of_some _ z) rfl
  refine PySem.PX.store_in_new ⟨_, #[], 0, hget, rfl, fun e he => absurd he (by simp), fun _ => rfl⟩ fun h' tk' hns sb => ?_
  have keep : ∀ c v, c ≠ a → hp.get? c = some v → h'.get? c = some v := fun c v hc y => by
    have hcs : c ≠ hp.objs.size := Nat.ne_of_lt (Heap.lt_size y)
    rw [sb.2 c hcs, Heap.get?_update_other _ _ (Ne.symm hc)]
    exact Heap.get?_push_of_some _ y
  have ga' : h'.get? a = some (exr C (some hp.objs.size) t) := (sb.2 a (Ne.symm hne)).trans hga
  have na : ∀ {c : Addr}, H2 c = none → c ≠ a := fun {c} n y => by rw [y, ea] at n; cases n
  have nd : ∀ {c : Addr} {v : Obj}, hp.get? c = some v → c ≠ hp.objs.size := fun y => Nat.ne_of_lt (Heap.lt_size y)
  show SP X pins D .next ⟨h', g, d, tk', os⟩
  refine ⟨σ, _, I2.un (t' := tk') ⟨fun c v y n _ _ => keep c v (na n) y, fun c v y n _ _ => ⟨v.slots, keep c v (na n) y⟩, fun c v y n _ => ?_, fun c v y _ => ?_,
    fun c xs y => ?_, fun c ob xs y => ?_, fun c qs y => ⟨#[], ?_⟩⟩ fun c v y => ?_, q⟩
  · rw [upd_ne (na n), upd_ne (nd y)]; exact n
  · by_cases hc : c = a
    · exact ⟨_, by rw [hc]; exact ga'⟩
    · exact ⟨v, keep c v hc y⟩
  · rw [upd_ne (at_ne ea y exq_tup), upd_ne (ne_of_none y hn)]; exact y
  · rw [upd_ne (at_ne ea y exq_frz), upd_ne (ne_of_none y hn)]; exact y
  · rw [upd_ne (at_ne ea y exq_tbl), upd_ne (ne_of_none y hn), y]; simp
  · by_cases hc : c = a
    · subst hc; rw [upd_same] at y; cases y; exact exq_ok ga'
    · rw [upd_ne hc] at y
      by_cases hd : c = hp.objs.size
      · subst hd; rw [upd_same] at y; cases y
        exact exd_ok hns (relO_put (fs := []) r1 fun g => True.intro)
      · rw [upd_ne hd] at y
        refine (I2.hok c v y).stay (fun b v' hb y' => keep b v' ?_ y') (fun b y' => ?_) fun b xs y' => ?_
        · rcases hb with hb | hb
          · rw [hb]; exact hc
          · exact at_ne ea hb exq_own
        · rw [upd_ne (at_ne ea y' exq_own), upd_ne (ne_of_none y' hn)]; exact y'
        · rw [upd_ne (at_ne ea y' exq_tup), upd_ne (ne_of_none y' hn)]; exact y'
end
end DW
namespace DW
open PySem PySem.Spec PyProof.Rows L2

/-! ### X(e), X with an __init__ of its own, over any built-in base -/
/-- the class object at C: its __new__ is that of Bn, its built-in base B -/
def exnB (K : PySem.W.Frag) (C : Addr) (newId : String) (Bn B : String) : Bool := match K.lookup C with
  | some ⟨.type "type", _, .cls cd, sl⟩ => (match cd.mro, sl.toList with
    | .ref C' :: bm, [_, _, _, _, some (.builtin n), _] => C' == C && (n == newId && (!cd.hasDel && (bm.contains (.type Bn) && (bm.contains (.type B) &&
        (!bm.contains (.type "AttributeError") && !bm.contains (.type "NameError"))))))
    | _, _ => false)
  | _ => false
structure Bm (bm : List Value) (Bn B : String) : Prop where
  n : bm.contains (.type Bn) = true
  b : bm.contains (.type B) = true
  a : bm.contains (.type "AttributeError") = false
  m : bm.contains (.type "NameError") = false
theorem exn_of {K : PySem.W.Frag} {h : Heap} {C : Addr} {newId Bn B : String} (X : K.In h) (q : exnB K C newId Bn B = true) :
    ∃ nm N qn bs bm hdct sn sub ab col dd k0 k1 k2 k3 k5, h.get? C = some (excClassObj nm qn C N bs bm hdct sn sub ab col dd k0 k1 k2 k3 k5 newId) ∧ Bm bm Bn B := by
  unfold exnB at q
  split at q
  · rename_i dd cd sl ho
    split at q
    · rename_i C' bm k0 k1 k2 k3 n k5 hm hs
      simp only [Bool.and_eq_true, beq_iff_eq, Bool.not_eq_true'] at q
      obtain ⟨rfl, rfl, hdel, x1, x2, x3, x4⟩ := q
      obtain ⟨nm, bs, mro, ns, qn, hd, sn, sub, ab, col, del⟩ := cd
      dsimp only at hm hdel
      subst hm hdel
      obtain rfl : sl = #[k0, k1, k2, k3, some (.builtin n), k5] := by
        obtain ⟨l⟩ := sl
        simp only at hs
        rw [hs]
      exact ⟨nm, ns, qn, bs, bm, hd, sn, sub, ab, col, dd, k0, k1, k2, k3, k5, X _ _ ho, x1, x2, x3, x4⟩
    · cases q
  · cases q
/-- what is known of a built-in's __init__ -/
structure IniF (B initId : String) : Prop where
  pl : plainId initId = true
  en : entryFor table initId = some Builtin.«BaseException.__init__»
  sp : splitId initId = some (B, "__init__")
  kd : builtinKind initId = some .slot
  rw' : Manifest.signature? initId = some ⟨.positional, "*", B, .self, [⟨"args", .varPos, false⟩]⟩
  ns : (B != "*") = true
theorem IniF.of {B newId initId : String} {bm : List Value} (F : ExcBaseFacts B newId initId bm) : IniF B initId := ⟨F.init.plain, F.initEntry, F.initSplit, F.initKind, F.initRow, F.noStar⟩
theorem ini_key : IniF "KeyError" "KeyError.__init__" :=
  ⟨PyProof.Rows.excClass_KeyError.init.plain, PyProof.Rows.excClass_KeyError.initEntry, PyProof.Rows.excClass_KeyError.initSplit, PyProof.Rows.excClass_KeyError.initKind, PyProof.Rows.excClass_KeyError.initSig, PyProof.Rows.excClass_KeyError.notStar⟩

section
variable {prog : Program} {w : World} {M : Model} {A : Around} {E : Value → Shared → Prop} {R : Result → Shared → Prop} {h : Heap} {g : Array GenState} {d : Drawn} {t : Nat} {os : OsState}
variable {nm q : Str} {C N : Addr} {bs bm bmN : List Value} {hdct : Bool} {sn : List Str} {sub : List Value} {ab : Bool} {col : Option Bool} {dd : Option Addr} {k0 k1 k2 k3 k5 : Option Value} {Bn B newId inN initId : String}
variable {rest : List Value} {fI : Addr}
theorem newU_check (F : ExcBaseFacts Bn newId inN bmN) (b : Bm bm Bn B) (hC : h.get? C = some (excClassObj nm q C N bs bm hdct sn sub ab col dd k0 k1 k2 k3 k5 newId))
    {Q : Unit → Shared → Prop} (k : Q () ⟨h, g, d, t, os⟩) : wpAny M A (checkBuiltinCall newId ⟨.ref C :: rest, []⟩) Q E ⟨h, g, d, t, os⟩ := by
  have c1 : (Value.ref C :: bm).contains (.type Bn) = true := by
    rw [List.contains_cons, b.n]
    exact Bool.or_true _
  have s1 := F.noStar
  simp only [checkBuiltinCall, F.newKind, F.newSplit, F.newRow]
  repeat (first
    | refine wpAny_loadPart_at hC ?_
    | (refine wpAny_isSubtype_exc hC ?_; rw [c1])
    | refine wpAny_staticBase_exc hC ?_
    | refine wpAny_madeBy_exc hC ?_
    | simp only [bne_self_eq_false, Bool.false_eq_true, if_false]
    | wp_step)
  exact k
theorem newU (F : ExcBaseFacts Bn newId inN bmN) (b : Bm bm Bn B) (hC : h.get? C = some (excClassObj nm q C N bs bm hdct sn sub ab col dd k0 k1 k2 k3 k5 newId)) (hz : rest.length ≤ sizeLine)
    (k : R (.ok (.ret (.ref (h.objs.size + 1)))) ⟨(h.push (PySem.W.excTup rest)).push (exr C none h.objs.size), g, d, t, os⟩) : codeAny (model prog w) A (.builtin newId ⟨.ref C :: rest, []⟩) R ⟨h, g, d, t, os⟩ := by
  have e1 := F.ends
  have c1 : (Value.ref C :: bm).contains (.type Bn) = true := by
    rw [List.contains_cons, b.n]
    exact Bool.or_true _
  have c2 : (Value.ref C :: bm).contains (.type "AttributeError") = false := by
    rw [List.contains_cons, b.a]
    rfl
  have c3 : (Value.ref C :: bm).contains (.type "NameError") = false := by
    rw [List.contains_cons, b.m]
    rfl
  refine codeAny_builtinAt F.entry ?_
  unfold Builtin.«BaseException.__new__»
  refine PySem.wpAt_bind ?_
  show PySem.wpAt _ _ _ (stack >>= _) _ _ _
  refine PySem.wpAt_bind (PySem.wpAt_stack fun p below => PySem.wpAt_of_wpAny ?_)
  wp_walk
  refine PySem.wpAt_of_wpAny ?_
  rw [F.owner]
  repeat (first
    | with_reducible refine wpAny_madeHere_exc F.canon hC ?_
    | with_reducible refine wpAny_loadPart_at hC ?_
    | (with_reducible refine wpAny_isSubtype_exc hC ?_; first | rw [c1] | rw [c2] | rw [c3])
    | wp_step)
  show R _ _
  rw [Heap.size_push]
  exact k
theorem typeU (F : ExcBaseFacts Bn newId inN bmN) (b : Bm bm Bn B) (hC : h.get? C = some (excClassObj nm q C N bs bm hdct sn sub ab col dd k0 k1 k2 k3 k5 newId)) (hz : rest.length ≤ sizeLine)
    (hi : PySem.W.Looks (model prog w) h (typeLookup (.ref C) "__init__") (some (.ref fI))) (hb : ∀ self, PySem.W.Looks (model prog w) h (bindSpecial (.ref fI) self) (.ref fI, [self])) {Q : Fin → Shared → Prop}
    (k : codeAny (model prog w) A (.call (.ref fI) ⟨.ref (h.objs.size + 1) :: rest, []⟩)
      (fun r s' => match r with | .ok (.ret v) => v = .none ∧ Q (.done (.ret (.ref (h.objs.size + 1)))) s' | .ok _ => False | .error e => E e s')
      ⟨(h.push (PySem.W.excTup rest)).push (exr C none h.objs.size), g, d, t, os⟩) : wpAny (model prog w) A (Builtin.«type.__call__» ⟨.ref C :: rest, []⟩) Q E ⟨h, g, d, t, os⟩ := by
  repeat (first
    | with_reducible refine wpAny_loadPart_at hC ?_
    | with_reducible refine wpAny_madeBy_exc hC ?_
    | wp_step)
  refine codeAny_call_builtin_code (Code.quiet_builtin _ F.quiet) (newU_check F b hC (newU F b hC hz ?_))
  show wpAny _ _ _ _ _ _
  have kp : ∀ c o, h.get? c = some o → ((h.push (PySem.W.excTup rest)).push (exr C none h.objs.size)).get? c = some o := fun c o e => Heap.get?_push_of_some _ (Heap.get?_push_of_some _ e)
  have gC := kp _ _ hC
  have gX : ((h.push (PySem.W.excTup rest)).push (exr C none h.objs.size)).get? (h.objs.size + 1) = some (exr C none h.objs.size) := by heap_get
  have cC : (Value.ref C :: bm).contains (.ref C) = true := by simp
  have i1 := hi.keeps kp
  have b1 := (hb (.ref (h.objs.size + 1))).keeps kp
  unfold isInstance
  repeat (first
    | with_reducible refine wpAny_loadPart_at gX ?_
    | (with_reducible refine wpAny_isSubtype_exc gC ?_; rw [cC])
    | wp_step)
  show wpAny _ _ (typeLookup (.ref C) _) _ _ _
  refine i1.at (wpAny_holding (wpAny_bind (b1.at ?_)))
  refine wpAny_bind (wpAny_call (codeAny_mono k fun r s' z => ?_))
  cases r with
  | error e => exact z
  | ok fl =>
    cases fl with
    | ret v =>
      obtain ⟨rfl, z⟩ := z
      first
        | exact wpAny_pure (wpAny_pure z)
        | (wp_walk; exact z)
    | _ => exact False.elim z
theorem callU (F : ExcBaseFacts Bn newId inN bmN) (b : Bm bm Bn B) (hC : h.get? C = some (excClassObj nm q C N bs bm hdct sn sub ab col dd k0 k1 k2 k3 k5 newId)) (hz : rest.length ≤ sizeLine)
    (hi : PySem.W.Looks (model prog w) h (typeLookup (.ref C) "__init__") (some (.ref fI))) (hb : ∀ self, PySem.W.Looks (model prog w) h (bindSpecial (.ref fI) self) (.ref fI, [self]))
    (k : codeAny (model prog w) (A.under (.builtin "type.__call__" ⟨.ref C :: rest, []⟩)) (.call (.ref fI) ⟨.ref (h.objs.size + 1) :: rest, []⟩) (PySem.W.InitBack (h.objs.size + 1) R)
      ⟨(h.push (PySem.W.excTup rest)).push (exr C none h.objs.size), g, d, t, os⟩) : codeAny (model prog w) A (.call (.ref C) ⟨rest, []⟩) R ⟨h, g, d, t, os⟩ := by
  have f1 := tc_lookup
  have f2 := tc_bind (.ref C)
  have ty : (⟨h, g, d, t, os⟩ : Shared).TypeIs (.ref C) "type" := ⟨_, hC, rfl⟩
  refine codeAny_of_tree ?_
  show wpAny _ _ (callAny (.ref C) _) _ _ _
  repeat (any_goals (first
    | assumption
    | with_reducible refine wpAny_loadPart_at hC ?_
    | wp_step))
  refine ⟨rfl, codeAny_call_builtin_at (Code.quiet_builtin _ (by decide +kernel)) entry_typeCall (wpAny_check_type_call_sub hC (typeU F b hC hz hi hb ?_))⟩
  refine codeAny_mono k fun r s' z => ?_
  rcases r with e | (v | _ | _ | _) <;> exact z
/-- B.__init__(e, ..) -/
theorem initU {a t0 : Addr} (F : IniF B initId) (b : Bm bm Bn B) (hC : h.get? C = some (excClassObj nm q C N bs bm hdct sn sub ab col dd k0 k1 k2 k3 k5 newId)) (ha : h.get? a = some (exr C none t0)) (hz : rest.length ≤ sizeLine)
    (k : ∀ h' t1, (∀ c o, c ≠ a → h.get? c = some o → h'.get? c = some o) → h'.get? a = some (exr C none t1) → R (.ok (.ret .none)) ⟨h', g, d, t, os⟩) :
    codeAny (model prog w) A (.call (.builtin initId) ⟨.ref a :: rest, []⟩) R ⟨h, g, d, t, os⟩ := by
  have c1 : (Value.ref C :: bm).contains (.type B) = true := by
    rw [List.contains_cons, b.b]
    exact Bool.or_true _
  have s1 := F.ns
  refine codeAny_call_builtin F.pl F.en ?_
  simp only [checkBuiltinCall, F.kd, F.sp, F.rw']
  repeat (first
    | (with_reducible refine wpAny_loadPart_at ha ?_; dsimp only)
    | with_reducible refine wpAny_loadPart_at hC ?_
    | (with_reducible refine wpAny_isSubtype_exc hC ?_; rw [c1])
    | wp_step)
  refine wpAny_onRaise ?_
  have ck : ∀ (x y : String) (n : Nat), Bind.check ⟨.positional, "*", B, .self, [⟨"args", .varPos, false⟩]⟩ x y n (List.map (fun z => z.fst) ({ pos := Value.ref a :: rest } : Args).kw) = pure () :=
    fun x y n => check_star_args _ _ _ _ _ _
  rw [ck]
  refine wpAny_pure (PySem.W.exc_init_tree (cls := .ref C) (t0 := t0) (dv := none) (c2 := .none) (c3 := .none) (b4 := .bool false) ha hz fun h' kp ea _ => ?_)
  exact k h' _ kp ea
end

section
variable {X : Cx} {k : Nat} {C fI : Addr} {fd : FuncData} {ps : List Str} {sp : Sp} {Bn B newId inN initId : String} {bmN : List Value} {x : Str} {e : Expr} {es : List Expr} {te : TE} {ta : TA} {p p1 p2 pos : Pos}
def tExI (C : Addr) (sp : Sp) (te : TE) : TE := fun σ H Q => te σ H fun v H1 => ∀ a t, H1 a = none → H1 t = none → t ≠ a →
  sp [.ref a, v] (upd (upd H1 t (.tup [v])) a (exq a C none t)) (fun u H2 => u = .non ∧ Q (.ref a) H2) E0
theorem pe_exI (F : ExcBaseFacts Bn newId inN bmN) (q : exnB X.K C newId Bn B = true) (hi : PySem.W.findIn X.K (.ref C) "__init__" = some (some (.ref fI))) (tf : PySem.W.typeIn X.K (.ref fI) = some (.type "function"))
    (kC : PySem.W.keepIn X.K (.ref C) = true) (gC : X.mg x = some (.ref C)) (hg : Gl X x) (G : FnG X.prog X.w X.K X.mg X.base k fI fd ps sp) (hr : Room (k + 1) X.A) (hgu : X.A.guards = some []) (hb : Binds X.K fd ps []) (he : PE X e te)
    (hs : starEach [e] X.env = (false, eval e X.env) :: starEach [] X.env := by rfl) (hdb : (x == ("__debug__" : Str)) = false := by decide) :
    PE X (.Call (.Name x p) [e] [] pos) (tExI C sp te) := by
  refine ⟨fun pins s σ H Q I h => ?_⟩
  refine wpAny_Call_Name_kw (ld_glob I hg gC ?_ hdb)
  refine PySem.W.callWith_K (h₀ := X.base) I.ok.mod.kin kC ?_ hs (by rfl)
  rw [hs]
  show wpAny _ _ (spliced ((false, eval e X.env) :: backTo pos (starEach [] X.env))) _ _ s
  refine Calls.spliced_cons (thn (he.run pins s σ H _ I h) ?_)
  rintro u s1 ⟨v, H1, I1, r1, q1⟩
  refine Calls.spliced_nil ⟨I1.kIn, ?_⟩
  show wpAny _ _ (call (.ref C) [u]) _ _ _
  obtain ⟨nm, N, qn, bs, bm, hdct, sn, sub, ab, col, dd, k0, k1, k2, k3, k5, hC, hT⟩ := exn_of I1.kIn q
  have hi' : PySem.W.Looks (model X.prog X.w) s1.heap (typeLookup (.ref C) "__init__") (some (.ref fI)) := PySem.W.looks_findIn I1.kIn hi
  have hbi := fun self => PySem.W.bind_fn (M := model X.prog X.w) I1.kIn self tf
  obtain ⟨hp, g, d, tk, os⟩ := s1
  have n1 : H1 (hp.objs.size + 1) = none := I1.hok.fresh (Nat.le_succ _)
  have n2 : H1 hp.objs.size = none := I1.hok.fresh (Nat.le_refl _)
  have ne : hp.objs.size ≠ hp.objs.size + 1 := Nat.ne_of_lt (Nat.lt_succ_self _)
  have kp : ∀ b o, hp.get? b = some o → ((hp.push (PySem.W.excTup [u])).push (exr C none hp.objs.size)).get? b = some o := fun b o z => Heap.get?_push_of_some _ (Heap.get?_push_of_some _ z)
  have gA : ((hp.push (PySem.W.excTup [u])).push (exr C none hp.objs.size)).get? (hp.objs.size + 1) = some (exr C none hp.objs.size) := by heap_get
  have gT : ((hp.push (PySem.W.excTup [u])).push (exr C none hp.objs.size)).get? hp.objs.size = some (PySem.W.excTup [u]) := Heap.get?_push_of_some _ (Heap.get?_push_size hp rfl)
  have one : [u].length ≤ sizeLine := by show 1 ≤ sizeLine; rw [sizeLine_eq]; omega
  have I2 := laid2 (tk := tk) (o := exq (hp.objs.size + 1) C none hp.objs.size) (u := .tup [v]) I1 kp (Nat.le_succ _) (Nat.le_refl _) ne
    ⟨by show 1 ≤ sizeLine; rw [sizeLine_eq]; omega, [u], .cons r1 .nil, ⟨_, gT, rfl, _, rfl⟩⟩ (exq_ok gA)
  have hq := q1 _ _ n1 n2 ne
  have hl : (Value.ref (hp.objs.size + 1) :: [u]).length = ps.length := by
    have z := G.len _ _ _ hq
    exact z
  have b := hb _ (Value.ref (hp.objs.size + 1) :: [u]) I2.kIn (by rw [List.append_nil]; exact hl)
  rw [List.append_nil] at b
  have gu : (X.A.under (.builtin "type.__call__" ⟨.ref C :: [u], []⟩)).guards = some [] := by
    first
      | exact hgu
      | (simp [Around.under, Code.guards, Code.isGuard, pushGuards, hgu]; done)
      | (simp +decide [Around.under, Code.guards, Code.isGuard, pushGuards, hgu, guardIds]; done)
  refine wpAny_call (callU F hT hC one hi' hbi (codeAny_mono (G.run _ X.stack _ _ ⟨Value.ref (hp.objs.size + 1) :: [u], []⟩ (Value.ref (hp.objs.size + 1) :: [u]) _ _ (hr.make C [u] []) gu (I2.env0.make C [u] []) b (show Vals (V.ref (hp.objs.size + 1) :: [v]) (Value.ref (hp.objs.size + 1) :: [u]) from .cons rfl (.cons r1 .nil)) hq) fun r s' hq' => ?_))
  rcases r with er | fl
  · exact hq'.elim
  · cases fl with
    | ret u2 =>
      obtain ⟨v3, H3, I3, rv, ev, q3⟩ := I2.after hq'
      subst ev
      exact ⟨rv, ⟨V.ref (hp.objs.size + 1), H3, I3, rfl, q3⟩⟩
    | _ => exact False.elim hq'

/-- B.__init__(self, ..), B built-in or a class of the program -/
def tBIn (K : PySem.W.Frag) (newId Bn B : String) (ta : TA) : TE := fun σ H Q => ta σ H fun vs H1 => ∃ (a C t : Addr) (ws : List V), vs = .ref a :: ws ∧ ws.length ≤ 1000 ∧ exnB K C newId Bn B = true ∧
  H1 a = some (exq a C none t) ∧ ∀ t', Q .non (upd H1 a (exq a C none t'))
theorem bin_run {pins : List (Addr × Obj)} {σ : L2.St} {H1 : Hp} {s1 : Shared} {Q : VK} {a t : Addr} {us : List Value} (F : IniF B initId) (q : exnB X.K C newId Bn B = true) (I1 : Inv X pins σ H1 s1) (ea : H1 a = some (exq a C none t)) (hz : us.length ≤ sizeLine)
    (h : ∀ t', Q .non (upd H1 a (exq a C none t'))) : wpAny (model X.prog X.w) X.A (call (.builtin initId) (.ref a :: us)) (EP X pins σ Q) X.xe s1 := by
  obtain ⟨nm, N, qn, bs, bm, hdct, sn, sub, ab, col, dd, k0, k1, k2, k3, k5, hC, hT⟩ := exn_of I1.kIn q
  have z := exq_at I1.hok ea
  obtain ⟨hp, g, d, tk, os⟩ := s1
  refine wpAny_call (initU F hT hC z hz fun h' t1 kp e' => ?_)
  exact ⟨.non, _, I1.write (t' := tk) (x := a) (e := a) (o := exq a C none t1) (by rw [ea]; exact True.intro) (.inl rfl) kp ⟨_, e'⟩ (exq_ok e'), rfl, h t1⟩
theorem pe_binB {pl : Sem Bool} {bn : Str} (F : IniF B initId) (hg : Gl X bn) (hm : X.mg bn = none) (hv : bootBuiltins bn = some (.type B)) (hnn : bn ≠ "__name__") (hty : typeOf (.type B) = pure (.type "type")) (hst : Manifest.isStub B = false)
    (vV : PySem.W.findCls X.K (.type B) (.type "type") "__init__" = some (.val (.builtin initId))) (hh : PySem.W.handedIn (.builtin initId) = true) (ha : PA X (e :: es) ta) (hdb : (bn == ("__debug__" : Str)) = false := by decide)
    (hc : eval (.Call (.Attribute (.Name bn p1) "__init__" p2) (e :: es) [] pos) X.env = (do
      let v ← eval (.Name bn p1) X.env
      standAt p2.atName
      let (f, first) ← holding [v] (getMethod v "__init__" pl)
      callWith pos f first (backTo pos (starEach (e :: es) X.env)) (backToKw pos (keywordEach [] X.env))) := by rfl)
    (he : starEach (e :: es) X.env = (false, eval e X.env) :: starEach es X.env := by rfl) (hpl : (backTo pos (starEach es X.env)).any (·.1) = false := by rfl) :
    PE X (.Call (.Attribute (.Name bn p1) "__init__" p2) (e :: es) [] pos) (tBIn X.K newId Bn B ta) := by
  refine ⟨fun pins s σ H Q I h => ?_⟩
  refine PySem.W.methodCall_KW (ld_blt I hg hm hv ?_ hnn hdb) hc
  obtain ⟨m, fr⟩ := I.fr
  refine PySem.W.method_type fr I.ok.mod.kin hty hst vV hh ?_
  show wpAny _ _ (callWith pos (Value.builtin initId) [] (backTo pos (starEach (e :: es) X.env)) []) _ _ _
  refine PyProof.Rows.callWith_method1 (thn (ha.run pos pins _ σ H _ (I.tok _) h) ?_) he hpl
  rintro us s1 ⟨vs, H1, I1, r1, a, C, t, ws, rfl, hl, q, ea, hq⟩
  cases r1 with
  | @cons _ u0 _ ur ra rw' =>
    cases (show u0 = Value.ref a from ra)
    exact bin_run F q I1 ea (by rw [← Paired.length rw', sizeLine_eq]; omega) hq
theorem pe_binC {pl : Sem Bool} {cn : Str} {D : Addr} (F : IniF B initId) (hg : Gl X cn) (hm : X.mg cn = some (.ref D)) (sg : PySem.W.specialIn X.K (.ref D) "__getattribute__" = some (some (.builtin "type.__getattribute__")))
    (rd : PySem.W.readsIn X.K D (.type "type") = true) (vV : PySem.W.findCls X.K (.ref D) (.type "type") "__init__" = some (.val (.builtin initId))) (hh : PySem.W.handedIn (.builtin initId) = true) (ha : PA X (e :: es) ta) (hdb : (cn == ("__debug__" : Str)) = false := by decide)
    (hc : eval (.Call (.Attribute (.Name cn p1) "__init__" p2) (e :: es) [] pos) X.env = (do
      let v ← eval (.Name cn p1) X.env
      standAt p2.atName
      let (f, first) ← holding [v] (getMethod v "__init__" pl)
      callWith pos f first (backTo pos (starEach (e :: es) X.env)) (backToKw pos (keywordEach [] X.env))) := by rfl)
    (he : starEach (e :: es) X.env = (false, eval e X.env) :: starEach es X.env := by rfl) (hpl : (backTo pos (starEach es X.env)).any (·.1) = false := by rfl) :
    PE X (.Call (.Attribute (.Name cn p1) "__init__" p2) (e :: es) [] pos) (tBIn X.K newId Bn B ta) := by
  refine ⟨fun pins s σ H Q I h => ?_⟩
  refine PySem.W.methodCall_KW (ld_glob I hg hm ?_ hdb) hc
  refine PySem.W.method_cls I.kIn sg (PySem.W.cls_value I.kIn rd vV hh ?_)
  show wpAny _ _ (callWith pos (Value.builtin initId) [] (backTo pos (starEach (e :: es) X.env)) []) _ _ _
  refine PyProof.Rows.callWith_method1 (thn (ha.run pos pins _ σ H _ (I.tok _) h) ?_) he hpl
  rintro us s1 ⟨vs, H1, I1, r1, a, C, t, ws, rfl, hl, q, ea, hq⟩
  cases r1 with
  | @cons _ u0 _ ur ra rw' =>
    cases (show u0 = Value.ref a from ra)
    exact bin_run F q I1 ea (by rw [← Paired.length rw', sizeLine_eq]; omega) hq
end
end DW
namespace DW
open PySem PySem.Spec PyProof.Rows L2
/-! ### the law as it is called behind the top, where its promise asks that no repr is under way -/
section
variable {P : Program} {w : World} {K : PySem.W.Frag} {mg mb : Str → Option Value} {k : Nat} {fa a : Addr} {fd : FuncData} {x : Str} {sp : Sp} {s : Shared} {vs : List Value} {ns : List Int}
abbrev scrO (vs : List Value) : Obj := { cls := .type "list", data := .seq vs.toArray }
/-- the script alone is tracked, and only if the module has not laid it -/
noncomputable def scrH (K : PySem.W.Frag) (a : Addr) (vs : List Value) (ns : List Int) : Hp :=
  fun b => if b = a ∧ K.lookup a = none then some (.frz (scrO vs) (.lst (ns.map V.int))) else none
theorem scr_in {b : Addr} {u : HO} (e : scrH K a vs ns b = some u) : b = a ∧ K.lookup a = none ∧ u = .frz (scrO vs) (.lst (ns.map V.int)) := by
  unfold scrH at e
  by_cases z : b = a ∧ K.lookup a = none
  · rw [if_pos z] at e
    exact ⟨z.1, z.2, (Option.some.inj e).symm⟩
  · rw [if_neg z] at e
    cases e
theorem scr_out {b : Addr} (n : ¬ (b = a ∧ K.lookup a = none)) : scrH K a vs ns b = none := if_neg n
theorem scr_vals : ∀ {vs : List Value} {ns : List Int}, IntsAre vs ns → Vals (ns.map V.int) vs
  | _, _, .nil => Paired.nil
  | _, _, .cons n t r => Paired.cons ⟨t, rfl⟩ (scr_vals r)
theorem scr_seq (KX : K.In s.heap) (ha : s.heap.get? a = some (scrO vs)) (hi : IntsAre vs ns) (hl : ns.length ≤ sizeLine) : SqL K (scrH K a vs ns) a (ns.map V.int) := by
  cases q : K.lookup a with
  | none => exact .inl (.inr ⟨scrO vs, if_pos ⟨rfl, q⟩⟩)
  | some o =>
    have same : o = scrO vs := Option.some.inj ((KX a o q).symm.trans ha)
    rw [same] at q
    have len := hi.length
    exact .inr ⟨_, vs.toArray, _, q, rfl, rfl, rfl, by rw [List.size_toArray, len]; exact hl, by simpa using scr_vals hi⟩
theorem scr_ok (ha : s.heap.get? a = some (scrO vs)) (hi : IntsAre vs ns) (hl : ns.length ≤ sizeLine) : HOk P w (scrH K a vs ns) s.heap := fun b u e => by
  obtain ⟨rfl, _, rfl⟩ := scr_in e
  exact ⟨ha, by rw [List.length_map]; exact hl, vs, _, scr_vals hi, ha⟩
theorem lawG (KX : K.In s.heap) (hm : s.heap.Ns mainGlobals mg) (hb : s.heap.Ns builtinsNs mb) (hq : ∀ y : Str, y ≠ "__name__" → mb y = bootBuiltins y) (nl : s.heap.NoLimit) (hg : s.gens = #[]) (ha : s.heap.get? a = some (scrO vs)) (hi : IntsAre vs ns)
    (hl : ns.length ≤ sizeLine) (hr : Room k callerA) (F : ∀ base : Heap, K.In base → FnG P w K mg base k fa fd [x] sp) (hbind : ∀ (t : Shared) (u : Value), BindsTo t fd ⟨[u], []⟩ [(x, u)])
    (hsp : ∀ H : Hp, SqL K H a (ns.map V.int) → sp [.ref a] H (fun v _ => v = .bl true) E0) :
    codeAny (model P w) callerA (.call (.ref fa) ⟨[.ref a], []⟩) (fun r s' => r = .ok (.ret (.bool true)) ∧ OldK s.heap s'.heap ∧ s'.os = s.os ∧ AllBare s'.gens) s := by
  have stay : ∀ {b : Addr} {o : Obj}, s.heap.get? b = some o → scrH K a vs ns b = none → (hidT s.heap (scrH K a vs ns)).get? b = some o := fun e n => hidT_get e n
  have notA : ∀ {b : Addr} {o : Obj}, s.heap.get? b = some o → o ≠ scrO vs → scrH K a vs ns b = none := fun e n => scr_out fun z => by
    rw [z.1, ha] at e
    exact n (Option.some.inj e).symm
  have nsS : ∀ {b : Addr} {m : Str → Option Value}, s.heap.Ns b m → (hidT s.heap (scrH K a vs ns)).Ns b m := fun {b m} ⟨o, es, ep, e, d, r⟩ =>
    ⟨o, es, ep, stay e (notA e fun z => by rw [z] at d; have d' : Data.seq vs.toArray _ = Data.dict es ep := d; cases d'), d, r⟩
  have KB : K.In (hidT s.heap (scrH K a vs ns)) := fun b o e => stay (KX b o e) (scr_out fun z => by rw [z.1, z.2] at e; cases e)
  have md : Mod K mg (hidT s.heap (scrH K a vs ns)) := ⟨KB, nsS hm, ⟨mb, nsS hb, hq⟩, let ⟨c, h1, h2⟩ := nl; ⟨c, nsS h1, h2⟩⟩
  have ev : Env0 P w K mg (hidT s.heap (scrH K a vs ns)) callerA [] s (scrH K a vs ns) :=
    ⟨rfl, md, fun b o e => of_hidT e, Nat.le_of_eq (hidT_size _ _), trivial, fun b z => absurd (show b ∈ ([] : List Addr) from z) (by simp), scr_ok ha hi hl, .of_eq hg⟩
  have go := (F _ KB).run callerA [] s (scrH K a vs ns) ⟨[.ref a], []⟩ [.ref a] [.ref a] _ hr rfl ev (hbind s (.ref a)) (Paired.cons rfl Paired.nil) (hsp _ (scr_seq KX ha hi hl))
  refine codeAny_mono go fun r s' h => ?_
  match r, h with
  | .ok (.ret u), ⟨v, H', os, bare, un, ok', rv, q⟩ =>
    cases (show v = V.bl true from q)
    cases (show u = Value.bool true from rv)
    refine ⟨rfl, OldK.of_keep fun b o e => ?_, os, bare⟩
    cases z : scrH K a vs ns b with
    | none => exact un.keep b o e z (by intro y; exact absurd (show b ∈ ([] : List Addr) from y) (by simp)) (by simp)
    | some u =>
      obtain ⟨rfl, _, rfl⟩ := scr_in z
      have later := un.frzs b (scrO vs) _ z
      obtain ⟨e1, _⟩ := ok' b _ later
      rw [ha] at e
      cases e
      exact e1
end
/-- what k_head leaves, from such a promise -/
theorem walkG {l : PySem.W.OpenLaw} {n k : Nat} {q : Program} {loose : List Str} {XP : (Str → Option Value) → Heap → Prop} {YP : World → Heap → Prop} {d : DefRec} {K : Params → PySem.W.Frag} {sp : PySem.W.Frag → Sp} {x : Str} (hn : l.most = some n) (hz : n ≤ sizeLine)
    (hd : d.params.defaults = []) (hr : Room k callerA) (hY : ∀ (w : World) (h : Heap), YP w h → (K w.params).In h)
    (F : ∀ (w : World) (mg : Str → Option Value) (fa : Addr) (h : Heap), (K w.params).In h → h.Ns mainGlobals mg → mg d.name = some (.ref fa) →
      ∃ fd : FuncData, (∀ (t : Shared) (u : Value), BindsTo t fd ⟨[u], []⟩ [(x, u)]) ∧ ∀ base : Heap, (K w.params).In base → FnG l.prog w (K w.params) mg base k fa fd [x] (sp (K w.params)))
    (hsp : ∀ (K : PySem.W.Frag) (H : Hp) (a : Addr) (ns : List Int), ns.length ≤ n → SqL K H a (ns.map V.int) → sp K [.ref a] H (fun v _ => v = .bl true) E0) :
    PySem.W.WalkO q loose XP YP l.row.toRowW d [] (fun f vs => PySem.call f vs) := by
  refine Att.attach_call hn hd fun w _ s mg mb fa _ _ _ _ a vs ns G Y _ _ _ hmg ho hi hl hg => ?_
  have KX := hY w _ Y
  obtain ⟨fd, hbind, hF⟩ := F w mg fa _ KX G.T.g hmg
  exact lawG KX G.T.g G.T.b G.T.builtins G.T.nolimit hg ho hi (Nat.le_trans hl hz) hr hF hbind fun H hS => hsp _ H a ns hl hS
end DW
namespace DW
open PySem PySem.Spec PyProof.Rows L2
theorem same_new {H : Hp} {p : Addr} {o : HO} (h : H p = none) : Same H (upd H p o) := fun b u e => by
  rw [upd_ne (ne_of_none e h)]; exact e
theorem same_mut {H0 H : Hp} {p : Addr} {o : HO} (s : Same H0 H) (h : H0 p = none) : Same H0 (upd H p o) := fun b u e => by
  rw [upd_ne (ne_of_none e h)]; exact s b u e
/-- a ledger of tracked objects -/
def Has (H : Hp) (L : List (Addr × HO)) : Prop := ∀ p ∈ L, H p.1 = some p.2
theorem Has.get {H : Hp} {L : List (Addr × HO)} {a : Addr} {o : HO} (h : Has H L) (m : (a, o) ∈ L) : H a = some o := h _ m
theorem Has.nil {H : Hp} : Has H [] := fun _ z => nomatch z
theorem Has.put {H : Hp} {L : List (Addr × HO)} {a : Addr} {o : HO} (h : Has H L) (e : H a = some o) : Has H ((a, o) :: L) := fun p m => by
  rcases List.mem_cons.mp m with rfl | m
  · exact e
  · exact h p m
theorem Has.of {H H' : Hp} {L : List (Addr × HO)} (h : Has H L) (s : Same H H') : Has H' L := fun p m => s _ _ (h p m)
theorem Has.new {H : Hp} {L : List (Addr × HO)} {a : Addr} {o : HO} (h : Has H L) (e : H a = none) : Has (upd H a o) ((a, o) :: L) := (h.of (same_new e)).put upd_same
theorem Has.mut {H : Hp} {L : List (Addr × HO)} {a : Addr} {o u : HO} (h : Has H L) (e : H a = some u) (ne : ∀ p ∈ L, p.2 ≠ u) : Has (upd H a o) L := fun p m => by
  have z := h p m
  rw [upd_ne fun q => ?_]
  · exact z
  · rw [q, e] at z
    exact ne p m (Option.some.inj z).symm
theorem pairedMono {α β : Type} {R R' : α → β → Prop} (f : ∀ x y, R x y → R' x y) : ∀ {xs : List α} {ys : List β}, Paired R xs ys → Paired R' xs ys
  | _, _, .nil => .nil
  | _, _, .cons r k => .cons (f _ _ r) (pairedMono f k)
theorem pairedSnoc {α β : Type} {R : α → β → Prop} : ∀ {xs : List α} {ys : List β} {x : α} {y : β}, Paired R xs ys → R x y → Paired R (xs ++ [x]) (ys ++ [y])
  | _, _, _, _, .nil, h => .cons h .nil
  | _, _, _, _, .cons r k, h => .cons r (pairedSnoc k h)
theorem pairedAt {α β : Type} {R : α → β → Prop} : ∀ {xs : List α} {ys : List β} {i : Nat} {x : α}, Paired R xs ys → xs[i]? = some x → ∃ y, ys[i]? = some y ∧ R x y
  | _, _, i, x, .nil, h => by simp at h
  | _, _, 0, x, .cons r k, h => by
    simp at h
    subst h
    exact ⟨_, rfl, r⟩
  | _, _, i + 1, x, .cons r k, h => by
    obtain ⟨y, e, q⟩ := pairedAt k (i := i) (x := x) (by simpa using h)
    exact ⟨y, by simpa using e, q⟩
theorem tyes {σ : L2.St} {H : Hp} {A B : Hp → Prop} (h : A H) : tYes σ H fun b H3 => if b = true then A H3 else B H3 := by
  show if true = true then A H else B H
  rw [if_pos rfl]
  exact h
theorem takeSucc {α : Type} {ds : List α} {i : Nat} {d : α} (h : ds[i]? = some d) : ds.take (i + 1) = ds.take i ++ [d] := by
  rw [List.take_add_one, h]
  rfl
section
variable {X : Cx}
theorem op_powW : OpR X (binaryOp .Pow) (rI (fun i j => 0 ≤ j ∧ (Builtin.Int.intBits i : Int) * j ≤ 2 ^ 27) fun i j => .int (i ^ j.toNat)) := by
  intro pins s σ H x y v u Q I rx ry h
  obtain ⟨i, j, rfl, rfl, hc, q⟩ := h
  obtain ⟨t, rfl⟩ := rx
  obtain ⟨t', rfl⟩ := ry
  exact PyProof.Rows.pow_int hc.1 hc.2 ⟨.int _, H, I.tok _, ⟨_, rfl⟩, q⟩
theorem op_mulS : OpR X (binaryOp .Mult) (fun x y H Q => ∃ (a : Str) (n : Int), x = .str a ∧ y = .int n ∧ MulOk a n ∧ Q (.str (Txt.mul a n)) H) := by
  intro pins s σ H x y v u Q I rx ry h
  obtain ⟨i, j, rfl, rfl, hc, q⟩ := h
  obtain ⟨t, rfl⟩ := rx
  obtain ⟨t', rfl⟩ := ry
  exact PySem.SB.mul hc fun t' k => ⟨.str _, H, I.tok _, ⟨_, rfl⟩, q⟩
end
end DW
namespace DW
open PySem PySem.Spec PyProof.Rows L2
/-! ### several except clauses, with names or without -/
abbrev Clause := Value × Option Nat × (Addr → Value → Option Addr → TS)
/-- behind a clause with a name, its slot is empty -/
def offAt (i : Nat) (D : Ends) : Ends := ⟨fun σ H => D.nx (σ.set i none) H, D.rt, fun σ H => D.bk (σ.set i none) H, fun σ H => D.ct (σ.set i none) H⟩
/-- n: how many slots there are -/
def wMix (K : PySem.W.Frag) (n : Nat) (Wout : WX) (D : Ends) : List Clause → WX
  | [] => Wout
  | (c, none, ts) :: r => fun cls d σ H => ∃ b, PySem.W.exmOne K cls c = some b ∧ (b = true → ∀ a, H a = none → ts a cls d D σ H) ∧ (b = false → wMix K n Wout D r cls d σ H)
  | (c, some i, ts) :: r => fun cls d σ H => ∃ b, PySem.W.exmOne K cls c = some b ∧ (b = true → ∀ a, H a = none → σ.length = n → ts a cls d (offAt i D) (σ.set i (some (.ref a))) H) ∧ (b = false → wMix K n Wout D r cls d σ H)
inductive Mix (X : Cx) : List ExceptHandler → List Clause → Prop
  | nil : Mix X [] []
  | bare {x : Str} {c : Value} {ts : Addr → Value → Option Addr → TS} {b0 : Stmt} {su : List Stmt} {p1 p2 : Pos} {hs : List ExceptHandler} {l : List Clause} (hc : Names X x c)
      (hsu : ∀ (a : Addr) (oe : Obj) (cls : Value) (d : Option Addr) (pn : List (Addr × Obj)), Zc cls d oe → (∃ vs, oe.data = .fields vs) → PSs (X.suite a ((a, oe) :: pn)) (b0 :: su) (ts a cls d)) (r : Mix X hs l) :
      Mix X (.ExceptHandler (some (.Name x p1)) none (b0 :: su) p2 :: hs) ((c, none, ts) :: l)
  | named {x n : Str} {i : Nat} {c : Value} {ts : Addr → Value → Option Addr → TS} {b0 : Stmt} {su : List Stmt} {p1 p2 : Pos} {hs : List ExceptHandler} {l : List Clause} (nd : X.N.Nodup) (hi : X.N[i]? = some n) (hl : X.env.kindOf n = some .local) (hc : Names X x c)
      (hsu : ∀ (a : Addr) (oe : Obj) (cls : Value) (d : Option Addr) (pn : List (Addr × Obj)), Zc cls d oe → (∃ vs, oe.data = .fields vs) → PSs (X.suite a ((a, oe) :: pn)) (b0 :: su) (ts a cls d)) (r : Mix X hs l) :
      Mix X (.ExceptHandler (some (.Name x p1)) (some n) (b0 :: su) p2 :: hs) ((c, some i, ts) :: l)
section
variable {X : Cx} {pins : List (Addr × Obj)} {D : Ends} {B : Heap} {sI s' : Shared} {a : Addr} {σ' : L2.St} {H' : Hp} {cls : Value} {d : Option Addr} {Wout : WX}
/-- the clauses looked through, one after another, for an exception that has landed -/
theorem mix_go (ok : X.Ok) (hst : X.stack = X.env :: X.outer) (hf : X.env.frame = some X.env.locals) (tk : Takes X Wout) (J : Inv X pins σ' H' sI) (nb : ∀ h3, HandSPX.FlyingZ B (X.env :: X.outer) a (Zc cls d) h3 → s'.heap.UpToSlots h3 → Inv X pins σ' H' { s' with heap := h3 })
    (na : H' a = none) (out : ∀ h4, s'.heap.UpToSlots h4 → HandSPX.HeldZ B (X.env :: X.outer) a (Zc cls d) X.env.locals h4 → Wout cls d σ' H' → XE X Wout (.ref a) { s' with heap := h4 }) :
    ∀ {hs : List ExceptHandler} {l : List Clause}, Mix X hs l → wMix X.K X.N.length Wout D l cls d σ' H' → ∀ h3, HandSPX.FlyingZ B (X.env :: X.outer) a (Zc cls d) h3 → s'.heap.UpToSlots h3 →
      wpAny (model X.prog X.w) X.A (handleBy (.ref a) X.env hs) (SP X pins D) X.xe { s' with heap := h3 } := by
  have look : ∀ h3, HandSPX.FlyingZ B (X.env :: X.outer) a (Zc cls d) h3 → s'.heap.UpToSlots h3 → ∃ oe vs, h3.get? a = some oe ∧ Zc cls d oe ∧ oe.data = .fields vs ∧ Inv (X.suite a ((a, oe) :: (X.pn ++ pins))) [] σ' H' { s' with heap := h3 } := fun h3 fl up => by
    obtain ⟨oe, vs, he, hz, hd⟩ := fl.there
    have nfr : a ∉ frs (X.env :: X.outer) := fun hm => by
      obtain ⟨_, o', e', hnf⟩ := fl.2.2.1.mem hm
      rw [he] at e'
      cases e'
      exact hnf _ hd
    refine ⟨oe, vs, he, hz, hd, (nb h3 fl up).suite he hd na (fun z => nfr (List.mem_filterMap.mpr ⟨X.env, List.mem_cons_self, by rw [hf, z]⟩)) fun hm => ?_⟩
    obtain ⟨e, m, q⟩ := List.mem_filterMap.mp hm
    exact nfr (List.mem_filterMap.mpr ⟨e, List.mem_cons_of_mem _ m, q⟩)
  -- the test of one clause
  have ask : ∀ {x : Str} {c : Value} {p1 : Pos} {b : Bool} {h3 : Heap} {Q : Value → Shared → Prop} {E : Value → Shared → Prop}, Names X x c → HandSPX.FlyingZ B (X.env :: X.outer) a (Zc cls d) h3 → s'.heap.UpToSlots h3 → PySem.W.exmOne X.K cls c = some b →
      (∀ M : PySem.W.Looks (model X.prog X.w) h3 (typeOf (.ref a)) cls, Q c { s' with heap := h3 }) → wpAny (model X.prog X.w) (X.A.mark (some (.ref a))) (eval (.Name x p1) X.env) Q E { s' with heap := h3 } := fun {x c p1 b h3 Q E} hc fl up _ q => by
    obtain ⟨oe, vs, he, hz, hd, S⟩ := look h3 fl up
    have LT : PySem.W.Looks (model X.prog X.w) h3 (typeOf (.ref a)) cls := fun A Q E s k q => wpAny_typeOf_ref (k _ _ he) (by rw [hz.1]; exact q)
    obtain ⟨hg, hdb, hm | ⟨hm, hv, hnn⟩⟩ := hc
    · exact ld_glob (X := X.suite a ((a, oe) :: (X.pn ++ pins))) S hg hm (q LT) hdb
    · exact ld_blt (X := X.suite a ((a, oe) :: (X.pn ++ pins))) S hg hm hv (q LT) hnn hdb
  intro hs l hk
  induction hk with
  | nil =>
    intro w h3 fl up
    refine wpAny_handleBy_nil ?_
    obtain ⟨_, _, _, oe, vs, T, oT, ts', he, hz, hd, h1, hr⟩ := id fl
    unfold PySem.passOn
    refine wpAny_bind (wpAny_field he hd h1 (by
      rw [if_neg (show ¬ ((Value.ref T == Value.none) = true) from by simp)]
      have fin : wpAny (model X.prog X.w) X.A (setFlight (.ref a) X.env.frame) (fun _ s4 => wpAny (model X.prog X.w) X.A (throw (.ref a) : Sem Flow) (SP X pins D) X.xe s4) X.xe { s' with heap := h3 } := by
        rw [hf]
        exact HandSPX.setFlight_upZ fl fun h4 hh4 up4 => wpAny_throw (tk _ _ (out h4 (up.trans up4) hh4 w))
      first
        | exact wpAny_bind (wpAny_pure (wpAny_bind fin))
        | exact wpAny_bind fin))
  | @bare x c ts b0 su p1 p2 hs l hc hsu r ih =>
    intro w h3 fl up
    obtain ⟨b, hb, yes, no⟩ := w
    have J3 := nb h3 fl up
    refine wpAny_handleBy_cons (codeAny_handlers_test (ask hc fl up hb fun LT => (PySem.W.exm_one (M := model X.prog X.w) J3.kIn LT hb).here ?_)) (by intro q; cases q)
    cases b with
    | false => exact ih (no rfl) h3 fl up
    | true =>
      refine codeAny_handlers_suite (HandSPX.lands_againZ fl fun h4 fl4 up4 => ?_)
      obtain ⟨oe, vs, he, hz, hd, S⟩ := look h4 fl4 (up.trans up4)
      refine wpAny_mono ((hsu a oe cls d (X.pn ++ pins) hz ⟨_, hd⟩).run [] _ _ H' _ S (yes rfl a na)) (fun f s6 q => ?_) fun _ _ z => False.elim z
      cases f with
      | ret u => obtain ⟨v, σ6, H6, S6, r6, q6⟩ := q; exact ⟨v, σ6, H6, S6.unsuite ok, r6, q6⟩
      | next => obtain ⟨σ6, H6, S6, q6⟩ := q; exact ⟨σ6, H6, S6.unsuite ok, q6⟩
      | brk => obtain ⟨σ6, H6, S6, q6⟩ := q; exact ⟨σ6, H6, S6.unsuite ok, q6⟩
      | cont => obtain ⟨σ6, H6, S6, q6⟩ := q; exact ⟨σ6, H6, S6.unsuite ok, q6⟩
  | @named x n i c ts b0 su p1 p2 hs l nd hi hl hc hsu r ih =>
    intro w h3 fl up
    obtain ⟨b, hb, yes, no⟩ := w
    have J3 := nb h3 fl up
    refine wpAny_handleBy_cons (codeAny_handlers_test (ask hc fl up hb fun LT => (PySem.W.exm_one (M := model X.prog X.w) J3.kIn LT hb).here ?_)) (by intro q; cases q)
    cases b with
    | false => exact ih (no rfl) h3 fl up
    | true =>
      refine codeAny_handlers_suite_as (HandSPX.lands_againZ fl fun h4 fl4 up4 => ?_)
      obtain ⟨oe, vs, he, hz, hd, S⟩ := look h4 fl4 (up.trans up4)
      refine store_ok (X := X.suite a ((a, oe) :: (X.pn ++ pins))) (v := .ref a) S nd hi (.inl hl) rfl (fun s5 S5 => ?_) (.inr hl)
      have done : ∀ {σ6 : L2.St} {H6 : Hp} {Q : Shared → Prop} {s6 : Shared}, Inv (X.suite a ((a, oe) :: (X.pn ++ pins))) [] σ6 H6 s6 → (∀ s7, Inv X pins (σ6.set i none) H6 s7 → Q s7) →
          wpAny (model X.prog X.w) X.A (do bindName X.env n .none; unbindBehindTheSuite X.env n p2) (fun _ s7 => Q s7) X.xe s6 := fun S6 q => gone_ok (S6.unsuite ok) nd hi hl q
      refine wpAny_mono ((hsu a oe cls d (X.pn ++ pins) hz ⟨_, hd⟩).run [] s5 _ H' _ S5 (yes rfl a na J3.len)) (fun f s6 q => ?_) fun _ _ z => False.elim z
      cases f with
      | ret u => obtain ⟨v, σ6, H6, S6, r6, q6⟩ := q; exact done S6 fun s7 J7 => ⟨v, _, H6, J7, r6, q6⟩
      | next => obtain ⟨σ6, H6, S6, q6⟩ := q; exact done S6 fun s7 J7 => ⟨_, H6, J7, q6⟩
      | brk => obtain ⟨σ6, H6, S6, q6⟩ := q; exact done S6 fun s7 J7 => ⟨_, H6, J7, q6⟩
      | cont => obtain ⟨σ6, H6, S6, q6⟩ := q; exact done S6 fun s7 J7 => ⟨_, H6, J7, q6⟩
end
section
variable {X : Cx} {body : List Stmt} {h0 : ExceptHandler} {hs : List ExceptHandler} {l : List Clause} {pos : Pos} {tb : WX → TS} {Wout : WX}
theorem ps_try_mix (hst : X.stack = X.env :: X.outer) (hf : X.env.frame = some X.env.locals) (tk : Takes X Wout)
    (hb : ∀ (W : WX) (pn : List (Addr × Obj)) (xe : Value → Shared → Prop), Takes (X.tr pn xe) W → PassesOwn (model X.prog X.w) X.A X.env xe → PSs (X.tr pn xe) body (tb W)) (hh : Mix X (h0 :: hs) l) :
    PS X (.Try body (h0 :: hs) [] [] pos) (fun D σ H => tb (wMix X.K X.N.length Wout D l) D σ H) := by
  refine ⟨fun pins s σ H D I h => ?_⟩
  have ok := I.ok
  have hfr : X.A.frames = some (X.env :: X.outer) := by rw [ok.frames, hst]
  refine wpAny_Try_except (wpAny_mono ((hb (wMix X.K X.N.length Wout D l) (X.pn ++ pins) (fun e s₁ => wpAny (model X.prog X.w) X.A (noteFrame e X.env) (fun _ s₂ => wpAny (model X.prog X.w) X.A (setFlight e none) (fun _ s₃ =>
    wpAny (model X.prog X.w) X.A (handleBy e X.env (h0 :: hs)) (SP X pins D) X.xe s₃) X.xe s₂) X.xe s₁) (fun u s' xx => ?_) PassesOwn.looking).run [] s σ H D (I.toTry _) h) (fun f s1 q => ?_) fun e s1 he => he)
  · obtain ⟨a, B, sI, pins', σ', H', cls, d, rfl, J', nb, up, sky, na, os, ag, w⟩ := xx
    have J : Inv X pins σ' H' sI := J'.ofTry ok
    have sky' : Sky B (X.env :: X.outer) a (Zc cls d) X.env.locals s'.heap := by rw [← hst]; exact sky
    refine (show wpAny (model X.prog X.w) X.A (noteFrame (.ref a) X.env) _ _ _ from Sky.land Zc.steady hfr hf sky' fun h3 fl3 up3 => ?_)
    exact mix_go ok hst hf tk J (fun h4 fl4 up4 => J.landed nb fl4.1 (up.trans up4) os ag) na (fun h4 up4 hh4 w4 => ⟨a, B, sI, pins, σ', H', cls, d, rfl, J, nb, up.trans up4, .inr (.inr (by rw [hst]; exact hh4)), na, os, ag, w4⟩) hh w h3 fl3 up3
  · cases f with
    | ret u => obtain ⟨v, σ', H', J', r, q⟩ := q; exact ⟨v, σ', H', J'.ofTry ok, r, q⟩
    | next => obtain ⟨σ', H', J', q⟩ := q; exact wpAny_execs_nil ⟨σ', H', J'.ofTry ok, q⟩
    | brk => obtain ⟨σ', H', J', q⟩ := q; exact ⟨σ', H', J'.ofTry ok, q⟩
    | cont => obtain ⟨σ', H', J', q⟩ := q; exact ⟨σ', H', J'.ofTry ok, q⟩
end
end DW
namespace DW
open PySem PySem.Spec PyProof.Rows L2
section
variable {X : Cx} {pins : List (Addr × Obj)} {σ : L2.St} {H : Hp} {s : Shared}
/-- a thing that is tracked by a word of its own, tracked otherwise -/
theorem retype {dx : Addr} {φ : Heap → Prop} {o : HO} (I : Inv X pins σ H s) (e : H dx = some (.ext φ)) (new : ObjOk X.prog X.w (upd H dx o) s.heap dx o) : Inv X pins σ (upd H dx o) s := by
  have nN : ∀ {b : Addr}, H b = none → b ≠ dx := fun n z => by rw [z, e] at n; cases n
  have nE : ∀ {b : Addr} {u : HO}, H b = some u → (∀ φ, u ≠ .ext φ) → b ≠ dx := fun q n z => by rw [z, e] at q; cases q; exact n φ rfl
  have J := I.un (t' := s.toks) (h' := s.heap) (H' := upd H dx o) ⟨fun b v q _ _ _ => q, fun b v q _ _ _ => ⟨v.slots, q⟩, fun b v q n _ => (upd_ne (nN n)).trans n, fun b v q _ => ⟨v, q⟩,
    fun b xs q => (upd_ne (nE q fun _ z => nomatch z)).trans q, fun b ob xs q => (upd_ne (nE q fun _ z => nomatch z)).trans q, fun b qs q => ⟨#[], by rw [upd_ne (nE q fun _ z => nomatch z), q]; simp⟩⟩ fun b v q => by
      by_cases hb : b = dx
      · subst hb
        rw [upd_same] at q
        cases q
        exact new
      · rw [upd_ne hb] at q
        exact (I.hok b v q).stay (fun c y _ r => r) (fun c r => (upd_ne (nE r fun _ z => nomatch z)).trans r) fun c xs r => (upd_ne (nE r fun _ z => nomatch z)).trans r
  exact J
/-- raise e, where e gives an own exception with a dict of its own -/
theorem pmk_exq {e : Expr} {te : TE} (hx : X.ex = []) (he : PE X e te) : PMk X e (fun σ H Q => te σ H fun x H1 => ∃ (a C dx t : Addr) (fs : List (Str × V)), x = .ref a ∧ H1 a = some (exq a C (some dx) t) ∧ H1 dx = some (exd dx fs) ∧ Fr0 X.H_0 a ∧ Raises X (.ref C) ∧
    Q (.ref C) (some dx) (upd (delH H1 a) dx (.xd fs))) := by
  intro pins s σ H Q I h
  refine wpAny_mono (he.run pins s σ H _ I h) (fun u s1 hu => ?_) fun _ _ x => x
  obtain ⟨v, H1, I1, r1, a, C, dx, t, fs, rfl, ha, hd, h0, hr, q⟩ := hu
  cases (show u = Value.ref a from r1)
  have z := exq_at I1.hok ha
  obtain ⟨mA, ⟨o, es, ep, ho, hdat⟩, rel⟩ := exd_at I1.hok hd
  have ne : dx ≠ a := fun y => by
    rw [y, z] at ho
    cases ho
    simp at hdat
  obtain ⟨G, gs, ga, J⟩ := I1.untrack (φ := fun h => h.get? a = some (exr C (some dx) t)) ha h0 hx
  have hd2 : delH H1 a dx = some (exd dx fs) := by rw [delH_ne ne]; exact hd
  have J2 := retype (o := .xd fs) J hd2 (show ∃ mA, _ from exd_at J.hok hd2)
  exact ⟨a, _, _, { s1 with heap := G }, _, .ref C, some dx, rfl, J2, gs, ga, z, ⟨rfl, rfl⟩, rfl, rfl, (upd_ne (Ne.symm ne)).trans delH_same, rfl, I1.bare, hr, q⟩
end
section
variable {X : Cx} {k : Nat} {C fI : Addr} {fd : FuncData} {ps : List Str} {sp : Sp} {Bn B newId inN : String} {bmN : List Value} {x : Str} {e : Expr} {te : TE} {p pos : Pos}
/-- X(e), X with an __init__ of its own that promises to let nothing out -/
theorem pe_exI0 (F : ExcBaseFacts Bn newId inN bmN) (q : exnB X.K C newId Bn B = true) (hi : PySem.W.findIn X.K (.ref C) "__init__" = some (some (.ref fI))) (tf : PySem.W.typeIn X.K (.ref fI) = some (.type "function"))
    (kC : PySem.W.keepIn X.K (.ref C) = true) (gC : X.mg x = some (.ref C)) (hg : Gl X x) (G : FnOk X.prog X.w X.K X.mg X.base CX0 k fI fd ps sp) (hr : Room (k + 1) X.A) (hb : Binds X.K fd ps []) (he : PE X e te)
    (hs : starEach [e] X.env = (false, eval e X.env) :: starEach [] X.env := by rfl) (hdb : (x == ("__debug__" : Str)) = false := by decide) :
    PE X (.Call (.Name x p) [e] [] pos) (tExI C sp te) := by
  refine ⟨fun pins s σ H Q I h => ?_⟩
  refine wpAny_Call_Name_kw (ld_glob I hg gC (PySem.W.callWith_K (h₀ := X.base) I.ok.mod.kin kC (by
    rw [hs]
    refine (show wpAny _ _ (spliced ((false, eval e X.env) :: backTo pos (starEach [] X.env))) _ _ s from Calls.spliced_cons (thn (he.run pins s σ H _ I h) ?_))
    rintro u s1 ⟨v, H1, I1, r1, q1⟩
    refine Calls.spliced_nil ⟨I1.kIn, (show wpAny _ _ (call (.ref C) [u]) _ _ _ from ?_)⟩
    obtain ⟨nm, N, qn, bs, bm, hdct, sn, sub, ab, col, dd, k0, k1, k2, k3, k5, hC, hT⟩ := exn_of I1.kIn q
    have look := PySem.W.looks_findIn (M := model X.prog X.w) I1.kIn hi
    have bnd := fun self => PySem.W.bind_fn (M := model X.prog X.w) I1.kIn self tf
    obtain ⟨hp, g, d, tk, os⟩ := s1
    have n1 : H1 (hp.objs.size + 1) = none := I1.hok.fresh (Nat.le_succ _)
    have n2 : H1 hp.objs.size = none := I1.hok.fresh (Nat.le_refl _)
    have ne : hp.objs.size ≠ hp.objs.size + 1 := Nat.ne_of_lt (Nat.lt_succ_self _)
    have kp : ∀ b o, hp.get? b = some o → ((hp.push (PySem.W.excTup [u])).push (exr C none hp.objs.size)).get? b = some o := fun b o z => Heap.get?_push_of_some _ (Heap.get?_push_of_some _ z)
    have gA : ((hp.push (PySem.W.excTup [u])).push (exr C none hp.objs.size)).get? (hp.objs.size + 1) = some (exr C none hp.objs.size) := by heap_get
    have gT : ((hp.push (PySem.W.excTup [u])).push (exr C none hp.objs.size)).get? hp.objs.size = some (PySem.W.excTup [u]) := Heap.get?_push_of_some _ (Heap.get?_push_size hp rfl)
    have one : [u].length ≤ sizeLine := by show 1 ≤ sizeLine; rw [sizeLine_eq]; omega
    have I2 := laid2 (tk := tk) (o := exq (hp.objs.size + 1) C none hp.objs.size) (u := .tup [v]) I1 kp (Nat.le_succ _) (Nat.le_refl _) ne
      ⟨by show 1 ≤ sizeLine; rw [sizeLine_eq]; omega, [u], .cons r1 .nil, ⟨_, gT, rfl, _, rfl⟩⟩ (exq_ok gA)
    have hq := q1 _ _ n1 n2 ne
    have hl : (Value.ref (hp.objs.size + 1) :: [u]).length = ps.length := G.len _ _ _ _ hq
    have b := hb _ (Value.ref (hp.objs.size + 1) :: [u]) I2.kIn (by rw [List.append_nil]; exact hl)
    rw [List.append_nil] at b
    refine wpAny_call (callU F hT hC one look bnd (codeAny_mono (G.run _ X.stack _ _ ⟨Value.ref (hp.objs.size + 1) :: [u], []⟩ (Value.ref (hp.objs.size + 1) :: [u]) _ _ _ (hr.make C [u] []) (I2.env0.make C [u] []) b (show Vals (V.ref (hp.objs.size + 1) :: [v]) (Value.ref (hp.objs.size + 1) :: [u]) from .cons rfl (.cons r1 .nil)) hq) fun r s' z => ?_))
    rcases r with er | fl
    · exact z.elim
    · cases fl with
      | ret u2 =>
        obtain ⟨v3, H3, I3, rv, ev, q3⟩ := I2.after z
        subst ev
        exact ⟨rv, ⟨V.ref (hp.objs.size + 1), H3, I3, rfl, q3⟩⟩
      | _ => exact False.elim z) hs (by rfl)) hdb)
/-- {x!r} of what holds nothing: whatever is under way -/
def tFmt0 (te : TE) : TE := fun σ H Q => te σ H fun v H1 => ∃ d : PyData, ((v = .non ∧ d = .none) ∨ (∃ b, v = .bl b ∧ d = .bool b) ∨ (∃ i, v = .int i ∧ d = .int i) ∨ ∃ z, v = .str z ∧ d = .str z) ∧ d.showable = true ∧ d.shown.length ≤ sizeLine ∧ Q (.str d.shown) H1
theorem pe_fmt0 (he : PE X e te) : PE X (.FormattedValue e 114 none pos) (tFmt0 te) := by
  refine ⟨fun pins s σ H Q I h => ?_⟩
  refine wpAny_FormattedValue_repr (thn (he.run pins s σ H _ I h) ?_)
  rintro u s1 ⟨v, H1, I1, r1, d, hd, hs, hz, q⟩
  have fin : ∀ t tk : Nat, wpAny (model X.prog X.w) X.A (formatField (.str d.shown t) Str.empty) (EP X pins σ Q) X.xe { s1 with toks := tk } := fun t tk =>
    wpAny_formatField_str ⟨.str d.shown, H1, (I1.tok _).tok _, ⟨_, rfl⟩, q⟩ ⟨.str d.shown, H1, (I1.tok _).tok _, ⟨_, rfl⟩, q⟩ hz
  rcases hd with ⟨rfl, rfl⟩ | ⟨b, rfl, rfl⟩ | ⟨i, rfl, rfl⟩ | ⟨z, rfl, rfl⟩
  · cases (show u = Value.none from r1)
    exact pyReprObj_none (fin _ _)
  · cases (show u = Value.bool b from r1)
    exact pyReprObj_bool (fin _ _)
  · obtain ⟨t, rfl⟩ := r1
    exact pyReprObj_int (by simpa [PyData.showable] using hs) (fin _ _)
  · obtain ⟨t, rfl⟩ := r1
    exact pyReprObj_str (fin _ _) hz
end
end DW
namespace DW
open PySem PySem.Spec PyProof.Rows L2
/-! ### promises of defs that may let errors out, and that may write out data: no repr is under way -/
structure FnGX (P : Program) (w : World) (K : PySem.W.Frag) (mg : Str → Option Value) (base : Heap) (CX : CXT) (k : Nat) (f : Addr) (fd : FuncData) (ps : List Str) (sp : Sp) : Prop where
  len : ∀ vs H Q E, sp vs H Q E → vs.length = ps.length
  run : ∀ (A : Around) (outer : List Env) (s : Shared) (H : Hp) (args : Args) (us : List Value) (vs : List V) (Q : VK) (E : XK), Room k A → A.guards = some [] → Env0 P w K mg base A outer s H → BindsTo s fd args (ps.zip us) → Vals vs us → sp vs H Q E →
    codeAny (model P w) A (.call (.ref f) args) (CR CX outer P w H s Q E) s
section
variable {P : Program} {w : World} {K : PySem.W.Frag} {mg : Str → Option Value} {base : Heap}
theorem FnGX.of {CX : CXT} {k : Nat} {f : Addr} {fd : FuncData} {ps : List Str} {sp : Sp} (F : FnOk P w K mg base CX k f fd ps sp) : FnGX P w K mg base CX k f fd ps sp :=
  ⟨F.len, fun A outer s H args us vs Q E hr _ e0 hb r h => F.run A outer s H args us vs Q E hr e0 hb r h⟩
theorem FnGX.mono {CX : CXT} {j k : Nat} {f : Addr} {fd : FuncData} {ps : List Str} {sp : Sp} (F : FnGX P w K mg base CX j f fd ps sp) (h : j ≤ k) : FnGX P w K mg base CX k f fd ps sp :=
  ⟨F.len, fun A outer s H args us vs Q E hr => F.run A outer s H args us vs Q E (hr.mono h)⟩
theorem FnG.mono {j k : Nat} {f : Addr} {fd : FuncData} {ps : List Str} {sp : Sp} (F : FnG P w K mg base j f fd ps sp) (h : j ≤ k) : FnG P w K mg base k f fd ps sp :=
  ⟨F.len, fun A outer s H args us vs Q hr => F.run A outer s H args us vs Q (hr.mono h)⟩
/-- a def at f as it stands behind the top, its defaults whatever they are: its code runs -/
theorem gx_of {name qual : Str} {params : Arguments} {body : List Stmt} {scope : Scope} {dV kV doc pm cdv ct oc : Value} {an od : Option Addr} {osl : Array (Option Value)} {CX : CXT} {f : Addr} {N ps : List Str} {k : Nat} {sp : Sp}
    (lk : K.lookup f = some ⟨oc, od, .func (PySem.W.fnOf name qual params body scope dV kV doc pm an cdv ct), osl⟩) (hcd : PySem.W.codeIn K cdv qual = true) (S : FnScope N ps scope)
    (len : ∀ vs H Q E, sp vs H Q E → vs.length = ps.length)
    (hbody : ∀ (A : Around) (outer : List Env) (s : Shared) (H : Hp) (vs : List V) (Q : VK) (E : XK), Room k (A.deeper (envOfC qual scope s.heap.objs.size f cdv)) → A.guards = some [] → sp vs H Q E →
      ∃ t, PSs (cxOf CX P w K mg base N qual scope f cdv A outer s H E) body t ∧ t { nx := fun _ H' => Q .non H', rt := Q } (start N vs) H) :
    FnGX P w K mg base CX (k + 1) f (PySem.W.fnOf name qual params body scope dV kV doc pm an cdv ct) ps sp := by
  refine ⟨len, fun A outer s H args us vs Q E hr hg env0 hb r hsp => ?_⟩
  exact LamX.run_ofS lk hcd S hr env0 hb r (len _ _ _ _ hsp) fun hr' => hbody A outer s H vs Q E hr' hg hsp
theorem fngx {x qual : Str} {st : Stmt} {f : Addr} {fd : FuncData} {N ps : List Str} {k : Nat} {sp : Sp} (F : Fun K x qual st f fd) (S : FnScope N ps (defScope st)) (len : ∀ vs H Q E, sp vs H Q E → vs.length = ps.length)
    (hbody : ∀ (cdv : Value) (A : Around) (outer : List Env) (s : Shared) (H : Hp) (vs : List V) (Q : VK) (E : XK), Room k (A.deeper (envOfC qual (defScope st) s.heap.objs.size f cdv)) → A.guards = some [] → sp vs H Q E →
      ∃ t, PSs (cxOf (L2.CX P w) P w K mg base N qual (defScope st) f cdv A outer s H E) (defBody st) t ∧ t { nx := fun _ H' => Q .non H', rt := Q } (start N vs) H) : FnGX P w K mg base (L2.CX P w) (k + 1) f fd ps sp := by
  obtain ⟨oc, od, kV, doc, pm, an, cdv, ct, osl, rfl, lk, hcd⟩ := F.ex
  exact gx_of lk hcd S len fun A outer s H vs Q E hr hg hsp => hbody cdv A outer s H vs Q E hr hg hsp
theorem fngxD {x qual : Str} {params : Arguments} {body : List Stmt} {scope : Scope} {dvs : List V} {kws : List (Str × V)} {f : Addr} {fd : FuncData} {N ps : List Str} {k : Nat} {sp : Sp} (F : FunD K x qual params body scope dvs kws f fd) (S : FnScope N ps scope) (len : ∀ vs H Q E, sp vs H Q E → vs.length = ps.length)
    (hbody : ∀ (cdv : Value) (A : Around) (outer : List Env) (s : Shared) (H : Hp) (vs : List V) (Q : VK) (E : XK), Room k (A.deeper (envOfC qual scope s.heap.objs.size f cdv)) → A.guards = some [] → sp vs H Q E →
      ∃ t, PSs (cxOf (L2.CX P w) P w K mg base N qual scope f cdv A outer s H E) body t ∧ t { nx := fun _ H' => Q .non H', rt := Q } (start N vs) H) : FnGX P w K mg base (L2.CX P w) (k + 1) f fd ps sp := by
  obtain ⟨oc, od, dV, kV, doc, pm, an, cdv, ct, osl, rfl, lk, hcd, _, _⟩ := F.ex
  exact gx_of lk hcd S len fun A outer s H vs Q E hr hg hsp => hbody cdv A outer s H vs Q E hr hg hsp
end
section
variable {X : Cx} {CX : CXT} {k n : Nat} {f C : Addr} {fd : FuncData} {ps ks : List Str} {sp : Sp} {dvs : List V} {ds : List Value} {E : XK} {x m : Str} {p pos apos : Pos} {e o : Expr} {es : List Expr} {kws : List Keyword} {ta : TE} {t tk : TA} {g : List Value → List Value → List Value} {gV : List V → List V → List V}
theorem run_gx {pins : List (Addr × Obj)} {σ : L2.St} {H : Hp} {s : Shared} {Q : VK} {us : List Value} {vs : List V} (F : FnGX X.prog X.w X.K X.mg X.base CX k f fd ps sp) (hr : Room k X.A) (hg : X.A.guards = some []) (hb : Binds X.K fd ps ds) (hd : Vals dvs ds) (hx : Passes CX X E)
    (I : Inv X pins σ H s) (r : Vals vs us) (h : sp (vs ++ dvs) H Q E) : wpAny (model X.prog X.w) X.A (call (.ref f) us) (EP X pins σ Q) X.xe s := by
  have both : Vals (vs ++ dvs) (us ++ ds) := r.append hd
  have many : (us ++ ds).length = ps.length := both.length.symm.trans (F.len _ _ _ _ h)
  refine wpAny_call (codeAny_mono (F.run X.A X.stack s H ⟨us, []⟩ (us ++ ds) (vs ++ dvs) Q E hr hg I.env0 (hb s us I.kIn many) both h) fun r s' hq => ?_)
  cases r with
  | error er => exact hx _ _ _ _ er s' I hq
  | ok fl =>
    cases fl with
    | ret u => exact I.after hq
    | _ => exact False.elim hq
theorem run_gxN {pins : List (Addr × Obj)} {σ : L2.St} {H : Hp} {s : Shared} {Q : VK} {us ws : List Value} {vs zs : List V} (F : FnGX X.prog X.w X.K X.mg X.base CX k f fd ps sp) (hr : Room k X.A) (hg : X.A.guards = some []) (hb : KBn X.K fd ps n ks g gV) (hx : Passes CX X E)
    (I : Inv X pins σ H s) (r : Vals vs us) (rz : Vals zs ws) (l1 : vs.length = n) (l2 : zs.length = ks.length) (h : sp (gV vs zs) H Q E) : wpAny (model X.prog X.w) X.A (call (.ref f) us (ks.zip ws)) (EP X pins σ Q) X.xe s := by
  have both := hb.rel r rz
  refine wpAny_call (codeAny_mono (F.run X.A X.stack s H ⟨us, ks.zip ws⟩ (g us ws) (gV vs zs) Q E hr hg I.env0 (hb.to s us ws I.kIn (r.length.symm.trans l1) (rz.length.symm.trans l2)) both h) fun r s' hq => ?_)
  cases r with
  | error er => exact hx _ _ _ _ er s' I hq
  | ok fl =>
    cases fl with
    | ret u => exact I.after hq
    | _ => exact False.elim hq
/-- f(e, ..) -/
theorem pe_gx (F : FnGX X.prog X.w X.K X.mg X.base CX k f fd ps sp) (hr : Room k X.A) (hgu : X.A.guards = some []) (hg : Gl X x) (hm : X.mg x = some (.ref f)) (hk : PySem.W.keepIn X.K (.ref f) = true) (hb : Binds X.K fd ps ds) (hd : Vals dvs ds) (hx : Passes CX X E)
    (ha : PA X (e :: es) t) (hdb : (x == ("__debug__" : Str)) = false := by decide) (he : starEach (e :: es) X.env = (false, eval e X.env) :: starEach es X.env := by rfl) (hpl : (backTo pos (starEach es X.env)).any (·.1) = false := by rfl) :
    PE X (.Call (.Name x p) (e :: es) [] pos) (tCall sp dvs E t) := by
  refine ⟨fun pins s σ H Q I h => wpAny_Call_Name_kw (ld_glob I hg hm (PySem.W.callWith_K (h₀ := X.base) I.ok.mod.kin hk (thn (ha.run pos pins s σ H _ I h) fun us s1 z => ?_) he hpl) hdb)⟩
  obtain ⟨vs, H1, I1, r, q⟩ := z
  exact ⟨I1.kIn, run_gx F hr hgu hb hd hx I1 r q⟩
/-- o.m(e, ..), the method such a def -/
theorem pe_methX {pl : Sem Bool} (he : PE X o ta) (c : Cls X.K C) (hm : Meth X.K C m f) (F : FnGX X.prog X.w X.K X.mg X.base CX k f fd ps sp) (hr : Room k X.A) (hgu : X.A.guards = some []) (hb : Binds X.K fd ps ds) (hd : Vals dvs ds) (hx : Passes CX X E) (ha : PA X (e :: es) t)
    (hst : starEach (e :: es) X.env = (false, eval e X.env) :: starEach es X.env := by rfl) (hpl : (backTo pos (starEach es X.env)).any (·.1) = false := by rfl)
    (ht : eval (.Call (.Attribute o m apos) (e :: es) [] pos) X.env = (do
      let ov ← eval o X.env; standAt apos.atName; let (f, first) ← holding [ov] (getMethod ov m pl)
      callWith pos f first (backTo pos (starEach (e :: es) X.env)) (backToKw pos (keywordEach [] X.env))) := by rfl) :
    PE X (.Call (.Attribute o m apos) (e :: es) [] pos) (tMeth C m sp dvs E ta t) := by
  refine ⟨fun pins s σ H Q I h => PySem.W.methodCall_KW (pl := pl) (thn (he.run pins s σ H _ I h) fun u s1 z => ?_) ht⟩
  obtain ⟨v, H1, I1, rv, a, dx, fs, ev, ea, l, q⟩ := z
  subst ev
  cases (show u = Value.ref a from rv)
  refine getmeth_ok I1 ea c hm l (PySem.W.callWith_K (first := [.ref a]) (h₀ := X.base) I.ok.mod.kin hm.kp (thn (ha.run pos pins s1 σ H1 _ I1 q) fun us s2 z2 => ?_) hst hpl)
  obtain ⟨vs, H2, I2, r, q2⟩ := z2
  exact ⟨I2.kIn, run_gx (us := .ref a :: us) (vs := .ref a :: vs) F hr hgu hb hd hx I2 (.cons rfl r) q2⟩
/-- o.m(e, .., k = v, ..) -/
def tMethN (C : Addr) (m : Str) (n l : Nat) (sp : Sp) (gV : List V → List V → List V) (E : XK) (ta : TE) (t tk : TA) : TE := fun σ H Q => ta σ H fun x H1 => ∃ a dx fs, x = .ref a ∧ H1 a = some (.ins C dx fs) ∧ fs.lookup m = none ∧
  t σ H1 fun vs H2 => tk σ H2 fun zs H3 => vs.length = n ∧ zs.length = l ∧ sp (gV (x :: vs) zs) H3 Q E
theorem pe_methXN {pl : Sem Bool} (he : PE X o ta) (c : Cls X.K C) (hm : Meth X.K C m f) (F : FnGX X.prog X.w X.K X.mg X.base CX k f fd ps sp) (hr : Room k X.A) (hgu : X.A.guards = some []) (hb : KBn X.K fd ps (n + 1) ks g gV) (hx : Passes CX X E) (ha : PA X (e :: es) t) (hkw : PK X kws tk)
    (hall : (backToKw pos (keywordEach kws X.env)).all (·.1.isSome) = true := by rfl) (hks : (backToKw pos (keywordEach kws X.env)).filterMap (·.1) = ks := by rfl)
    (hst : starEach (e :: es) X.env = (false, eval e X.env) :: starEach es X.env := by rfl) (hpl : ((backTo pos (starEach (e :: es) X.env)).any (·.1) || (backToKw pos (keywordEach kws X.env)).any (·.1.isNone)) = false := by rfl)
    (ht : eval (.Call (.Attribute o m apos) (e :: es) kws pos) X.env = (do
      let ov ← eval o X.env; standAt apos.atName; let (f, first) ← holding [ov] (getMethod ov m pl)
      callWith pos f first (backTo pos (starEach (e :: es) X.env)) (backToKw pos (keywordEach kws X.env))) := by rfl) :
    PE X (.Call (.Attribute o m apos) (e :: es) kws pos) (tMethN C m n ks.length sp gV E ta t tk) := by
  refine ⟨fun pins s σ H Q I h => PySem.W.methodCall_KW (pl := pl) (thn (he.run pins s σ H _ I h) fun u s1 z => ?_) ht⟩
  obtain ⟨v, H1, I1, rv, a, dx, fs, ev, ea, l, q⟩ := z
  subst ev
  cases (show u = Value.ref a from rv)
  refine getmeth_ok I1 ea c hm l (PySem.W.callWith_KW (first := [.ref a]) (h₀ := X.base) I.ok.mod.kin hm.kp hall (thn (ha.run pos pins s1 σ H1 _ I1 q) fun us s2 z2 => ?_) hpl hst)
  obtain ⟨vs, H2, I2, r, q2⟩ := z2
  refine thn (hkw.run pos pins s2 σ H2 _ I2 q2) fun ws s3 z3 => ?_
  obtain ⟨zs, H3, I3, rz, l1, l2, q3⟩ := z3
  refine ⟨I3.kIn, ?_⟩
  rw [hks]
  exact run_gxN (us := .ref a :: us) (vs := .ref a :: vs) F hr hgu hb hx I3 (.cons rfl r) rz (by rw [List.length_cons, l1]) l2 q3
end
end DW
namespace DW
open PySem PySem.Spec PyProof.Rows L2 LamX
/-! ### a lambda handed to a def, where no repr is under way -/
section
variable {X : Cx} {pins : List (Addr × Obj)} {σ : L2.St} {H : Hp} {s : Shared}
/-- x() in the def that got the lambda; the lambda's body is told that no repr is under way -/
theorem pe_actG {CXg : CXT} {Eg : XK} {Ng : List Str} {qg : Str} {sg : Scope} {g f c' : Addr} {cdg pm ctv : Value} {params : Arguments} {body : Expr} {scope : Scope} {k i : Nat} {a : Str} {pn : List (Addr × Obj)} {xe : Value → Shared → Prop} {W : WX} {E : XK} {tb : TE} {p1 p2 : Pos}
    (I : Inv X pins σ H s) (L : LamS X.env.scope scope) (isF : s.heap.get? f = some (PySem.W.kla_obj "<lambda>" (X.env.qual ++ "<lambda>") params body scope (cloFrom X.env.cells scope.names []) pm c' ctv)) (nF : H f = none) (offF : f ∉ frs X.stack)
    (noPar : bindArgs (PySem.W.kla_fn "<lambda>" (X.env.qual ++ "<lambda>") params body scope (cloFrom X.env.cells scope.names []) pm (.ref c') ctv) ⟨[], []⟩ = pure []) (hgu : X.A.guards = some [])
    (tk : Takes ((cxOf CXg X.prog X.w X.K X.mg X.base Ng qg sg g cdg X.A X.stack s H Eg).tr pn xe) W) (hW : ∀ cls d σ' H', E cls d H' → W cls d σ' H') (hr : Room (k + 1) (X.A.deeper (envOfC qg sg s.heap.objs.size g cdg)))
    (inner : ∀ (A : Around) (outer : List Env) (s : Shared) (H : Hp), Room k (A.deeper (lamEnv X scope s.heap.objs.size f c')) → A.guards = some [] → PE (lamCx X A outer s H E scope f c') body tb)
    (hN : Ng[i]? = some a) (hv : Vis sg a) (hd : (a == ("__debug__" : Str)) = false := by decide) (hcd : (a == ("__classdict__" : Str)) = false := by decide) :
    PE ((cxOf CXg X.prog X.w X.K X.mg X.base Ng qg sg g cdg X.A X.stack s H Eg).tr pn xe) (.Call (.Name a p1) [] [] p2) (fun σZ HZ Q => σZ[i]? = some (some (.ref f)) ∧ HZ c' = some (CodeO c' (X.env.qual ++ "<lambda>")) ∧ tb σ HZ Q) := by
  refine ⟨fun pinsZ sZ σZ HZ Q IZ h => ?_⟩
  obtain ⟨atI, atC, ht⟩ := h
  refine wpAny_Call_Name_kw (thn ((pe_var (pos := p1) (i := i) hN hv hd hcd).run pinsZ sZ σZ HZ (fun v H1 => v = .ref f ∧ H1 = HZ) IZ ⟨.ref f, atI, rfl, rfl⟩) fun u s1 z => ?_)
  obtain ⟨v, H1, I1, r1, rfl, rfl⟩ := z
  cases (show u = Value.ref f from r1)
  have stillF := I1.base.keep f _ isF nF offF (fun z => nomatch (show f ∈ ([] : List Addr) from z))
  refine PySem.W.callWith_F0 ⟨_, _, _, _, stillF⟩ ?_
  have same : Un (frs X.stack) [] H H1 s.heap s1.heap := I1.base
  obtain ⟨⟨oc, vs, t, c1, c2, c3⟩, _, _⟩ := I1.hok c' _ atC
  have runs : codeAny (model X.prog X.w) (X.A.deeper (envOfC qg sg s.heap.objs.size g cdg)) (.call (.ref f) ⟨[], []⟩) (CR (L2.CX X.prog X.w) (envOfC qg sg s.heap.objs.size g cdg :: X.stack) X.prog X.w H1 s1 Q E) s1 := by
    refine PySem.W.kla_callFunE hr.depth stillF rfl L.co L.gen rfl ⟨c', oc, vs, t, rfl, c1, c2, c3⟩ (by
      rw [noPar]
      refine wpAny_pure (wpAny_newFunctionEnv (fun y hy => (L.own y hy).2) (fun y hy => absurd hy (by simp)) (fun h₁ hns hsb => ⟨I1.nolimit.fresh _ hsb, ?_⟩) L.kind)
      have old : ∀ b o, s1.heap.get? b = some o → h₁.get? b = some o := fun b o e => hsb.extBut b o (Nat.ne_of_lt (Heap.lt_size e)) (Heap.get?_push_of_some _ e)
      have J := lam_start2 (E := E) (f := f) (c' := c') (tk := s1.toks + ([] : List (Str × Value)).length) I L I1.env0 hr.hd same hns old
      refine (show codeAny _ _ (.expr body (lamEnv X scope s1.heap.objs.size f c')) _ _ from PySem.W.kla_codeExpr (wpAny_mono ((inner _ _ s1 H1 (hr.deeper _) hgu).run [] _ _ H1 Q J ht) (fun v s' hq => ?_) fun e s' hq => hq))
      obtain ⟨w', H', J', rv, q⟩ := hq
      exact ⟨w', H', J'.os, J'.bare, J'.base, J'.hok, rv, q⟩)
  have up : Passes (L2.CX X.prog X.w) ((cxOf CXg X.prog X.w X.K X.mg X.base Ng qg sg g cdg X.A X.stack s H Eg).tr pn xe) E := passes_call tk hW
  refine wpAny_call (codeAny_mono runs fun r s' hq => ?_)
  cases r with
  | error er => exact up pinsZ σZ H1 s1 er s' I1 hq
  | ok fl =>
    cases fl with
    | ret u => exact I1.after hq
    | _ => exact False.elim hq
/-- x(lambda: body), where no repr is under way -/
theorem pe_lamcallG {T : List (Addr × Str)} {TT : (XK → Hp → VK → Prop) → Hp → VK → Prop} {x a : Str} {g c P : Addr} {k : Nat} {pg : Arguments} {bg : List Stmt} {sg : Scope} {dV kV doc pm cdv ct oc : Value} {an od : Option Addr} {osl : Array (Option Value)} {Ng : List Str}
    {params : Arguments} {body : Expr} {scope : Scope} {t : XK → TE} {p lpos pos : Pos} (hg : Gl X x) (hm : X.mg x = some (.ref g)) (hk : PySem.W.keepIn X.K (.ref g) = true) (hgu : X.A.guards = some [])
    (lk : X.K.lookup g = some ⟨oc, od, .func (PySem.W.fnOf x x pg bg sg dV kV doc pm an cdv ct), osl⟩) (hcg : PySem.W.codeIn X.K cdv x = true) (hb : L2.Binds X.K (PySem.W.fnOf x x pg bg sg dV kV doc pm an cdv ct) [a] []) (Sg : FnScope Ng [a] sg) (hNg : Ng[0]? = some a) (hva : Vis sg a)
    (hG : GivesTo X Ng x sg g cdv bg a (X.env.qual ++ "<lambda>") TT) (TB : TabB X.base X.mg c P) (hcode : X.env.code = .ref c) (hmT : (P, X.env.qual ++ "<lambda>") ∈ T) (hu : ∀ p ∈ T, p.1 = P → p.2 = X.env.qual ++ "<lambda>") (hr : Room (k + 2) X.A) (L : LamS X.env.scope scope) (hdef : defaultsOf params X.env = ([], []))
    (noPar : ∀ (q : Str) (cl : List (Str × Addr)) (pm cv ctv : Value), bindArgs (PySem.W.kla_fn "<lambda>" q params body scope cl pm cv ctv) ⟨[], []⟩ = pure [])
    (inner : ∀ (A : Around) (outer : List Env) (s : Shared) (H : Hp) (E : XK) (f c' : Addr), Room k (A.deeper (lamEnv X scope s.heap.objs.size f c')) → A.guards = some [] → PE (lamCx X A outer s H E scope f c') body (t E))
    (hdb : (x == ("__debug__" : Str)) = false := by decide) (hd : (a == ("__debug__" : Str)) = false := by decide) (hcd : (a == ("__classdict__" : Str)) = false := by decide) :
    PE X (.Call (.Name x p) [.Lambda params body scope lpos] [] pos) (tLam T TT t) := by
  refine ⟨fun pins s σ H Q I h => ?_⟩
  obtain ⟨tabs, h⟩ := h
  refine wpAny_Call_Name_kw (ld_glob I hg hm (PySem.W.callWith_K (h₀ := X.base) I.ok.mod.kin hk ?_ (by rfl) (by rfl)) hdb)
  refine (show wpAny _ _ (spliced ((false, eval (.Lambda params body scope lpos) X.env) :: backTo pos (starEach [] X.env))) _ _ s from Calls.spliced_cons (lam_make2 I TB hcode hmT hu tabs hdef (L.has I.ok) fun f c' pm' ctv H1 s' I1 eN T1 hf hfn hfr hco => ?_))
  refine Calls.spliced_nil ⟨I1.kIn, ?_⟩
  have runs : codeAny (model X.prog X.w) X.A (.call (.ref g) ⟨[.ref f], []⟩) (CR C8.CX0 X.stack X.prog X.w H1 s' Q C8.E0) s' := by
    refine run_ofS (N := Ng) (ps := [a]) (us := [.ref f]) (vs := [.ref f]) lk hcg Sg hr I1.env0 (hb s' [.ref f] I1.kIn rfl) (.cons rfl .nil) rfl fun hr' => ?_
    obtain ⟨t', ht', hq'⟩ := hG f c' s' H1 Q (fun E H' Q' => t E σ H' Q') (fun W pn xe E p1 p2 tk hW => pe_actG (i := 0) I1 L hf hfn hfr (noPar _ _ _ _ _) hgu tk hW hr' (fun A outer s H hr2 hg2 => inner A outer s H E f c' hr2 hg2) hNg hva hd hcd) hco (h H1 eN T1)
    exact ⟨t', ht'.nox, hq'⟩
  refine wpAny_call (codeAny_mono runs fun r s2 hq => ?_)
  cases r with
  | error er => exact (show False from hq).elim
  | ok fl =>
    cases fl with
    | ret u => exact I1.after hq
    | _ => exact False.elim hq
end
end DW
namespace DW
open PySem PySem.Spec PyProof.Rows L2
/-! ### dicts whose keys are tuples: written out, and made by a comprehension -/
section
variable {X : Cx} {pins : List (Addr × Obj)} {σ : L2.St} {H : Hp} {s : Shared}
/-- the store of a pair, as displays and comprehensions do it -/
theorem dt_dictSet {E : Value → Shared → Prop} {D b : Addr} {kvs : List (List Key × V)} {k : List Key} {v : V} {r : Value} {Q : Unit → Shared → Prop} (hu : X.A.units + 1 < cLine) (I : Inv X pins σ H s) (hD : H D = some (.dT kvs)) (hb : H b = some (.tup (k.map kV))) (hz : kvs.length < sizeLine)
    (rv : RelV v r) (h : ∀ s', Inv X pins σ (upd H D (.dT (putK kvs k v))) s' → Q () s') : wpAny (model X.prog X.w) X.A (dictSet D (.ref b) r) Q E s := by
  obtain ⟨z, notSys, xs, rel, held⟩ := dt_of I.hok hD
  have many : xs.length ≤ sizeLine := by rw [← Paired.length rel]; exact z
  have more : (putK kvs k v).length ≤ sizeLine := by have := length_putK kvs k v; omega
  refine wpAny_dictSet_heap (hsz := many) (show X.A.units < cLine by omega) (key_of I.hok hb) held fun h' now same => h _ ?_
  obtain ⟨q, es, ep, hq, h2, h3, h4, _, h5⟩ := now
  refine d_write I (by rw [hD]; exact True.intro) same ⟨q, hq⟩ ⟨more, notSys, _, (rel.put k hb rv).keeps fun c ys ec => ?_, q, es, ep, hq, h2, h3, h4, h5⟩
  rw [upd_ne (ne_of ec hD (fun z => nomatch z))]
  exact ec
end
def mergeT (kvs more : List (List Key × V)) : List (List Key × V) := more.foldl (fun acc kv => putK acc kv.1 kv.2) kvs
theorem mergeT_le : ∀ (more kvs : List (List Key × V)), (mergeT kvs more).length ≤ kvs.length + more.length
  | [], kvs => Nat.le_refl _
  | p :: r, kvs => by
    have h1 := mergeT_le r (putK kvs p.1 p.2)
    have h2 := length_putK kvs p.1 p.2
    show (mergeT (putK kvs p.1 p.2) r).length ≤ kvs.length + (r.length + 1)
    omega
/-- the pairs of a display: each key a tracked tuple -/
abbrev KeyRows (H : Hp) : List (V × V) → List (List Key × V) → Prop := Paired fun p q => p.2 = q.2 ∧ ∃ b, p.1 = .ref b ∧ H b = some (.tup (q.1.map kV))
section
variable {X : Cx} {pins : List (Addr × Obj)} {σ : L2.St} {H : Hp} {s : Shared}
theorem carriesT (I : Inv X pins σ H s) : ∀ {ps : List (V × V)} {kvs : List (List Key × V)} {ws : List (Value × Value)}, KeyRows H ps kvs → VV ps ws → ∃ xs, CarriesH (tupleKind (mixKind X.prog X.w)) s.heap ws xs ∧ KT H kvs xs
  | _, _, _, .nil, r => by
    cases r
    exact ⟨[], True.intro, .nil⟩
  | _, _, _, .cons h t, r => by
    cases r with
    | cons r1 r2 =>
      obtain ⟨xs, c, q⟩ := carriesT I t r2
      obtain ⟨e, b, eb, hb⟩ := h
      obtain ⟨ra, rb⟩ := r1
      rw [eb] at ra
      exact ⟨(_, b, _) :: xs, ⟨ra, rfl, key_of I.hok hb, c⟩, .cons ⟨rfl, hb, by rw [← e]; exact rb⟩ q⟩
theorem kt_merge {H : Hp} : ∀ {more : List (List Key × V)} {xs : List (List Key × Addr × Value)} {kvs : List (List Key × V)} {ys : List (List Key × Addr × Value)}, KT H more xs → KT H kvs ys → KT H (mergeT kvs more) (storedAllH ys xs)
  | _, _, _, _, .nil, q => q
  | p :: ps, x :: xs, kvs, ys, .cons h t, q => by
    obtain ⟨e, hb, rv⟩ := h
    have z := q.put p.1 hb rv
    have w := kt_merge t z
    have e2 : storedH ys p.1 x.2.1 x.2.2 = storedH ys x.1 x.2.1 x.2.2 := by rw [e]
    rw [e2] at w
    exact w
end
/-- {(..): v, ..}; the new dict stands empty while the pairs are made -/
def tDispT (trs : List (TE × TE)) : TE := fun σ H Q => ∀ p, H p = none → tPairs trs σ (upd H p (.dT [])) fun ps H2 => H2 p = some (.dT []) ∧ ∃ kvs : List (List Key × V), KeyRows H2 ps kvs ∧ kvs.length ≤ 15 ∧ Q (.ref p) (upd H2 p (.dT (mergeT [] kvs)))
theorem pe_dispT {X : Cx} {pos : Pos} {keys : List (Option Expr)} {values : List Expr} {trs : List (TE × TE)} (hu : X.A.units + 1 < cLine) (h : PPs X pos keys values trs) (hall : keys.all (·.isSome) = true) (hl : keys.length = values.length) (h0 : keys ≠ [])
    (few : keys.length ≤ 15) : PE X (.Dict keys values pos) (tDispT trs) := by
  refine ⟨fun pins s σ H Q I q => ?_⟩
  have free := I.hok.fresh (Nat.le_refl s.heap.objs.size)
  have I1 := I.laid (a := s.heap.objs.size) (o := .dT []) (h' := s.heap.push { cls := .type "dict", data := .dict #[] }) (t' := s.toks) (fun _ _ z => Heap.get?_push_of_some _ z) (Nat.le_refl _) (dt_empty s.heap I.big)
  have many := pairTrees_length keys values X.env pos hall hl
  have some' : pairTrees keys values X.env pos ≠ [] := fun e => h0 (List.length_eq_zero_iff.mp (by rw [← many, e]; rfl))
  have few' : (pairTrees keys values X.env pos).length ≤ 15 := by rw [many]; exact few
  rw [arm_eval_Dict, zip_pairTrees keys values X.env pos hall hl, dictDisplay_pairs _ some' (by omega)]
  refine wpAny_bind (wpAny_standAt (wpAny_bind (wpAny_subDictH (knd := tupleKind (mixKind X.prog X.w)) (show X.A.units < cLine by omega) few' (thn (h.run pins _ σ _ _ I1 (q _ free)) fun ws s2 z => ?_))))
  obtain ⟨ps, H2, I2, rel, e, kvs, rows, len, q2⟩ := z
  obtain ⟨xs, c, rk⟩ := carriesT I2 rows rel
  obtain ⟨z, notSys, ys, r0, held⟩ := dt_of I2.hok e
  cases r0
  refine ⟨xs, c, held, fun h' tk now same => wpAny_pure ⟨.ref s.heap.objs.size, _, ?_, rfl, q2⟩⟩
  obtain ⟨o, es, ep, ho, h2, h3, h4, _, h5⟩ := now
  refine d_write I2 (by rw [e]; exact True.intro) same ⟨o, ho⟩ ⟨?_, notSys, _, (kt_merge rk .nil).keeps fun c ys ec => ?_, o, es, ep, ho, h2, h3, h4, h5⟩
  · have := mergeT_le kvs []
    rw [List.length_nil] at this
    rw [sizeLine_eq]
    omega
  · rw [upd_ne (ne_of ec e (fun z => nomatch z))]
    exact ec
end DW
namespace DW
open PySem PySem.Spec PyProof.Rows L2
section
variable {X : Cx}
/-- {k: v for target in iter if ..}, the keys tuples: D the new dict -/
def tDcT (wi : TI) (g : TG) (tt : TT) (tk tv : TE) (vs : List Nat) : TE := fun σ H Q => wi σ H fun J H1 => ∀ D, H1 D = none → ∃ W : Nat → Nat → Hp → Prop, (∃ m, W 0 m (upd H1 D (.dT []))) ∧ ∀ i m H, W i m H →
  (J.stop i H ∧ Q (.ref D) H) ∨ (J.go i H ∧ ∃ Nx : Hp → Prop, (∀ H', Nx H' → ∃ m', m' < m ∧ W (i + 1) m' H') ∧ ∀ x H', J.yld i H x H' → g x (wipe σ vs) H' fun σ2 H2 => wipe σ2 vs = wipe σ vs ∧ tt σ2 H2 fun b H3 =>
    if b = true then tk σ2 H3 fun y H4 => tv σ2 H4 fun z H5 => ∃ kvs k c, y = .ref c ∧ H5 c = some (.tup (k.map kV)) ∧ H5 D = some (.dT kvs) ∧ kvs.length < sizeLine ∧ Nx (upd H5 D (.dT (putK kvs k z))) else Nx H3)
theorem pe_dcT {kx vx tg iter : Expr} {ifs : List Expr} {scope : Scope} {own : List (Str × Nat)} {pos : Pos} {wi : TI} {g : TG} {tt : TT} {tk tv : TE} (hu : X.A.units + 1 < cLine) (hc : X.calm = true) (hN : X.N.Nodup) (hi : PI X tg iter wi) (ok : BlkOk X.N X.env.scope scope own)
    (hg : ∀ (s : Shared) (H : Hp) (C : Addr) (cl : List (Str × Addr)) (fp : List Addr), PG (X.blk s H scope (compEnvC scope cl C X.env) fp) tg g) (ht : ∀ (s : Shared) (H : Hp) (C : Addr) (cl : List (Str × Addr)) (fp : List Addr), PTs (X.blk s H scope (compEnvC scope cl C X.env) fp) ifs tt)
    (hk : ∀ (s : Shared) (H : Hp) (C : Addr) (cl : List (Str × Addr)) (fp : List Addr), PE (X.blk s H scope (compEnvC scope cl C X.env) fp) kx tk) (he : ∀ (s : Shared) (H : Hp) (C : Addr) (cl : List (Str × Addr)) (fp : List Addr), PE (X.blk s H scope (compEnvC scope cl C X.env) fp) vx tv)
    (plain : ∀ x, foldedSetIterable iter X.env x = pure x := by intro _; rfl) : PE X (.DictComp kx vx [⟨tg, iter, ifs, 0⟩] scope pos) (tDcT wi g tt tk tv (own.map (·.2))) := by
  refine ⟨fun pins s σ H Q I h => ?_⟩
  rw [arm_eval_DictComp]
  have frees : ∀ y ∈ scope.names, y.2 = .free → ∃ c, X.env.cells.lookup y.1 = some c := fun y hy e => by
    rcases ok.free y hy e with k | k
    · exact I.ok.has _ (.inl k)
    · exact I.ok.has _ (.inr k)
  refine wpAny_comprehension_free (use := none) rfl plain (closure_ok frees) ok.kind (fun y hy e => by rw [ok.uniq y hy, e]) (thn (hi.run pins s σ H _ I h) fun src sa first => thn first fun itv sb z => ?_)
  obtain ⟨it, fp, tn, J, Hb, rfl, Ib, Tn, at0, apart, want⟩ := z
  refine wpAny_newObj_type (newEnv_comp ?_)
  -- D: the new dict's address
  obtain ⟨D, eD⟩ : ∃ D, sb.heap.objs.size = D := ⟨_, rfl⟩
  rw [eD]
  have freeD : Hb D = none := Ib.hok.fresh (Nat.le_of_eq eD)
  obtain ⟨W, ⟨m0, w0⟩, turn⟩ := want D freeD
  obtain ⟨sc, esc⟩ : ∃ sc : Shared, ({ sb with heap := sb.heap.push { cls := .type "dict", data := .dict #[] } } : Shared) = sc := ⟨_, rfl⟩
  have Ic : Inv X pins σ (upd Hb D (.dT [])) sc := by
    rw [← esc]
    refine Ib.laid (t' := sb.toks) (fun b o e => Heap.get?_push_of_some _ e) (Nat.le_of_eq eD) ?_
    rw [← eD]
    exact dt_empty sb.heap Ib.big
  have esh : sc.heap = sb.heap.push { cls := .type "dict", data := .dict #[] } := by rw [← esc]
  have low : ∀ b ∈ fp, b < sb.heap.objs.size := fun b hb => by
    obtain ⟨o, e, _⟩ := Tn.obj _ _ at0 b hb
    exact Heap.lt_size e
  have apartC : ∀ b ∈ fp, FpOk X pins (upd Hb D (.dT [])) b ∧ b < sc.heap.objs.size := fun b hb => by
    have lt := low b hb
    refine ⟨⟨?_, (apart b hb).2⟩, by rw [esh, Heap.size_push]; exact Nat.lt_succ_of_lt lt⟩
    rw [upd_ne (by rw [← eD]; exact Nat.ne_of_lt lt)]
    exact (apart b hb).1
  have atC : tn 0 sc.heap := Tn.keep _ _ _ at0 fun b _ o e => by rw [esh]; exact Heap.get?_push_of_some _ e
  have Id := block_start Ic ok hN apartC
  have pg := hg sc (upd Hb D (.dT [])) sc.heap.objs.size (cellsFrom (sc.heap.objs.size + 1) scope.names (cloFrom X.env.cells scope.names [])) fp
  have pt := ht sc (upd Hb D (.dT [])) sc.heap.objs.size (cellsFrom (sc.heap.objs.size + 1) scope.names (cloFrom X.env.cells scope.names [])) fp
  have pk := hk sc (upd Hb D (.dT [])) sc.heap.objs.size (cellsFrom (sc.heap.objs.size + 1) scope.names (cloFrom X.env.cells scope.names [])) fp
  have pw := he sc (upd Hb D (.dT [])) sc.heap.objs.size (cellsFrom (sc.heap.objs.size + 1) scope.names (cloFrom X.env.cells scope.names [])) fp
  rw [show ({ sb with heap := sb.heap.push { cls := .type "dict", data := .dict #[] } } : Shared) = sc from esc]
  have nofp : ∀ b ∈ fp, (upd Hb D (.dT [])) b = none := fun b hb => (apartC b hb).1.1
  show codeAny _ _ (.compStart (.DictComp kx vx [⟨tg, iter, ifs, 0⟩] scope pos) 0 (.ref it) (.ref D) (compEnvC scope (cellsFrom (sc.heap.objs.size + 1) scope.names (cloFrom X.env.cells scope.names [])) sc.heap.objs.size X.env)) (compPost (model X.prog X.w) X.A X.xe none _ (.ref D) sc.heap.objs.size) { sc with heap := pushCells (sc.heap.push { cls := .type "dict", data := .dict #[] }) scope.names }
  generalize ece : compEnvC scope (cellsFrom (sc.heap.objs.size + 1) scope.names (cloFrom X.env.cells scope.names [])) sc.heap.objs.size X.env = ce at Id pg pt pk pw ⊢
  have locs : ce.locals = sc.heap.objs.size := by subst ece; rfl
  generalize eHc : upd Hb D (.dT []) = Hc at Ic Id pg pt pk pw w0 nofp apartC
  obtain ⟨sd, esd⟩ : ∃ sd : Shared, ({ sc with heap := pushCells (sc.heap.push { cls := .type "dict", data := .dict #[] }) scope.names } : Shared) = sd := ⟨_, rfl⟩
  rw [esd] at Id ⊢
  have atD : tn 0 sd.heap := Tn.keep _ _ _ atC fun b _ o e => by rw [← esd]; exact pushCells_keeps _ _ _ _ (Heap.get?_push_of_some _ e)
  have still : ∀ {σ' : L2.St} {H' : Hp} {s' : Shared}, Inv (X.blk sc Hc scope ce fp) [] σ' H' s' → (∀ b ∈ fp, H' b = none) → ∀ b ∈ fp, FpOk (X.blk sc Hc scope ce fp) [] H' b := fun {σ' H' s'} J' n b hb =>
    ⟨n b hb, (J'.ok.exf b hb).1, J'.ok.exfs b hb, .inl hb, fun x c e => (J'.ok.exf b hb).2 x c e, fun p hp => absurd (show p ∈ ([] : List (Addr × Obj)) ++ [] from hp) (by simp)⟩
  have loop : codeAny (model X.prog X.w) X.A (.compLoop (.DictComp kx vx [⟨tg, iter, ifs, 0⟩] scope pos) 0 (.ref it) (.ref D) ce) (compPost (model X.prog X.w) X.A X.xe none (EP X pins σ Q) (.ref D) sc.heap.objs.size) sd := by
    refine compLoop_anyD (fun n s' => ∃ i H', Inv (X.blk sc Hc scope ce fp) [] (wipe σ (own.map (·.2))) H' s' ∧ tn i s'.heap ∧ (∀ b ∈ fp, H' b = none) ∧ W i n H') ?_ m0 ⟨0, Hc, Id, atD, nofp, w0⟩
    rintro n se ⟨i, He, Ie, atE, nE, wE⟩
    rcases turn i n He wE with ⟨stop, fin⟩ | ⟨go, Nx, less, step⟩
    · refine thnF (Tn.done (X.blk sc Hc scope ce fp) rfl rfl rfl hc i [] se _ He (fun _ _ => False) Ie (still Ie nE) atE stop) fun r sf z => ?_
      obtain ⟨rfl, If⟩ := z
      have Ig : Inv X pins σ He sf := Ic.call' (ch := fp) If.os If.base If.hok If.bare fun b hb => ⟨(apartC b hb).1.2.2.2.1, (apartC b hb).1.2.1, (apartC b hb).1.2.2.2.2.1, (apartC b hb).1.2.2.2.2.2⟩
      have freeC : He sc.heap.objs.size = none := by
        have z : He ce.locals = none := If.free
        rw [locs] at z
        exact z
      obtain ⟨m, ns, _⟩ := If.loc
      have ns : sf.heap.Ns ce.locals m := ns
      rw [locs] at ns
      obtain ⟨g0, g1, g2, g3, g4, g5⟩ := Ic.fpOk (H' := He) (Nat.le_refl _) freeC
      exact ⟨m, ns, fun h'' same => ⟨.ref D, He, Ig.turned (t' := sf.toks) (fun b o hb e => (same.2 b hb).trans e) g0 g1 g3 g4 g5, rfl, fin⟩⟩
    · refine thnF (Tn.item (X.blk sc Hc scope ce fp) rfl rfl rfl hc i [] se _ He (fun _ _ => False) Ie (still Ie nE) atE go) fun r sf z => ?_
      obtain ⟨u, rfl, next⟩ := z
      refine thnF next fun _ sg z => ?_
      obtain ⟨x, Hg, Ig, rg, yg, atG, nG⟩ := z
      have Ih := Ig.pinned (still Ig nG) (Tn.obj _ _ atG)
      refine thnF (pg.run _ sg _ Hg x u _ Ih rg (step x Hg yg)) fun _ si z => ?_
      obtain ⟨σi, Hi, Ii, wi', qi⟩ := z
      refine thnF (pt.run _ si σi Hi _ Ii qi) fun b sj z => ?_
      obtain ⟨Hj, Ij, qj⟩ := z
      have fin : ∀ {s' : Shared} {H' : Hp}, Inv (X.blk sc Hc scope ce fp) ([] ++ pinsAt fp sg.heap) σi H' s' → Nx H' → ∃ m, m < n ∧ ∃ i H', Inv (X.blk sc Hc scope ce fp) [] (wipe σ (own.map (·.2))) H' s' ∧ tn i s'.heap ∧ (∀ b ∈ fp, H' b = none) ∧ W i m H' := fun {s' H'} J' nx => by
        obtain ⟨m', lt, w'⟩ := less H' nx
        have pinned : ∀ b ∈ fp, ∀ o, sg.heap.get? b = some o → s'.heap.get? b = some o ∧ H' b = none := fun b hb o e =>
          let z := J'.pin (b, o) (List.mem_append_right _ (List.mem_append_right _ (mem_pinsAt hb e)))
          ⟨z.1, z.2.1⟩
        have len : (wipe σ (own.map (·.2))).length = σi.length := by rw [← wi', wipe_length]
        refine ⟨m', lt, i + 1, H', (J'.unpinned (pins := [])).weak len (fun j v e => ?_), Tn.keep _ _ _ atG fun b hb o e => (pinned b hb o e).1, fun b hb => ?_, w'⟩
        · rw [← wi'] at e
          exact (wipe_some e).1
        · obtain ⟨o, e, _⟩ := Tn.obj _ _ atG b hb
          exact (pinned b hb o e).2
      cases b with
      | false => exact fin Ij qj
      | true =>
        refine thnF (pk.run _ sj σi Hj _ Ij qj) fun z1 sk z => ?_
        obtain ⟨yk, Hk, Ik, rk, qk⟩ := z
        refine thnF (pw.run _ sk σi Hk _ Ik qk) fun z2 sl z => ?_
        obtain ⟨yv, Hl, Il, rl, kvs, k, c, rfl, atKey, atDict, room, nx⟩ := z
        cases (show z1 = Value.ref c from rk)
        exact dt_dictSet (X := X.blk sc Hc scope ce fp) hu Il atDict atKey room rl fun sm Im => fin Im nx
  exact codeAny_compStart_dict loop (Tn.self X.A 0 _ _ _ atD loop)
end
end DW
namespace DW
open PySem PySem.Spec PyProof.Rows L2
/-! ### set(texts), with as many texts as one likes below the scan's bound -/
/-- how many of the first i texts are new -/
def newN (xs : List Str) : Nat → Nat
  | 0 => 0
  | i + 1 => if (xs.take i).any (· == xs.getD i Str.empty) = true then newN xs i else newN xs i + 1
theorem newN_le (xs : List Str) : ∀ i, newN xs i ≤ i
  | 0 => Nat.le_refl 0
  | i + 1 => by
    have z := newN_le xs i
    unfold newN
    split <;> omega
abbrev inN (xs : List Str) (i : Nat) : Str → Bool := fun y => (xs.take i).any (· == y)
theorem inN_step {xs : List Str} {i : Nat} (h : i < xs.length) (y : Str) : (inN xs i y || decide (y = xs.getD i Str.empty)) = inN xs (i + 1) y := by
  have e : xs[i]? = some (xs.getD i Str.empty) := by rw [List.getD_eq_getElem?_getD, List.getElem?_eq_getElem h]; rfl
  unfold inN
  rw [takeSucc e, List.any_append, List.any_cons, List.any_nil, Bool.or_false]
  congr 1
  rw [Bool.eq_iff_iff, decide_eq_true_iff, beq_iff_eq]
  exact ⟨fun z => z.symm, fun z => z.symm⟩
section
variable {prog : Program} {w : World} {A : Around} {R : Result → Shared → Prop} {I : Addr} {fp wr : List Addr} {G : Array GenState → Array GenState → Prop} {n : Nat} {Pv : Nat → Value → Prop} {St : Nat → Shared → Prop}
theorem setLoop (W : WalksS prog w A.in1 I fp wr G n Pv St) {S : Addr} (out : S ∉ fp) {xs : List Str} (len : xs.length = n) (small : n + 1 < scanBound) (val : ∀ i v, Pv i v → ∃ t, v = .str (xs.getD i Str.empty) t) :
    ∀ (left i : Nat) (s : Shared), n - i = left → i ≤ n → St i s → s.heap.SetOf (PySem.strKind prog w) S (inN xs i) (newN xs i) →
      (∀ s', Moved (S :: wr) G s s' → s'.heap.SetOf (PySem.strKind prog w) S (inN xs n) (newN xs n) → R (.ok (.ret .none)) s') →
      codeAny (model prog w) A (.builtin "set.update.loop" ⟨[.ref S, .ref I], []⟩) R s := by
  have nw : S ∉ wr := fun z => out (W.sub _ z)
  have up : ∀ b ∈ wr, b ∈ S :: wr := fun b z => List.mem_cons_of_mem _ z
  have kept : ∀ {s s' : Shared} {f : Str → Bool} {m : Nat}, Moved wr G s s' → s.heap.SetOf (PySem.strKind prog w) S f m → s'.heap.SetOf (PySem.strKind prog w) S f m := fun mv ⟨o, es, ep, t, ho, more⟩ => ⟨o, es, ep, t, mv.heap S _ nw ho, more⟩
  intro left
  induction left with
  | zero =>
    intro i s hk hi hst hS fin
    obtain rfl : i = n := by omega
    refine codeAny_builtin PyProof.Rows.F.entry_set_update_loop (by
      rw [Around.under_plainId PyProof.Rows.F.plain_set_update_loop _]
      exact wpAny_bind (W.done s _ _ hst fun s' mv => wpAny_pure (fin s' (mv.mono up) (kept mv hS))))
  | succ left ih =>
    intro i s hk hi hst hS fin
    have lt : i < n := by omega
    refine codeAny_builtin PyProof.Rows.F.entry_set_update_loop (by
      rw [Around.under_plainId PyProof.Rows.F.plain_set_update_loop _]
      refine wpAny_bind (W.item i s _ _ lt hst fun v s1 hv hst1 mv => ?_)
      obtain ⟨t, rfl⟩ := val i v hv
      have hS1 := kept mv hS
      refine (show wpAny _ A.in1 (holding [Value.str (xs.getD i Str.empty) t] (setAdd S (.str (xs.getD i Str.empty) t)) >>= _) _ _ s1 from wpAny_bind (wpAny_holding ?_))
      unfold setAdd
      refine wpAny_holding (wpAny_bind ((PySem.strKind prog w).pyHash (k := xs.getD i Str.empty) (strKind_is _ _ _ _) ?_))
      have room := newN_le xs i
      refine wpAny_setAddHashed_of (knd := PySem.strKind prog w) (s := { s1 with toks := s1.toks + 1 }) (strKind_is _ _ _ _) rfl hS1 (by omega) fun h' but hS2 => ?_
      have hS3 : h'.SetOf (PySem.strKind prog w) S (inN xs (i + 1)) (newN xs (i + 1)) := PyProof.Rows.SetOf_congr hS2 (fun y => inN_step (by omega) y) rfl
      refine wpAny_pure ⟨plainId_quiet PyProof.Rows.F.plain_set_update_loop _, ih (i + 1) _ (by omega) lt (W.frame _ s1 _ _ hst1 (Nat.le_succ _) fun b hb o e => (but.2 b fun z => out (z ▸ hb)).trans e) hS3 fun s2 mv2 hS4 => ?_⟩
      exact fin s2 (Moved.trans W.gtrans ((mv.mono up).then_heap (Nat.le_succ _) fun b o hb e => (but.2 b fun z => hb (z ▸ List.mem_cons_self)).trans e) mv2) hS4)
end
section
variable {prog : Program} {w : World} {A : Around} {E : Value → Shared → Prop} {s : Shared}
abbrev rawSet (led : Bool) : Obj := { cls := .type "set", dict := none, data := .set #[] 0 (.fresh 0 0 led) }
/-- what stands behind the making: the set at a, all older objects as they were -/
def SetMade (prog : Program) (w : World) (h : Heap) (a : Addr) (xs : List Str) (h' : Heap) : Prop :=
  h'.SetOf (PySem.strKind prog w) a (inN xs xs.length) (newN xs xs.length) ∧ ∀ b o, b < h.objs.size → h.get? b = some o → h'.get? b = some o
theorem setFill {l : Addr} {items : Array Value} {xs : List Str} {led : Bool} (hh : A.handled = none) (hl : s.heap.IsList l items) (hi : PyProof.Rows.StrsAre items.toList xs) (small : xs.length + 1 < scanBound) :
    codeAny (model prog w) A (.call (.builtin "set.__init__") ⟨[.ref s.heap.objs.size, .ref l], []⟩)
      (wants (fun r s2 => r = .none ∧ ∃ h' tk, s2 = { s with heap := h', toks := tk } ∧ SetMade prog w s.heap s.heap.objs.size xs h') E) { s with heap := s.heap.push (rawSet led) } := by
  have hS : (s.heap.push (rawSet led)).get? s.heap.objs.size = some (rawSet led) := Heap.get?_push_size _ rfl
  have hT : Shared.TypeIs { s with heap := s.heap.push (rawSet led) } (.ref s.heap.objs.size) "set" := ⟨_, hS, rfl⟩
  refine codeAny_call_builtin PySem.F.called_set.init.plain PySem.F.entry_set_init (check_set_init_1 hT ?_)
  obtain ⟨⟨oc, odict, odata, oslots⟩, hol, hcl, nl, hdl⟩ := hl
  simp only at hcl hdl
  subst hcl hdl
  have hol1 := Heap.get?_push_of_some (rawSet led) hol
  have f1 := PySem.F.sub_list_set
  have f2 := PySem.F.sub_list_frozenset
  have f3 : (Value.type "list" == Value.type "dict") = false := by decide
  have hl1 : (s.heap.push (rawSet led)).IsList l items := ⟨_, hol1, rfl, nl, rfl⟩
  unfold Builtin.«set.__init__» noKeywords Builtin.Frozenset.updateFrom
  generalize hPI : pyIter = PI
  wp_walk
  subst hPI
  have old : l < s.heap.objs.size := Heap.lt_size hol
  have len : xs.length = items.size := (StrsAre.len_eq hi).symm.trans Array.length_toList
  have nI : l ≠ (s.heap.push (rawSet led)).objs.size := fun z => by rw [Heap.size_push] at z; exact Nat.ne_of_lt (Nat.lt_succ_of_lt old) z
  have out : s.heap.objs.size ∉ [(s.heap.push (rawSet led)).objs.size, l] := fun z => by
    rw [Heap.size_push] at z
    simp only [List.mem_cons, List.not_mem_nil, or_false] at z
    rcases z with z | z
    · exact Nat.ne_of_lt (Nat.lt_succ_self _) z
    · exact Nat.ne_of_lt old z.symm
  have vals : ∀ (i : Nat) (v : Value), items[i]? = some v → ∃ t, v = .str (xs.getD i Str.empty) t := fun i v e => SS.strs_at hi i v (Array.getElem?_toList.trans e)
  have get0 : ((s.heap.push (rawSet led)).push { cls := .type "list_iterator", data := .fields #[.ref l, .int 0 0] }).get? s.heap.objs.size = some (rawSet led) := Heap.get?_push_of_some _ hS
  have start : ((s.heap.push (rawSet led)).push { cls := .type "list_iterator", data := .fields #[.ref l, .int 0 0] }).SetOf (PySem.strKind prog w) s.heap.objs.size (inN xs 0) (newN xs 0) :=
    PyProof.Rows.SetOf_congr ((PyProof.Rows.setObjOf_fresh (knd := PySem.strKind prog w) led).setOf get0 (by unfold scanBound; omega)) (fun _ => rfl) rfl
  have W := (Walks.list (prog := prog) (w := w) (A := A.in1.in1) (by simp [hh]) (s.heap.push (rawSet led)).objs.size l nI items).toS
  refine wpAny_pyIter_list hl1 (wpAny_bind (wpAny_runValue (setLoop W out len (by omega) vals (items.size - 0) 0 { s with heap := (s.heap.push (rawSet led)).push { cls := .type "list_iterator", data := .fields #[.ref l, .int 0 0] } } (by omega) (Nat.zero_le _) ⟨⟨_, Heap.get?_push_size _ rfl, rfl, rfl⟩, hl1.push _⟩ start fun s2 mv hS2 => ?_)))
  obtain ⟨h', g', d', tk', os'⟩ := s2
  cases (show g' = s.gens from mv.gens)
  cases (show d' = s.drawn from mv.drawn)
  cases (show os' = s.os from mv.os)
  refine wpAny_pure (wpAny_pure ⟨rfl, h', tk', rfl, by rw [len]; exact hS2, fun b o hb e => ?_⟩)
  refine mv.heap b o (fun z => ?_) (Heap.get?_push_of_some _ (Heap.get?_push_of_some _ e))
  rw [Heap.size_push] at z
  simp only [List.mem_cons, List.not_mem_nil, or_false] at z
  rcases z with z | z
  · exact Nat.ne_of_lt hb z
  · exact Nat.ne_of_lt (Nat.lt_succ_of_lt hb) z
theorem setList {l : Addr} {items : Array Value} {xs : List Str} {Q : Value → Shared → Prop} (hh : A.handled = none) (hl : s.heap.IsList l items) (hi : PyProof.Rows.StrsAre items.toList xs) (small : xs.length + 1 < scanBound)
    (k : ∀ h' tk, SetMade prog w s.heap s.heap.objs.size xs h' → Q (.ref s.heap.objs.size) { s with heap := h', toks := tk }) : wpAny (model prog w) A (call (.type "set") [.ref l]) Q E s := by
  obtain ⟨c, tl, hmro⟩ := PySem.F.called_set.mro
  have g1 := PySem.F.called_set.made
  have g2 := PySem.F.called_set.sub
  have g3 := PySem.F.called_set.notType
  have g4 := PySem.F.called_set.canCreate
  have g5 := PySem.F.typeCall_set_1 (.ref l)
  refine wpAny_call (codeAny_of_tree (show wpAny _ _ (callAny (.type "set") _) _ _ _ from wpAny_pure ⟨Code.quiet_builtin _ (by decide +kernel), codeAny_builtin PySem.F.entry_type_call ?_⟩))
  rw [Around.under_plain (weight_type_call_type "set" [.ref l] []) rfl]
  repeat (any_goals (first | assumption | wp_step))
  refine codeAny_mono (code_set_new_1 (.ref l) (E := E) (Q₁ := fun obj s1 => ∃ led : Bool, obj = .ref s.heap.objs.size ∧ s1 = { s with heap := s.heap.push (rawSet led) }) fun led => ⟨led, rfl, rfl⟩) fun r s1 z => ?_
  match r, z with
  | .ok (.ret _), ⟨led, e1, e2⟩ =>
    subst e1 e2
    have hT : Shared.TypeIs { s with heap := s.heap.push (rawSet led) } (.ref s.heap.objs.size) "set" := ⟨_, Heap.get?_push_size _ rfl, rfl⟩
    have i1 := PySem.F.called_set.init.lookup
    have i2 := PySem.F.called_set.init.bind (.ref s.heap.objs.size)
    repeat (any_goals (first | assumption | wp_step))
    refine codeAny_mono (setFill (E := E) (by simp [hh]) hl hi small) fun r2 s2 z2 => ?_
    match r2, z2 with
    | .ok (.ret _), ⟨e3, h', tk, e4, made⟩ =>
      subst e3 e4
      repeat (any_goals (first | assumption | wp_step))
      exact k h' tk made
    | .error e, z2 => exact z2
  | .error e, z => exact z
end
section
variable {X : Cx}
/-- len(set(e)), e a list of texts -/
def tLenS (K : PySem.W.Frag) (te : TE) : TE := fun σ H Q => te σ H fun x H1 => ∃ (l : Addr) (xs : List Str), x = .ref l ∧ SqL K H1 l (xs.map V.str) ∧ xs.length + 1 < scanBound ∧ Q (.int (newN xs xs.length : Nat)) H1
theorem pe_lenS {e : Expr} {te : TE} {p p2 q pos : Pos} (hc : X.calm = true) (hg : Gl X "len") (hm : X.mg "len" = none) (hg2 : Gl X "set") (hm2 : X.mg "set" = none) (he : PE X e te)
    (na : starEach [e] X.env = (false, eval e X.env) :: starEach [] X.env := by rfl) : PE X (.Call (.Name "len" p) [.Call (.Name "set" p2) [e] [] q] [] pos) (tLenS X.K te) := by
  refine ⟨fun pins s σ H Q I h => ?_⟩
  refine Call_ (ld_blt I hg hm PySem.boot_len (PyProof.Rows.callWith_builtin1 (PyProof.Rows.args_cons ?_ rfl) rfl rfl))
  refine Call_ (ld_blt I hg2 hm2 boot_set (PyProof.Rows.callWith_type1 (PyProof.Rows.args_cons (thn (he.run pins s σ H _ I h) fun v s1 z => PyProof.Rows.args_nil ?_) na) na rfl))
  obtain ⟨x, H1, I1, r1, l, xs, rfl, hq, small, q1⟩ := z
  cases r1
  obtain ⟨its, r, pl, hz⟩ := I1.list hq
  refine setList (I1.ok.hd hc) pl.isList (by simpa using L2.strsAre_of r) small fun h' tk made => PyProof.Rows.args_nil ?_
  obtain ⟨⟨o, es, ep, t, ho, hex, hd, _, _, _, hf, hn⟩, kept⟩ := made
  have I2 : Inv X pins σ H1 { s1 with heap := h', toks := tk } := I1.kept fun b o e => kept b o (Heap.lt_size e) e
  have le := newN_le xs xs.length
  have sb : scanBound < 2 ^ 60 := by unfold scanBound; decide
  exact call_len_set ho hex hd hf (by rw [hn]; omega) ⟨.int (newN xs xs.length : Nat), H1, I2.tok _, ⟨_, by rw [hn]⟩, q1⟩
end
end DW
namespace DW
open PySem PySem.Spec PyProof.Rows L2
/-! ### sorted(set(texts)) -/
/-- the set at a, whose table can be walked -/
def SetW {P : Program} {w : World} {K : Type} [DecidableEq K] (knd : KeyKind P w K) (h : Heap) (a : Addr) (S : K → Bool) (n : Nat) : Prop :=
  ∃ o es ep t, h.get? a = some o ∧ o.ExactSet ∧ o.data = .set es ep t ∧ ElemsOf knd es.toList ∧ (∀ k, S k = true ↔ ∃ e ∈ es.toList, knd.is k e.2 = true) ∧ es.size < scanBound ∧ t.fits es.size = true ∧ es.size = n ∧
    Ris t.place.toList ∧ (w.params.followText "set-order" = true ∨ t.led = true)
section
variable {P : Program} {w : World} {K : Type} [DecidableEq K] {knd : KeyKind P w K} {A : Around} {E : Value → Shared → Prop} {s : Shared} {a : Addr} {S : K → Bool} {n : Nat}
theorem SetW.at {h h' : Heap} (R : SetW knd h a S n) (k : ∀ o, h.get? a = some o → h'.get? a = some o) : SetW knd h' a S n := by
  obtain ⟨o, es, ep, t, ho, r⟩ := R
  exact ⟨o, es, ep, t, k o ho, r⟩
theorem SetW.congr {h : Heap} {S' : K → Bool} {m : Nat} (R : SetW knd h a S n) (e : ∀ k, S k = S' k) (em : n = m) : SetW knd h a S' m := by
  obtain rfl : S = S' := funext e
  subst em
  exact R
/-- the store of a grown table, and its laying anew -/
theorem setW_tail {g : Bool → Sem Unit} (quiet : ∀ (b : Bool) (s₁ : Shared) (Q' : Unit → Shared → Prop), Q' () s₁ → wpAny (model P w) A (g b) Q' E s₁) {o : Obj} {es : Array (Int × Value)} {ep : Nat} {t : SetTable} (ho : s.heap.get? a = some o) (ex : o.ExactSet) (hd : o.data = .set es ep t)
    {es1 : Array (Int × Value)} {t2 : SetTable} {S' : K → Bool} (el : ElemsOf knd es1.toList) (mem : ∀ k, S' k = true ↔ ∃ e ∈ es1.toList, knd.is k e.2 = true) (low : es1.size < scanBound) (fit : t2.fits es1.size = true) (ris : Ris t2.place.toList) (led : w.params.followText "set-order" = true ∨ t2.led = true)
    {wasDummy : Bool} {R : Option Bool → Shared → Prop} (fin : ∀ h', Heap.SameBut a s.heap h' → SetW knd h' a S' es1.size → R (some true) { s with heap := h' }) :
    wpAny (model P w) A (do
        storeSet a es1 t2
        if (!wasDummy && t2.tooFull) = true then do
            g (relayAll t2 es1 (SetTable.grown es1.size)).2.2; storeSet a (relayAll t2 es1 (SetTable.grown es1.size)).1 (relayAll t2 es1 (SetTable.grown es1.size)).2.1; pure (some true)
          else pure (some true)) R E s := by
  refine wpAny_bind (wpAny_storeSet_of ho hd ?_ (fits_of_scanBound low))
  have at1 := store_at (es' := es1) (t' := t2) ho hd
  have same1 := Heap.SameBut.update s.heap a (Obj.putSet es1 t2)
  by_cases c : (!wasDummy && t2.tooFull) = true
  · rw [if_pos c]
    have perm := relayAll_perm t2 es1 (SetTable.grown es1.size)
    have fit3 := relayAll_fits t2 es1 (SetTable.grown es1.size)
    have ris3 := relayAll_ris t2 es1 (SetTable.grown es1.size)
    have led3 := relayAll_led t2 es1 (SetTable.grown es1.size)
    generalize relayAll t2 es1 (SetTable.grown es1.size) = Z at perm fit3 ris3 led3 ⊢
    obtain ⟨es2, t3, gave⟩ := Z
    simp only at perm fit3 ris3 led3 ⊢
    have size2 : es2.size = es1.size := by rw [← Array.length_toList, perm.length_eq, Array.length_toList]
    refine wpAny_bind (quiet _ _ _ (wpAny_bind (wpAny_storeSet_of at1 rfl (wpAny_pure (fin _ (same1.trans (Heap.SameBut.update _ a _)) ?_)) (fits_of_scanBound (by rw [size2]; exact low)))))
    exact ⟨_, es2, _, t3, store_at (es' := es2) (t' := t3) at1 rfl, ex, rfl, el.perm perm, fun k => (mem k).trans ⟨fun ⟨e, m, q⟩ => ⟨e, perm.mem_iff.mpr m, q⟩, fun ⟨e, m, q⟩ => ⟨e, perm.mem_iff.mp m, q⟩⟩, by rw [size2]; exact low, fit3, size2, ris3, led.imp id fun z => by rw [led3]; exact z⟩
  · rw [if_neg c]
    exact wpAny_pure (fin _ same1 ⟨_, es1, _, t2, at1, ex, rfl, el, mem, low, fit, rfl, ris, led⟩)
theorem setW_add {k : K} {x : Value} {Q : Bool → Shared → Prop} (hk : knd.is k x = true) (scan : x.scannable = true) (R : SetW knd s.heap a S n) (room : n + 1 < scanBound)
    (fin : ∀ h', Heap.SameBut a s.heap h' → SetW knd h' a (fun j => S j || decide (j = k)) (if S k = true then n else n + 1) → Q (!S k) { s with heap := h' }) : wpAny (model P w) A (setAddHashed a x (knd.hash k)) Q E s := by
  obtain ⟨o, es, ep, t, ho, ex, hd, el, mem, low, fit, size, ris, led⟩ := R
  unfold setAddHashed setAddHashedIn
  refine wpAny_holding (wpAny_bind (wpAny_setState_of ho hd fit ?_))
  dsimp only
  rw [byScan_of scan low el]
  simp only [↓reduceIte]
  unfold setAddByScan
  refine wpAny_bind (wpAny_bind (wpAny_rule (wpAny_bind (wpAny_setScan_of hk ho hd fit el ?_))))
  cases found : List.findIdx? (fun e => knd.is k e.2) es.toList with
  | some j =>
    obtain ⟨lt, is, _⟩ := List.findIdx?_eq_some_iff_getElem.mp found
    have yes : S k = true := (mem k).mpr ⟨es.toList[j], List.getElem_mem lt, is⟩
    have q := fin s.heap (Heap.SameBut.refl a s.heap) ⟨o, es, ep, t, ho, ex, hd, el, fun i => by
      rw [Bool.or_eq_true, decide_eq_true_eq, ← mem i]
      exact ⟨fun z => z.elim id (fun e => e ▸ yes), .inl⟩, low, fit, by rw [if_pos yes]; exact size, ris, led⟩
    rw [yes] at q
    exact wpAny_pure (wpAny_pure q)
  | none =>
    have no : S k = false := by
      cases q : S k with
      | false => rfl
      | true =>
        obtain ⟨e, m, is⟩ := (mem k).mp q
        have z := List.findIdx?_eq_none_iff.mp found e m
        rw [is] at z
        cases z
    have perm := layNew_perm t es (knd.hash k) x
    have fit1 := layNew_fits t es (knd.hash k) x
    have ris1 := layNew_ris t es (knd.hash k) x ris
    have led1 := layNew_led t es (knd.hash k) x
    generalize layNew t es (knd.hash k) x = Z at perm fit1 ris1 led1 ⊢
    obtain ⟨es1, t1, wasDummy, gave⟩ := Z
    simp only at perm fit1 ris1 led1 ⊢
    rw [Array.toList_push] at perm
    have el1 : ElemsOf knd es1.toList := (el.push hk scan).perm perm
    have mem1 : ∀ j, (S j || decide (j = k)) = true ↔ ∃ e ∈ es1.toList, knd.is j e.2 = true := mem_push_iff hk mem perm
    have size1 : es1.size = n + 1 := by rw [← Array.length_toList, perm.length_eq, List.length_append, Array.length_toList, size]; rfl
    have led2 : w.params.followText "set-order" = true ∨ t1.led = true := led.imp id fun z => by rw [led1]; exact z
    have done : ∀ h', Heap.SameBut a s.heap h' → SetW knd h' a (fun j => S j || decide (j = k)) es1.size → Q true { s with heap := h' } := fun h' same r => by
      have q := fin h' same
      rw [no] at q
      rw [size1] at r
      exact q r
    have gw : ∀ (b : Bool) {s₁ : Shared} {Q' : Unit → Shared → Prop}, Q' () s₁ → wpAny (model P w) A (match b with | true => rule "set.scan.the-table-gave-way" | false => pure ()) Q' E s₁ := fun b s₁ Q' q => by
      cases b
      · exact wpAny_pure q
      · exact wpAny_rule q
    have low1 : es1.size < scanBound := by rw [size1]; exact room
    refine wpAny_bind (gw _ ?_)
    split
    · refine wpAny_bind (by
        rw [hashByValue_scannable 8 scan]
        refine wpAny_pure (setW_tail (fun b s₁ Q' q => by cases b <;> first | exact wpAny_pure q | exact wpAny_rule q) ho ex hd el1 mem1 low1 ?_ ?_ ?_ fun h' same r => wpAny_pure (done h' same r))
        · split
          · exact fit1
          · exact SetTable.fits_plain_off fit1
        · split <;> exact ris1
        · split <;> exact led2)
    · refine wpAny_bind (wpAny_pure ?_)
      simp only [↓reduceIte]
      exact setW_tail (fun b s₁ Q' q => by cases b <;> first | exact wpAny_pure q | exact wpAny_rule q) ho ex hd el1 mem1 low1 fit1 ris1 led2 fun h' same r => wpAny_pure (done h' same r)
end
end DW
namespace DW
open PySem PySem.Spec PyProof.Rows L2
section
variable {prog : Program} {w : World} {A : Around} {E : Value → Shared → Prop} {s : Shared}
abbrev newSetO (w : World) : Obj := rawSet (!w.params.followText "set-order")
theorem setW_new (a : Value) {Q₁ : Value → Shared → Prop} (h : Q₁ (.ref s.heap.objs.size) { s with heap := s.heap.push (newSetO w) }) : codeAny (model prog w) A (.call (.builtin "set.__new__") ⟨[.type "set", a], []⟩) (wants Q₁ E) s := by
  refine codeAny_of_tree (show wpAny _ A.in1 (do checkBuiltinCall "set.__new__" ⟨[.type "set", a], []⟩; again (.builtin "set.__new__" ⟨[.type "set", a], []⟩)) _ _ s from ?_)
  refine wpAny_bind (wpAny_of_eq (PySem.F.newCall_set_1 a) (wpAny_pure ⟨plainId_quiet PySem.F.plain_set_new _, codeAny_builtin PySem.F.entry_set_new (by
    rw [Around.under_plainId PySem.F.plain_set_new _]
    unfold Builtin.«set.__new__» Builtin.Frozenset.newClass
    have isSet := sub_set_self
    obtain ⟨hp, g, d, tk, os⟩ := s
    dsimp only
    wp_walk
    refine wpAny_askSetting (wpAny_pure ?_)
    dsimp only
    simp only [newObj]
    exact wpAny_bind (wpAny_alloc (wpAny_pure (wpAny_pure h))))⟩))
end
section
variable {prog : Program} {w : World} {A : Around} {R : Result → Shared → Prop} {I : Addr} {fp wr : List Addr} {G : Array GenState → Array GenState → Prop} {n : Nat} {Pv : Nat → Value → Prop} {St : Nat → Shared → Prop}
theorem setLoopW (W : WalksS prog w A.in1 I fp wr G n Pv St) {S : Addr} (out : S ∉ fp) {xs : List Str} (len : xs.length = n) (small : n + 1 < scanBound) (val : ∀ i v, Pv i v → ∃ t, v = .str (xs.getD i Str.empty) t) :
    ∀ (left i : Nat) (s : Shared), n - i = left → i ≤ n → St i s → SetW (PySem.strKind prog w) s.heap S (inN xs i) (newN xs i) →
      (∀ s', Moved (S :: wr) G s s' → SetW (PySem.strKind prog w) s'.heap S (inN xs n) (newN xs n) → R (.ok (.ret .none)) s') → codeAny (model prog w) A (.builtin "set.update.loop" ⟨[.ref S, .ref I], []⟩) R s := by
  have nw : S ∉ wr := fun z => out (W.sub _ z)
  have up : ∀ b ∈ wr, b ∈ S :: wr := fun b z => List.mem_cons_of_mem _ z
  have kept : ∀ {s s' : Shared} {f : Str → Bool} {m : Nat}, Moved wr G s s' → SetW (PySem.strKind prog w) s.heap S f m → SetW (PySem.strKind prog w) s'.heap S f m := fun mv r => r.at fun o => mv.heap S o nw
  intro left
  induction left with
  | zero =>
    intro i s hk hi hst hS fin
    obtain rfl : i = n := by omega
    refine codeAny_builtin PyProof.Rows.F.entry_set_update_loop (by
      rw [Around.under_plainId PyProof.Rows.F.plain_set_update_loop _]
      exact wpAny_bind (W.done s _ _ hst fun s' mv => wpAny_pure (fin s' (mv.mono up) (kept mv hS))))
  | succ left ih =>
    intro i s hk hi hst hS fin
    have lt : i < n := by omega
    refine codeAny_builtin PyProof.Rows.F.entry_set_update_loop (by
      rw [Around.under_plainId PyProof.Rows.F.plain_set_update_loop _]
      refine wpAny_bind (W.item i s _ _ lt hst fun v s1 hv hst1 mv => ?_)
      obtain ⟨t, rfl⟩ := val i v hv
      have hS1 := kept mv hS
      refine (show wpAny _ A.in1 (holding [Value.str (xs.getD i Str.empty) t] (setAdd S (.str (xs.getD i Str.empty) t)) >>= _) _ _ s1 from wpAny_bind (wpAny_holding ?_))
      unfold setAdd
      refine wpAny_holding (wpAny_bind ((PySem.strKind prog w).pyHash (k := xs.getD i Str.empty) (strKind_is _ _ _ _) ?_))
      have room := newN_le xs i
      refine setW_add (s := { s1 with toks := s1.toks + 1 }) (strKind_is _ _ _ _) rfl hS1 (by omega) fun h' but hS2 => ?_
      have hS3 : SetW (PySem.strKind prog w) h' S (inN xs (i + 1)) (newN xs (i + 1)) := hS2.congr (fun y => inN_step (by omega) y) rfl
      refine wpAny_pure ⟨plainId_quiet PyProof.Rows.F.plain_set_update_loop _, ih (i + 1) _ (by omega) lt (W.frame _ s1 _ _ hst1 (Nat.le_succ _) fun b hb o e => (but.2 b fun z => out (z ▸ hb)).trans e) hS3 fun s2 mv2 hS4 => ?_⟩
      exact fin s2 (Moved.trans W.gtrans ((mv.mono up).then_heap (Nat.le_succ _) fun b o hb e => (but.2 b fun z => hb (z ▸ List.mem_cons_self)).trans e) mv2) hS4)
end
section
variable {prog : Program} {w : World} {A : Around} {E : Value → Shared → Prop} {s : Shared}
def SetMadeW (prog : Program) (w : World) (h : Heap) (a : Addr) (xs : List Str) (h' : Heap) : Prop :=
  SetW (PySem.strKind prog w) h' a (inN xs xs.length) (newN xs xs.length) ∧ ∀ b o, b < h.objs.size → h.get? b = some o → h'.get? b = some o
theorem setFillW {l : Addr} {items : Array Value} {xs : List Str} (hh : A.handled = none) (hl : s.heap.IsList l items) (hi : PyProof.Rows.StrsAre items.toList xs) (small : xs.length + 1 < scanBound) :
    codeAny (model prog w) A (.call (.builtin "set.__init__") ⟨[.ref s.heap.objs.size, .ref l], []⟩)
      (wants (fun r s2 => r = .none ∧ ∃ h' tk, s2 = { s with heap := h', toks := tk } ∧ SetMadeW prog w s.heap s.heap.objs.size xs h') E) { s with heap := s.heap.push (newSetO w) } := by
  have hS : (s.heap.push (newSetO w)).get? s.heap.objs.size = some (newSetO w) := Heap.get?_push_size _ rfl
  have hT : Shared.TypeIs { s with heap := s.heap.push (newSetO w) } (.ref s.heap.objs.size) "set" := ⟨_, hS, rfl⟩
  refine codeAny_call_builtin PySem.F.called_set.init.plain PySem.F.entry_set_init (check_set_init_1 hT ?_)
  obtain ⟨⟨oc, odict, odata, oslots⟩, hol, hcl, nl, hdl⟩ := hl
  simp only at hcl hdl
  subst hcl hdl
  have hol1 := Heap.get?_push_of_some (newSetO w) hol
  have f1 := PySem.F.sub_list_set
  have f2 := PySem.F.sub_list_frozenset
  have f3 : (Value.type "list" == Value.type "dict") = false := by decide
  have hl1 : (s.heap.push (newSetO w)).IsList l items := ⟨_, hol1, rfl, nl, rfl⟩
  unfold Builtin.«set.__init__» noKeywords Builtin.Frozenset.updateFrom
  generalize hPI : pyIter = PI
  wp_walk
  subst hPI
  have old : l < s.heap.objs.size := Heap.lt_size hol
  have len : xs.length = items.size := (StrsAre.len_eq hi).symm.trans Array.length_toList
  have nI : l ≠ (s.heap.push (newSetO w)).objs.size := fun z => by rw [Heap.size_push] at z; exact Nat.ne_of_lt (Nat.lt_succ_of_lt old) z
  have out : s.heap.objs.size ∉ [(s.heap.push (newSetO w)).objs.size, l] := fun z => by
    rw [Heap.size_push] at z
    simp only [List.mem_cons, List.not_mem_nil, or_false] at z
    rcases z with z | z
    · exact Nat.ne_of_lt (Nat.lt_succ_self _) z
    · exact Nat.ne_of_lt old z.symm
  have vals : ∀ (i : Nat) (v : Value), items[i]? = some v → ∃ t, v = .str (xs.getD i Str.empty) t := fun i v e => SS.strs_at hi i v (Array.getElem?_toList.trans e)
  have get0 : ((s.heap.push (newSetO w)).push { cls := .type "list_iterator", data := .fields #[.ref l, .int 0 0] }).get? s.heap.objs.size = some (newSetO w) := Heap.get?_push_of_some _ hS
  have start : SetW (PySem.strKind prog w) ((s.heap.push (newSetO w)).push { cls := .type "list_iterator", data := .fields #[.ref l, .int 0 0] }) s.heap.objs.size (inN xs 0) (newN xs 0) :=
    ⟨_, #[], 0, _, get0, ⟨rfl, rfl, rfl⟩, rfl, (fun e he => by simp at he), (fun k => by simp [inN]), (by unfold scanBound; decide), (by rfl), rfl, List.Pairwise.nil, by
      show _ ∨ (!w.params.followText "set-order") = true
      cases w.params.followText "set-order"
      · exact .inr rfl
      · exact .inl rfl⟩
  have W := (Walks.list (prog := prog) (w := w) (A := A.in1.in1) (by simp [hh]) (s.heap.push (newSetO w)).objs.size l nI items).toS
  refine wpAny_pyIter_list hl1 (wpAny_bind (wpAny_runValue (setLoopW W out len (by omega) vals (items.size - 0) 0 { s with heap := (s.heap.push (newSetO w)).push { cls := .type "list_iterator", data := .fields #[.ref l, .int 0 0] } } (by omega) (Nat.zero_le _) ⟨⟨_, Heap.get?_push_size _ rfl, rfl, rfl⟩, hl1.push _⟩ start fun s2 mv hS2 => ?_)))
  obtain ⟨h', g', d', tk', os'⟩ := s2
  cases (show g' = s.gens from mv.gens)
  cases (show d' = s.drawn from mv.drawn)
  cases (show os' = s.os from mv.os)
  refine wpAny_pure (wpAny_pure ⟨rfl, h', tk', rfl, by rw [len]; exact hS2, fun b o hb e => ?_⟩)
  refine mv.heap b o (fun z => ?_) (Heap.get?_push_of_some _ (Heap.get?_push_of_some _ e))
  rw [Heap.size_push] at z
  simp only [List.mem_cons, List.not_mem_nil, or_false] at z
  rcases z with z | z
  · exact Nat.ne_of_lt hb z
  · exact Nat.ne_of_lt (Nat.lt_succ_of_lt hb) z
theorem setListW {l : Addr} {items : Array Value} {xs : List Str} {Q : Value → Shared → Prop} (hh : A.handled = none) (hl : s.heap.IsList l items) (hi : PyProof.Rows.StrsAre items.toList xs) (small : xs.length + 1 < scanBound)
    (k : ∀ h' tk, SetMadeW prog w s.heap s.heap.objs.size xs h' → Q (.ref s.heap.objs.size) { s with heap := h', toks := tk }) : wpAny (model prog w) A (call (.type "set") [.ref l]) Q E s := by
  obtain ⟨c, tl, hmro⟩ := PySem.F.called_set.mro
  have g1 := PySem.F.called_set.made
  have g2 := PySem.F.called_set.sub
  have g3 := PySem.F.called_set.notType
  have g4 := PySem.F.called_set.canCreate
  have g5 := PySem.F.typeCall_set_1 (.ref l)
  refine wpAny_call (codeAny_of_tree (show wpAny _ _ (callAny (.type "set") _) _ _ _ from wpAny_pure ⟨Code.quiet_builtin _ (by decide +kernel), codeAny_builtin PySem.F.entry_type_call ?_⟩))
  rw [Around.under_plain (weight_type_call_type "set" [.ref l] []) rfl]
  repeat (any_goals (first | assumption | wp_step))
  refine codeAny_mono (setW_new (.ref l) (E := E) (Q₁ := fun obj s1 => obj = .ref s.heap.objs.size ∧ s1 = { s with heap := s.heap.push (newSetO w) }) ⟨rfl, rfl⟩) fun r s1 z => ?_
  match r, z with
  | .ok (.ret _), ⟨e1, e2⟩ =>
    subst e1 e2
    have hT : Shared.TypeIs { s with heap := s.heap.push (newSetO w) } (.ref s.heap.objs.size) "set" := ⟨_, Heap.get?_push_size _ rfl, rfl⟩
    have i1 := PySem.F.called_set.init.lookup
    have i2 := PySem.F.called_set.init.bind (.ref s.heap.objs.size)
    repeat (any_goals (first | assumption | wp_step))
    refine codeAny_mono (setFillW (E := E) (by simp [hh]) hl hi small) fun r2 s2 z2 => ?_
    match r2, z2 with
    | .ok (.ret _), ⟨e3, h', tk, e4, made⟩ =>
      subst e3 e4
      repeat (any_goals (first | assumption | wp_step))
      exact k h' tk made
    | .error e, z2 => exact z2
  | .error e, z => exact z
end
end DW
namespace DW
open PySem PySem.Spec PyProof.Rows L2
theorem strsOf : ∀ (us : List Value), (∀ v ∈ us, ∃ z t, v = Value.str z t) → ∃ zs, StrsAre us zs ∧ zs.length = us.length ∧ ∀ z, z ∈ zs ↔ ∃ t, Value.str z t ∈ us
  | [], _ => ⟨[], .nil, rfl, fun z => by simp⟩
  | u :: us, h => by
    obtain ⟨z, t, rfl⟩ := h u List.mem_cons_self
    obtain ⟨zs, a, b, c⟩ := strsOf us fun v hv => h v (List.mem_cons_of_mem _ hv)
    refine ⟨z :: zs, .cons z t a, by simp [b], fun y => ?_⟩
    rw [List.mem_cons, c y]
    constructor
    · rintro (rfl | ⟨t', m⟩)
      · exact ⟨t, List.mem_cons_self⟩
      · exact ⟨t', List.mem_cons_of_mem _ m⟩
    · rintro ⟨t', m⟩
      rcases List.mem_cons.mp m with e | m
      · cases e
        exact .inl rfl
      · exact .inr ⟨t', m⟩
section
variable {X : Cx}
/-- sorted(set(e)), e a list of texts, fewer than 64 -/
def tSortSet (K : PySem.W.Frag) (te : TE) : TE := fun σ H Q => te σ H fun x H1 => ∃ (l : Addr) (xs : List Str), x = .ref l ∧ SqL K H1 l (xs.map V.str) ∧ xs.length < 63 ∧
  ∀ (ys : List Str) (p : Addr), (∀ y, y ∈ ys ↔ y ∈ xs) → sortedS ys = true → ys.length ≤ xs.length → H1 p = none → Q (.ref p) (upd H1 p (.lst (ys.map V.str)))
theorem pe_sortSet {e : Expr} {te : TE} {p p2 q pos : Pos} (hc : X.calm = true) (hg : Gl X "sorted") (hm : X.mg "sorted" = none) (hg2 : Gl X "set") (hm2 : X.mg "set" = none) (he : PE X e te)
    (na : starEach [e] X.env = (false, eval e X.env) :: starEach [] X.env := by rfl) : PE X (.Call (.Name "sorted" p) [.Call (.Name "set" p2) [e] [] q] [] pos) (tSortSet X.K te) := by
  refine ⟨fun pins s σ H Q I h => ?_⟩
  refine Call_ (ld_blt I hg hm PyProof.Rows.boot_sorted (PyProof.Rows.callWith_builtin1 (PyProof.Rows.args_cons ?_ rfl) rfl rfl))
  refine Call_ (ld_blt I hg2 hm2 boot_set (PyProof.Rows.callWith_type1 (PyProof.Rows.args_cons (thn (he.run pins s σ H _ I h) fun v s1 z => PyProof.Rows.args_nil ?_) na) na rfl))
  obtain ⟨x, H1, I1, r1, l, xs, rfl, hq, small, q1⟩ := z
  cases r1
  obtain ⟨its, r, pl, hz⟩ := I1.list hq
  have sb : 64 < scanBound := by unfold scanBound; decide
  refine setListW (I1.ok.hd hc) pl.isList (by simpa using L2.strsAre_of r) (by omega) fun h' tk made => PyProof.Rows.args_nil ?_
  obtain ⟨⟨o, es, ep, t, ho, ex, hd, el, mem, low, fit, size, ris, led⟩, kept⟩ := made
  have I2 : Inv X pins σ H1 { s1 with heap := h', toks := tk } := I1.kept fun b o e => kept b o (Heap.lt_size e) e
  have le := newN_le xs xs.length
  refine Calls.call_function_entry PyProof.Rows.kind_sorted PyProof.Rows.plain_sorted PyProof.Rows.entry_sorted (PyProof.Rows.args_sorted1 _) ?_
  unfold Builtin.«sorted»
  refine wpAny_bind (m := checkCount "sorted" 1 1 _) (wpAny_pure (wpAny_bind (collect_set (A := X.A.in1) (I2.ok.hd hc) ⟨o, ho, ex.1, hd⟩ fit low ris led fun s2 us k2 z2 g2 o2 perm => ?_)))
  have texts : ∀ v ∈ us, ∃ z t, v = Value.str z t := fun v hv => by
    obtain ⟨e, m, rfl⟩ := List.mem_map.mp (perm.mem_iff.mp hv)
    obtain ⟨⟨z, is, _⟩, _⟩ := el e m
    obtain ⟨t, ev⟩ := Value.isStrOf_shape is
    exact ⟨z, t, ev⟩
  obtain ⟨zs, hS, lz, mz⟩ := strsOf us texts
  have lu : us.length ≤ xs.length := by rw [perm.length_eq, List.length_map, Array.length_toList, size]; exact le
  have memb : ∀ y, y ∈ zs ↔ y ∈ xs := fun y => by
    rw [mz y]
    have a : inN xs xs.length y = true ↔ y ∈ xs := by
      unfold inN
      rw [List.take_length, List.any_eq_true]
      exact ⟨fun ⟨x, m, e⟩ => by rw [← beq_iff_eq.mp e]; exact m, fun m => ⟨y, m, beq_iff_eq.mpr rfl⟩⟩
    rw [← a, mem y]
    constructor
    · rintro ⟨t, m⟩
      obtain ⟨e, m2, ev⟩ := List.mem_map.mp (perm.mem_iff.mp m)
      exact ⟨e, m2, by rw [ev]; exact strKind_is _ _ _ _⟩
    · rintro ⟨e, m2, is⟩
      obtain ⟨t, ev⟩ := Value.isStrOf_shape is
      exact ⟨t, perm.mem_iff.mpr (List.mem_map.mpr ⟨e, m2, ev⟩)⟩
  refine wpAny_bind (wpAny_newList ?_ (by rw [sizeLine_eq]; omega))
  have atL : (s2.heap.push (seqObj "list" us.toArray 0)).get? s2.heap.objs.size = some (seqObj "list" us.toArray 0) := Heap.get?_push_size _ rfl
  refine (show wpAny _ _ _ _ _ { s2 with heap := s2.heap.push (seqObj "list" us.toArray 0) } from wpAny_bind (wpAny_holding (wpAny_call_entry PyProof.Rows.slot_list_sort ⟨_, atL, rfl⟩ PyProof.Rows.entry_list_sort
    (list_sort_treeK strKind_oneLt (s := { s2 with heap := s2.heap.push (seqObj "list" us.toArray 0) }) atL hS.keysOf (fun v₁ v₂ rest e => keyKind_strs (by rw [← e]; exact hS)) (by omega) fun st' hp hs => ⟨_, rfl, ?_⟩) (PyProof.Rows.args_list_sort _))))
  obtain ⟨ys, y1, y2, y3⟩ := sorted_out_str hS hp hs
  obtain ⟨e', atE⟩ := PyProof.Rows.sortedHeap_at (vs := us) (out := (arrOf st').map (·.2)) atL
  have ly : ys.length ≤ xs.length := by rw [y2.length_eq, lz]; exact lu
  have old : ∀ b u, s1.heap.get? b = some u → (sortedHeap (s2.heap.push (seqObj "list" us.toArray 0)) s2.heap.objs.size us ((arrOf st').map (·.2))).get? b = some u := fun b u e => by
    have e2 := k2 b u (kept b u (Heap.lt_size e) e)
    have lt := Heap.lt_size e2
    rw [PyProof.Rows.sortedHeap_old (Nat.ne_of_lt lt) (by rw [size_push']; exact Nat.lt_succ_of_lt lt)]
    exact Heap.get?_push_of_some _ e2
  have low1 : s1.heap.objs.size ≤ s2.heap.objs.size := Nat.le_trans (Nat.le_of_lt (Heap.lt_size ho)) z2
  have free : H1 s2.heap.objs.size = none := I1.hok.fresh low1
  have room : (ys.map V.str).length ≤ sizeLine := by rw [List.length_map, sizeLine_eq]; omega
  refine wpAny_pure ⟨_, rfl, ?_⟩
  have J : Inv X pins σ (upd H1 s2.heap.objs.size (.lst (ys.map V.str))) { s1 with heap := sortedHeap (s2.heap.push (seqObj "list" us.toArray 0)) s2.heap.objs.size us ((arrOf st').map (·.2)), gens := s2.gens, drawn := s2.drawn, toks := s2.toks } :=
    I1.call (ch := []) (Un.laid old low1 free) (I1.hok.laid old low1 ⟨room, ((arrOf st').map (·.2)).toList, e', vals_of_strs y1, by rw [Array.toArray_toList]; exact atE⟩) (by rw [g2]; exact I1.bare) (fun _ z => nomatch z)
  have eo : s2.os = s1.os := o2
  obtain ⟨hp2, gg2, d2, t2, os2⟩ := s2
  cases eo
  exact ⟨.ref hp2.objs.size, _, J, rfl, q1 ys _ (fun y => by rw [y2.mem_iff]; exact memb y) y3 ly free⟩
end
end DW
namespace DW
open PySem PySem.Spec PyProof.Rows L2 PySem.W
/-! ### sorted(d), the keys pairs of texts -/
abbrev kP (x y : Str) : List Key := [.inr x, .inr y]
def encP (b : Addr × Str × Str) : PyData := .tuple [.str b.2.1, .str b.2.2]
theorem reads2 {P : Program} {w : World} {H : Hp} {h : Heap} {b : Addr} {x y : Str} (ok : HOk P w H h) (e : H b = some (.tup [.str x, .str y])) : Reads h (.ref b) (.tuple [.str x, .str y]) [] := by
  obtain ⟨_, its, r, o, h1, h2, n, h3⟩ := (show ObjOk P w H h b (.tup [.str x, .str y]) from ok b _ e)
  cases r with
  | cons r1 r2 =>
    cases r2 with
    | cons r2 r3 =>
      cases r3
      obtain ⟨t1, rfl⟩ := r1
      obtain ⟨t2, rfl⟩ := r2
      exact Reads.tuple h1 h2 h3 (ReadsAll.cons (as := []) (Reads.str x t1) (ReadsAll.cons (as := []) (Reads.str y t2) .nil))
theorem eachAll {α β : Type} {R : α → β → Prop} {f : β → α} : ∀ {bs : List β}, (∀ b ∈ bs, R (f b) b) → EachIs R (bs.map f) bs
  | [], _ => .nil
  | b :: bs, h => .cons (h b List.mem_cons_self) (eachAll fun c m => h c (List.mem_cons_of_mem _ m))
theorem each_vals {bs : List (Addr × Str × Str)} : ∀ {us : List Value}, EachIs (fun (v : Value) (b : Addr × Str × Str) => v = .ref b.1) us bs → Vals (bs.map fun b => V.ref b.1) us := by
  induction bs with
  | nil => intro us h; cases h; exact .nil
  | cons b bs ih =>
    intro us h
    cases h with
    | cons r k => exact .cons r (ih k)
section
variable {X : Cx}
def rSortKeys (K : PySem.W.Frag) : List V → Hp → VK → Prop := fun vs H Q => ∃ (d : Addr) (kvs : List (List Key × V)), vs = [.ref d] ∧ Rd H d (.dT kvs) ∧ kvs.length ≤ 1000 ∧ (∀ p ∈ kvs, ∃ x y, p.1 = kP x y) ∧
  ∀ (bs : List (Addr × Str × Str)) (p : Addr), (bs.map fun b => kP b.2.1 b.2.2).Perm (kvs.map (·.1)) → (∀ b ∈ bs, H b.1 = some (.tup [.str b.2.1, .str b.2.2])) → H p = none → Q (.ref p) (upd H p (.lst (bs.map fun b => .ref b.1)))
theorem pairs_at {H : Hp} : ∀ {kvs : List (List Key × V)} {xs : List (List Key × Addr × Value)}, KT H kvs xs → (∀ p ∈ kvs, ∃ x y, p.1 = kP x y) → ∃ bs : List (Addr × Str × Str), (bs.map fun b => kP b.2.1 b.2.2) = kvs.map (·.1) ∧ (bs.map fun b => b.1) = xs.map (·.2.1) ∧ ∀ b ∈ bs, H b.1 = some (.tup [.str b.2.1, .str b.2.2])
  | _, _, .nil, _ => ⟨[], rfl, rfl, fun b m => by cases m⟩
  | p :: ps, q :: qs, .cons h t, pr => by
    obtain ⟨bs, e1, e2, e3⟩ := pairs_at t fun r m => pr r (List.mem_cons_of_mem _ m)
    obtain ⟨x, y, e⟩ := pr p List.mem_cons_self
    obtain ⟨_, hb, _⟩ := h
    rw [e] at hb
    refine ⟨(q.2.1, x, y) :: bs, by simp [e1, e], by simp [e2], fun b m => ?_⟩
    rcases List.mem_cons.mp m with rfl | m
    · exact hb
    · exact e3 b m
theorem cr_sortKeys (hc : X.calm = true) (hu : X.A.units + 64 < cLine) : CallR X (.builtin "sorted") (rSortKeys X.K) := by
  intro pins s σ H vs us Q I r h
  obtain ⟨d, kvs, rfl, hd, few, pr, q⟩ := h
  obtain ⟨u, rfl, ru⟩ := vals1 r
  obtain rfl : u = Value.ref d := ru
  obtain ⟨z, notSys, xs, rel, o, es, ep, ho, hx, hdat, ents, nd⟩ := (show ObjOk X.prog X.w H s.heap d (.dT kvs) from hd.ok I.hok)
  obtain ⟨bs, b1, b2, b3⟩ := pairs_at rel pr
  have l1 : es.size = xs.length := by rw [← Array.length_toList, ents, List.length_map]
  have l2 : kvs.length = xs.length := Paired.length rel
  have l3 : bs.length = xs.length := by
    have := congrArg List.length b2
    simpa using this
  refine Calls.call_function_entry PyProof.Rows.kind_sorted PyProof.Rows.plain_sorted PyProof.Rows.entry_sorted (PyProof.Rows.args_sorted1 _) ?_
  unfold Builtin.«sorted»
  refine wpAny_bind (m := checkCount "sorted" 1 1 _) (wpAny_pure (wpAny_bind (PySem.W.kdu_collect (A := X.A.in1) (kdl_raw notSys hx hdat) (I.ok.hd hc) ho (by rw [sizeLine_eq]; omega) fun h' tk acc old its => ?_)))
  have ea : acc.toList = bs.map fun b => Value.ref b.1 := by
    have len : acc.toList.length = xs.length := by rw [Array.length_toList, its.1]; exact l1
    have e2 : (bs.map fun b => Value.ref b.1) = xs.map fun x => Value.ref x.2.1 := by
      have := congrArg (List.map Value.ref) b2
      simpa [List.map_map, Function.comp_def] using this
    rw [e2]
    apply List.ext_getElem?
    intro j
    rw [List.getElem?_map]
    cases hj : acc.toList[j]? with
    | none =>
      have h1 := List.getElem?_eq_none_iff.mp hj
      rw [List.getElem?_eq_none (by omega)]
      rfl
    | some v =>
      obtain ⟨en, hen, hv⟩ := its.2 j v (by rw [← Array.getElem?_toList]; exact hj)
      have qe : es.toList[j]? = some en := by rw [Array.getElem?_toList]; exact hen
      rw [ents, List.getElem?_map] at qe
      cases hb : xs[j]? with
      | none => rw [hb] at qe; cases qe
      | some b =>
        rw [hb] at qe
        have e2 : entryOfKey (tupleKind (mixKind X.prog X.w)) b = en := Option.some.inj qe
        rw [hv, ← e2]
        rfl
  have I1 : Inv X pins σ H { s with heap := h', toks := tk } := I.kept old
  refine wpAny_bind (wpAny_newList ?_ (by rw [ea, List.length_map, sizeLine_eq]; omega))
  have atL : (h'.push (seqObj "list" acc.toList.toArray 0)).get? h'.objs.size = some (seqObj "list" acc.toList.toArray 0) := Heap.get?_push_size _ rfl
  have lay : Inv X pins σ (upd H h'.objs.size (.lst (bs.map fun b => V.ref b.1))) { s with heap := h'.push (seqObj "list" acc.toList.toArray 0), toks := tk } := by
    refine I1.laid (t' := tk) (fun b u e => Heap.get?_push_of_some _ e) (Nat.le_refl _) ⟨?_, acc.toList, 0, ?_, atL⟩
    · rw [List.length_map, sizeLine_eq]; omega
    · rw [ea]
      exact each_vals (eachAll fun b _ => rfl)
  have free : H h'.objs.size = none := I1.hok.fresh (Nat.le_refl _)
  have there : ∀ b ∈ bs, upd H h'.objs.size (.lst (bs.map fun b => V.ref b.1)) b.1 = some (.tup [.str b.2.1, .str b.2.2]) := fun b m => by
    rw [upd_ne (ne_of_none (b3 b m) free)]
    exact b3 b m
  have rd1 : EachIs (fun v b => ∃ as, Reads (h'.push (seqObj "list" acc.toList.toArray 0)) v (encP b) as ∧ h'.objs.size ∉ as) (bs.map fun b => Value.ref b.1) bs := eachAll fun b m => ⟨[], reads2 lay.hok (there b m), fun z => nomatch z⟩
  rw [← ea] at rd1
  refine (show wpAny _ _ _ _ _ { s with heap := h'.push (seqObj "list" acc.toList.toArray 0), toks := tk } from wpAny_bind (wpAny_holding ?_))
  refine list_sort_data (vs := acc.toList) (bs := bs) (enc := encP) (R := fun (v : Value) (b : Addr × Str × Str) => v = .ref b.1) atL (by rw [ea]; exact eachAll fun b _ => rfl)
    rd1 (AllAlike.of fun b c => by simp [encP, alike, alikeAll]) (Sortable.tuples fun b => ⟨_, _, rfl⟩) (by rw [sizeLine_eq]; omega) (fun b _ => by simp [encP, PyData.depth, PyData.depthAll]; show X.A.units + 1 + 1 + _ < _; omega) fun out lo eo => ?_
  obtain ⟨e', atE⟩ := PyProof.Rows.sortedHeap_at (vs := acc.toList) (out := out.toArray) atL
  have pm := List.mergeSort_perm bs (dataLe false encP)
  refine wpAny_pure ⟨_, rfl, .ref h'.objs.size, upd H h'.objs.size (.lst ((bs.mergeSort (dataLe false encP)).map fun b => V.ref b.1)), I1.laid (t' := tk) (fun b u e => ?_) (Nat.le_refl _) ⟨?_, out, e', each_vals eo, atE⟩, rfl, q _ _ (by rw [← b1]; exact pm.map _) (fun b m => b3 b (pm.mem_iff.mp m)) free⟩
  · have lt : b < h'.objs.size := Heap.lt_size e
    rw [PyProof.Rows.sortedHeap_old (Nat.ne_of_lt lt) (by rw [size_push']; exact Nat.lt_succ_of_lt lt)]
    exact Heap.get?_push_of_some _ e
  · rw [List.length_map, pm.length_eq, sizeLine_eq]; omega
end
end DW
namespace DW
open PySem PySem.Spec PyProof.Rows L2
def tyName : PyData → String
  | .none => "NoneType" | .bool _ => "bool" | .int _ => "int" | .str _ => "str" | .list _ => "list" | .tuple _ => "tuple" | .dict _ => "dict"
theorem Dp.tyx {K : PySem.W.Frag} {H : Hp} {v : V} {d : PyData} (h : Dp K H v d) : TyX K H v (.type (tyName d)) := by
  cases h with
  | non => exact .base .non
  | bl b => exact .base (.bl b)
  | int i => exact .base (.int i)
  | str x => exact .base (.str x)
  | lst hs _ =>
    rcases hs with (e | ⟨o, e⟩) | ⟨o, its, n, e, c, _⟩
    · exact .base (.lst e)
    · exact .base (.frz e)
    · exact .kList e c
  | tup hs _ =>
    rcases hs with (e | ⟨o, e⟩) | ⟨o, its, n, e, c, _⟩
    · exact .base (.tup e)
    · exact .fTuple e
    · exact .kTuple e c
theorem Dd.tyx {K : PySem.W.Frag} {H : Hp} {v : V} {d : PyData} (h : Dd K H v d) : TyX K H v (.type (tyName d)) := by
  cases h with
  | base h _ => exact Dp.tyx h
  | dct e => exact .base (.dK e)
def isIntT (d : PyData) : Bool := match d with
  | .int _ => true | .bool _ => true | _ => false
def isBoolT (d : PyData) : Bool := match d with
  | .bool _ => true | _ => false
def isStrT (d : PyData) : Bool := match d with
  | .str _ => true | _ => false
def isTupT (d : PyData) : Bool := match d with
  | .tuple _ => true | _ => false
theorem kit_int : ∀ d : PyData, kitB (tyName d) "int" = some (isIntT d)
  | .none => (show kitB "NoneType" "int" = some false by decide +kernel)
  | .bool _ => (show kitB "bool" "int" = some true by decide +kernel)
  | .int _ => (show kitB "int" "int" = some true by decide +kernel)
  | .str _ => (show kitB "str" "int" = some false by decide +kernel)
  | .list _ => (show kitB "list" "int" = some false by decide +kernel)
  | .tuple _ => (show kitB "tuple" "int" = some false by decide +kernel)
  | .dict _ => (show kitB "dict" "int" = some false by decide +kernel)
theorem kit_bool : ∀ d : PyData, kitB (tyName d) "bool" = some (isBoolT d)
  | .none => (show kitB "NoneType" "bool" = some false by decide +kernel)
  | .bool _ => (show kitB "bool" "bool" = some true by decide +kernel)
  | .int _ => (show kitB "int" "bool" = some false by decide +kernel)
  | .str _ => (show kitB "str" "bool" = some false by decide +kernel)
  | .list _ => (show kitB "list" "bool" = some false by decide +kernel)
  | .tuple _ => (show kitB "tuple" "bool" = some false by decide +kernel)
  | .dict _ => (show kitB "dict" "bool" = some false by decide +kernel)
theorem kit_str : ∀ d : PyData, kitB (tyName d) "str" = some (isStrT d)
  | .none => (show kitB "NoneType" "str" = some false by decide +kernel)
  | .bool _ => (show kitB "bool" "str" = some false by decide +kernel)
  | .int _ => (show kitB "int" "str" = some false by decide +kernel)
  | .str _ => (show kitB "str" "str" = some true by decide +kernel)
  | .list _ => (show kitB "list" "str" = some false by decide +kernel)
  | .tuple _ => (show kitB "tuple" "str" = some false by decide +kernel)
  | .dict _ => (show kitB "dict" "str" = some false by decide +kernel)
theorem kit_tup : ∀ d : PyData, kitB (tyName d) "tuple" = some (isTupT d)
  | .none => (show kitB "NoneType" "tuple" = some false by decide +kernel)
  | .bool _ => (show kitB "bool" "tuple" = some false by decide +kernel)
  | .int _ => (show kitB "int" "tuple" = some false by decide +kernel)
  | .str _ => (show kitB "str" "tuple" = some false by decide +kernel)
  | .list _ => (show kitB "list" "tuple" = some false by decide +kernel)
  | .tuple _ => (show kitB "tuple" "tuple" = some true by decide +kernel)
  | .dict _ => (show kitB "dict" "tuple" = some false by decide +kernel)
/-- isinstance(x, T) of data, as a value -/
theorem rd_isi {K : PySem.W.Frag} {σ : L2.St} {H : Hp} {T : String} {v : V} {d : PyData} {b : Bool} {Q : VK} {i : Nat} (hv : σ[i]? = some (some v)) (h : Dd K H v d) (hk : kitB (tyName d) T = some b) (q : Q (.bl b) H) :
    tCB (rIsi K) (tCons (tVar i) (tCons (tC (.ty T)) tNil)) σ H Q := ⟨v, hv, v, .ty T, _, _, b, rfl, .ty _, h.tyx, kit_ty hk, q⟩
/-- a and .. of such answers -/
theorem rd_andT {a b : TE} {σ : L2.St} {H : Hp} {Q : VK} (h : a σ H fun x H1 => x = .bl true ∧ b σ H1 Q) (m : ∀ {R R' : VK}, (∀ x H1, R x H1 → R' x H1) → a σ H R → a σ H R') : tAndV a b σ H Q :=
  m (fun x H1 z => ⟨true, z.1, iteT z.2⟩) h
def betD (lo hi : Int) (d : PyData) : Bool := match d with
  | .int i => decide (lo ≤ i) && decide (i ≤ hi) | _ => false
end DW
namespace DW
open PySem PySem.Spec PyProof.Rows L2
/-- [e for c in s if ..], s a text -/
theorem lc_str {x : Str} {g : TG} {tt : TT} {te : TE} {vs : List Nat} {σ : L2.St} {H1 : Hp} {D : Addr} {Qd : Hp → Prop} (Pv : Nat → Hp → Prop) (h0 : Pv 0 (upd H1 D (.lst [])))
    (hs : ∀ i c H, x.cps[i]? = some c → Pv i H → g (.str ⟨#[c]⟩) (wipe σ vs) H fun σ2 H2 => wipe σ2 vs = wipe σ vs ∧ tt σ2 H2 fun b H3 =>
      if b = true then te σ2 H3 fun y H4 => ∃ acc, H4 D = some (.lst acc) ∧ acc.length < sizeLine ∧ Pv (i + 1) (upd H4 D (.lst (acc ++ [y]))) else Pv (i + 1) H3) (hd : ∀ H, Pv x.cps.size H → Qd H) :
    ∃ W : Nat → Nat → Hp → Prop, (∃ m, W 0 m (upd H1 D (.lst []))) ∧ ∀ i m H, W i m H →
      ((Its x).stop i H ∧ Qd H) ∨ ((Its x).go i H ∧ ∃ Nx : Hp → Prop, (∀ H', Nx H' → ∃ m', m' < m ∧ W (i + 1) m' H') ∧ ∀ v H', (Its x).yld i H v H' → g v (wipe σ vs) H' fun σ2 H2 => wipe σ2 vs = wipe σ vs ∧ tt σ2 H2 fun b H3 =>
        if b = true then te σ2 H3 fun y H4 => ∃ acc, H4 D = some (.lst acc) ∧ acc.length < sizeLine ∧ Nx (upd H4 D (.lst (acc ++ [y]))) else Nx H3) := by
  refine ⟨fun i m H => m = x.cps.size - i ∧ i ≤ x.cps.size ∧ Pv i H, ⟨x.cps.size, by simp, Nat.zero_le _, h0⟩, ?_⟩
  rintro i m H ⟨rfl, hi, p⟩
  by_cases hlt : i < x.cps.size
  · refine .inr ⟨hlt, Pv (i + 1), fun H' p' => ⟨x.cps.size - (i + 1), by omega, rfl, hlt, p'⟩, fun v H' y => ?_⟩
    obtain ⟨e, c, hc, ev⟩ := y
    subst e ev
    exact hs i c _ hc p
  · have e : i = x.cps.size := by omega
    subst e
    exact .inl ⟨Nat.le_refl _, hd H p⟩
/-- what is judged: not too long -/
def Fit (d : PyData) : Prop := ∀ z, d = .str z → z.length ≤ 1000
end DW
namespace DW
open PySem PySem.Spec PyProof.Rows L2
theorem sqT_same {K : PySem.W.Frag} {H H' : Hp} {a : Addr} {xs : List V} (s : Same H H') (h : SqT K H a xs) : SqT K H' a xs := by
  rcases h with (e | ⟨o, e⟩) | h
  · exact .inl (.inl (s _ _ e))
  · exact .inl (.inr ⟨o, s _ _ e⟩)
  · exact .inr h
mutual
theorem Dp.same {K : PySem.W.Frag} {H H' : Hp} (s : Same H H') : ∀ {v : V} {d : PyData}, Dp K H v d → Dp K H' v d
  | _, _, .non => .non
  | _, _, .bl b => .bl b
  | _, _, .int i => .int i
  | _, _, .str x => .str x
  | _, _, .lst h a => .lst (Same.seq s h) (DpAll.same s a)
  | _, _, .tup h a => .tup (sqT_same s h) (DpAll.same s a)
theorem DpAll.same {K : PySem.W.Frag} {H H' : Hp} (s : Same H H') : ∀ {vs : List V} {ds : List PyData}, DpAll K H vs ds → DpAll K H' vs ds
  | _, _, .nil => .nil
  | _, _, .cons a b => .cons (Dp.same s a) (DpAll.same s b)
end
theorem DpAll.length {K : PySem.W.Frag} {H : Hp} : ∀ {vs : List V} {ds : List PyData}, DpAll K H vs ds → vs.length = ds.length
  | _, _, .nil => rfl
  | _, _, .cons _ b => by rw [List.length_cons, List.length_cons, DpAll.length b]
theorem DpAll.at {K : PySem.W.Frag} {H : Hp} : ∀ {vs : List V} {ds : List PyData} {i : Nat} {v : V}, DpAll K H vs ds → vs[i]? = some v → ∃ d, ds[i]? = some d ∧ Dp K H v d
  | _, _, _, _, .nil, h => by simp at h
  | _, _, 0, v, .cons a b, h => by
    simp at h
    subst h
    exact ⟨_, rfl, a⟩
  | _, _, i + 1, v, .cons a b, h => by
    obtain ⟨d, e, q⟩ := DpAll.at b (i := i) (v := v) (by simpa using h)
    exact ⟨d, by simpa using e, q⟩
def Fn : Nat → PyData → Prop
  | 0, d => Fit d
  | n + 1, d => Fit d ∧ ∀ ds, d = .tuple ds → ds.length ≤ 1000 ∧ ∀ x ∈ ds, Fn n x
theorem Fn.fit : ∀ {n : Nat} {d : PyData}, Fn n d → Fit d
  | 0, _, h => h
  | _ + 1, _, h => h.1
section
variable {X : Cx}
def rLtD (K : PySem.W.Frag) : R2 := fun x y H Q => ∃ d e, Dp K H x d ∧ Dp K H y e ∧ PySem.W.alike d e = true ∧ d ≠ .none ∧ d.depth ≤ 60 ∧ Q (.bl (PySem.W.dataLt d e)) H
theorem op_ltD (hu : X.A.units + 64 < cLine) : OpR X (compareOp .Lt) (rLtD X.K) := by
  intro pins s σ H x y v u Q I rx ry h
  obtain ⟨d, e, hd, he, al, nn, dp, q⟩ := h
  obtain ⟨as, r1⟩ := Dp.reads I d x v hd rx
  obtain ⟨bs, r2⟩ := Dp.reads I e y u he ry
  exact PySem.W.lt_data r1 r2 al nn (by omega) ⟨.bl _, H, I, rfl, q⟩
end
end DW
namespace DW
open PySem PySem.Spec PyProof.Rows L2
theorem noDict_all : ∀ {ds : List PyData}, PyData.hasDictAll ds = false → ∀ x ∈ ds, x.hasDict = false
  | [], _, x, h => by cases h
  | d :: ds, e, x, h => by
    have e' : (d.hasDict || PyData.hasDictAll ds) = false := e
    rw [Bool.or_eq_false_iff] at e'
    rcases List.mem_cons.mp h with rfl | h
    · exact e'.1
    · exact noDict_all e'.2 x h
theorem Dd.tup_inv {K : PySem.W.Frag} {H : Hp} {v : V} {ds : List PyData} (h : Dd K H v (.tuple ds)) : ∃ a xs, v = .ref a ∧ SqT K H a xs ∧ DpAll K H xs ds ∧ ∀ x ∈ ds, x.hasDict = false := by
  cases h with
  | base h n =>
    cases h with
    | tup hs ha => exact ⟨_, _, rfl, hs, ha, noDict_all n⟩
end DW
namespace LW
open PySem PySem.Spec PyProof.Rows L2 DW
def top (i : Nat) : Stmt := PySem.Challenge.pw_dawnway_k02_what_nets_tell.main.body.getD i (.Pass ⟨0, 0, 0, 0⟩)
def clsBody (s : Stmt) : List Stmt := match s with
  | .ClassDef (body := b) .. => b
  | _ => []
abbrev s_u_wall : Stmt := top 0
def m_UnknownName_init : Stmt := (clsBody (top 5)).getD 0 (.Pass ⟨0, 0, 0, 0⟩)
abbrev s_own_copy : Stmt := top 6
abbrev s_is_integer : Stmt := top 15
abbrev s_is_between : Stmt := top 16
abbrev s_is_name : Stmt := top 17
abbrev s_is_pair : Stmt := top 18
abbrev s_are_lasts : Stmt := top 20
abbrev s_works_fault : Stmt := top 21
abbrev s_u_chain_fault : Stmt := top 22
abbrev s_bounds_fault : Stmt := top 23
abbrev s_u_is_lot : Stmt := top 24
abbrev s_u_is_known : Stmt := top 25
abbrev s_u_is_work : Stmt := top 26
abbrev s_u_goes_round : Stmt := top 27
abbrev s_u_is_bound : Stmt := top 28
def m_Net_init : Stmt := (clsBody (top 33)).getD 0 (.Pass ⟨0, 0, 0, 0⟩)
def m_Net_lasts : Stmt := (clsBody (top 33)).getD 1 (.Pass ⟨0, 0, 0, 0⟩)
def m_Net_works : Stmt := (clsBody (top 33)).getD 2 (.Pass ⟨0, 0, 0, 0⟩)
def m_Net_bounds : Stmt := (clsBody (top 33)).getD 3 (.Pass ⟨0, 0, 0, 0⟩)
def m_Net_events : Stmt := (clsBody (top 33)).getD 4 (.Pass ⟨0, 0, 0, 0⟩)
def m_Net_deeds : Stmt := (clsBody (top 33)).getD 5 (.Pass ⟨0, 0, 0, 0⟩)
def m_Net_ends : Stmt := (clsBody (top 33)).getD 6 (.Pass ⟨0, 0, 0, 0⟩)
def m_Net_horizon : Stmt := (clsBody (top 33)).getD 7 (.Pass ⟨0, 0, 0, 0⟩)
def m_Net_told : Stmt := (clsBody (top 33)).getD 8 (.Pass ⟨0, 0, 0, 0⟩)
def m_Net_row : Stmt := (clsBody (top 33)).getD 9 (.Pass ⟨0, 0, 0, 0⟩)
def m_Net_work_of : Stmt := (clsBody (top 33)).getD 10 (.Pass ⟨0, 0, 0, 0⟩)
def m_Net_road : Stmt := (clsBody (top 33)).getD 11 (.Pass ⟨0, 0, 0, 0⟩)
def m_Net_with_bounds : Stmt := (clsBody (top 33)).getD 12 (.Pass ⟨0, 0, 0, 0⟩)
def m_Net_without : Stmt := (clsBody (top 33)).getD 13 (.Pass ⟨0, 0, 0, 0⟩)
def m_Net_with_lengths : Stmt := (clsBody (top 33)).getD 14 (.Pass ⟨0, 0, 0, 0⟩)
def m_Net_with_looks : Stmt := (clsBody (top 33)).getD 15 (.Pass ⟨0, 0, 0, 0⟩)
def m_Net_with_lasts : Stmt := (clsBody (top 33)).getD 16 (.Pass ⟨0, 0, 0, 0⟩)
def m_Net_renamed : Stmt := (clsBody (top 33)).getD 17 (.Pass ⟨0, 0, 0, 0⟩)
def m_Net_len : Stmt := (clsBody (top 33)).getD 18 (.Pass ⟨0, 0, 0, 0⟩)
def m_Net_contains : Stmt := (clsBody (top 33)).getD 19 (.Pass ⟨0, 0, 0, 0⟩)
def m_Net_eq : Stmt := (clsBody (top 33)).getD 20 (.Pass ⟨0, 0, 0, 0⟩)
def m_Net_str : Stmt := (clsBody (top 33)).getD 21 (.Pass ⟨0, 0, 0, 0⟩)
def m_Net_u_need_event : Stmt := (clsBody (top 33)).getD 22 (.Pass ⟨0, 0, 0, 0⟩)
abbrev s_net_fault : Stmt := top 34
abbrev s_u_told_rows : Stmt := top 35
abbrev s_law_dice : Stmt := top 37
abbrev s_law_roll : Stmt := top 38
abbrev s_law_pick : Stmt := top 39
abbrev s_law_shuffled : Stmt := top 40
abbrev s_law_nt_great : Stmt := top 41
abbrev s_law_nt_told : Stmt := top 42
abbrev s_law_sorted : Stmt := top 43
abbrev s_law_mixed : Stmt := top 44
abbrev s_law_road : Stmt := top 45
abbrev s_law_met : Stmt := top 46
abbrev s_law_rows_right : Stmt := top 47
abbrev s_law_equal_right : Stmt := top 48
abbrev s_law_right : Stmt := top 49
abbrev s_law : Stmt := top 50
end LW
namespace LW
open PySem PySem.Spec PyProof.Rows L2 DW
section
variable {P : Program} {w : World} {K : PySem.W.Frag} {mg : Str → Option Value} {base : Heap}
def spBet (K : PySem.W.Frag) : Sp := fun vs H Q _ => ∃ v d lo hi, vs = [v, .int lo, .int hi] ∧ Dd K H v d ∧ Q (.bl (betD lo hi d)) H
theorem scBet : FnScope ["value", "least", "most"] ["value", "least", "most"] (defScope s_is_between) := ⟨rfl, rfl, rfl, by decide +kernel, rfl, by decide +kernel, by decide +kernel⟩
theorem ok_bet {f : Addr} {fd : FuncData} (F : Fun K "is_between" "is_between" s_is_between f fd) (zI : mg "isinstance" = none) (zT : mg "int" = none) (zB : mg "bool" = none) : FnOk P w K mg base CX0 1 f fd ["value", "least", "most"] (spBet K) := by
  refine F.ok scBet (fun vs H Q E h => ?_) (fun cdv A outer s H vs Q E hr h => ?_)
  · obtain ⟨v, d, lo, hi, rfl, _⟩ := h
    rfl
  · obtain ⟨v, d, lo, hi, rfl, hd, k⟩ := h
    refine ⟨_, pss_one (ps_ret (pe_and (pe_callB call_isi (by rfl) zI (by rfl) (pa_cons (pv 0) (pa_cons (pe_bltn rfl zT (by rfl) (show RelV (.ty "int") (.type "int") from rfl)) pa_nil)))
      (pe_and (pe_not (pe_callB call_isi (by rfl) zI (by rfl) (pa_cons (pv 0) (pa_cons (pe_bltn rfl zB (by rfl) (show RelV (.ty "bool") (.type "bool") from rfl)) pa_nil))))
      (pe_one (pe_chain op_le op_le (pv 1) (pv 0) (pv 2)))))), ?_⟩
    refine rd_isi rfl hd (kit_int d) ⟨_, rfl, ?_⟩
    cases d with
    | int i =>
      have e : v = .int i := by cases hd with | base h _ => cases h; rfl
      subst e
      refine iteT (rd_isi rfl hd (kit_bool (.int i)) ⟨_, rfl, _, rfl, iteT ?_⟩)
      refine ⟨_, rfl, _, rfl, _, _, rfl, rfl, _, rfl, ?_⟩
      by_cases h1 : lo ≤ i
      · rw [decide_eq_true h1]
        refine iteT ⟨_, rfl, _, _, rfl, rfl, ?_⟩
        have z : betD lo hi (.int i) = decide (i ≤ hi) := by simp [betD, h1]
        rw [z] at k
        exact k
      · rw [decide_eq_false h1]
        have z : betD lo hi (.int i) = false := by simp [betD, h1]
        rw [z] at k
        exact iteF k
    | bool b => exact iteT (rd_isi rfl hd (kit_bool (.bool b)) ⟨_, rfl, _, rfl, iteF k⟩)
    | none => exact iteF k
    | str x => exact iteF k
    | list x => exact iteF k
    | tuple x => exact iteF k
    | dict x => exact iteF k
end
end LW
namespace LW
open PySem PySem.Spec PyProof.Rows L2 DW
def firstL : Str := "abcdefghijklmnopqrstuvwxyz"
def lettL : Str := "abcdefghijklmnopqrstuvwxyz0123456789."
def nameS (z : Str) : Bool := decide (1 ≤ z.length) && (decide (z.length ≤ 12) && (!decide (z = ("dawn" : Str)) && (decide ((z.cps.toList.getD 0 0) ∈ firstL.cps.toList) && z.cps.toList.all fun c => decide (c ∈ lettL.cps.toList))))
def isNameD (d : PyData) : Bool := match d with
  | .str z => nameS z | _ => false
structure Glo (mg : Str → Option Value) : Prop where
  far : ∃ t, mg "_TOO_LONG" = some (.int (10 ^ 40) t)
  lett : ∃ t, mg "MAX_LETTERS" = some (.int 12 t)
  dawn : ∃ t, mg "DAWN" = some (.str "dawn" t)
  fst : ∃ t, mg "_FIRST_LETTERS" = some (.str firstL t)
  all : ∃ t, mg "_LETTERS" = some (.str lettL t)
section
variable {P : Program} {w : World} {K : PySem.W.Frag} {mg : Str → Option Value} {base : Heap}
def spJ (K : PySem.W.Frag) (f : PyData → Bool) : Sp := fun vs H Q _ => ∃ v d, vs = [v] ∧ Dd K H v d ∧ Fit d ∧ ∀ H', Same H H' → Q (.bl (f d)) H'
theorem scInt : FnScope ["value"] ["value"] (defScope s_is_integer) := ⟨rfl, rfl, rfl, by decide +kernel, rfl, by decide +kernel, by decide +kernel⟩
theorem ok_int {f fB : Addr} {fd dB : FuncData} (F : Fun K "is_integer" "is_integer" s_is_integer f fd) (GB : FnOk P w K mg base CX0 1 fB dB ["value", "least", "most"] (spBet K)) (kB : PySem.W.keepIn K (.ref fB) = true) (bB : Binds K dB ["value", "least", "most"] []) (gB : mg "is_between" = some (.ref fB)) (G : Glo mg) :
    FnOk P w K mg base CX0 2 f fd ["value"] (spJ K (betD (1 - 10 ^ 40) (10 ^ 40 - 1))) := by
  refine F.ok scInt (fun vs H Q E h => ?_) (fun cdv A outer s H vs Q E hr h => ?_)
  · obtain ⟨v, d, rfl, _⟩ := h
    rfl
  · obtain ⟨v, d, rfl, hd, _, k⟩ := h
    obtain ⟨t, g⟩ := G.far
    have pf : ∀ {pos}, PE (cxOf CX0 P w K mg base ["value"] "is_integer" (defScope s_is_integer) f cdv A outer s H E).nox (.Name "_TOO_LONG" pos) (tC (.int (10 ^ 40))) := pe_glob rfl g ⟨t, rfl⟩
    refine ⟨_, pss_one (ps_ret (pe_call GB hr rfl gB kB bB .nil pass0 (pa_cons (pv 0) (pa_cons (pe_op op_sub pe_int pf) (pa_cons (pe_op op_sub pf pe_int) pa_nil))))), ?_⟩
    exact ⟨_, rfl, _, _, rfl, rfl, _, _, rfl, rfl, v, d, _, _, rfl, hd, k _ (Same.refl H)⟩
theorem scName : FnScope ["value", "letter"] ["value"] (defScope s_is_name) := ⟨rfl, rfl, rfl, by decide +kernel, rfl, by decide +kernel, by decide +kernel⟩
theorem dec_strV {a b : Str} : decide (V.str a = V.str b) = decide (a = b) := by
  by_cases h : a = b
  · subst h
    simp
  · rw [decide_eq_false h, decide_eq_false (by intro z; cases z; exact h rfl)]
/-- all([c in LETTERS for c in s]) -/
theorem rd_allS {z L : Str} {H : Hp} {x1 : Option V} {Q : VK} (hz : z.length ≤ 1000) (k : ∀ H', Same H H' → Q (.bl (z.cps.toList.all fun c => decide (c ∈ L.cps.toList))) H') :
    tCB (rAll K) (tCons (tLc (iStr (tVar 0)) (gName 1) tYes (tOp (fun x y H Q => ∃ (c : Nat) (z : Str), x = .str ⟨#[c]⟩ ∧ y = .str z ∧ Q (.bl (decide (c ∈ z.cps.toList))) H) (tVar 1) (tC (.str L))) [1]) tNil) [some (.str z), x1] H Q := by
  refine ⟨_, rfl, z, rfl, fun D hD => lc_str (fun i H' => Same H H' ∧ H' D = some (.lst ((z.cps.toList.take i).map fun c => V.bl (decide (c ∈ L.cps.toList))))) ⟨same_new hD, upd_same⟩ (fun i c H' hc p => ⟨rfl, tyes ?_⟩) (fun H' p => ?_)⟩
  · obtain ⟨s1, hy⟩ := p
    have hc2 : z.cps.toList[i]? = some c := by rw [← hc]; simp
    have hi : i < z.cps.toList.length := by
      rcases Nat.lt_or_ge i z.cps.toList.length with q | q
      · exact q
      · rw [List.getElem?_eq_none q] at hc2; cases hc2
    refine ⟨_, rfl, c, L, rfl, rfl, _, hy, ?_, same_mut s1 hD, ?_⟩
    · have h1 : z.cps.toList.length = z.length := by simp [Str.length]
      rw [List.length_map, List.length_take, sizeLine_eq]
      omega
    · rw [upd_same, List.take_add_one, hc2, List.map_append]
      rfl
  · obtain ⟨s1, hy⟩ := p
    have e : z.cps.toList.take z.cps.size = z.cps.toList := List.take_of_length_le (by simp)
    rw [e] at hy
    have e2 : (z.cps.toList.map fun c => V.bl (decide (c ∈ L.cps.toList))) = ((z.cps.toList.map fun c => decide (c ∈ L.cps.toList)).map V.bl) := by rw [List.map_map]; rfl
    rw [e2] at hy
    refine ⟨D, _, rfl, SqL.of hy, ?_⟩
    have e3 : (z.cps.toList.map fun c => decide (c ∈ L.cps.toList)).all id = z.cps.toList.all fun c => decide (c ∈ L.cps.toList) := by rw [List.all_map]; rfl
    rw [e3]
    exact k H' s1
theorem fin_all {H : Hp} {D : Addr} {bs : List Bool} {Q : VK} (hy : H D = some (.lst (bs.map V.bl))) (q : Q (.bl (bs.all id)) H) : rAll K [.ref D] H Q := ⟨D, bs, rfl, SqL.of hy, q⟩
theorem ok_name {f : Addr} {fd : FuncData} (F : Fun K "is_name" "is_name" s_is_name f fd) (G : Glo mg) (zI : mg "isinstance" = none) (zS : mg "str" = none) (zL : mg "len" = none) (zA : mg "all" = none) :
    FnOk P w K mg base CX0 1 f fd ["value"] (spJ K isNameD) := by
  refine F.ok scName (fun vs H Q E h => ?_) (fun cdv A outer s H vs Q E hr h => ?_)
  · obtain ⟨v, d, rfl, _⟩ := h
    rfl
  · obtain ⟨v, d, rfl, hd, ft, k⟩ := h
    obtain ⟨t1, g1⟩ := G.lett
    obtain ⟨t2, g2⟩ := G.dawn
    obtain ⟨t3, g3⟩ := G.fst
    obtain ⟨t4, g4⟩ := G.all
    refine ⟨_, pss_cons (ps_if (PW.pt (pw_or (pt_not (pt_val (pe_callB call_isi (by rfl) zI (by rfl) (pa_cons (pv 0) (pa_cons (pe_bltn rfl zS (by rfl) (show RelV (.ty "str") (.type "str") from rfl)) pa_nil)))))
        (pw_or (pt_not (pt_chain op_le op_le pe_int (pe_callB call_len_str (by rfl) zL PySem.boot_len (pa_cons (pv 0) pa_nil)) (pe_glob rfl g1 (show RelV (.int 12) (.int 12 t1) from ⟨t1, rfl⟩))))
        (pw_or1 (pt_cmpR op_eq (pv 0) (pe_glob rfl g2 (show RelV (.str "dawn") (.str "dawn" t2) from ⟨t2, rfl⟩)) (nomark _))))))
        (pss_one (ps_ret pe_bl)) pss_nil)
      (pss_one (ps_ret (pe_and (pe_cmpR op_in_sign (pe_ix ix_str (pv 0) pe_int (fun _ _ => rfl)) (pe_glob rfl g3 (show RelV (.str firstL) (.str firstL t3) from ⟨t3, rfl⟩)) (by rfl))
        (pe_one (pe_callB (cr_all rfl) (by rfl) zA (by decide +kernel) (pa_cons (pe_lc (own := [("letter", 1)]) (g := gName 1) (tt := tYes) rfl scName.nd (pi_str (pv 0)) (blkOk_by (own := [("letter", 1)]) (N := ["value", "letter"]) (sc := defScope s_is_name) (by decide +kernel))
          (fun _ _ _ _ _ => pg_name (i := 1) scName.nd rfl (Or.inl rfl)) (fun _ _ _ _ _ => pts_nil) (fun _ _ _ _ _ => pe_cmpR op_in_sign (pv 1) (pe_glob rfl g4 (show RelV (.str lettL) (.str lettL t4) from ⟨t4, rfl⟩)) (by rfl))) pa_nil)))))), ?_⟩
    have no : isNameD d = false → Q (.bl false) H := fun e => by
      have z := k H (Same.refl H)
      rw [e] at z
      exact z
    refine rd_isi rfl hd (kit_str d) ⟨_, rfl, ?_⟩
    match d, hd, ft, k, no with
    | .str z, hd, ft, k, no =>
      have e : v = .str z := by cases hd with | base h _ => cases h; rfl
      subst e
      have hz := ft z rfl
      have hzs : z.length ≤ sizeLine := by rw [sizeLine_eq]; omega
      refine iteF ⟨_, rfl, z, rfl, hzs, _, _, rfl, rfl, _, rfl, ?_⟩
      by_cases h1 : (1 : Int) ≤ z.length
      · rw [decide_eq_true h1]
        refine iteT ⟨_, _, rfl, rfl, _, rfl, ?_⟩
        by_cases h2 : (z.length : Int) ≤ 12
        · rw [decide_eq_true h2]
          refine iteF ⟨_, rfl, rfl, _, rfl, ?_⟩
          rw [dec_strV]
          by_cases h3 : z = ("dawn" : Str)
          · rw [decide_eq_true h3]
            exact iteT (no (by show nameS z = false; simp [nameS, h3]))
          · rw [decide_eq_false h3]
            refine iteF ?_
            have n1 : 1 ≤ z.length := by omega
            have n2 : z.length ≤ 12 := by omega
            have hc : ∃ c, z.cps.toList[0]? = some c := by
              have q : 0 < z.cps.toList.length := by
                have h1 : z.cps.toList.length = z.length := by simp [Str.length]
                omega
              exact ⟨_, List.getElem?_eq_getElem q⟩
            obtain ⟨c, hc⟩ := hc
            have ed : z.cps.toList.getD 0 0 = c := by rw [List.getD_eq_getElem?_getD, hc]; rfl
            refine ⟨_, rfl, z, 0, c, rfl, rfl, hzs, atI_nat (j := 0) hc, c, firstL, rfl, rfl, _, rfl, ?_⟩
            by_cases h4 : c ∈ firstL.cps.toList
            · rw [decide_eq_true h4]
              refine iteT (rd_allS hz fun H' s1 => ?_)
              have q := k H' s1
              have e : isNameD (.str z) = z.cps.toList.all fun c => decide (c ∈ lettL.cps.toList) := by
                show nameS z = _
                simp only [nameS, ed, decide_eq_true n1, decide_eq_true n2, decide_eq_false h3, decide_eq_true h4, Bool.not_false, Bool.true_and]
              rw [e] at q
              exact q
            · rw [decide_eq_false h4]
              refine iteF (no ?_)
              show nameS z = false
              simp only [nameS, ed, decide_eq_false h4, Bool.false_and, Bool.and_false]
        · rw [decide_eq_false h2]
          refine iteT (no ?_)
          have n2 : ¬ z.length ≤ 12 := by omega
          show nameS z = false
          simp only [nameS, decide_eq_false n2, Bool.false_and, Bool.and_false]
      · rw [decide_eq_false h1]
        refine iteF ⟨_, rfl, iteT (no ?_)⟩
        have n1 : ¬ 1 ≤ z.length := by omega
        show nameS z = false
        simp only [nameS, decide_eq_false n1, Bool.false_and]
    | .none, _, _, _, no => exact iteT (no rfl)
    | .bool _, _, _, _, no => exact iteT (no rfl)
    | .int _, _, _, _, no => exact iteT (no rfl)
    | .list _, _, _, _, no => exact iteT (no rfl)
    | .tuple _, _, _, _, no => exact iteT (no rfl)
    | .dict _, _, _, _, no => exact iteT (no rfl)
end
end LW
namespace LW
open PySem PySem.Spec PyProof.Rows L2 DW
section
variable {P : Program} {w : World} {K : PySem.W.Frag} {mg : Str → Option Value} {base : Heap}
def spJn (K : PySem.W.Frag) (n : Nat) (f : PyData → Bool) : Sp := fun vs H Q _ => ∃ v d, vs = [v] ∧ Dd K H v d ∧ Fn n d ∧ ∀ H', Same H H' → Q (.bl (f d)) H'
/-- all([f(x) for x in t]), t a tuple of data -/
theorem rd_allT {f : PyData → Bool} {n : Nat} {a : Addr} {xs : List V} {ds : List PyData} {H : Hp} {x1 : Option V} {rest : L2.St} {sp : Sp} {Q : VK} (ha : SqT K H a xs) (hp : DpAll K H xs ds) (hn : ∀ x ∈ ds, x.hasDict = false) (hf : ∀ x ∈ ds, Fn n x) (hl : ds.length ≤ 1000)
    (call : ∀ (v : V) (d : PyData) (H1 : Hp) (R : VK), Dd K H1 v d → Fn n d → (∀ H2, Same H1 H2 → R (.bl (f d)) H2) → sp [v] H1 R E0) (k : ∀ H', Same H H' → Q (.bl (ds.all f)) H') :
    tCB (rAll K) (tCons (tLc (iTup K (tVar 0)) (gName 1) tYes (tCall sp [] E0 (tCons (tVar 1) tNil)) [1]) tNil) (some (.ref a) :: x1 :: rest) H Q := by
  refine ⟨_, rfl, a, rfl, ⟨xs, ha⟩, fun D hD => lc_tup (K := K) (xs := xs) (fun i H' => Same H H' ∧ H' D = some (.lst (((ds.take i).map f).map V.bl))) ⟨same_new hD, upd_same⟩ (fun i H' _ p => sqT_same p.1 ha)
    (fun i x H' hx p => ⟨rfl, tyes ⟨_, rfl, ?_⟩⟩) (fun H' p => ?_)⟩
  · obtain ⟨s1, hy⟩ := p
    obtain ⟨d, hd, hr⟩ := DpAll.at hp hx
    have hm : d ∈ ds := List.mem_of_getElem? hd
    refine call x d H' _ (.base (Dp.same s1 hr) (hn d hm)) (hf d hm) fun H2 s2 => ⟨_, s2 _ _ hy, ?_, same_mut (s1.trans s2) hD, ?_⟩
    · rw [List.length_map, List.length_map, List.length_take, sizeLine_eq]
      omega
    · rw [upd_same, takeSucc hd]
      simp
  · obtain ⟨s1, hy⟩ := p
    rw [DpAll.length hp, List.take_length] at hy
    refine fin_all hy ?_
    rw [List.all_map]
    exact k H' s1
def pairD (d : PyData) : Bool := match d with
  | .tuple ds => decide (ds.length = 2) | _ => false
theorem scPair : FnScope ["value"] ["value"] (defScope s_is_pair) := ⟨rfl, rfl, rfl, by decide +kernel, rfl, by decide +kernel, by decide +kernel⟩
theorem ok_pair {f : Addr} {fd : FuncData} (F : Fun K "is_pair" "is_pair" s_is_pair f fd) (zI : mg "isinstance" = none) (zT : mg "tuple" = none) (zL : mg "len" = none) : FnOk P w K mg base CX0 1 f fd ["value"] (spJn K 0 pairD) := by
  refine F.ok scPair (fun vs H Q E h => ?_) (fun cdv A outer s H vs Q E hr h => ?_)
  · obtain ⟨v, d, rfl, _⟩ := h
    rfl
  · obtain ⟨v, d, rfl, hd, _, k⟩ := h
    have k := k H (Same.refl H)
    refine ⟨_, pss_one (ps_ret (pe_and (pe_callB call_isi (by rfl) zI (by rfl) (pa_cons (pv 0) (pa_cons (pe_bltn rfl zT (by rfl) (show RelV (.ty "tuple") (.type "tuple") from rfl)) pa_nil)))
      (pe_one (pe_cmpR op_eq (pe_callB call_len_seq (by rfl) zL PySem.boot_len (pa_cons (pv 0) pa_nil)) pe_int (nomark _))))), ?_⟩
    refine rd_isi rfl hd (kit_tup d) ⟨_, rfl, ?_⟩
    match d, hd, k with
    | .tuple ds, hd, k =>
      obtain ⟨a, xs, rfl, hs, ha, _⟩ := hd.tup_inv
      refine iteT ⟨_, rfl, a, xs, rfl, .inr hs, rfl, ?_⟩
      have e : decide (V.int ((xs.length : Nat) : Int) = V.int 2) = decide (ds.length = 2) := by
        rw [DpAll.length ha, dec_int]
        by_cases q : ds.length = 2
        · rw [q]; rfl
        · rw [decide_eq_false q, beq_eq_false_iff_ne]; omega
      rw [e]
      exact k
    | .none, _, k => exact iteF k
    | .bool _, _, k => exact iteF k
    | .int _, _, k => exact iteF k
    | .str _, _, k => exact iteF k
    | .list _, _, k => exact iteF k
    | .dict _, _, k => exact iteF k
end
end LW
namespace DW
open PySem PySem.Spec PyProof.Rows L2
/-! ### data of tuples at a depth -/
def Td (H : Hp) : Nat → V → PyData → Prop
  | 0, _, _ => False
  | n + 1, v, d => (v = .non ∧ d = .none) ∨ (∃ b, v = .bl b ∧ d = .bool b) ∨ (∃ i, v = .int i ∧ d = .int i) ∨ (∃ x, v = .str x ∧ d = .str x) ∨
    ∃ a xs ds, v = .ref a ∧ d = .tuple ds ∧ H a = some (.tup xs) ∧ xs.length < 1000 ∧ Paired (Td H n) xs ds
def KeepT (H H' : Hp) : Prop := ∀ a xs, H a = some (.tup xs) → H' a = some (.tup xs)
theorem Same.keepT {H H' : Hp} (s : Same H H') : KeepT H H' := fun a xs e => s a _ e
theorem Td.keep {H H' : Hp} (k : KeepT H H') : ∀ {n : Nat} {v : V} {d : PyData}, Td H n v d → Td H' n v d
  | 0, _, _, h => h.elim
  | n + 1, v, d, h => by
    rcases h with h | h | h | h | ⟨a, xs, ds, e1, e2, e3, e4, e5⟩
    · exact .inl h
    · exact .inr (.inl h)
    · exact .inr (.inr (.inl h))
    · exact .inr (.inr (.inr (.inl h)))
    · exact .inr (.inr (.inr (.inr ⟨a, xs, ds, e1, e2, k _ _ e3, e4, pairedMono (fun x y z => Td.keep k z) e5⟩)))
theorem Td.int {H : Hp} {n : Nat} {v : V} {i : Int} (h : Td H (n + 1) v (.int i)) : v = .int i := by
  rcases h with h | ⟨b, _, h⟩ | ⟨j, e, h⟩ | ⟨x, _, h⟩ | ⟨a, xs, ds, _, h, _⟩
  · exact absurd h.2 (by simp)
  · cases h
  · cases h; exact e
  · cases h
  · cases h
theorem is_no {K : PySem.W.Frag} {a b : TS} {D : Ends} {σ : L2.St} {H : Hp} {T t : String} {v : V} (hv : σ[0]? = some (some v)) (ty : TyX K H v (.type t)) (hk : kitB t T = some false) (h : b D σ H) :
    tIfS (tB (tCB (rIsi K) (tCons (tVar 0) (tCons (tC (.ty T)) tNil)))) a b D σ H := ⟨v, hv, v, .ty T, _, _, _, rfl, .ty _, ty, kit_ty hk, _, rfl, ite2 (fun z => nomatch z) (fun _ => h)⟩
theorem is_yes {K : PySem.W.Frag} {a b : TS} {D : Ends} {σ : L2.St} {H : Hp} {T t : String} {v : V} (hv : σ[0]? = some (some v)) (ty : TyX K H v (.type t)) (hk : kitB t T = some true) (h : a D σ H) :
    tIfS (tB (tCB (rIsi K) (tCons (tVar 0) (tCons (tC (.ty T)) tNil)))) a b D σ H := ⟨v, hv, v, .ty T, _, _, _, rfl, .ty _, ty, kit_ty hk, _, rfl, ite2 (fun _ => h) (fun z => absurd rfl z)⟩
end DW
namespace DW
open PySem PySem.Spec PyProof.Rows L2
theorem storeKey : StoreFacts "KeyError" [.type "KeyError", .type "LookupError", .type "Exception", .type "BaseException", .type "object"] "object.__setattr__" "object" :=
  ⟨by kernel_rfl, .of (owner := "object") (n := "__setattr__") (by rw [typeLookup_type, builtinLookup_eq_fast]; kernel_rfl) (by decide +kernel) (by decide +kernel) (by decide +kernel)
    (by first | exact .inl (by decide +kernel) | exact .inr (by decide +kernel)) (by rw [isSubtype_type]; kernel_rfl),
   (PySem.F.store_RuntimeError).entry, by decide +kernel, by decide +kernel, by decide +kernel, fun a b c => by unfold argsOk; kernel_rfl, fun self => by kernel_rfl⟩
mutual
theorem Td.dp {K : PySem.W.Frag} {H : Hp} : ∀ {n : Nat} {v : V} {d : PyData}, Td H n v d → Dp K H v d ∧ d.hasDict = false
  | 0, _, _, h => h.elim
  | n + 1, v, d, h => by
    rcases h with ⟨rfl, rfl⟩ | ⟨b, rfl, rfl⟩ | ⟨i, rfl, rfl⟩ | ⟨x, rfl, rfl⟩ | ⟨a, xs, ds, rfl, rfl, ha, _, hp⟩
    · exact ⟨.non, rfl⟩
    · exact ⟨.bl b, rfl⟩
    · exact ⟨.int i, rfl⟩
    · exact ⟨.str x, rfl⟩
    · obtain ⟨z1, z2⟩ := Td.dpAll (K := K) hp
      exact ⟨.tup (SqT.of ha) z1, z2⟩
theorem Td.dpAll {K : PySem.W.Frag} {H : Hp} : ∀ {n : Nat} {xs : List V} {ds : List PyData}, Paired (Td H n) xs ds → DpAll K H xs ds ∧ PyData.hasDictAll ds = false
  | _, _, _, .nil => ⟨.nil, rfl⟩
  | n, _, _, .cons r k => by
    obtain ⟨a1, a2⟩ := Td.dp (K := K) r
    obtain ⟨b1, b2⟩ := Td.dpAll (K := K) k
    exact ⟨.cons a1 b1, by show (_ || _) = false; rw [a2, b2]; rfl⟩
end
/-- what is copied -/
def Cp (H : Hp) (v : V) (d : PyData) : Prop := Td H 4 v d ∨ (∃ a xs ds, v = .ref a ∧ d = .list ds ∧ H a = some (.lst xs) ∧ xs.length < 1000 ∧ Paired (Td H 3) xs ds) ∨
  ∃ (a : Addr) (kvs : List (Key × Int)), v = .ref a ∧ d = .dict (kvs.map fun p => (keyD p.1, PyData.int p.2)) ∧ H a = some (.dK (kvs.map fun p => (p.1, V.int p.2))) ∧ kvs.length ≤ 1
theorem Cp.dd {K : PySem.W.Frag} {H : Hp} {v : V} {d : PyData} (h : Cp H v d) : Dd K H v d := by
  rcases h with h | ⟨a, xs, ds, rfl, rfl, ha, _, hp⟩ | ⟨a, kvs, rfl, rfl, ha, _⟩
  · obtain ⟨z1, z2⟩ := Td.dp (K := K) h
    exact .base z1 z2
  · obtain ⟨z1, z2⟩ := Td.dpAll (K := K) hp
    exact .base (.lst (SqL.of ha) z1) z2
  · exact .dct ha
def plainO : HO → Bool
  | .tup _ => true | .lst _ => true | .dK _ => true | _ => false
def KeepD (H H' : Hp) : Prop := ∀ b o, plainO o = true → H b = some o → H' b = some o
theorem Same.keepD {H H' : Hp} (s : Same H H') : KeepD H H' := fun b o _ e => s b o e
theorem KeepD.upd {H : Hp} {a : Addr} {o u : HO} (e : H a = some u) (n : plainO u = false) : KeepD H (upd H a o) := fun b z p q => by
  rw [upd_ne fun y => ?_]
  · exact q
  · rw [y, e] at q; cases q; rw [n] at p; cases p
theorem KeepD.trans {H H1 H2 : Hp} (a : KeepD H H1) (b : KeepD H1 H2) : KeepD H H2 := fun c o p h => b c o p (a c o p h)
theorem Cp.keep {H H' : Hp} {v : V} {d : PyData} (k : KeepD H H') (h : Cp H v d) : Cp H' v d := by
  have kt : KeepT H H' := fun a xs e => k a _ rfl e
  rcases h with h | ⟨a, xs, ds, rfl, rfl, ha, hl, hp⟩ | ⟨a, kvs, rfl, rfl, ha, hl⟩
  · exact .inl (Td.keep kt h)
  · exact .inr (.inl ⟨a, xs, ds, rfl, rfl, k _ _ rfl ha, hl, pairedMono (fun _ _ z => Td.keep kt z) hp⟩)
  · exact .inr (.inr ⟨a, kvs, rfl, rfl, k _ _ rfl ha, hl⟩)
theorem plain_exq {a C t : Addr} {d : Option Addr} : plainO (exq a C d t) = false := rfl
end DW
namespace DW
open PySem PySem.Spec PyProof.Rows L2
theorem none_of {H H' : Hp} {a : Addr} (s : Same H H') (n : H' a = none) : H a = none := by
  cases e : H a with
  | none => rfl
  | some o =>
    rw [s a o e] at n
    cases n
/-- raise e, where e gives an own exception without a dict -/
theorem pmk_exq0 {X : Cx} {e : Expr} {te : TE} (hx : X.ex = []) (he : PE X e te) : PMk X e (fun σ H Q => te σ H fun x H1 => ∃ (a C t : Addr), x = .ref a ∧ H1 a = some (exq a C none t) ∧ Fr0 X.H_0 a ∧ Raises X (.ref C) ∧ Q (.ref C) none (delH H1 a)) := by
  intro pins s σ H Q I h
  refine wpAny_mono (he.run pins s σ H _ I h) (fun u s1 hu => ?_) fun _ _ x => x
  obtain ⟨v, H1, I1, r1, a, C, t, rfl, ha, h0, hr, q⟩ := hu
  cases (show u = Value.ref a from r1)
  have z := exq_at I1.hok ha
  obtain ⟨G, gs, ga, J⟩ := I1.untrack (φ := fun h => h.get? a = some (exr C none t)) ha h0 hx
  exact ⟨a, _, _, { s1 with heap := G }, _, .ref C, none, rfl, J, gs, ga, z, ⟨rfl, rfl⟩, rfl, rfl, delH_same, rfl, I1.bare, hr, q⟩
/-- what is never come to -/
theorem dead {X : Cx} {st : List Stmt} : PSs X st (fun _ _ _ => False) := ⟨fun _ _ _ _ _ _ h => h.elim⟩
theorem deadE {X : Cx} {e : Expr} : PE X e (fun _ _ _ => False) := ⟨fun _ _ _ _ _ _ h => h.elim⟩
theorem deadT {X : Cx} {e : Expr} : PT X e (fun _ _ _ => False) := ⟨fun _ _ _ _ _ _ h => h.elim⟩
abbrev bmV : List Value := [.type "ValueError", .type "Exception", .type "BaseException", .type "object"]
/-- an own error without an __init__ of its own -/
structure Pl (K : PySem.W.Frag) (mg : Str → Option Value) (nm : Str) (C : Addr) : Prop where
  ex : ExK K C
  g : mg nm = some (.ref C)
  q : PySem.W.excInitIn K C bmV "ValueError.__new__" = true
  hi : PySem.W.findIn K (.ref C) "__init__" = some (some (.builtin "ValueError.__init__"))
  ty : PySem.W.typeIn K (.ref C) = some (.type "type")
theorem del_new2 {H : Hp} {a t : Addr} {v : V} {C : Addr} (na : H a = none) (ne : t ≠ a) : delH (upd (upd H t (.tup [v])) a (exq a C none t)) a = upd H t (.tup [v]) := delH_new (by rw [upd_ne (Ne.symm ne)]; exact na)
/-- the raise of such an error: nothing that stood changes -/
theorem rd_pl {X : Cx} {C : Addr} {m : Str} {σ : L2.St} {H : Hp} {Q : XK} (r : Raises X (.ref C)) (h0 : ∀ a, H a = none → X.H_0 a = none) (k : ∀ H', Same H H' → Q (.ref C) none H') :
    tExP C (tC (.str m)) σ H fun x H1 => ∃ (a C t : Addr), x = .ref a ∧ H1 a = some (exq a C none t) ∧ Fr0 X.H_0 a ∧ Raises X (.ref C) ∧ Q (.ref C) none (delH H1 a) := fun a t na nt ne =>
  ⟨a, C, t, rfl, upd_same, fr0_none (h0 a na), r, by rw [del_new2 na ne]; exact k _ (same_new nt)⟩
end DW
namespace DW
open PySem PySem.Spec PyProof.Rows L2
section
variable {J : It} {n : Nat} {G : Hp → Prop} {Y : Nat → Hp → V → Hp → Prop}
/-- a dict comprehension over a walk -/
theorem dc_it (w : Walk J n G Y) {g : TG} {tt : TT} {tk tv : TE} {vs : List Nat} {σ : L2.St} {H1 : Hp} {D : Addr} {Qd : Hp → Prop} (Pv : Nat → Hp → Prop) (h0 : Pv 0 (upd H1 D (.dK []))) (hG : ∀ i H, i ≤ n → Pv i H → G H)
    (hs : ∀ i x H H', i < n → Pv i H → Y i H x H' → g x (wipe σ vs) H' fun σ2 H2 => wipe σ2 vs = wipe σ vs ∧ tt σ2 H2 fun b H3 =>
      if b = true then tk σ2 H3 fun y H4 => tv σ2 H4 fun z H5 => ∃ kvs k, y = kV k ∧ H5 D = some (.dK kvs) ∧ kvs.length < sizeLine ∧ Pv (i + 1) (upd H5 D (.dK (putK kvs k z))) else Pv (i + 1) H3) (hd : ∀ H, Pv n H → Qd H) :
    ∃ W : Nat → Nat → Hp → Prop, (∃ m, W 0 m (upd H1 D (.dK []))) ∧ ∀ i m H, W i m H →
      (J.stop i H ∧ Qd H) ∨ (J.go i H ∧ ∃ Nx : Hp → Prop, (∀ H', Nx H' → ∃ m', m' < m ∧ W (i + 1) m' H') ∧ ∀ x H', J.yld i H x H' → g x (wipe σ vs) H' fun σ2 H2 => wipe σ2 vs = wipe σ vs ∧ tt σ2 H2 fun b H3 =>
        if b = true then tk σ2 H3 fun y H4 => tv σ2 H4 fun z H5 => ∃ kvs k, y = kV k ∧ H5 D = some (.dK kvs) ∧ kvs.length < sizeLine ∧ Nx (upd H5 D (.dK (putK kvs k z))) else Nx H3) := by
  refine ⟨fun i m H => m = n - i ∧ i ≤ n ∧ Pv i H, ⟨n, by simp, Nat.zero_le _, h0⟩, ?_⟩
  rintro i m H ⟨rfl, hi, p⟩
  have q := hG i H hi p
  by_cases hlt : i < n
  · exact .inr ⟨w.goes i H hlt q, Pv (i + 1), fun H' p' => ⟨n - (i + 1), by omega, rfl, hlt, p'⟩, fun x H' y => hs i x H H' hlt p (w.yields i H x H' hlt q y)⟩
  · have e : i = n := by omega
    subst e
    exact .inl ⟨w.stops H q, hd H p⟩
/-- .. with tuple keys -/
theorem dcT_it (w : Walk J n G Y) {g : TG} {tt : TT} {tk tv : TE} {vs : List Nat} {σ : L2.St} {H1 : Hp} {D : Addr} {Qd : Hp → Prop} (Pv : Nat → Hp → Prop) (h0 : Pv 0 (upd H1 D (.dT []))) (hG : ∀ i H, i ≤ n → Pv i H → G H)
    (hs : ∀ i x H H', i < n → Pv i H → Y i H x H' → g x (wipe σ vs) H' fun σ2 H2 => wipe σ2 vs = wipe σ vs ∧ tt σ2 H2 fun b H3 =>
      if b = true then tk σ2 H3 fun y H4 => tv σ2 H4 fun z H5 => ∃ kvs k c, y = .ref c ∧ H5 c = some (.tup (k.map kV)) ∧ H5 D = some (.dT kvs) ∧ kvs.length < sizeLine ∧ Pv (i + 1) (upd H5 D (.dT (putK kvs k z))) else Pv (i + 1) H3) (hd : ∀ H, Pv n H → Qd H) :
    ∃ W : Nat → Nat → Hp → Prop, (∃ m, W 0 m (upd H1 D (.dT []))) ∧ ∀ i m H, W i m H →
      (J.stop i H ∧ Qd H) ∨ (J.go i H ∧ ∃ Nx : Hp → Prop, (∀ H', Nx H' → ∃ m', m' < m ∧ W (i + 1) m' H') ∧ ∀ x H', J.yld i H x H' → g x (wipe σ vs) H' fun σ2 H2 => wipe σ2 vs = wipe σ vs ∧ tt σ2 H2 fun b H3 =>
        if b = true then tk σ2 H3 fun y H4 => tv σ2 H4 fun z H5 => ∃ kvs k c, y = .ref c ∧ H5 c = some (.tup (k.map kV)) ∧ H5 D = some (.dT kvs) ∧ kvs.length < sizeLine ∧ Nx (upd H5 D (.dT (putK kvs k z))) else Nx H3) := by
  refine ⟨fun i m H => m = n - i ∧ i ≤ n ∧ Pv i H, ⟨n, by simp, Nat.zero_le _, h0⟩, ?_⟩
  rintro i m H ⟨rfl, hi, p⟩
  have q := hG i H hi p
  by_cases hlt : i < n
  · exact .inr ⟨w.goes i H hlt q, Pv (i + 1), fun H' p' => ⟨n - (i + 1), by omega, rfl, hlt, p'⟩, fun x H' y => hs i x H H' hlt p (w.yields i H x H' hlt q y)⟩
  · have e : i = n := by omega
    subst e
    exact .inl ⟨w.stops H q, hd H p⟩
/-- the second loop of a comprehension -/
theorem in_it (w : Walk J n G Y) {g : TG} {tt : TT} {te : TE} {vs : List Nat} {σ : L2.St} {H0 : Hp} {D : Addr} {Nx : Hp → Prop} (Pv : Nat → Hp → Prop) (h0 : Pv 0 H0) (hG : ∀ i H, i ≤ n → Pv i H → G H)
    (hs : ∀ i x H H', i < n → Pv i H → Y i H x H' → g x (wipe σ vs) H' fun σ2 H2 => wipe σ2 vs = wipe σ vs ∧ tt σ2 H2 fun b H3 =>
      if b = true then te σ2 H3 fun y H4 => ∃ acc, H4 D = some (.lst acc) ∧ acc.length < sizeLine ∧ Pv (i + 1) (upd H4 D (.lst (acc ++ [y]))) else Pv (i + 1) H3) (hd : ∀ H, Pv n H → Nx H) :
    ∃ W : Nat → Nat → Hp → Prop, (∃ m, W 0 m H0) ∧ ∀ i m H, W i m H →
      (J.stop i H ∧ Nx H) ∨ (J.go i H ∧ ∃ N1 : Hp → Prop, (∀ H', N1 H' → ∃ m', m' < m ∧ W (i + 1) m' H') ∧ ∀ x H', J.yld i H x H' → g x (wipe σ vs) H' fun σ2 H2 => wipe σ2 vs = wipe σ vs ∧ tt σ2 H2 fun b H3 =>
        if b = true then te σ2 H3 fun y H4 => ∃ acc, H4 D = some (.lst acc) ∧ acc.length < sizeLine ∧ N1 (upd H4 D (.lst (acc ++ [y]))) else N1 H3) := by
  refine ⟨fun i m H => m = n - i ∧ i ≤ n ∧ Pv i H, ⟨n, by simp, Nat.zero_le _, h0⟩, ?_⟩
  rintro i m H ⟨rfl, hi, p⟩
  have q := hG i H hi p
  by_cases hlt : i < n
  · exact .inr ⟨w.goes i H hlt q, Pv (i + 1), fun H' p' => ⟨n - (i + 1), by omega, rfl, hlt, p'⟩, fun x H' y => hs i x H H' hlt p (w.yields i H x H' hlt q y)⟩
  · have e : i = n := by omega
    subst e
    exact .inl ⟨w.stops H q, hd H p⟩
/-- the first loop of one with two -/
theorem lc2_it (w : Walk J n G Y) {wi1 : TI} {g g1 : TG} {tt tt1 : TT} {te : TE} {vs vs1 : List Nat} {σ : L2.St} {H1 : Hp} {D : Addr} {Qd : Hp → Prop} (Pv : Nat → Hp → Prop) (h0 : Pv 0 (upd H1 D (.lst []))) (hG : ∀ i H, i ≤ n → Pv i H → G H)
    (hs : ∀ i x H H', i < n → Pv i H → Y i H x H' → g x (wipe σ vs) H' fun σ2 H2 => wipe σ2 vs = wipe σ vs ∧ tt σ2 H2 fun b H3 =>
      if b = true then wi1 σ2 H3 fun J1 H4 => ∃ W1 : Nat → Nat → Hp → Prop, (∃ m, W1 0 m H4) ∧ ∀ j k H, W1 j k H →
        (J1.stop j H ∧ Pv (i + 1) H) ∨ (J1.go j H ∧ ∃ Nx1 : Hp → Prop, (∀ H', Nx1 H' → ∃ k', k' < k ∧ W1 (j + 1) k' H') ∧ ∀ x H', J1.yld j H x H' → g1 x (wipe σ2 vs1) H' fun σ3 H5 => wipe σ3 vs1 = wipe σ2 vs1 ∧ tt1 σ3 H5 fun b H6 =>
          if b = true then te σ3 H6 fun y H7 => ∃ acc, H7 D = some (.lst acc) ∧ acc.length < sizeLine ∧ Nx1 (upd H7 D (.lst (acc ++ [y]))) else Nx1 H6)
      else Pv (i + 1) H3) (hd : ∀ H, Pv n H → Qd H) :
    ∃ W : Nat → Nat → Hp → Prop, (∃ m, W 0 m (upd H1 D (.lst []))) ∧ ∀ i m H, W i m H →
      (J.stop i H ∧ Qd H) ∨ (J.go i H ∧ ∃ Nx : Hp → Prop, (∀ H', Nx H' → ∃ m', m' < m ∧ W (i + 1) m' H') ∧ ∀ x H', J.yld i H x H' → g x (wipe σ vs) H' fun σ2 H2 => wipe σ2 vs = wipe σ vs ∧ tt σ2 H2 fun b H3 =>
      if b = true then wi1 σ2 H3 fun J1 H4 => ∃ W1 : Nat → Nat → Hp → Prop, (∃ m, W1 0 m H4) ∧ ∀ j k H, W1 j k H →
        (J1.stop j H ∧ Nx H) ∨ (J1.go j H ∧ ∃ Nx1 : Hp → Prop, (∀ H', Nx1 H' → ∃ k', k' < k ∧ W1 (j + 1) k' H') ∧ ∀ x H', J1.yld j H x H' → g1 x (wipe σ2 vs1) H' fun σ3 H5 => wipe σ3 vs1 = wipe σ2 vs1 ∧ tt1 σ3 H5 fun b H6 =>
          if b = true then te σ3 H6 fun y H7 => ∃ acc, H7 D = some (.lst acc) ∧ acc.length < sizeLine ∧ Nx1 (upd H7 D (.lst (acc ++ [y]))) else Nx1 H6)
      else Nx H3) := by
  refine ⟨fun i m H => m = n - i ∧ i ≤ n ∧ Pv i H, ⟨n, by simp, Nat.zero_le _, h0⟩, ?_⟩
  rintro i m H ⟨rfl, hi, p⟩
  have q := hG i H hi p
  by_cases hlt : i < n
  · exact .inr ⟨w.goes i H hlt q, Pv (i + 1), fun H' p' => ⟨n - (i + 1), by omega, rfl, hlt, p'⟩, fun x H' y => hs i x H H' hlt p (w.yields i H x H' hlt q y)⟩
  · have e : i = n := by omega
    subst e
    exact .inl ⟨w.stops H q, hd H p⟩
end
/-- isinstance(x, T) by the type -/
theorem rd_isiT {K : PySem.W.Frag} {σ : L2.St} {H : Hp} {T t : String} {v : V} {b : Bool} {Q : VK} {i : Nat} (hv : σ[i]? = some (some v)) (ty : TyX K H v (.type t)) (hk : kitB t T = some b) (q : Q (.bl b) H) :
    tCB (rIsi K) (tCons (tVar i) (tCons (tC (.ty T)) tNil)) σ H Q := ⟨v, hv, v, .ty T, _, _, b, rfl, .ty _, ty, kit_ty hk, q⟩
/-! ### dicts and sets of texts -/
/-- the keys are just these texts -/
def KnM (kn : List (Key × V)) (S : List Str) : Prop := ∀ k : Key, (valV kn k).isSome = true ↔ ∃ s ∈ S, k = .inr s
theorem KnM.nil : KnM [] [] := fun k => by
  constructor
  · intro h; cases h
  · rintro ⟨s, h, _⟩; cases h
theorem KnM.put {kn : List (Key × V)} {S T : List Str} {s : Str} {v : V} (h : KnM kn S) (hT : ∀ x, x ∈ T ↔ x = s ∨ x ∈ S) : KnM (putK kn (.inr s) v) T := fun k => by
  rw [valV_put]
  by_cases e : k = .inr s
  · rw [if_pos e]
    exact ⟨fun _ => ⟨s, (hT s).mpr (.inl rfl), e⟩, fun _ => rfl⟩
  · rw [if_neg e, h k]
    constructor
    · rintro ⟨x, hx, ex⟩; exact ⟨x, (hT x).mpr (.inr hx), ex⟩
    · rintro ⟨x, hx, ex⟩
      rcases (hT x).mp hx with z | z
      · exact absurd (ex.trans (by rw [z])) e
      · exact ⟨x, z, ex⟩
theorem KnM.of {kn : List (Key × V)} {S : List Str} (h : KnM kn S) {k : Key} {v : V} (m : (k, v) ∈ kn) : ∃ s ∈ S, k = .inr s :=
  (h k).mp (by rw [← valV_any]; exact List.any_eq_true.mpr ⟨_, m, decide_eq_true rfl⟩)
theorem putK_len {κ : Type} [DecidableEq κ] (c : List (κ × V)) (k : κ) (x : V) : (putK c k x).length ≤ c.length + 1 := by
  unfold putK
  split
  · rw [List.length_map]; omega
  · rw [List.length_append]; exact Nat.le_refl _
theorem valV_mem {κ : Type} [DecidableEq κ] {kvs : List (κ × V)} {k : κ} {v : V} (h : valV kvs k = some v) : (k, v) ∈ kvs := by
  induction kvs with
  | nil => cases h
  | cons p r ih =>
    by_cases e : p.1 = k
    · rw [valV_pos e] at h
      injection h with h
      subst e h
      exact List.mem_cons_self ..
    · rw [valV_neg e] at h
      exact List.mem_cons_of_mem _ (ih h)
theorem KnM.has {kn : List (Key × V)} {S : List Str} (h : KnM kn S) {s : Str} (m : s ∈ S) : ∃ v, ((.inr s : Key), v) ∈ kn := by
  have z := (h (.inr s)).mpr ⟨s, m, rfl⟩
  cases e : valV kn (.inr s) with
  | none => rw [e] at z; cases z
  | some v => exact ⟨v, valV_mem e⟩
theorem KnM.all {kn : List (Key × V)} {S : List Str} (h : KnM kn S) (f : Str → Bool) : (kn.all fun q => match q.1 with | .inr s => f s | .inl _ => true) = S.all f := by
  rw [Bool.eq_iff_iff, List.all_eq_true, List.all_eq_true]
  constructor
  · intro z s hs
    obtain ⟨v, hv⟩ := h.has hs
    exact z _ hv
  · rintro z ⟨k, v⟩ hq
    obtain ⟨s, hs, e⟩ := h.of hq
    subst e
    exact z s hs
theorem mut_dK {kvs : List (Key × V)} : Mut (some (.dK kvs)) := True.intro
theorem mut_dT {kvs : List (List Key × V)} : Mut (some (.dT kvs)) := True.intro
end DW
namespace DW
open PySem PySem.Spec PyProof.Rows L2
/-! ### data with dicts within, and its repr -/
/-- what stands at sys.modules is a dict, from the start on -/
def SysB (b : Heap) : Prop := ∃ o, b.get? sysModules = some o ∧ o.cls = .type "dict"
def tupD (k : List Key) : PyData := .tuple (k.map keyD)
mutual
inductive Dz (K : PySem.W.Frag) (H : Hp) : V → PyData → Prop
  | non : Dz K H .non .none
  | bl (b : Bool) : Dz K H (.bl b) (.bool b)
  | int (i : Int) : Dz K H (.int i) (.int i)
  | str (x : Str) : Dz K H (.str x) (.str x)
  | lst {a : Addr} {xs : List V} {ds : List PyData} (h : SqL K H a xs) (r : DzAll K H xs ds) : Dz K H (.ref a) (.list ds)
  | tup {a : Addr} {xs : List V} {ds : List PyData} (h : SqT K H a xs) (r : DzAll K H xs ds) : Dz K H (.ref a) (.tuple ds)
  | dK {a : Addr} {kvs : List (Key × V)} {ds : List PyData} (h : H a = some (.dK kvs)) (r : DzAll K H (kvs.map (·.2)) ds) : Dz K H (.ref a) (.dict ((kvs.map fun p => keyD p.1).zip ds))
  | dT {a : Addr} {kvs : List (List Key × V)} {ds : List PyData} (h : H a = some (.dT kvs)) (r : DzAll K H (kvs.map (·.2)) ds) : Dz K H (.ref a) (.dict ((kvs.map fun p => tupD p.1).zip ds))
inductive DzAll (K : PySem.W.Frag) (H : Hp) : List V → List PyData → Prop
  | nil : DzAll K H [] []
  | cons {v : V} {vs : List V} {d : PyData} {ds : List PyData} : Dz K H v d → DzAll K H vs ds → DzAll K H (v :: vs) (d :: ds)
end
theorem DzAll.length {K : PySem.W.Frag} {H : Hp} : ∀ {vs : List V} {ds : List PyData}, DzAll K H vs ds → vs.length = ds.length
  | _, _, .nil => rfl
  | _, _, .cons _ h => by rw [List.length_cons, List.length_cons, DzAll.length h]
mutual
theorem Dz.of {K : PySem.W.Frag} {H : Hp} : ∀ {v : V} {d : PyData}, Dp K H v d → Dz K H v d
  | _, _, .non => .non
  | _, _, .bl b => .bl b
  | _, _, .int i => .int i
  | _, _, .str x => .str x
  | _, _, .lst h a => .lst h (DzAll.of a)
  | _, _, .tup h a => .tup h (DzAll.of a)
theorem DzAll.of {K : PySem.W.Frag} {H : Hp} : ∀ {vs : List V} {ds : List PyData}, DpAll K H vs ds → DzAll K H vs ds
  | _, _, .nil => .nil
  | _, _, .cons a b => .cons (Dz.of a) (DzAll.of b)
end
mutual
theorem Dz.same {K : PySem.W.Frag} {H H' : Hp} (s : Same H H') : ∀ {v : V} {d : PyData}, Dz K H v d → Dz K H' v d
  | _, _, .non => .non
  | _, _, .bl b => .bl b
  | _, _, .int i => .int i
  | _, _, .str x => .str x
  | _, _, .lst h a => .lst (Same.seq s h) (DzAll.same s a)
  | _, _, .tup h a => .tup (sqT_same s h) (DzAll.same s a)
  | _, _, .dK h a => .dK (s _ _ h) (DzAll.same s a)
  | _, _, .dT h a => .dT (s _ _ h) (DzAll.same s a)
theorem DzAll.same {K : PySem.W.Frag} {H H' : Hp} (s : Same H H') : ∀ {vs : List V} {ds : List PyData}, DzAll K H vs ds → DzAll K H' vs ds
  | _, _, .nil => .nil
  | _, _, .cons a b => .cons (Dz.same s a) (DzAll.same s b)
end
section
variable {X : Cx} {pins : List (Addr × Obj)} {σ : L2.St} {H : Hp} {s : Shared}
theorem sys_ne (hS : SysB X.base) (I : Inv X pins σ H s) {a : Addr} {o : Obj} (h : s.heap.get? a = some o) (hc : o.cls ≠ .type "dict") : sysModules ≠ a := fun e => by
  obtain ⟨o', h1, h2⟩ := hS
  have z := (I.bs _ _ h1).1
  rw [e, h] at z
  cases z
  exact hc h2
theorem keys_reads {h : Heap} {P : Program} {w : World} : ∀ {kvs : List (Key × V)} {es : List DictEntry} {vs : List (Key × Value)}, KV kvs vs → Pairs (mixKind P w) es vs →
    ReadsAll h (es.map (·.key)) (kvs.map fun p => keyD p.1) [] ∧ Vals (kvs.map (·.2)) (es.map (·.val))
  | [], _, _, r, q => by
    cases r
    cases q
    exact ⟨.nil, .nil⟩
  | p :: l, _, _, r, q => by
    cases r with
    | cons r1 r2 =>
      cases q with
      | cons q1 q2 q3 =>
        obtain ⟨z1, z2⟩ := keys_reads (h := h) r2 q3
        obtain ⟨e1, e2⟩ := r1
        refine ⟨?_, ?_⟩
        · have y := key_reads (h := h) (by rw [← e1] at q1; exact q1)
          exact ReadsAll.cons (as := []) y z1
        · refine Paired.cons ?_ z2
          show RelV p.2 _
          exact Eq.mpr (congrArg (RelV p.2) q2) e2
theorem kvs_reads {h : Heap} : ∀ {k : List Key} {us : List Value}, Vals (k.map kV) us → ReadsAll h us (k.map keyD) []
  | [], _, r => by cases r; exact .nil
  | .inl i :: k, _, r => by
    cases r with
    | cons r1 r2 =>
      obtain ⟨t, rfl⟩ := r1
      exact ReadsAll.cons (as := []) (.int i t) (kvs_reads r2)
  | .inr x :: k, _, r => by
    cases r with
    | cons r1 r2 =>
      obtain ⟨t, rfl⟩ := r1
      exact ReadsAll.cons (as := []) (.str x t) (kvs_reads r2)
theorem keysT_reads (I : Inv X pins σ H s) : ∀ {kvs : List (List Key × V)} {xs : List (List Key × Addr × Value)}, KT H kvs xs →
    ReadsAll s.heap (xs.map fun x => Value.ref x.2.1) (kvs.map fun p => tupD p.1) [] ∧ Vals (kvs.map (·.2)) (xs.map (·.2.2))
  | [], _, r => by
    cases r
    exact ⟨.nil, .nil⟩
  | p :: l, _, r => by
    cases r with
    | cons r1 r2 =>
      obtain ⟨z1, z2⟩ := keysT_reads I r2
      obtain ⟨e1, e2, e3⟩ := r1
      refine ⟨?_, Paired.cons e3 z2⟩
      obtain ⟨its, rv, ⟨o, ho, hc, n, hd⟩, _⟩ := I.tuple (SqT.of e2)
      exact ReadsAll.cons (as := []) (Reads.tuple ho hc hd (kvs_reads rv)) z1
mutual
theorem Dz.reads (hS : SysB X.base) (I : Inv X pins σ H s) : ∀ {v : V} {d : PyData} {u : Value}, Dz X.K H v d → RelV v u → ∃ as, Reads s.heap u d as ∧ sysModules ∉ as
  | _, _, _, .non, r => by
    cases r
    exact ⟨_, Reads.none, by simp⟩
  | _, _, _, .bl b, r => by
    cases r
    exact ⟨_, Reads.bool b, by simp⟩
  | _, _, _, .int i, r => by
    obtain ⟨t, rfl⟩ := r
    exact ⟨_, Reads.int i t, by simp⟩
  | _, _, _, .str x, r => by
    obtain ⟨t, rfl⟩ := r
    exact ⟨_, Reads.str x t, by simp⟩
  | _, _, _, .lst hs ha, r => by
    cases r
    obtain ⟨its, rv, ⟨o, n, ho, hc, _, hd⟩, _⟩ := I.list hs
    obtain ⟨as, hr, hn⟩ := DzAll.reads hS I ha rv
    exact ⟨_, Reads.list ho hc hd hr, by
      rw [List.mem_cons]
      rintro (e | m)
      · exact sys_ne hS I ho (by rw [hc]; decide) e
      · exact hn m⟩
  | _, _, _, .tup hs ha, r => by
    cases r
    obtain ⟨its, rv, ⟨o, ho, hc, n, hd⟩, _⟩ := I.tuple hs
    obtain ⟨as, hr, hn⟩ := DzAll.reads hS I ha rv
    exact ⟨_, Reads.tuple ho hc hd hr, hn⟩
  | _, _, _, .dK (a := a) (kvs := kvs) (ds := ds) h ha, r => by
    cases r
    obtain ⟨_, hs, vs, rel, o, es, ep, ho, hx, hd, _, hp, _⟩ := (show ObjOk X.prog X.w H s.heap a (.dK kvs) from I.hok a _ h)
    obtain ⟨z1, z2⟩ := keys_reads (h := s.heap) rel hp
    obtain ⟨as, hr, hn⟩ := DzAll.reads hS I ha z2
    have hl := DzAll.length ha
    rw [List.length_map] at hl
    refine ⟨_, Reads.dict ho hx.1 hd (by rw [List.map_fst_zip (by rw [List.length_map, hl]; exact Nat.le_refl _)]; exact z1) (by rw [List.map_snd_zip (by rw [List.length_map, hl]; exact Nat.le_refl _)]; exact hr), ?_⟩
    rw [List.mem_append]
    rintro (m | m)
    · have e : sysModules = a := by simpa using m
      rw [e] at hs
      simp at hs
    · exact hn m
  | _, _, _, .dT (a := a) (kvs := kvs) (ds := ds) h ha, r => by
    cases r
    obtain ⟨_, hs, xs, rel, o, es, ep, ho, hx, hd, he, _⟩ := (show ObjOk X.prog X.w H s.heap a (.dT kvs) from I.hok a _ h)
    obtain ⟨z1, z2⟩ := keysT_reads I rel
    obtain ⟨as, hr, hn⟩ := DzAll.reads hS I ha z2
    have hl := DzAll.length ha
    rw [List.length_map] at hl
    have k1 : es.toList.map (·.key) = xs.map fun x => Value.ref x.2.1 := by rw [he, List.map_map]; rfl
    have k2 : es.toList.map (·.val) = xs.map (·.2.2) := by rw [he, List.map_map]; rfl
    refine ⟨_, Reads.dict ho hx.1 hd (by rw [List.map_fst_zip (by rw [List.length_map, hl]; exact Nat.le_refl _), k1]; exact z1) (by rw [List.map_snd_zip (by rw [List.length_map, hl]; exact Nat.le_refl _), k2]; exact hr), ?_⟩
    rw [List.mem_append]
    rintro (m | m)
    · have e : sysModules = a := by simpa using m
      rw [e] at hs
      simp at hs
    · exact hn m
theorem DzAll.reads (hS : SysB X.base) (I : Inv X pins σ H s) : ∀ {vs : List V} {ds : List PyData} {us : List Value}, DzAll X.K H vs ds → Vals vs us → ∃ as, ReadsAll s.heap us ds as ∧ sysModules ∉ as
  | _, _, _, .nil, r => by
    cases r
    exact ⟨_, ReadsAll.nil, by simp⟩
  | _, _, _, .cons h1 h2, r => by
    cases r with
    | cons r1 r2 =>
      obtain ⟨as, q1, n1⟩ := Dz.reads hS I h1 r1
      obtain ⟨bs, q2, n2⟩ := DzAll.reads hS I h2 r2
      exact ⟨_, ReadsAll.cons q1 q2, by
        rw [List.mem_append]
        rintro (m | m)
        · exact n1 m
        · exact n2 m⟩
end
/-- repr(x) of data with dicts -/
def rReprZ (K : PySem.W.Frag) : List V → Hp → VK → Prop := fun xs H Q => ∃ v d, xs = [v] ∧ Dz K H v d ∧ d.showable = true ∧ d.shown.length ≤ sizeLine ∧ d.depth ≤ 60 ∧ Q (.str d.shown) H
theorem call_reprZ (hS : SysB X.base) (hg : X.A.guards = some []) (hu : X.A.units + 64 < cLine) : CallR X (.builtin "repr") (rReprZ X.K) := by
  intro pins s σ H xs us Q I r h
  obtain ⟨v, d, rfl, hd, hs, hz, hp, q⟩ := h
  obtain ⟨u, rfl, r1⟩ := vals1 r
  obtain ⟨as, hr, hm⟩ := hd.reads hS I r1
  have hm' : d.hasDict = true → sysModules ∉ as := fun _ => hm
  cases hr with
  | none => exact PySem.P.repr_of_none ⟨.str _, H, I.tok _, ⟨_, rfl⟩, q⟩
  | bool b => exact PySem.P.repr_of_bool ⟨.str _, H, I.tok _, ⟨_, rfl⟩, q⟩
  | int i t => exact PySem.P.repr_of_int (by simpa [PyData.showable] using hs) ⟨.str _, H, I.tok _, ⟨_, rfl⟩, q⟩
  | str x t => exact PySem.P.repr_of_str ⟨.str _, H, I.tok _, ⟨_, rfl⟩, q⟩ hz
  | list h1 h2 h3 h4 => exact repr_of_reads' (Reads.list h1 h2 h3 h4) hs hm' hg (by omega) (fun _ _ z => z) (fun h' t tk k => ⟨.str _, H, I.kept (t' := tk) k, ⟨_, rfl⟩, q⟩) hz
  | tuple h1 h2 h3 h4 => exact repr_of_reads' (Reads.tuple h1 h2 h3 h4) hs hm' hg (by omega) (fun _ _ z => z) (fun h' t tk k => ⟨.str _, H, I.kept (t' := tk) k, ⟨_, rfl⟩, q⟩) hz
  | dict h1 h2 h3 h4 h5 => exact repr_of_reads' (Reads.dict h1 h2 h3 h4 h5) hs hm' hg (by omega) (fun _ _ z => z) (fun h' t tk k => ⟨.str _, H, I.kept (t' := tk) k, ⟨_, rfl⟩, q⟩) hz
end
end DW
namespace DW
open PySem PySem.Spec PyProof.Rows L2 PySem.W
/-! ### texts in order -/
def strLe (a b : Str) : Bool := decide (a.cps.toList ≤ b.cps.toList)
def srt (l : List Str) : List Str := l.mergeSort strLe
theorem strLe_total : TotalLe strLe where
  total a b := by
    rcases List.le_total a.cps.toList b.cps.toList with h | h
    · exact .inl (decide_eq_true h)
    · exact .inr (decide_eq_true h)
  trans a b c h1 h2 := decide_eq_true (List.le_trans (of_decide_eq_true h1) (of_decide_eq_true h2))
theorem str_cps {a b : Str} (h : a.cps.toList = b.cps.toList) : a = b := by
  cases a; cases b
  simp only at h
  rw [Array.toList_inj.mp h]
theorem strLe_anti {a b : Str} (h1 : strLe a b = true) (h2 : strLe b a = true) : a = b := str_cps (List.le_antisymm (of_decide_eq_true h1) (of_decide_eq_true h2))
theorem srt_perm (l : List Str) : (srt l).Perm l := List.mergeSort_perm l strLe
theorem srt_mem {l : List Str} {x : Str} : x ∈ srt l ↔ x ∈ l := (srt_perm l).mem_iff
theorem srt_len (l : List Str) : (srt l).length = l.length := (srt_perm l).length_eq
theorem srt_asc (l : List Str) : (srt l).Pairwise (fun a b => strLe a b = true) := sort_pairwise strLe_total l
theorem asc_uniq {l m : List Str} (p : l.Perm m) (hl : l.Pairwise (fun a b => strLe a b = true)) (hm : m.Pairwise (fun a b => strLe a b = true)) : l = m :=
  p.eq_of_pairwise (fun a b _ _ h1 h2 => strLe_anti h1 h2) hl hm
theorem srt_uniq {l m : List Str} (p : l.Perm m) (hl : l.Pairwise (fun a b => strLe a b = true)) : srt m = l := (asc_uniq (p.trans (srt_perm m).symm) hl (srt_asc m)).symm
theorem srt_congr {l m : List Str} (p : l.Perm m) : srt l = srt m := (srt_uniq ((srt_perm l).trans p) (srt_asc l)).symm
theorem srt_srt (l : List Str) : srt (srt l) = srt l := srt_congr (srt_perm l)
theorem srt_filter (f : Str → Bool) (l : List Str) : srt (l.filter f) = (srt l).filter f := srt_uniq ((srt_perm l).filter f) ((srt_asc l).filter f)
theorem srt_of_sorted : ∀ {l : List Str}, sortedS l = true → l.Pairwise (fun a b => strLe a b = true) := by
  have key : ∀ (l : List Str) (p : Str), risingS p l = true → (p :: l).Pairwise (fun a b => strLe a b = true) := by
    intro l
    induction l with
    | nil => intro p _; exact List.pairwise_singleton _ _
    | cons x r ih =>
      intro p h
      have h : (!ltCps x.cps.toList p.cps.toList && risingS x r) = true := h
      rw [Bool.and_eq_true] at h
      have z := ih x h.2
      have le : strLe p x = true := by
        have w : ltCps x.cps.toList p.cps.toList = false := by simpa using h.1
        rw [ltCps_eq] at w
        exact decide_eq_true (List.not_lt.mp (of_decide_eq_false w))
      refine List.pairwise_cons.mpr ⟨fun y hy => ?_, z⟩
      rcases List.mem_cons.mp hy with rfl | hy
      · exact le
      · exact strLe_total.trans _ _ _ le (List.rel_of_pairwise_cons z hy)
  intro l h
  cases l with
  | nil => exact List.Pairwise.nil
  | cons x r => exact key r x h
theorem dataLe_srt : dataLe false (fun b : Str => PyData.str b) = strLe := dataLe_str (k := fun b => b)
theorem each_str : ∀ {xs : List Str} {us : List Value}, Vals (xs.map V.str) us → EachIs (fun (v : Value) (b : Str) => RelV (.str b) v) us xs
  | [], _, r => by cases r; exact .nil
  | _ :: _, _, r => by
    cases r with
    | cons r1 r2 => exact .cons r1 (each_str r2)
theorem vals_str : ∀ {xs : List Str} {us : List Value}, EachIs (fun (v : Value) (b : Str) => RelV (.str b) v) us xs → Vals (xs.map V.str) us
  | [], _, .nil => .nil
  | _ :: _, _, .cons r k => .cons r (vals_str k)
theorem each_read {h : Heap} {D : Addr} : ∀ {xs : List Str} {us : List Value}, EachIs (fun (v : Value) (b : Str) => RelV (.str b) v) us xs → EachIs (fun (v : Value) (b : Str) => ∃ as, Reads h v (.str b) as ∧ D ∉ as) us xs
  | [], _, .nil => .nil
  | _ :: _, _, .cons r k => by
    obtain ⟨t, rfl⟩ := r
    exact .cons ⟨[], Reads.str _ t, fun z => nomatch z⟩ (each_read k)
theorem each_read0 {h : Heap} {xs : List Str} {us : List Value} (e : EachIs (fun (v : Value) (b : Str) => RelV (.str b) v) us xs) : EachIs (fun (v : Value) (b : Str) => ∃ as, Reads h v (.str b) as) us xs := by
  induction e with
  | nil => exact .nil
  | cons r k ih =>
    obtain ⟨t, rfl⟩ := r
    exact .cons ⟨[], Reads.str _ t⟩ ih
theorem alike_strs (xs : List Str) : AllAlike (xs.map fun b => PyData.str b) := AllAlike.of fun b c => by simp [alike]
theorem sortable_strs (xs : List Str) : Sortable (xs.map fun b => PyData.str b) := Sortable.others fun b => ⟨by simp, by simp⟩
section
variable {X : Cx}
/-- sorted(list of texts) -/
def rSrt (K : PySem.W.Frag) : List V → Hp → VK → Prop := fun vs H Q => ∃ (a : Addr) (xs : List Str), vs = [.ref a] ∧ SqL K H a (xs.map V.str) ∧ xs.length ≤ 1000 ∧ ∀ p, H p = none → Q (.ref p) (upd H p (.lst ((srt xs).map V.str)))
theorem cr_srt (hu : X.A.units + 64 < cLine) : CallR X (.builtin "sorted") (rSrt X.K) := by
  intro pins s σ H vs us Q I r h
  obtain ⟨a, xs, rfl, hs, hl, q⟩ := h
  obtain ⟨its, rv, pl, hz⟩ := I.list hs
  obtain ⟨u, rfl, ru⟩ := vals1 r
  obtain rfl : u = Value.ref a := ru
  have e := each_str rv
  refine sorted_data (enc := fun b : Str => PyData.str b) (bs := xs) pl.isList e (each_read0 e) (alike_strs xs) (sortable_strs xs) (by rw [sizeLine_eq]; omega) (fun b hb => by simp [PyData.depth]; omega) fun out hlen hout => ?_
  rw [dataLe_srt] at hout
  obtain ⟨n, he⟩ := sortedAll_at s.heap its out.toArray
  have fresh : H (s.heap.objs.size + 1) = none := I.hok.fresh (Nat.le_succ _)
  refine ⟨.ref (s.heap.objs.size + 1), _, I.laid (t' := s.toks) (a := s.heap.objs.size + 1) (o := .lst ((srt xs).map V.str)) (fun b o z => sortedAll_old z) (Nat.le_succ _) ⟨?_, out, n, vals_str hout, he⟩, rfl, q _ fresh⟩
  rw [List.length_map, srt_len, sizeLine_eq]
  omega
/-- sorted(dict with texts as keys) -/
def rSrtD : List V → Hp → VK → Prop := fun vs H Q => ∃ (a : Addr) (kvs : List (Key × V)) (ks : List Str), vs = [.ref a] ∧ Rd H a (.dK kvs) ∧ kvs.map (·.1) = ks.map Sum.inr ∧ ks.length ≤ 1000 ∧ ∀ p, H p = none → Q (.ref p) (upd H p (.lst ((srt ks).map V.str)))
theorem cr_srtD (hcalm : X.calm = true) (hu : X.A.units + 64 < cLine) : CallR X (.builtin "sorted") rSrtD := by
  intro pins s σ H xs us Q I r q
  obtain ⟨a, kvs, ks, ex, hd, hks, h64, q⟩ := q
  subst ex
  obtain ⟨u, eu, rx⟩ := vals1 r
  subst eu
  cases rx
  obtain ⟨z, lo, vs, rel, dd⟩ := dk_rd I.hok hd
  obtain ⟨ep, hat⟩ := dd.dictAt
  have hkeys : vs.map (·.1) = ks.map Sum.inr := rel.keys.symm.trans hks
  have hl : vs.length = ks.length := by
    have e := congrArg List.length hkeys
    rw [List.length_map, List.length_map] at e
    exact e
  have h16 : vs.length ≤ sizeLine := by rw [hl, sizeLine_eq]; omega
  refine Calls.call_function_entry PyProof.Rows.kind_sorted PyProof.Rows.plain_sorted PyProof.Rows.entry_sorted (PyProof.Rows.args_sorted1 _) ?_
  unfold Builtin.«sorted»
  refine wpAny_bind (m := checkCount "sorted" 1 1 _) (wpAny_pure ?_)
  refine wpAny_bind (PySem.W.kdu_collect (A := X.A.in1) (PySem.W.kdl_dict (knd := mixKind X.prog X.w) (kvs := vs) (ep := ep) lo) (I.ok.hd hcalm) hat h16 fun h' tk acc hk hacc => ?_)
  have hal : acc.toList.length = ks.length := by rw [Array.length_toList, hacc.1, hl]
  have hS : StrsAre acc.toList ks := strs_at hal fun j v e => by
    obtain ⟨k, x, e1, e2⟩ := hacc.2 j v (by rw [← Array.getElem?_toList]; exact e)
    have e3 : (vs.map (·.1))[j]? = some k := by rw [List.getElem?_map, e1]; all_goals rfl
    rw [hkeys, List.getElem?_map] at e3
    cases e4 : ks[j]? with
    | none => rw [e4] at e3; cases e3
    | some y =>
      rw [e4] at e3
      have e5 : Sum.inr y = k := Option.some.inj e3
      subst e5
      obtain ⟨t, ev⟩ := Value.isStrOf_shape (x := y) (v := v) e2
      exact ⟨y, t, rfl, ev⟩
  have I1 : Inv X pins σ H { s with heap := h', toks := tk } := I.kept hk
  refine wpAny_bind (wpAny_newList ?_ (by rw [hal, sizeLine_eq]; omega))
  have hoL : (h'.push (seqObj "list" acc.toList.toArray 0)).get? h'.objs.size = some (seqObj "list" acc.toList.toArray 0) := Heap.get?_push_size _ rfl
  have e := each_str (vals_of_strs hS)
  have free : H h'.objs.size = none := I1.hok.fresh (Nat.le_refl _)
  refine (show wpAny _ _ _ _ _ { s with heap := h'.push (seqObj "list" acc.toList.toArray 0), toks := tk } from wpAny_bind (wpAny_holding ?_))
  refine list_sort_data (vs := acc.toList) (bs := ks) (enc := fun b : Str => PyData.str b) (R := fun (v : Value) (b : Str) => RelV (.str b) v) hoL e (each_read e) (alike_strs ks) (sortable_strs ks) (by rw [sizeLine_eq]; omega)
    (fun b _ => by simp [PyData.depth]; omega) fun out lo eo => ?_
  rw [dataLe_srt] at eo
  obtain ⟨e', atE⟩ := PyProof.Rows.sortedHeap_at (vs := acc.toList) (out := out.toArray) hoL
  refine wpAny_pure ⟨_, rfl, .ref h'.objs.size, upd H h'.objs.size (.lst ((srt ks).map V.str)), I1.laid (t' := tk) (fun b u e => ?_) (Nat.le_refl _) ⟨?_, out, e', vals_str eo, atE⟩, rfl, q _ free⟩
  · have lt : b < h'.objs.size := Heap.lt_size e
    rw [PyProof.Rows.sortedHeap_old (Nat.ne_of_lt lt) (by rw [size_push']; exact Nat.lt_succ_of_lt lt)]
    exact Heap.get?_push_of_some _ e
  · rw [List.length_map, srt_len, sizeLine_eq]; omega
end
end DW
namespace DW
open PySem PySem.Spec PyProof.Rows L2 PySem.W
/-! ### slices with a step -/
def pickIx (lo hi st : Option Int) (n : Nat) : List Nat := sliceRange (sliceBounds lo hi st n).1 (sliceBounds lo hi st n).2.1 (sliceBounds lo hi st n).2.2
def pickL {α : Type} (xs : List α) (lo hi st : Option Int) : List α := (pickIx lo hi st xs.length).filterMap (xs[·]?)
theorem vals_ix {xs : List V} {us : List Value} (r : Vals xs us) (i : Nat) : (xs[i]? = none ∧ us[i]? = none) ∨ ∃ x u, xs[i]? = some x ∧ us[i]? = some u ∧ RelV x u := by
  induction r generalizing i with
  | nil => exact .inl ⟨rfl, rfl⟩
  | cons h t ih =>
    cases i with
    | zero => exact .inr ⟨_, _, rfl, rfl, h⟩
    | succ i => simpa using ih i
theorem vals_fm {xs : List V} {us : List Value} (r : Vals xs us) : ∀ l : List Nat, Vals (l.filterMap (xs[·]?)) (l.filterMap (us[·]?))
  | [] => .nil
  | i :: l => by
    rcases vals_ix r i with ⟨e1, e2⟩ | ⟨x, u, e1, e2, q⟩
    · rw [List.filterMap_cons_none e1, List.filterMap_cons_none e2]
      exact vals_fm r l
    · rw [List.filterMap_cons_some e1, List.filterMap_cons_some e2]
      exact .cons q (vals_fm r l)
theorem slicePick_L {its : List Value} {lo hi st : Option Int} : slicePick its.toArray lo hi st = (pickL its lo hi st).toArray := by
  unfold slicePick pickL pickIx
  simp
theorem fm_len {α : Type} (xs : List α) : ∀ l : List Nat, (l.filterMap (xs[·]?)).length ≤ l.length
  | [] => Nat.le_refl _
  | i :: l => by
    cases e : xs[i]? with
    | none => rw [List.filterMap_cons_none e]; exact Nat.le_succ_of_le (fm_len xs l)
    | some x => rw [List.filterMap_cons_some e]; exact Nat.succ_le_succ (fm_len xs l)
theorem pick_mem {α : Type} {xs : List α} {lo hi st : Option Int} {x : α} : x ∈ pickL xs lo hi st ↔ ∃ i ∈ pickIx lo hi st xs.length, xs[i]? = some x := List.mem_filterMap
theorem vals_pick {xs : List V} {us : List Value} (r : Vals xs us) (lo hi st : Option Int) : Vals (pickL xs lo hi st) (pickL us lo hi st) := by
  unfold pickL
  rw [← r.length]
  exact vals_fm r _
def tSlS (K : PySem.W.Frag) (te : TE) (tl th ts : TO) : TE := fun σ H Q => te σ H fun x H1 => tl σ H1 fun l H2 => th σ H2 fun u H3 => ts σ H3 fun o H4 => o ≠ some 0 ∧ ∃ a xs, x = .ref a ∧ SqL K H4 a xs ∧ (pickL xs l u o).length ≤ sizeLine ∧ ∀ p, H4 p = none → Q (.ref p) (upd H4 p (.lst (pickL xs l u o)))
section
variable {X : Cx}
theorem pe_slS {e st : Expr} {lo hi : Option Expr} {te : TE} {tl th ts : TO} {p2 pos : Pos} (he : PE X e te) (hl : PO X lo tl) (hu : PO X hi th) (hs : PO X (some st) ts) : PE X (.Subscript e (.Slice lo hi (some st) p2) pos) (tSlS X.K te tl th ts) := by
  refine ⟨fun pins s σ H Q I h => ?_⟩
  refine Subscript_ (thn (he.run pins s σ H _ I h) fun v s1 ⟨x, H1, I1, r1, q1⟩ => ?_)
  refine wpAny_Slice (thn (hl.run pins s1 σ H1 _ I1 q1) fun vl s2 ⟨l, H2, I2, pl, q2⟩ => thn (hu.run pins s2 σ H2 _ I2 q2) fun vu s3 ⟨u, H3, I3, pu, q3⟩ => thn (hs.run pins s3 σ H3 _ I3 q3) fun vs s4 ⟨o, H4, I4, ps, q4⟩ => ?_)
  obtain ⟨h0, a, xs, rfl, hx, hz, q⟩ := q4
  cases r1
  have I5 : Inv X pins σ H4 { s4 with heap := s4.heap.push { cls := .type "slice", data := .fields #[vl, vu, vs] } } := I4.kept (t' := s4.toks) fun b ob q => Heap.get?_push_of_some _ q
  obtain ⟨its, r, ht, hz2⟩ := I5.list hx
  have hlen := r.length
  show wpAny (model X.prog X.w) X.A (subscriptTail e (.Slice lo hi (some st) p2) (.ref a) (.ref s4.heap.objs.size)) (EP X pins σ Q) X.xe { s4 with heap := s4.heap.push { cls := .type "slice", data := .fields #[vl, vu, vs] } }
  refine tail_any (ops := [.ref a, .ref s4.heap.objs.size]) ht.isList.typeIs (PySem.slot_list_getitem.lookup) ?_ (by with_unfolding_all rfl)
  refine wpAny_getItem_list_slice ht.isList (Heap.IsSliceOf.new _ vl vu vs) pl pu ps h0 ?_ (by rw [List.size_toArray]; omega)
  rw [slicePick_L]
  refine ⟨.ref _, _, I5.laid (t' := s4.toks) (o := .lst (pickL xs l u o)) (fun b ob q => Heap.get?_push_of_some _ q) (Nat.le_refl _) ?_, rfl, q _ (I5.hok.fresh (Nat.le_refl _))⟩
  exact ⟨hz, _, 0, vals_pick r l u o, Heap.get?_push_size _ rfl⟩
/-! ### list(d.values()) -/
def tListVals (te : TE) : TE := fun σ H Q => te σ H fun x H1 => ∃ (d : Addr) (kvs : List (Key × V)), x = .ref d ∧ H1 d = some (.dK kvs) ∧ ∀ p, H1 p = none → Q (.ref p) (upd H1 p (.lst (kvs.map (·.2))))
theorem vals_vals {kvs : List (Key × V)} {vs : List (Key × Value)} (rel : KV kvs vs) : Vals (kvs.map (·.2)) (vs.map (·.2)) := by
  induction rel with
  | nil => exact .nil
  | cons h t ih => exact .cons h.2 ih
theorem vals_at : ∀ {us : List Value} {vs : List (Key × Value)}, us.length = vs.length → (∀ (j : Nat) (v : Value), us[j]? = some v → ∃ k : Key, vs[j]? = some (k, v)) → us = vs.map (·.2) := by
  intro us vs hl h
  apply List.ext_getElem?
  intro j
  rw [List.getElem?_map]
  cases e : us[j]? with
  | none =>
    have h1 := List.getElem?_eq_none_iff.mp e
    rw [List.getElem?_eq_none (by omega)]
    rfl
  | some v =>
    obtain ⟨k, e2⟩ := h j v e
    rw [e2]
    rfl
theorem pe_listVals {e : Expr} {te : TE} {p apos cpos pos : Pos} (hc : X.calm = true) (he : PE X e te) (hg : Gl X "list") (hm : X.mg "list" = none) (hv : bootBuiltins "list" = some (.type "list")) (hbase : attributeBase e "values" X.env (eval e X.env) = eval e X.env := by rfl) (hline : (apos.endLine == cpos.line) = true := by rfl)
    (hs : starEach [.Call (.Attribute e "values" apos) [] [] cpos] X.env = (false, eval (.Call (.Attribute e "values" apos) [] [] cpos) X.env) :: starEach [] X.env := by rfl) :
    PE X (.Call (.Name "list" p) [.Call (.Attribute e "values" apos) [] [] cpos] [] pos) (tListVals te) := by
  refine ⟨fun pins s σ H Q I hq => ?_⟩
  refine wpAny_Call_Name_kw (ld_blt I hg hm hv ?_)
  refine PyProof.Rows.callWith_type1 ?_ hs rfl
  rw [hs]
  show wpAny _ _ (spliced ((false, eval (.Call (.Attribute e "values" apos) [] [] cpos) X.env) :: backTo pos (starEach [] X.env))) _ _ s
  refine Calls.spliced_cons ?_
  refine wpAny_Call_method (T := "dict") (id := "dict.values") hbase rfl hline F.plainAttrs_dict F.slot_dict_values F.type_dict_values (thn (he.run pins s σ H _ I hq) fun u s1 ⟨x, H1, I1, rx, d, kvs, ex, hd, q⟩ => ?_)
  subst ex
  obtain rfl : u = Value.ref d := rx
  obtain ⟨hz, hs0, vs, kv, hdo⟩ := I1.hok d _ hd
  obtain ⟨ep, hat⟩ := hdo.dictAt
  have lk : kvs.length = vs.length := Paired.length kv
  refine ⟨hdo.typeIs, hdo.mapOf.noDict, ?_⟩
  show wpAny _ _ (callWith cpos (.builtin "dict.values") [.ref d] [] []) _ X.xe s1
  refine method_meetsIn F.slot_dict_values F.entry_dict_values rfl (PySem.evalArgs_none ⟨rfl, hdo.typeIs, F.args_dict_values_1 _, _, meets_dict_values (mixKind X.prog X.w) d hs0, ⟨vs, hdo⟩, ?_⟩)
  refine Calls.spliced_nil ?_
  have I2 : Inv X pins σ H1 { s1 with heap := s1.heap.push { cls := .type "dict_values", data := .fields #[.ref d] } } := I1.kept (t' := s1.toks) fun b ob q => Heap.get?_push_of_some _ q
  refine kdl_call (kdl_values (knd := mixKind X.prog X.w) (kvs := vs) (ep := ep)) (I1.ok.hd hc) ⟨⟨_, Heap.get?_push_size _ rfl, rfl, rfl⟩, hat.push _⟩ (by omega) fun h' tk acc c' hk hD hacc => ?_
  have ea : acc.toList = vs.map (·.2) := vals_at (by rw [Array.length_toList]; exact hacc.1) fun j v e => hacc.2 j v (by rw [← Array.getElem?_toList]; exact e)
  refine ⟨.ref _, _, I2.laid (t' := tk) (o := .lst (kvs.map (·.2))) hk (Nat.le_refl _) ⟨by rw [List.length_map]; exact hz, acc.toList, c', by rw [ea]; exact vals_vals kv, by rw [Array.toArray_toList]; exact hD⟩, rfl, q _ (I2.hok.fresh (Nat.le_refl _))⟩
end
end DW
namespace DW
open PySem PySem.Spec PyProof.Rows L2 PySem.W
/-! ### heaps under locks -/
/-- what could be read can be read -/
def Wk (H H' : Hp) : Prop := ∀ c o, Rd H c o → Rd H' c o
theorem Wk.refl {H : Hp} : Wk H H := fun _ _ h => h
theorem Wk.trans {H H1 H2 : Hp} (a : Wk H H1) (b : Wk H1 H2) : Wk H H2 := fun c o h => b c o (a c o h)
theorem Wk.of {H H' : Hp} (s : Same H H') : Wk H H' := fun c o h => by
  rcases h with h | ⟨z, h⟩
  · exact .inl (s _ _ h)
  · exact .inr ⟨z, s _ _ h⟩
theorem Wk.lock {H : Hp} {a : Addr} {od : Obj} {u : HO} (h : H a = some u) (n : ∀ z o, u ≠ .frz z o) : Wk H (upd H a (.frz od u)) := fun c o r => by
  by_cases e : c = a
  · subst e
    rcases r with r | ⟨z, r⟩
    · rw [h] at r
      cases r
      exact .inr ⟨od, upd_same⟩
    · rw [h] at r
      cases r
      exact absurd rfl (n _ _)
  · unfold Rd
    rw [upd_ne e]
    exact r
/-- .. and unlocked: all as it was -/
theorem unlock {H H' : Hp} {a : Addr} {od : Obj} {u : HO} (h : H a = some u) (s : Same (upd H a (.frz od u)) H') : H' a = some (.frz od u) ∧ Same H (upd H' a u) := by
  refine ⟨s _ _ upd_same, fun c o e => ?_⟩
  by_cases ca : c = a
  · subst ca
    rw [h] at e
    rw [upd_same]
    exact e
  · rw [upd_ne ca]
    exact s _ _ (by rw [upd_ne ca]; exact e)
/-- what was new stays what it is behind the unlocking -/
theorem unlock_at {H H' : Hp} {a b : Addr} {od : Obj} {u o : HO} (h : H a = some u) (n : H b = none) (e : H' b = some o) : upd H' a u b = some o := by
  rw [upd_ne (ne_of_none h n).symm]
  exact e
theorem sqT_wk {K : PySem.W.Frag} {H H' : Hp} {a : Addr} {xs : List V} (s : Wk H H') (h : SqT K H a xs) : SqT K H' a xs := by
  rcases h with h | h
  · exact .inl (s _ _ h)
  · exact .inr h
theorem sqL_wk {K : PySem.W.Frag} {H H' : Hp} {a : Addr} {xs : List V} (s : Wk H H') (h : SqL K H a xs) : SqL K H' a xs := by
  rcases h with h | h
  · exact .inl (s _ _ h)
  · exact .inr h
mutual
theorem Dp.wk {K : PySem.W.Frag} {H H' : Hp} (s : Wk H H') : ∀ {v : V} {d : PyData}, Dp K H v d → Dp K H' v d
  | _, _, .non => .non
  | _, _, .bl b => .bl b
  | _, _, .int i => .int i
  | _, _, .str x => .str x
  | _, _, .lst h a => .lst (sqL_wk s h) (DpAll.wk s a)
  | _, _, .tup h a => .tup (sqT_wk s h) (DpAll.wk s a)
theorem DpAll.wk {K : PySem.W.Frag} {H H' : Hp} (s : Wk H H') : ∀ {vs : List V} {ds : List PyData}, DpAll K H vs ds → DpAll K H' vs ds
  | _, _, .nil => .nil
  | _, _, .cons a b => .cons (Dp.wk s a) (DpAll.wk s b)
end
/-! ### dicts from texts to data, in their order -/
section
variable {α : Type} {enc : α → PyData} {K : PySem.W.Frag} {H H' : Hp} {a : Addr} {rs : List (Str × α)} {kvs : List (Key × V)}
def Tx (enc : α → PyData) (K : PySem.W.Frag) (H : Hp) (kvs : List (Key × V)) (rs : List (Str × α)) : Prop := Paired (fun (q : Key × V) (p : Str × α) => q.1 = .inr p.1 ∧ Dp K H q.2 (enc p.2)) kvs rs
/-- to be read -/
def TR (enc : α → PyData) (K : PySem.W.Frag) (H : Hp) (a : Addr) (rs : List (Str × α)) : Prop := ∃ kvs, Rd H a (.dK kvs) ∧ Tx enc K H kvs rs
/-- .. and not locked -/
def TD (enc : α → PyData) (K : PySem.W.Frag) (H : Hp) (a : Addr) (rs : List (Str × α)) : Prop := ∃ kvs, H a = some (.dK kvs) ∧ Tx enc K H kvs rs
theorem Tx.wk (s : Wk H H') (h : Tx enc K H kvs rs) : Tx enc K H' kvs rs := pairedMono (fun _ _ z => ⟨z.1, Dp.wk s z.2⟩) h
theorem TR.wk (s : Wk H H') (h : TR enc K H a rs) : TR enc K H' a rs := by
  obtain ⟨kvs, e, t⟩ := h
  exact ⟨kvs, s _ _ e, t.wk s⟩
theorem TD.tr (h : TD enc K H a rs) : TR enc K H a rs := by
  obtain ⟨kvs, e, t⟩ := h
  exact ⟨kvs, .inl e, t⟩
theorem TD.same (s : Same H H') (h : TD enc K H a rs) : TD enc K H' a rs := by
  obtain ⟨kvs, e, t⟩ := h
  exact ⟨kvs, s _ _ e, t.wk (Wk.of s)⟩
/-- the value by its name -/
def look : List (Str × α) → Str → Option α
  | [], _ => none
  | p :: r, s => if p.1 = s then some p.2 else look r s
theorem look_mem : ∀ {rs : List (Str × α)} {s : Str} {x : α}, look rs s = some x → (s, x) ∈ rs
  | p :: r, s, x, h => by
    unfold look at h
    by_cases e : p.1 = s
    · rw [if_pos e] at h
      cases h
      rw [← e]
      exact List.mem_cons_self ..
    · rw [if_neg e] at h
      exact List.mem_cons_of_mem _ (look_mem h)
theorem look_of : ∀ {rs : List (Str × α)} {s : Str} {x : α}, (rs.map (·.1)).Nodup → (s, x) ∈ rs → look rs s = some x
  | p :: r, s, x, nd, h => by
    rw [List.map_cons, List.nodup_cons] at nd
    unfold look
    rcases List.mem_cons.mp h with e | h
    · rw [← e, if_pos rfl]
    · rw [if_neg, look_of nd.2 h]
      intro e
      exact nd.1 (List.mem_map.mpr ⟨_, h, e.symm⟩)
theorem look_none : ∀ {rs : List (Str × α)} {s : Str}, look rs s = none ↔ s ∉ rs.map (·.1)
  | [], s => by simp [look]
  | p :: r, s => by
    unfold look
    rw [List.map_cons, List.mem_cons]
    by_cases e : p.1 = s
    · rw [if_pos e]
      simp [e]
    · rw [if_neg e, look_none]
      simp [Ne.symm e]
theorem look_some {rs : List (Str × α)} {s : Str} : (look rs s).isSome = true ↔ s ∈ rs.map (·.1) := by
  cases e : look rs s with
  | none => simpa using look_none.mp e
  | some x => simpa using ⟨x, look_mem e⟩
theorem look_perm {rs rs' : List (Str × α)} (p : rs.Perm rs') (nd : (rs.map (·.1)).Nodup) (s : Str) : look rs s = look rs' s := by
  cases e : look rs s with
  | some x => exact (look_of ((p.map _).nodup_iff.mp nd) (p.mem_iff.mp (look_mem e))).symm
  | none => exact (look_none.mpr fun m => look_none.mp e ((p.map _).mem_iff.mpr m)).symm
theorem Tx.get (h : Tx enc K H kvs rs) (s : Str) : (look rs s = none ∧ valV kvs (.inr s) = none) ∨ ∃ x v, look rs s = some x ∧ valV kvs (.inr s) = some v ∧ Dp K H v (enc x) := by
  induction h with
  | nil => exact .inl ⟨rfl, rfl⟩
  | cons q t ih =>
    rename_i p r l l'
    unfold look
    by_cases e : r.1 = s
    · have e1 : p.1 = .inr s := by rw [q.1, e]
      rw [if_pos e, valV_pos e1]
      exact .inr ⟨_, _, rfl, rfl, q.2⟩
    · have e1 : ¬ p.1 = .inr s := by rw [q.1]; exact fun z => e (Sum.inr.inj z)
      rw [if_neg e, valV_neg e1]
      exact ih
theorem Tx.keys (h : Tx enc K H kvs rs) : kvs.map (·.1) = (rs.map (·.1)).map Sum.inr := by
  induction h with
  | nil => rfl
  | cons q t ih => rw [List.map_cons, List.map_cons, List.map_cons, ih, q.1]
theorem Tx.at (h : Tx enc K H kvs rs) {i : Nat} {p : Key × V} (e : kvs[i]? = some p) : ∃ r, rs[i]? = some r ∧ p.1 = .inr r.1 ∧ Dp K H p.2 (enc r.2) := by
  induction h generalizing i with
  | nil => cases e
  | cons q t ih =>
    cases i with
    | zero => cases e; exact ⟨_, rfl, q⟩
    | succ i => exact ih e
theorem Tx.put (h : Tx enc K H kvs rs) {s : Str} {v : V} {x : α} (n : s ∉ rs.map (·.1)) (d : Dp K H v (enc x)) : Tx enc K H (putK kvs (.inr s) v) (rs ++ [(s, x)]) := by
  have no : (kvs.any fun kv => decide (kv.1 = .inr s)) = false := by
    rw [valV_any]
    rcases h.get s with ⟨_, e⟩ | ⟨x, v, e, _⟩
    · rw [e]; rfl
    · exact absurd (look_some.mp (by rw [e]; rfl)) n
  unfold putK
  rw [no]
  have : ∀ {ks : List (Key × V)} {qs : List (Str × α)}, Tx enc K H ks qs → Tx enc K H (ks ++ [(.inr s, v)]) (qs ++ [(s, x)]) := by
    intro ks qs t
    induction t with
    | nil => exact .cons ⟨rfl, d⟩ .nil
    | cons q t ih => exact .cons q ih
  exact this h
theorem TR.get (h : TR enc K H a rs) {s : Str} {x : α} (e : look rs s = some x) : ∃ v, DGet H a (.str s) (some v) ∧ Dp K H v (enc x) := by
  obtain ⟨kvs, hr, t⟩ := h
  rcases t.get s with ⟨e1, _⟩ | ⟨x', v, e1, e2, d⟩
  · rw [e] at e1; cases e1
  · rw [e] at e1
    cases e1
    exact ⟨v, .inl ⟨kvs, .inr s, hr, rfl, e2.symm⟩, d⟩
theorem TR.has (h : TR enc K H a rs) (s : Str) : ∃ o, DGet H a (.str s) o ∧ o.isSome = decide (s ∈ rs.map (·.1)) := by
  obtain ⟨kvs, hr, t⟩ := h
  rcases t.get s with ⟨e1, e2⟩ | ⟨x, v, e1, e2, d⟩
  · exact ⟨none, .inl ⟨kvs, .inr s, hr, rfl, e2.symm⟩, (decide_eq_false (look_none.mp e1)).symm⟩
  · exact ⟨some v, .inl ⟨kvs, .inr s, hr, rfl, e2.symm⟩, (decide_eq_true (look_some.mp (by rw [e1]; rfl))).symm⟩
theorem TD.len (h : TD enc K H a rs) : ∃ kvs, H a = some (.dK kvs) ∧ kvs.length = rs.length := by
  obtain ⟨kvs, e, t⟩ := h
  exact ⟨kvs, e, Paired.length t⟩
theorem TD.nil (e : H a = some (.dK [])) : TD enc K H a [] := ⟨[], e, .nil⟩
/-- the rows ascending by their names -/
def srtR (rs : List (Str × α)) : List (Str × α) := (srt (rs.map (·.1))).filterMap fun s => (look rs s).map fun x => (s, x)
theorem fm_names : ∀ {ss : List Str}, (∀ s ∈ ss, s ∈ rs.map (·.1)) → (ss.filterMap fun s => (look rs s).map fun x => (s, x)).map (·.1) = ss
  | [], _ => rfl
  | s :: ss, h => by
    obtain ⟨x, e⟩ := Option.isSome_iff_exists.mp (look_some.mpr (h s (List.mem_cons_self ..)))
    rw [List.filterMap_cons_some (b := (s, x)) (by rw [e]; rfl), List.map_cons, fm_names fun t m => h t (List.mem_cons_of_mem _ m)]
theorem srtR_names (rs : List (Str × α)) : (srtR rs).map (·.1) = srt (rs.map (·.1)) := fm_names fun s m => srt_mem.mp m
theorem srtR_len (rs : List (Str × α)) : (srtR rs).length = rs.length := by rw [← List.length_map (f := (·.1)), srtR_names, srt_len, List.length_map]
theorem srtR_nodup (nd : (rs.map (·.1)).Nodup) : ((srtR rs).map (·.1)).Nodup := by rw [srtR_names]; exact (srt_perm _).nodup_iff.mpr nd
theorem srtR_look (nd : (rs.map (·.1)).Nodup) (s : Str) : look (srtR rs) s = look rs s := by
  cases e : look rs s with
  | some x =>
    refine look_of (srtR_nodup nd) (List.mem_filterMap.mpr ⟨s, srt_mem.mpr (look_some.mp (by rw [e]; rfl)), by rw [e]; rfl⟩)
  | none =>
    refine look_none.mpr fun m => look_none.mp e ?_
    rw [srtR_names] at m
    exact srt_mem.mp m
theorem srtR_mem (nd : (rs.map (·.1)).Nodup) {p : Str × α} : p ∈ srtR rs ↔ p ∈ rs := by
  constructor
  · intro m
    have := look_of (srtR_nodup nd) (show (p.1, p.2) ∈ srtR rs from m)
    rw [srtR_look nd] at this
    exact look_mem this
  · intro m
    have := look_of nd (show (p.1, p.2) ∈ rs from m)
    rw [← srtR_look nd] at this
    exact look_mem this
theorem srtR_congr {rs rs' : List (Str × α)} (p : rs.Perm rs') (nd : (rs.map (·.1)).Nodup) : srtR rs = srtR rs' := by
  unfold srtR
  rw [srt_congr (p.map (·.1))]
  congr 1
  funext s
  rw [look_perm p nd s]
theorem nodup_of {β γ : Type} {f : β → γ} : ∀ {l : List β}, (l.map f).Nodup → l.Nodup
  | [], _ => .nil
  | x :: l, h => by
    rw [List.map_cons, List.nodup_cons] at h
    exact List.nodup_cons.mpr ⟨fun m => h.1 (List.mem_map.mpr ⟨x, m, rfl⟩), nodup_of h.2⟩
theorem perm_of_mem {β : Type} [DecidableEq β] : ∀ {l m : List β}, l.Nodup → m.Nodup → (∀ x, x ∈ l ↔ x ∈ m) → l.Perm m
  | [], m, _, _, h => by
    cases m with
    | nil => exact .nil
    | cons y m => exact absurd ((h y).mpr (List.mem_cons_self ..)) (by simp)
  | x :: l, m, hl, hm, h => by
    rw [List.nodup_cons] at hl
    have xm : x ∈ m := (h x).mp (List.mem_cons_self ..)
    refine .trans (.cons x (perm_of_mem hl.2 (hm.erase x) fun y => ?_)) (List.perm_cons_erase xm).symm
    rw [hm.mem_erase_iff]
    constructor
    · intro my
      exact ⟨fun e => hl.1 (e ▸ my), (h y).mp (List.mem_cons_of_mem _ my)⟩
    · rintro ⟨n, my⟩
      exact (List.mem_cons.mp ((h y).mpr my)).resolve_left n
end
end DW
namespace DW
open PySem PySem.Spec PyProof.Rows L2 PySem.W
section
variable {X : Cx}
/-- sorted(tuple of texts) -/
def rSrtT (K : PySem.W.Frag) : List V → Hp → VK → Prop := fun vs H Q => ∃ (a : Addr) (xs : List Str), vs = [.ref a] ∧ SqT K H a (xs.map V.str) ∧ xs.length ≤ 1000 ∧ ∀ p, H p = none → Q (.ref p) (upd H p (.lst ((srt xs).map V.str)))
theorem cr_srtT (hu : X.A.units + 64 < cLine) : CallR X (.builtin "sorted") (rSrtT X.K) := by
  intro pins s σ H vs us Q I r h
  obtain ⟨a, xs, rfl, hs, hl, q⟩ := h
  obtain ⟨its, rv, ⟨o, ho, hc, n, hd⟩, hz⟩ := I.tuple hs
  obtain ⟨u, rfl, ru⟩ := vals1 r
  obtain rfl : u = Value.ref a := ru
  have hal : its.length = xs.length := by have := rv.length; simpa using this.symm
  refine Calls.call_function_entry PyProof.Rows.kind_sorted PyProof.Rows.plain_sorted PyProof.Rows.entry_sorted (PyProof.Rows.args_sorted1 _) ?_
  unfold Builtin.«sorted»
  refine wpAny_bind (m := checkCount "sorted" 1 1 _) (wpAny_pure ?_)
  refine wpAny_bind (wpAny_collect_seq a (.inr rfl) ho hc hd (fun h' hk => ?_) (by rw [List.size_toArray, hal, sizeLine_eq]; omega))
  have I1 : Inv X pins σ H { s with heap := h' } := I.kept (t' := s.toks) hk
  refine wpAny_bind (wpAny_newList ?_ (by rw [List.toList_toArray, hal, sizeLine_eq]; omega))
  have hoL : (h'.push (seqObj "list" its.toArray.toList.toArray 0)).get? h'.objs.size = some (seqObj "list" its.toArray.toList.toArray 0) := Heap.get?_push_size _ rfl
  have e := each_str rv
  have free : H h'.objs.size = none := I1.hok.fresh (Nat.le_refl _)
  refine (show wpAny _ _ _ _ _ { s with heap := h'.push (seqObj "list" its.toArray.toList.toArray 0) } from wpAny_bind (wpAny_holding ?_))
  refine list_sort_data (vs := its.toArray.toList) (bs := xs) (enc := fun b : Str => PyData.str b) (R := fun (v : Value) (b : Str) => RelV (.str b) v) hoL e (each_read e) (alike_strs xs) (sortable_strs xs) (by rw [sizeLine_eq]; omega)
    (fun b _ => by simp [PyData.depth]; omega) fun out lo eo => ?_
  rw [dataLe_srt] at eo
  obtain ⟨e', atE⟩ := PyProof.Rows.sortedHeap_at (vs := its.toArray.toList) (out := out.toArray) hoL
  refine wpAny_pure ⟨_, rfl, .ref h'.objs.size, upd H h'.objs.size (.lst ((srt xs).map V.str)), I1.laid (t' := s.toks) (fun b u e => ?_) (Nat.le_refl _) ⟨?_, out, e', vals_str eo, atE⟩, rfl, q _ free⟩
  · have lt : b < h'.objs.size := Heap.lt_size e
    rw [PyProof.Rows.sortedHeap_old (Nat.ne_of_lt lt) (by rw [size_push']; exact Nat.lt_succ_of_lt lt)]
    exact Heap.get?_push_of_some _ e
  · rw [List.length_map, srt_len, sizeLine_eq]; omega
/-- sorted of a dict with texts as keys, or of () -/
def LotN (K : PySem.W.Frag) (H : Hp) (v : V) (ns : List Str) : Prop := (∃ a kvs, v = .ref a ∧ H a = some (.dK kvs) ∧ kvs.map (·.1) = ns.map Sum.inr) ∨ (ns = [] ∧ ∃ t, v = .ref t ∧ SqT K H t [])
def rSrtL (K : PySem.W.Frag) : List V → Hp → VK → Prop := fun vs H Q => ∃ (v : V) (ns : List Str), vs = [v] ∧ LotN K H v ns ∧ ns.length ≤ 1000 ∧ ∀ p, H p = none → Q (.ref p) (upd H p (.lst ((srt ns).map V.str)))
theorem cr_srtL (hcalm : X.calm = true) (hu : X.A.units + 64 < cLine) : CallR X (.builtin "sorted") (rSrtL X.K) := by
  intro pins s σ H vs us Q I r h
  obtain ⟨v, ns, rfl, lot, hl, q⟩ := h
  rcases lot with ⟨a, kvs, rfl, ha, hk⟩ | ⟨rfl, t, rfl, ht⟩
  · exact cr_srtD hcalm hu pins s σ H _ us Q I r ⟨a, kvs, ns, rfl, .inl ha, hk, hl, q⟩
  · exact cr_srtT hu pins s σ H _ us Q I r ⟨t, [], rfl, ht, hl, q⟩
end
/-- a lot: a dict from texts to data, or () -/
def Lot {α : Type} (enc : α → PyData) (K : PySem.W.Frag) (H : Hp) (v : V) (rs : List (Str × α)) : Prop := (∃ a, v = .ref a ∧ TD enc K H a rs) ∨ (rs = [] ∧ ∃ t, v = .ref t ∧ SqT K H t [])
section
variable {α : Type} {enc : α → PyData} {K : PySem.W.Frag} {H H' : Hp} {v : V} {rs : List (Str × α)}
theorem Lot.names (h : Lot enc K H v rs) : LotN K H v (rs.map (·.1)) := by
  rcases h with ⟨a, rfl, kvs, e, t⟩ | ⟨rfl, t, rfl, ht⟩
  · exact .inl ⟨a, kvs, rfl, e, t.keys⟩
  · exact .inr ⟨rfl, t, rfl, ht⟩
theorem Lot.same (s : Same H H') (h : Lot enc K H v rs) : Lot enc K H' v rs := by
  rcases h with ⟨a, rfl, t⟩ | ⟨rfl, t, rfl, ht⟩
  · exact .inl ⟨a, rfl, t.same s⟩
  · exact .inr ⟨rfl, t, rfl, sqT_wk (Wk.of s) ht⟩
theorem LotN.same {ns : List Str} (s : Same H H') (h : LotN K H v ns) : LotN K H' v ns := by
  rcases h with ⟨a, kvs, rfl, e, t⟩ | ⟨rfl, t, rfl, ht⟩
  · exact .inl ⟨a, kvs, rfl, s _ _ e, t⟩
  · exact .inr ⟨rfl, t, rfl, sqT_wk (Wk.of s) ht⟩
theorem Lot.get (h : Lot enc K H v rs) {s : Str} {x : α} (e : look rs s = some x) : ∃ a u, v = .ref a ∧ DGet H a (.str s) (some u) ∧ Dp K H u (enc x) := by
  rcases h with ⟨a, rfl, t⟩ | ⟨rfl, t, rfl, ht⟩
  · obtain ⟨u, g, d⟩ := t.tr.get e
    exact ⟨a, u, rfl, g, d⟩
  · cases e
end
end DW
namespace LW
open PySem PySem.Spec PyProof.Rows L2 DW
section
variable {X : Cx} {CX : CXT} {E : XK} {k m : Nat} {f : Addr} {fd : FuncData} {ps : List Str} {sp : Sp} {x : Str} {e : Expr} {es : List Expr} {p pos : Pos} {t : TA}
/-- a def that may be called by its name -/
structure Cal (P : Program) (w : World) (K : PySem.W.Frag) (mg : Str → Option Value) (base : Heap) (k : Nat) (x : Str) (ps : List Str) (sp : Sp) (f : Addr) (fd : FuncData) : Prop where
  G : FnOk P w K mg base CX0 k f fd ps sp
  kp : PySem.W.keepIn K (.ref f) = true
  b : Binds K fd ps []
  g : mg x = some (.ref f)
theorem pe_cal (C : Cal X.prog X.w X.K X.mg X.base k x ps sp f fd) (hr : Room m X.A) (hg : Gl X x) (ha : PA X (e :: es) t) (hk : k ≤ m := by decide) (hdb : (x == ("__debug__" : Str)) = false := by decide) (he : starEach (e :: es) X.env = (false, eval e X.env) :: starEach es X.env := by rfl) (hpl : (backTo pos (starEach es X.env)).any (·.1) = false := by rfl) :
    PE X (.Call (.Name x p) (e :: es) [] pos) (tCall sp [] E t) := pe_call C.G (hr.mono hk) hg C.g C.kp C.b .nil (fun _ _ _ _ _ _ _ h => h.elim) ha hdb he hpl
/-- .. one that may raise -/
structure CalR (P : Program) (w : World) (K : PySem.W.Frag) (mg : Str → Option Value) (base : Heap) (k : Nat) (x : Str) (ps : List Str) (sp : Sp) (f : Addr) (fd : FuncData) : Prop where
  G : FnOk P w K mg base (L2.CX P w) k f fd ps sp
  kp : PySem.W.keepIn K (.ref f) = true
  b : Binds K fd ps []
  g : mg x = some (.ref f)
/-- .. one that asks that no repr is under way -/
structure CalG (P : Program) (w : World) (K : PySem.W.Frag) (mg : Str → Option Value) (base : Heap) (k : Nat) (x : Str) (ps : List Str) (sp : Sp) (f : Addr) (fd : FuncData) : Prop where
  G : FnG P w K mg base k f fd ps sp
  kp : PySem.W.keepIn K (.ref f) = true
  b : Binds K fd ps []
  g : mg x = some (.ref f)
end
theorem tyx_tup {K : PySem.W.Frag} {H : Hp} {a : Addr} {xs : List V} (h : SqT K H a xs) : TyX K H (.ref a) (.type "tuple") := by
  rcases h with (e | ⟨o, e⟩) | ⟨o, its, n, e, c, _⟩
  · exact .base (.tup e)
  · exact .fTuple e
  · exact .kTuple e c
section
variable {K : PySem.W.Frag} {σ : L2.St} {H : Hp} {i : Nat} {Q : VK}
/-- isinstance of what is at hand -/
theorem isi_str {z : Str} {T : String} {b : Bool} (hv : σ[i]? = some (some (.str z))) (hk : kitB "str" T = some b) (q : Q (.bl b) H) : tCB (rIsi K) (tCons (tVar i) (tCons (tC (.ty T)) tNil)) σ H Q :=
  rd_isi (d := .str z) hv (.base (.str z) rfl) hk q
theorem isi_tup {a : Addr} {xs : List V} {T : String} {b : Bool} (hv : σ[i]? = some (some (.ref a))) (h : SqT K H a xs) (hk : kitB "tuple" T = some b) (q : Q (.bl b) H) : tCB (rIsi K) (tCons (tVar i) (tCons (tC (.ty T)) tNil)) σ H Q :=
  rd_isiT hv (tyx_tup h) hk q
theorem isi_dK {a : Addr} {kvs : List (Key × V)} {T : String} {b : Bool} (hv : σ[i]? = some (some (.ref a))) (h : H a = some (.dK kvs)) (hk : kitB "dict" T = some b) (q : Q (.bl b) H) : tCB (rIsi K) (tCons (tVar i) (tCons (tC (.ty T)) tNil)) σ H Q :=
  rd_isiT hv (.base (.dK h)) hk q
end
theorem ite0 {b : Bool} {A B : Prop} (h : b = false) (p : B) : if b = true then A else B := by
  rw [h]
  exact iteF p
theorem ite1 {b : Bool} {A B : Prop} (h : b = true) (p : A) : if b = true then A else B := by
  rw [h]
  exact iteT p
theorem kDD : kitB "dict" "dict" = some true := by decide +kernel
theorem kDT : kitB "dict" "tuple" = some false := by decide +kernel
theorem kTT : kitB "tuple" "tuple" = some true := by decide +kernel
theorem kTD : kitB "tuple" "dict" = some false := by decide +kernel
theorem kSS : kitB "str" "str" = some true := by decide +kernel
section
variable {J : It} {n : Nat} {G : Hp → Prop} {Y : Nat → Hp → V → Hp → Prop}
/-- all([true for x in ..]) -/
theorem all_it {K : PySem.W.Frag} (w : Walk J n G Y) (hn : n ≤ 1000000) {g : TG} {te : TE} {vs : List Nat} {σ : L2.St} {H : Hp} {D : Addr} {Qd : Hp → Prop} (hD : H D = none) (hG : ∀ H', Same H H' → G H')
    (hs : ∀ i x H1 H2 (R : VK), i < n → Same H H1 → Y i H1 x H2 → (∀ H5, Same H1 H5 → R (.bl true) H5) → g x (wipe σ vs) H2 fun σ2 H3 => wipe σ2 vs = wipe σ vs ∧ te σ2 H3 R) (k : ∀ H', Same H H' → (∃ bs : List Bool, SqL K H' D (bs.map V.bl) ∧ bs.all id = true) → Qd H') :
    ∃ W : Nat → Nat → Hp → Prop, (∃ m, W 0 m (upd H D (.lst []))) ∧ ∀ i m H, W i m H →
      (J.stop i H ∧ Qd H) ∨ (J.go i H ∧ ∃ Nx : Hp → Prop, (∀ H', Nx H' → ∃ m', m' < m ∧ W (i + 1) m' H') ∧ ∀ x H', J.yld i H x H' → g x (wipe σ vs) H' fun σ2 H2 => wipe σ2 vs = wipe σ vs ∧ tYes σ2 H2 fun b H3 =>
        if b = true then te σ2 H3 fun y H4 => ∃ acc, H4 D = some (.lst acc) ∧ acc.length < sizeLine ∧ Nx (upd H4 D (.lst (acc ++ [y]))) else Nx H3) := by
  refine lc_it w (fun i H' => Same H H' ∧ H' D = some (.lst ((List.replicate i true).map V.bl))) ⟨same_new hD, upd_same⟩ (fun i H' _ p => hG H' p.1) (fun i x H1 H2 hi p y => ?_) (fun H' p => ?_)
  · obtain ⟨s1, e⟩ := p
    have z := hs i x H1 H2 (fun y H4 => ∃ acc, H4 D = some (.lst acc) ∧ acc.length < sizeLine ∧ (Same H (upd H4 D (.lst (acc ++ [y]))) ∧ upd H4 D (.lst (acc ++ [y])) D = some (.lst ((List.replicate (i + 1) true).map V.bl)))) hi s1 y fun H5 s5 =>
      ⟨_, s5 _ _ e, by rw [List.length_map, List.length_replicate, sizeLine_eq]; omega, same_mut (s1.trans s5) hD, by rw [upd_same, List.replicate_succ', List.map_append]; rfl⟩
    exact z
  · obtain ⟨s1, e⟩ := p
    exact k H' s1 ⟨List.replicate n true, SqL.of e, by simp⟩
end
end LW
namespace LW
open PySem PySem.Spec PyProof.Rows L2 DW
/-! ### nets as data -/
abbrev WkT := Str × Str × Int × Int × Int
abbrev BdT := Str × Str × Int
def wkD (w : WkT) : PyData := .tuple [.str w.1, .str w.2.1, .int w.2.2.1, .int w.2.2.2.1, .int w.2.2.2.2]
def bdD (b : BdT) : PyData := .tuple [.str b.1, .str b.2.1, .int b.2.2]
def inD (i : Int) : PyData := .int i
abbrev Ls := List (Str × Int)
abbrev Ws := List (Str × WkT)
abbrev Bs := List (Str × BdT)
def knownB (L : Ls) (z : Str) : Bool := decide (z = ("dawn" : Str)) || decide (z ∈ L.map (·.1))
structure OkL (L : Ls) : Prop where
  nd : (L.map (·.1)).Nodup
  len : 1 ≤ L.length ∧ L.length ≤ 200
  name : ∀ p ∈ L, nameS p.1 = true
  tick : ∀ p ∈ L, 0 ≤ p.2 ∧ p.2 ≤ 10 ^ 30
structure OkWk (L : Ls) (w : WkT) : Prop where
  b : knownB L w.1 = true
  e : knownB L w.2.1 = true
  ne : w.2.1 ≠ ("dawn" : Str)
  be : w.1 ≠ w.2.1
  l : 1 ≤ w.2.2.1
  lm : w.2.2.1 ≤ w.2.2.2.1
  m : w.2.2.2.1 ≤ 10 ^ 30
  k : 0 ≤ w.2.2.2.2 ∧ w.2.2.2.2 ≤ 20
structure OkBd (L : Ls) (b : BdT) : Prop where
  f : knownB L b.1 = true
  s : knownB L b.2.1 = true
  ne : b.1 ≠ b.2.1
  m : 1 - 10 ^ 40 ≤ b.2.2 ∧ b.2.2 ≤ 10 ^ 40 - 1
structure OkW (L : Ls) (W : Ws) : Prop where
  nd : (W.map (·.1)).Nodup
  len : W.length ≤ 60
  name : ∀ p ∈ W, nameS p.1 = true
  wk : ∀ p ∈ W, OkWk L p.2
  ends : (W.map fun p => p.2.2.1).Nodup
  rank : ∃ r : Str → Nat, ∀ p ∈ W, r p.2.1 < r p.2.2.1
  look : ∀ p ∈ W, ∀ q ∈ W, p.2.1 = q.2.2.1 → q.2.2.2.2.2 = 0
structure OkB (L : Ls) (B : Bs) : Prop where
  nd : (B.map (·.1)).Nodup
  len : B.length ≤ 400
  name : ∀ p ∈ B, nameS p.1 = true
  bd : ∀ p ∈ B, OkBd L p.2
theorem name_len {z : Str} (h : nameS z = true) : z.length ≤ 1000 := by
  simp only [nameS, Bool.and_eq_true, decide_eq_true_eq] at h
  omega
theorem fit_str {z : Str} (h : nameS z = true) : Fit (.str z) := fun y e => by cases e; exact name_len h
theorem wk_at {K : PySem.W.Frag} {H : Hp} {v : V} {w : WkT} (h : Dp K H v (wkD w)) : ∃ t, v = .ref t ∧ SqT K H t [.str w.1, .str w.2.1, .int w.2.2.1, .int w.2.2.2.1, .int w.2.2.2.2] := by
  cases h with
  | tup hs ha =>
    cases ha with
    | cons a1 r =>
      cases r with
      | cons a2 r =>
        cases r with
        | cons a3 r =>
          cases r with
          | cons a4 r =>
            cases r with
            | cons a5 r =>
              cases r
              cases a1
              cases a2
              cases a3
              cases a4
              cases a5
              exact ⟨_, rfl, hs⟩
theorem bd_at {K : PySem.W.Frag} {H : Hp} {v : V} {b : BdT} (h : Dp K H v (bdD b)) : ∃ t, v = .ref t ∧ SqT K H t [.str b.1, .str b.2.1, .int b.2.2] := by
  cases h with
  | tup hs ha =>
    cases ha with
    | cons a1 r =>
      cases r with
      | cons a2 r =>
        cases r with
        | cons a3 r =>
          cases r
          cases a1
          cases a2
          cases a3
          exact ⟨_, rfl, hs⟩
theorem in_at {K : PySem.W.Frag} {H : Hp} {v : V} {i : Int} (h : Dp K H v (inD i)) : v = .int i := by
  cases h
  rfl
section
variable {P : Program} {w : World} {K : PySem.W.Frag} {mg : Str → Option Value} {base : Heap}
theorem scLasts : FnScope ["value", "limit", "name"] ["value", "limit"] (defScope s_are_lasts) := ⟨rfl, rfl, rfl, by decide +kernel, rfl, by decide +kernel, by decide +kernel⟩
def spLasts (K : PySem.W.Frag) : Sp := fun vs H Q _ => ∃ (a : Addr) (lim : Int) (L : Ls), vs = [.ref a, .int lim] ∧ TD inD K H a L ∧ OkL L ∧ (L.length : Int) ≤ lim ∧ ∀ H', Same H H' → Q (.bl true) H'
theorem ok_lasts {f fN fB : Addr} {fd dN dB : FuncData} (F : Fun K "are_lasts" "are_lasts" s_are_lasts f fd) (CN : Cal P w K mg base 1 "is_name" ["value"] (spJ K isNameD) fN dN) (CB : Cal P w K mg base 1 "is_between" ["value", "least", "most"] (spBet K) fB dB)
    {tL : Addr} (gL : mg "MAX_LENGTH" = some (.int (10 ^ 30) tL)) (zI : mg "isinstance" = none) (zD : mg "dict" = none) (zL : mg "len" = none) (zA : mg "all" = none) : FnOk P w K mg base CX0 2 f fd ["value", "limit"] (spLasts K) := by
  refine F.ok scLasts (fun vs H Q E h => ?_) (fun cdv A outer s H vs Q E hr h => ?_)
  · obtain ⟨a, lim, L, rfl, _⟩ := h
    rfl
  obtain ⟨a, lim, L, rfl, ⟨kvs, ha, tx⟩, ok, hl, k⟩ := h
  have ek : kvs.length = L.length := Paired.length tx
  refine ⟨_, pss_cons (ps_if (PW.pt (pw_or (pt_not (pt_val (pe_callB call_isi (by rfl) zI (by rfl) (pa_cons (pv 0) (pa_cons (pe_bltn rfl zD (by rfl) (show RelV (.ty "dict") (.type "dict") from rfl)) pa_nil)))))
        (pw_or1 (pt_not (pt_chain op_le op_le pe_int (pe_callB call_lenD (by rfl) zL PySem.boot_len (pa_cons (pv 0) pa_nil)) (pv 1))))))
      (pss_one (ps_ret pe_bl)) pss_nil)
    (pss_one (ps_ret (pe_lock (pe_callB (cr_all rfl) (by rfl) zA (by decide +kernel) (pa_cons (pe_lc (own := [("name", 2)]) (g := gName 2) (tt := tYes) rfl scLasts.nd (pi_keys (pv 0)) (blkOk_by (own := [("name", 2)]) (N := ["value", "limit", "name"]) (sc := defScope s_are_lasts) (by decide +kernel))
      (fun _ _ _ _ _ => pg_name (i := 2) scLasts.nd rfl (Or.inl rfl)) (fun _ _ _ _ _ => pts_nil) (fun _ _ _ _ _ => pe_and (pe_cal (E := E0) CN hr rfl (pa_cons (pv 2) pa_nil))
        (pe_one (pe_cal (E := E0) CB hr rfl (pa_cons (pe_dget (hu_of hr) (pv 0) (pv 2) (fun _ _ => rfl)) (pa_cons pe_int (pa_cons (pe_glob rfl gL (show RelV (.int (10 ^ 30)) (.int (10 ^ 30) tL) from ⟨tL, rfl⟩)) pa_nil))))))) pa_nil))))), ?_⟩
  refine isi_dK rfl ha kDD ⟨_, rfl, iteF ⟨_, rfl, a, kvs, rfl, ha, _, _, rfl, rfl, _, rfl, ?_⟩⟩
  have l1 := ok.len.1
  have l2 := ok.len.2
  rw [decide_eq_true (by omega : (1 : Int) ≤ (kvs.length : Nat))]
  refine iteT ⟨_, rfl, _, _, rfl, rfl, _, rfl, ?_⟩
  rw [decide_eq_true (by omega : ((kvs.length : Nat) : Int) ≤ lim)]
  refine iteF ⟨a, _, ha, mut_dK, fun od => ⟨_, rfl, a, od, rfl, .inl ⟨kvs, upd_same, fun D hD => all_it (K := K) (walk_keys (kvs := kvs)) (by omega) hD (fun H' s => s _ _ upd_same) (fun i x H1 H2 R hi s y r => ?_) fun H' s q => ?_⟩⟩⟩
  · obtain ⟨rfl, key, v, hk, rfl⟩ := y
    obtain ⟨p, hp, e, dv⟩ := tx.at hk
    have e : key = .inr p.1 := e
    subst e
    have pm := List.mem_of_getElem? hp
    have nm := ok.name p pm
    have wk1 : Wk H H2 := (Wk.lock ha (fun _ _ z => nomatch z)).trans (Wk.of s)
    refine ⟨rfl, _, rfl, .str p.1, .str p.1, rfl, .base (.str p.1) rfl, fit_str nm, fun H3 s3 => ⟨_, rfl, ?_⟩⟩
    rw [show isNameD (.str p.1) = true from nm]
    have wk2 := wk1.trans (Wk.of s3)
    obtain ⟨u, g, du⟩ := (TR.wk wk2 ⟨kvs, .inl ha, tx⟩).get (look_of ok.nd pm)
    cases in_at du
    have tk := ok.tick p pm
    refine iteT ⟨_, rfl, _, rfl, a, _, rfl, g, .int p.2, .int p.2, _, _, rfl, .base (.int p.2) rfl, ?_⟩
    rw [show betD 0 (10 ^ 30) (.int p.2) = true by simp only [betD, decide_eq_true tk.1, decide_eq_true tk.2, Bool.and_self]]
    exact r H3 s3
  · obtain ⟨z1, z2⟩ := unlock ha s
    obtain ⟨bs, hb, e⟩ := q
    refine ⟨D, bs, rfl, hb, z1, ?_⟩
    rw [e]
    exact k _ z2
end
end LW
namespace LW
open PySem PySem.Spec PyProof.Rows L2 DW
section
variable {P : Program} {w : World} {K : PySem.W.Frag} {mg : Str → Option Value} {base : Heap}
theorem scLot : FnScope ["value", "limit", "name"] ["value", "limit"] (defScope s_u_is_lot) := ⟨rfl, rfl, rfl, by decide +kernel, rfl, by decide +kernel, by decide +kernel⟩
def spLot (K : PySem.W.Frag) : Sp := fun vs H Q _ => ∃ (v : V) (lim : Int) (ns : List Str), vs = [v, .int lim] ∧ LotN K H v ns ∧ (∀ n ∈ ns, nameS n = true) ∧ (ns.length : Int) ≤ lim ∧ ns.length ≤ 1000 ∧ ∀ H', Same H H' → Q (.bl true) H'
theorem ok_lot {f fN : Addr} {fd dN : FuncData} (F : Fun K "_is_lot" "_is_lot" s_u_is_lot f fd) (CN : Cal P w K mg base 1 "is_name" ["value"] (spJ K isNameD) fN dN)
    (zI : mg "isinstance" = none) (zT : mg "tuple" = none) (zD : mg "dict" = none) (zL : mg "len" = none) (zA : mg "all" = none) : FnOk P w K mg base CX0 2 f fd ["value", "limit"] (spLot K) := by
  refine F.ok scLot (fun vs H Q E h => ?_) (fun cdv A outer s H vs Q E hr h => ?_)
  · obtain ⟨a, lim, L, rfl, _⟩ := h
    rfl
  obtain ⟨v, lim, ns, rfl, lot, nm, hl, h1000, k⟩ := h
  refine ⟨_, pss_cons (ps_if (pt_val (pe_callB call_isi (by rfl) zI (by rfl) (pa_cons (pv 0) (pa_cons (pe_bltn rfl zT (by rfl) (show RelV (.ty "tuple") (.type "tuple") from rfl)) pa_nil))))
      (pss_one (ps_ret (pe_cmpR op_eq (pe_callB call_len_seq (by rfl) zL PySem.boot_len (pa_cons (pv 0) pa_nil)) pe_int (nomark _)))) pss_nil)
    (pss_one (ps_ret (pe_and (pe_callB call_isi (by rfl) zI (by rfl) (pa_cons (pv 0) (pa_cons (pe_bltn rfl zD (by rfl) (show RelV (.ty "dict") (.type "dict") from rfl)) pa_nil)))
      (pe_and (pe_cmpR op_le (pe_callB call_lenD (by rfl) zL PySem.boot_len (pa_cons (pv 0) pa_nil)) (pv 1) (nomark _))
      (pe_one (pe_lock (pe_callB (cr_all rfl) (by rfl) zA (by decide +kernel) (pa_cons (pe_lc (own := [("name", 2)]) (g := gName 2) (tt := tYes) rfl scLot.nd (pi_keys (pv 0)) (blkOk_by (own := [("name", 2)]) (N := ["value", "limit", "name"]) (sc := defScope s_u_is_lot) (by decide +kernel))
      (fun _ _ _ _ _ => pg_name (i := 2) scLot.nd rfl (Or.inl rfl)) (fun _ _ _ _ _ => pts_nil) (fun _ _ _ _ _ => pe_cal (E := E0) CN hr rfl (pa_cons (pv 2) pa_nil))) pa_nil)))))))), ?_⟩
  rcases lot with ⟨a, kvs, rfl, ha, hk⟩ | ⟨rfl, t, rfl, ht⟩
  · have el : kvs.length = ns.length := by have := congrArg List.length hk; simpa using this
    refine isi_dK rfl ha kDT ⟨_, rfl, iteF (isi_dK rfl ha kDD ⟨_, rfl, iteT ⟨_, rfl, a, kvs, rfl, ha, _, rfl, _, _, rfl, rfl, _, rfl, ?_⟩⟩)⟩
    rw [decide_eq_true (by omega : ((kvs.length : Nat) : Int) ≤ lim)]
    refine iteT ⟨a, _, ha, mut_dK, fun od => ⟨_, rfl, a, od, rfl, .inl ⟨kvs, upd_same, fun D hD => all_it (K := K) (walk_keys (kvs := kvs)) (by omega) hD (fun H' s => s _ _ upd_same) (fun i x H1 H2 R hi s y r => ?_) fun H' s q => ?_⟩⟩⟩
    · obtain ⟨rfl, key, v, hk1, rfl⟩ := y
      have e1 : (kvs.map (·.1))[i]? = some key := by rw [List.getElem?_map, hk1]; rfl
      rw [hk, List.getElem?_map] at e1
      obtain ⟨n, hn, e⟩ := Option.map_eq_some_iff.mp e1
      subst e
      have nn := nm n (List.mem_of_getElem? hn)
      refine ⟨rfl, _, rfl, .str n, .str n, rfl, .base (.str n) rfl, fit_str nn, fun H3 s3 => ?_⟩
      rw [show isNameD (.str n) = true from nn]
      exact r H3 s3
    · obtain ⟨z1, z2⟩ := unlock ha s
      obtain ⟨bs, hb, e⟩ := q
      refine ⟨D, bs, rfl, hb, z1, ?_⟩
      rw [e]
      exact k _ z2
  · exact isi_tup rfl ht kTT ⟨_, rfl, iteT ⟨_, rfl, t, [], rfl, .inr ht, rfl, k H (Same.refl H)⟩⟩
theorem scKnown : FnScope ["lasts", "value"] ["lasts", "value"] (defScope s_u_is_known) := ⟨rfl, rfl, rfl, by decide +kernel, rfl, by decide +kernel, by decide +kernel⟩
def spKnown (K : PySem.W.Frag) : Sp := fun vs H Q _ => ∃ (a : Addr) (z : Str) (L : Ls), vs = [.ref a, .str z] ∧ TR inD K H a L ∧ Q (.bl (knownB L z)) H
theorem ok_known {f : Addr} {fd : FuncData} (F : Fun K "_is_known" "_is_known" s_u_is_known f fd) {tW : Tok} (gW : mg "DAWN" = some (.str "dawn" tW)) (zI : mg "isinstance" = none) (zS : mg "str" = none) : FnOk P w K mg base CX0 1 f fd ["lasts", "value"] (spKnown K) := by
  refine F.ok scKnown (fun vs H Q E h => ?_) (fun cdv A outer s H vs Q E hr h => ?_)
  · obtain ⟨a, z, L, rfl, _⟩ := h
    rfl
  obtain ⟨a, z, L, rfl, tr, k⟩ := h
  refine ⟨_, pss_one (ps_ret (pe_and (pe_callB call_isi (by rfl) zI (by rfl) (pa_cons (pv 1) (pa_cons (pe_bltn rfl zS (by rfl) (show RelV (.ty "str") (.type "str") from rfl)) pa_nil)))
      (pe_one (pe_or (pe_cmpR op_eq (pv 1) (pe_glob rfl gW (show RelV (.str "dawn") (.str "dawn" tW) from ⟨tW, rfl⟩)) (nomark _)) (pe_one (pe_cmp (pc_din (hu_of hr) (pv 1) (pv 0)))))))), ?_⟩
  refine isi_str rfl kSS ⟨_, rfl, iteT ⟨_, rfl, rfl, _, rfl, ?_⟩⟩
  rw [dec_strV]
  unfold knownB at k
  by_cases e : z = ("dawn" : Str)
  · rw [decide_eq_true e] at k ⊢
    exact iteT k
  · rw [decide_eq_false e] at k ⊢
    obtain ⟨o, g, eo⟩ := tr.has z
    exact iteF ⟨_, rfl, _, rfl, a, o, rfl, g, by rw [eo]; exact k⟩
end
end LW
namespace LW
open PySem PySem.Spec PyProof.Rows L2 DW
section
variable {P : Program} {w : World} {K : PySem.W.Frag} {mg : Str → Option Value} {base : Heap}
theorem bet_true {lo hi i : Int} (h : lo ≤ i ∧ i ≤ hi) : betD lo hi (.int i) = true := by simp only [betD, decide_eq_true h.1, decide_eq_true h.2, Bool.and_self]
theorem scWork : FnScope ["lasts", "value", "begin", "end", "least", "most", "look"] ["lasts", "value"] (defScope s_u_is_work) := ⟨rfl, rfl, rfl, by decide +kernel, rfl, by decide +kernel, by decide +kernel⟩
def spWork (K : PySem.W.Frag) : Sp := fun vs H Q _ => ∃ (a t : Addr) (x : WkT) (L : Ls), vs = [.ref a, .ref t] ∧ TR inD K H a L ∧ SqT K H t [.str x.1, .str x.2.1, .int x.2.2.1, .int x.2.2.2.1, .int x.2.2.2.2] ∧ OkWk L x ∧ Q (.bl true) H
theorem ok_work {f fK fB : Addr} {fd dK dB : FuncData} (F : Fun K "_is_work" "_is_work" s_u_is_work f fd) (CK : Cal P w K mg base 1 "_is_known" ["lasts", "value"] (spKnown K) fK dK) (CB : Cal P w K mg base 1 "is_between" ["value", "least", "most"] (spBet K) fB dB)
    {tW tL tO : Tok} (gW : mg "DAWN" = some (.str "dawn" tW)) (gL : mg "MAX_LENGTH" = some (.int (10 ^ 30) tL)) (gO : mg "MAX_LOOK" = some (.int 20 tO)) (zI : mg "isinstance" = none) (zT : mg "tuple" = none) (zL : mg "len" = none) : FnOk P w K mg base CX0 2 f fd ["lasts", "value"] (spWork K) := by
  refine F.ok scWork (fun vs H Q E h => ?_) (fun cdv A outer s H vs Q E hr h => ?_)
  · obtain ⟨a, t, x, L, rfl, _⟩ := h
    rfl
  obtain ⟨a, t, ⟨b, e, l, m, k⟩, L, rfl, tr, ht, ok, q⟩ := h
  refine ⟨_, pss_cons (ps_if (PW.pt (pw_or (pt_not (pt_val (pe_callB call_isi (by rfl) zI (by rfl) (pa_cons (pv 1) (pa_cons (pe_bltn rfl zT (by rfl) (show RelV (.ty "tuple") (.type "tuple") from rfl)) pa_nil)))))
        (pw_or1 (pt_cmpR op_ne (pe_callB call_len_seq (by rfl) zL PySem.boot_len (pa_cons (pv 1) pa_nil)) pe_int (nomark _)))))
      (pss_one (ps_ret pe_bl)) pss_nil)
    (pss_cons (ps_asg (pv 1) (pg_tup rfl (pgs_cons (pg_name (i := 2) scWork.nd rfl (Or.inl rfl)) (pgs_cons (pg_name (i := 3) scWork.nd rfl (Or.inl rfl)) (pgs_cons (pg_name (i := 4) scWork.nd rfl (Or.inl rfl)) (pgs_cons (pg_name (i := 5) scWork.nd rfl (Or.inl rfl)) (pgs_cons (pg_name (i := 6) scWork.nd rfl (Or.inl rfl)) pgs_nil)))))))
    (pss_cons (ps_if (PW.pt (pw_or (pt_not (pt_val (pe_cal (E := E0) CK hr rfl (pa_cons (pv 0) (pa_cons (pv 2) pa_nil))))) (pw_or (pt_not (pt_val (pe_cal (E := E0) CK hr rfl (pa_cons (pv 0) (pa_cons (pv 3) pa_nil)))))
        (pw_or (pt_cmpR op_eq (pv 3) (pe_glob rfl gW (show RelV (.str "dawn") (.str "dawn" tW) from ⟨tW, rfl⟩)) (nomark _)) (pw_or1 (pt_cmpR op_eq (pv 2) (pv 3) (nomark _)))))))
      (pss_one (ps_ret pe_bl)) pss_nil)
    (pss_cons (ps_if (PW.pt (pw_or (pt_not (pt_val (pe_cal (E := E0) CB hr rfl (pa_cons (pv 4) (pa_cons pe_int (pa_cons (pe_glob rfl gL (show RelV (.int (10 ^ 30)) (.int (10 ^ 30) tL) from ⟨tL, rfl⟩)) pa_nil))))))
        (pw_or1 (pt_not (pt_val (pe_cal (E := E0) CB hr rfl (pa_cons (pv 5) (pa_cons pe_int (pa_cons (pe_glob rfl gL (show RelV (.int (10 ^ 30)) (.int (10 ^ 30) tL) from ⟨tL, rfl⟩)) pa_nil)))))))))
      (pss_one (ps_ret pe_bl)) pss_nil)
    (pss_one (ps_ret (pe_and (pe_cmpR op_le (pv 4) (pv 5) (nomark _)) (pe_one (pe_cal (E := E0) CB hr rfl (pa_cons (pv 6) (pa_cons pe_int (pa_cons (pe_glob rfl gO (show RelV (.int 20) (.int 20 tO) from ⟨tO, rfl⟩)) pa_nil))))))))))), ?_⟩
  have o1 : knownB L b = true := ok.b
  have o2 : knownB L e = true := ok.e
  have o3 : e ≠ ("dawn" : Str) := ok.ne
  have o4 : b ≠ e := ok.be
  have o5 : 1 ≤ l := ok.l
  have o6 : l ≤ m := ok.lm
  have o7 : m ≤ 10 ^ 30 := ok.m
  have o8 : 0 ≤ k ∧ k ≤ 20 := ok.k
  refine isi_tup rfl ht kTT ⟨_, rfl, iteF ⟨_, rfl, t, _, rfl, .inr ht, rfl, _, rfl, iteF ?_⟩⟩
  refine ⟨_, rfl, t, _, rfl, ht, rfl, _, _, rfl, _, _, rfl, _, _, rfl, _, _, rfl, _, _, rfl, rfl, ?_⟩
  refine ⟨_, rfl, _, rfl, a, b, L, rfl, tr, ?_⟩
  rw [o1]
  refine ⟨_, rfl, iteF ⟨_, rfl, _, rfl, a, e, L, rfl, tr, ?_⟩⟩
  rw [o2]
  refine ⟨_, rfl, iteF ⟨_, rfl, rfl, _, rfl, ?_⟩⟩
  rw [dec_strV, decide_eq_false o3]
  refine iteF ⟨_, rfl, _, rfl, rfl, _, rfl, ?_⟩
  rw [dec_strV, decide_eq_false o4]
  refine iteF ⟨_, rfl, .int l, .int l, _, _, rfl, .base (.int l) rfl, ?_⟩
  rw [bet_true (by omega : 1 ≤ l ∧ l ≤ 10 ^ 30)]
  refine ⟨_, rfl, iteF ⟨_, rfl, .int m, .int m, _, _, rfl, .base (.int m) rfl, ?_⟩⟩
  rw [bet_true (by omega : 1 ≤ m ∧ m ≤ 10 ^ 30)]
  refine ⟨_, rfl, iteF ⟨_, rfl, _, rfl, _, _, rfl, rfl, _, rfl, ?_⟩⟩
  rw [decide_eq_true o6]
  refine iteT ⟨_, rfl, .int k, .int k, _, _, rfl, .base (.int k) rfl, ?_⟩
  rw [bet_true o8]
  exact q
theorem scBound : FnScope ["lasts", "value", "first", "second", "most"] ["lasts", "value"] (defScope s_u_is_bound) := ⟨rfl, rfl, rfl, by decide +kernel, rfl, by decide +kernel, by decide +kernel⟩
def spBound (K : PySem.W.Frag) : Sp := fun vs H Q _ => ∃ (a t : Addr) (x : BdT) (L : Ls), vs = [.ref a, .ref t] ∧ TR inD K H a L ∧ SqT K H t [.str x.1, .str x.2.1, .int x.2.2] ∧ OkBd L x ∧ ∀ H', Same H H' → Q (.bl true) H'
theorem ok_bound {f fK fI : Addr} {fd dK dI : FuncData} (F : Fun K "_is_bound" "_is_bound" s_u_is_bound f fd) (CK : Cal P w K mg base 1 "_is_known" ["lasts", "value"] (spKnown K) fK dK) (CI : Cal P w K mg base 2 "is_integer" ["value"] (spJ K (betD (1 - 10 ^ 40) (10 ^ 40 - 1))) fI dI)
    (zI : mg "isinstance" = none) (zT : mg "tuple" = none) (zL : mg "len" = none) : FnOk P w K mg base CX0 3 f fd ["lasts", "value"] (spBound K) := by
  refine F.ok scBound (fun vs H Q E h => ?_) (fun cdv A outer s H vs Q E hr h => ?_)
  · obtain ⟨a, t, x, L, rfl, _⟩ := h
    rfl
  obtain ⟨a, t, ⟨b, e, m⟩, L, rfl, tr, ht, ok, q⟩ := h
  refine ⟨_, pss_cons (ps_if (PW.pt (pw_or (pt_not (pt_val (pe_callB call_isi (by rfl) zI (by rfl) (pa_cons (pv 1) (pa_cons (pe_bltn rfl zT (by rfl) (show RelV (.ty "tuple") (.type "tuple") from rfl)) pa_nil)))))
        (pw_or1 (pt_cmpR op_ne (pe_callB call_len_seq (by rfl) zL PySem.boot_len (pa_cons (pv 1) pa_nil)) pe_int (nomark _)))))
      (pss_one (ps_ret pe_bl)) pss_nil)
    (pss_cons (ps_asg (pv 1) (pg_tup rfl (pgs_cons (pg_name (i := 2) scBound.nd rfl (Or.inl rfl)) (pgs_cons (pg_name (i := 3) scBound.nd rfl (Or.inl rfl)) (pgs_cons (pg_name (i := 4) scBound.nd rfl (Or.inl rfl)) pgs_nil)))))
    (pss_one (ps_ret (pe_and (pe_cal (E := E0) CK (Room.mono hr (by decide)) rfl (pa_cons (pv 0) (pa_cons (pv 2) pa_nil)) (Nat.le_refl _)) (pe_and (pe_cal (E := E0) CK (Room.mono hr (by decide)) rfl (pa_cons (pv 0) (pa_cons (pv 3) pa_nil)) (Nat.le_refl _))
      (pe_and (pe_cmpR op_ne (pv 2) (pv 3) (nomark _)) (pe_one (pe_cal (E := E0) CI (Room.mono hr (by decide)) rfl (pa_cons (pv 4) pa_nil) (Nat.le_refl _))))))))), ?_⟩
  have o1 : knownB L b = true := ok.f
  have o2 : knownB L e = true := ok.s
  have o4 : b ≠ e := ok.ne
  have o8 : 1 - 10 ^ 40 ≤ m ∧ m ≤ 10 ^ 40 - 1 := ok.m
  refine isi_tup rfl ht kTT ⟨_, rfl, iteF ⟨_, rfl, t, _, rfl, .inr ht, rfl, _, rfl, iteF ?_⟩⟩
  refine ⟨_, rfl, t, _, rfl, ht, rfl, _, _, rfl, _, _, rfl, _, _, rfl, rfl, ?_⟩
  refine ⟨_, rfl, _, rfl, a, b, L, rfl, tr, ?_⟩
  rw [o1]
  refine ⟨_, rfl, iteT ⟨_, rfl, _, rfl, a, e, L, rfl, tr, ?_⟩⟩
  rw [o2]
  refine ⟨_, rfl, iteT ⟨_, rfl, _, rfl, rfl, _, rfl, ?_⟩⟩
  rw [dec_strV, decide_eq_false o4]
  refine iteT ⟨_, rfl, .int m, .int m, rfl, .base (.int m) rfl, (fun z e => by cases e), fun H' s => ?_⟩
  rw [bet_true o8]
  exact q H' s
end
end LW
namespace LW
open PySem PySem.Spec PyProof.Rows L2 DW
def stD (s : Str) : PyData := .str s
abbrev Es := List (Str × Str)
/-- which work ends at an event: ascending by the works -/
def endR (W : Ws) : Es := (srtR W).map fun p => (p.2.2.1, p.1)
theorem st_at {K : PySem.W.Frag} {H : Hp} {v : V} {s : Str} (h : Dp K H v (stD s)) : v = .str s := by
  cases h
  rfl
/-- what a dict of ends tells is so -/
def EndOk (W : Ws) (E : Es) : Prop := ∀ s n, look E s = some n → ∃ x, look W n = some x ∧ x.2.1 = s
theorem endR_ok {L : Ls} {W : Ws} (ok : OkW L W) : EndOk W (endR W) := fun s n h => by
  obtain ⟨p, hp, e⟩ := List.mem_map.mp (look_mem h)
  cases e
  exact ⟨p.2, look_of ok.nd ((srtR_mem ok.nd).mp hp), rfl⟩
theorem endR_nodup {L : Ls} {W : Ws} (ok : OkW L W) : ((endR W).map (·.1)).Nodup := by
  unfold endR
  rw [List.map_map]
  have pm : (srtR W).Perm W := by
    have := ok.nd
    refine List.perm_iff_count.mpr fun p => ?_
    have n1 := nodup_of (srtR_nodup ok.nd)
    have n2 := nodup_of ok.nd
    by_cases m : p ∈ W
    · rw [n1.count, n2.count, if_pos ((srtR_mem ok.nd).mpr m), if_pos m]
    · rw [n1.count, n2.count, if_neg (fun z => m ((srtR_mem ok.nd).mp z)), if_neg m]
  exact ((pm.map fun p => p.2.2.1).nodup_iff).mpr ok.ends
section
variable {P : Program} {w : World} {K : PySem.W.Frag} {mg : Str → Option Value} {base : Heap}
theorem scRound : FnScope ["works", "ended", "name", "event", "_"] ["works", "ended", "name"] (defScope s_u_goes_round) := ⟨rfl, rfl, rfl, by decide +kernel, rfl, by decide +kernel, by decide +kernel⟩
def spRound (K : PySem.W.Frag) : Sp := fun vs H Q _ => ∃ (a d : Addr) (n : Str) (W : Ws) (E : Es) (L : Ls), vs = [.ref a, .ref d, .str n] ∧ TD wkD K H a W ∧ TR stD K H d E ∧ OkW L W ∧ EndOk W E ∧ n ∈ W.map (·.1) ∧ ∀ H', Same H H' → Q (.bl false) H'
theorem ok_round {f : Addr} {fd : FuncData} (F : Fun K "_goes_round" "_goes_round" s_u_goes_round f fd) (zR : mg "range" = none) (zL : mg "len" = none) : FnOk P w K mg base CX0 1 f fd ["works", "ended", "name"] (spRound K) := by
  refine F.ok scRound (fun vs H Q E h => ?_) (fun cdv A outer s H vs Q E hr h => ?_)
  · obtain ⟨a, d, n, W, E', L, rfl, _⟩ := h
    rfl
  obtain ⟨a, d, n, W, E', L, rfl, td, te, ok, eo, hn, k⟩ := h
  refine ⟨_, pss_cons (ps_set (i := 3) scRound.nd rfl (Or.inl rfl) (pe_ix (r := rIxT K) ix_tup (pe_dget (hu_of hr) (pv 0) (pv 2) (fun _ _ => rfl)) pe_int (fun _ _ => rfl)))
    (pss_cons (ps_for PassesOwn.never rfl (pi_range1 rfl zR (pa_cons (pe_callB call_lenD (by rfl) zL PySem.boot_len (pa_cons (pv 0) pa_nil)) pa_nil)) (pg_name (i := 4) scRound.nd rfl (.inl rfl))
      (pss_cons (ps_if (pt_cmpR op_eq (pv 3) (pe_ix (r := rIxT K) ix_tup (pe_dget (hu_of hr) (pv 0) (pv 2) (fun _ _ => rfl)) pe_int (fun _ _ => rfl)) (nomark _)) dead pss_nil)
      (pss_cons (ps_if (pt_cmp (pc_dnotin (hu_of hr) (pv 3) (pv 1))) (pss_one (ps_ret pe_bl)) pss_nil)
      (pss_one (ps_set (i := 3) scRound.nd rfl (Or.inl rfl) (pe_ix (r := rIxT K) ix_tup (pe_dget (hu_of hr) (pv 0) (pe_dget (hu_of hr) (pv 1) (pv 3) (fun _ _ => rfl)) (fun _ _ => rfl)) pe_int (fun _ _ => rfl)))))))
    (pss_one (ps_ret pe_bl))), ?_⟩
  obtain ⟨x, ex⟩ := Option.isSome_iff_exists.mp (look_some.mpr hn)
  obtain ⟨u, g, du⟩ := td.tr.get ex
  obtain ⟨t, rfl, ht⟩ := wk_at du
  obtain ⟨kvs, ha, el⟩ := td.len
  obtain ⟨r, hrk⟩ := ok.rank
  have xm := look_mem ex
  refine ⟨_, rfl, _, rfl, a, _, rfl, g, t, _, 0, .str x.1, rfl, rfl, ht, atI_nat (j := 0) rfl, ?_⟩
  have l60 := ok.len
  refine ⟨_, rfl, a, kvs, rfl, ha, _, rfl, by omega, by omega, ?_⟩
  refine for_range (fun i σ H' => ∃ (ev : Str) (x4 : Option V), σ = [some (.ref a), some (.ref d), some (.str n), some (.str ev), x4] ∧ H' = H ∧ r ev < r x.2.1) ⟨x.1, none, rfl, rfl, hrk _ xm⟩ (fun i σ H' hi p => ?_) (fun σ H' p => ?_)
  · obtain ⟨ev, x4, rfl, rfl, lt⟩ := p
    have ne : ¬ ev = x.2.1 := fun e => by rw [e] at lt; exact Nat.lt_irrefl _ lt
    refine ⟨_, rfl, _, rfl, _, rfl, a, _, rfl, g, t, _, 1, .str x.2.1, rfl, rfl, ht, atI_nat (j := 1) rfl, rfl, _, rfl, ?_⟩
    rw [dec_strV, decide_eq_false ne]
    obtain ⟨o, go, eo'⟩ := te.has ev
    refine iteF ⟨_, rfl, _, rfl, d, o, rfl, go, _, rfl, ?_⟩
    rw [eo']
    by_cases m : ev ∈ E'.map (·.1)
    · rw [decide_eq_true m]
      obtain ⟨n2, e2⟩ := Option.isSome_iff_exists.mp (look_some.mpr m)
      obtain ⟨x2, l2, z2⟩ := eo ev n2 e2
      obtain ⟨v2, g2, d2⟩ := te.get e2
      cases st_at d2
      obtain ⟨u3, g3, d3⟩ := td.tr.get l2
      obtain ⟨t3, rfl, ht3⟩ := wk_at d3
      refine iteF ⟨_, rfl, _, rfl, _, rfl, d, _, rfl, g2, a, _, rfl, g3, t3, _, 0, .str x2.1, rfl, rfl, ht3, atI_nat (j := 0) rfl, ?_⟩
      refine ⟨x2.1, _, rfl, rfl, Nat.lt_trans (hrk _ (look_mem l2)) ?_⟩
      rw [z2]
      exact lt
    · rw [decide_eq_false m]
      exact iteT (k H' (Same.refl H'))
  · obtain ⟨ev, x4, rfl, rfl, lt⟩ := p
    exact k H' (Same.refl H')
end
end LW
namespace LW
open PySem PySem.Spec PyProof.Rows L2 DW
theorem _root_.DW.Lot.td {α : Type} {enc : α → PyData} {K : PySem.W.Frag} {H : Hp} {v : V} {rs : List (Str × α)} (h : Lot enc K H v rs) {n : Str} (m : n ∈ rs.map (·.1)) : ∃ a, v = .ref a ∧ TD enc K H a rs := by
  rcases h with ⟨a, e, t⟩ | ⟨rfl, _⟩
  · exact ⟨a, e, t⟩
  · cases m
/-- the n-th of the sorted names -/
theorem srt_at {α : Type} {rs : List (Str × α)} {i : Nat} {v : V} (h : ((srt (rs.map (·.1))).map V.str)[i]? = some v) : ∃ p, (srtR rs)[i]? = some p ∧ v = .str p.1 ∧ look rs p.1 = some p.2 ∧ p.1 ∈ rs.map (·.1) := by
  rw [← srtR_names, List.map_map, List.getElem?_map] at h
  obtain ⟨p, hp, e⟩ := Option.map_eq_some_iff.mp h
  obtain ⟨s, hs, e2⟩ := List.mem_filterMap.mp (List.mem_of_getElem? hp)
  obtain ⟨x, ex, e3⟩ := Option.map_eq_some_iff.mp e2
  subst e3
  exact ⟨_, hp, e.symm, ex, look_some.mp (by rw [ex]; rfl)⟩
section
variable {P : Program} {w : World} {K : PySem.W.Frag} {mg : Str → Option Value} {base : Heap}
theorem scChain : FnScope ["works", "ended", "name", "ahead"] ["works", "ended"] (defScope s_u_chain_fault) := ⟨rfl, rfl, rfl, by decide +kernel, rfl, by decide +kernel, by decide +kernel⟩
def spChain (K : PySem.W.Frag) : Sp := fun vs H Q _ => ∃ (v : V) (d : Addr) (W : Ws) (E : Es) (L : Ls), vs = [v, .ref d] ∧ Lot wkD K H v W ∧ TR stD K H d E ∧ OkW L W ∧ EndOk W E ∧ ∀ H', Same H H' → Q .non H'
theorem ok_chain {f fR : Addr} {fd dR : FuncData} (F : Fun K "_chain_fault" "_chain_fault" s_u_chain_fault f fd) (CR : Cal P w K mg base 1 "_goes_round" ["works", "ended", "name"] (spRound K) fR dR) (zS : mg "sorted" = none) :
    FnOk P w K mg base CX0 2 f fd ["works", "ended"] (spChain K) := by
  refine F.ok scChain (fun vs H Q E h => ?_) (fun cdv A outer s H vs Q E hr h => ?_)
  · obtain ⟨v, d, W, E', L, rfl, _⟩ := h
    rfl
  obtain ⟨v, d, W, E', L, rfl, lot, te, ok, eo, k⟩ := h
  refine ⟨_, pss_cons (ps_for PassesOwn.never rfl (pi_list (pe_callB (cr_srtL rfl hr.units) (by rfl) zS (by decide +kernel) (pa_cons (pv 0) pa_nil))) (pg_name (i := 2) scChain.nd rfl (.inl rfl))
      (pss_one (ps_if (pt_val (pe_cal (E := E0) CR hr rfl (pa_cons (pv 0) (pa_cons (pv 1) (pa_cons (pv 2) pa_nil))))) dead pss_nil)))
    (pss_cons (ps_for PassesOwn.never rfl (pi_list (pe_callB (cr_srtL rfl hr.units) (by rfl) zS (by decide +kernel) (pa_cons (pv 0) pa_nil))) (pg_name (i := 2) scChain.nd rfl (.inl rfl))
      (pss_cons (ps_set (i := 3) scChain.nd rfl (Or.inl rfl) (pe_dget1 (hu_of hr) (pv 1) (pe_ix (r := rIxT K) ix_tup (pe_dget (hu_of hr) (pv 0) (pv 2) (fun _ _ => rfl)) pe_int (fun _ _ => rfl)) ⟨rfl, rfl, rfl, rfl⟩))
      (pss_one (ps_if (PW.pt (pw_and (pt_cmp (pc_notN (pv 3))) (pw_and1 (pt_cmpR op_gt (pe_ix (r := rIxT K) ix_tup (pe_dget (hu_of hr) (pv 0) (pv 3) (fun _ _ => rfl)) pe_int (fun _ _ => rfl)) pe_int (nomark _))))) dead pss_nil))))
    (pss_one (ps_ret pe_non))), ?_⟩
  have l60 := ok.len
  refine ⟨v, rfl, v, _, rfl, lot.names, by rw [List.length_map]; omega, fun p np => ⟨p, rfl, ⟨_, SqL.of upd_same⟩, ?_⟩⟩
  refine for_list (K := K) (xs := (srt (W.map (·.1))).map V.str) (fun i σ H' => ∃ x2, σ = [some v, some (.ref d), x2, none] ∧ Same (upd H p (.lst ((srt (W.map (·.1))).map V.str))) H') ⟨none, rfl, Same.refl _⟩ (fun i σ H' _ q => by obtain ⟨_, _, s⟩ := q; exact SqL.of (s _ _ upd_same)) (fun i y σ H' hy q => ?_) (fun σ H' q => ?_)
  · obtain ⟨x2, rfl, s⟩ := q
    obtain ⟨r, hr1, rfl, lk, mem⟩ := srt_at hy
    have s0 := (same_new np).trans s
    obtain ⟨a, rfl, td⟩ := (lot.same s0).td mem
    refine ⟨_, rfl, _, rfl, _, rfl, a, d, r.1, W, E', L, rfl, td, te.wk (Wk.of s0), ok, eo, mem, fun H2 s2 => ⟨_, rfl, iteF ⟨_, rfl, s.trans s2⟩⟩⟩
  · obtain ⟨x2, rfl, s⟩ := q
    have s0 := (same_new np).trans s
    refine ⟨v, rfl, v, _, rfl, (lot.same s0).names, by rw [List.length_map]; omega, fun p2 np2 => ⟨p2, rfl, ⟨_, SqL.of upd_same⟩, ?_⟩⟩
    refine for_list (K := K) (xs := (srt (W.map (·.1))).map V.str) (fun i σ H'' => ∃ x2 x3, σ = [some v, some (.ref d), x2, x3] ∧ Same (upd H' p2 (.lst ((srt (W.map (·.1))).map V.str))) H'') ⟨x2, none, rfl, Same.refl _⟩ (fun i σ H' _ q => by obtain ⟨_, _, _, s⟩ := q; exact SqL.of (s _ _ upd_same)) (fun i y σ H'' hy q => ?_) (fun σ H'' q => ?_)
    · obtain ⟨x2, x3, rfl, s2⟩ := q
      obtain ⟨r, hr1, rfl, lk, mem⟩ := srt_at hy
      have s3 := s0.trans ((same_new np2).trans s2)
      obtain ⟨a, rfl, td⟩ := (lot.same s3).td mem
      have te3 := te.wk (Wk.of s3)
      obtain ⟨u, g, du⟩ := td.tr.get lk
      obtain ⟨t, rfl, ht⟩ := wk_at du
      obtain ⟨o, go, eo2⟩ := te3.has r.2.1
      obtain ⟨kvs, re, tx⟩ := te3
      refine ⟨_, rfl, d, rfl, .inl ⟨kvs, re⟩, _, rfl, _, rfl, a, _, rfl, g, t, _, 0, .str r.2.1, rfl, rfl, ht, atI_nat (j := 0) rfl, ?_⟩
      rcases tx.get r.2.1 with ⟨l1, v1⟩ | ⟨n2, v2, l1, v1, d2⟩
      · exact ⟨none, .inl ⟨kvs, .inr r.2.1, re, rfl, v1.symm⟩, _, rfl, _, rfl, ite0 (by simp) ⟨_, _, rfl, s2⟩⟩
      · cases st_at d2
        obtain ⟨x', l2, e2⟩ := eo _ _ l1
        obtain ⟨u3, g3, d3⟩ := td.tr.get l2
        obtain ⟨t3, rfl, ht3⟩ := wk_at d3
        have z0 : x'.2.2.2.2 = 0 := ok.look _ (look_mem lk) _ (look_mem l2) e2.symm
        refine ⟨some (.str n2), .inl ⟨kvs, .inr r.2.1, re, rfl, v1.symm⟩, _, rfl, _, rfl, ite1 (by simp) ⟨_, rfl, _, rfl, a, _, rfl, g3, t3, _, 4, .int x'.2.2.2.2, rfl, rfl, ht3, atI_nat (j := 4) rfl, _, _, rfl, rfl, _, rfl, ?_⟩⟩
        rw [z0]
        exact iteF ⟨_, _, rfl, s2⟩
    · obtain ⟨x2, x3, rfl, s2⟩ := q
      exact k _ (s0.trans ((same_new np2).trans s2))
end
end LW
namespace LW
open PySem PySem.Spec PyProof.Rows L2 DW
theorem take_succ_map {α β : Type} {f : α → β} {l : List α} {i : Nat} {x : α} (h : l[i]? = some x) : (l.take (i + 1)).map f = (l.take i).map f ++ [f x] := by
  rw [List.take_add_one, h, List.map_append]
  rfl
theorem tx_st {K : PySem.W.Frag} {H H' : Hp} {kvs : List (Key × V)} {rs : Es} (h : Tx stD K H kvs rs) : Tx stD K H' kvs rs := pairedMono (fun q p z => ⟨z.1, by rw [st_at z.2]; exact .str _⟩) h
section
variable {P : Program} {w : World} {K : PySem.W.Frag} {mg : Str → Option Value} {base : Heap}
theorem scWF : FnScope ["lasts", "works", "limit", "name", "ended"] ["lasts", "works", "limit"] (defScope s_works_fault) := ⟨rfl, rfl, rfl, by decide +kernel, rfl, by decide +kernel, by decide +kernel⟩
def spWF (K : PySem.W.Frag) : Sp := fun vs H Q _ => ∃ (a : Addr) (v : V) (lim : Int) (L : Ls) (W : Ws), vs = [.ref a, v, .int lim] ∧ TD inD K H a L ∧ Lot wkD K H v W ∧ OkW L W ∧ (W.length : Int) ≤ lim ∧ ∀ H', Same H H' → Q .non H'
theorem ok_wf {f fL fW fC : Addr} {fd dL dW dC : FuncData} (F : Fun K "works_fault" "works_fault" s_works_fault f fd) (CL : Cal P w K mg base 2 "_is_lot" ["value", "limit"] (spLot K) fL dL) (CW : Cal P w K mg base 2 "_is_work" ["lasts", "value"] (spWork K) fW dW)
    (CC : Cal P w K mg base 2 "_chain_fault" ["works", "ended"] (spChain K) fC dC) (zS : mg "sorted" = none) : FnOk P w K mg base CX0 3 f fd ["lasts", "works", "limit"] (spWF K) := by
  refine F.ok scWF (fun vs H Q E h => ?_) (fun cdv A outer s H vs Q E hr h => ?_)
  · obtain ⟨a, v, lim, L, W, rfl, _⟩ := h
    rfl
  obtain ⟨a, v, lim, L, W, rfl, td, lot, ok, hl, k⟩ := h
  refine ⟨_, pss_cons (ps_if (pt_not (pt_val (pe_cal (E := E0) CL hr rfl (pa_cons (pv 1) (pa_cons (pv 2) pa_nil))))) dead pss_nil)
    (pss_cons (ps_for PassesOwn.never rfl (pi_list (pe_callB (cr_srtL rfl hr.units) (by rfl) zS (by decide +kernel) (pa_cons (pv 1) pa_nil))) (pg_name (i := 3) scWF.nd rfl (.inl rfl))
      (pss_one (ps_if (pt_not (pt_val (pe_cal (E := E0) CW hr rfl (pa_cons (pv 0) (pa_cons (pe_dget (hu_of hr) (pv 1) (pv 3) (fun _ _ => rfl)) pa_nil))))) dead pss_nil)))
    (pss_cons (ps_set (i := 4) scWF.nd rfl (Or.inl rfl) pe_dnewK)
    (pss_cons (ps_for PassesOwn.never rfl (pi_list (pe_callB (cr_srtL rfl hr.units) (by rfl) zS (by decide +kernel) (pa_cons (pv 1) pa_nil))) (pg_name (i := 3) scWF.nd rfl (.inl rfl))
      (pss_cons (ps_if (pt_cmp (pc_din (hu_of hr) (pe_ix (r := rIxT K) ix_tup (pe_dget (hu_of hr) (pv 1) (pv 3) (fun _ _ => rfl)) pe_int (fun _ _ => rfl)) (pv 4))) dead pss_nil)
      (pss_one (ps_dput (hu_of hr) (pv 4) (pe_ix (r := rIxT K) ix_tup (pe_dget (hu_of hr) (pv 1) (pv 3) (fun _ _ => rfl)) pe_int (fun _ _ => rfl)) (pv 3) rfl))))
    (pss_one (ps_ret (pe_cal (E := E0) CC hr rfl (pa_cons (pv 1) (pa_cons (pv 4) pa_nil)))))))), ?_⟩
  have l60 := ok.len
  have en := endR_nodup ok
  refine ⟨v, rfl, _, rfl, v, _, _, rfl, lot.names, (fun n m => by obtain ⟨p, hp, rfl⟩ := List.mem_map.mp m; exact ok.name p hp), by rw [List.length_map]; exact hl, by rw [List.length_map]; omega, fun H1 s1 => ⟨_, rfl, iteF ?_⟩⟩
  refine ⟨v, rfl, v, _, rfl, (lot.same s1).names, by rw [List.length_map]; omega, fun p np => ⟨p, rfl, ⟨_, SqL.of upd_same⟩, ?_⟩⟩
  refine for_list (K := K) (xs := (srt (W.map (·.1))).map V.str) (fun i σ H' => ∃ x3, σ = [some (.ref a), some v, some (.int lim), x3, none] ∧ Same (upd H1 p (.lst ((srt (W.map (·.1))).map V.str))) H') ⟨none, rfl, Same.refl _⟩ (fun i σ H' _ q => by obtain ⟨_, _, s⟩ := q; exact SqL.of (s _ _ upd_same)) (fun i y σ H' hy q => ?_) (fun σ H' q => ?_)
  · obtain ⟨x2, rfl, s⟩ := q
    obtain ⟨r, hr1, rfl, lk, mem⟩ := srt_at hy
    have s0 := s1.trans ((same_new np).trans s)
    obtain ⟨b, rfl, tw⟩ := (lot.same s0).td mem
    obtain ⟨u, g, du⟩ := tw.tr.get lk
    obtain ⟨t, rfl, ht⟩ := wk_at du
    exact ⟨_, rfl, _, rfl, _, rfl, b, _, rfl, g, a, t, r.2, L, rfl, (td.same s0).tr, ht, ok.wk _ (look_mem lk), _, rfl, iteF ⟨_, rfl, s⟩⟩
  · obtain ⟨x2, rfl, s⟩ := q
    have s0 := s1.trans ((same_new np).trans s)
    intro D hD
    have s2 := s0.trans (same_new (o := .dK []) hD)
    refine ⟨v, rfl, v, _, rfl, (lot.same s2).names, by rw [List.length_map]; omega, fun p2 np2 => ⟨p2, rfl, ⟨_, SqL.of upd_same⟩, ?_⟩⟩
    have nDp : D ≠ p2 := ne_of_none (upd_same (H := H') (a := D) (o := .dK [])) np2
    refine for_list (K := K) (xs := (srt (W.map (·.1))).map V.str) (fun i σ H'' => ∃ x3, σ = [some (.ref a), some v, some (.int lim), x3, some (.ref D)] ∧ Same H H'' ∧ H'' p2 = some (.lst ((srt (W.map (·.1))).map V.str)) ∧ TD stD K H'' D ((endR W).take i)) ⟨x2, rfl, s2.trans (same_new np2), upd_same, TD.nil (by rw [upd_ne nDp, upd_same])⟩
      (fun i σ H' _ q => by obtain ⟨_, _, _, s, _⟩ := q; exact SqL.of s) (fun i y σ H'' hy q => ?_) (fun σ H'' q => ?_)
    · obtain ⟨x3, rfl, s3, hp2, te⟩ := q
      obtain ⟨r, hr1, rfl, lk, mem⟩ := srt_at hy
      obtain ⟨b, rfl, tw⟩ := (lot.same s3).td mem
      obtain ⟨u, g, du⟩ := tw.tr.get lk
      obtain ⟨t, rfl, ht⟩ := wk_at du
      have ei : (endR W)[i]? = some (r.2.2.1, r.1) := by
        unfold endR
        rw [List.getElem?_map, hr1]
        rfl
      have hE : ((endR W).take (i + 1)).map (·.1) = ((endR W).take i).map (·.1) ++ [r.2.2.1] := take_succ_map ei
      have nin : r.2.2.1 ∉ ((endR W).take i).map (·.1) := by
        have := (List.Sublist.map (·.1) (List.take_sublist (i + 1) (endR W))).nodup en
        rw [hE] at this
        have := List.nodup_append.mp this
        exact fun m => this.2.2 _ m _ (List.mem_singleton.mpr rfl) rfl
      obtain ⟨o, go, eo⟩ := te.tr.has r.2.2.1
      refine ⟨_, rfl, _, rfl, b, _, rfl, g, t, _, 1, .str r.2.2.1, rfl, rfl, ht, atI_nat (j := 1) rfl, _, rfl, D, o, rfl, go, _, rfl, ite0 (by rw [eo]; exact decide_eq_false nin) ?_⟩
      obtain ⟨kvs, hk, tx⟩ := te
      have ll : kvs.length ≤ 60 := by
        have h1 : kvs.length = ((endR W).take i).length := Paired.length tx
        have h2 : ((endR W).take i).length ≤ (endR W).length := by rw [List.length_take]; exact Nat.min_le_right _ _
        have h3 : (endR W).length = W.length := by unfold endR; rw [List.length_map, srtR_len]
        omega
      refine ⟨_, rfl, _, rfl, _, rfl, _, rfl, b, _, rfl, g, t, _, 1, .str r.2.2.1, rfl, rfl, ht, atI_nat (j := 1) rfl, D, _, rfl, DPut.k (k := .inr r.2.2.1) hk (by rw [sizeLine_eq]; omega), _, rfl, ?_, ?_, ?_⟩
      · exact same_mut s3 (none_of s0 hD)
      · rw [upd_ne nDp.symm]
        exact hp2
      · refine ⟨_, upd_same, ?_⟩
        rw [List.take_add_one, ei]
        exact tx_st (tx.put nin (.str r.1))
    · obtain ⟨x3, rfl, s3, hp2, te⟩ := q
      rw [List.length_map, srt_len, List.length_map] at te
      have e3 : (endR W).take W.length = endR W := List.take_of_length_le (by unfold endR; rw [List.length_map, srtR_len]; exact Nat.le_refl _)
      rw [e3] at te
      exact ⟨v, rfl, _, rfl, v, D, W, endR W, L, rfl, lot.same s3, te.tr, ok, endR_ok ok, fun H' s4 => k _ (s3.trans s4)⟩
end
end LW
namespace LW
open PySem PySem.Spec PyProof.Rows L2 DW
section
variable {P : Program} {w : World} {K : PySem.W.Frag} {mg : Str → Option Value} {base : Heap}
theorem scBF : FnScope ["lasts", "bounds", "limit", "name"] ["lasts", "bounds", "limit"] (defScope s_bounds_fault) := ⟨rfl, rfl, rfl, by decide +kernel, rfl, by decide +kernel, by decide +kernel⟩
def spBF (K : PySem.W.Frag) : Sp := fun vs H Q _ => ∃ (a : Addr) (v : V) (lim : Int) (L : Ls) (B : Bs), vs = [.ref a, v, .int lim] ∧ TD inD K H a L ∧ Lot bdD K H v B ∧ OkB L B ∧ (B.length : Int) ≤ lim ∧ ∀ H', Same H H' → Q .non H'
theorem ok_bf {f fL fB : Addr} {fd dL dB : FuncData} (F : Fun K "bounds_fault" "bounds_fault" s_bounds_fault f fd) (CL : Cal P w K mg base 2 "_is_lot" ["value", "limit"] (spLot K) fL dL) (CB : Cal P w K mg base 3 "_is_bound" ["lasts", "value"] (spBound K) fB dB)
    (zS : mg "sorted" = none) : FnOk P w K mg base CX0 4 f fd ["lasts", "bounds", "limit"] (spBF K) := by
  refine F.ok scBF (fun vs H Q E h => ?_) (fun cdv A outer s H vs Q E hr h => ?_)
  · obtain ⟨a, v, lim, L, B, rfl, _⟩ := h
    rfl
  obtain ⟨a, v, lim, L, B, rfl, td, lot, ok, hl, k⟩ := h
  refine ⟨_, pss_cons (ps_if (pt_not (pt_val (pe_cal (E := E0) CL hr rfl (pa_cons (pv 1) (pa_cons (pv 2) pa_nil))))) dead pss_nil)
    (pss_cons (ps_for PassesOwn.never rfl (pi_list (pe_callB (cr_srtL rfl hr.units) (by rfl) zS (by decide +kernel) (pa_cons (pv 1) pa_nil))) (pg_name (i := 3) scBF.nd rfl (.inl rfl))
      (pss_one (ps_if (pt_not (pt_val (pe_cal (E := E0) CB hr rfl (pa_cons (pv 0) (pa_cons (pe_dget (hu_of hr) (pv 1) (pv 3) (fun _ _ => rfl)) pa_nil))))) dead pss_nil)))
    (pss_one (ps_ret pe_non))), ?_⟩
  have l60 := ok.len
  refine ⟨v, rfl, _, rfl, v, _, _, rfl, lot.names, (fun n m => by obtain ⟨p, hp, rfl⟩ := List.mem_map.mp m; exact ok.name p hp), by rw [List.length_map]; exact hl, by rw [List.length_map]; omega, fun H1 s1 => ⟨_, rfl, iteF ?_⟩⟩
  refine ⟨v, rfl, v, _, rfl, (lot.same s1).names, by rw [List.length_map]; omega, fun p np => ⟨p, rfl, ⟨_, SqL.of upd_same⟩, ?_⟩⟩
  refine for_list (K := K) (xs := (srt (B.map (·.1))).map V.str) (fun i σ H' => ∃ x3, σ = [some (.ref a), some v, some (.int lim), x3] ∧ Same (upd H1 p (.lst ((srt (B.map (·.1))).map V.str))) H') ⟨none, rfl, Same.refl _⟩ (fun i σ H' _ q => by obtain ⟨_, _, s⟩ := q; exact SqL.of (s _ _ upd_same)) (fun i y σ H' hy q => ?_) (fun σ H' q => ?_)
  · obtain ⟨x2, rfl, s⟩ := q
    obtain ⟨r, hr1, rfl, lk, mem⟩ := srt_at hy
    have s0 := s1.trans ((same_new np).trans s)
    obtain ⟨b, rfl, tw⟩ := (lot.same s0).td mem
    obtain ⟨u, g, du⟩ := tw.tr.get lk
    obtain ⟨t, rfl, ht⟩ := bd_at du
    exact ⟨_, rfl, _, rfl, _, rfl, b, _, rfl, g, a, t, r.2, L, rfl, (td.same s0).tr, ht, ok.bd _ (look_mem lk), fun H2 s2 => ⟨_, rfl, iteF ⟨_, rfl, s.trans s2⟩⟩⟩
  · obtain ⟨x2, rfl, s⟩ := q
    exact k _ (s1.trans ((same_new np).trans s))
/-- a net's data -/
structure PlainD where
  L : Ls
  W : Ws
  B : Bs
structure OkN (D : PlainD) : Prop where
  l : OkL D.L
  w : OkW D.L D.W
  b : OkB D.L D.B
theorem scNF : FnScope ["lasts", "works", "bounds", "fault"] ["lasts", "works", "bounds"] (defScope s_net_fault) := ⟨rfl, rfl, rfl, by decide +kernel, rfl, by decide +kernel, by decide +kernel⟩
def spNF (K : PySem.W.Frag) : Sp := fun vs H Q _ => ∃ (a : Addr) (v u : V) (D : PlainD), vs = [.ref a, v, u] ∧ TD inD K H a D.L ∧ Lot wkD K H v D.W ∧ Lot bdD K H u D.B ∧ OkN D ∧ ∀ H', Same H H' → Q .non H'
theorem ok_nf {f fL fW fB : Addr} {fd dL dW dB : FuncData} (F : Fun K "net_fault" "net_fault" s_net_fault f fd) (CL : Cal P w K mg base 2 "are_lasts" ["value", "limit"] (spLasts K) fL dL) (CW : Cal P w K mg base 3 "works_fault" ["lasts", "works", "limit"] (spWF K) fW dW)
    (CB : Cal P w K mg base 4 "bounds_fault" ["lasts", "bounds", "limit"] (spBF K) fB dB) {tE tW tB : Tok} (gE : mg "MAX_EVENTS" = some (.int 200 tE)) (gW : mg "MAX_WORKS" = some (.int 60 tW)) (gB : mg "MAX_BOUNDS" = some (.int 400 tB)) :
    FnOk P w K mg base CX0 5 f fd ["lasts", "works", "bounds"] (spNF K) := by
  refine F.ok scNF (fun vs H Q E h => ?_) (fun cdv A outer s H vs Q E hr h => ?_)
  · obtain ⟨a, v, u, D, rfl, _⟩ := h
    rfl
  obtain ⟨a, v, u, D, rfl, td, tw, tb, ok, k⟩ := h
  refine ⟨_, pss_cons (ps_if (pt_not (pt_val (pe_cal (E := E0) CL hr rfl (pa_cons (pv 0) (pa_cons (pe_glob rfl gE (show RelV (.int 200) (.int 200 tE) from ⟨tE, rfl⟩)) pa_nil))))) dead pss_nil)
    (pss_cons (ps_set (i := 3) scNF.nd rfl (Or.inl rfl) (pe_cal (E := E0) CW hr rfl (pa_cons (pv 0) (pa_cons (pv 1) (pa_cons (pe_glob rfl gW (show RelV (.int 60) (.int 60 tW) from ⟨tW, rfl⟩)) pa_nil)))))
    (pss_cons (ps_if (pt_cmp (pc_isN (pv 3))) (pss_one (ps_set (i := 3) scNF.nd rfl (Or.inl rfl) (pe_cal (E := E0) CB hr rfl (pa_cons (pv 0) (pa_cons (pv 2) (pa_cons (pe_glob rfl gB (show RelV (.int 400) (.int 400 tB) from ⟨tB, rfl⟩)) pa_nil)))))) pss_nil)
    (pss_one (ps_ret (pv 3))))), ?_⟩
  refine ⟨_, rfl, a, 200, D.L, rfl, td, ok.l, by have := ok.l.len.2; omega, fun H1 s1 => ⟨_, rfl, iteF ⟨_, rfl, v, rfl, a, v, 60, D.L, D.W, rfl, td.same s1, tw.same s1, ok.w, by have := ok.w.len; omega, fun H2 s2 => ⟨_, rfl, _, rfl, ite1 (by simp) ?_⟩⟩⟩⟩
  have s12 := s1.trans s2
  exact ⟨_, rfl, u, rfl, a, u, 400, D.L, D.B, rfl, td.same s12, tb.same s12, ok.b, by have := ok.b.len; omega, fun H3 s3 => ⟨_, rfl, k _ (s12.trans s3)⟩⟩
end
end LW
namespace LW
open PySem PySem.Spec PyProof.Rows L2 DW
/-! ### the told rows -/
abbrev RwT := Str × Str × Int
def rwD (r : RwT) : PyData := .tuple [.str "bound", .str r.1, .str r.2.1, .int r.2.2]
abbrev RowP := (Str × Str) × RwT
abbrev mkR (k n f s : Str) (m : Int) : RowP := ((k, n), (f, s, m))
def told1 (B : Bs) : List RowP := B.map fun p => mkR "bound" p.1 p.2.1 p.2.2.1 p.2.2.2
def told2 (L : Ls) : List RowP := L.map fun p => mkR "last" p.1 "dawn" p.1 p.2
def told3 (L : Ls) : List RowP := L.map fun p => mkR "begin" p.1 p.1 "dawn" 0
def told4 (W : Ws) : List RowP := W.map fun p => mkR "most" p.1 p.2.1 p.2.2.1 p.2.2.2.2.1
def told5 (W : Ws) : List RowP := W.map fun p => mkR "least" p.1 p.2.2.1 p.2.1 (-p.2.2.2.1)
def toldR (D : PlainD) : List RowP := told1 D.B ++ (told2 D.L ++ (told3 D.L ++ (told4 D.W ++ told5 D.W)))
theorem nd_tag {α β : Type} {l : List (Str × α)} {w : Str} {f : Str × α → RowP} (hf : ∀ p, (f p).1 = (w, p.1)) (h : (l.map (·.1)).Nodup) : ((l.map f).map (·.1)).Nodup := by
  rw [List.map_map]
  have e : ((fun x : RowP => x.1) ∘ f) = (fun n : Str => (w, n)) ∘ (fun p : Str × α => p.1) := by
    funext p
    exact hf p
  rw [e, ← List.map_map]
  exact h.map (f := fun n : Str => (w, n)) (fun a b n z => n (Prod.mk.inj z).2)
theorem tag_of {α : Type} {l : List (Str × α)} {w : Str} {f : Str × α → RowP} (hf : ∀ p, (f p).1 = (w, p.1)) {k : Str × Str} (h : k ∈ (l.map f).map (·.1)) : k.1 = w := by
  rw [List.map_map] at h
  obtain ⟨p, _, e⟩ := List.mem_map.mp h
  rw [← e]
  show (f p).1.1 = w
  rw [hf]
theorem told_nodup {D : PlainD} (ok : OkN D) : ((toldR D).map (·.1)).Nodup := by
  unfold toldR
  simp only [List.map_append]
  have f1 : ∀ k ∈ (told1 D.B).map (·.1), k.1 = ("bound" : Str) := fun k h => tag_of (fun _ => rfl) h
  have f2 : ∀ k ∈ (told2 D.L).map (·.1), k.1 = ("last" : Str) := fun k h => tag_of (fun _ => rfl) h
  have f3 : ∀ k ∈ (told3 D.L).map (·.1), k.1 = ("begin" : Str) := fun k h => tag_of (fun _ => rfl) h
  have f4 : ∀ k ∈ (told4 D.W).map (·.1), k.1 = ("most" : Str) := fun k h => tag_of (fun _ => rfl) h
  have f5 : ∀ k ∈ (told5 D.W).map (·.1), k.1 = ("least" : Str) := fun k h => tag_of (fun _ => rfl) h
  refine List.nodup_append.mpr ⟨nd_tag (β := Unit) (fun _ => rfl) ok.b.nd, List.nodup_append.mpr ⟨nd_tag (β := Unit) (fun _ => rfl) ok.l.nd, List.nodup_append.mpr ⟨nd_tag (β := Unit) (fun _ => rfl) ok.l.nd, List.nodup_append.mpr ⟨nd_tag (β := Unit) (fun _ => rfl) ok.w.nd, nd_tag (β := Unit) (fun _ => rfl) ok.w.nd, ?_⟩, ?_⟩, ?_⟩, ?_⟩
  · intro a ha b hb e
    subst e
    have := (f4 a ha).symm.trans (f5 a hb)
    revert this
    decide
  · intro a ha b hb e
    subst e
    simp only [List.mem_append] at hb
    have e1 := f3 a ha
    rcases hb with hb | hb
    · have := e1.symm.trans (f4 a hb)
      revert this
      decide
    · have := e1.symm.trans (f5 a hb)
      revert this
      decide
  · intro a ha b hb e
    subst e
    simp only [List.mem_append] at hb
    have e1 := f2 a ha
    rcases hb with hb | hb | hb
    · have := e1.symm.trans (f3 a hb)
      revert this
      decide
    · have := e1.symm.trans (f4 a hb)
      revert this
      decide
    · have := e1.symm.trans (f5 a hb)
      revert this
      decide
  · intro a ha b hb e
    subst e
    simp only [List.mem_append] at hb
    have e1 := f1 a ha
    rcases hb with hb | hb | hb | hb
    · have := e1.symm.trans (f2 a hb)
      revert this
      decide
    · have := e1.symm.trans (f3 a hb)
      revert this
      decide
    · have := e1.symm.trans (f4 a hb)
      revert this
      decide
    · have := e1.symm.trans (f5 a hb)
      revert this
      decide
theorem app_at {α : Type} {A X C : List α} {i : Nat} {x : α} (h : X[i]? = some x) : (A ++ (X ++ C))[A.length + i]? = some x := by
  rw [List.getElem?_append_right (Nat.le_add_right _ _), Nat.add_sub_cancel_left, List.getElem?_append_left, h]
  rcases Nat.lt_or_ge i X.length with q | q
  · exact q
  · rw [List.getElem?_eq_none q] at h; cases h
theorem told_at1 {D : PlainD} {i : Nat} {p : Str × BdT} (h : D.B[i]? = some p) : (toldR D)[i]? = some (mkR "bound" p.1 p.2.1 p.2.2.1 p.2.2.2) := by
  have := app_at (A := []) (X := told1 D.B) (C := told2 D.L ++ (told3 D.L ++ (told4 D.W ++ told5 D.W))) (i := i) (x := mkR "bound" p.1 p.2.1 p.2.2.1 p.2.2.2) (by unfold told1; rw [List.getElem?_map, h]; rfl)
  simpa [toldR] using this
theorem told_at2 {D : PlainD} {i : Nat} {p : Str × Int} (h : D.L[i]? = some p) : (toldR D)[D.B.length + i]? = some (mkR "last" p.1 "dawn" p.1 p.2) := by
  have := app_at (A := told1 D.B) (X := told2 D.L) (C := told3 D.L ++ (told4 D.W ++ told5 D.W)) (i := i) (x := mkR "last" p.1 "dawn" p.1 p.2) (by unfold told2; rw [List.getElem?_map, h]; rfl)
  rw [show (told1 D.B).length = D.B.length by unfold told1; exact List.length_map _] at this
  exact this
theorem told_at3 {D : PlainD} {i : Nat} {p : Str × Int} (h : D.L[i]? = some p) : (toldR D)[D.B.length + D.L.length + i]? = some (mkR "begin" p.1 p.1 "dawn" 0) := by
  have := app_at (A := told1 D.B ++ told2 D.L) (X := told3 D.L) (C := told4 D.W ++ told5 D.W) (i := i) (x := mkR "begin" p.1 p.1 "dawn" 0) (by unfold told3; rw [List.getElem?_map, h]; rfl)
  rw [show (told1 D.B ++ told2 D.L).length = D.B.length + D.L.length by unfold told1 told2; rw [List.length_append, List.length_map, List.length_map], List.append_assoc] at this
  exact this
theorem told_at4 {D : PlainD} {i : Nat} {p : Str × WkT} (h : D.W[i]? = some p) : (toldR D)[D.B.length + D.L.length + D.L.length + i]? = some (mkR "most" p.1 p.2.1 p.2.2.1 p.2.2.2.2.1) := by
  have := app_at (A := told1 D.B ++ (told2 D.L ++ told3 D.L)) (X := told4 D.W) (C := told5 D.W) (i := i) (x := mkR "most" p.1 p.2.1 p.2.2.1 p.2.2.2.2.1) (by unfold told4; rw [List.getElem?_map, h]; rfl)
  rw [show (told1 D.B ++ (told2 D.L ++ told3 D.L)).length = D.B.length + D.L.length + D.L.length by unfold told1 told2 told3; simp only [List.length_append, List.length_map]; omega, List.append_assoc, List.append_assoc] at this
  exact this
theorem told_at5 {D : PlainD} {i : Nat} {p : Str × WkT} (h : D.W[i]? = some p) : (toldR D)[D.B.length + D.L.length + D.L.length + D.W.length + i]? = some (mkR "least" p.1 p.2.2.1 p.2.1 (-p.2.2.2.1)) := by
  have := app_at (A := told1 D.B ++ (told2 D.L ++ (told3 D.L ++ told4 D.W))) (X := told5 D.W) (C := []) (i := i) (x := mkR "least" p.1 p.2.2.1 p.2.1 (-p.2.2.2.1)) (by unfold told5; rw [List.getElem?_map, h]; rfl)
  rw [show (told1 D.B ++ (told2 D.L ++ (told3 D.L ++ told4 D.W))).length = D.B.length + D.L.length + D.L.length + D.W.length by unfold told1 told2 told3 told4; simp only [List.length_append, List.length_map]; omega, List.append_nil, List.append_assoc, List.append_assoc, List.append_assoc] at this
  exact this
theorem told_len {D : PlainD} : (toldR D).length = D.B.length + D.L.length + D.L.length + D.W.length + D.W.length := by
  unfold toldR told1 told2 told3 told4 told5
  simp only [List.length_append, List.length_map]
  omega
/-! ### .. in the heap -/
section
variable {K : PySem.W.Frag} {H H' : Hp} {d : Addr} {kt : List (List Key × V)} {rs : List RowP}
def TTv (K : PySem.W.Frag) (H : Hp) (v : V) (r : RwT) : Prop := ∃ t, v = .ref t ∧ SqT K H t [.str "bound", .str r.1, .str r.2.1, .int r.2.2]
def Ty (K : PySem.W.Frag) (H : Hp) (kt : List (List Key × V)) (rs : List RowP) : Prop := Paired (fun (q : List Key × V) (p : RowP) => q.1 = kP p.1.1 p.1.2 ∧ TTv K H q.2 p.2) kt rs
def TT (K : PySem.W.Frag) (H : Hp) (d : Addr) (rs : List RowP) : Prop := ∃ kt, H d = some (.dT kt) ∧ Ty K H kt rs
/-- tuples stay -/
def Tk (H H' : Hp) : Prop := ∀ t xs, Rd H t (.tup xs) → Rd H' t (.tup xs)
theorem Tk.of (s : Same H H') : Tk H H' := fun t xs h => Wk.of s t _ h
theorem Tk.wk (s : Wk H H') : Tk H H' := fun t xs h => s t _ h
theorem Tk.trans {H2 : Hp} (a : Tk H H') (b : Tk H' H2) : Tk H H2 := fun t xs h => b t xs (a t xs h)
theorem Tk.put {o : HO} (h : H d = some (.dT kt)) : Tk H (upd H d o) := fun t xs r => by
  have n : t ≠ d := fun e => by
    subst e
    rcases r with r | ⟨z, r⟩ <;> rw [h] at r <;> cases r
  unfold Rd
  rw [upd_ne n]
  exact r
theorem TTv.tk {v : V} {r : RwT} (s : Tk H H') (h : TTv K H v r) : TTv K H' v r := by
  obtain ⟨t, rfl, q⟩ := h
  exact ⟨t, rfl, q.elim (fun q => .inl (s _ _ q)) .inr⟩
theorem Ty.tk (s : Tk H H') (h : Ty K H kt rs) : Ty K H' kt rs := pairedMono (fun _ _ z => ⟨z.1, z.2.tk s⟩) h
theorem TT.same (s : Same H H') (h : TT K H d rs) : TT K H' d rs := by
  obtain ⟨kt, e, y⟩ := h
  exact ⟨kt, s _ _ e, y.tk (Tk.of s)⟩
theorem kP_inj {a b x y : Str} (h : kP a b = kP x y) : (a, b) = (x, y) := by
  have h1 := (List.cons.inj h).1
  have h2 := (List.cons.inj (List.cons.inj h).2).1
  rw [Sum.inr.inj h1, Sum.inr.inj h2]
theorem Ty.none (h : Ty K H kt rs) {a b : Str} (n : (a, b) ∉ rs.map (·.1)) : valV kt (kP a b) = none := by
  induction h with
  | nil => rfl
  | cons q t ih =>
    rename_i p r l l'
    rw [List.map_cons, List.mem_cons, not_or] at n
    rw [valV_neg (fun e => n.1 (kP_inj (e.symm.trans q.1)))]
    exact ih n.2
theorem Ty.get (h : Ty K H kt rs) (nd : (rs.map (·.1)).Nodup) {a b : Str} {r : RwT} (m : ((a, b), r) ∈ rs) : ∃ v, valV kt (kP a b) = some v ∧ TTv K H v r := by
  induction h with
  | nil => cases m
  | cons q t ih =>
    rename_i p s l l'
    rw [List.map_cons, List.nodup_cons] at nd
    rcases List.mem_cons.mp m with e | m
    · subst e
      exact ⟨_, valV_pos q.1, q.2⟩
    · rw [valV_neg]
      · exact ih nd.2 m
      · intro e
        have e2 := kP_inj (e.symm.trans q.1)
        exact nd.1 (List.mem_map.mpr ⟨_, m, e2⟩)
theorem Ty.put (h : Ty K H kt rs) {a b : Str} {r : RwT} {v : V} (n : (a, b) ∉ rs.map (·.1)) (hv : TTv K H v r) : Ty K H (putK kt (kP a b) v) (rs ++ [((a, b), r)]) := by
  have no : (kt.any fun kv => decide (kv.1 = kP a b)) = false := by rw [valV_any, h.none n]; rfl
  unfold putK
  rw [no]
  have : ∀ {ks : List (List Key × V)} {qs : List RowP}, Ty K H ks qs → Ty K H (ks ++ [(kP a b, v)]) (qs ++ [((a, b), r)]) := by
    intro ks qs t
    induction t with
    | nil => exact .cons ⟨rfl, hv⟩ .nil
    | cons q t ih => exact .cons q ih
  exact this h
/-- one row more -/
theorem Ty.next {a b : Str} {r : RwT} {v : V} {j : Nat} (nd : (rs.map (·.1)).Nodup) (e : rs[j]? = some ((a, b), r)) (h : Ty K H kt (rs.take j)) (hv : TTv K H v r) : Ty K H (putK kt (kP a b) v) (rs.take (j + 1)) := by
  have hE : (rs.take (j + 1)).map (·.1) = (rs.take j).map (·.1) ++ [(a, b)] := take_succ_map e
  rw [List.take_add_one, e]
  refine h.put (fun m => ?_) hv
  have := (List.Sublist.map (·.1) (List.take_sublist (j + 1) rs)).nodup nd
  rw [hE] at this
  exact (List.nodup_append.mp this).2.2 _ m _ (List.mem_singleton.mpr rfl) rfl
theorem TT.nil (h : H d = some (.dT [])) : TT K H d [] := ⟨[], h, .nil⟩
theorem TT.step {a b : Str} {r : RwT} {v : V} {j : Nat} (nd : (rs.map (·.1)).Nodup) (e : rs[j]? = some ((a, b), r)) (h : H d = some (.dT kt)) (y : Ty K H kt (rs.take j)) (hv : TTv K H v r) : TT K (upd H d (.dT (putK kt (kP a b) v))) d (rs.take (j + 1)) :=
  ⟨_, upd_same, (Ty.next nd e y hv).tk (Tk.put h)⟩
theorem Tk.unlock {a : Addr} {od : Obj} {ka : List (Key × V)} (h : H a = some (.frz od (.dK ka))) : Tk H (upd H a (.dK ka)) := fun t xs r => by
  have n : t ≠ a := fun e => by
    subst e
    rcases r with r | ⟨z, r⟩ <;> rw [h] at r <;> cases r
  unfold Rd
  rw [upd_ne n]
  exact r
/-- a dict is locked -/
theorem told_in {Hx : Hp} {a : Addr} {od : Obj} {ka : List (Key × V)} (s : Same H Hx) (ha : H a = some (.dK ka)) (n : H d = none) (t : TT K Hx d rs) : Same (upd H a (.frz od (.dK ka))) (upd Hx a (.frz od (.dK ka))) ∧ TT K (upd Hx a (.frz od (.dK ka))) d rs := by
  have ad : d ≠ a := (ne_of_none ha n).symm
  refine ⟨fun c o e => ?_, ?_⟩
  · by_cases ca : c = a
    · subst ca
      rw [upd_same] at e ⊢
      exact e
    · rw [upd_ne ca] at e ⊢
      exact s _ _ e
  · obtain ⟨kt, h1, h2⟩ := t
    exact ⟨kt, by rw [upd_ne ad]; exact h1, h2.tk (Tk.wk (Wk.lock (s _ _ ha) (fun _ _ z => nomatch z)))⟩
/-- .. and unlocked -/
theorem told_out {a : Addr} {od : Obj} {ka : List (Key × V)} (s : Same (upd H a (.frz od (.dK ka))) H') (ha : H a = some (.dK ka)) (n : H d = none) (t : TT K H' d rs) : H' a = some (.frz od (.dK ka)) ∧ Same H (upd H' a (.dK ka)) ∧ TT K (upd H' a (.dK ka)) d rs := by
  have ad : d ≠ a := (ne_of_none ha n).symm
  obtain ⟨z1, z2⟩ := unlock ha s
  refine ⟨z1, z2, ?_⟩
  obtain ⟨kt, h1, h2⟩ := t
  exact ⟨kt, by rw [upd_ne ad]; exact h1, h2.tk (Tk.unlock z1)⟩
end
end LW
namespace DW
open PySem PySem.Spec PyProof.Rows L2
/-! ### name = {..: .. for ..} on one line, the name a local -/
section
variable {X : Cx}
theorem dcT_core {pins : List (Addr × Obj)} {s : Shared} {σ : L2.St} {H : Hp} {Q : VK} {kx vx tg iter : Expr} {ifs : List Expr} {scope : Scope} {own : List (Str × Nat)} {pos pos' : Pos} {wi : TI} {g : TG} {tt : TT} {tk tv : TE} {use : Option (Value → Sem Unit)} {Qf : Value → Shared → Prop}
    (hu : X.A.units + 1 < cLine) (hc : X.calm = true) (hN : X.N.Nodup) (I : Inv X pins σ H s) (hi : PI X tg iter wi) (ok : BlkOk X.N X.env.scope scope own)
    (hg : ∀ (s : Shared) (H : Hp) (C : Addr) (cl : List (Str × Addr)) (fp : List Addr), PG (X.blk s H scope (compEnvC scope cl C X.env) fp) tg g) (ht : ∀ (s : Shared) (H : Hp) (C : Addr) (cl : List (Str × Addr)) (fp : List Addr), PTs (X.blk s H scope (compEnvC scope cl C X.env) fp) ifs tt)
    (hk : ∀ (s : Shared) (H : Hp) (C : Addr) (cl : List (Str × Addr)) (fp : List Addr), PE (X.blk s H scope (compEnvC scope cl C X.env) fp) kx tk) (he : ∀ (s : Shared) (H : Hp) (C : Addr) (cl : List (Str × Addr)) (fp : List Addr), PE (X.blk s H scope (compEnvC scope cl C X.env) fp) vx tv)
    (plain : ∀ x, foldedSetIterable iter X.env x = pure x)
    (h : tDcT wi g tt tk tv (own.map (·.2)) σ H Q)
    (hRR : ∀ D C s' m H', Inv X pins σ H' s' → Q (.ref D) H' → s'.heap.Ns C m → FpOk X pins H' C → compPost (model X.prog X.w) X.A X.xe use Qf (.ref D) C (.ok .next) s') :
    wpAny (model X.prog X.w) X.A (comprehension (.DictComp kx vx [⟨tg, iter, ifs, 0⟩] scope pos) scope X.env pos' newDict false (eval iter X.env) use) Qf X.xe s := by
  have frees : ∀ y ∈ scope.names, y.2 = .free → ∃ c, X.env.cells.lookup y.1 = some c := fun y hy e => by
    rcases ok.free y hy e with k | k
    · exact I.ok.has _ (.inl k)
    · exact I.ok.has _ (.inr k)
  refine wpAny_comprehension_free (use := use) rfl plain (closure_ok frees) ok.kind (fun y hy e => by rw [ok.uniq y hy, e]) (thn (hi.run pins s σ H _ I h) fun src sa first => thn first fun itv sb z => ?_)
  obtain ⟨it, fp, tn, J, Hb, rfl, Ib, Tn, at0, apart, want⟩ := z
  refine wpAny_newObj_type (newEnv_comp ?_)
  -- D: the new dict's address
  obtain ⟨D, eD⟩ : ∃ D, sb.heap.objs.size = D := ⟨_, rfl⟩
  rw [eD]
  have freeD : Hb D = none := Ib.hok.fresh (Nat.le_of_eq eD)
  obtain ⟨W, ⟨m0, w0⟩, turn⟩ := want D freeD
  obtain ⟨sc, esc⟩ : ∃ sc : Shared, ({ sb with heap := sb.heap.push { cls := .type "dict", data := .dict #[] } } : Shared) = sc := ⟨_, rfl⟩
  have Ic : Inv X pins σ (upd Hb D (.dT [])) sc := by
    rw [← esc]
    refine Ib.laid (t' := sb.toks) (fun b o e => Heap.get?_push_of_some _ e) (Nat.le_of_eq eD) ?_
    rw [← eD]
    exact dt_empty sb.heap Ib.big
  have esh : sc.heap = sb.heap.push { cls := .type "dict", data := .dict #[] } := by rw [← esc]
  have low : ∀ b ∈ fp, b < sb.heap.objs.size := fun b hb => by
    obtain ⟨o, e, _⟩ := Tn.obj _ _ at0 b hb
    exact Heap.lt_size e
  have apartC : ∀ b ∈ fp, FpOk X pins (upd Hb D (.dT [])) b ∧ b < sc.heap.objs.size := fun b hb => by
    have lt := low b hb
    refine ⟨⟨?_, (apart b hb).2⟩, by rw [esh, Heap.size_push]; exact Nat.lt_succ_of_lt lt⟩
    rw [upd_ne (by rw [← eD]; exact Nat.ne_of_lt lt)]
    exact (apart b hb).1
  have atC : tn 0 sc.heap := Tn.keep _ _ _ at0 fun b _ o e => by rw [esh]; exact Heap.get?_push_of_some _ e
  have Id := block_start Ic ok hN apartC
  have pg := hg sc (upd Hb D (.dT [])) sc.heap.objs.size (cellsFrom (sc.heap.objs.size + 1) scope.names (cloFrom X.env.cells scope.names [])) fp
  have pt := ht sc (upd Hb D (.dT [])) sc.heap.objs.size (cellsFrom (sc.heap.objs.size + 1) scope.names (cloFrom X.env.cells scope.names [])) fp
  have pk := hk sc (upd Hb D (.dT [])) sc.heap.objs.size (cellsFrom (sc.heap.objs.size + 1) scope.names (cloFrom X.env.cells scope.names [])) fp
  have pw := he sc (upd Hb D (.dT [])) sc.heap.objs.size (cellsFrom (sc.heap.objs.size + 1) scope.names (cloFrom X.env.cells scope.names [])) fp
  rw [show ({ sb with heap := sb.heap.push { cls := .type "dict", data := .dict #[] } } : Shared) = sc from esc]
  have nofp : ∀ b ∈ fp, (upd Hb D (.dT [])) b = none := fun b hb => (apartC b hb).1.1
  show codeAny _ _ (.compStart (.DictComp kx vx [⟨tg, iter, ifs, 0⟩] scope pos) 0 (.ref it) (.ref D) (compEnvC scope (cellsFrom (sc.heap.objs.size + 1) scope.names (cloFrom X.env.cells scope.names [])) sc.heap.objs.size X.env)) (compPost (model X.prog X.w) X.A X.xe use Qf (.ref D) sc.heap.objs.size) { sc with heap := pushCells (sc.heap.push { cls := .type "dict", data := .dict #[] }) scope.names }
  generalize ece : compEnvC scope (cellsFrom (sc.heap.objs.size + 1) scope.names (cloFrom X.env.cells scope.names [])) sc.heap.objs.size X.env = ce at Id pg pt pk pw ⊢
  have locs : ce.locals = sc.heap.objs.size := by subst ece; rfl
  generalize eHc : upd Hb D (.dT []) = Hc at Ic Id pg pt pk pw w0 nofp apartC
  obtain ⟨sd, esd⟩ : ∃ sd : Shared, ({ sc with heap := pushCells (sc.heap.push { cls := .type "dict", data := .dict #[] }) scope.names } : Shared) = sd := ⟨_, rfl⟩
  rw [esd] at Id ⊢
  have atD : tn 0 sd.heap := Tn.keep _ _ _ atC fun b _ o e => by rw [← esd]; exact pushCells_keeps _ _ _ _ (Heap.get?_push_of_some _ e)
  have still : ∀ {σ' : L2.St} {H' : Hp} {s' : Shared}, Inv (X.blk sc Hc scope ce fp) [] σ' H' s' → (∀ b ∈ fp, H' b = none) → ∀ b ∈ fp, FpOk (X.blk sc Hc scope ce fp) [] H' b := fun {σ' H' s'} J' n b hb =>
    ⟨n b hb, (J'.ok.exf b hb).1, J'.ok.exfs b hb, .inl hb, fun x c e => (J'.ok.exf b hb).2 x c e, fun p hp => absurd (show p ∈ ([] : List (Addr × Obj)) ++ [] from hp) (by simp)⟩
  have loop : codeAny (model X.prog X.w) X.A (.compLoop (.DictComp kx vx [⟨tg, iter, ifs, 0⟩] scope pos) 0 (.ref it) (.ref D) ce) (compPost (model X.prog X.w) X.A X.xe use Qf (.ref D) sc.heap.objs.size) sd := by
    refine compLoop_anyD (fun n s' => ∃ i H', Inv (X.blk sc Hc scope ce fp) [] (wipe σ (own.map (·.2))) H' s' ∧ tn i s'.heap ∧ (∀ b ∈ fp, H' b = none) ∧ W i n H') ?_ m0 ⟨0, Hc, Id, atD, nofp, w0⟩
    rintro n se ⟨i, He, Ie, atE, nE, wE⟩
    rcases turn i n He wE with ⟨stop, fin⟩ | ⟨go, Nx, less, step⟩
    · refine thnF (Tn.done (X.blk sc Hc scope ce fp) rfl rfl rfl hc i [] se _ He (fun _ _ => False) Ie (still Ie nE) atE stop) fun r sf z => ?_
      obtain ⟨rfl, If⟩ := z
      have Ig : Inv X pins σ He sf := Ic.call' (ch := fp) If.os If.base If.hok If.bare fun b hb => ⟨(apartC b hb).1.2.2.2.1, (apartC b hb).1.2.1, (apartC b hb).1.2.2.2.2.1, (apartC b hb).1.2.2.2.2.2⟩
      have freeC : He sc.heap.objs.size = none := by
        have z : He ce.locals = none := If.free
        rw [locs] at z
        exact z
      obtain ⟨m, ns, _⟩ := If.loc
      have ns : sf.heap.Ns ce.locals m := ns
      rw [locs] at ns
      exact hRR D _ sf m He Ig fin ns (Ic.fpOk (H' := He) (Nat.le_refl _) freeC)
    · refine thnF (Tn.item (X.blk sc Hc scope ce fp) rfl rfl rfl hc i [] se _ He (fun _ _ => False) Ie (still Ie nE) atE go) fun r sf z => ?_
      obtain ⟨u, rfl, next⟩ := z
      refine thnF next fun _ sg z => ?_
      obtain ⟨x, Hg, Ig, rg, yg, atG, nG⟩ := z
      have Ih := Ig.pinned (still Ig nG) (Tn.obj _ _ atG)
      refine thnF (pg.run _ sg _ Hg x u _ Ih rg (step x Hg yg)) fun _ si z => ?_
      obtain ⟨σi, Hi, Ii, wi', qi⟩ := z
      refine thnF (pt.run _ si σi Hi _ Ii qi) fun b sj z => ?_
      obtain ⟨Hj, Ij, qj⟩ := z
      have fin : ∀ {s' : Shared} {H' : Hp}, Inv (X.blk sc Hc scope ce fp) ([] ++ pinsAt fp sg.heap) σi H' s' → Nx H' → ∃ m, m < n ∧ ∃ i H', Inv (X.blk sc Hc scope ce fp) [] (wipe σ (own.map (·.2))) H' s' ∧ tn i s'.heap ∧ (∀ b ∈ fp, H' b = none) ∧ W i m H' := fun {s' H'} J' nx => by
        obtain ⟨m', lt, w'⟩ := less H' nx
        have pinned : ∀ b ∈ fp, ∀ o, sg.heap.get? b = some o → s'.heap.get? b = some o ∧ H' b = none := fun b hb o e =>
          let z := J'.pin (b, o) (List.mem_append_right _ (List.mem_append_right _ (mem_pinsAt hb e)))
          ⟨z.1, z.2.1⟩
        have len : (wipe σ (own.map (·.2))).length = σi.length := by rw [← wi', wipe_length]
        refine ⟨m', lt, i + 1, H', (J'.unpinned (pins := [])).weak len (fun j v e => ?_), Tn.keep _ _ _ atG fun b hb o e => (pinned b hb o e).1, fun b hb => ?_, w'⟩
        · rw [← wi'] at e
          exact (wipe_some e).1
        · obtain ⟨o, e, _⟩ := Tn.obj _ _ atG b hb
          exact (pinned b hb o e).2
      cases b with
      | false => exact fin Ij qj
      | true =>
        refine thnF (pk.run _ sj σi Hj _ Ij qj) fun z1 sk z => ?_
        obtain ⟨yk, Hk, Ik, rk, qk⟩ := z
        refine thnF (pw.run _ sk σi Hk _ Ik qk) fun z2 sl z => ?_
        obtain ⟨yv, Hl, Il, rl, kvs, k, c, rfl, atKey, atDict, room, nx⟩ := z
        cases (show z1 = Value.ref c from rk)
        exact dt_dictSet (X := X.blk sc Hc scope ce fp) hu Il atDict atKey room rl fun sm Im => fin Im nx
  exact codeAny_compStart_dict loop (Tn.self X.A 0 _ _ _ atD loop)
theorem ps_setDcT {i : Nat} {y : Str} {py : Pos} {kx vx tg iter : Expr} {ifs : List Expr} {scope : Scope} {own : List (Str × Nat)} {pos spos : Pos} {wi : TI} {g : TG} {tt : TT} {tk tv : TE} (hu : X.A.units + 1 < cLine) (hc : X.calm = true) (hN : X.N.Nodup) (hy : X.N[i]? = some y) (hyl : X.env.scope.names.lookup y = some .local)
    (hsw : swapsWith (.DictComp kx vx [⟨tg, iter, ifs, 0⟩] scope pos) (some (.Name y py)) spos.line X.env = pure true) (hi : PI X tg iter wi) (ok : BlkOk X.N X.env.scope scope own)
    (hg : ∀ (s : Shared) (H : Hp) (C : Addr) (cl : List (Str × Addr)) (fp : List Addr), PG (X.blk s H scope (compEnvC scope cl C X.env) fp) tg g) (ht : ∀ (s : Shared) (H : Hp) (C : Addr) (cl : List (Str × Addr)) (fp : List Addr), PTs (X.blk s H scope (compEnvC scope cl C X.env) fp) ifs tt)
    (hk : ∀ (s : Shared) (H : Hp) (C : Addr) (cl : List (Str × Addr)) (fp : List Addr), PE (X.blk s H scope (compEnvC scope cl C X.env) fp) kx tk) (he : ∀ (s : Shared) (H : Hp) (C : Addr) (cl : List (Str × Addr)) (fp : List Addr), PE (X.blk s H scope (compEnvC scope cl C X.env) fp) vx tv)
    (hs : ∀ x, foldedSetIterable iter X.env x = pure x := by intro _; rfl) :
    PS X (.Assign [.Name y py] (.DictComp kx vx [⟨tg, iter, ifs, 0⟩] scope pos) spos) (tAsg (tDcT wi g tt tk tv (own.map (·.2))) (gName i)) := by
  refine ⟨fun pins s σ H D I h => ?_⟩
  rw [exec_Assign_Name_used _ _ _ _ hsw]
  refine wpAny_bind (wpAny_standAt (wpAny_bind ?_))
  show wpAny _ X.A (do let _ ← comprehension (.DictComp kx vx [⟨tg, iter, ifs, 0⟩] scope pos) scope X.env (firstIterPos [⟨tg, iter, ifs, 0⟩] pos) newDict false (eval iter X.env) (some (assign (.Name y py) X.env))) _ _ s
  have h : tDcT wi g tt tk tv (own.map (·.2)) σ H (fun x H1 => gName i x σ H1 D.nx) := h
  refine wpAny_bind (thn (dcT_core (Qf := fun _ s' => SP X pins D .next s') hu hc hN I hi ok hg ht hk he hs h fun L C s' m H' I' q hn f => ?_) fun _ s' hq => wpAny_pure (wpAny_pure hq))
  show wpAny _ _ (assign (.Name y py) X.env (.ref L)) _ _ _
  refine wpAny_assign_Name (store_ok2 (v := V.ref L) I' hN hy (.inl hyl) rfl (fun s2 I2 ⟨a, sb, ha⟩ => ?_) (.inr hyl))
  obtain ⟨f0, f1, f2, f3, f4, f5⟩ := f
  have haC : C ≠ a := by
    rcases ha with z | z
    · rw [z]; exact f1
    · exact fun e => f4 y a z e.symm
  refine ⟨m, hn.sameBut sb haC, fun h3 sb3 => ?_⟩
  exact ⟨_, H', I2.turned (t' := s2.toks) (fun b o hb e => (sb3.2 b hb).trans e) f0 f1 f3 f4 f5, q⟩
theorem ps_setDc {i : Nat} {y : Str} {py : Pos} {kx vx tg iter : Expr} {ifs : List Expr} {scope : Scope} {own : List (Str × Nat)} {pos spos : Pos} {wi : TI} {g : TG} {tt : TT} {tk tv : TE} (hc : X.calm = true) (hN : X.N.Nodup) (hy : X.N[i]? = some y) (hyl : X.env.scope.names.lookup y = some .local)
    (hsw : swapsWith (.DictComp kx vx [⟨tg, iter, ifs, 0⟩] scope pos) (some (.Name y py)) spos.line X.env = pure true) (hi : PI X tg iter wi) (ok : BlkOk X.N X.env.scope scope own)
    (hg : ∀ (s : Shared) (H : Hp) (C : Addr) (cl : List (Str × Addr)) (fp : List Addr), PG (X.blk s H scope (compEnvC scope cl C X.env) fp) tg g) (ht : ∀ (s : Shared) (H : Hp) (C : Addr) (cl : List (Str × Addr)) (fp : List Addr), PTs (X.blk s H scope (compEnvC scope cl C X.env) fp) ifs tt)
    (hk : ∀ (s : Shared) (H : Hp) (C : Addr) (cl : List (Str × Addr)) (fp : List Addr), PE (X.blk s H scope (compEnvC scope cl C X.env) fp) kx tk) (he : ∀ (s : Shared) (H : Hp) (C : Addr) (cl : List (Str × Addr)) (fp : List Addr), PE (X.blk s H scope (compEnvC scope cl C X.env) fp) vx tv)
    (hs : ∀ x, foldedSetIterable iter X.env x = pure x := by intro _; rfl) :
    PS X (.Assign [.Name y py] (.DictComp kx vx [⟨tg, iter, ifs, 0⟩] scope pos) spos) (tAsg (tDc wi g tt tk tv (own.map (·.2))) (gName i)) := by
  refine ⟨fun pins s σ H D I h => ?_⟩
  rw [exec_Assign_Name_used _ _ _ _ hsw]
  refine wpAny_bind (wpAny_standAt (wpAny_bind ?_))
  show wpAny _ X.A (do let _ ← comprehension (.DictComp kx vx [⟨tg, iter, ifs, 0⟩] scope pos) scope X.env (firstIterPos [⟨tg, iter, ifs, 0⟩] pos) newDict false (eval iter X.env) (some (assign (.Name y py) X.env))) _ _ s
  have h : tDc wi g tt tk tv (own.map (·.2)) σ H (fun x H1 => gName i x σ H1 D.nx) := h
  refine wpAny_bind (thn (dc_core (Qf := fun _ s' => SP X pins D .next s') hc hN I hi ok hg ht hk he hs h fun L C s' m H' I' q hn f => ?_) fun _ s' hq => wpAny_pure (wpAny_pure hq))
  show wpAny _ _ (assign (.Name y py) X.env (.ref L)) _ _ _
  refine wpAny_assign_Name (store_ok2 (v := V.ref L) I' hN hy (.inl hyl) rfl (fun s2 I2 ⟨a, sb, ha⟩ => ?_) (.inr hyl))
  obtain ⟨f0, f1, f2, f3, f4, f5⟩ := f
  have haC : C ≠ a := by
    rcases ha with z | z
    · rw [z]; exact f1
    · exact fun e => f4 y a z e.symm
  refine ⟨m, hn.sameBut sb haC, fun h3 sb3 => ?_⟩
  exact ⟨_, H', I2.turned (t' := s2.toks) (fun b o hb e => (sb3.2 b hb).trans e) f0 f1 f3 f4 f5, q⟩
theorem sw_trueD {kx vx : Expr} {gs : List Comprehension} {scope : Scope} {pos py : Pos} {y : Str} {l : Nat} {env : Env} (hk : env.scope.kind = .function) (hy : env.scope.names.lookup y = some .local) (hl : (py.line == pos.line) = true)
    (ha : (scope.names.any fun (n, k) => n == y && (k == .local || k == .cell)) = false) : swapsWith (.DictComp kx vx gs scope pos) (some (.Name y py)) l env = pure true := by
  have ky : env.kindOf y = some .local := hy
  have hb : env.blockKind = .function := by unfold Env.blockKind; rw [hk]; rfl
  unfold swapsWith
  simp only [hb, ky, ha, Expr.pos, hl]
  rfl
end
end DW
namespace LW
open PySem PySem.Spec PyProof.Rows L2 DW
section
variable {P : Program} {w : World} {K : PySem.W.Frag} {mg : Str → Option Value} {base : Heap}
theorem pe_tupS {X : Cx} {e : Expr} {te : TE} {z : Str} {k kk : Nat} {p1 p2 pos : Pos} (he : PE X e te) : PE X (.Tuple [.Constant (.str z) k p1, .Starred e p2] kk pos) (tTup (tCons (tC (.str z)) (StX.tStar X.K te tNil))) := pe_tup (pa_cons pe_str (StX.pa_star he pa_nil))
theorem scTold : FnScope ["lasts", "works", "bounds", "name", "rows", "event", "begin", "end", "_", "most", "least"] ["lasts", "works", "bounds"] (defScope s_u_told_rows) := ⟨rfl, rfl, rfl, by decide +kernel, rfl, by decide +kernel, by decide +kernel⟩
def spTold (K : PySem.W.Frag) : Sp := fun vs H Q _ => ∃ (a b c : Addr) (D : PlainD), vs = [.ref a, .ref b, .ref c] ∧ TD inD K H a D.L ∧ TD wkD K H b D.W ∧ TD bdD K H c D.B ∧ OkN D ∧ ∀ d H', Same H H' → H d = none → TT K H' d (toldR D) → Q (.ref d) H'
theorem ok_told {f : Addr} {fd : FuncData} (F : Fun K "_told_rows" "_told_rows" s_u_told_rows f fd) {tW : Tok} (gW : mg "DAWN" = some (.str "dawn" tW)) : FnOk P w K mg base CX0 1 f fd ["lasts", "works", "bounds"] (spTold K) := by
  refine F.ok scTold (fun vs H Q E h => ?_) (fun cdv A outer s H vs Q E hr h => ?_)
  · obtain ⟨a, b, c, D, rfl, _⟩ := h
    rfl
  obtain ⟨a, b, c, D, rfl, ta, tb, tc, ok, k⟩ := h
  have pd : ∀ {pos}, PE (cxOf CX0 P w K mg base ["lasts", "works", "bounds", "name", "rows", "event", "begin", "end", "_", "most", "least"] "_told_rows" (defScope s_u_told_rows) f cdv A outer s H E).nox (.Name "DAWN" pos) (tC (.str "dawn")) := pe_glob rfl gW ⟨tW, rfl⟩
  refine ⟨_, pss_cons (ps_lock (ps_setDcT (i := 4) (tv := tTup (tCons (tC (.str "bound")) (StX.tStar K (tDGet (tVar 2) (tVar 3)) tNil))) (own := [("name", 3)]) (g := gName 3) (tt := tYes) (hu_of hr) rfl scTold.nd rfl rfl (sw_trueD rfl rfl rfl (by decide +kernel)) (pi_keys (pv 2)) (blkOk_by (own := [("name", 3)]) (N := ["lasts", "works", "bounds", "name", "rows", "event", "begin", "end", "_", "most", "least"]) (sc := defScope s_u_told_rows) (by decide +kernel))
        (fun _ _ _ _ _ => pg_name (i := 3) scTold.nd rfl (Or.inl rfl)) (fun _ _ _ _ _ => pts_nil) (fun _ _ _ _ _ => pe_tup (pa_cons pe_str (pa_cons (pv 3) pa_nil))) (fun _ _ _ _ _ => pe_tupS (pe_dget (hu_of hr) (pv 2) (pv 3) (fun _ _ => rfl)))))
    (pss_cons (ps_lock (ps_for PassesOwn.never rfl (pi_keys (pv 0)) (pg_name (i := 5) scTold.nd rfl (.inl rfl))
      (pss_one (ps_dput (hu_of hr) (pv 4) (pe_tup (pa_cons pe_str (pa_cons (pv 5) pa_nil))) (pe_tup (pa_cons pe_str (pa_cons pd (pa_cons (pv 5) (pa_cons (pe_dget (hu_of hr) (pv 0) (pv 5) (fun _ _ => rfl)) pa_nil))))) rfl))))
    (pss_cons (ps_lock (ps_for PassesOwn.never rfl (pi_keys (pv 0)) (pg_name (i := 5) scTold.nd rfl (.inl rfl))
      (pss_one (ps_dput (hu_of hr) (pv 4) (pe_tup (pa_cons pe_str (pa_cons (pv 5) pa_nil))) (pe_tup (pa_cons pe_str (pa_cons (pv 5) (pa_cons pd (pa_cons pe_int pa_nil))))) rfl))))
    (pss_cons (ps_lock (ps_for PassesOwn.never rfl (pi_keys (pv 1)) (pg_name (i := 3) scTold.nd rfl (.inl rfl))
      (pss_cons (ps_asg (pe_dget (hu_of hr) (pv 1) (pv 3) (fun _ _ => rfl)) (pg_tup rfl (pgs_cons (pg_name (i := 6) scTold.nd rfl (Or.inl rfl)) (pgs_cons (pg_name (i := 7) scTold.nd rfl (Or.inl rfl)) (pgs_cons (pg_name (i := 8) scTold.nd rfl (Or.inl rfl)) (pgs_cons (pg_name (i := 9) scTold.nd rfl (Or.inl rfl)) (pgs_cons (pg_name (i := 8) scTold.nd rfl (Or.inl rfl)) pgs_nil)))))))
      (pss_one (ps_dput (hu_of hr) (pv 4) (pe_tup (pa_cons pe_str (pa_cons (pv 3) pa_nil))) (pe_tup (pa_cons pe_str (pa_cons (pv 6) (pa_cons (pv 7) (pa_cons (pv 9) pa_nil))))) rfl)))))
    (pss_cons (ps_lock (ps_for PassesOwn.never rfl (pi_keys (pv 1)) (pg_name (i := 3) scTold.nd rfl (.inl rfl))
      (pss_cons (ps_asg (pe_dget (hu_of hr) (pv 1) (pv 3) (fun _ _ => rfl)) (pg_tup rfl (pgs_cons (pg_name (i := 6) scTold.nd rfl (Or.inl rfl)) (pgs_cons (pg_name (i := 7) scTold.nd rfl (Or.inl rfl)) (pgs_cons (pg_name (i := 10) scTold.nd rfl (Or.inl rfl)) (pgs_cons (pg_name (i := 8) scTold.nd rfl (Or.inl rfl)) (pgs_cons (pg_name (i := 8) scTold.nd rfl (Or.inl rfl)) pgs_nil)))))))
      (pss_one (ps_dput (hu_of hr) (pv 4) (pe_tup (pa_cons pe_str (pa_cons (pv 3) pa_nil))) (pe_tup (pa_cons pe_str (pa_cons (pv 7) (pa_cons (pv 6) (pa_cons (pe_un un_neg (pv 10)) pa_nil))))) rfl)))))
    (pss_one (ps_ret (pv 4))))))), ?_⟩
  obtain ⟨ka, ha, txa⟩ := ta
  obtain ⟨kb, hb, txb⟩ := tb
  obtain ⟨kc, hc, txc⟩ := tc
  have la : ka.length = D.L.length := Paired.length txa
  have lb : kb.length = D.W.length := Paired.length txb
  have lc : kc.length = D.B.length := Paired.length txc
  have n1 := ok.l.len.2
  have n2 := ok.w.len
  have n3 := ok.b.len
  have nd := told_nodup ok
  have small : ∀ {j : Nat} {H : Hp} {kt : List (List Key × V)}, Ty K H kt ((toldR D).take j) → kt.length < sizeLine := fun {j H kt} y => by
    have h1 : kt.length = ((toldR D).take j).length := Paired.length y
    have h2 : ((toldR D).take j).length ≤ (toldR D).length := by rw [List.length_take]; exact Nat.min_le_right _ _
    have h3 := told_len (D := D)
    rw [sizeLine_eq]
    omega
  refine ⟨c, _, hc, mut_dK, fun od => ⟨_, rfl, c, od, rfl, .inl ⟨kc, upd_same, fun d hd => dcT_it (walk_keys (kvs := kc)) (fun i H' => Same (upd H c (.frz od (.dK kc))) H' ∧ TT K H' d ((toldR D).take i)) ⟨same_new hd, TT.nil upd_same⟩ (fun i H' _ q => q.1 _ _ upd_same) (fun i x H1 H2 hi q y => ?_) (fun H' q => ?_)⟩⟩⟩
  · obtain ⟨rfl, key, v, hk, rfl⟩ := y
    obtain ⟨p, hp, e, dv⟩ := txc.at hk
    have e : key = .inr p.1 := e
    subst e
    obtain ⟨s1, kt, hkt, yt⟩ := q
    refine ⟨by simp [gName, wipe], tyes ⟨_, by simp [gName, wipe]; rfl, by show 2 ≤ sizeLine; decide, fun p1 np1 => ?_⟩⟩
    have w1 : Wk H (upd H2 p1 (.tup [.str "bound", .str p.1])) := (Wk.lock hc (fun _ _ z => nomatch z)).trans (Wk.of (s1.trans (same_new np1)))
    obtain ⟨u, g, du⟩ := (TR.wk w1 ⟨kc, .inl hc, txc⟩).get (look_of ok.b.nd (List.mem_of_getElem? hp))
    obtain ⟨t, rfl, ht⟩ := bd_at du
    refine ⟨_, by simp [gName, wipe]; rfl, _, by simp [gName, wipe]; rfl, c, _, rfl, g, t, _, rfl, .inl ht, by show 4 ≤ sizeLine; decide, fun p2 np2 => ?_⟩
    have s2 := (same_new (o := .tup [.str "bound", .str p.1]) np1).trans (same_new (o := .tup [.str "bound", .str p.2.1, .str p.2.2.1, .int p.2.2.2]) np2)
    refine ⟨kt, kP "bound" p.1, p1, rfl, ?_, s2 _ _ hkt, small yt, same_mut (s1.trans s2) hd, TT.step nd (told_at1 hp) (s2 _ _ hkt) (yt.tk (Tk.of s2)) ⟨p2, rfl, SqT.of upd_same⟩⟩
    exact same_new np2 _ _ upd_same
  · obtain ⟨s1, tt⟩ := q
    rw [lc] at tt
    have dc : d ≠ c := fun e => by rw [e, upd_same] at hd; cases hd
    have nd0 : H d = none := by rw [upd_ne dc] at hd; exact hd
    obtain ⟨z1, s2, t2⟩ := told_out s1 hc nd0 tt
    refine ⟨z1, a, _, s2 _ _ ha, mut_dK, fun od1 => ⟨_, rfl, a, od1, rfl, .inl ⟨ka, upd_same, ?_⟩⟩⟩
    obtain ⟨e1, e2⟩ := told_in (od := od1) s2 ha nd0 t2
    refine for_it (walk_keys (kvs := ka)) (fun i σ H' => ∃ x5, σ = [some (.ref a), some (.ref b), some (.ref c), none, some (.ref d), x5, none, none, none, none, none] ∧ Same (upd H a (.frz od1 (.dK ka))) H' ∧ TT K H' d ((toldR D).take (D.B.length + i))) ⟨none, rfl, e1, e2⟩ (fun i σ H' _ q => by obtain ⟨_, _, s, _⟩ := q; exact s _ _ upd_same) (fun i x σ H1 H2 hi q y => ?_) (fun σ H3 q => ?_)
    · obtain ⟨rfl, key, v, hk, rfl⟩ := y
      obtain ⟨x5, rfl, s3, kt, hkt, yt⟩ := q
      obtain ⟨p, hp, e, dv⟩ := txa.at hk
      have e : key = .inr p.1 := e
      subst e
      have w1 : Wk H H2 := (Wk.lock ha (fun _ _ z => nomatch z)).trans (Wk.of s3)
      obtain ⟨u, g, du⟩ := (TR.wk w1 ⟨ka, .inl ha, txa⟩).get (look_of ok.l.nd (List.mem_of_getElem? hp))
      cases in_at du
      refine ⟨_, rfl, _, rfl, _, rfl, a, _, rfl, g, by show 4 ≤ sizeLine; decide, fun p2 np2 => ⟨_, rfl, _, rfl, by show 2 ≤ sizeLine; decide, fun p1 np1 => ?_⟩⟩
      have s4 := (same_new (o := .tup [.str "bound", .str "dawn", .str p.1, .int p.2]) np2).trans (same_new (o := .tup [.str "last", .str p.1]) np1)
      refine ⟨d, _, rfl, DPut.t (k := kP "last" p.1) (s4 _ _ hkt) upd_same (small yt), _, rfl, same_mut (s3.trans s4) (by rw [upd_ne (ne_of_none ha nd0).symm]; exact nd0), ?_⟩
      exact TT.step nd (told_at2 hp) (s4 _ _ hkt) (yt.tk (Tk.of s4)) ⟨p2, rfl, SqT.of (same_new np1 _ _ upd_same)⟩
    · obtain ⟨x5, rfl, s3, t3⟩ := q
      rw [la] at t3
      obtain ⟨z1, s4, t4⟩ := told_out s3 ha nd0 t3
      refine ⟨z1, a, _, s4 _ _ ha, mut_dK, fun od1 => ⟨_, rfl, a, od1, rfl, .inl ⟨ka, upd_same, ?_⟩⟩⟩
      obtain ⟨e1, e2⟩ := told_in (od := od1) s4 ha nd0 t4
      refine for_it (walk_keys (kvs := ka)) (fun i σ H' => ∃ x5, σ = [some (.ref a), some (.ref b), some (.ref c), none, some (.ref d), x5, none, none, none, none, none] ∧ Same (upd H a (.frz od1 (.dK ka))) H' ∧ TT K H' d ((toldR D).take (D.B.length + D.L.length + i))) ⟨x5, rfl, e1, e2⟩ (fun i σ H' _ q => by obtain ⟨_, _, s, _⟩ := q; exact s _ _ upd_same) (fun i x σ H1 H2 hi q y => ?_) (fun σ H3 q => ?_)
      · obtain ⟨rfl, key, v, hk, rfl⟩ := y
        obtain ⟨x5, rfl, s3, kt, hkt, yt⟩ := q
        obtain ⟨p, hp, e, dv⟩ := txa.at hk
        have e : key = .inr p.1 := e
        subst e
        refine ⟨_, rfl, by show 4 ≤ sizeLine; decide, fun p2 np2 => ⟨_, rfl, _, rfl, by show 2 ≤ sizeLine; decide, fun p1 np1 => ?_⟩⟩
        have s4 := (same_new (o := .tup [.str "bound", .str p.1, .str "dawn", .int 0]) np2).trans (same_new (o := .tup [.str "begin", .str p.1]) np1)
        refine ⟨d, _, rfl, DPut.t (k := kP "begin" p.1) (s4 _ _ hkt) upd_same (small yt), _, rfl, same_mut (s3.trans s4) (by rw [upd_ne (ne_of_none ha nd0).symm]; exact nd0), ?_⟩
        exact TT.step nd (told_at3 hp) (s4 _ _ hkt) (yt.tk (Tk.of s4)) ⟨p2, rfl, SqT.of (same_new np1 _ _ upd_same)⟩
      · obtain ⟨x5, rfl, s3, t3⟩ := q
        rw [la] at t3
        obtain ⟨z1, s4, t4⟩ := told_out s3 ha nd0 t3
        refine ⟨z1, b, _, s4 _ _ hb, mut_dK, fun od1 => ⟨_, rfl, b, od1, rfl, .inl ⟨kb, upd_same, ?_⟩⟩⟩
        obtain ⟨e1, e2⟩ := told_in (od := od1) s4 hb nd0 t4
        refine for_it (walk_keys (kvs := kb)) (fun i σ H' => ∃ x3 x6 x7 x8 x9, σ = [some (.ref a), some (.ref b), some (.ref c), x3, some (.ref d), x5, x6, x7, x8, x9, none] ∧ Same (upd H b (.frz od1 (.dK kb))) H' ∧ TT K H' d ((toldR D).take (D.B.length + D.L.length + D.L.length + i))) ⟨none, none, none, none, none, rfl, e1, e2⟩ (fun i σ H' _ q => by obtain ⟨_, _, _, _, _, _, s, _⟩ := q; exact s _ _ upd_same) (fun i x σ H1 H2 hi q y => ?_) (fun σ H3 q => ?_)
        · obtain ⟨rfl, key, v, hk, rfl⟩ := y
          obtain ⟨x3, x6, x7, x8, x9, rfl, s3, kt, hkt, yt⟩ := q
          obtain ⟨p, hp, e, dv⟩ := txb.at hk
          have e : key = .inr p.1 := e
          subst e
          have w1 : Wk H H2 := (Wk.lock hb (fun _ _ z => nomatch z)).trans (Wk.of s3)
          obtain ⟨u, g, du⟩ := (TR.wk w1 ⟨kb, .inl hb, txb⟩).get (look_of ok.w.nd (List.mem_of_getElem? hp))
          obtain ⟨t, rfl, ht⟩ := wk_at du
          refine ⟨_, rfl, _, rfl, b, _, rfl, g, t, _, rfl, ht, rfl, _, _, rfl, _, _, rfl, _, _, rfl, _, _, rfl, _, _, rfl, rfl, ?_⟩
          refine ⟨_, rfl, _, rfl, _, rfl, by show 4 ≤ sizeLine; decide, fun p2 np2 => ⟨_, rfl, _, rfl, by show 2 ≤ sizeLine; decide, fun p1 np1 => ?_⟩⟩
          have s4 := (same_new (o := .tup [.str "bound", .str p.2.1, .str p.2.2.1, .int p.2.2.2.2.1]) np2).trans (same_new (o := .tup [.str "most", .str p.1]) np1)
          refine ⟨d, _, rfl, DPut.t (k := kP "most" p.1) (s4 _ _ hkt) upd_same (small yt), _, _, _, _, _, rfl, same_mut (s3.trans s4) (by rw [upd_ne (ne_of_none hb nd0).symm]; exact nd0), ?_⟩
          exact TT.step nd (told_at4 hp) (s4 _ _ hkt) (yt.tk (Tk.of s4)) ⟨p2, rfl, SqT.of (same_new np1 _ _ upd_same)⟩
        · obtain ⟨x3, x6, x7, x8, x9, rfl, s3, t3⟩ := q
          rw [lb] at t3
          obtain ⟨z1, s4, t4⟩ := told_out s3 hb nd0 t3
          refine ⟨z1, b, _, s4 _ _ hb, mut_dK, fun od1 => ⟨_, rfl, b, od1, rfl, .inl ⟨kb, upd_same, ?_⟩⟩⟩
          obtain ⟨e1, e2⟩ := told_in (od := od1) s4 hb nd0 t4
          refine for_it (walk_keys (kvs := kb)) (fun i σ H' => ∃ x3 x6 x7 x8 x10, σ = [some (.ref a), some (.ref b), some (.ref c), x3, some (.ref d), x5, x6, x7, x8, x9, x10] ∧ Same (upd H b (.frz od1 (.dK kb))) H' ∧ TT K H' d ((toldR D).take (D.B.length + D.L.length + D.L.length + D.W.length + i))) ⟨x3, x6, x7, x8, none, rfl, e1, e2⟩ (fun i σ H' _ q => by obtain ⟨_, _, _, _, _, _, s, _⟩ := q; exact s _ _ upd_same) (fun i x σ H1 H2 hi q y => ?_) (fun σ H3 q => ?_)
          · obtain ⟨rfl, key, v, hk, rfl⟩ := y
            obtain ⟨x3, x6, x7, x8, x10, rfl, s3, kt, hkt, yt⟩ := q
            obtain ⟨p, hp, e, dv⟩ := txb.at hk
            have e : key = .inr p.1 := e
            subst e
            have w1 : Wk H H2 := (Wk.lock hb (fun _ _ z => nomatch z)).trans (Wk.of s3)
            obtain ⟨u, g, du⟩ := (TR.wk w1 ⟨kb, .inl hb, txb⟩).get (look_of ok.w.nd (List.mem_of_getElem? hp))
            obtain ⟨t, rfl, ht⟩ := wk_at du
            refine ⟨_, rfl, _, rfl, b, _, rfl, g, t, _, rfl, ht, rfl, _, _, rfl, _, _, rfl, _, _, rfl, _, _, rfl, _, _, rfl, rfl, ?_⟩
            refine ⟨_, rfl, _, rfl, _, rfl, _, rfl, by show 4 ≤ sizeLine; decide, fun p2 np2 => ⟨_, rfl, _, rfl, by show 2 ≤ sizeLine; decide, fun p1 np1 => ?_⟩⟩
            have s4 := (same_new (o := .tup [.str "bound", .str p.2.2.1, .str p.2.1, .int (-p.2.2.2.1)]) np2).trans (same_new (o := .tup [.str "least", .str p.1]) np1)
            refine ⟨d, _, rfl, DPut.t (k := kP "least" p.1) (s4 _ _ hkt) upd_same (small yt), _, _, _, _, _, rfl, same_mut (s3.trans s4) (by rw [upd_ne (ne_of_none hb nd0).symm]; exact nd0), ?_⟩
            exact TT.step nd (told_at5 hp) (s4 _ _ hkt) (yt.tk (Tk.of s4)) ⟨p2, rfl, SqT.of (same_new np1 _ _ upd_same)⟩
          · obtain ⟨x3, x6, x7, x8, x10, rfl, s3, t3⟩ := q
            rw [lb] at t3
            obtain ⟨z1, s4, t4⟩ := told_out s3 hb nd0 t3
            rw [show D.B.length + D.L.length + D.L.length + D.W.length + D.W.length = (toldR D).length from told_len.symm, List.take_length] at t4
            exact ⟨z1, _, rfl, k d _ s4 nd0 t4⟩
end
end LW
namespace DW
open PySem PySem.Spec PyProof.Rows L2
/-- lists and tuples stay -/
def Sk (H H' : Hp) : Prop := (∀ c xs, Rd H c (.lst xs) → Rd H' c (.lst xs)) ∧ ∀ c xs, Rd H c (.tup xs) → Rd H' c (.tup xs)
theorem Sk.wk {H H' : Hp} (s : Wk H H') : Sk H H' := ⟨fun c xs h => s c _ h, fun c xs h => s c _ h⟩
theorem Sk.of {H H' : Hp} (s : Same H H') : Sk H H' := Sk.wk (Wk.of s)
theorem Sk.trans {H H1 H2 : Hp} (a : Sk H H1) (b : Sk H1 H2) : Sk H H2 := ⟨fun c xs h => b.1 c xs (a.1 c xs h), fun c xs h => b.2 c xs (a.2 c xs h)⟩
/-- what is neither list nor tuple changes -/
theorem sk_put {H : Hp} {D : Addr} {u o : HO} (h : H D = some u) (n : ∀ xs, u ≠ .lst xs ∧ u ≠ .tup xs ∧ (∀ z, u ≠ .frz z (.lst xs)) ∧ ∀ z, u ≠ .frz z (.tup xs)) : Sk H (upd H D o) := by
  refine ⟨fun c xs r => ?_, fun c xs r => ?_⟩
  · have ne : c ≠ D := fun e => by
      subst e
      rcases r with r | ⟨z, r⟩
      · rw [h] at r; cases r; exact (n xs).1 rfl
      · rw [h] at r; cases r; exact (n xs).2.2.1 z rfl
    unfold Rd
    rw [upd_ne ne]
    exact r
  · have ne : c ≠ D := fun e => by
      subst e
      rcases r with r | ⟨z, r⟩
      · rw [h] at r; cases r; exact (n xs).2.1 rfl
      · rw [h] at r; cases r; exact (n xs).2.2.2 z rfl
    unfold Rd
    rw [upd_ne ne]
    exact r
theorem sk_dK {H : Hp} {D : Addr} {kvs : List (Key × V)} {o : HO} (h : H D = some (.dK kvs)) : Sk H (upd H D o) := sk_put h fun xs => ⟨(fun z => nomatch z), (fun z => nomatch z), (fun _ z => nomatch z), (fun _ z => nomatch z)⟩
theorem sk_ins {H : Hp} {D C dx : Addr} {fs : List (Str × V)} {o : HO} (h : H D = some (.ins C dx fs)) : Sk H (upd H D o) := sk_put h fun xs => ⟨(fun z => nomatch z), (fun z => nomatch z), (fun _ z => nomatch z), (fun _ z => nomatch z)⟩
theorem sqT_sk {K : PySem.W.Frag} {H H' : Hp} {a : Addr} {xs : List V} (s : Sk H H') (h : SqT K H a xs) : SqT K H' a xs := h.elim (fun h => .inl (s.2 _ _ h)) .inr
theorem sqL_sk {K : PySem.W.Frag} {H H' : Hp} {a : Addr} {xs : List V} (s : Sk H H') (h : SqL K H a xs) : SqL K H' a xs := h.elim (fun h => .inl (s.1 _ _ h)) .inr
mutual
theorem Dp.sk {K : PySem.W.Frag} {H H' : Hp} (s : Sk H H') : ∀ {v : V} {d : PyData}, Dp K H v d → Dp K H' v d
  | _, _, .non => .non
  | _, _, .bl b => .bl b
  | _, _, .int i => .int i
  | _, _, .str x => .str x
  | _, _, .lst h a => .lst (sqL_sk s h) (DpAll.sk s a)
  | _, _, .tup h a => .tup (sqT_sk s h) (DpAll.sk s a)
theorem DpAll.sk {K : PySem.W.Frag} {H H' : Hp} (s : Sk H H') : ∀ {vs : List V} {ds : List PyData}, DpAll K H vs ds → DpAll K H' vs ds
  | _, _, .nil => .nil
  | _, _, .cons a b => .cons (Dp.sk s a) (DpAll.sk s b)
end
theorem Tx.sk {α : Type} {enc : α → PyData} {K : PySem.W.Frag} {H H' : Hp} {kvs : List (Key × V)} {rs : List (Str × α)} (s : Sk H H') (h : Tx enc K H kvs rs) : Tx enc K H' kvs rs := pairedMono (fun _ _ z => ⟨z.1, Dp.sk s z.2⟩) h
end DW
namespace LW
open PySem PySem.Spec PyProof.Rows L2 DW
/-- {name: d[name] for name in sorted(d)} -/
theorem sc_it {α : Type} {enc : α → PyData} {K : PySem.W.Frag} {v : V} {rs : List (Str × α)} {σ : L2.St} {H : Hp} {p D : Addr} {i j : Nat} {Qd : Hp → Prop} (hi : i < σ.length) (hji : i ≠ j) (hj : σ[j]? = some (some v)) (lot : Lot enc K H v rs) (nd : (rs.map (·.1)).Nodup) (hl : rs.length ≤ 1000)
    (hp : H p = some (.lst ((srt (rs.map (·.1))).map V.str))) (hD : H D = none) (k : ∀ H', Same H H' → TD enc K H' D (srtR rs) → Qd H') :
    ∃ W : Nat → Nat → Hp → Prop, (∃ m, W 0 m (upd H D (.dK []))) ∧ ∀ n m H, W n m H →
      ((Itl K p).stop n H ∧ Qd H) ∨ ((Itl K p).go n H ∧ ∃ Nx : Hp → Prop, (∀ H', Nx H' → ∃ m', m' < m ∧ W (n + 1) m' H') ∧ ∀ x H', (Itl K p).yld n H x H' → gName i x (wipe σ [i]) H' fun σ2 H2 => wipe σ2 [i] = wipe σ [i] ∧ tYes σ2 H2 fun b H3 =>
        if b = true then tVar i σ2 H3 fun y H4 => tDGet (tVar j) (tVar i) σ2 H4 fun z H5 => ∃ kvs k, y = kV k ∧ H5 D = some (.dK kvs) ∧ kvs.length < sizeLine ∧ Nx (upd H5 D (.dK (putK kvs k z))) else Nx H3) := by
  have ll : ((srt (rs.map (·.1))).map V.str).length = (srtR rs).length := by rw [List.length_map, srt_len, List.length_map, srtR_len]
  refine dc_it (walk_list (K := K) (a := p) (xs := (srt (rs.map (·.1))).map V.str)) (fun n H' => Same H H' ∧ TD enc K H' D ((srtR rs).take n)) ⟨same_new hD, TD.nil upd_same⟩ (fun n H' _ q => SqL.of (q.1 _ _ hp)) (fun n x H1 H2 hn q y => ?_) (fun H' q => ?_)
  · obtain ⟨e, hx⟩ := y
    subst e
    obtain ⟨s1, kvs, hk, tx⟩ := q
    obtain ⟨r, hr1, rfl, lk, mem⟩ := srt_at hx
    obtain ⟨a, u, rfl, g, du⟩ := (lot.same s1).get lk
    have len : kvs.length ≤ 1000 := by
      have h1 : kvs.length = ((srtR rs).take n).length := Paired.length tx
      have h2 : ((srtR rs).take n).length ≤ (srtR rs).length := by rw [List.length_take]; exact Nat.min_le_right _ _
      have h3 := srtR_len rs
      omega
    have sj : ((wipe σ [i]).set i (some (V.str r.1)))[j]? = some (some (.ref a)) := by simp [wipe, hji, hj]
    have si : ((wipe σ [i]).set i (some (V.str r.1)))[i]? = some (some (.str r.1)) := by simp [wipe, hi]
    refine ⟨by simp [gName, wipe], tyes ⟨_, si, _, sj, _, si, a, u, rfl, g, kvs, .inr r.1, rfl, hk, by rw [sizeLine_eq]; omega, same_mut s1 hD, _, upd_same, ?_⟩⟩
    have hE : ((srtR rs).take (n + 1)).map (·.1) = ((srtR rs).take n).map (·.1) ++ [r.1] := take_succ_map hr1
    have nin : r.1 ∉ ((srtR rs).take n).map (·.1) := by
      have := (List.Sublist.map (·.1) (List.take_sublist (n + 1) (srtR rs))).nodup (srtR_nodup nd)
      rw [hE] at this
      exact fun m => (List.nodup_append.mp this).2.2 _ m _ (List.mem_singleton.mpr rfl) rfl
    rw [List.take_add_one, hr1]
    exact (tx.put nin du).sk (sk_dK hk)
  · obtain ⟨s1, td⟩ := q
    rw [ll, List.take_length] at td
    exact k H' s1 td
/-- {d[name][1]: name for name in d}, d locked -/
theorem ed_it {K : PySem.W.Frag} {a : Addr} {L : Ls} {W : Ws} {kvs : List (Key × V)} {od : Obj} {σ : L2.St} {H : Hp} {D : Addr} {i : Nat} {tv : TE} {Qd : Hp → Prop} (hi : i < σ.length) (ha : H a = some (.frz od (.dK kvs))) (tx : Tx wkD K H kvs (srtR W)) (ok : OkW L W) (hD : H D = none)
    (htv : ∀ {σ' : L2.St} {H' : Hp} {R : VK} {n : Str} {u : V}, σ'[i]? = some (some (.str n)) → (∀ j z, i ≠ j → σ[j]? = some (some z) → σ'[j]? = some (some z)) → DGet H' a (.str n) (some u) → Same H H' → R u H' → tv σ' H' R)
    (k : ∀ H', Same H H' → TD stD K H' D (endR W) → Qd H') :
    ∃ Wf : Nat → Nat → Hp → Prop, (∃ m, Wf 0 m (upd H D (.dK []))) ∧ ∀ n m H, Wf n m H →
      ((Itk a od kvs).stop n H ∧ Qd H) ∨ ((Itk a od kvs).go n H ∧ ∃ Nx : Hp → Prop, (∀ H', Nx H' → ∃ m', m' < m ∧ Wf (n + 1) m' H') ∧ ∀ x H', (Itk a od kvs).yld n H x H' → gName i x (wipe σ [i]) H' fun σ2 H2 => wipe σ2 [i] = wipe σ [i] ∧ tYes σ2 H2 fun b H3 =>
        if b = true then tOp (rIxT K) tv (tC (.int 1)) σ2 H3 fun y H4 => tVar i σ2 H4 fun z H5 => ∃ kvs k, y = kV k ∧ H5 D = some (.dK kvs) ∧ kvs.length < sizeLine ∧ Nx (upd H5 D (.dK (putK kvs k z))) else Nx H3) := by
  have en := endR_nodup ok
  have ll : kvs.length = (endR W).length := by unfold endR; rw [List.length_map]; exact Paired.length tx
  have l60 := ok.len
  refine dc_it (walk_keys (d := a) (o := od) (kvs := kvs)) (fun n H' => Same H H' ∧ TD stD K H' D ((endR W).take n)) ⟨same_new hD, TD.nil upd_same⟩ (fun n H' _ q => q.1 _ _ ha) (fun n x H1 H2 hn q y => ?_) (fun H' q => ?_)
  · obtain ⟨rfl, key, v, hk, rfl⟩ := y
    obtain ⟨s1, ks, hks, te⟩ := q
    obtain ⟨p, hp, e, dv⟩ := tx.at hk
    have e : key = .inr p.1 := e
    subst e
    have tr : TR wkD K H2 a (srtR W) := TR.wk (Wk.of s1) ⟨kvs, .inr ⟨od, ha⟩, tx⟩
    obtain ⟨u, g, du⟩ := tr.get (look_of (srtR_nodup ok.nd) (List.mem_of_getElem? hp))
    obtain ⟨t, rfl, ht⟩ := wk_at du
    have len : ks.length ≤ 1000 := by
      have h1 : ks.length = ((endR W).take n).length := Paired.length te
      have h2 : ((endR W).take n).length ≤ (endR W).length := by rw [List.length_take]; exact Nat.min_le_right _ _
      have h3 : (endR W).length = W.length := by unfold endR; rw [List.length_map, srtR_len]
      omega
    have si : ((wipe σ [i]).set i (some (V.str p.1)))[i]? = some (some (.str p.1)) := by simp [wipe, hi]
    refine ⟨by simp [gName, wipe], tyes (htv si (fun j z hj e => by simp [wipe, hj, e]) g s1 ⟨t, _, 1, .str p.2.2.1, rfl, rfl, ht, atI_nat (j := 1) rfl, _, si, ks, .inr p.2.2.1, rfl, hks, by rw [sizeLine_eq]; omega, same_mut s1 hD, _, upd_same, ?_⟩)⟩
    have ei : (endR W)[n]? = some (p.2.2.1, p.1) := by
      unfold endR
      rw [List.getElem?_map, hp]
      rfl
    have hE : ((endR W).take (n + 1)).map (·.1) = ((endR W).take n).map (·.1) ++ [p.2.2.1] := take_succ_map ei
    have nin : p.2.2.1 ∉ ((endR W).take n).map (·.1) := by
      have := (List.Sublist.map (·.1) (List.take_sublist (n + 1) (endR W))).nodup en
      rw [hE] at this
      exact fun m => (List.nodup_append.mp this).2.2 _ m _ (List.mem_singleton.mpr rfl) rfl
    rw [List.take_add_one, ei]
    exact tx_st (te.put nin (.str p.1))
  · obtain ⟨s1, td⟩ := q
    rw [ll, List.take_length] at td
    exact k H' s1 td
end LW
namespace LW
open PySem PySem.Spec PyProof.Rows L2 DW
section
variable {P : Program} {w : World} {K : PySem.W.Frag} {mg : Str → Option Value} {base : Heap}
/-! ### draws -/
def spRoll : Sp := fun vs H Q _ => ∃ (a : Addr) (d0 d1 d2 t : Int), vs = [.ref a, .int t] ∧ H a = some (.lst [.int d0, .int d1, .int d2]) ∧ 0 < t ∧ t < 1073741824 ∧
  ∀ r e0 e2 : Int, 0 ≤ r → r < t → Q (.int r) (upd H a (.lst [.int e0, .int d1, .int e2]))
theorem scRoll : FnScope ["dice", "total", "found", "one", "two"] ["dice", "total"] (defScope s_law_roll) := ⟨rfl, rfl, rfl, by decide +kernel, rfl, by decide +kernel, by decide +kernel⟩
theorem fm0 {i j : Int} (h : 0 < j) : 0 ≤ i.fmod j := Int.fmod_nonneg_of_pos i h
theorem fm1 {i j : Int} (h : 0 < j) : i.fmod j < j := Int.fmod_lt_of_pos i h
theorem ok_roll {f : Addr} {fd : FuncData} (F : Fun K "_law_roll" "_law_roll" s_law_roll f fd) : FnOk P w K mg base CX0 1 f fd ["dice", "total"] spRoll := by
  refine F.ok scRoll (fun vs H Q E h => ?_) (fun cdv A outer s H vs Q E hr h => ?_)
  · obtain ⟨a, d0, d1, d2, t, rfl, _⟩ := h
    rfl
  · obtain ⟨a, d0, d1, d2, t, rfl, hA, ht, ht2, k⟩ := h
    refine ⟨_, pss_cons (ps_if (pt_cmpR op_gt (pe_ix ix_list (pv 0) pe_int (fun _ _ => rfl)) pe_int (nomark _))
        (pss_cons (ps_set (i := 2) scRoll.nd rfl (Or.inl rfl) (pe_op op_modN (pe_ix ix_list (pv 0) pe_int (fun _ _ => rfl)) (pv 1)))
        (pss_cons (ps_asg (pe_op op_fdivN (pe_ix ix_list (pv 0) pe_int (fun _ _ => rfl)) (pv 1)) (pg_sub (pv 0) pe_int set_list))
        (pss_one (ps_ret (pv 2))))) pss_nil)
      (pss_cons (ps_asg (pe_op op_add (pe_ix ix_list (pv 0) pe_int (fun _ _ => rfl)) pe_int) (pg_sub (pv 0) pe_int set_list))
      (pss_cons (ps_set (i := 3) scRoll.nd rfl (Or.inl rfl) (pe_op op_modN (pe_op op_add (pe_ix ix_list (pv 0) pe_int (fun _ _ => rfl)) (pe_op op_mul pe_int (pe_ix ix_list (pv 0) pe_int (fun _ _ => rfl)))) pe_int))
      (pss_cons (ps_set (i := 4) scRoll.nd rfl (Or.inl rfl) (pe_op op_add (pe_op op_mul (pe_op op_modN (pe_op op_mul (pv 3) (pv 3)) pe_int) (pv 3)) (pe_op op_mul pe_int (pe_ix ix_list (pv 0) pe_int (fun _ _ => rfl)))))
      (pss_one (ps_ret (pe_op op_modN (pe_op op_fdivN (pe_op op_modN (pe_op op_add (pv 4) (pe_ix ix_list (pv 0) pe_int (fun _ _ => rfl))) pe_int) pe_int) (pv 1))))))), ?_⟩
    have h0 : t ≠ 0 := by omega
    refine ⟨_, rfl, a, _, _, _, rfl, rfl, SqL.of hA, rfl, _, _, rfl, rfl, _, rfl, ite2 (fun _ => ?_) (fun _ => ?_)⟩
    · refine ⟨_, rfl, a, _, _, _, rfl, rfl, SqL.of hA, rfl, _, rfl, _, _, rfl, rfl, h0, ?_⟩
      refine ⟨_, rfl, a, _, _, _, rfl, rfl, SqL.of hA, rfl, _, rfl, _, _, rfl, rfl, ⟨h0, by omega⟩, ?_⟩
      refine ⟨_, rfl, a, _, _, _, rfl, rfl, hA, rfl, ?_⟩
      exact ⟨_, rfl, k _ _ _ (fm0 ht) (fm1 ht)⟩
    · refine ⟨_, rfl, a, _, _, _, rfl, rfl, SqL.of hA, rfl, _, _, rfl, rfl, ?_⟩
      refine ⟨_, rfl, a, _, _, _, rfl, rfl, hA, rfl, ?_⟩
      have hB : upd H a (.lst [.int d0, .int d1, .int (d2 + 1)]) a = some (.lst [.int d0, .int d1, .int (d2 + 1)]) := upd_same
      refine ⟨_, rfl, a, _, _, _, rfl, rfl, SqL.of hB, rfl, _, rfl, a, _, _, _, rfl, rfl, SqL.of hB, rfl, _, _, rfl, rfl, .inl ⟨by decide, by decide⟩, _, _, rfl, rfl, _, _, rfl, rfl, (show (2305843009213693907 : Int) ≠ 0 by decide), ?_⟩
      have b1 := fm0 (i := d1 + 654188429 * (d2 + 1)) (j := 2305843009213693907) (by decide)
      have b2 := fm1 (i := d1 + 654188429 * (d2 + 1)) (j := 2305843009213693907) (by decide)
      have c1 := fm0 (i := (d1 + 654188429 * (d2 + 1)).fmod 2305843009213693907 * (d1 + 654188429 * (d2 + 1)).fmod 2305843009213693907) (j := 1152921504606846871) (by decide)
      have c2 := fm1 (i := (d1 + 654188429 * (d2 + 1)).fmod 2305843009213693907 * (d1 + 654188429 * (d2 + 1)).fmod 2305843009213693907) (j := 1152921504606846871) (by decide)
      refine ⟨_, rfl, _, rfl, _, _, rfl, rfl, .inl ⟨by omega, by omega⟩, _, _, rfl, rfl, (show (1152921504606846871 : Int) ≠ 0 by decide), _, rfl, _, _, rfl, rfl, .inl ⟨by omega, by omega⟩, _, rfl, a, _, _, _, rfl, rfl, SqL.of hB, rfl, _, _, rfl, rfl, .inl ⟨by decide, by decide⟩, _, _, rfl, rfl, ?_⟩
      refine ⟨_, rfl, _, rfl, a, _, _, _, rfl, rfl, SqL.of hB, rfl, _, _, rfl, rfl, _, _, rfl, rfl, (show (8796093022151 : Int) ≠ 0 by decide), _, _, rfl, rfl, ⟨by decide, by decide⟩, _, rfl, _, _, rfl, rfl, h0, ?_⟩
      exact k _ _ _ (fm0 ht) (fm1 ht)
end
local macro_rules | `(tactic| walk_at "k1dice") => `(tactic| (
  refine ⟨_, rfl, _, rfl, _, _, rfl, rfl, ⟨by decide, by decide +kernel⟩, _, _, rfl, rfl, ⟨by decide, by decide +kernel⟩, _, _, rfl, rfl, (show ((10 ^ Int.toNat 60) ^ Int.toNat 10 : Int) ≠ 0 by decide +kernel), ?_⟩
  refine ⟨_, rfl, _, _, rfl, rfl, .inr ⟨by decide, by decide⟩, _, rfl, _, _, rfl, rfl, .inl ⟨by decide, by decide⟩, _, _, rfl, rfl, _, rfl, _, _, rfl, rfl, .inr ⟨_, rfl, _, _, rfl, rfl, .inl ⟨by decide, by decide⟩, _, _, rfl, rfl, _, _, rfl, rfl, ?_⟩⟩
  refine ⟨_, rfl, _, _, rfl, rfl, ⟨by decide, by decide +kernel⟩, _, _, rfl, rfl, _, _, rfl, _, rfl, _, _, rfl, rfl, (show (1152921504606846883 : Int) ≠ 0 by decide), ?_⟩))
section
variable {P : Program} {w : World} {K : PySem.W.Frag} {mg : Str → Option Value} {base : Heap}
def spDice (K : PySem.W.Frag) : Sp := fun vs H Q _ => ∃ (a : Addr) (ns : List Int) (s : Int), vs = [.ref a, .int s] ∧ SqL K H a (ns.map V.int) ∧ 0 ≤ s ∧ s < 1000 ∧
  ∀ (p : Addr) (d0 d1 : Int), H p = none → Q (.ref p) (upd H p (.lst [.int d0, .int d1, .int 0]))
theorem scDice : FnScope ["script", "spot", "cell", "whole", "mixed"] ["script", "spot"] (defScope s_law_dice) := ⟨rfl, rfl, rfl, by decide +kernel, rfl, by decide +kernel, by decide +kernel⟩
theorem ok_dice {f : Addr} {fd : FuncData} (F : Fun K "_law_dice" "_law_dice" s_law_dice f fd) (zL : mg "len" = none) (zI : mg "int" = none) (zA : mg "abs" = none) (zM : mg "max" = none) :
    FnOk P w K mg base CX0 1 f fd ["script", "spot"] (spDice K) := by
  refine F.ok scDice (fun vs H Q E h => ?_) (fun cdv A outer s H vs Q E hr h => ?_)
  · obtain ⟨a, ns, s, rfl, _⟩ := h
    rfl
  · obtain ⟨a, ns, s, rfl, hS, s0, s1, k⟩ := h
    refine ⟨_, pss_cons (ps_set (i := 2) scDice.nd rfl (Or.inl rfl) (pe_ifExp (pt_cmpR op_lt (pv 1) (pe_callB call_len_seq (by rfl) zL PySem.boot_len (pa_cons (pv 0) pa_nil)) (nomark _))
          (pe_callTy call_int1 (by rfl) zI (by decide +kernel) (pa_cons (pe_ix ix_list (pv 0) (pv 1) (fun _ _ => rfl)) pa_nil)) (pe_op op_add (pe_op op_mul pe_int (pv 1)) pe_int)))
      (pss_cons (ps_set (i := 3) scDice.nd rfl (Or.inl rfl) (pe_op op_modN (pe_callB call_abs (by rfl) zA (by decide +kernel) (pa_cons (pv 2) pa_nil)) (pe_op op_powW (pe_op op_powW pe_int pe_int) pe_int)))
      (pss_cons (ps_set (i := 4) scDice.nd rfl (Or.inl rfl) (pe_op op_add (pe_op op_add (pe_op op_add (pe_op op_mul (pv 3) pe_int) (pe_op op_mul pe_int (pv 1))) (pe_op op_mul pe_int (pe_callTy call_int1 (by rfl) zI (by decide +kernel) (pa_cons (pe_cmpR op_lt (pv 2) pe_int (nomark _)) pa_nil)))) pe_int))
      (pss_one (ps_ret (pe_lst (pa_cons (pe_callB (call_max2 rfl) (by rfl) zM (by decide +kernel) (pa_cons pe_int (pa_cons (pe_op op_sub (pv 3) (pe_op op_powW pe_int pe_int)) pa_nil))) (pa_cons (pe_op op_modN (pv 4) pe_int) (pa_cons pe_int pa_nil)))))))), ?_⟩
    refine ⟨_, rfl, _, rfl, a, _, rfl, .inl hS, _, _, rfl, rfl, _, rfl, ite2 (fun h => ?_) (fun h => ?_)⟩
    · obtain ⟨n, rfl⟩ : ∃ n : Nat, s = n := ⟨s.toNat, by omega⟩
      have h : (n : Int) < ((ns.map V.int).length : Nat) := by simpa using h
      have hn : n < ns.length := by rw [List.length_map] at h; omega
      have hg : (ns.map V.int)[n]? = some (V.int ns[n]) := by simp [hn]
      refine ⟨_, rfl, _, rfl, a, _, _, _, rfl, rfl, hS, atI_nat hg, .inl ⟨_, rfl, ?_⟩⟩
      walk_at "k1dice"
      exact ⟨by show 3 ≤ sizeLine; decide, fun p hp => k p _ _ hp⟩
    · refine ⟨_, rfl, _, _, rfl, rfl, .inl ⟨by decide, by decide⟩, _, _, rfl, rfl, ?_⟩
      walk_at "k1dice"
      exact ⟨by show 3 ≤ sizeLine; decide, fun p hp => k p _ _ hp⟩
end
end LW
namespace LW
open PySem PySem.Spec PyProof.Rows L2 DW
/-- all but the dice stays -/
def But (D : Addr) (H H' : Hp) : Prop := ∀ b o, b ≠ D → H b = some o → H' b = some o
def Dc (H : Hp) (D : Addr) : Prop := ∃ d0 d1 d2 : Int, H D = some (.lst [.int d0, .int d1, .int d2])
theorem Same.but {D : Addr} {H H' : Hp} (s : Same H H') : But D H H' := fun b o _ e => s b o e
theorem But.refl {D : Addr} {H : Hp} : But D H H := fun _ _ _ e => e
theorem But.trans {D : Addr} {H H1 H2 : Hp} (x : But D H H1) (y : But D H1 H2) : But D H H2 := fun b o n e => y b o n (x b o n e)
theorem But.upd {D : Addr} {H : Hp} {o : HO} : But D H (upd H D o) := fun b u n e => by rw [upd_ne n]; exact e
theorem Dc.same {D : Addr} {H H' : Hp} (s : Same H H') (h : Dc H D) : Dc H' D := by
  obtain ⟨a, b, c, e⟩ := h
  exact ⟨a, b, c, s _ _ e⟩
theorem new_ne {H : Hp} {D p : Addr} (hD : Dc H D) (hp : H p = none) : p ≠ D := by
  obtain ⟨d0, d1, d2, e⟩ := hD
  rintro rfl
  rw [hp] at e
  cases e
section
variable {P : Program} {w : World} {K : PySem.W.Frag} {mg : Str → Option Value} {base : Heap}
def spPick (K : PySem.W.Frag) : Sp := fun vs H Q _ => ∃ (D : Addr) (v : V), vs = [.ref D, v] ∧ Dc H D ∧
  ((∃ p xs, v = .ref p ∧ p ≠ D ∧ H p = some (.lst xs) ∧ 0 < xs.length ∧ xs.length < 1000 ∧ ∀ u H', u ∈ xs → But D H H' → Dc H' D → Q u H') ∨
   (∃ z : Str, v = .str z ∧ 0 < z.length ∧ z.length < 1000 ∧ ∀ c H', c ∈ z.cps.toList → But D H H' → Dc H' D → Q (.str ⟨#[c]⟩) H'))
theorem scPick : FnScope ["dice", "items"] ["dice", "items"] (defScope s_law_pick) := ⟨rfl, rfl, rfl, by decide +kernel, rfl, by decide +kernel, by decide +kernel⟩
theorem ok_pick {f fR : Addr} {fd fdR : FuncData} (F : Fun K "_law_pick" "_law_pick" s_law_pick f fd) (FR : Fun K "_law_roll" "_law_roll" s_law_roll fR fdR) (bR : Binds K fdR ["dice", "total"] []) (gR : mg "_law_roll" = some (.ref fR)) (zL : mg "len" = none) :
    FnOk P w K mg base CX0 2 f fd ["dice", "items"] (spPick K) := by
  have GR : FnOk P w K mg base CX0 1 fR fdR ["dice", "total"] spRoll := ok_roll FR
  refine F.ok scPick (fun vs H Q E h => ?_) (fun cdv A outer s H vs Q E hr h => ?_)
  · obtain ⟨D, v, rfl, _⟩ := h
    rfl
  · obtain ⟨D, v, rfl, ⟨d0, d1, d2, eD⟩, h⟩ := h
    refine ⟨_, pss_one (ps_ret (pe_ix ix_seq (pv 1) (pe_call GR hr rfl gR FR.kp bR .nil pass0 (pa_cons (pv 0) (pa_cons (pe_callB call_len (by rfl) zL PySem.boot_len (pa_cons (pv 1) pa_nil)) pa_nil))) (fun _ _ => rfl))), ?_⟩
    rcases h with ⟨p, xs, rfl, ne, hp, l0, l1, k⟩ | ⟨z, rfl, l0, l1, k⟩
    · refine ⟨_, rfl, _, rfl, _, rfl, _, xs.length, rfl, .inl ⟨xs, SqL.of hp, rfl⟩, D, d0, d1, d2, _, rfl, eD, by omega, by omega, fun r e0 e2 r0 r1 => .inl ?_⟩
      obtain ⟨n, rfl⟩ : ∃ n : Nat, r = n := ⟨r.toNat, by omega⟩
      have hn : n < xs.length := by omega
      have hg : xs[n]? = some xs[n] := List.getElem?_eq_getElem hn
      exact ⟨p, xs, _, _, rfl, rfl, SqL.of (by rw [upd_ne ne]; exact hp), atI_nat hg, k _ _ (List.mem_of_getElem? hg) But.upd ⟨e0, d1, e2, upd_same⟩⟩
    · have hzs : z.length ≤ sizeLine := by rw [sizeLine_eq]; omega
      refine ⟨_, rfl, _, rfl, _, rfl, _, z.length, rfl, ⟨hzs, rfl⟩, D, d0, d1, d2, _, rfl, eD, by omega, by omega, fun r e0 e2 r0 r1 => .inr (.inr ?_)⟩
      obtain ⟨n, rfl⟩ : ∃ n : Nat, r = n := ⟨r.toNat, by omega⟩
      have hl : z.cps.toList.length = z.length := by simp [Str.length]
      have hn : n < z.cps.toList.length := by omega
      have hg : z.cps.toList[n]? = some z.cps.toList[n] := List.getElem?_eq_getElem hn
      exact ⟨z, _, _, rfl, rfl, hzs, atI_nat hg, k _ _ (List.mem_of_getElem? hg) But.upd ⟨e0, d1, e2, upd_same⟩⟩
/-- a roll, by the dice alone -/
theorem sp_roll {H : Hp} {D : Addr} {t : Int} {Q : VK} {E : XK} (hD : Dc H D) (h0 : 0 < t) (h1 : t < 1000) (k : ∀ (r : Int) H', 0 ≤ r → r < t → But D H H' → Dc H' D → Q (.int r) H') : spRoll [.ref D, .int t] H Q E := by
  obtain ⟨d0, d1, d2, e⟩ := hD
  exact ⟨D, d0, d1, d2, t, rfl, e, h0, by omega, fun r e0 e2 r0 r1 => k r _ r0 r1 But.upd ⟨e0, d1, e2, upd_same⟩⟩
/-- a text that may be drawn -/
def Gt (n : Nat) (z : Str) : Prop := z.length ≤ n ∧ ∀ c ∈ z.cps.toList, c < 0x110000
end
end LW
namespace LW
open PySem PySem.Spec PyProof.Rows L2 DW
section
variable {P : Program} {w : World} {K : PySem.W.Frag} {mg : Str → Option Value} {base : Heap}
theorem scShuf : FnScope ["dice", "items", "heap", "turn"] ["dice", "items"] (defScope s_law_shuffled) := ⟨rfl, rfl, rfl, by decide +kernel, rfl, by decide +kernel, by decide +kernel⟩
def spShuf : Sp := fun vs H Q _ => ∃ (D p : Addr) (ys : List V), vs = [.ref D, .ref p] ∧ Dc H D ∧ p ≠ D ∧ H p = some (.lst ys) ∧ ys.length ≤ 1000 ∧
  ∀ (L : Addr) (zs : List V) H', L ≠ D → H' L = some (.lst zs) → zs.Perm ys → But D H H' → Dc H' D → Q (.ref L) H'
abbrev tPopR (K : PySem.W.Frag) : TE := tBM K "list" rPopAt (tVar 2) (tCons (tCall spRoll [] E0 (tCons (tVar 0) (tCons (tCB (fun xs H Q => ∃ p ys, xs = [.ref p] ∧ (SqL K H p ys ∨ SqT K H p ys) ∧ Q (.int ys.length) H) (tCons (tVar 2) tNil)) tNil))) tNil)
theorem perm_erase {α : Type} : ∀ (l : List α) (i : Nat) (h : i < l.length), (l[i] :: l.eraseIdx i).Perm l
  | [], _, h => absurd h (by simp)
  | _ :: _, 0, _ => List.Perm.refl _
  | a :: l, i + 1, h => by
    show (l[i]'_ :: a :: l.eraseIdx i).Perm (a :: l)
    exact (List.Perm.swap a _ _).trans ((perm_erase l i (by simpa using h)).cons a)
theorem seq_at {r : Int} {n : Nat} (h0 : 0 ≤ r) (h1 : r < n) : seqIndex? r n = some r.toNat := by
  unfold seqIndex?
  have e : ¬ r < 0 := by omega
  simp only [e, if_false]
  rw [if_pos (by rw [Bool.and_eq_true, decide_eq_true_eq, decide_eq_true_eq]; exact ⟨h0, h1⟩)]
theorem rd_shuf {H0 H : Hp} {D p h : Addr} {ys : List V} {x3 : Option V} {Q : VK} (b0 : But D H0 H) (nh : H0 h = none) (hD : Dc H D) (neh : h ≠ D) (hp : H p = some (.lst ys)) (hh : H h = some (.lst ys)) (hl : ys.length ≤ 1000)
    (k : ∀ (L : Addr) (zs : List V) H', L ≠ D → H' L = some (.lst zs) → zs.Perm ys → But D H0 H' → Dc H' D → Q (.ref L) H') :
    tLc (iRng1 (tCons (tCB (fun xs H Q => ∃ p ys, xs = [.ref p] ∧ (SqL K H p ys ∨ SqT K H p ys) ∧ Q (.int ys.length) H) (tCons (tVar 1) tNil)) tNil)) (gName 3) tYes (tPopR K) [3] [some (.ref D), some (.ref p), some (.ref h), x3] H Q := by
  refine ⟨_, rfl, p, _, rfl, .inl (SqL.of hp), _, rfl, by omega, by omega, fun L nL => ?_⟩
  have neD := new_ne hD nL
  have neh2 : L ≠ h := fun e => by rw [e, hh] at nL; cases nL
  have en : ((ys.length : Nat) : Int).toNat = ys.length := by omega
  rw [en]
  have nL0 : ∀ q o, q ≠ D → H0 q = some o → q ≠ L := fun q o hq e z => by
    have w := b0 q o hq e
    rw [z, nL] at w
    cases w
  refine lc_range (lo := 0) (n := ys.length) (fun i H' => But D H0 H' ∧ Dc H' D ∧ ∃ hs zs : List V, H' h = some (.lst hs) ∧ hs.length + i = ys.length ∧ (hs ++ zs).Perm ys ∧ H' L = some (.lst zs) ∧ zs.length = i)
    ⟨b0.trans (Same.but (same_new nL)), hD.same (same_new nL), ys, [], by rw [upd_ne (Ne.symm neh2)]; exact hh, rfl, by simp, upd_same, rfl⟩ (fun i H' hi q => ⟨rfl, tyes ?_⟩) (fun H' q => ?_)
  · obtain ⟨b, ⟨d0, d1, d2, eD⟩, hs, zs, e1, e2, e3, e4, e5⟩ := q
    have pos : 0 < hs.length := by omega
    refine ⟨_, rfl, .inl ⟨rfl, _, SqL.of e1⟩, _, rfl, _, rfl, h, _, rfl, .inl (SqL.of e1), D, d0, d1, d2, _, rfl, eD, by omega, by omega, fun r f0 f2 r0 r1 => ?_⟩
    have hk : r.toNat < hs.length := by omega
    have e1' : upd H' D (.lst [.int f0, .int d1, .int f2]) h = some (.lst hs) := by rw [upd_ne neh]; exact e1
    refine ⟨h, hs, r, r.toNat, hs[r.toNat], rfl, rfl, e1', by omega, by omega, seq_at r0 r1, List.getElem?_eq_getElem hk, ?_⟩
    refine ⟨zs, by rw [upd_ne neh2, upd_ne neD]; exact e4, by rw [sizeLine_eq]; omega, ?_, ?_, hs.eraseIdx r.toNat, zs ++ [hs[r.toNat]], ?_, ?_, ?_, ?_, ?_⟩
    · intro q o hq e
      rw [upd_ne (nL0 q o hq e), upd_ne (ne_of_none e nh), upd_ne hq]
      exact b q o hq e
    · exact ⟨f0, d1, f2, by rw [upd_ne (Ne.symm neD), upd_ne (Ne.symm neh), upd_same]⟩
    · rw [upd_ne (Ne.symm neh2), upd_same]
    · rw [List.length_eraseIdx_of_lt hk]
      omega
    · refine List.Perm.trans ?_ e3
      rw [← List.append_assoc]
      refine (List.perm_append_comm (l₁ := hs.eraseIdx r.toNat ++ zs)).trans ?_
      show (hs[r.toNat] :: (hs.eraseIdx r.toNat ++ zs)).Perm _
      exact (perm_erase hs _ hk).append_right zs
    · exact upd_same
    · rw [List.length_append, e5]
      rfl
  · obtain ⟨b, d, hs, zs, _, e2, e3, e4, e5⟩ := q
    have z : hs = [] := List.length_eq_zero_iff.mp (by omega)
    subst z
    exact k L zs H' neD e4 e3 b d
theorem ok_shuf {f fR : Addr} {fd dR : FuncData} (F : Fun K "_law_shuffled" "_law_shuffled" s_law_shuffled f fd) (GR : FnOk P w K mg base CX0 1 fR dR ["dice", "total"] spRoll) (kR : PySem.W.keepIn K (.ref fR) = true) (bR : Binds K dR ["dice", "total"] []) (gR : mg "_law_roll" = some (.ref fR))
    (zL : mg "list" = none) (zR : mg "range" = none) (zN : mg "len" = none) : FnOk P w K mg base CX0 2 f fd ["dice", "items"] spShuf := by
  refine F.ok scShuf (fun vs H Q E h => ?_) (fun cdv A outer s H vs Q E hr h => ?_)
  · obtain ⟨D, p, ys, rfl, _⟩ := h
    rfl
  · obtain ⟨D, p, ys, rfl, hD, np, hp, hl, k⟩ := h
    refine ⟨_, pss_cons (ps_set (i := 2) scShuf.nd rfl (Or.inr rfl) (pe_callTy call_list_of (by rfl) zL (by decide +kernel) (pa_cons (pv 1) pa_nil)))
      (pss_one (ps_ret (pe_lc (own := [("turn", 3)]) (g := gName 3) (tt := tYes) rfl scShuf.nd (pi_range1 rfl zR (pa_cons (pe_callB call_len_seq (by rfl) zN PySem.boot_len (pa_cons (pv 1) pa_nil)) pa_nil))
          (blkOk_by (own := [("turn", 3)]) (N := ["dice", "items", "heap", "turn"]) (sc := defScope s_law_shuffled) (by decide +kernel)) (fun _ _ _ _ _ => pg_name (i := 3) scShuf.nd rfl (Or.inl rfl)) (fun _ _ _ _ _ => pts_nil)
          (te := tPopR K)
          (fun _ _ _ _ _ => pe_bm PySem.F.plainAttrs_list PySem.F.slot_list_pop PySem.F.type_list_pop mt_popAt (pv 2) (pa_cons (pe_call GR hr rfl gR kR bR .nil pass0 (pa_cons (pv 0) (pa_cons (pe_callB call_len_seq (by rfl) zN PySem.boot_len (pa_cons (pv 2) pa_nil)) pa_nil))) pa_nil))))), ?_⟩
    refine ⟨_, rfl, p, _, rfl, .inl (SqL.of hp), fun h nh => ?_⟩
    have s1 := same_new (o := .lst ys) nh
    exact rd_shuf (K := K) (Same.but s1) nh (hD.same s1) (new_ne hD nh) (s1 _ _ hp) upd_same hl k
end
end LW
namespace DW
open PySem PySem.Spec PyProof.Rows L2 PySem.W
/-! ### tuple(d), the keys -/
section
variable {prog : Program} {w : World} {A : Around} {E : Value → Shared → Prop} {s : Shared} {r d : Addr} {n : Nat} {Pv : Nat → Value → Prop} {OK : Heap → Prop}
theorem code_tuple_dict {Q₁ : Value → Shared → Prop} (S : KdlSrc prog w "dict" r d n Pv OK) (hh : A.handled = none) (hok : OK s.heap) (hn : n ≤ sizeLine)
    (h : ∀ (h' : Heap) (tk : Nat) (acc : Array Value), (∀ b o, s.heap.get? b = some o → h'.get? b = some o) → ItemsOf Pv acc n →
      Q₁ (.ref h'.objs.size) { s with heap := h'.push { cls := .type "tuple", data := .seq acc }, toks := tk }) :
    codeAny (model prog w) A (.call (.builtin "tuple.__new__") ⟨[.type "tuple", .ref r], []⟩) (wants Q₁ E) s := by
  refine codeAny_of_tree ?_
  show wpAny _ A.in1 (do checkBuiltinCall "tuple.__new__" ⟨[.type "tuple", .ref r], []⟩; again (.builtin "tuple.__new__" ⟨[.type "tuple", .ref r], []⟩)) _ _ s
  refine wpAny_bind (wpAny_of_eq (F.newCall_tuple_1 _) (wpAny_pure ⟨plainId_quiet F.plain_tuple_new _, codeAny_builtin F.entry_tuple_new ?_⟩))
  rw [Around.under_plainId F.plain_tuple_new _]
  have hsub := sub_tuple_self
  have hinit := init_tuple_lookup
  have hmh := madeHere_tuple
  have hTI : s.TypeIs (.ref r) "dict" := S.type _ hok
  have hh1 : A.in1.handled = none := hh
  wp_walk using wpAny_typeOf hTI, kdu_collect (A := A.in1) S hh1 hok hn
  intro h' tk acc hk hacc
  show wpAny _ _ (Builtin.Tuple.tupleExact acc.toList.toArray >>= fun v => ret v) _ _ _
  unfold Builtin.Tuple.tupleExact
  refine wpAny_bind (wpAny_newObj_type ?_ (by show acc.toList.toArray.size ≤ sizeLine; simp only [Array.toArray_toList]; rw [hacc.1]; exact hn))
  refine wpAny_pure ?_
  have e : acc.toList.toArray = acc := by simp
  rw [e]
  exact h h' tk acc hk hacc
theorem call_tuple_dict {Q : Value → Shared → Prop} (S : KdlSrc prog w "dict" r d n Pv OK) (hh : A.handled = none) (hok : OK s.heap) (hn : n ≤ sizeLine)
    (hQ : ∀ (h' : Heap) (tk : Nat) (acc : Array Value), (∀ b o, s.heap.get? b = some o → h'.get? b = some o) → ItemsOf Pv acc n →
      Q (.ref h'.objs.size) { s with heap := h'.push { cls := .type "tuple", data := .seq acc }, toks := tk }) :
    wpAny (model prog w) A (call (.type "tuple") [.ref r]) Q E s := by
  refine callType_codes (Q₁ := fun obj s₁ => s₁.TypeIs obj "tuple" ∧ Q obj s₁) F.called_tuple (F.typeCall_tuple_1 _) F.entry_object_init
    (code_tuple_dict (A := A.in1) S hh hok hn fun h' tk acc hk hacc => ⟨⟨_, Heap.get?_push_size _ rfl, rfl⟩, hQ h' tk acc hk hacc⟩) fun obj s₁ h₁ => ?_
  exact ⟨h₁.1, F.args_object_init_2 obj _, object_init_meets F.called_tuple.init.lookup F.called_tuple.made (by decide) prog w A.in1 _ s₁ ⟨h₁.1, rfl, h₁.2⟩⟩
end
section
variable {X : Cx}
theorem call_tupD (hc : X.calm = true) : CallR X (.type "tuple") (fun xs H Q => ∃ (a : Addr) (kvs : List (Key × V)), xs = [.ref a] ∧ Rd H a (.dK kvs) ∧ ∀ p, H p = none → Q (.ref p) (upd H p (.tup (kvs.map fun kv => kV kv.1)))) := by
  intro pins s σ H xs us Q I r q
  obtain ⟨a, kvs, ex, hd, q⟩ := q
  subst ex
  obtain ⟨u, eu, rx⟩ := vals1 r
  subst eu
  cases rx
  obtain ⟨z, lo, vs, rel, dd⟩ := dk_rd I.hok hd
  obtain ⟨ep, hat⟩ := dd.dictAt
  have ek : (kvs.map fun kv => kV kv.1) = vs.map fun p => kV p.1 := by
    have e := congrArg (List.map kV) rel.keys
    rw [List.map_map, List.map_map] at e
    exact e
  refine call_tuple_dict (kdl_dict (knd := mixKind X.prog X.w) (kvs := vs) (ep := ep) lo) (I.ok.hd hc) hat (by rw [← rel.length]; exact z) fun h' tk acc hk hacc => ?_
  have hv : Vals (vs.map fun p => kV p.1) acc.toList := keys_at (by rw [Array.length_toList]; exact hacc.1) fun j v e => hacc.2 j v (by rw [← Array.getElem?_toList]; exact e)
  have I1 : Inv X pins σ H { s with heap := h', toks := tk } := I.kept hk
  refine ⟨.ref h'.objs.size, upd H h'.objs.size (.tup (kvs.map fun kv => kV kv.1)), I1.laid (t' := tk) (fun b o e => Heap.get?_push_of_some _ e) (Nat.le_refl _) ?_, rfl, q _ (I1.hok.fresh (Nat.le_refl _))⟩
  exact ⟨by rw [List.length_map]; exact z, acc.toList, by rw [ek]; exact hv, by rw [Array.toArray_toList]; exact IsTup.new _ _⟩
theorem kt_addrs {H : Hp} {kvs : List (List Key × V)} {ys : List (List Key × Addr × Value)} (rel : KT H kvs ys) : Paired (fun (b : Addr) (kv : List Key × V) => H b = some (.tup (kv.1.map kV))) (ys.map fun y => y.2.1) kvs := by
  induction rel with
  | nil => exact .nil
  | cons h t ih =>
    obtain ⟨e1, e2, _⟩ := h
    exact .cons e2 ih
/-- .. the keys tuples -/
theorem call_tupDT (hc : X.calm = true) : CallR X (.type "tuple") (fun xs H Q => ∃ (a : Addr) (kvs : List (List Key × V)), xs = [.ref a] ∧ Rd H a (.dT kvs) ∧ ∀ (bs : List Addr) (p : Addr), Paired (fun (b : Addr) (kv : List Key × V) => H b = some (.tup (kv.1.map kV))) bs kvs → H p = none → Q (.ref p) (upd H p (.tup (bs.map V.ref)))) := by
  intro pins s σ H xs us Q I r q
  obtain ⟨a, kvs, ex, hd, q⟩ := q
  subst ex
  obtain ⟨u, eu, rx⟩ := vals1 r
  subst eu
  cases rx
  obtain ⟨z, notSys, ys, rel, o, es, ep, ho, hx, hdat, ents, nd⟩ := (show ObjOk X.prog X.w H s.heap a (.dT kvs) from hd.ok I.hok)
  have l1 : es.size = ys.length := by rw [← Array.length_toList, ents, List.length_map]
  have l2 : kvs.length = ys.length := Paired.length rel
  refine call_tuple_dict (kdl_raw notSys hx hdat) (I.ok.hd hc) ho (by rw [l1, ← l2]; exact z) fun h' tk acc old its => ?_
  have ea : acc.toList = (ys.map fun y => y.2.1).map Value.ref := by
    have len : acc.toList.length = ys.length := by rw [Array.length_toList, its.1]; exact l1
    rw [List.map_map]
    apply List.ext_getElem?
    intro j
    rw [List.getElem?_map]
    cases hj : acc.toList[j]? with
    | none =>
      have h1 := List.getElem?_eq_none_iff.mp hj
      rw [List.getElem?_eq_none (by omega)]
      rfl
    | some v =>
      obtain ⟨en, hen, hv⟩ := its.2 j v (by rw [← Array.getElem?_toList]; exact hj)
      have qe : es.toList[j]? = some en := by rw [Array.getElem?_toList]; exact hen
      rw [ents, List.getElem?_map] at qe
      cases hb : ys[j]? with
      | none => rw [hb] at qe; cases qe
      | some b =>
        rw [hb] at qe
        have e2 : entryOfKey (tupleKind (mixKind X.prog X.w)) b = en := Option.some.inj qe
        rw [hv, ← e2]
        rfl
  have I1 : Inv X pins σ H { s with heap := h', toks := tk } := I.kept old
  have pr := kt_addrs rel
  refine ⟨.ref h'.objs.size, upd H h'.objs.size (.tup ((ys.map fun y => y.2.1).map V.ref)), I1.laid (t' := tk) (fun b o e => Heap.get?_push_of_some _ e) (Nat.le_refl _) ?_, rfl, q _ _ pr (I1.hok.fresh (Nat.le_refl _))⟩
  refine ⟨by rw [List.length_map, List.length_map, ← l2]; exact z, acc.toList, by rw [ea]; exact vals_refs _, by rw [Array.toArray_toList]; exact IsTup.new _ _⟩
end
end DW
namespace LW
open PySem PySem.Spec PyProof.Rows L2 DW
def sortN (D : PlainD) : PlainD := ⟨srtR D.L, srtR D.W, srtR D.B⟩
abbrev netF (la wa ba ea ra : Addr) : List (Str × V) := [("_lasts", .ref la), ("_works", .ref wa), ("_bounds", .ref ba), ("_ended", .ref ea), ("_rows", .ref ra)]
def endW (W : Ws) : Es := W.map fun p => (p.2.2.1, p.1)
/-- a net at x -/
def NetAt (K : PySem.W.Frag) (C : Addr) (H : Hp) (x : Addr) (D : PlainD) : Prop := ∃ (dx la wa ba ea ra : Addr), H x = some (.ins C dx (netF la wa ba ea ra)) ∧ TD inD K H la D.L ∧ TD wkD K H wa D.W ∧ TD bdD K H ba D.B ∧ TD stD K H ea (endW D.W) ∧ TT K H ra (toldR D)
theorem NetAt.same {K : PySem.W.Frag} {C : Addr} {H H' : Hp} {x : Addr} {D : PlainD} (s : Same H H') (h : NetAt K C H x D) : NetAt K C H' x D := by
  obtain ⟨dx, la, wa, ba, ea, ra, h1, h2, h3, h4, h5, h6⟩ := h
  exact ⟨dx, la, wa, ba, ea, ra, s _ _ h1, h2.same s, h3.same s, h4.same s, h5.same s, h6.same s⟩
theorem srtR_perm {α : Type} {rs : List (Str × α)} (nd : (rs.map (·.1)).Nodup) : (srtR rs).Perm rs := by
  have key : ∀ {l m : List (Str × α)}, (l.map (·.1)).Nodup → (m.map (·.1)).Nodup → (∀ p, p ∈ l ↔ p ∈ m) → l.Perm m := by
    intro l
    induction l with
    | nil =>
      intro m _ _ h
      cases m with
      | nil => exact .nil
      | cons y m => exact absurd ((h y).mpr (List.mem_cons_self ..)) (by simp)
    | cons x l ih =>
      intro m hl hm h
      obtain ⟨m1, m2, rfl⟩ := List.append_of_mem ((h x).mp (List.mem_cons_self ..))
      have p1 : (m1 ++ x :: m2).Perm (x :: (m1 ++ m2)) := List.perm_middle
      refine .trans (.cons x ?_) p1.symm
      have hm2 := (p1.map (·.1)).nodup_iff.mp hm
      rw [List.map_cons, List.nodup_cons] at hm2 hl
      refine ih hl.2 hm2.2 fun p => ?_
      constructor
      · intro q
        have z := p1.mem_iff.mp ((h p).mp (List.mem_cons_of_mem _ q))
        refine (List.mem_cons.mp z).resolve_left fun e => hl.1 ?_
        subst e
        exact List.mem_map.mpr ⟨_, q, rfl⟩
      · intro q
        have z := (h p).mpr (p1.mem_iff.mpr (List.mem_cons_of_mem _ q))
        refine (List.mem_cons.mp z).resolve_left fun e => hm2.1 ?_
        subst e
        exact List.mem_map.mpr ⟨_, q, rfl⟩
  exact key (srtR_nodup nd) nd fun p => srtR_mem nd
theorem knownB_sort {L : Ls} (nd : (L.map (·.1)).Nodup) (z : Str) : knownB (srtR L) z = knownB L z := by
  unfold knownB
  rw [srtR_names]
  congr 1
  by_cases m : z ∈ L.map (·.1)
  · rw [decide_eq_true m, decide_eq_true (srt_mem.mpr m)]
  · rw [decide_eq_false m, decide_eq_false fun q => m (srt_mem.mp q)]
theorem OkN.sort {D : PlainD} (ok : OkN D) : OkN (sortN D) where
  l := ⟨srtR_nodup ok.l.nd, by rw [show (sortN D).L = srtR D.L from rfl, srtR_len]; exact ok.l.len, fun p m => ok.l.name p ((srtR_mem ok.l.nd).mp m), fun p m => ok.l.tick p ((srtR_mem ok.l.nd).mp m)⟩
  w := by
    refine ⟨srtR_nodup ok.w.nd, by rw [show (sortN D).W = srtR D.W from rfl, srtR_len]; exact ok.w.len, fun p m => ok.w.name p ((srtR_mem ok.w.nd).mp m), fun p m => ?_, ?_, ?_, fun p m q n => ok.w.look p ((srtR_mem ok.w.nd).mp m) q ((srtR_mem ok.w.nd).mp n)⟩
    · have z := ok.w.wk p ((srtR_mem ok.w.nd).mp m)
      exact ⟨(knownB_sort ok.l.nd _).trans z.b, (knownB_sort ok.l.nd _).trans z.e, z.ne, z.be, z.l, z.lm, z.m, z.k⟩
    · exact ((srtR_perm ok.w.nd).map fun p => p.2.2.1).nodup_iff.mpr ok.w.ends
    · obtain ⟨r, hr⟩ := ok.w.rank
      exact ⟨r, fun p m => hr p ((srtR_mem ok.w.nd).mp m)⟩
  b := by
    refine ⟨srtR_nodup ok.b.nd, by rw [show (sortN D).B = srtR D.B from rfl, srtR_len]; exact ok.b.len, fun p m => ok.b.name p ((srtR_mem ok.b.nd).mp m), fun p m => ?_⟩
    have z := ok.b.bd p ((srtR_mem ok.b.nd).mp m)
    exact ⟨(knownB_sort ok.l.nd _).trans z.f, (knownB_sort ok.l.nd _).trans z.s, z.ne, z.m⟩
section
variable {α : Type} {enc : α → PyData} {K : PySem.W.Frag} {H H' : Hp} {x C dx a : Addr} {fs : List (Str × V)} {rs : List (Str × α)} {v : V}
theorem sk_but (hx : H x = some (.ins C dx fs)) (b : But x H H') : Sk H H' := by
  have ne : ∀ c o, Rd H c o → (∀ y, o ≠ .ins C dx y) → c ≠ x := fun c o r n e => by
    subst e
    rcases r with r | ⟨z, r⟩
    · rw [hx] at r; cases r; exact n _ rfl
    · rw [hx] at r; cases r
  refine ⟨fun c xs r => ?_, fun c xs r => ?_⟩
  · have nc := ne c _ r fun y z => nomatch z
    exact r.elim (fun r => .inl (b _ _ nc r)) fun ⟨z, r⟩ => .inr ⟨z, b _ _ nc r⟩
  · have nc := ne c _ r fun y z => nomatch z
    exact r.elim (fun r => .inl (b _ _ nc r)) fun ⟨z, r⟩ => .inr ⟨z, b _ _ nc r⟩
theorem td_but (hx : H x = some (.ins C dx fs)) (b : But x H H') (h : TD enc K H a rs) : TD enc K H' a rs := by
  obtain ⟨kvs, e, t⟩ := h
  exact ⟨kvs, b _ _ (ne_of e hx (fun z => nomatch z)) e, t.sk (sk_but hx b)⟩
theorem lot_but (hx : H x = some (.ins C dx fs)) (b : But x H H') (h : Lot enc K H v rs) : Lot enc K H' v rs := by
  rcases h with ⟨a, rfl, t⟩ | ⟨rfl, t, rfl, ht⟩
  · exact .inl ⟨a, rfl, td_but hx b t⟩
  · exact .inr ⟨rfl, t, rfl, sqT_sk (sk_but hx b) ht⟩
theorem tt_but {d : Addr} {rows : List RowP} (hx : H x = some (.ins C dx fs)) (b : But x H H') (h : TT K H d rows) : TT K H' d rows := by
  obtain ⟨kt, e, t⟩ := h
  exact ⟨kt, b _ _ (ne_of e hx (fun z => nomatch z)) e, t.tk (sk_but hx b).2⟩
end
section
variable {P : Program} {w : World} {K : PySem.W.Frag} {mg : Str → Option Value} {base : Heap}
abbrev iniN : List Str := ["self", "lasts", "works", "bounds", "fault", "name"]
theorem scIni : FnScope iniN ["self", "lasts", "works", "bounds"] (defScope m_Net_init) := ⟨rfl, rfl, rfl, by decide +kernel, rfl, by decide +kernel, by decide +kernel⟩
def spNet (K : PySem.W.Frag) (C : Addr) : Sp := fun vs H Q _ => ∃ (x dx a : Addr) (v u : V) (D : PlainD), vs = [.ref x, .ref a, v, u] ∧ H x = some (.ins C dx []) ∧ TD inD K H a D.L ∧ Lot wkD K H v D.W ∧ Lot bdD K H u D.B ∧ OkN D ∧ ∀ H', But x H H' → NetAt K C H' x (sortN D) → Q .non H'
structure NetK (K : PySem.W.Frag) (C : Addr) : Prop where
  c : Cls K C
  l : NoAttr K C "_lasts"
  w : NoAttr K C "_works"
  b : NoAttr K C "_bounds"
  e : NoAttr K C "_ended"
  r : NoAttr K C "_rows"
theorem ok_init {f fN fT C : Addr} {fd dN dT : FuncData} {dvs : List V} {kws : List (Str × V)} (F : FunD K "__init__" "Net.__init__" (defArgs m_Net_init) (defBody m_Net_init) (defScope m_Net_init) dvs kws f fd) (CN : Cal P w K mg base 5 "net_fault" ["lasts", "works", "bounds"] (spNF K) fN dN)
    (CT : Cal P w K mg base 1 "_told_rows" ["lasts", "works", "bounds"] (spTold K) fT dT) (N : NetK K C) (zS : mg "sorted" = none) : FnOk P w K mg base CX0 6 f fd ["self", "lasts", "works", "bounds"] (spNet K C) := by
  refine F.ok scIni (fun vs H Q E h => ?_) (fun cdv A outer s H vs Q E hr h => ?_)
  · obtain ⟨x, dx, a, v, u, D, rfl, _⟩ := h
    rfl
  obtain ⟨x, dx, a, v, u, D, rfl, hx, td, tw, tb, ok, k⟩ := h
  refine ⟨_, pss_cons (ps_set (i := 4) scIni.nd rfl (Or.inl rfl) (pe_cal (E := E0) CN hr rfl (pa_cons (pv 1) (pa_cons (pv 2) (pa_cons (pv 3) pa_nil)))))
    (pss_cons (ps_if (pt_cmp (pc_notN (pv 4))) dead pss_nil)
    (pss_cons (ps_fld (pv 0) (pe_dc (own := [("name", 5)]) (g := gName 5) (tt := tYes) rfl scIni.nd (pi_list (pe_callB (cr_srtL rfl hr.units) (by rfl) zS (by decide +kernel) (pa_cons (pv 1) pa_nil))) (blkOk_by (own := [("name", 5)]) (N := iniN) (sc := defScope m_Net_init) (by decide +kernel))
        (fun _ _ _ _ _ => pg_name (i := 5) scIni.nd rfl (Or.inl rfl)) (fun _ _ _ _ _ => pts_nil) (fun _ _ _ _ _ => pv 5) (fun _ _ _ _ _ => pe_dget (hu_of hr) (pv 1) (pv 5) (fun _ _ => rfl))) rfl)
    (pss_cons (ps_fld (pv 0) (pe_dc (own := [("name", 5)]) (g := gName 5) (tt := tYes) rfl scIni.nd (pi_list (pe_callB (cr_srtL rfl hr.units) (by rfl) zS (by decide +kernel) (pa_cons (pv 2) pa_nil))) (blkOk_by (own := [("name", 5)]) (N := iniN) (sc := defScope m_Net_init) (by decide +kernel))
        (fun _ _ _ _ _ => pg_name (i := 5) scIni.nd rfl (Or.inl rfl)) (fun _ _ _ _ _ => pts_nil) (fun _ _ _ _ _ => pv 5) (fun _ _ _ _ _ => pe_dget (hu_of hr) (pv 2) (pv 5) (fun _ _ => rfl))) rfl)
    (pss_cons (ps_fld (pv 0) (pe_dc (own := [("name", 5)]) (g := gName 5) (tt := tYes) rfl scIni.nd (pi_list (pe_callB (cr_srtL rfl hr.units) (by rfl) zS (by decide +kernel) (pa_cons (pv 3) pa_nil))) (blkOk_by (own := [("name", 5)]) (N := iniN) (sc := defScope m_Net_init) (by decide +kernel))
        (fun _ _ _ _ _ => pg_name (i := 5) scIni.nd rfl (Or.inl rfl)) (fun _ _ _ _ _ => pts_nil) (fun _ _ _ _ _ => pv 5) (fun _ _ _ _ _ => pe_dget (hu_of hr) (pv 3) (pv 5) (fun _ _ => rfl))) rfl)
    (pss_cons (ps_fld (pv 0) (pe_lock (pe_dc (own := [("name", 5)]) (g := gName 5) (tt := tYes) (tk := tOp (rIxT K) (tDGet (tFld K (tVar 0) "_works") (tVar 5)) (tC (.int 1))) rfl scIni.nd (pi_keys (pe_fld (pv 0) rfl)) (blkOk_by (own := [("name", 5)]) (N := iniN) (sc := defScope m_Net_init) (by decide +kernel))
        (fun _ _ _ _ _ => pg_name (i := 5) scIni.nd rfl (Or.inl rfl)) (fun _ _ _ _ _ => pts_nil) (fun _ _ _ _ _ => pe_ix (r := rIxT K) ix_tup (pe_dget (hu_of hr) (pe_fld (pv 0) rfl) (pv 5) (fun _ _ => rfl)) pe_int (fun _ _ => rfl)) (fun _ _ _ _ _ => pv 5))) rfl)
    (PSs.nox (pss_one (ps_fld (pv 0) (pe_cal (E := E0) CT (Room.mono hr (by decide)) rfl (pa_cons (pe_fld (pv 0) rfl) (pa_cons (pe_fld (pv 0) rfl) (pa_cons (pe_fld (pv 0) rfl) pa_nil))) (Nat.le_refl _)) rfl)))))))), ?_⟩
  have nl := ok.l.nd
  have nw := ok.w.nd
  have nb := ok.b.nd
  have l1 := ok.l.len.2
  have l2 := ok.w.len
  have l3 := ok.b.len
  refine ⟨_, rfl, _, rfl, _, rfl, a, v, u, D, rfl, td, tw, tb, ok, fun H1 s1 => ⟨_, rfl, _, rfl, ite0 (by simp) ?_⟩⟩
  have hx1 := s1 _ _ hx
  -- lasts
  refine ⟨_, rfl, _, _, rfl, Lot.names (.inl ⟨a, rfl, td.same s1⟩), by rw [List.length_map]; omega, fun p np => ⟨p, rfl, ⟨_, SqL.of upd_same⟩, fun d1 nd1 => sc_it (enc := inD) (K := K) (i := 5) (j := 1) (by show 5 < 6; decide) (by decide) rfl (.inl ⟨a, rfl, td.same (s1.trans (same_new np))⟩) nl (by omega) upd_same nd1 fun H2 s2 t1 => ?_⟩⟩
  have s12 := s1.trans ((same_new np).trans s2)
  have hx2 := s12 _ _ hx
  refine ⟨_, rfl, x, C, dx, _, rfl, hx2, N.c, N.l, by show 0 < 1000; decide, ?_⟩
  generalize hG1 : upd H2 x (HO.ins C dx (putF "_lasts" (V.ref d1) [])) = G1
  have xG1 : G1 x = some (.ins C dx [("_lasts", .ref d1)]) := by rw [← hG1]; exact upd_same
  have c1 : But x H2 G1 := by rw [← hG1]; exact But.upd
  have b1 : But x H G1 := (Same.but s12).trans c1
  have t1 := td_but hx2 c1 t1
  -- works
  refine ⟨_, rfl, _, _, rfl, (lot_but hx b1 tw).names, by rw [List.length_map]; omega, fun p np => ⟨p, rfl, ⟨_, SqL.of upd_same⟩, fun d2 nd2 => sc_it (enc := wkD) (K := K) (i := 5) (j := 2) (by show 5 < 6; decide) (by decide) rfl ((lot_but hx b1 tw).same (same_new np)) nw (by omega) upd_same nd2 fun H3 s3 t2 => ?_⟩⟩
  have s3 := (same_new np).trans s3
  have hx3 := s3 _ _ xG1
  refine ⟨_, rfl, x, C, dx, _, rfl, hx3, N.c, N.w, by show 1 < 1000; decide, ?_⟩
  generalize hG2 : upd H3 x (HO.ins C dx (putF "_works" (V.ref d2) [("_lasts", .ref d1)])) = G2
  have xG2 : G2 x = some (.ins C dx [("_lasts", .ref d1), ("_works", .ref d2)]) := by rw [← hG2]; exact upd_same
  have c2 : But x H3 G2 := by rw [← hG2]; exact But.upd
  have b2 : But x H G2 := (b1.trans (Same.but s3)).trans c2
  have t1 := td_but hx3 c2 (t1.same s3)
  have t2 := td_but hx3 c2 t2
  -- bounds
  refine ⟨_, rfl, _, _, rfl, (lot_but hx b2 tb).names, by rw [List.length_map]; omega, fun p np => ⟨p, rfl, ⟨_, SqL.of upd_same⟩, fun d3 nd3 => sc_it (enc := bdD) (K := K) (i := 5) (j := 3) (by show 5 < 6; decide) (by decide) rfl ((lot_but hx b2 tb).same (same_new np)) nb (by omega) upd_same nd3 fun H4 s4 t3 => ?_⟩⟩
  have s4 := (same_new np).trans s4
  have hx4 := s4 _ _ xG2
  refine ⟨_, rfl, x, C, dx, _, rfl, hx4, N.c, N.b, by show 2 < 1000; decide, ?_⟩
  generalize hG3 : upd H4 x (HO.ins C dx (putF "_bounds" (V.ref d3) [("_lasts", .ref d1), ("_works", .ref d2)])) = G3
  have xG3 : G3 x = some (.ins C dx [("_lasts", .ref d1), ("_works", .ref d2), ("_bounds", .ref d3)]) := by rw [← hG3]; exact upd_same
  have c3 : But x H4 G3 := by rw [← hG3]; exact But.upd
  have b3 : But x H G3 := (b2.trans (Same.but s4)).trans c3
  have t1 := td_but hx4 c3 (t1.same s4)
  have t2 := td_but hx4 c3 (t2.same s4)
  have t3 := td_but hx4 c3 t3
  -- ended
  obtain ⟨k2, e2, x2⟩ := t2
  have xd2 : x ≠ d2 := ne_of xG3 e2 (fun z => nomatch z)
  refine ⟨d2, _, e2, mut_dK, fun od => ⟨_, rfl, x, C, dx, _, .ref d2, rfl, by rw [upd_ne xd2]; exact xG3, N.c, N.w, rfl, d2, od, rfl, .inl ⟨k2, upd_same, fun d4 nd4 => ed_it (K := K) (i := 5) (L := D.L) (by show 5 < 6; decide) upd_same (x2.wk (Wk.lock e2 (fun _ _ z => nomatch z))) ok.w nd4 ?_ fun H5 s5 t4 => ?_⟩⟩⟩
  · intro σ' H' R n u hn hσ g s5 r
    exact ⟨_, hσ 0 _ (by decide) rfl, x, C, dx, _, .ref d2, rfl, s5 _ _ (by rw [upd_ne xd2]; exact xG3), N.c, N.w, rfl, _, hn, d2, u, rfl, g, r⟩
  · have n4 : G3 d4 = none := by
      by_cases e : d4 = d2
      · rw [e, upd_same] at nd4; cases nd4
      · rw [upd_ne e] at nd4; exact nd4
    obtain ⟨z1, s6⟩ := unlock e2 s5
    have t4 : TD stD K (upd H5 d2 (.dK k2)) d4 (endR D.W) := by
      obtain ⟨k4, e4, x4⟩ := t4
      exact ⟨k4, unlock_at (od := od) e2 n4 e4, tx_st x4⟩
    have hx6 := s6 _ _ xG3
    refine ⟨z1, _, rfl, x, C, dx, _, rfl, hx6, N.c, N.e, by show 3 < 1000; decide, ?_⟩
    generalize hG4 : upd (upd H5 d2 (.dK k2)) x (HO.ins C dx (putF "_ended" (V.ref d4) [("_lasts", .ref d1), ("_works", .ref d2), ("_bounds", .ref d3)])) = G4
    have xG4 : G4 x = some (.ins C dx [("_lasts", .ref d1), ("_works", .ref d2), ("_bounds", .ref d3), ("_ended", .ref d4)]) := by rw [← hG4]; exact upd_same
    have c4 : But x (upd H5 d2 (.dK k2)) G4 := by rw [← hG4]; exact But.upd
    have b4 : But x H G4 := (b3.trans (Same.but s6)).trans c4
    have t1 := td_but hx6 c4 (t1.same s6)
    have t2 : TD wkD K G4 d2 (srtR D.W) := td_but hx6 c4 (TD.same s6 ⟨k2, e2, x2⟩)
    have t3 := td_but hx6 c4 (t3.same s6)
    have t4 := td_but hx6 c4 t4
    refine ⟨_, rfl, x, C, dx, _, .ref d1, rfl, xG4, N.c, N.l, rfl, _, rfl, x, C, dx, _, .ref d2, rfl, xG4, N.c, N.w, rfl, _, rfl, x, C, dx, _, .ref d3, rfl, xG4, N.c, N.b, rfl, d1, d2, d3, sortN D, rfl, t1, t2, t3, ok.sort, fun d5 H6 s7 nd5 t5 => ?_⟩
    have hx7 := s7 _ _ xG4
    refine ⟨_, rfl, x, C, dx, _, rfl, hx7, N.c, N.r, by show 4 < 1000; decide, ?_⟩
    have c5 : But x H6 (upd H6 x (HO.ins C dx (putF "_rows" (V.ref d5) [("_lasts", .ref d1), ("_works", .ref d2), ("_bounds", .ref d3), ("_ended", .ref d4)]))) := But.upd
    exact k _ ((b4.trans (Same.but s7)).trans c5) ⟨dx, d1, d2, d3, d4, d5, upd_same, td_but hx7 c5 (t1.same s7), td_but hx7 c5 (t2.same s7), td_but hx7 c5 (t3.same s7), td_but hx7 c5 (t4.same s7), tt_but hx7 c5 t5⟩
end
end LW
namespace LW
open PySem PySem.Spec PyProof.Rows L2 DW
section
variable {P : Program} {w : World} {K : PySem.W.Frag} {mg : Str → Option Value} {base : Heap}
def spGet (K : PySem.W.Frag) (C : Addr) (R : PlainD → V → Hp → Hp → Prop) : Sp := fun vs H Q _ => ∃ (x : Addr) (D : PlainD), vs = [.ref x] ∧ NetAt K C H x D ∧ OkN D ∧ ∀ v H', Same H H' → R D v H H' → Q v H'
theorem scLa : FnScope ["self"] ["self"] (defScope m_Net_lasts) := ⟨rfl, rfl, rfl, by decide +kernel, rfl, by decide +kernel, by decide +kernel⟩
theorem scWo : FnScope ["self"] ["self"] (defScope m_Net_works) := ⟨rfl, rfl, rfl, by decide +kernel, rfl, by decide +kernel, by decide +kernel⟩
theorem scBo : FnScope ["self"] ["self"] (defScope m_Net_bounds) := ⟨rfl, rfl, rfl, by decide +kernel, rfl, by decide +kernel, by decide +kernel⟩
def rLasts (K : PySem.W.Frag) (D : PlainD) (v : V) (H H' : Hp) : Prop := ∃ d, v = .ref d ∧ H d = none ∧ TD inD K H' d D.L
def rWorks (K : PySem.W.Frag) (D : PlainD) (v : V) (H H' : Hp) : Prop := ∃ d, v = .ref d ∧ H d = none ∧ TD wkD K H' d D.W
def rBounds (K : PySem.W.Frag) (D : PlainD) (v : V) (H H' : Hp) : Prop := ∃ d, v = .ref d ∧ H d = none ∧ TD bdD K H' d D.B
theorem td_copy {α : Type} {enc : α → PyData} {H : Hp} {a p : Addr} {rs : List (Str × α)} {kvs : List (Key × V)} (t : Tx enc K H kvs rs) (n : H p = none) : TD enc K (upd H p (.dK kvs)) p rs := ⟨kvs, upd_same, t.wk (Wk.of (same_new n))⟩
theorem ok_pl {f C : Addr} {fd : FuncData} (F : Fun K "lasts" "Net.lasts" m_Net_lasts f fd) (N : NetK K C) (zD : mg "dict" = none) : FnOk P w K mg base CX0 1 f fd ["self"] (spGet K C (rLasts K)) := by
  refine F.ok scLa (fun vs H Q E h => ?_) (fun cdv A outer s H vs Q E hr h => ?_)
  · obtain ⟨x, D, rfl, _⟩ := h
    rfl
  obtain ⟨x, D, rfl, ⟨dx, la, wa, ba, ea, ra, h1, ⟨kl, e2, t2⟩, h3, h4, h5, h6⟩, ok, k⟩ := h
  refine ⟨_, pss_one (ps_ret (pe_callTy call_dictD (by rfl) zD (by decide +kernel) (pa_cons (pe_fld (pv 0) rfl) pa_nil))), ?_⟩
  exact ⟨_, rfl, x, C, dx, _, .ref la, rfl, h1, N.c, N.l, rfl, la, kl, rfl, .inl e2, fun p np => k _ _ (same_new np) ⟨p, rfl, np, td_copy (a := la) t2 np⟩⟩
theorem ok_pw {f C : Addr} {fd : FuncData} (F : Fun K "works" "Net.works" m_Net_works f fd) (N : NetK K C) (zD : mg "dict" = none) : FnOk P w K mg base CX0 1 f fd ["self"] (spGet K C (rWorks K)) := by
  refine F.ok scWo (fun vs H Q E h => ?_) (fun cdv A outer s H vs Q E hr h => ?_)
  · obtain ⟨x, D, rfl, _⟩ := h
    rfl
  obtain ⟨x, D, rfl, ⟨dx, la, wa, ba, ea, ra, h1, h2, ⟨kl, e2, t2⟩, h4, h5, h6⟩, ok, k⟩ := h
  refine ⟨_, pss_one (ps_ret (pe_callTy call_dictD (by rfl) zD (by decide +kernel) (pa_cons (pe_fld (pv 0) rfl) pa_nil))), ?_⟩
  exact ⟨_, rfl, x, C, dx, _, .ref wa, rfl, h1, N.c, N.w, rfl, wa, kl, rfl, .inl e2, fun p np => k _ _ (same_new np) ⟨p, rfl, np, td_copy (a := la) t2 np⟩⟩
theorem ok_pb {f C : Addr} {fd : FuncData} (F : Fun K "bounds" "Net.bounds" m_Net_bounds f fd) (N : NetK K C) (zD : mg "dict" = none) : FnOk P w K mg base CX0 1 f fd ["self"] (spGet K C (rBounds K)) := by
  refine F.ok scBo (fun vs H Q E h => ?_) (fun cdv A outer s H vs Q E hr h => ?_)
  · obtain ⟨x, D, rfl, _⟩ := h
    rfl
  obtain ⟨x, D, rfl, ⟨dx, la, wa, ba, ea, ra, h1, h2, h3, ⟨kl, e2, t2⟩, h5, h6⟩, ok, k⟩ := h
  refine ⟨_, pss_one (ps_ret (pe_callTy call_dictD (by rfl) zD (by decide +kernel) (pa_cons (pe_fld (pv 0) rfl) pa_nil))), ?_⟩
  exact ⟨_, rfl, x, C, dx, _, .ref ba, rfl, h1, N.c, N.b, rfl, ba, kl, rfl, .inl e2, fun p np => k _ _ (same_new np) ⟨p, rfl, np, td_copy (a := la) t2 np⟩⟩
/-- a tuple of texts -/
def rStrs (K : PySem.W.Frag) (g : PlainD → List Str) (D : PlainD) (v : V) (H H' : Hp) : Prop := ∃ t, v = .ref t ∧ H t = none ∧ H' t = some (.tup ((g D).map V.str))
theorem scEv : FnScope ["self"] ["self"] (defScope m_Net_events) := ⟨rfl, rfl, rfl, by decide +kernel, rfl, by decide +kernel, by decide +kernel⟩
theorem Tx.kv {α : Type} {enc : α → PyData} {H : Hp} {rs : List (Str × α)} {kvs : List (Key × V)} (h : Tx enc K H kvs rs) : (kvs.map fun kv => kV kv.1) = (rs.map (·.1)).map V.str := by
  have := congrArg (List.map kV) h.keys
  rw [List.map_map, List.map_map] at this
  exact this
theorem ok_ev {f C : Addr} {fd : FuncData} (F : Fun K "events" "Net.events" m_Net_events f fd) (N : NetK K C) (zT : mg "tuple" = none) : FnOk P w K mg base CX0 1 f fd ["self"] (spGet K C (rStrs K fun D => D.L.map (·.1))) := by
  refine F.ok scEv (fun vs H Q E h => ?_) (fun cdv A outer s H vs Q E hr h => ?_)
  · obtain ⟨x, D, rfl, _⟩ := h
    rfl
  obtain ⟨x, D, rfl, ⟨dx, la, wa, ba, ea, ra, h1, ⟨kl, e2, t2⟩, h3, h4, h5, h6⟩, ok, k⟩ := h
  refine ⟨_, pss_one (ps_ret (pe_callTy (call_tupD rfl) (by rfl) zT (by decide +kernel) (pa_cons (pe_fld (pv 0) rfl) pa_nil))), ?_⟩
  exact ⟨_, rfl, x, C, dx, _, .ref la, rfl, h1, N.c, N.l, rfl, la, kl, rfl, .inl e2, fun p np => k _ _ (same_new np) ⟨p, rfl, np, by rw [upd_same, Tx.kv t2]⟩⟩
/-- the keys of the rows -/
def rTold (K : PySem.W.Frag) (D : PlainD) (v : V) (H H' : Hp) : Prop := ∃ (t : Addr) (bs : List Addr), v = .ref t ∧ H t = none ∧ H' t = some (.tup (bs.map V.ref)) ∧ Paired (fun (b : Addr) (r : RowP) => H b = some (.tup [.str r.1.1, .str r.1.2])) bs (toldR D)
theorem ty_addrs {H : Hp} : ∀ {bs : List Addr} {kt : List (List Key × V)} {rs : List RowP}, Paired (fun (b : Addr) (kv : List Key × V) => H b = some (.tup (kv.1.map kV))) bs kt → Ty K H kt rs → Paired (fun (b : Addr) (r : RowP) => H b = some (.tup [.str r.1.1, .str r.1.2])) bs rs
  | _, _, _, .nil, y => by
    cases y
    exact .nil
  | _, _, _, .cons h t, y => by
    cases y with
    | cons q y =>
      refine .cons ?_ (ty_addrs t y)
      rw [q.1] at h
      exact h
theorem scTo : FnScope ["self"] ["self"] (defScope m_Net_told) := ⟨rfl, rfl, rfl, by decide +kernel, rfl, by decide +kernel, by decide +kernel⟩
theorem ok_pt {f C : Addr} {fd : FuncData} (F : Fun K "told" "Net.told" m_Net_told f fd) (N : NetK K C) (zT : mg "tuple" = none) : FnOk P w K mg base CX0 1 f fd ["self"] (spGet K C (rTold K)) := by
  refine F.ok scTo (fun vs H Q E h => ?_) (fun cdv A outer s H vs Q E hr h => ?_)
  · obtain ⟨x, D, rfl, _⟩ := h
    rfl
  obtain ⟨x, D, rfl, ⟨dx, la, wa, ba, ea, ra, h1, h2, h3, h4, h5, ⟨kt, e6, t6⟩⟩, ok, k⟩ := h
  refine ⟨_, pss_one (ps_ret (pe_callTy (call_tupDT rfl) (by rfl) zT (by decide +kernel) (pa_cons (pe_fld (pv 0) rfl) pa_nil))), ?_⟩
  exact ⟨_, rfl, x, C, dx, _, .ref ra, rfl, h1, N.c, N.r, rfl, ra, kt, rfl, .inl e6, fun bs p pr np => k _ _ (same_new np) ⟨p, bs, rfl, np, upd_same, ty_addrs pr t6⟩⟩
def deedsL (D : PlainD) : List Str := (D.L.map (·.1)).filter fun n => !decide (n ∈ (endW D.W).map (·.1))
def endsL (D : PlainD) : List Str := (D.L.map (·.1)).filter fun n => decide (n ∈ (endW D.W).map (·.1))
theorem scDe : FnScope ["self", "event"] ["self"] (defScope m_Net_deeds) := ⟨rfl, rfl, rfl, by decide +kernel, rfl, by decide +kernel, by decide +kernel⟩
theorem scEn : FnScope ["self", "event"] ["self"] (defScope m_Net_ends) := ⟨rfl, rfl, rfl, by decide +kernel, rfl, by decide +kernel, by decide +kernel⟩
theorem filt_succ {g : Str → Bool} {L : Ls} {i : Nat} {p : Str × Int} (h : L[i]? = some p) : (((L.take (i + 1)).map (·.1)).filter g) = (((L.take i).map (·.1)).filter g) ++ (if g p.1 = true then [p.1] else []) := by
  rw [take_succ_map h, List.filter_append]
  congr 1
  by_cases e : g p.1 = true
  · rw [if_pos e]; simp [e]
  · rw [if_neg e]; simp [e]
theorem none_lock {H H' : Hp} {a l : Addr} {o : HO} (s : Same (upd H a o) H') (n : H' l = none) : H l = none := by
  have z := none_of s n
  by_cases e : l = a
  · rw [e, upd_same] at z; cases z
  · rw [upd_ne e] at z; exact z
/-- [event for event in lasts if ..] -/
theorem fl_it {g : Str → Bool} {a : Addr} {L : Ls} {kvs : List (Key × V)} {od : Obj} {σ : L2.St} {H : Hp} {D : Addr} {i : Nat} {tt : L2.TT} {Qd : Hp → Prop} (hi : i < σ.length) (ha : H a = some (.frz od (.dK kvs))) (tx : Tx inD K H kvs L) (hl : L.length ≤ 1000) (hD : H D = none)
    (htt : ∀ {σ' : L2.St} {H' : Hp} {R : Bool → Hp → Prop} {n : Str}, σ'[i]? = some (some (.str n)) → (∀ j z, i ≠ j → σ[j]? = some (some z) → σ'[j]? = some (some z)) → Same H H' → R (g n) H' → tt σ' H' R)
    (k : ∀ H', Same H H' → H' D = some (.lst (((L.map (·.1)).filter g).map V.str)) → Qd H') :
    ∃ Wf : Nat → Nat → Hp → Prop, (∃ m, Wf 0 m (upd H D (.lst []))) ∧ ∀ n m H, Wf n m H →
      ((Itk a od kvs).stop n H ∧ Qd H) ∨ ((Itk a od kvs).go n H ∧ ∃ Nx : Hp → Prop, (∀ H', Nx H' → ∃ m', m' < m ∧ Wf (n + 1) m' H') ∧ ∀ x H', (Itk a od kvs).yld n H x H' → gName i x (wipe σ [i]) H' fun σ2 H2 => wipe σ2 [i] = wipe σ [i] ∧ tt σ2 H2 fun b H3 =>
        if b = true then tVar i σ2 H3 fun y H4 => ∃ acc, H4 D = some (.lst acc) ∧ acc.length < sizeLine ∧ Nx (upd H4 D (.lst (acc ++ [y]))) else Nx H3) := by
  have ll : kvs.length = L.length := Paired.length tx
  refine lc_it (walk_keys (d := a) (o := od) (kvs := kvs)) (fun n H' => Same H H' ∧ H' D = some (.lst ((((L.take n).map (·.1)).filter g).map V.str))) ⟨same_new hD, upd_same⟩ (fun n H' q => fun z => z.1 _ _ ha) (fun n x H1 H2 hn q y => ?_) (fun H' q => ?_)
  · obtain ⟨rfl, key, v, hk, rfl⟩ := y
    obtain ⟨s1, e1⟩ := q
    obtain ⟨p, hp, e, dv⟩ := tx.at hk
    have e : key = .inr p.1 := e
    subst e
    have si : ((wipe σ [i]).set i (some (V.str p.1)))[i]? = some (some (.str p.1)) := by simp [wipe, hi]
    refine ⟨by simp [gName, wipe], htt si (fun j z hj e => by simp [wipe, hj, e]) s1 ?_⟩
    by_cases gp : g p.1 = true
    · refine ite1 gp ⟨_, si, _, e1, ?_, same_mut s1 hD, ?_⟩
      · have h1 : (((L.take n).map (·.1)).filter g).length ≤ ((L.take n).map (·.1)).length := List.length_filter_le _ _
        rw [List.length_map, List.length_take] at h1
        rw [List.length_map, sizeLine_eq]
        omega
      · rw [upd_same, filt_succ hp, if_pos gp, List.map_append]
        rfl
    · refine ite0 (by simpa using gp) ⟨s1, ?_⟩
      rw [filt_succ hp, if_neg gp, List.append_nil]
      exact e1
  · obtain ⟨s1, e1⟩ := q
    rw [ll, List.take_length] at e1
    exact k H' s1 e1
theorem ok_de {f C : Addr} {fd : FuncData} (F : Fun K "deeds" "Net.deeds" m_Net_deeds f fd) (N : NetK K C) (zT : mg "tuple" = none) : FnOk P w K mg base CX0 1 f fd ["self"] (spGet K C (rStrs K deedsL)) := by
  refine F.ok scDe (fun vs H Q E h => ?_) (fun cdv A outer s H vs Q E hr h => ?_)
  · obtain ⟨x, D, rfl, _⟩ := h
    rfl
  obtain ⟨x, D, rfl, ⟨dx, la, wa, ba, ea, ra, h1, ⟨kl, e2, t2⟩, h3, h4, h5, h6⟩, ok, k⟩ := h
  refine ⟨_, pss_one (ps_ret (pe_lock (pe_callTy call_tuple_of (by rfl) zT (by decide +kernel) (pa_cons (pe_lc (own := [("event", 1)]) (g := gName 1) (tt := tB (tDNotIn (tVar 1) (tFld K (tVar 0) "_ended"))) rfl scDe.nd (pi_keys (pe_fld (pv 0) rfl)) (blkOk_by (own := [("event", 1)]) (N := ["self", "event"]) (sc := defScope m_Net_deeds) (by decide +kernel))
    (fun _ _ _ _ _ => pg_name (i := 1) scDe.nd rfl (Or.inl rfl)) (fun _ _ _ _ _ => pts_one (pt_cmp (pc_dnotin (hu_of hr) (pv 1) (pe_fld (pv 0) rfl)))) (fun _ _ _ _ _ => pv 1)) pa_nil)))), ?_⟩
  have xl : x ≠ la := ne_of h1 e2 (fun z => nomatch z)
  refine ⟨la, _, e2, mut_dK, fun od => ⟨_, rfl, x, C, dx, _, .ref la, rfl, by rw [upd_ne xl]; exact h1, N.c, N.l, rfl, la, od, rfl, .inl ⟨kl, upd_same, fun d nd => fl_it (K := K) (g := fun n => !decide (n ∈ (endW D.W).map (·.1))) (i := 1) (L := D.L) (by show 1 < 2; decide) upd_same (t2.wk (Wk.lock e2 (fun _ _ z => nomatch z))) (by have := ok.l.len.2; omega) nd ?_ fun H' s e => ?_⟩⟩⟩
  · intro σ' H' R n hn hσ s r
    have tr : TR stD K H' ea (endW D.W) := h5.tr.wk ((Wk.lock e2 (fun _ _ z => nomatch z)).trans (Wk.of s))
    obtain ⟨o, g, eo⟩ := tr.has n
    refine ⟨_, hn, _, hσ 0 _ (by decide) rfl, x, C, dx, _, .ref ea, rfl, s _ _ (by rw [upd_ne xl]; exact h1), N.c, N.e, rfl, ea, o, rfl, g, _, rfl, ?_⟩
    rw [eo]
    exact r
  · refine ⟨d, _, rfl, .inl ⟨SqL.of e, fun l nl => ?_⟩⟩
    obtain ⟨z1, z2⟩ := unlock e2 (s.trans (same_new nl))
    exact ⟨z1, k _ _ z2 ⟨l, rfl, none_lock s nl, unlock_at (od := od) e2 (none_lock s nl) upd_same⟩⟩
theorem ok_en {f C : Addr} {fd : FuncData} (F : Fun K "ends" "Net.ends" m_Net_ends f fd) (N : NetK K C) (zT : mg "tuple" = none) : FnOk P w K mg base CX0 1 f fd ["self"] (spGet K C (rStrs K endsL)) := by
  refine F.ok scEn (fun vs H Q E h => ?_) (fun cdv A outer s H vs Q E hr h => ?_)
  · obtain ⟨x, D, rfl, _⟩ := h
    rfl
  obtain ⟨x, D, rfl, ⟨dx, la, wa, ba, ea, ra, h1, ⟨kl, e2, t2⟩, h3, h4, h5, h6⟩, ok, k⟩ := h
  refine ⟨_, pss_one (ps_ret (pe_lock (pe_callTy call_tuple_of (by rfl) zT (by decide +kernel) (pa_cons (pe_lc (own := [("event", 1)]) (g := gName 1) (tt := tB (tDIn (tVar 1) (tFld K (tVar 0) "_ended"))) rfl scEn.nd (pi_keys (pe_fld (pv 0) rfl)) (blkOk_by (own := [("event", 1)]) (N := ["self", "event"]) (sc := defScope m_Net_ends) (by decide +kernel))
    (fun _ _ _ _ _ => pg_name (i := 1) scEn.nd rfl (Or.inl rfl)) (fun _ _ _ _ _ => pts_one (pt_cmp (pc_din (hu_of hr) (pv 1) (pe_fld (pv 0) rfl)))) (fun _ _ _ _ _ => pv 1)) pa_nil)))), ?_⟩
  have xl : x ≠ la := ne_of h1 e2 (fun z => nomatch z)
  refine ⟨la, _, e2, mut_dK, fun od => ⟨_, rfl, x, C, dx, _, .ref la, rfl, by rw [upd_ne xl]; exact h1, N.c, N.l, rfl, la, od, rfl, .inl ⟨kl, upd_same, fun d nd => fl_it (K := K) (g := fun n => decide (n ∈ (endW D.W).map (·.1))) (i := 1) (L := D.L) (by show 1 < 2; decide) upd_same (t2.wk (Wk.lock e2 (fun _ _ z => nomatch z))) (by have := ok.l.len.2; omega) nd ?_ fun H' s e => ?_⟩⟩⟩
  · intro σ' H' R n hn hσ s r
    have tr : TR stD K H' ea (endW D.W) := h5.tr.wk ((Wk.lock e2 (fun _ _ z => nomatch z)).trans (Wk.of s))
    obtain ⟨o, g, eo⟩ := tr.has n
    refine ⟨_, hn, _, hσ 0 _ (by decide) rfl, x, C, dx, _, .ref ea, rfl, s _ _ (by rw [upd_ne xl]; exact h1), N.c, N.e, rfl, ea, o, rfl, g, _, rfl, ?_⟩
    rw [eo]
    exact r
  · refine ⟨d, _, rfl, .inl ⟨SqL.of e, fun l nl => ?_⟩⟩
    obtain ⟨z1, z2⟩ := unlock e2 (s.trans (same_new nl))
    exact ⟨z1, k _ _ z2 ⟨l, rfl, none_lock s nl, unlock_at (od := od) e2 (none_lock s nl) upd_same⟩⟩
/-- the greatest of the last ticks -/
def rHor (D : PlainD) (v : V) (H H' : Hp) : Prop := ∃ m : Int, v = .int m ∧ m ∈ D.L.map (·.2) ∧ ∀ y ∈ D.L.map (·.2), y ≤ m
theorem scHo : FnScope ["self", "event"] ["self"] (defScope m_Net_horizon) := ⟨rfl, rfl, rfl, by decide +kernel, rfl, by decide +kernel, by decide +kernel⟩
theorem ok_ho {f C : Addr} {fd : FuncData} (F : Fun K "horizon" "Net.horizon" m_Net_horizon f fd) (N : NetK K C) (zM : mg "max" = none) : FnOk P w K mg base CX0 1 f fd ["self"] (spGet K C rHor) := by
  refine F.ok scHo (fun vs H Q E h => ?_) (fun cdv A outer s H vs Q E hr h => ?_)
  · obtain ⟨x, D, rfl, _⟩ := h
    rfl
  obtain ⟨x, D, rfl, ⟨dx, la, wa, ba, ea, ra, h1, ⟨kl, e2, t2⟩, h3, h4, h5, h6⟩, ok, k⟩ := h
  refine ⟨_, pss_one (ps_ret (pe_lock (pe_callB (cr_max rfl) (by rfl) zM (by decide +kernel) (pa_cons (pe_lc (own := [("event", 1)]) (g := gName 1) (tt := tYes) (te := tDGet (tFld K (tVar 0) "_lasts") (tVar 1)) rfl scHo.nd (pi_keys (pe_fld (pv 0) rfl)) (blkOk_by (own := [("event", 1)]) (N := ["self", "event"]) (sc := defScope m_Net_horizon) (by decide +kernel))
    (fun _ _ _ _ _ => pg_name (i := 1) scHo.nd rfl (Or.inl rfl)) (fun _ _ _ _ _ => pts_nil) (fun _ _ _ _ _ => pe_dget (hu_of hr) (pe_fld (pv 0) rfl) (pv 1) (fun _ _ => rfl))) pa_nil)))), ?_⟩
  have xl : x ≠ la := ne_of h1 e2 (fun z => nomatch z)
  have ll : kl.length = D.L.length := Paired.length t2
  have l2 := ok.l.len
  refine ⟨la, _, e2, mut_dK, fun od => ⟨_, rfl, x, C, dx, _, .ref la, rfl, by rw [upd_ne xl]; exact h1, N.c, N.l, rfl, la, od, rfl, .inl ⟨kl, upd_same, fun d nd => lc_it (walk_keys (d := la) (o := od) (kvs := kl)) (fun n H' => Same (upd H la (.frz od (.dK kl))) H' ∧ H' d = some (.lst (((D.L.take n).map (·.2)).map V.int))) ⟨same_new nd, upd_same⟩ (fun n H' q => fun z => z.1 _ _ upd_same) (fun n y H1 H2 hn q yy => ?_) (fun H' q => ?_)⟩⟩⟩
  · obtain ⟨rfl, key, v, hk, rfl⟩ := yy
    obtain ⟨s1, e1⟩ := q
    obtain ⟨p, hp, e, dv⟩ := t2.at hk
    have e : key = .inr p.1 := e
    subst e
    have tr : TR inD K H2 la D.L := TR.wk ((Wk.lock e2 (fun _ _ z => nomatch z)).trans (Wk.of s1)) ⟨kl, .inl e2, t2⟩
    obtain ⟨u, g, du⟩ := tr.get (look_of ok.l.nd (List.mem_of_getElem? hp))
    cases in_at du
    refine ⟨by simp [gName, wipe], tyes ⟨_, by simp [gName, wipe]; rfl, x, C, dx, _, .ref la, rfl, s1 _ _ (by rw [upd_ne xl]; exact h1), N.c, N.l, rfl, _, by simp [gName, wipe]; rfl, la, _, rfl, g, _, e1, ?_, same_mut s1 nd, ?_⟩⟩
    · rw [List.length_map, List.length_map, List.length_take, sizeLine_eq]
      omega
    · rw [upd_same, take_succ_map hp, List.map_append]
      rfl
  · obtain ⟨s1, e1⟩ := q
    rw [ll, List.take_length] at e1
    obtain ⟨z1, z2⟩ := unlock e2 s1
    refine ⟨d, _, rfl, SqL.of e1, by rw [List.length_map]; omega, fun m hm hall => ⟨z1, k _ _ z2 ⟨m, rfl, hm, hall⟩⟩⟩
theorem scLe : FnScope ["self"] ["self"] (defScope m_Net_len) := ⟨rfl, rfl, rfl, by decide +kernel, rfl, by decide +kernel, by decide +kernel⟩
theorem ok_le {f C : Addr} {fd : FuncData} (F : Fun K "__len__" "Net.__len__" m_Net_len f fd) (N : NetK K C) (zL : mg "len" = none) : FnOk P w K mg base CX0 1 f fd ["self"] (spGet K C fun D v H H' => v = .int (D.L.length : Nat)) := by
  refine F.ok scLe (fun vs H Q E h => ?_) (fun cdv A outer s H vs Q E hr h => ?_)
  · obtain ⟨x, D, rfl, _⟩ := h
    rfl
  obtain ⟨x, D, rfl, ⟨dx, la, wa, ba, ea, ra, h1, ⟨kl, e2, t2⟩, h3, h4, h5, h6⟩, ok, k⟩ := h
  refine ⟨_, pss_one (ps_ret (pe_callB call_lenD (by rfl) zL PySem.boot_len (pa_cons (pe_fld (pv 0) rfl) pa_nil))), ?_⟩
  have ll : kl.length = D.L.length := Paired.length t2
  exact ⟨_, rfl, x, C, dx, _, .ref la, rfl, h1, N.c, N.l, rfl, la, kl, rfl, e2, k _ _ (Same.refl H) (by rw [ll])⟩
end
end LW
namespace LW
open PySem PySem.Spec PyProof.Rows L2 DW
/-- which work ends at an event, as a value -/
def wkV : Option Str → V
  | some n => .str n
  | none => .non
/-- from an event to dawn or a deed, the works in order -/
inductive Road (W : Ws) : Str → Str → List Str → Prop
  | stop {z : Str} : look (endW W) z = none → Road W z z []
  | step {z n root : Str} {x : WkT} {ch : List Str} : look (endW W) z = some n → look W n = some x → Road W x.1 root ch → Road W z root (ch ++ [n])
theorem Road.det {W : Ws} {z r1 : Str} {c1 : List Str} (h : Road W z r1 c1) : ∀ {r2 : Str} {c2 : List Str}, Road W z r2 c2 → r1 = r2 ∧ c1 = c2 := by
  induction h with
  | stop e =>
    intro r2 c2 h2
    cases h2 with
    | stop _ => exact ⟨rfl, rfl⟩
    | step e2 _ _ => rw [e] at e2; cases e2
  | step e lx _ ih =>
    intro r2 c2 h2
    cases h2 with
    | stop e2 => rw [e] at e2; cases e2
    | step e2 lx2 h3 =>
      rw [e] at e2
      cases e2
      rw [lx] at lx2
      cases lx2
      obtain ⟨h4, h5⟩ := ih h3
      exact ⟨h4, by rw [h5]⟩
theorem endW_ok {L : Ls} {W : Ws} (ok : OkW L W) : EndOk W (endW W) := fun s n h => by
  obtain ⟨p, hp, e⟩ := List.mem_map.mp (look_mem h)
  cases e
  exact ⟨p.2, look_of ok.nd hp, rfl⟩
theorem endW_nodup {L : Ls} {W : Ws} (ok : OkW L W) : ((endW W).map (·.1)).Nodup := by
  unfold endW
  rw [List.map_map]
  exact ok.ends
theorem Road.ex {L : Ls} {W : Ws} (ok : OkW L W) (z : Str) : ∃ r c, Road W z r c := by
  obtain ⟨rk, hr⟩ := ok.rank
  have key : ∀ n z, rk z < n → ∃ r c, Road W z r c := by
    intro n
    induction n with
    | zero => intro z h; exact absurd h (Nat.not_lt_zero _)
    | succ n ih =>
      intro z h
      cases e : look (endW W) z with
      | none => exact ⟨z, [], .stop e⟩
      | some m =>
        obtain ⟨x, lx, ex⟩ := endW_ok ok _ _ e
        have lt := hr _ (look_mem lx)
        have lt2 : rk x.1 < rk z := by rw [← ex]; exact lt
        obtain ⟨r, c, h2⟩ := ih x.1 (by omega)
        exact ⟨r, c ++ [m], .step e lx h2⟩
  exact key _ z (Nat.lt_succ_self _)
theorem Road.len {L : Ls} {W : Ws} (ok : OkW L W) {z r : Str} {c : List Str} (h : Road W z r c) : c.length ≤ W.length := by
  obtain ⟨rk, hr⟩ := ok.rank
  have sub : ∀ {z r c}, Road W z r c → (∀ m ∈ c, ∃ x, look W m = some x ∧ rk x.2.1 ≤ rk z) ∧ c.Nodup := by
    intro z r c h
    induction h with
    | stop _ => exact ⟨fun m hm => (by cases hm), .nil⟩
    | step e lx h2 ih =>
      rename_i z n root x ch
      obtain ⟨x', lx', ex⟩ := endW_ok ok _ _ e
      rw [lx] at lx'
      cases lx'
      have lt := hr _ (look_mem lx)
      refine ⟨fun m hm => ?_, ?_⟩
      · rcases List.mem_append.mp hm with hm | hm
        · obtain ⟨y, ly, hy⟩ := ih.1 m hm
          exact ⟨y, ly, by rw [← ex]; exact Nat.le_trans hy (Nat.le_of_lt lt)⟩
        · rw [List.mem_singleton] at hm
          subst hm
          exact ⟨x, lx, by rw [ex]; exact Nat.le_refl _⟩
      · refine List.nodup_append.mpr ⟨ih.2, List.nodup_cons.mpr ⟨fun q => (by cases q), .nil⟩, fun a ha b hb eab => ?_⟩
        rw [List.mem_singleton] at hb
        subst hb
        subst eab
        obtain ⟨y, ly, hy⟩ := ih.1 _ ha
        rw [lx] at ly
        cases ly
        exact absurd (Nat.lt_of_le_of_lt hy lt) (Nat.lt_irrefl _)
  obtain ⟨h1, h2⟩ := sub h
  have h3 : c ⊆ W.map (·.1) := fun m hm => by
    obtain ⟨x, lx, _⟩ := h1 m hm
    exact look_some.mp (by rw [lx]; rfl)
  have : ∀ {l m : List Str}, l.Nodup → l ⊆ m → l.length ≤ m.length := by
    intro l
    induction l with
    | nil => intro m _ _; exact Nat.zero_le _
    | cons a l ih =>
      intro m hl hs
      rw [List.nodup_cons] at hl
      have am := hs (List.mem_cons_self ..)
      have := ih (m := m.erase a) hl.2 fun b hb => (List.mem_erase_of_ne (fun e => hl.1 (by rw [← e]; exact hb))).mpr (hs (List.mem_cons_of_mem _ hb))
      have e := List.length_erase_of_mem am
      have pos : 0 < m.length := List.length_pos_of_mem am
      rw [List.length_cons]
      omega
  have := this h2 h3
  rw [List.length_map] at this
  exact this
section
variable {P : Program} {w : World} {K : PySem.W.Frag} {mg : Str → Option Value} {base : Heap}
theorem scNe : FnScope ["self", "event"] ["self", "event"] (defScope m_Net_u_need_event) := ⟨rfl, rfl, rfl, by decide +kernel, rfl, by decide +kernel, by decide +kernel⟩
def spEvt (K : PySem.W.Frag) (C : Addr) (R : PlainD → Str → V → Hp → Hp → Prop) : Sp := fun vs H Q _ => ∃ (x : Addr) (z : Str) (D : PlainD), vs = [.ref x, .str z] ∧ NetAt K C H x D ∧ OkN D ∧ knownB D.L z = true ∧ ∀ v H', Same H H' → R D z v H H' → Q v H'
theorem ok_ne {f C : Addr} {fd : FuncData} (F : Fun K "_need_event" "Net._need_event" m_Net_u_need_event f fd) (N : NetK K C) {tW : Tok} (gW : mg "DAWN" = some (.str "dawn" tW)) (zI : mg "isinstance" = none) (zS : mg "str" = none) : FnOk P w K mg base CX0 1 f fd ["self", "event"] (spEvt K C fun _ _ v _ _ => v = .non) := by
  refine F.ok scNe (fun vs H Q E h => ?_) (fun cdv A outer s H vs Q E hr h => ?_)
  · obtain ⟨x, z, D, rfl, _⟩ := h
    rfl
  obtain ⟨x, z, D, rfl, ⟨dx, la, wa, ba, ea, ra, h1, h2, h3, h4, h5, h6⟩, ok, kn, k⟩ := h
  refine ⟨_, pss_one (ps_if (PW.pt (pw_or (pt_not (pt_val (pe_callB call_isi (by rfl) zI (by rfl) (pa_cons (pv 1) (pa_cons (pe_bltn rfl zS (by rfl) (show RelV (.ty "str") (.type "str") from rfl)) pa_nil)))))
      (pw_or1 (PW.pt (pw_and (pt_cmpR op_ne (pv 1) (pe_glob rfl gW (show RelV (.str "dawn") (.str "dawn" tW) from ⟨tW, rfl⟩)) (nomark _)) (pw_and1 (pt_cmp (pc_dnotin (hu_of hr) (pv 1) (pe_fld (pv 0) rfl)))))))))
    dead pss_nil), ?_⟩
  refine isi_str rfl kSS ⟨_, rfl, iteF ⟨_, rfl, rfl, _, rfl, ?_⟩⟩
  rw [dec_strV]
  unfold knownB at kn
  by_cases e : z = ("dawn" : Str)
  · rw [decide_eq_true e]
    exact iteF (iteF (k _ _ (Same.refl H) rfl))
  · rw [decide_eq_false e, Bool.false_or] at kn
    rw [decide_eq_false e]
    obtain ⟨o, g, eo⟩ := h2.tr.has z
    exact iteT ⟨_, rfl, _, rfl, x, C, dx, _, .ref la, rfl, h1, N.c, N.l, rfl, la, o, rfl, g, _, rfl, ite0 (by rw [eo, kn]; rfl) (k _ _ (Same.refl H) rfl)⟩
theorem scWk : FnScope ["self", "event"] ["self", "event"] (defScope m_Net_work_of) := ⟨rfl, rfl, rfl, by decide +kernel, rfl, by decide +kernel, by decide +kernel⟩
theorem ok_wk {f fE C : Addr} {fd dE : FuncData} (F : Fun K "work_of" "Net.work_of" m_Net_work_of f fd) (N : NetK K C) (mE : Meth K C "_need_event" fE) (GE : FnOk P w K mg base CX0 1 fE dE ["self", "event"] (spEvt K C fun _ _ v _ _ => v = .non)) (bE : Binds K dE ["self", "event"] []) :
    FnOk P w K mg base CX0 2 f fd ["self", "event"] (spEvt K C fun D z v _ _ => v = wkV (look (endW D.W) z)) := by
  refine F.ok scWk (fun vs H Q E h => ?_) (fun cdv A outer s H vs Q E hr h => ?_)
  · obtain ⟨x, z, D, rfl, _⟩ := h
    rfl
  obtain ⟨x, z, D, rfl, net, ok, kn, k⟩ := h
  refine ⟨_, pss_cons (ps_expr (pe_meth (E := E0) (pv 0) N.c mE GE (Room.mono hr (by decide)) bE .nil pass0 (pa_cons (pv 1) pa_nil)))
    (pss_one (ps_ret (pe_dget1 (hu_of hr) (pe_fld (pv 0) rfl) (pv 1) ⟨rfl, rfl, rfl, rfl⟩))), ?_⟩
  obtain ⟨dx, la, wa, ba, ea, ra, h1, _⟩ := id net
  refine ⟨_, rfl, x, dx, _, rfl, h1, rfl, _, rfl, x, z, D, rfl, net, ok, kn, fun v H1 s1 _ => ?_⟩
  obtain ⟨dx, la, wa, ba, ea, ra, h1, h2, h3, h4, ⟨ke, e5, t5⟩, h6⟩ := net.same s1
  refine ⟨_, rfl, x, C, dx, _, .ref ea, rfl, h1, N.c, N.e, rfl, ea, rfl, .inl ⟨ke, .inl e5⟩, _, rfl, ?_⟩
  rcases t5.get z with ⟨l1, v1⟩ | ⟨n2, v2, l1, v1, d2⟩
  · exact ⟨none, .inl ⟨ke, .inr z, .inl e5, rfl, v1.symm⟩, k _ _ s1 (by show _ = wkV (look _ _); rw [l1]; rfl)⟩
  · cases st_at d2
    exact ⟨some (.str n2), .inl ⟨ke, .inr z, .inl e5, rfl, v1.symm⟩, k _ _ s1 (by show _ = wkV (look _ _); rw [l1]; rfl)⟩
theorem scRo : FnScope ["self", "event", "root", "chain"] ["self", "event"] (defScope m_Net_road) := ⟨rfl, rfl, rfl, by decide +kernel, rfl, by decide +kernel, by decide +kernel⟩
/-- the road as a value -/
def rRoad (K : PySem.W.Frag) (D : PlainD) (z : Str) (v : V) (H H' : Hp) : Prop := ∃ (t u : Addr) (root : Str) (ch : List Str), v = .ref t ∧ Road D.W z root ch ∧ H' t = some (.tup [.str root, .ref u]) ∧ H' u = some (.tup (ch.map V.str))
theorem ok_ro {f fE C : Addr} {fd dE : FuncData} (F : Fun K "road" "Net.road" m_Net_road f fd) (N : NetK K C) (mE : Meth K C "_need_event" fE) (GE : FnOk P w K mg base CX0 1 fE dE ["self", "event"] (spEvt K C fun _ _ v _ _ => v = .non)) (bE : Binds K dE ["self", "event"] [])
    (zT : mg "tuple" = none) : FnOk P w K mg base CX0 2 f fd ["self", "event"] (spEvt K C (rRoad K)) := by
  refine F.ok scRo (fun vs H Q E h => ?_) (fun cdv A outer s H vs Q E hr h => ?_)
  · obtain ⟨x, z, D, rfl, _⟩ := h
    rfl
  obtain ⟨x, z, D, rfl, net, ok, kn, k⟩ := h
  refine ⟨_, pss_cons (ps_expr (pe_meth (E := E0) (pv 0) N.c mE GE (Room.mono hr (by decide)) bE .nil pass0 (pa_cons (pv 1) pa_nil)))
    (pss_cons (ps_set (i := 2) scRo.nd rfl (Or.inl rfl) (pv 1))
    (pss_cons (ps_set (i := 3) scRo.nd rfl (Or.inl rfl) (pe_lst pa_nil))
    (pss_cons (ps_while PassesOwn.never (pt_cmp (pc_din (hu_of hr) (pv 2) (pe_fld (pv 0) rfl)))
      (pss_cons (ps_expr (pe_bm PySem.F.plainAttrs_list PySem.F.slot_list_append PySem.F.type_list_append mt_append (pv 3) (pa_cons (pe_dget (hu_of hr) (pe_fld (pv 0) rfl) (pv 2) (fun _ _ => rfl)) pa_nil)))
      (pss_one (ps_set (i := 2) scRo.nd rfl (Or.inl rfl) (pe_ix (r := rIxT K) ix_tup (pe_dget (hu_of hr) (pe_fld (pv 0) rfl) (pe_dget (hu_of hr) (pe_fld (pv 0) rfl) (pv 2) (fun _ _ => rfl)) (fun _ _ => rfl)) pe_int (fun _ _ => rfl))))))
    (pss_one (ps_ret (pe_tup (pa_cons (pv 2) (pa_cons (pe_callTy call_tuple_of (by rfl) zT (by decide +kernel) (pa_cons (pe_revL (pv 3)) pa_nil)) pa_nil)))))))), ?_⟩
  obtain ⟨dx, la, wa, ba, ea, ra, h1, _⟩ := id net
  obtain ⟨rk, hrk⟩ := ok.w.rank
  refine ⟨_, rfl, x, dx, _, rfl, h1, rfl, _, rfl, x, z, D, rfl, net, ok, kn, fun v H1 s1 _ => ?_⟩
  obtain ⟨root, ch, hro⟩ := Road.ex ok.w z
  have l60 := ok.w.len
  have ll := hro.len ok.w
  refine ⟨_, rfl, Nat.zero_le _, fun c nc => ?_⟩
  refine ⟨fun m σ H' => ∃ (ev : Str) (done rest : List Str), σ = [some (.ref x), some (.str z), some (.str ev), some (.ref c)] ∧ Same H1 H' ∧ H' c = some (.lst (done.map V.str)) ∧ Road D.W ev root rest ∧ ch = rest ++ done.reverse ∧ m = rk ev, ⟨_, z, [], ch, rfl, same_new nc, upd_same, hro, by simp, rfl⟩, ?_⟩
  rintro m σ H' ⟨ev, done, rest, rfl, s2, hc, hr2, ech, rfl⟩
  obtain ⟨dx, la, wa, ba, ea, ra, h1, h2, h3, h4, h5, h6⟩ := net.same (s1.trans s2)
  obtain ⟨o, g, eo⟩ := h5.tr.has ev
  refine ⟨_, rfl, _, rfl, x, C, dx, _, .ref ea, rfl, h1, N.c, N.e, rfl, ea, o, rfl, g, _, rfl, ?_⟩
  rw [eo]
  have ld : done.length ≤ 60 := by
    have := congrArg List.length ech
    rw [List.length_append, List.length_reverse] at this
    omega
  cases hr2 with
  | stop e =>
    rw [decide_eq_false (look_none.mp e)]
    have fin : ch = done.reverse := by rw [ech, List.nil_append]
    refine iteF ⟨_, rfl, _, rfl, c, _, rfl, SqL.of hc, fun p np => ⟨p, _, rfl, .inl ⟨SqL.of upd_same, fun u nu => ⟨by show 2 ≤ sizeLine; decide, fun t nt => k _ _ (s1.trans (s2.trans ((same_new np).trans ((same_new nu).trans (same_new nt))))) ⟨t, u, _, ch, rfl, hro, upd_same, ?_⟩⟩⟩⟩⟩
    have e3 : (done.map V.str).reverse = ch.map V.str := by rw [fin, List.map_reverse]
    exact (same_new nt _ _ upd_same).trans (congrArg (fun l => some (HO.tup l)) e3)
  | step e lx h7 =>
    rename_i n xw cr
    rw [decide_eq_true (look_some.mp (by rw [e]; rfl))]
    obtain ⟨v2, g2, d2⟩ := h5.tr.get e
    cases st_at d2
    obtain ⟨xw', lx', ex⟩ := endW_ok ok.w _ _ e
    rw [lx] at lx'
    cases lx'
    have lt : rk xw.1 < rk ev := by rw [← ex]; exact hrk _ (look_mem lx)
    have s3 : Same H1 (upd H' c (.lst (done.map V.str ++ [V.str n]))) := same_mut s2 nc
    obtain ⟨dx', la', wa', ba', ea', ra', h1', h2', h3', h4', h5', h6'⟩ := net.same (s1.trans s3)
    obtain ⟨v5, g5, d5⟩ := h5'.tr.get e
    cases st_at d5
    obtain ⟨u6, g6, d6⟩ := h3'.tr.get lx
    obtain ⟨t6, rfl, ht6⟩ := wk_at d6
    refine iteT ⟨fun σ' H'' => ∃ m', m' < rk ev ∧ ∃ (ev : Str) (done rest : List Str), σ' = [some (.ref x), some (.str z), some (.str ev), some (.ref c)] ∧ Same H1 H'' ∧ H'' c = some (.lst (done.map V.str)) ∧ Road D.W ev root rest ∧ ch = rest ++ done.reverse ∧ m' = rk ev, fun _ _ q => q, ?_⟩
    refine ⟨_, rfl, .inl ⟨rfl, _, SqL.of hc⟩, _, rfl, x, C, dx, _, .ref ea, rfl, h1, N.c, N.e, rfl, _, rfl, ea, _, rfl, g2, c, _, _, rfl, rfl, hc, by rw [List.length_map, sizeLine_eq]; omega, ?_⟩
    refine ⟨_, rfl, x, C, dx', _, .ref wa', rfl, h1', N.c, N.w, rfl, _, rfl, x, C, dx', _, .ref ea', rfl, h1', N.c, N.e, rfl, _, rfl, ea', _, rfl, g5, wa', _, rfl, g6, t6, _, 0, .str xw.1, rfl, rfl, ht6, atI_nat (j := 0) rfl, ?_⟩
    exact ⟨_, lt, xw.1, done ++ [n], cr, rfl, s3, by rw [upd_same, List.map_append]; rfl, h7, by rw [ech, List.reverse_append, List.append_assoc]; rfl, rfl⟩
end
end LW
namespace LW
open PySem PySem.Spec PyProof.Rows L2 DW
def nS (n : Nat) : Str := toString ((n : Nat) : Int)
def strN (a b c : Nat) : Str := ((((((("net of " : Str) ++ nS a) ++ (" events, " : Str)) ++ nS b) ++ (" works, " : Str)) ++ nS c) ++ (" bounds" : Str))
theorem nS_len {n : Nat} (h : n ≤ 400) : (nS n).length ≤ 100 := by
  have key : ∀ m : Fin 401, (nS m.val).length ≤ 100 := by decide +kernel
  exact key ⟨n, by omega⟩
theorem n_log {n : Nat} (h : n ≤ 400) : ((n : Nat) : Int).natAbs.log2 < 1920 := by
  have key : ∀ m : Fin 401, m.val.log2 < 1920 := by decide +kernel
  exact key ⟨n, by omega⟩
section
variable {P : Program} {w : World} {K : PySem.W.Frag} {mg : Str → Option Value} {base : Heap}
theorem scCo : FnScope ["self", "value"] ["self", "value"] (defScope m_Net_contains) := ⟨rfl, rfl, rfl, by decide +kernel, rfl, by decide +kernel, by decide +kernel⟩
def inNetB (D : PlainD) : PyData → Bool
  | .str z => decide (z ∈ D.L.map (·.1)) | _ => false
def spCon (K : PySem.W.Frag) (C : Addr) : Sp := fun vs H Q _ => ∃ (x : Addr) (v : V) (d : PyData) (D : PlainD), vs = [.ref x, v] ∧ NetAt K C H x D ∧ Dd K H v d ∧ Q (.bl (inNetB D d)) H
theorem ok_co {f C : Addr} {fd : FuncData} (F : Fun K "__contains__" "Net.__contains__" m_Net_contains f fd) (N : NetK K C) (zI : mg "isinstance" = none) (zS : mg "str" = none) : FnOk P w K mg base CX0 1 f fd ["self", "value"] (spCon K C) := by
  refine F.ok scCo (fun vs H Q E h => ?_) (fun cdv A outer s H vs Q E hr h => ?_)
  · obtain ⟨x, v, d, D, rfl, _⟩ := h
    rfl
  obtain ⟨x, v, d, D, rfl, ⟨dx, la, wa, ba, ea, ra, h1, h2, h3, h4, h5, h6⟩, hd, k⟩ := h
  refine ⟨_, pss_one (ps_ret (pe_and (pe_callB call_isi (by rfl) zI (by rfl) (pa_cons (pv 1) (pa_cons (pe_bltn rfl zS (by rfl) (show RelV (.ty "str") (.type "str") from rfl)) pa_nil)))
    (pe_one (pe_cmp (pc_din (hu_of hr) (pv 1) (pe_fld (pv 0) rfl)))))), ?_⟩
  refine rd_isi rfl hd (kit_str d) ⟨_, rfl, ?_⟩
  match d, hd, k with
  | .str z, hd, k =>
    have e : v = .str z := by cases hd with | base h _ => cases h; rfl
    subst e
    obtain ⟨o, g, eo⟩ := h2.tr.has z
    exact iteT ⟨_, rfl, _, rfl, x, C, dx, _, .ref la, rfl, h1, N.c, N.l, rfl, la, o, rfl, g, by rw [eo]; exact k⟩
  | .none, _, k => exact iteF k
  | .bool _, _, k => exact iteF k
  | .int _, _, k => exact iteF k
  | .tuple _, _, k => exact iteF k
  | .list _, _, k => exact iteF k
  | .dict _, _, k => exact iteF k
theorem scSt : FnScope ["self"] ["self"] (defScope m_Net_str) := ⟨rfl, rfl, rfl, by decide +kernel, rfl, by decide +kernel, by decide +kernel⟩
theorem ok_st {f C : Addr} {fd : FuncData} (F : Fun K "__str__" "Net.__str__" m_Net_str f fd) (N : NetK K C) (zL : mg "len" = none) : FnOk P w K mg base CX0 1 f fd ["self"] (spGet K C fun D v _ _ => v = .str (strN D.L.length D.W.length D.B.length)) := by
  refine F.ok scSt (fun vs H Q E h => ?_) (fun cdv A outer s H vs Q E hr h => ?_)
  · obtain ⟨x, D, rfl, _⟩ := h
    rfl
  obtain ⟨x, D, rfl, ⟨dx, la, wa, ba, ea, ra, h1, ⟨ka, e2, t2⟩, ⟨kb, e3, t3⟩, ⟨kc, e4, t4⟩, h5, h6⟩, ok, k⟩ := h
  refine ⟨_, pss_one (ps_ret (pe_joined (.cons pe_str (.cons (pe_fmt (pe_callB call_lenD (by rfl) zL PySem.boot_len (pa_cons (pe_fld (pv 0) rfl) pa_nil))) (.cons pe_str (.cons (pe_fmt (pe_callB call_lenD (by rfl) zL PySem.boot_len (pa_cons (pe_fld (pv 0) rfl) pa_nil)))
    (.cons pe_str (.cons (pe_fmt (pe_callB call_lenD (by rfl) zL PySem.boot_len (pa_cons (pe_fld (pv 0) rfl) pa_nil))) (.cons pe_str .nil))))))))), ?_⟩
  have la' : ka.length = D.L.length := Paired.length t2
  have lb : kb.length = D.W.length := Paired.length t3
  have lc : kc.length = D.B.length := Paired.length t4
  have n1 := ok.l.len.2
  have n2 := ok.w.len
  have n3 := ok.b.len
  have g1 := nS_len (n := ka.length) (by omega)
  have g2 := nS_len (n := kb.length) (by omega)
  have g3 := nS_len (n := kc.length) (by omega)
  have fin := k (.str (strN D.L.length D.W.length D.B.length)) H (Same.refl H) rfl
  rw [← la', ← lb, ← lc] at fin
  have z0 : Str.empty ++ ("net of " : Str) = ("net of " : Str) := Str.append_left_empty (by rfl)
  refine ⟨_, rfl, by decide, _, rfl, x, C, dx, _, .ref la, rfl, h1, N.c, N.l, rfl, la, ka, rfl, e2, .inr ⟨_, rfl, n_log (by omega), nS ka.length, rfl, ?_, _, rfl, ?_, _, rfl, x, C, dx, _, .ref wa, rfl, h1, N.c, N.w, rfl, wa, kb, rfl, e3, .inr ⟨_, rfl, n_log (by omega), nS kb.length, rfl, ?_, _, rfl, ?_, _, rfl, x, C, dx, _, .ref ba, rfl, h1, N.c, N.b, rfl, ba, kc, rfl, e4, .inr ⟨_, rfl, n_log (by omega), nS kc.length, rfl, ?_, _, rfl, ?_, ?_⟩⟩⟩⟩
  · simp only [PySem.Str.length_append]
    have e1 : (Str.empty).length = 0 := by decide
    have e2 : ("net of " : Str).length = 7 := by decide
    rw [sizeLine_eq]
    omega
  · simp only [PySem.Str.length_append]
    have e1 : (Str.empty).length = 0 := by decide
    have e2 : ("net of " : Str).length = 7 := by decide
    have e3 : (" events, " : Str).length = 9 := by decide
    rw [sizeLine_eq]
    omega
  · simp only [PySem.Str.length_append]
    have e1 : (Str.empty).length = 0 := by decide
    have e2 : ("net of " : Str).length = 7 := by decide
    have e3 : (" events, " : Str).length = 9 := by decide
    rw [sizeLine_eq]
    omega
  · simp only [PySem.Str.length_append]
    have e1 : (Str.empty).length = 0 := by decide
    have e2 : ("net of " : Str).length = 7 := by decide
    have e3 : (" events, " : Str).length = 9 := by decide
    have e4 : (" works, " : Str).length = 8 := by decide
    rw [sizeLine_eq]
    omega
  · simp only [PySem.Str.length_append]
    have e1 : (Str.empty).length = 0 := by decide
    have e2 : ("net of " : Str).length = 7 := by decide
    have e3 : (" events, " : Str).length = 9 := by decide
    have e4 : (" works, " : Str).length = 8 := by decide
    rw [sizeLine_eq]
    omega
  · simp only [PySem.Str.length_append]
    have e1 : (Str.empty).length = 0 := by decide
    have e2 : ("net of " : Str).length = 7 := by decide
    have e3 : (" events, " : Str).length = 9 := by decide
    have e4 : (" works, " : Str).length = 8 := by decide
    have e5 : (" bounds" : Str).length = 7 := by decide
    rw [sizeLine_eq]
    omega
  · show Q (.str (Str.empty ++ ("net of " : Str) ++ nS ka.length ++ (" events, " : Str) ++ nS kb.length ++ (" works, " : Str) ++ nS kc.length ++ (" bounds" : Str))) H
    rw [z0]
    exact fin
end
end LW
namespace LW
open PySem PySem.Spec PyProof.Rows L2 DW
/-- a pair of texts -/
def pairS : PyData → Bool
  | .tuple [.str _, .str _] => true | _ => false
section
variable {P : Program} {w : World} {K : PySem.W.Frag} {mg : Str → Option Value} {base : Heap}
theorem scRw : FnScope ["self", "word", "part"] ["self", "word"] (defScope m_Net_row) := ⟨rfl, rfl, rfl, by decide +kernel, rfl, by decide +kernel, by decide +kernel⟩
def spRow (K : PySem.W.Frag) (C CO : Addr) : Sp := fun vs H Q E => ∃ (x : Addr) (v : V) (D : PlainD), vs = [.ref x, v] ∧ NetAt K C H x D ∧ OkN D ∧
  ((∃ (t : Addr) (a b : Str), v = .ref t ∧ H t = some (.tup [.str a, .str b]) ∧ (∀ r, ((a, b), r) ∈ toldR D → ∀ u H', Same H H' → TTv K H' u r → Q u H') ∧ ((a, b) ∉ (toldR D).map (·.1) → ∀ H', Same H H' → E (.ref CO) none H')) ∨
   (∃ d, Dd K H v d ∧ Fit d ∧ pairS d = false ∧ ∀ H', Same H H' → E (.ref CO) none H'))
/-- all([isinstance(x, str) for x in t]) -/
theorem rd_strs {a : Addr} {xs : List V} {ds : List PyData} {H : Hp} {σ : L2.St} {i j : Nat} {Q : VK} (hi : σ[i]? = some (some (.ref a))) (hj : j < σ.length) (ha : SqT K H a xs) (hp : DpAll K H xs ds) (hn : ∀ x ∈ ds, x.hasDict = false) (hl : ds.length ≤ 1000) (k : ∀ H', Same H H' → Q (.bl (ds.all isStrT)) H') :
    tCB (rAll K) (tCons (tLc (iTup K (tVar i)) (gName j) tYes (tCB (rIsi K) (tCons (tVar j) (tCons (tC (.ty "str")) tNil))) [j]) tNil) σ H Q := by
  refine ⟨_, hi, a, rfl, ⟨xs, ha⟩, fun D hD => lc_tup (K := K) (xs := xs) (fun n H' => Same H H' ∧ H' D = some (.lst (((ds.take n).map isStrT).map V.bl))) ⟨same_new hD, upd_same⟩ (fun n H' _ p => sqT_wk (Wk.of p.1) ha) (fun n x H' hx p => ?_) (fun H' p => ?_)⟩
  · obtain ⟨s1, hy⟩ := p
    obtain ⟨d, hd, hr⟩ := DpAll.at hp hx
    have m : d ∈ ds := List.mem_of_getElem? hd
    refine ⟨by simp [gName, wipe], tyes ?_⟩
    refine rd_isi (d := d) (by simp [wipe, hj]) (.base (Dp.wk (Wk.of s1) hr) (hn d m)) (kit_str d) ⟨_, hy, ?_, same_mut s1 hD, ?_⟩
    · rw [List.length_map, List.length_map, List.length_take, sizeLine_eq]
      omega
    · rw [upd_same, take_succ_map hd, List.map_append]
      rfl
  · obtain ⟨s1, hy⟩ := p
    rw [DpAll.length hp, List.take_length] at hy
    refine fin_all hy ?_
    rw [List.all_map]
    exact k H' s1
theorem ok_rw {f fP C CO : Addr} {fd dP : FuncData} (F : Fun K "row" "Net.row" m_Net_row f fd) (N : NetK K C) (CP : Cal P w K mg base 1 "is_pair" ["value"] (spJn K 0 pairD) fP dP) (o : Pl K mg "InvalidOperation" CO)
    (zI : mg "isinstance" = none) (zS : mg "str" = none) (zA : mg "all" = none) : FnOk P w K mg base (L2.CX P w) 2 f fd ["self", "word"] (spRow K C CO) := by
  refine F.okX scRw (fun vs H Q E h => ?_) (fun cdv A outer s H vs Q E hr h => ?_)
  · obtain ⟨x, v, D, rfl, _⟩ := h
    rfl
  obtain ⟨x, v, D, rfl, net, ok, h⟩ := h
  refine ⟨_, pss_cons (ps_if (PW.pt (pw_or (pt_not (pt_val (pe_cal (E := E0) CP hr rfl (pa_cons (pv 1) pa_nil))))
        (pw_or (pt_not (pt_val (pe_callB (cr_all rfl) (by rfl) zA (by decide +kernel) (pa_cons (pe_lc (own := [("part", 2)]) (g := gName 2) (tt := tYes) (te := tCB (rIsi K) (tCons (tVar 2) (tCons (tC (.ty "str")) tNil))) rfl scRw.nd (pi_tup (pv 1)) (blkOk_by (own := [("part", 2)]) (N := ["self", "word", "part"]) (sc := defScope m_Net_row) (by decide +kernel))
          (fun _ _ _ _ _ => pg_name (i := 2) scRw.nd rfl (Or.inl rfl)) (fun _ _ _ _ _ => pts_nil) (fun _ _ _ _ _ => pe_callB call_isi (by rfl) zI (by rfl) (pa_cons (pv 2) (pa_cons (pe_bltn rfl zS (by rfl) (show RelV (.ty "str") (.type "str") from rfl)) pa_nil)))) pa_nil))))
        (pw_or1 (pt_cmp (pc_dnotin (hu_of hr) (pv 1) (pe_fld (pv 0) rfl)))))))
      (pss_one (ps_raise rfl (takes_of rfl rfl rfl rfl) (pmk_exq0 rfl (pe_exP PySem.F.excBase_ValueError o.q o.hi o.ex.kC o.g rfl pe_str)))) pss_nil)
    (pss_one (ps_ret (pe_dget (hu_of hr) (pe_fld (pv 0) rfl) (pv 1) (fun _ _ => rfl)))), ?_⟩
  have bad : ∀ H', Same H H' → (∀ H2, Same H H2 → E (.ref CO) none H2) → ∀ {σ : L2.St} {m : Str}, tExP CO (tC (.str m)) σ H' fun x H1 => ∃ (a C t : Addr), x = .ref a ∧ H1 a = some (exq a C none t) ∧ Fr0 (cxOf (L2.CX P w) P w K mg base ["self", "word", "part"] "Net.row" (defScope m_Net_row) f cdv A outer s H E).H_0 a ∧
      Raises (cxOf (L2.CX P w) P w K mg base ["self", "word", "part"] "Net.row" (defScope m_Net_row) f cdv A outer s H E) (.ref C) ∧ E (.ref C) none (delH H1 a) := fun H' s1 kE {σ m} =>
    rd_pl (raises_own o.ex.ex o.ty) (fun a n => none_of s1 n) fun H2 s2 => kE _ (Same.trans s1 s2)
  rcases h with ⟨t, a, b, rfl, ht, kQ, kE⟩ | ⟨d, hd, hf, hp, kE⟩
  · have hd : Dd K H (.ref t) (.tuple [.str a, .str b]) := .base (.tup (SqT.of ht) (.cons (.str a) (.cons (.str b) .nil))) rfl
    refine ⟨_, rfl, .ref t, _, rfl, hd, (fun z e => nomatch e), fun H1 s1 => ⟨_, rfl, iteF ?_⟩⟩
    refine rd_strs (K := K) (ds := [.str a, .str b]) rfl (by show 2 < 3; decide) (SqT.of (s1 _ _ ht)) (.cons (.str a) (.cons (.str b) .nil)) (by intro y hy; simp at hy; rcases hy with rfl | rfl <;> rfl) (by show 2 ≤ 1000; decide) fun H2 s2 => ⟨_, rfl, iteF ?_⟩
    have s12 := s1.trans s2
    obtain ⟨dx, la, wa, ba, ea, ra, h1, h2, h3, h4, h5, ⟨kt, e6, t6⟩⟩ := net.same s12
    have ht2 := s12 _ _ ht
    refine ⟨_, rfl, _, rfl, x, C, dx, _, .ref ra, rfl, h1, N.c, N.r, rfl, ra, _, rfl, DGet.t (k := kP a b) e6 ht2, _, rfl, ?_⟩
    by_cases m : (a, b) ∈ (toldR D).map (·.1)
    · obtain ⟨⟨k2, r⟩, hr, e⟩ := List.mem_map.mp m
      obtain rfl : k2 = (a, b) := e
      obtain ⟨u, hu, tu⟩ := t6.get (told_nodup ok) hr
      refine ite0 (by rw [hu]; rfl) ⟨_, rfl, x, C, dx, _, .ref ra, rfl, h1, N.c, N.r, rfl, _, rfl, ra, u, rfl, ?_, kQ r hr u _ s12 tu⟩
      rw [← hu]
      exact DGet.t (k := kP a b) e6 ht2
    · exact ite1 (by rw [t6.none m]; rfl) (bad H2 s12 (kE m))
  · refine ⟨_, rfl, v, d, rfl, hd, hf, fun H1 s1 => ⟨_, rfl, ?_⟩⟩
    by_cases pd : pairD d = true
    · rw [pd]
      match d, hd, hp, pd with
      | .tuple ds, hd, hp, pd =>
        obtain ⟨p, xs, rfl, hs, ha, hn⟩ := hd.tup_inv
        have l2 : ds.length = 2 := of_decide_eq_true pd
        refine iteF (rd_strs (K := K) (ds := ds) rfl (by show 2 < 3; decide) (sqT_wk (Wk.of s1) hs) (DpAll.wk (Wk.of s1) ha) hn (by omega) fun H2 s2 => ⟨_, rfl, ?_⟩)
        have no : ds.all isStrT = false := by
          match ds, l2, hp with
          | [x, y], _, hp =>
            cases x <;> cases y <;> first | rfl | (cases hp)
        rw [no]
        exact iteT (bad H2 (s1.trans s2) kE)
    · rw [Bool.not_eq_true] at pd
      rw [pd]
      exact iteT (bad H1 s1 kE)
end
end LW
namespace DW
open PySem PySem.Spec PyProof.Rows L2 PySem.W
/-! ### dicts of data compared -/
section
variable {α : Type} (enc : α → PyData)
def eqX (la lb : List (Str × α)) : Bool := la.all fun p => match look lb p.1 with
  | none => false
  | some y => PyData.eqv (enc p.2) (enc y)
def eqTab (la lb : List (Str × α)) : Bool := (la.length == lb.length) && eqX enc la lb
end
/-- values that can be compared at once -/
def Alk {α : Type} (enc : α → PyData) : Prop := ∀ x y, PySem.W.alike (enc x) (enc y) = true ∧ (enc x).depth ≤ 50
section
variable {X : Cx} {pins : List (Addr × Obj)} {σ : L2.St} {H : Hp} {s : Shared} {α : Type} {enc : α → PyData} {A : Around}
theorem hits_tx (I : Inv X pins σ H s) (ak : Alk enc) (hu : A.units + 64 < cLine) {kb : List (Key × V)} {lb : List (Str × α)} {vb : List (Key × Value)} (tb : Tx enc X.K H kb lb) (rb : KV kb vb) :
    ∀ {ka : List (Key × V)} {la : List (Str × α)} {va : List (Key × Value)}, Tx enc X.K H ka la → KV ka va → KeqHits A s vb va (eqX enc la lb)
  | [], la, va, ta, ra => by
    cases ta
    cases ra
    exact .nil
  | p :: ka, la, va, ta, ra => by
    cases ta with
    | cons h1 t1 =>
      cases ra with
      | cons h2 t2 =>
        rename_i l la' q va'
        obtain ⟨k, v⟩ := q
        have ih := hits_tx I ak hu tb rb t1 t2
        have ek : k = .inr l.1 := by
          have e1 : p.1 = k := h2.1
          rw [← e1]
          exact h1.1
        subst ek
        have rv := rb.val (.inr l.1)
        rcases tb.get l.1 with ⟨e1, e2⟩ | ⟨y, u, e1, e2, du⟩
        · rw [e2] at rv
          have hn : valueAt vb (.inr l.1) = none := RelO.none_of rv
          have e : eqX enc (l :: la') lb = false := by
            unfold eqX
            rw [List.all_cons, e1]
            rfl
          rw [e]
          exact .miss hn
        · rw [e2] at rv
          obtain ⟨z, hz, rz⟩ := rv.some_of
          have e : eqX enc (l :: la') lb = (PyData.eqv (enc l.2) (enc y) && eqX enc la' lb) := by
            unfold eqX
            rw [List.all_cons, e1]
          rw [e]
          obtain ⟨as, r1⟩ := Dp.reads I _ _ _ h1.2 h2.2
          obtain ⟨bs, r2⟩ := Dp.reads I _ _ _ du rz
          have dl := (ak l.2 y).2
          exact .hit hz (eqAt_alike _ _ _ _ _ _ _ _ r1 r2 (ak l.2 y).1 (by have := Nat.min_le_left (enc l.2).depth (enc y).depth; omega)) ih
def rEqT (K : PySem.W.Frag) (enc : α → PyData) : R2 := fun x y H Q => ∃ a b la lb, x = .ref a ∧ y = .ref b ∧ TR enc K H a la ∧ TR enc K H b lb ∧ Q (.bl (eqTab enc la lb)) H
def rNeT (K : PySem.W.Frag) (enc : α → PyData) : R2 := fun x y H Q => ∃ a b la lb, x = .ref a ∧ y = .ref b ∧ TR enc K H a la ∧ TR enc K H b lb ∧ Q (.bl (!eqTab enc la lb)) H
end
section
variable {X : Cx} {α : Type} {enc : α → PyData}
theorem op_eqT (ak : Alk enc) (hu : X.A.units + 70 < cLine) : OpR X (compareOp .Eq) (rEqT X.K enc) := by
  intro pins s σ H x y v u Q I rx ry h
  obtain ⟨a, b, la, lb, rfl, rfl, ⟨ka, ea, ta⟩, ⟨kb, eb, tb⟩, q⟩ := h
  obtain rfl : v = Value.ref a := rx
  obtain rfl : u = Value.ref b := ry
  obtain ⟨_, ya, va, ra, da⟩ := dk_rd I.hok ea
  obtain ⟨_, yb, vb, rb, db⟩ := dk_rd I.hok eb
  have l1 : va.length = la.length := by rw [← ra.length]; exact Paired.length ta
  have l2 : vb.length = lb.length := by rw [← rb.length]; exact Paired.length tb
  refine keq_eq (knd := mixKind X.prog X.w) (r := eqX enc la lb) ya yb da db (by omega) (fun _ => hits_tx I ak (by show X.A.units + 1 + 64 < cLine; omega) tb rb ta ra) (fin_bl I q ?_)
  rw [l1, l2]
  rfl
theorem op_neT (ak : Alk enc) (hu : X.A.units + 70 < cLine) : OpR X (compareOp .NotEq) (rNeT X.K enc) := by
  intro pins s σ H x y v u Q I rx ry h
  obtain ⟨a, b, la, lb, rfl, rfl, ⟨ka, ea, ta⟩, ⟨kb, eb, tb⟩, q⟩ := h
  obtain rfl : v = Value.ref a := rx
  obtain rfl : u = Value.ref b := ry
  obtain ⟨_, ya, va, ra, da⟩ := dk_rd I.hok ea
  obtain ⟨_, yb, vb, rb, db⟩ := dk_rd I.hok eb
  have l1 : va.length = la.length := by rw [← ra.length]; exact Paired.length ta
  have l2 : vb.length = lb.length := by rw [← rb.length]; exact Paired.length tb
  refine keq_ne (knd := mixKind X.prog X.w) (r := eqX enc la lb) ya yb da db (by omega) (fun _ => hits_tx I ak (by show X.A.units + 1 + 64 < cLine; omega) tb rb ta ra) (fin_bl I q ?_)
  rw [l1, l2]
  rfl
end
end DW
namespace LW
open PySem PySem.Spec PyProof.Rows L2 DW
theorem u70 {k : Nat} {A : Around} (r : Room k A) : A.units + 70 < cLine := by
  have := r.un
  omega
theorem alk_in : Alk inD := fun x y => ⟨by simp [inD, PySem.W.alike], by simp [inD, PyData.depth]⟩
theorem alk_wk : Alk wkD := fun x y => ⟨by simp [wkD, PySem.W.alike, PySem.W.alikeAll], by simp [wkD, PyData.depth, PyData.depthAll]⟩
theorem alk_bd : Alk bdD := fun x y => ⟨by simp [bdD, PySem.W.alike, PySem.W.alikeAll], by simp [bdD, PyData.depth, PyData.depthAll]⟩
def eqN (D D' : PlainD) : Bool := eqTab inD D.L D'.L && (eqTab wkD D.W D'.W && eqTab bdD D.B D'.B)
section
variable {P : Program} {w : World} {K : PySem.W.Frag} {mg : Str → Option Value} {base : Heap}
theorem scEq : FnScope ["self", "other"] ["self", "other"] (defScope m_Net_eq) := ⟨rfl, rfl, rfl, by decide +kernel, rfl, by decide +kernel, by decide +kernel⟩
def spEq (K : PySem.W.Frag) (C : Addr) : Sp := fun vs H Q _ => ∃ (x : Addr) (v : V) (D : PlainD), vs = [.ref x, v] ∧ NetAt K C H x D ∧
  ((∃ (y : Addr) (D' : PlainD), v = .ref y ∧ NetAt K C H y D' ∧ Q (.bl (eqN D D')) H) ∨ (∃ t, TyX K H v (.type t) ∧ PySem.W.kitOne K (.type t) (.ref C) = some false ∧ Q (.bl false) H))
theorem ok_eq {f C : Addr} {fd : FuncData} (F : Fun K "__eq__" "Net.__eq__" m_Net_eq f fd) (N : NetK K C) (g : mg "Net" = some (.ref C)) (IC : C8.InsC K C) (zI : mg "isinstance" = none) : FnOk P w K mg base CX0 1 f fd ["self", "other"] (spEq K C) := by
  refine F.ok scEq (fun vs H Q E h => ?_) (fun cdv A outer s H vs Q E hr h => ?_)
  · obtain ⟨x, v, D, rfl, _⟩ := h
    rfl
  obtain ⟨x, v, D, rfl, ⟨dx, la, wa, ba, ea, ra, h1, h2, h3, h4, h5, h6⟩, h⟩ := h
  refine ⟨_, pss_cons (ps_if (pt_not (pt_val (pe_callB call_isi (by rfl) zI (by rfl) (pa_cons (pv 1) (pa_cons (pe_glob rfl g (show RelV (.ref C) (.ref C) from rfl)) pa_nil))))) (pss_one (ps_ret pe_bl)) pss_nil)
    (pss_one (ps_ret (pe_and (pe_cmpR (op_eqT alk_in (u70 hr)) (pe_fld (pv 0) rfl) (pe_fld (pv 1) rfl) (nomark _)) (pe_and (pe_cmpR (op_eqT alk_wk (u70 hr)) (pe_fld (pv 0) rfl) (pe_fld (pv 1) rfl) (nomark _)) (pe_one (pe_cmpR (op_eqT alk_bd (u70 hr)) (pe_fld (pv 0) rfl) (pe_fld (pv 1) rfl) (nomark _))))))), ?_⟩
  rcases h with ⟨y, D', rfl, ⟨dy, lb, wb, bb, eb, rb, g1, g2, g3, g4, g5, g6⟩, k⟩ | ⟨t, ty, kt, k⟩
  · refine ⟨_, rfl, _, .ref C, _, _, _, rfl, .own _, .base (.ins g1 IC.cl IC.ha IC.hn IC.htk IC.hm), IC.me, _, rfl, iteF ?_⟩
    refine ⟨_, rfl, x, C, dx, _, .ref la, rfl, h1, N.c, N.l, rfl, _, rfl, y, C, dy, _, .ref lb, rfl, g1, N.c, N.l, rfl, la, lb, D.L, D'.L, rfl, rfl, h2.tr, g2.tr, _, rfl, ?_⟩
    unfold eqN at k
    cases e1 : eqTab inD D.L D'.L with
    | false => rw [e1] at k; exact iteF k
    | true =>
      rw [e1] at k
      refine iteT ⟨_, rfl, x, C, dx, _, .ref wa, rfl, h1, N.c, N.w, rfl, _, rfl, y, C, dy, _, .ref wb, rfl, g1, N.c, N.w, rfl, wa, wb, D.W, D'.W, rfl, rfl, h3.tr, g3.tr, _, rfl, ?_⟩
      cases e2 : eqTab wkD D.W D'.W with
      | false => rw [e2] at k; exact iteF k
      | true =>
        rw [e2] at k
        exact iteT ⟨_, rfl, x, C, dx, _, .ref ba, rfl, h1, N.c, N.b, rfl, _, rfl, y, C, dy, _, .ref bb, rfl, g1, N.c, N.b, rfl, ba, bb, D.B, D'.B, rfl, rfl, h4.tr, g4.tr, k⟩
  · exact ⟨_, rfl, _, .ref C, _, _, _, rfl, .own _, ty, kt, _, rfl, iteT k⟩
end
end LW
namespace DW
open PySem PySem.Spec PyProof.Rows L2 PySem.W
theorem merge_nodup : ∀ (more kvs : List (Key × V)), ((kvs ++ more).map (·.1)).Nodup → mergeK kvs more = kvs ++ more
  | [], kvs, _ => (List.append_nil kvs).symm
  | p :: r, kvs, h => by
    have h2 : ((kvs ++ [p] ++ r).map (·.1)).Nodup := by rw [List.append_assoc]; exact h
    have e : putK kvs p.1 p.2 = kvs ++ [p] := by
      have no : (kvs.any fun kv => decide (kv.1 = p.1)) = false := by
        rw [List.any_eq_false]
        intro q hq z
        rw [List.map_append] at h
        exact (List.nodup_append.mp h).2.2 q.1 (List.mem_map.mpr ⟨q, hq, rfl⟩) p.1 (List.mem_map.mpr ⟨p, List.mem_cons_self .., rfl⟩) (of_decide_eq_true z)
      unfold putK
      rw [no]
      rfl
    show mergeK (putK kvs p.1 p.2) r = _
    rw [e, merge_nodup r _ h2, List.append_assoc]
    rfl
theorem merge_nil {kvs : List (Key × V)} (h : (kvs.map (·.1)).Nodup) : mergeK [] kvs = kvs := merge_nodup kvs [] h
theorem paired_perm {α β : Type} {R : α → β → Prop} {l l' : List α} (p : l'.Perm l) : ∀ {m : List β}, Paired R l m → ∃ m', m'.Perm m ∧ Paired R l' m' := by
  induction p with
  | nil => intro m h; exact ⟨m, .refl _, h⟩
  | cons x _ ih =>
    intro m h
    cases h with
    | cons h t =>
      obtain ⟨m', p', h'⟩ := ih t
      exact ⟨_ :: m', p'.cons _, .cons h h'⟩
  | swap x y l =>
    intro m h
    cases h with
    | cons h t =>
      cases t with
      | cons h2 t =>
        exact ⟨_, .swap _ _ _, .cons h2 (.cons h t)⟩
  | trans _ _ ih1 ih2 =>
    intro m h
    obtain ⟨m1, p1, h1⟩ := ih2 h
    obtain ⟨m2, p2, h2⟩ := ih1 h1
    exact ⟨m2, p2.trans p1, h2⟩
def refA : V → Addr
  | .ref a => a
  | _ => 0
theorem refs_perm {ts : List Addr} {zs : List V} (p : zs.Perm (ts.map V.ref)) : ∃ ps : List Addr, zs = ps.map V.ref ∧ ps.Perm ts := by
  refine ⟨zs.map refA, ?_, ?_⟩
  · rw [List.map_map]
    have : ∀ z ∈ zs, z = (V.ref ∘ refA) z := fun z hz => by
      obtain ⟨a, _, rfl⟩ := List.mem_map.mp (p.mem_iff.mp hz)
      rfl
    conv => lhs; rw [← List.map_id zs]
    exact List.map_congr_left this
  · have := p.map refA
    rw [List.map_map] at this
    have e : ts.map (refA ∘ V.ref) = ts := by
      conv => rhs; rw [← List.map_id ts]
      rfl
    rw [e] at this
    exact this
/-- data without lists: it stays while the tuples stay -/
structure GE {α : Type} (enc : α → PyData) : Prop where
  alk : Alk enc
  stay : ∀ {K : PySem.W.Frag} {H H' : Hp} {v : V} {x : α}, (∀ c xs, Rd H c (.tup xs) → Rd H' c (.tup xs)) → Dp K H v (enc x) → Dp K H' v (enc x)
theorem Tx.stay {α : Type} {enc : α → PyData} {K : PySem.W.Frag} {H H' : Hp} {kvs : List (Key × V)} {rs : List (Str × α)} (g : GE enc) (s : ∀ c xs, Rd H c (.tup xs) → Rd H' c (.tup xs)) (h : Tx enc K H kvs rs) : Tx enc K H' kvs rs := pairedMono (fun _ _ z => ⟨z.1, g.stay s z.2⟩) h
end DW
namespace LW
open PySem PySem.Spec PyProof.Rows L2 DW
theorem ge_in : GE inD := ⟨alk_in, fun _ h => by rw [in_at h]; exact .int _⟩
theorem ge_wk : GE wkD := ⟨alk_wk, fun {K H H' v x} s h => by
  obtain ⟨t, rfl, ht⟩ := wk_at h
  exact .tup (ht.elim (fun q => .inl (s _ _ q)) .inr) (.cons (.str _) (.cons (.str _) (.cons (.int _) (.cons (.int _) (.cons (.int _) .nil)))))⟩
theorem ge_bd : GE bdD := ⟨alk_bd, fun {K H H' v x} s h => by
  obtain ⟨t, rfl, ht⟩ := bd_at h
  exact .tup (ht.elim (fun q => .inl (s _ _ q)) .inr) (.cons (.str _) (.cons (.str _) (.cons (.int _) .nil)))⟩
/-- the tuples stay while the dice is rolled -/
theorem tk_but {H H' : Hp} {D : Addr} (hD : Dc H D) (b : But D H H') : ∀ c xs, Rd H c (.tup xs) → Rd H' c (.tup xs) := fun c xs r => by
  obtain ⟨d0, d1, d2, e⟩ := hD
  have n : c ≠ D := fun z => by
    subst z
    rcases r with r | ⟨z, r⟩ <;> rw [e] at r <;> cases r
  exact r.elim (fun r => .inl (b _ _ n r)) fun ⟨z, r⟩ => .inr ⟨z, b _ _ n r⟩
theorem td_roll {α : Type} {enc : α → PyData} {K : PySem.W.Frag} {H H' : Hp} {D a : Addr} {rs : List (Str × α)} (g : GE enc) (hD : Dc H D) (b : But D H H') (h : TD enc K H a rs) : TD enc K H' a rs := by
  obtain ⟨kvs, e, t⟩ := h
  obtain ⟨d0, d1, d2, eD⟩ := id hD
  exact ⟨kvs, b _ _ (ne_of e eD (fun z => nomatch z)) e, t.stay g (tk_but hD b)⟩
theorem lot_roll {α : Type} {enc : α → PyData} {K : PySem.W.Frag} {H H' : Hp} {D : Addr} {v : V} {rs : List (Str × α)} (g : GE enc) (hD : Dc H D) (b : But D H H') (h : Lot enc K H v rs) : Lot enc K H' v rs := by
  rcases h with ⟨a, e, t⟩ | ⟨e, t, ev, ht⟩
  · exact .inl ⟨a, e, td_roll g hD b t⟩
  · exact .inr ⟨e, t, ev, ht.elim (fun q => .inl (tk_but hD b _ _ q)) .inr⟩
section
variable {P : Program} {w : World} {K : PySem.W.Frag} {mg : Str → Option Value} {base : Heap}
theorem scMix : FnScope ["dice", "some", "found"] ["dice", "some"] (defScope s_law_mixed) := ⟨rfl, rfl, rfl, by decide +kernel, rfl, by decide +kernel, by decide +kernel⟩
def spMix (K : PySem.W.Frag) : Sp := fun vs H Q _ => ∃ (D a : Addr) (α : Type) (enc : α → PyData) (rs : List (Str × α)), vs = [.ref D, .ref a] ∧ Dc H D ∧ GE enc ∧ TD enc K H a rs ∧ (rs.map (·.1)).Nodup ∧ rs.length ≤ 1000 ∧
  ∀ v H' rs', rs'.Perm rs → Lot enc K H' v rs' → But D H H' → Dc H' D → Q v H'
theorem ok_mix {f fS fR : Addr} {fd dS dR : FuncData} (F : Fun K "_law_mixed" "_law_mixed" s_law_mixed f fd) (CS : Cal P w K mg base 2 "_law_shuffled" ["dice", "items"] spShuf fS dS) (CR : Cal P w K mg base 1 "_law_roll" ["dice", "total"] spRoll fR dR)
    (zD : mg "dict" = none) (zL : mg "list" = none) : FnOk P w K mg base CX0 3 f fd ["dice", "some"] (spMix K) := by
  refine F.ok scMix (fun vs H Q E h => ?_) (fun cdv A outer s H vs Q E hr h => ?_)
  · obtain ⟨D, a, α, enc, rs, rfl, _⟩ := h
    rfl
  obtain ⟨D, a, α, enc, rs, rfl, hD, ge, ⟨kvs, ea, tx⟩, nd, hl, k⟩ := h
  refine ⟨_, pss_cons (ps_set (i := 2) scMix.nd rfl (Or.inl rfl) (pe_callTy (call_dictP rfl) (by rfl) zD (by decide +kernel) (pa_cons (pe_cal (E := E0) CS hr rfl (pa_cons (pv 0) (pa_cons (LiI.pe_listItems rfl (pv 1) rfl zL (by decide +kernel)) pa_nil))) pa_nil)))
    (pss_one (ps_ret (pe_ifExp (PW.pt (pw_and (pt_cmpR (op_eqT ge.alk (u70 hr)) (pv 2) pe_dnewK (nomark _)) (pw_and1 (pt_cmpR op_eq (pe_cal (E := E0) CR (Room.mono hr (by decide)) rfl (pa_cons (pv 0) (pa_cons pe_int pa_nil)) (Nat.le_refl _)) pe_int (nomark _))))) (pe_tup pa_nil) (pv 2)))), ?_⟩
  have ek : kvs.length = rs.length := Paired.length tx
  refine ⟨_, rfl, _, rfl, a, kvs, rfl, ea, fun H1 p ts s1 np nts npt hp1 pts => ?_⟩
  have hD1 := hD.same s1
  have pD : p ≠ D := by
    obtain ⟨d0, d1, d2, eD⟩ := hD
    exact (ne_of_none eD np).symm
  refine ⟨D, p, _, rfl, hD1, pD, hp1, by rw [List.length_map, Paired.length pts]; omega, fun L zs H2 LD hL2 pz b2 hD2 => ?_⟩
  obtain ⟨ps, rfl, pp⟩ := refs_perm pz
  obtain ⟨kvs', pk, pairs⟩ := paired_perm pp pts
  obtain ⟨rs', prs, tx'⟩ := paired_perm pk tx
  have tk1 : ∀ c xs, Rd H c (.tup xs) → Rd H1 c (.tup xs) := (Sk.of s1).2
  have tk2 := tk_but hD1 b2
  have pr2 : Paired (fun (t : Addr) (q : Key × V) => SqT K H2 t [kV q.1, q.2]) ps kvs' := pairedMono (fun t q z => .inl (tk2 _ _ (.inl z))) pairs
  have nd' : (kvs'.map (·.1)).Nodup := by
    have e : kvs.map (·.1) = (rs.map (·.1)).map Sum.inr := Tx.keys tx
    refine (pk.map (·.1)).nodup_iff.mpr ?_
    rw [e]
    exact nd.map (f := Sum.inr) (fun a b n z => n (Sum.inr.inj z))
  refine ⟨L, ps, kvs', rfl, SqL.of hL2, pr2, fun q nq => ?_⟩
  rw [merge_nil nd']
  have s3 := same_new (o := .dK kvs') nq
  have tx3 : Tx enc K (upd H2 q (.dK kvs')) kvs' rs' := Tx.stay ge (fun c xs r => (Sk.of s3).2 _ _ (tk2 _ _ (tk1 _ _ r))) tx'
  have td3 : TD enc K (upd H2 q (.dK kvs')) q rs' := ⟨kvs', upd_same, tx3⟩
  have b3 : But D H (upd H2 q (.dK kvs')) := ((Same.but s1).trans b2).trans (Same.but s3)
  have hD3 := hD2.same s3
  refine ⟨_, rfl, fun e ne => ⟨q, e, rs', [], rfl, rfl, TR.wk (Wk.of (same_new ne)) td3.tr, TD.tr (TD.nil upd_same), _, rfl, ?_⟩⟩
  have s4 := same_new (o := .dK []) ne
  have b4 := b3.trans (Same.but s4)
  have hD4 := hD3.same s4
  by_cases e0 : eqTab enc rs' [] = true
  · have r0 : rs' = [] := by
      unfold eqTab at e0
      rw [Bool.and_eq_true] at e0
      exact List.length_eq_zero_iff.mp (by simpa using e0.1)
    subst r0
    obtain ⟨d0, d1, d2, eD4⟩ := id hD4
    refine ite1 e0 ⟨_, rfl, D, d0, d1, d2, 2, rfl, eD4, by decide, by decide, fun r e0' e2' r0 r1 => ⟨rfl, _, rfl, ?_⟩⟩
    have b5 : But D (upd (upd H2 q (.dK kvs')) e (.dK [])) (upd (upd (upd H2 q (.dK kvs')) e (.dK [])) D (.lst [.int e0', .int d1, .int e2'])) := But.upd
    have hD5 : Dc (upd (upd (upd H2 q (.dK kvs')) e (.dK [])) D (.lst [.int e0', .int d1, .int e2'])) D := ⟨e0', d1, e2', upd_same⟩
    have b6 := b4.trans b5
    by_cases z : V.int r = V.int 0
    · refine ite1 (decide_eq_true z) ⟨Nat.zero_le _, fun t nt => k _ _ [] prs (.inr ⟨rfl, t, rfl, SqT.of upd_same⟩) (b6.trans (Same.but (same_new nt))) (hD5.same (same_new nt))⟩
    · refine ite0 (decide_eq_false z) ⟨_, rfl, k _ _ [] prs (.inl ⟨q, rfl, td_roll ge hD4 b5 (td3.same s4)⟩) b6 hD5⟩
  · rw [Bool.not_eq_true] at e0
    refine ite0 e0 (iteF ⟨_, rfl, k _ _ rs' prs (.inl ⟨q, rfl, td3.same s4⟩) b4 hD4⟩)
end
end LW
namespace LW
open PySem PySem.Spec PyProof.Rows L2 DW
theorem paired_snoc {β γ : Type} {R : β → γ → Prop} {l : List β} {m : List γ} {x : β} {y : γ} (h : Paired R l m) (r : R x y) : Paired R (l ++ [x]) (m ++ [y]) := by
  induction h with
  | nil => exact .cons r .nil
  | cons q t ih => exact .cons q ih
/-- the pairs of a dict, at addresses -/
def PA2 (K : PySem.W.Frag) (H : Hp) (ps : List Addr) (kvs : List (Key × V)) : Prop := Paired (fun (t : Addr) (q : Key × V) => SqT K H t [kV q.1, q.2]) ps kvs
theorem PA2.tk {K : PySem.W.Frag} {H H' : Hp} {ps : List Addr} {kvs : List (Key × V)} (s : ∀ c xs, Rd H c (.tup xs) → Rd H' c (.tup xs)) (h : PA2 K H ps kvs) : PA2 K H' ps kvs := pairedMono (fun _ _ z => z.elim (fun q => .inl (s _ _ q)) .inr) h
theorem PA2.snoc {K : PySem.W.Frag} {H : Hp} {ps : List Addr} {kvs : List (Key × V)} {t : Addr} {s : Str} {v : V} (h : PA2 K H ps kvs) (ht : SqT K H t [.str s, v]) : PA2 K H (ps ++ [t]) (kvs ++ [(.inr s, v)]) := paired_snoc h ht
theorem Tx.snoc {α : Type} {enc : α → PyData} {K : PySem.W.Frag} {H : Hp} {kvs : List (Key × V)} {rs : List (Str × α)} {p : Str × α} {v : V} (h : Tx enc K H kvs rs) (d : Dp K H v (enc p.2)) : Tx enc K H (kvs ++ [(.inr p.1, v)]) (rs ++ [p]) := paired_snoc h ⟨rfl, d⟩
/-- a list grows: the tuples stay -/
theorem tk_lst {H : Hp} {D : Addr} {xs : List V} {o : HO} (h : H D = some (.lst xs)) : ∀ c ys, Rd H c (.tup ys) → Rd (upd H D o) c (.tup ys) := fun c ys r => by
  have n : c ≠ D := fun z => by
    subst z
    rcases r with r | ⟨z, r⟩ <;> rw [h] at r <;> cases r
  unfold Rd
  rw [upd_ne n]
  exact r
section
variable {P : Program} {w : World} {K : PySem.W.Frag} {mg : Str → Option Value} {base : Heap}
theorem scSor : FnScope ["some", "name"] ["some"] (defScope s_law_sorted) := ⟨rfl, rfl, rfl, by decide +kernel, rfl, by decide +kernel, by decide +kernel⟩
def spSor (K : PySem.W.Frag) : Sp := fun vs H Q _ => ∃ (a : Addr) (α : Type) (enc : α → PyData) (rs : List (Str × α)), vs = [.ref a] ∧ TD enc K H a rs ∧ (rs.map (·.1)).Nodup ∧ rs.length ≤ 1000 ∧ ∀ d H', Same H H' → H d = none → TD enc K H' d (srtR rs) → Q (.ref d) H'
theorem ok_sor {f : Addr} {fd : FuncData} (F : Fun K "_law_sorted" "_law_sorted" s_law_sorted f fd) (zD : mg "dict" = none) (zS : mg "sorted" = none) : FnOk P w K mg base CX0 1 f fd ["some"] (spSor K) := by
  refine F.ok scSor (fun vs H Q E h => ?_) (fun cdv A outer s H vs Q E hr h => ?_)
  · obtain ⟨a, α, enc, rs, rfl, _⟩ := h
    rfl
  obtain ⟨a, α, enc, rs, rfl, td, nd, hl, k⟩ := h
  refine ⟨_, pss_one (ps_ret (pe_callTy (call_dictP rfl) (by rfl) zD (by decide +kernel) (pa_cons (pe_lc (own := [("name", 1)]) (g := gName 1) (tt := tYes) rfl scSor.nd (pi_list (pe_callB (cr_srtL rfl hr.units) (by rfl) zS (by decide +kernel) (pa_cons (pv 0) pa_nil))) (blkOk_by (own := [("name", 1)]) (N := ["some", "name"]) (sc := defScope s_law_sorted) (by decide +kernel))
    (fun _ _ _ _ _ => pg_name (i := 1) scSor.nd rfl (Or.inl rfl)) (fun _ _ _ _ _ => pts_nil) (fun _ _ _ _ _ => pe_tup (pa_cons (pv 1) (pa_cons (pe_dget (hu_of hr) (pv 0) (pv 1) (fun _ _ => rfl)) pa_nil)))) pa_nil))), ?_⟩
  have ll : ((srt (rs.map (·.1))).map V.str).length = (srtR rs).length := by rw [List.length_map, srt_len, List.length_map, srtR_len]
  have l2 := srtR_len rs
  obtain ⟨k0, ea, tx0⟩ := id td
  refine ⟨_, rfl, _, _, rfl, Lot.names (.inl ⟨a, rfl, td⟩), by rw [List.length_map]; omega, fun p np => ⟨p, rfl, ⟨_, SqL.of upd_same⟩, fun D hD => ?_⟩⟩
  refine lc_it (walk_list (K := K) (a := p) (xs := (srt (rs.map (·.1))).map V.str)) (fun n H' => Same (upd H p (.lst ((srt (rs.map (·.1))).map V.str))) H' ∧ ∃ (ps : List Addr) (kvs : List (Key × V)), H' D = some (.lst (ps.map V.ref)) ∧ PA2 K H' ps kvs ∧ Tx enc K H kvs ((srtR rs).take n)) ⟨same_new hD, [], [], upd_same, .nil, .nil⟩ (fun n H' _ q => SqL.of (q.1 _ _ upd_same)) (fun n x H1 H2 hn q y => ?_) (fun H' q => ?_)
  · obtain ⟨e, hx⟩ := y
    subst e
    obtain ⟨s1, ps, kvs, hps, pa, tx⟩ := q
    obtain ⟨r, hr1, rfl, lk, mem⟩ := srt_at hx
    rcases tx0.get r.1 with ⟨l1, _⟩ | ⟨x', u, l1, v1, du⟩
    · rw [lk] at l1; cases l1
    rw [lk] at l1
    cases l1
    have ea2 : H2 a = some (.dK k0) := s1 _ _ (same_new np _ _ ea)
    have lp : ps.length ≤ 1000 := by
      have h1 : ps.length = kvs.length := Paired.length pa
      have h2 : kvs.length = ((srtR rs).take n).length := Paired.length tx
      have h3 : ((srtR rs).take n).length ≤ (srtR rs).length := by rw [List.length_take]; exact Nat.min_le_right _ _
      omega
    refine ⟨by simp [gName, wipe], tyes ⟨_, by simp [gName, wipe]; rfl, _, by simp [gName, wipe]; rfl, _, by simp [gName, wipe]; rfl, a, u, rfl, .inl ⟨k0, .inr r.1, .inl ea2, rfl, v1.symm⟩, by show 2 ≤ sizeLine; decide, fun t nt => ?_⟩⟩
    have s2 := same_new (o := .tup [.str r.1, u]) nt
    refine ⟨_, s2 _ _ hps, by rw [List.length_map, sizeLine_eq]; omega, same_mut (s1.trans s2) hD, ps ++ [t], kvs ++ [(.inr r.1, u)], by rw [upd_same, List.map_append]; rfl, ?_, ?_⟩
    · exact PA2.tk (tk_lst (s2 _ _ hps)) ((pa.tk (Sk.of s2).2).snoc (SqT.of upd_same))
    · rw [List.take_add_one, hr1]
      exact LW.Tx.snoc tx du
  · obtain ⟨s1, ps, kvs, hps, pa, tx⟩ := q
    rw [ll, List.take_length] at tx
    refine ⟨D, ps, kvs, rfl, SqL.of hps, pa, fun q nq => ?_⟩
    have nd' : (kvs.map (·.1)).Nodup := by
      have e : kvs.map (·.1) = ((srtR rs).map (·.1)).map Sum.inr := Tx.keys tx
      rw [e]
      exact (srtR_nodup nd).map (f := Sum.inr) (fun a b n z => n (Sum.inr.inj z))
    rw [merge_nil nd']
    have s3 := (same_new np).trans (s1.trans (same_new (o := .dK kvs) nq))
    exact k q _ s3 (none_of ((same_new np).trans s1) nq) ⟨kvs, upd_same, tx.wk (Wk.of s3)⟩
end
end LW
namespace LW
open PySem PySem.Spec PyProof.Rows L2 DW
/-- a plain net: a list of three dicts -/
def PlainAt (K : PySem.W.Frag) (H : Hp) (pl : Addr) (D : PlainD) : Prop := ∃ a b c : Addr, H pl = some (.lst [.ref a, .ref b, .ref c]) ∧ TD inD K H a D.L ∧ TD wkD K H b D.W ∧ TD bdD K H c D.B
theorem PlainAt.same {K : PySem.W.Frag} {H H' : Hp} {pl : Addr} {D : PlainD} (s : Same H H') (h : PlainAt K H pl D) : PlainAt K H' pl D := by
  obtain ⟨a, b, c, h1, h2, h3, h4⟩ := h
  exact ⟨a, b, c, s _ _ h1, h2.same s, h3.same s, h4.same s⟩
theorem Road.congr {W W' : Ws} (h1 : ∀ s, look (endW W) s = look (endW W') s) (h2 : ∀ n, look W n = look W' n) {z r : Str} {c : List Str} (h : Road W z r c) : Road W' z r c := by
  induction h with
  | stop e => exact .stop ((h1 _).symm.trans e)
  | step e lx _ ih => exact .step ((h1 _).symm.trans e) ((h2 _).symm.trans lx) ih
theorem endW_sort {L : Ls} {W : Ws} (ok : OkW L W) (s : Str) : look (endW (srtR W)) s = look (endW W) s :=
  (look_perm (rs := endW W) (rs' := endW (srtR W)) ((srtR_perm ok.nd).symm.map fun p : Str × WkT => (p.2.2.1, p.1)) (endW_nodup ok) s).symm
section
variable {P : Program} {w : World} {K : PySem.W.Frag} {mg : Str → Option Value} {base : Heap}
abbrev roaN : List Str := ["plain", "event", "ends", "works", "name"]
theorem scRoa : FnScope roaN ["plain", "event"] (defScope s_law_road) := ⟨rfl, rfl, rfl, by decide +kernel, rfl, by decide +kernel, by decide +kernel⟩
def spRoa (K : PySem.W.Frag) : Sp := fun vs H Q _ => ∃ (pl : Addr) (z : Str) (D : PlainD), vs = [.ref pl, .str z] ∧ PlainAt K H pl D ∧ OkN D ∧ ∀ v H', Same H H' → rRoad K D z v H H' → Q v H'
theorem ok_roa {f : Addr} {fd : FuncData} (F : Fun K "_law_road" "_law_road" s_law_road f fd) (zD : mg "dict" = none) (zT : mg "tuple" = none) : FnOk P w K mg base CX0 1 f fd ["plain", "event"] (spRoa K) := by
  refine F.ok scRoa (fun vs H Q E h => ?_) (fun cdv A outer s H vs Q E hr h => ?_)
  · obtain ⟨pl, z, D, rfl, _⟩ := h
    rfl
  obtain ⟨pl, z, D, rfl, plain, ok, k⟩ := h
  refine ⟨_, pss_cons (ps_par (i := 2) (j := 3) rfl scRoa.nd rfl rfl (by decide) rfl rfl (pa_cons (pe_lock (pe_callTy (call_dictP rfl) (by rfl) zD (by decide +kernel) (pa_cons (pe_lc (own := [("name", 4)]) (g := gName 4) (tt := tYes) (te := tTup (tCons (tOp (rIxT K) (tDGet (tOp (rIxL K) (tVar 0) (tC (.int 1))) (tVar 4)) (tC (.int 1))) (tCons (tVar 4) tNil))) rfl scRoa.nd (pi_keys (pe_ix (r := rIxL K) ix_list (pv 0) pe_int (fun _ _ => rfl))) (blkOk_by (own := [("name", 4)]) (N := roaN) (sc := defScope s_law_road) (by decide +kernel))
        (fun _ _ _ _ _ => pg_name (i := 4) scRoa.nd rfl (Or.inl rfl)) (fun _ _ _ _ _ => pts_nil) (fun _ _ _ _ _ => pe_tup (pa_cons (pe_ix (r := rIxT K) ix_tup (pe_dget (hu_of hr) (pe_ix (r := rIxL K) ix_list (pv 0) pe_int (fun _ _ => rfl)) (pv 4) (fun _ _ => rfl)) pe_int (fun _ _ => rfl)) (pa_cons (pv 4) pa_nil)))) pa_nil)))
        (pa_cons (pe_lst pa_nil) pa_nil)) (by rfl))
    (pss_cons (ps_while PassesOwn.never (pt_cmp (pc_din (hu_of hr) (pv 1) (pv 2)))
      (pss_cons (ps_expr (pe_bm PySem.F.plainAttrs_list PySem.F.slot_list_append PySem.F.type_list_append mt_append (pv 3) (pa_cons (pe_dget (hu_of hr) (pv 2) (pv 1) (fun _ _ => rfl)) pa_nil)))
      (pss_one (ps_set (i := 1) scRoa.nd rfl (Or.inl rfl) (pe_ix (r := rIxT K) ix_tup (pe_dget (hu_of hr) (pe_ix (r := rIxL K) ix_list (pv 0) pe_int (fun _ _ => rfl)) (pe_dget (hu_of hr) (pv 2) (pv 1) (fun _ _ => rfl)) (fun _ _ => rfl)) pe_int (fun _ _ => rfl))))))
    (pss_one (ps_ret (pe_tup (pa_cons (pv 1) (pa_cons (pe_callTy call_tuple_of (by rfl) zT (by decide +kernel) (pa_cons (pe_revL (pv 3)) pa_nil)) pa_nil)))))), ?_⟩
  obtain ⟨a, b, c, h1, h2, ⟨kb, hb, txb⟩, h4⟩ := id plain
  have lb : kb.length = D.W.length := Paired.length txb
  have l60 := ok.w.len
  have plb : pl ≠ b := ne_of h1 hb (fun z => nomatch z)
  have en := endW_nodup ok.w
  refine ⟨b, _, hb, mut_dK, fun od => ⟨_, rfl, pl, _, _, _, rfl, rfl, SqL.of (by rw [upd_ne plb]; exact h1), atI_nat (j := 1) rfl, b, od, rfl, .inl ⟨kb, upd_same, fun d nd => ?_⟩⟩⟩
  refine lc_it (walk_keys (d := b) (o := od) (kvs := kb)) (fun n H' => Same (upd H b (.frz od (.dK kb))) H' ∧ ∃ (ps : List Addr) (kvs : List (Key × V)), H' d = some (.lst (ps.map V.ref)) ∧ PA2 K H' ps kvs ∧ Tx stD K H kvs ((endW D.W).take n)) ⟨same_new nd, [], [], upd_same, .nil, .nil⟩ (fun n H' _ q => q.1 _ _ upd_same) (fun n x H1 H2 hn q y => ?_) (fun H' q => ?_)
  · obtain ⟨rfl, key, v, hk, rfl⟩ := y
    obtain ⟨s1, ps, kvs, hps, pa, tx⟩ := q
    obtain ⟨p, hp, e, dv⟩ := txb.at hk
    have e : key = .inr p.1 := e
    subst e
    have tr : TR wkD K H2 b D.W := TR.wk ((Wk.lock hb (fun _ _ z => nomatch z)).trans (Wk.of s1)) ⟨kb, .inl hb, txb⟩
    obtain ⟨u, g, du⟩ := tr.get (look_of ok.w.nd (List.mem_of_getElem? hp))
    obtain ⟨t, rfl, ht⟩ := wk_at du
    have lp : ps.length ≤ 60 := by
      have q1 : ps.length = kvs.length := Paired.length pa
      have q2 : kvs.length = ((endW D.W).take n).length := Paired.length tx
      have q3 : ((endW D.W).take n).length ≤ (endW D.W).length := by rw [List.length_take]; exact Nat.min_le_right _ _
      have q4 : (endW D.W).length = D.W.length := by unfold endW; rw [List.length_map]
      omega
    have hpl2 : H2 pl = some (.lst [.ref a, .ref b, .ref c]) := s1 _ _ (by rw [upd_ne plb]; exact h1)
    refine ⟨by simp [gName, wipe], tyes ⟨_, by simp [gName, wipe]; rfl, pl, _, _, _, rfl, rfl, SqL.of hpl2, atI_nat (j := 1) rfl, _, by simp [gName, wipe]; rfl, b, _, rfl, g, t, _, 1, .str p.2.2.1, rfl, rfl, ht, atI_nat (j := 1) rfl, _, by simp [gName, wipe]; rfl, by show 2 ≤ sizeLine; decide, fun t2 nt => ?_⟩⟩
    have s2 := same_new (o := .tup [.str p.2.2.1, .str p.1]) nt
    refine ⟨_, s2 _ _ hps, by rw [List.length_map, sizeLine_eq]; omega, same_mut (s1.trans s2) nd, ps ++ [t2], kvs ++ [(.inr p.2.2.1, .str p.1)], by rw [upd_same, List.map_append]; rfl, ?_, ?_⟩
    · exact PA2.tk (tk_lst (s2 _ _ hps)) ((pa.tk (Sk.of s2).2).snoc (SqT.of upd_same))
    · have ei : (endW D.W)[n]? = some (p.2.2.1, p.1) := by
        unfold endW
        rw [List.getElem?_map, hp]
        rfl
      rw [List.take_add_one, ei]
      exact LW.Tx.snoc (p := (p.2.2.1, p.1)) tx (show Dp K H (.str p.1) (stD p.1) from .str p.1)
  · obtain ⟨s1, ps, kvs, hps, pa, tx⟩ := q
    rw [lb, show D.W.length = (endW D.W).length by unfold endW; rw [List.length_map], List.take_length] at tx
    refine ⟨d, ps, kvs, rfl, SqL.of hps, pa, fun d2 nd2 => ?_⟩
    have nd' : (kvs.map (·.1)).Nodup := by
      have e : kvs.map (·.1) = ((endW D.W).map (·.1)).map Sum.inr := Tx.keys tx
      rw [e]
      exact en.map (f := Sum.inr) (fun a b n z => n (Sum.inr.inj z))
    rw [merge_nil nd']
    have s2 := s1.trans (same_new (o := .dK kvs) nd2)
    obtain ⟨z1, s3⟩ := unlock hb s2
    have n2 := none_lock s1 nd2
    have te : TD stD K (upd (upd H' d2 (.dK kvs)) b (.dK kb)) d2 (endW D.W) := ⟨kvs, unlock_at (od := od) hb n2 upd_same, tx_st tx⟩
    refine ⟨z1, Nat.zero_le _, fun cc nc => ⟨_, _, rfl, ?_⟩⟩
    have plain2 := plain.same s3
    obtain ⟨rk, hrk⟩ := ok.w.rank
    obtain ⟨root, ch, hro⟩ := Road.ex ok.w z
    have ll := hro.len ok.w
    refine ⟨fun m σ H3 => ∃ (ev : Str) (done rest : List Str), σ = [some (.ref pl), some (.str ev), some (.ref d2), some (.ref cc), none] ∧ Same (upd (upd H' d2 (HO.dK kvs)) b (HO.dK kb)) H3 ∧ H3 cc = some (.lst (done.map V.str)) ∧ Road D.W ev root rest ∧ ch = rest ++ done.reverse ∧ m = rk ev, ⟨_, z, [], ch, rfl, same_new nc, upd_same, hro, by simp, rfl⟩, ?_⟩
    rintro m σ H4 ⟨ev, done, rest, rfl, s4, hc, hr2, ech, rfl⟩
    obtain ⟨a', b', c', g1, g2, g3, g4⟩ := plain2.same s4
    have te4 := te.same s4
    obtain ⟨o, g, eo⟩ := te4.tr.has ev
    refine ⟨_, rfl, _, rfl, d2, o, rfl, g, _, rfl, ?_⟩
    rw [eo]
    have ld : done.length ≤ 60 := by
      have := congrArg List.length ech
      rw [List.length_append, List.length_reverse] at this
      omega
    cases hr2 with
    | stop e =>
      rw [decide_eq_false (look_none.mp e)]
      have fin : ch = done.reverse := by rw [ech, List.nil_append]
      refine iteF ⟨_, rfl, _, rfl, cc, _, rfl, SqL.of hc, fun p np => ⟨p, _, rfl, .inl ⟨SqL.of upd_same, fun u nu => ⟨by show 2 ≤ sizeLine; decide, fun t nt => k _ _ (s3.trans (s4.trans ((same_new np).trans ((same_new nu).trans (same_new nt))))) ⟨t, u, _, ch, rfl, hro, upd_same, ?_⟩⟩⟩⟩⟩
      have e3 : (done.map V.str).reverse = ch.map V.str := by rw [fin, List.map_reverse]
      exact (same_new nt _ _ upd_same).trans (congrArg (fun l => some (HO.tup l)) e3)
    | step e lx h7 =>
      rename_i n xw cr
      rw [decide_eq_true (look_some.mp (by rw [e]; rfl))]
      obtain ⟨v2, q2, d2'⟩ := te4.tr.get e
      cases st_at d2'
      obtain ⟨xw', lx', ex⟩ := endW_ok ok.w _ _ e
      rw [lx] at lx'
      cases lx'
      have lt : rk xw.1 < rk ev := by rw [← ex]; exact hrk _ (look_mem lx)
      have s5 : Same (upd (upd H' d2 (HO.dK kvs)) b (HO.dK kb)) (upd H4 cc (.lst (done.map V.str ++ [V.str n]))) := same_mut s4 nc
      obtain ⟨a5, b5, c5, p1, p2, p3, p4⟩ := plain2.same s5
      obtain ⟨v5, q5, d5⟩ := (te.same s5).tr.get e
      cases st_at d5
      obtain ⟨u6, q6, d6⟩ := p3.tr.get lx
      obtain ⟨t6, rfl, ht6⟩ := wk_at d6
      refine iteT ⟨fun σ' H'' => ∃ m', m' < rk ev ∧ ∃ (ev : Str) (done rest : List Str), σ' = [some (.ref pl), some (.str ev), some (.ref d2), some (.ref cc), none] ∧ Same (upd (upd H' d2 (HO.dK kvs)) b (HO.dK kb)) H'' ∧ H'' cc = some (.lst (done.map V.str)) ∧ Road D.W ev root rest ∧ ch = rest ++ done.reverse ∧ m' = rk ev, fun _ _ q => q, ?_⟩
      refine ⟨_, rfl, .inl ⟨rfl, _, SqL.of hc⟩, _, rfl, _, rfl, d2, _, rfl, q2, cc, _, _, rfl, rfl, hc, by rw [List.length_map, sizeLine_eq]; omega, ?_⟩
      refine ⟨_, rfl, pl, _, _, _, rfl, rfl, SqL.of p1, atI_nat (j := 1) rfl, _, rfl, _, rfl, d2, _, rfl, q5, b5, _, rfl, q6, t6, _, 0, .str xw.1, rfl, rfl, ht6, atI_nat (j := 0) rfl, ?_⟩
      exact ⟨_, lt, xw.1, done ++ [n], cr, rfl, s5, by rw [upd_same, List.map_append]; rfl, h7, by rw [ech, List.reverse_append, List.append_assoc]; rfl, rfl⟩
end
end LW
namespace LW
open PySem PySem.Spec PyProof.Rows L2 DW
/-- made tuples stay -/
def Tp (H H' : Hp) : Prop := ∀ c xs, H c = some (.tup xs) → H' c = some (.tup xs)
theorem Tp.of {H H' : Hp} (s : Same H H') : Tp H H' := fun c xs e => s _ _ e
theorem Tp.trans {H H1 H2 : Hp} (a : Tp H H1) (b : Tp H1 H2) : Tp H H2 := fun c xs e => b _ _ (a _ _ e)
theorem Tp.lst {H : Hp} {D : Addr} {xs : List V} {o : HO} (h : H D = some (.lst xs)) : Tp H (upd H D o) := fun c ys e => by
  rw [upd_ne (ne_of e h (fun z => nomatch z))]
  exact e
theorem Tp.but {H H' : Hp} {D : Addr} (hD : Dc H D) (b : But D H H') : Tp H H' := fun c ys e => by
  obtain ⟨d0, d1, d2, eD⟩ := hD
  exact b _ _ (ne_of e eD (fun z => nomatch z)) e
/-- a row and its word, as a pair -/
def RP (H : Hp) (t : Addr) (r : RowP) : Prop := ∃ ra wa : Addr, H t = some (.tup [.ref ra, .ref wa]) ∧ H ra = some (.tup [.str "bound", .str r.2.1, .str r.2.2.1, .int r.2.2.2]) ∧ H wa = some (.tup [.str r.1.1, .str r.1.2])
theorem RP.tp {H H' : Hp} {t : Addr} {r : RowP} (s : Tp H H') (h : RP H t r) : RP H' t r := by
  obtain ⟨ra, wa, h1, h2, h3⟩ := h
  exact ⟨ra, wa, s _ _ h1, s _ _ h2, s _ _ h3⟩
def RPs (H : Hp) (ps : List Addr) (rows : List RowP) : Prop := Paired (fun t r => RP H t r) ps rows
theorem RPs.tp {H H' : Hp} {ps : List Addr} {rows : List RowP} (s : Tp H H') (h : RPs H ps rows) : RPs H' ps rows := pairedMono (fun _ _ z => z.tp s) h
theorem paired_app {β γ : Type} {R : β → γ → Prop} {l l' : List β} {m m' : List γ} (h : Paired R l m) (h' : Paired R l' m') : Paired R (l ++ l') (m ++ m') := by
  induction h with
  | nil => exact h'
  | cons q t ih => exact .cons q ih
/-- [(row, word) for name in sorted(..)] -/
theorem fc_it {α : Type} {rs : List (Str × α)} {f : Str × α → RowP} {K : PySem.W.Frag} {σ : L2.St} {H : Hp} {p D : Addr} {i : Nat} {te : TE} {Qd : Hp → Prop} (hi : i < σ.length) (hp : H p = some (.lst ((srt (rs.map (·.1))).map V.str))) (hl : rs.length ≤ 1000) (hD : H D = none)
    (hte : ∀ {σ' : L2.St} {H' : Hp} {R : VK} {q : Str × α}, σ'[i]? = some (some (.str q.1)) → (∀ j z, i ≠ j → σ[j]? = some (some z) → σ'[j]? = some (some z)) → look rs q.1 = some q.2 → Same H H' → (∀ t H'', Same H' H'' → RP H'' t (f q) → R (.ref t) H'') → te σ' H' R)
    (k : ∀ (ps : List Addr) H', Same H H' → H' D = some (.lst (ps.map V.ref)) → RPs H' ps ((srtR rs).map f) → Qd H') :
    ∃ W : Nat → Nat → Hp → Prop, (∃ m, W 0 m (upd H D (.lst []))) ∧ ∀ n m H, W n m H →
      ((Itl K p).stop n H ∧ Qd H) ∨ ((Itl K p).go n H ∧ ∃ Nx : Hp → Prop, (∀ H', Nx H' → ∃ m', m' < m ∧ W (n + 1) m' H') ∧ ∀ x H', (Itl K p).yld n H x H' → gName i x (wipe σ [i]) H' fun σ2 H2 => wipe σ2 [i] = wipe σ [i] ∧ tYes σ2 H2 fun b H3 =>
        if b = true then te σ2 H3 fun y H4 => ∃ acc, H4 D = some (.lst acc) ∧ acc.length < sizeLine ∧ Nx (upd H4 D (.lst (acc ++ [y]))) else Nx H3) := by
  have ll : ((srt (rs.map (·.1))).map V.str).length = (srtR rs).length := by rw [List.length_map, srt_len, List.length_map, srtR_len]
  have l2 := srtR_len rs
  refine lc_it (walk_list (K := K) (a := p) (xs := (srt (rs.map (·.1))).map V.str)) (fun n H' => Same H H' ∧ ∃ ps : List Addr, H' D = some (.lst (ps.map V.ref)) ∧ RPs H' ps (((srtR rs).take n).map f)) ⟨same_new hD, [], upd_same, .nil⟩ (fun n H' _ q => SqL.of (q.1 _ _ hp)) (fun n x H1 H2 hn q y => ?_) (fun H' q => ?_)
  · obtain ⟨e, hx⟩ := y
    subst e
    obtain ⟨s1, ps, hps, pr⟩ := q
    obtain ⟨r, hr1, rfl, lk, mem⟩ := srt_at hx
    have lp : ps.length ≤ 1000 := by
      have h1 : ps.length = (((srtR rs).take n).map f).length := Paired.length pr
      rw [List.length_map, List.length_take] at h1
      omega
    have si : ((wipe σ [i]).set i (some (V.str r.1)))[i]? = some (some (.str r.1)) := by simp [wipe, hi]
    refine ⟨by simp [gName, wipe], tyes (hte si (fun j z hj e => by simp [wipe, hj, e]) lk s1 fun t H3 s3 rp => ⟨_, s3 _ _ hps, by rw [List.length_map, sizeLine_eq]; omega, same_mut (s1.trans s3) hD, ps ++ [t], by rw [upd_same, List.map_append]; rfl, ?_⟩)⟩
    rw [take_succ_map hr1]
    have tp2 : Tp H3 (upd H3 D (.lst (ps.map V.ref ++ [.ref t]))) := Tp.lst (s3 _ _ hps)
    exact paired_snoc ((pr.tp (Tp.of s3)).tp tp2) (rp.tp tp2)
  · obtain ⟨s1, ps, hps, pr⟩ := q
    rw [ll, List.take_length] at pr
    exact k ps H' s1 hps pr
section
variable {P : Program} {w : World} {K : PySem.W.Frag} {mg : Str → Option Value} {base : Heap}
abbrev ntN : List Str := ["plain", "lasts", "works", "bounds", "name", "found", "event"]
theorem scNt : FnScope ntN ["plain"] (defScope s_law_nt_told) := ⟨rfl, rfl, rfl, by decide +kernel, rfl, by decide +kernel, by decide +kernel⟩
def spNt (K : PySem.W.Frag) : Sp := fun vs H Q _ => ∃ (pl : Addr) (D : PlainD), vs = [.ref pl] ∧ PlainAt K H pl D ∧ OkN D ∧ ∀ (d : Addr) (ps : List Addr) H', Same H H' → H d = none → H' d = some (.lst (ps.map V.ref)) → RPs H' ps (toldR (sortN D)) → Q (.ref d) H'
theorem ok_nt {f : Addr} {fd : FuncData} (F : Fun K "_law_nt_told" "_law_nt_told" s_law_nt_told f fd) (zS : mg "sorted" = none) : FnOk P w K mg base CX0 1 f fd ["plain"] (spNt K) := by
  refine F.ok scNt (fun vs H Q E h => ?_) (fun cdv A outer s H vs Q E hr h => ?_)
  · obtain ⟨pl, D, rfl, _⟩ := h
    rfl
  obtain ⟨pl, D, rfl, plain, ok, k⟩ := h
  refine ⟨_, C8.pss_cut (ps_asg (pv 0) (pg_unl rfl (pgs_cons (pg_name (i := 1) scNt.nd rfl (Or.inr rfl)) (pgs_cons (pg_name (i := 2) scNt.nd rfl (Or.inl rfl)) (pgs_cons (pg_name (i := 3) scNt.nd rfl (Or.inr rfl)) pgs_nil)))))
    (C8.pss_cut (ps_setLc (i := 5) (own := [("name", 4)]) (g := gName 4) (tt := tYes) (te := tTup (tCons (tOp (rCatA K) (tTup (tCons (tC (.str "bound")) tNil)) (tDGet (tVar 3) (tVar 4))) (tCons (tTup (tCons (tC (.str "bound")) (tCons (tVar 4) tNil))) tNil))) rfl scNt.nd rfl rfl (sw_true rfl rfl rfl (by decide +kernel)) (pi_list (pe_callB (cr_srtL rfl hr.units) (by rfl) zS (by decide +kernel) (pa_cons (pv 3) pa_nil))) (blkOk_by (own := [("name", 4)]) (N := ntN) (sc := defScope s_law_nt_told) (by decide +kernel))
        (fun _ _ _ _ _ => pg_name (i := 4) scNt.nd rfl (Or.inl rfl)) (fun _ _ _ _ _ => pts_nil) (fun _ _ _ _ _ => pe_tup (pa_cons (pe_op (r := rCatA K) op_catA (pe_tup (pa_cons pe_str pa_nil)) (pe_dget (hu_of hr) (pv 3) (pv 4) (fun _ _ => rfl))) (pa_cons (pe_tup (pa_cons pe_str (pa_cons (pv 4) pa_nil))) pa_nil))))
    (C8.pss_cut (ps_set (i := 5) scNt.nd rfl (Or.inl rfl) (pe_op op_cat (pv 5) (pe_lc (own := [("event", 6)]) (g := gName 6) (tt := tYes) rfl scNt.nd (pi_list (pe_callB (cr_srtL rfl hr.units) (by rfl) zS (by decide +kernel) (pa_cons (pv 1) pa_nil))) (blkOk_by (own := [("event", 6)]) (N := ntN) (sc := defScope s_law_nt_told) (by decide +kernel))
        (fun _ _ _ _ _ => pg_name (i := 6) scNt.nd rfl (Or.inl rfl)) (fun _ _ _ _ _ => pts_nil) (fun _ _ _ _ _ => pe_tup (pa_cons (pe_tup (pa_cons pe_str (pa_cons pe_str (pa_cons (pv 6) (pa_cons (pe_dget (hu_of hr) (pv 1) (pv 6) (fun _ _ => rfl)) pa_nil))))) (pa_cons (pe_tup (pa_cons pe_str (pa_cons (pv 6) pa_nil))) pa_nil))))))
    (C8.pss_cut (ps_set (i := 5) scNt.nd rfl (Or.inl rfl) (pe_op op_cat (pv 5) (pe_lc (own := [("event", 6)]) (g := gName 6) (tt := tYes) rfl scNt.nd (pi_list (pe_callB (cr_srtL rfl hr.units) (by rfl) zS (by decide +kernel) (pa_cons (pv 1) pa_nil))) (blkOk_by (own := [("event", 6)]) (N := ntN) (sc := defScope s_law_nt_told) (by decide +kernel))
        (fun _ _ _ _ _ => pg_name (i := 6) scNt.nd rfl (Or.inl rfl)) (fun _ _ _ _ _ => pts_nil) (fun _ _ _ _ _ => pe_tup (pa_cons (pe_tup (pa_cons pe_str (pa_cons (pv 6) (pa_cons pe_str (pa_cons pe_int pa_nil))))) (pa_cons (pe_tup (pa_cons pe_str (pa_cons (pv 6) pa_nil))) pa_nil))))))
    (C8.pss_cut (ps_for PassesOwn.never rfl (pi_list (pe_callB (cr_srtL rfl hr.units) (by rfl) zS (by decide +kernel) (pa_cons (pv 2) pa_nil))) (pg_name (i := 4) scNt.nd rfl (.inl rfl))
      (pss_one (ps_expr (pe_bm PySem.F.plainAttrs_list PySem.F.slot_list_append PySem.F.type_list_append mt_append (pv 5) (pa_cons (pe_tup (pa_cons (pe_tup (pa_cons pe_str (pa_cons (pe_ix (r := rIxT K) ix_tup (pe_dget (hu_of hr) (pv 2) (pv 4) (fun _ _ => rfl)) pe_int (fun _ _ => rfl)) (pa_cons (pe_ix (r := rIxT K) ix_tup (pe_dget (hu_of hr) (pv 2) (pv 4) (fun _ _ => rfl)) pe_int (fun _ _ => rfl)) (pa_cons (pe_ix (r := rIxT K) ix_tup (pe_dget (hu_of hr) (pv 2) (pv 4) (fun _ _ => rfl)) pe_int (fun _ _ => rfl)) pa_nil)))))
        (pa_cons (pe_tup (pa_cons pe_str (pa_cons (pv 4) pa_nil))) pa_nil))) pa_nil)))))
    (C8.pss_cut (ps_for PassesOwn.never rfl (pi_list (pe_callB (cr_srtL rfl hr.units) (by rfl) zS (by decide +kernel) (pa_cons (pv 2) pa_nil))) (pg_name (i := 4) scNt.nd rfl (.inl rfl))
      (pss_one (ps_expr (pe_bm PySem.F.plainAttrs_list PySem.F.slot_list_append PySem.F.type_list_append mt_append (pv 5) (pa_cons (pe_tup (pa_cons (pe_tup (pa_cons pe_str (pa_cons (pe_ix (r := rIxT K) ix_tup (pe_dget (hu_of hr) (pv 2) (pv 4) (fun _ _ => rfl)) pe_int (fun _ _ => rfl)) (pa_cons (pe_ix (r := rIxT K) ix_tup (pe_dget (hu_of hr) (pv 2) (pv 4) (fun _ _ => rfl)) pe_int (fun _ _ => rfl)) (pa_cons (pe_op op_sub pe_int (pe_ix (r := rIxT K) ix_tup (pe_dget (hu_of hr) (pv 2) (pv 4) (fun _ _ => rfl)) pe_int (fun _ _ => rfl))) pa_nil)))))
        (pa_cons (pe_tup (pa_cons pe_str (pa_cons (pv 4) pa_nil))) pa_nil))) pa_nil)))))
    (pss_one (ps_ret (pv 5)))))))), ?_⟩
  obtain ⟨a, b, c, h1, ta, tb, tc⟩ := id plain
  have ndl := ok.l.nd
  have ndw := ok.w.nd
  have ndb := ok.b.nd
  have n1 := ok.l.len.2
  have n2 := ok.w.len
  have n3 := ok.b.len
  have m1 : (srtR D.L).length = D.L.length := srtR_len _
  have m2 : (srtR D.W).length = D.W.length := srtR_len _
  have m3 : (srtR D.B).length = D.B.length := srtR_len _
  let St : List RowP → L2.St → Hp → Prop := fun rows σ' H' => ∃ (x4 : Option V) (d : Addr) (ps : List Addr), σ' = [some (.ref pl), some (.ref a), some (.ref b), some (.ref c), x4, some (.ref d), none] ∧ Same H H' ∧ H d = none ∧ H' d = some (.lst (ps.map V.ref)) ∧ RPs H' ps rows
  refine ⟨fun σ' H' => σ' = [some (.ref pl), some (.ref a), some (.ref b), some (.ref c), none, none, none] ∧ H' = H, ⟨_, rfl, pl, _, rfl, SqL.of h1, rfl, _, _, rfl, _, _, rfl, _, _, rfl, rfl, rfl, rfl⟩, ?_⟩
  rintro _ H0 ⟨rfl, rfl⟩
  -- bounds
  refine ⟨St (told1 (srtR D.B)), ?_, ?_⟩
  · refine ⟨_, rfl, _, _, rfl, Lot.names (.inl ⟨c, rfl, tc⟩), by rw [List.length_map]; omega, fun p np => ⟨p, rfl, ⟨_, SqL.of upd_same⟩, fun d nd => fc_it (K := K) (rs := D.B) (f := fun p => mkR "bound" p.1 p.2.1 p.2.2.1 p.2.2.2) (i := 4) (by show 4 < 7; decide) upd_same (by omega) nd ?_ fun ps H3 s3 h3 pr3 => ?_⟩⟩
    · intro σ' H' R q hs hσ lk s r
      refine ⟨by show 1 ≤ sizeLine; decide, fun t1 nt1 => ?_⟩
      have s1 := same_new (o := .tup [.str "bound"]) nt1
      obtain ⟨u, g, du⟩ := (tc.same ((same_new np).trans (s.trans s1))).tr.get lk
      obtain ⟨tu, rfl, ht⟩ := bd_at du
      refine ⟨_, hσ 3 _ (by decide) rfl, _, hs, c, _, rfl, g, t1, tu, _, _, rfl, rfl, SqT.of upd_same, ht, by show 1 + 3 ≤ sizeLine; decide, (fun e => by cases e), (fun _ e => by cases e), fun _ _ p1 np1 => ⟨_, hs, by show 2 ≤ sizeLine; decide, fun w1 nw1 => ⟨by show 2 ≤ sizeLine; decide, fun t nt => ?_⟩⟩⟩
      have s2 := same_new (o := .tup ([.str "bound"] ++ [.str q.2.1, .str q.2.2.1, .int q.2.2.2])) np1
      have s3 := same_new (o := .tup [.str "bound", .str q.1]) nw1
      have s4 := same_new (o := .tup [.ref p1, .ref w1]) nt
      exact r t _ (s1.trans (s2.trans (s3.trans s4))) ⟨p1, w1, upd_same, s4 _ _ (s3 _ _ upd_same), s4 _ _ upd_same⟩
    · exact ⟨none, d, ps, rfl, (same_new np).trans s3, none_of (same_new np) nd, h3, pr3⟩
  rintro _ H1 ⟨x4, d, ps, rfl, s1, nd, hd, pr⟩
  have lp : ps.length ≤ 400 := by
    have := Paired.length pr
    unfold told1 at this
    rw [List.length_map] at this
    omega
  -- last
  refine ⟨St (told1 (srtR D.B) ++ told2 (srtR D.L)), ?_, ?_⟩
  · refine ⟨_, rfl, _, rfl, _, _, rfl, Lot.names (.inl ⟨a, rfl, ta.same s1⟩), by rw [List.length_map]; omega, fun p np => ⟨p, rfl, ⟨_, SqL.of upd_same⟩, fun e ne => fc_it (K := K) (rs := D.L) (f := fun p => mkR "last" p.1 "dawn" p.1 p.2) (i := 6) (by show 6 < 7; decide) upd_same (by omega) ne ?_ fun ps2 H3 s3 h3 pr3 => ?_⟩⟩
    · intro σ' H' R q hs hσ lk s r
      obtain ⟨u, g, du⟩ := (ta.same (s1.trans ((same_new np).trans s))).tr.get lk
      cases in_at du
      refine ⟨_, hs, _, hσ 1 _ (by decide) rfl, _, hs, a, _, rfl, g, by show 4 ≤ sizeLine; decide, fun p1 np1 => ⟨_, hs, by show 2 ≤ sizeLine; decide, fun w1 nw1 => ⟨by show 2 ≤ sizeLine; decide, fun t nt => ?_⟩⟩⟩
      have s2 := same_new (o := .tup [.str "bound", .str "dawn", .str q.1, .int q.2]) np1
      have s3 := same_new (o := .tup [.str "last", .str q.1]) nw1
      have s4 := same_new (o := .tup [.ref p1, .ref w1]) nt
      exact r t _ (s2.trans (s3.trans s4)) ⟨p1, w1, upd_same, s4 _ _ (s3 _ _ upd_same), s4 _ _ upd_same⟩
    · have s13 := (same_new np).trans s3
      have l2 : ps2.length ≤ 200 := by
        have := Paired.length pr3
        rw [List.length_map] at this
        omega
      refine ⟨d, e, _, _, rfl, rfl, s13 _ _ hd, h3, by rw [List.length_map, List.length_map, sizeLine_eq]; omega, fun d2 nd2 => ?_⟩
      have s4 := s13.trans (same_new (o := .lst (ps.map V.ref ++ ps2.map V.ref)) nd2)
      exact ⟨x4, d2, ps ++ ps2, rfl, s1.trans s4, none_of (s1.trans s13) nd2, by rw [upd_same, List.map_append], paired_app (pr.tp (Tp.of s4)) (pr3.tp (Tp.of (same_new nd2)))⟩
  clear hd pr lp
  rintro _ H1 ⟨x4, d, ps, rfl, s1, nd, hd, pr⟩
  have lp : ps.length ≤ 600 := by
    have := Paired.length pr
    unfold told1 told2 at this
    rw [List.length_append, List.length_map, List.length_map] at this
    omega
  -- begin
  refine ⟨St (told1 (srtR D.B) ++ told2 (srtR D.L) ++ told3 (srtR D.L)), ?_, ?_⟩
  · refine ⟨_, rfl, _, rfl, _, _, rfl, Lot.names (.inl ⟨a, rfl, ta.same s1⟩), by rw [List.length_map]; omega, fun p np => ⟨p, rfl, ⟨_, SqL.of upd_same⟩, fun e ne => fc_it (K := K) (rs := D.L) (f := fun p => mkR "begin" p.1 p.1 "dawn" 0) (i := 6) (by show 6 < 7; decide) upd_same (by omega) ne ?_ fun ps2 H3 s3 h3 pr3 => ?_⟩⟩
    · intro σ' H' R q hs hσ lk s r
      refine ⟨_, hs, by show 4 ≤ sizeLine; decide, fun p1 np1 => ⟨_, hs, by show 2 ≤ sizeLine; decide, fun w1 nw1 => ⟨by show 2 ≤ sizeLine; decide, fun t nt => ?_⟩⟩⟩
      have s2 := same_new (o := .tup [.str "bound", .str q.1, .str "dawn", .int 0]) np1
      have s3 := same_new (o := .tup [.str "begin", .str q.1]) nw1
      have s4 := same_new (o := .tup [.ref p1, .ref w1]) nt
      exact r t _ (s2.trans (s3.trans s4)) ⟨p1, w1, upd_same, s4 _ _ (s3 _ _ upd_same), s4 _ _ upd_same⟩
    · have s13 := (same_new np).trans s3
      have l2 : ps2.length ≤ 200 := by
        have := Paired.length pr3
        rw [List.length_map] at this
        omega
      refine ⟨d, e, _, _, rfl, rfl, s13 _ _ hd, h3, by rw [List.length_map, List.length_map, sizeLine_eq]; omega, fun d2 nd2 => ?_⟩
      have s4 := s13.trans (same_new (o := .lst (ps.map V.ref ++ ps2.map V.ref)) nd2)
      exact ⟨x4, d2, ps ++ ps2, rfl, s1.trans s4, none_of (s1.trans s13) nd2, by rw [upd_same, List.map_append], paired_app (pr.tp (Tp.of s4)) (pr3.tp (Tp.of (same_new nd2)))⟩
  clear hd pr lp
  rintro _ H1 ⟨x4, d, ps, rfl, s1, nd, hd, pr⟩
  have lp : ps.length ≤ 800 := by
    have := Paired.length pr
    unfold told1 told2 told3 at this
    rw [List.length_append, List.length_append, List.length_map, List.length_map, List.length_map] at this
    omega
  -- most
  refine ⟨St (told1 (srtR D.B) ++ told2 (srtR D.L) ++ told3 (srtR D.L) ++ told4 (srtR D.W)), ?_, ?_⟩
  · refine ⟨_, rfl, _, _, rfl, Lot.names (.inl ⟨b, rfl, tb.same s1⟩), by rw [List.length_map]; omega, fun p np => ⟨p, rfl, ⟨_, SqL.of upd_same⟩, ?_⟩⟩
    have dp : d ≠ p := ne_of_none hd np
    refine for_list (K := K) (xs := (srt (D.W.map (·.1))).map V.str) (fun i σ H' => ∃ (x4 : Option V) (ps : List Addr), σ = [some (.ref pl), some (.ref a), some (.ref b), some (.ref c), x4, some (.ref d), none] ∧ Same H0 H' ∧ H' p = some (.lst ((srt (D.W.map (·.1))).map V.str)) ∧ H' d = some (.lst (ps.map V.ref)) ∧ RPs H' ps ((told1 (srtR D.B) ++ told2 (srtR D.L) ++ told3 (srtR D.L)) ++ (told4 (srtR D.W)).take i))
      ⟨x4, ps, rfl, s1.trans (same_new np), upd_same, by rw [upd_ne dp]; exact hd, by rw [List.take_zero, List.append_nil]; exact pr.tp (Tp.of (same_new np))⟩ (fun i σ H' _ q => by obtain ⟨_, _, _, _, h, _⟩ := q; exact SqL.of h) (fun i y σ H' hy q => ?_) (fun σ H' q => ?_)
    · obtain ⟨x4, ps, rfl, s2, hp2, hd2, pr2⟩ := q
      obtain ⟨r, hr1, rfl, lk, mem⟩ := srt_at hy
      obtain ⟨u, g, du⟩ := (tb.same s2).tr.get lk
      obtain ⟨t, rfl, ht⟩ := wk_at du
      have l3 : ps.length ≤ 1000 := by
        have e1 := Paired.length pr2
        have e2 : ((told4 (srtR D.W)).take i).length ≤ (told4 (srtR D.W)).length := by rw [List.length_take]; exact Nat.min_le_right _ _
        simp only [told1, told2, told3, told4, told5, List.length_append, List.length_map] at e1 e2
        omega
      refine ⟨_, rfl, .inl ⟨rfl, _, SqL.of hd2⟩, _, rfl, _, rfl, b, _, rfl, g, t, _, 0, _, rfl, rfl, ht, atI_nat (j := 0) rfl, _, rfl, _, rfl, b, _, rfl, g, t, _, 1, _, rfl, rfl, ht, atI_nat (j := 1) rfl, _, rfl, _, rfl, b, _, rfl, g, t, _, 3, _, rfl, rfl, ht, atI_nat (j := 3) rfl, by show 4 ≤ sizeLine; decide, fun p1 np1 => ⟨_, rfl, by show 2 ≤ sizeLine; decide, fun w1 nw1 => ⟨by show 2 ≤ sizeLine; decide, fun t2 nt2 => ?_⟩⟩⟩
      have s3 := same_new (o := .tup [.str "bound", .str r.2.1, .str r.2.2.1, .int r.2.2.2.2.1]) np1
      have s4 := same_new (o := .tup [.str "most", .str r.1]) nw1
      have s5 := same_new (o := .tup [.ref p1, .ref w1]) nt2
      have s345 := s3.trans (s4.trans s5)
      refine ⟨d, _, _, rfl, rfl, s345 _ _ hd2, by rw [List.length_map, sizeLine_eq]; omega, _, ps ++ [t2], rfl, same_mut (s2.trans s345) nd, ?_, by rw [upd_same, List.map_append]; rfl, ?_⟩
      · rw [upd_ne (Ne.symm dp)]
        exact s345 _ _ hp2
      · have ei : (told4 (srtR D.W))[i]? = some (mkR "most" r.1 r.2.1 r.2.2.1 r.2.2.2.2.1) := by
          show ((srtR D.W).map _)[i]? = _
          rw [List.getElem?_map, hr1]
          rfl
        rw [List.take_add_one, ei, ← List.append_assoc]
        have tp2 := Tp.lst (o := .lst (ps.map V.ref ++ [.ref t2])) (s345 _ _ hd2)
        refine paired_snoc ((pr2.tp (Tp.of s345)).tp tp2) (RP.tp tp2 ⟨p1, w1, upd_same, ?_, s5 _ _ upd_same⟩)
        exact s5 _ _ (s4 _ _ upd_same)
    · obtain ⟨x4, ps, rfl, s2, hp2, hd2, pr2⟩ := q
      have e3 : ((srt (D.W.map (·.1))).map V.str).length = (told4 (srtR D.W)).length := by
        show _ = ((srtR D.W).map _).length
        rw [List.length_map, List.length_map, srt_len, List.length_map, srtR_len]
      rw [e3, List.take_length] at pr2
      exact ⟨x4, d, ps, rfl, s2, nd, hd2, pr2⟩
  clear hd pr lp
  rintro _ H1 ⟨x4, d, ps, rfl, s1, nd, hd, pr⟩
  have lp : ps.length ≤ 860 := by
    have := Paired.length pr
    unfold told1 told2 told3 told4 at this
    simp only [List.length_append, List.length_map] at this
    omega
  refine ⟨St (toldR (sortN D)), ?_, ?_⟩
  · refine ⟨_, rfl, _, _, rfl, Lot.names (.inl ⟨b, rfl, tb.same s1⟩), by rw [List.length_map]; omega, fun p np => ⟨p, rfl, ⟨_, SqL.of upd_same⟩, ?_⟩⟩
    have dp : d ≠ p := ne_of_none hd np
    refine for_list (K := K) (xs := (srt (D.W.map (·.1))).map V.str) (fun i σ H' => ∃ (x4 : Option V) (ps : List Addr), σ = [some (.ref pl), some (.ref a), some (.ref b), some (.ref c), x4, some (.ref d), none] ∧ Same H0 H' ∧ H' p = some (.lst ((srt (D.W.map (·.1))).map V.str)) ∧ H' d = some (.lst (ps.map V.ref)) ∧ RPs H' ps ((told1 (srtR D.B) ++ told2 (srtR D.L) ++ told3 (srtR D.L) ++ told4 (srtR D.W)) ++ (told5 (srtR D.W)).take i))
      ⟨x4, ps, rfl, s1.trans (same_new np), upd_same, by rw [upd_ne dp]; exact hd, by rw [List.take_zero, List.append_nil]; exact pr.tp (Tp.of (same_new np))⟩ (fun i σ H' _ q => by obtain ⟨_, _, _, _, h, _⟩ := q; exact SqL.of h) (fun i y σ H' hy q => ?_) (fun σ H' q => ?_)
    · obtain ⟨x4, ps, rfl, s2, hp2, hd2, pr2⟩ := q
      obtain ⟨r, hr1, rfl, lk, mem⟩ := srt_at hy
      obtain ⟨u, g, du⟩ := (tb.same s2).tr.get lk
      obtain ⟨t, rfl, ht⟩ := wk_at du
      have l3 : ps.length ≤ 1000 := by
        have e1 := Paired.length pr2
        have e2 : ((told5 (srtR D.W)).take i).length ≤ (told5 (srtR D.W)).length := by rw [List.length_take]; exact Nat.min_le_right _ _
        simp only [told1, told2, told3, told4, told5, List.length_append, List.length_map] at e1 e2
        omega
      refine ⟨_, rfl, .inl ⟨rfl, _, SqL.of hd2⟩, _, rfl, _, rfl, b, _, rfl, g, t, _, 1, _, rfl, rfl, ht, atI_nat (j := 1) rfl, _, rfl, _, rfl, b, _, rfl, g, t, _, 0, _, rfl, rfl, ht, atI_nat (j := 0) rfl, _, rfl, _, rfl, b, _, rfl, g, t, _, 2, .int r.2.2.2.1, rfl, rfl, ht, atI_nat (j := 2) rfl, _, _, rfl, rfl, by show 4 ≤ sizeLine; decide, fun p1 np1 => ⟨_, rfl, by show 2 ≤ sizeLine; decide, fun w1 nw1 => ⟨by show 2 ≤ sizeLine; decide, fun t2 nt2 => ?_⟩⟩⟩
      have s3 := same_new (o := .tup [.str "bound", .str r.2.2.1, .str r.2.1, .int (0 - r.2.2.2.1)]) np1
      have s4 := same_new (o := .tup [.str "least", .str r.1]) nw1
      have s5 := same_new (o := .tup [.ref p1, .ref w1]) nt2
      have s345 := s3.trans (s4.trans s5)
      refine ⟨d, _, _, rfl, rfl, s345 _ _ hd2, by rw [List.length_map, sizeLine_eq]; omega, _, ps ++ [t2], rfl, same_mut (s2.trans s345) nd, ?_, by rw [upd_same, List.map_append]; rfl, ?_⟩
      · rw [upd_ne (Ne.symm dp)]
        exact s345 _ _ hp2
      · have ei : (told5 (srtR D.W))[i]? = some (mkR "least" r.1 r.2.2.1 r.2.1 (-r.2.2.2.1)) := by
          show ((srtR D.W).map _)[i]? = _
          rw [List.getElem?_map, hr1]
          rfl
        rw [List.take_add_one, ei, ← List.append_assoc]
        have tp2 := Tp.lst (o := .lst (ps.map V.ref ++ [.ref t2])) (s345 _ _ hd2)
        refine paired_snoc ((pr2.tp (Tp.of s345)).tp tp2) (RP.tp tp2 ⟨p1, w1, upd_same, ?_, s5 _ _ upd_same⟩)
        exact s5 _ _ (s4 _ _ (by rw [upd_same]; show some (HO.tup [_, _, _, V.int (0 - r.2.2.2.1)]) = some (HO.tup [_, _, _, V.int (-r.2.2.2.1)]); rw [Int.zero_sub]))
    · obtain ⟨x4, ps, rfl, s2, hp2, hd2, pr2⟩ := q
      have e3 : ((srt (D.W.map (·.1))).map V.str).length = (told5 (srtR D.W)).length := by
        show _ = ((srtR D.W).map _).length
        rw [List.length_map, List.length_map, srt_len, List.length_map, srtR_len]
      rw [e3, List.take_length] at pr2
      refine ⟨x4, d, ps, rfl, s2, nd, hd2, ?_⟩
      have e4 : toldR (sortN D) = (told1 (srtR D.B) ++ told2 (srtR D.L) ++ told3 (srtR D.L) ++ told4 (srtR D.W)) ++ told5 (srtR D.W) := by
        unfold toldR sortN
        simp only [List.append_assoc]
      rw [e4]
      exact pr2
  rintro _ H1 ⟨x4, d, ps, rfl, s1, nd, hd, pr⟩
  exact ⟨_, rfl, k d ps _ s1 nd hd pr⟩
end
end LW
namespace LW
open PySem PySem.Spec PyProof.Rows L2 DW
/-! ### the drawn nets, as data -/
def eN (i : Nat) : Str := ("e" : Str) ++ nS i
def baseN (m : Nat) : List Str := (List.range m).map eN ++ [("a" : Str), ("b.1" : Str), ("z9" : Str), ("go.go" : Str)]
theorem base_ok : ∀ m ∈ [1, 3, 7, 20, 40], (baseN m).Nodup ∧ ((baseN m).all nameS) = true ∧ (baseN m).length = m + 4 := by decide +kernel
theorem sub_perm : ∀ {xs ys : List Str}, xs.Nodup → (∀ x ∈ xs, x ∈ ys) → ys.length ≤ xs.length → ys.Perm xs
  | [], ys, _, _, h => by
    rw [List.length_eq_zero_iff.mp (Nat.le_zero.mp h)]
  | x :: xs, ys, nd, s, h => by
    rw [List.nodup_cons] at nd
    have xm := s x (List.mem_cons_self ..)
    have e := List.length_erase_of_mem xm
    have pos : 0 < ys.length := List.length_pos_of_mem xm
    have ih := sub_perm (xs := xs) (ys := ys.erase x) nd.2 (fun z hz => (List.mem_erase_of_ne (fun e => nd.1 (by rw [← e]; exact hz))).mpr (s z (List.mem_cons_of_mem _ hz))) (by rw [List.length_cons] at h; omega)
    exact (List.perm_cons_erase xm).trans (ih.cons x)
theorem strs_perm {ts : List Str} {zs : List V} (p : zs.Perm (ts.map V.str)) : ∃ ps : List Str, zs = ps.map V.str ∧ ps.Perm ts := by
  let g : V → Str := fun v => match v with | .str s => s | _ => Str.empty
  refine ⟨zs.map g, ?_, ?_⟩
  · rw [List.map_map]
    have : ∀ z ∈ zs, z = (V.str ∘ g) z := fun z hz => by
      obtain ⟨a, _, rfl⟩ := List.mem_map.mp (p.mem_iff.mp hz)
      rfl
    conv => lhs; rw [← List.map_id zs]
    exact List.map_congr_left this
  · have := p.map g
    rw [List.map_map] at this
    have e : ts.map (g ∘ V.str) = ts := by
      conv => rhs; rw [← List.map_id ts]
      rfl
    rw [e] at this
    exact this
theorem cut_take (xs : List V) (m : Nat) : cutV xs none (some (m : Int)) = xs.take m := by
  unfold cutV
  have e1 : HT.sIx xs.length 0 none = 0 := rfl
  have e2 : HT.sIx xs.length xs.length (some (m : Int)) = min m xs.length := by
    show (if (m : Int) < 0 then ((m : Int) + (xs.length : Int)).toNat else min (m : Int).toNat xs.length) = _
    rw [if_neg (by omega), Int.toNat_natCast]
  rw [e1, e2, List.drop_zero, Nat.sub_zero]
  rw [List.take_eq_take_iff]
  omega
/-- every second, from the first or the second one -/
theorem pick_even {α : Type} {xs : List α} {x : α} (h : x ∈ pickL xs none none (some 2)) : ∃ i, xs[2 * i]? = some x := by
  obtain ⟨j, hj, e⟩ := pick_mem.mp h
  unfold pickIx sliceRange sliceBounds at hj
  simp only [Option.getD_some] at hj
  obtain ⟨k, _, ek⟩ := List.mem_map.mp hj
  refine ⟨k, ?_⟩
  have : j = 2 * k := by
    rw [← ek]
    simp
    omega
  rw [← this]
  exact e
theorem pick_odd {α : Type} {xs : List α} {x : α} (h : x ∈ pickL xs (some 1) none (some 2)) : ∃ i, xs[2 * i + 1]? = some x := by
  obtain ⟨j, hj, e⟩ := pick_mem.mp h
  have pos : 0 < xs.length := by
    rcases Nat.eq_zero_or_pos xs.length with z | z
    · rw [List.length_eq_zero_iff.mp z] at e
      simp at e
    · exact z
  unfold pickIx sliceRange sliceBounds at hj
  simp only [Option.getD_some] at hj
  obtain ⟨k, _, ek⟩ := List.mem_map.mp hj
  refine ⟨k, ?_⟩
  have : j = 2 * k + 1 := by
    rw [← ek]
    have e1 : max (0 : Int) (min 1 (xs.length : Int)) = 1 := by omega
    simp [e1]
    omega
  rw [← this]
  exact e
theorem range_len (a b c : Int) : (sliceRange a b c).length = (if c > 0 then (if a < b then (b - a + c - 1) / c else 0) else (if a > b then (a - b - c - 1) / (-c) else 0)).toNat := by
  unfold sliceRange
  simp only [List.length_map, List.length_range]
theorem pick_len {α : Type} {xs : List α} {lo hi st : Option Int} : (pickL xs lo hi st).length ≤ (pickIx lo hi st xs.length).length := fm_len _ _
/-- the picked ones are no more than all -/
theorem pick_le2 {α : Type} {xs : List α} (nd : xs.Nodup) (lo : Option Int) (hlo : lo = none ∨ lo = some 1) : (pickL xs lo none (some 2)).Nodup := by
  unfold pickL
  have ix : (pickIx lo none (some 2) xs.length).Pairwise (· < ·) := by
    unfold pickIx sliceRange sliceBounds
    simp only [Option.getD_some]
    rw [List.pairwise_map]
    refine List.Pairwise.imp (fun {a b} h => ?_) List.pairwise_lt_range
    rcases hlo with rfl | rfl
    · simp
      omega
    · simp
      omega
  refine List.Pairwise.filterMap (R := (· < ·)) _ (fun a b lt x hx y hy => ?_) ix
  intro e
  subst e
  obtain ⟨ha, ea⟩ := List.getElem?_eq_some_iff.mp hx
  obtain ⟨hb, eb⟩ := List.getElem?_eq_some_iff.mp hy
  have := (List.pairwise_iff_getElem.mp nd) a b ha hb lt
  exact this (ea.trans eb.symm)
theorem pick_map {α β : Type} (f : α → β) (xs : List α) (lo hi st : Option Int) : pickL (xs.map f) lo hi st = (pickL xs lo hi st).map f := by
  unfold pickL
  rw [List.length_map]
  have : ∀ l : List Nat, l.filterMap ((xs.map f)[·]?) = (l.filterMap (xs[·]?)).map f := by
    intro l
    induction l with
    | nil => rfl
    | cons i l ih =>
      cases e : xs[i]? with
      | none => rw [List.filterMap_cons_none e, List.filterMap_cons_none (by rw [List.getElem?_map, e]; rfl), ih]
      | some x => rw [List.filterMap_cons_some e, List.filterMap_cons_some (b := f x) (by rw [List.getElem?_map, e]; rfl), ih, List.map_cons]
  exact this _
theorem pick_sub {α : Type} {xs : List α} {lo hi st : Option Int} {x : α} (h : x ∈ pickL xs lo hi st) : x ∈ xs := by
  obtain ⟨i, _, e⟩ := pick_mem.mp h
  exact List.mem_of_getElem? e
theorem nodup_len : ∀ {xs ys : List Str}, xs.Nodup → (∀ x ∈ xs, x ∈ ys) → xs.length ≤ ys.length
  | [], _, _, _ => Nat.zero_le _
  | x :: xs, ys, nd, s => by
    rw [List.nodup_cons] at nd
    have xm := s x (List.mem_cons_self ..)
    have e := List.length_erase_of_mem xm
    have pos : 0 < ys.length := List.length_pos_of_mem xm
    have ih := nodup_len (xs := xs) (ys := ys.erase x) nd.2 (fun z hz => (List.mem_erase_of_ne (fun e => nd.1 (by rw [← e]; exact hz))).mpr (s z (List.mem_cons_of_mem _ hz)))
    rw [List.length_cons]
    omega
theorem none_but {H H' : Hp} {D a : Addr} (b : But D H H') (hD : Dc H' D) (n : H' a = none) : H a = none := by
  cases e : H a with
  | none => rfl
  | some o =>
    by_cases z : a = D
    · obtain ⟨d0, d1, d2, eD⟩ := hD
      rw [z, eD] at n
      cases n
    · rw [b _ _ z e] at n
      cases n
theorem but_mut {H H' : Hp} {D a : Addr} {o : HO} (b : But D H H') (n : H a = none) : But D H (upd H' a o) := fun c u nc e => by
  rw [upd_ne (ne_of_none e n)]
  exact b c u nc e
theorem dc_upd {H : Hp} {D a : Addr} {o : HO} (hD : Dc H D) (n : a ≠ D) : Dc (upd H a o) D := by
  obtain ⟨d0, d1, d2, e⟩ := hD
  exact ⟨d0, d1, d2, by rw [upd_ne (Ne.symm n)]; exact e⟩
end LW
namespace LW
open PySem PySem.Spec PyProof.Rows L2 DW
/-! ### the drawn works, as data -/
def preW : List Str := [("w" : Str), ("fly." : Str), ("x" : Str)]
def rkS : List Str → Str → Nat
  | [], _ => 0
  | x :: l, s => if x = s then 1 else match rkS l s with
    | 0 => 0
    | n + 1 => n + 2
theorem rk_at : ∀ {sh : List Str} {i : Nat} {e : Str}, sh.Nodup → sh[i]? = some e → rkS sh e = i + 1
  | x :: l, 0, e, _, h => by
    cases h
    unfold rkS
    rw [if_pos rfl]
  | x :: l, i + 1, e, nd, h => by
    rw [List.nodup_cons] at nd
    have h : l[i]? = some e := h
    have ih := rk_at nd.2 h
    unfold rkS
    rw [if_neg (fun z => nd.1 (by rw [z]; exact List.mem_of_getElem? h)), ih]
theorem rk_out : ∀ {sh : List Str} {s : Str}, s ∉ sh → rkS sh s = 0
  | [], _, _ => rfl
  | x :: l, s, h => by
    rw [List.mem_cons, not_or] at h
    unfold rkS
    rw [if_neg (Ne.symm h.1), rk_out h.2]
theorem rk_take {sh : List Str} {i : Nat} {e : Str} (nd : sh.Nodup) (h : e ∈ sh.take i) : rkS sh e ≤ i := by
  obtain ⟨j, hj⟩ := List.mem_iff_getElem?.mp h
  have lt : j < i := by
    rcases Nat.lt_or_ge j i with q | q
    · exact q
    · rw [List.getElem?_eq_none (by rw [List.length_take]; omega)] at hj
      cases hj
  rw [List.getElem?_take_of_lt lt] at hj
  rw [rk_at nd hj]
  exact lt
theorem preW_inj : ∀ p ∈ preW, ∀ q ∈ preW, ∀ i j : Fin 40, p ++ nS i.val = q ++ nS j.val → i = j := by decide +kernel
theorem preW_nm : ∀ p ∈ preW, ∀ i : Fin 40, nameS (p ++ nS i.val) = true := by decide +kernel
structure WI (L : Ls) (sh : List Str) (i : Nat) (W : Ws) (op : List Str) : Prop where
  nm : ∀ q ∈ W, ∃ p ∈ preW, ∃ j, j < i ∧ q.1 = p ++ nS j
  nd : (W.map (·.1)).Nodup
  wk : ∀ q ∈ W, OkWk L q.2
  en : (W.map fun q => q.2.2.1).Sublist (sh.take i)
  rk : ∀ q ∈ W, rkS sh q.2.1 < rkS sh q.2.2.1
  lk : ∀ q ∈ W, ∀ r ∈ W, q.2.1 = r.2.2.1 → r.2.2.2.2.2 = 0
  ok : ∀ s ∈ op, knownB L s = true ∧ rkS sh s ≤ i
  ol : ∀ s ∈ op, ∀ r ∈ W, s = r.2.2.1 → r.2.2.2.2.2 = 0
  len : op.length ≤ 41 + i
  pos : 0 < op.length
theorem WI.skip {L : Ls} {sh : List Str} {i : Nat} {W : Ws} {op : List Str} (h : WI L sh i W op) : WI L sh (i + 1) W op where
  nm := fun q hq => by
    obtain ⟨p, hp, j, hj, e⟩ := h.nm q hq
    exact ⟨p, hp, j, Nat.lt_succ_of_lt hj, e⟩
  nd := h.nd
  wk := h.wk
  en := h.en.trans (List.take_sublist_take_left (Nat.le_succ i))
  rk := h.rk
  lk := h.lk
  ok := fun s hs => ⟨(h.ok s hs).1, Nat.le_succ_of_le (h.ok s hs).2⟩
  ol := h.ol
  len := Nat.le_trans h.len (by omega)
  pos := h.pos
theorem WI.step {L : Ls} {sh : List Str} {i : Nat} {W : Ws} {op : List Str} {e b p : Str} {l m k : Int} (h : WI L sh i W op) (nd : sh.Nodup) (i40 : i < 40) (he : sh[i]? = some e) (ke : knownB L e = true) (ne : e ≠ ("dawn" : Str)) (hb : b ∈ op) (hp : p ∈ preW)
    (l1 : 1 ≤ l) (lm : l ≤ m) (m1 : m ≤ 10 ^ 30) (k1 : 0 ≤ k ∧ k ≤ 20) : (p ++ nS i) ∉ W.map (·.1) ∧ WI L sh (i + 1) (W ++ [(p ++ nS i, (b, e, l, m, k))]) (op ++ (if k = 0 then [e] else [])) := by
  have re := rk_at nd he
  have rb := (h.ok b hb).2
  have be : b ≠ e := fun z => by rw [z, re] at rb; omega
  have tk : sh.take (i + 1) = sh.take i ++ [e] := by
    rw [List.take_add_one, he]
    rfl
  have ein : e ∉ sh.take i := fun z => by
    have := rk_take nd z
    omega
  have endI : ∀ q ∈ W, q.2.2.1 ∈ sh.take i := fun q hq => h.en.subset (List.mem_map.mpr ⟨q, hq, rfl⟩)
  have fresh : (p ++ nS i) ∉ W.map (·.1) := fun z => by
    obtain ⟨q, hq, e1⟩ := List.mem_map.mp z
    obtain ⟨p', hp', j, hj, e2⟩ := h.nm q hq
    have := preW_inj p' hp' p hp ⟨j, by omega⟩ ⟨i, i40⟩ (e2.symm.trans e1)
    have : j = i := congrArg Fin.val this
    omega
  refine ⟨fresh, ?_⟩
  constructor
  · intro q hq
    rcases List.mem_append.mp hq with hq | hq
    · obtain ⟨p', hp', j, hj, e2⟩ := h.nm q hq
      exact ⟨p', hp', j, Nat.lt_succ_of_lt hj, e2⟩
    · rw [List.mem_singleton] at hq
      subst hq
      exact ⟨p, hp, i, Nat.lt_succ_self _, rfl⟩
  · rw [List.map_append]
    refine List.nodup_append.mpr ⟨h.nd, List.nodup_cons.mpr ⟨fun q => (by cases q), .nil⟩, fun a ha c hc z => ?_⟩
    have hc : c = p ++ nS i := List.mem_singleton.mp hc
    rw [hc] at z
    rw [z] at ha
    exact fresh ha
  · intro q hq
    rcases List.mem_append.mp hq with hq | hq
    · exact h.wk q hq
    · rw [List.mem_singleton] at hq
      subst hq
      exact ⟨(h.ok b hb).1, ke, ne, be, l1, lm, m1, k1⟩
  · rw [List.map_append, tk]
    exact h.en.append (List.Sublist.refl _)
  · intro q hq
    rcases List.mem_append.mp hq with hq | hq
    · exact h.rk q hq
    · rw [List.mem_singleton] at hq
      subst hq
      show rkS sh b < rkS sh e
      omega
  · intro q hq r hr z
    rcases List.mem_append.mp hq with hq | hq
    · rcases List.mem_append.mp hr with hr | hr
      · exact h.lk q hq r hr z
      · rw [List.mem_singleton] at hr
        subst hr
        have z : q.2.1 = e := z
        have h1 := h.rk q hq
        have h2 := rk_take nd (endI q hq)
        rw [z, re] at h1
        omega
    · rw [List.mem_singleton] at hq
      subst hq
      rcases List.mem_append.mp hr with hr | hr
      · exact h.ol b hb r hr z
      · rw [List.mem_singleton] at hr
        subst hr
        exact absurd z be
  · intro s hs
    rcases List.mem_append.mp hs with hs | hs
    · exact ⟨(h.ok s hs).1, Nat.le_succ_of_le (h.ok s hs).2⟩
    · by_cases z : k = 0
      · rw [if_pos z, List.mem_singleton] at hs
        subst hs
        exact ⟨ke, by rw [re]; exact Nat.le_refl _⟩
      · rw [if_neg z] at hs
        cases hs
  · intro s hs r hr z
    rcases List.mem_append.mp hs with hs | hs
    · rcases List.mem_append.mp hr with hr | hr
      · exact h.ol s hs r hr z
      · rw [List.mem_singleton] at hr
        subst hr
        have z : s = e := z
        have := (h.ok s hs).2
        rw [z, re] at this
        omega
    · by_cases k0 : k = 0
      · rw [if_pos k0, List.mem_singleton] at hs
        subst hs
        rcases List.mem_append.mp hr with hr | hr
        · exact absurd (z ▸ endI r hr) ein
        · rw [List.mem_singleton] at hr
          subst hr
          exact k0
      · rw [if_neg k0] at hs
        cases hs
  · rw [List.length_append]
    have : (if k = 0 then [e] else []).length ≤ 1 := by split <;> simp
    have := h.len
    omega
  · rw [List.length_append]
    have := h.pos
    omega
theorem WI.init {L : Ls} {sh op : List Str} (h : ∀ s ∈ op, knownB L s = true ∧ s ∉ sh) (l : op.length ≤ 41) (ps : 0 < op.length) : WI L sh 0 [] op where
  nm := fun q hq => (by cases hq)
  nd := List.nodup_nil
  wk := fun q hq => (by cases hq)
  en := List.nil_sublist _
  rk := fun q hq => (by cases hq)
  lk := fun q hq => (by cases hq)
  ok := fun s hs => ⟨(h s hs).1, by rw [rk_out (h s hs).2]; exact Nat.le_refl _⟩
  ol := fun s hs r hr => (by cases hr)
  len := l
  pos := ps
theorem WI.fin {L : Ls} {sh : List Str} {i : Nat} {W : Ws} {op : List Str} (h : WI L sh i W op) (nd : sh.Nodup) (i40 : i ≤ 40) (ls : sh.length ≤ 60) : OkW L W where
  nd := h.nd
  len := by
    have e1 := h.en.length_le
    rw [List.length_map, List.length_take] at e1
    omega
  name := fun q hq => by
    obtain ⟨p, hp, j, hj, e⟩ := h.nm q hq
    rw [e]
    exact preW_nm p hp ⟨j, by omega⟩
  wk := h.wk
  ends := h.en.nodup ((List.take_sublist i sh).nodup nd)
  rank := ⟨rkS sh, h.rk⟩
  look := h.lk
end LW
namespace LW
open PySem PySem.Spec PyProof.Rows L2 DW
/-! ### the drawn bounds, as data -/
def preB : List Str := [("b" : Str), ("k." : Str), ("w" : Str)]
theorem preB_nm : ∀ p ∈ preB, ∀ i : Fin 80, nameS (p ++ nS i.val) = true := by decide +kernel
theorem nS_inj : ∀ i j : Fin 80, nS i.val = nS j.val → i = j := by decide +kernel
theorem preB_fst : ∀ p ∈ preB, ∀ q ∈ preB, p ≠ q → p.cps.toList.getD 0 0 ≠ q.cps.toList.getD 0 0 := by decide +kernel
theorem preB_pos : ∀ p ∈ preB, 0 < p.cps.toList.length := by decide +kernel
theorem cps_app (x y : Str) : (x ++ y).cps.toList = x.cps.toList ++ y.cps.toList := by
  rw [PySem.Str.cps_append]
  simp
theorem preB_inj {p q : Str} (hp : p ∈ preB) (hq : q ∈ preB) {i j : Nat} (hi : i < 80) (hj : j < 80) (e : p ++ nS i = q ++ nS j) : i = j := by
  have e2 : p.cps.toList ++ (nS i).cps.toList = q.cps.toList ++ (nS j).cps.toList := by rw [← cps_app, ← cps_app, e]
  by_cases pq : p = q
  · subst pq
    have e3 := List.append_cancel_left e2
    have := nS_inj ⟨i, hi⟩ ⟨j, hj⟩ (str_cps e3)
    exact congrArg Fin.val this
  · exfalso
    refine preB_fst p hp q hq pq ?_
    have h1 := preB_pos p hp
    have h2 := preB_pos q hq
    have e3 := congrArg (fun l => l.getD 0 0) e2
    simp only [List.getD_eq_getElem?_getD, List.getElem?_append_left h1, List.getElem?_append_left h2] at e3
    simp only [List.getD_eq_getElem?_getD]
    exact e3
structure BI (L : Ls) (i : Nat) (B : Bs) : Prop where
  nm : ∀ q ∈ B, ∃ p ∈ preB, ∃ j, j < i ∧ q.1 = p ++ nS j
  nd : (B.map (·.1)).Nodup
  bd : ∀ q ∈ B, OkBd L q.2
  len : B.length = i
  lo : ∀ q ∈ B, -1 ≤ q.2.2.2
theorem BI.init {L : Ls} : BI L 0 [] := ⟨fun q hq => (by cases hq), List.nodup_nil, fun q hq => (by cases hq), rfl, fun q hq => (by cases hq)⟩
theorem BI.step {L : Ls} {i : Nat} {B : Bs} {p : Str} {b : BdT} (h : BI L i B) (i80 : i < 80) (hp : p ∈ preB) (hb : OkBd L b) (hl : -1 ≤ b.2.2) : (p ++ nS i) ∉ B.map (·.1) ∧ BI L (i + 1) (B ++ [(p ++ nS i, b)]) := by
  have fresh : (p ++ nS i) ∉ B.map (·.1) := fun z => by
    obtain ⟨q, hq, e1⟩ := List.mem_map.mp z
    obtain ⟨p', hp', j, hj, e2⟩ := h.nm q hq
    have := preB_inj hp' hp (by omega) i80 (e2.symm.trans e1)
    omega
  refine ⟨fresh, ?_, ?_, ?_, ?_, ?_⟩
  · intro q hq
    rcases List.mem_append.mp hq with hq | hq
    · obtain ⟨p', hp', j, hj, e2⟩ := h.nm q hq
      exact ⟨p', hp', j, Nat.lt_succ_of_lt hj, e2⟩
    · rw [List.mem_singleton] at hq
      subst hq
      exact ⟨p, hp, i, Nat.lt_succ_self _, rfl⟩
  · rw [List.map_append]
    refine List.nodup_append.mpr ⟨h.nd, List.nodup_cons.mpr ⟨fun q => (by cases q), .nil⟩, fun a ha c hc z => ?_⟩
    have hc : c = p ++ nS i := List.mem_singleton.mp hc
    rw [hc] at z
    rw [z] at ha
    exact fresh ha
  · intro q hq
    rcases List.mem_append.mp hq with hq | hq
    · exact h.bd q hq
    · rw [List.mem_singleton] at hq
      subst hq
      exact hb
  · rw [List.length_append, h.len]
    rfl
  · intro q hq
    rcases List.mem_append.mp hq with hq | hq
    · exact h.lo q hq
    · rw [List.mem_singleton] at hq
      subst hq
      exact hl
theorem BI.fin {L : Ls} {i : Nat} {B : Bs} (h : BI L i B) (i80 : i ≤ 80) : OkB L B where
  nd := h.nd
  len := by have := h.len; omega
  name := fun q hq => by
    obtain ⟨p, hp, j, hj, e⟩ := h.nm q hq
    rw [e]
    exact preB_nm p hp ⟨j, by omega⟩
  bd := h.bd
end LW
namespace LW
open PySem PySem.Spec PyProof.Rows L2 DW
section
variable {P : Program} {w : World} {K : PySem.W.Frag} {mg : Str → Option Value} {base : Heap}
abbrev grN : List Str := ["dice", "many", "at", "names", "lasts", "works", "bounds", "open_ones", "name", "end", "least", "most", "look", "pair", "number"]
theorem scGr : FnScope grN ["dice"] (defScope s_law_nt_great) := ⟨rfl, rfl, rfl, by decide +kernel, rfl, by decide +kernel, by decide +kernel⟩
/-- small enough to be shown -/
structure SmallN (D : PlainD) : Prop where
  l : D.L.length ≤ 60
  w : D.W.length ≤ 60
  b : D.B.length ≤ 100
/-- what else stands of a drawn net -/
structure DrawnN (D : PlainD) : Prop where
  lo : ∀ q ∈ D.B, -1 ≤ q.2.2.2
  nw : ∀ q ∈ D.L, q.1 ≠ ("new" : Str)
  nl : ∀ q ∈ D.L, q.1 ≠ ("nil" : Str)
theorem base_new : ∀ m ∈ [1, 3, 7, 20, 40], ((baseN m).all fun z => z != ("new" : Str) && z != ("nil" : Str)) = true := by decide +kernel
def spGr (K : PySem.W.Frag) : Sp := fun vs H Q _ => ∃ D : Addr, vs = [.ref D] ∧ Dc H D ∧ ∀ (pl : Addr) (N : PlainD) H', PlainAt K H' pl N → OkN N → SmallN N → DrawnN N → But D H H' → Dc H' D → pl ≠ D → Q (.ref pl) H'
structure NamesOk (ns : List Str) : Prop where
  nd : ns.Nodup
  nm : ∀ z ∈ ns, nameS z = true
  l1 : 1 ≤ ns.length
  l2 : ns.length ≤ 40
  nw : ∀ z ∈ ns, z ≠ ("new" : Str)
  nl : ∀ z ∈ ns, z ≠ ("nil" : Str)
/-- what stands while works are drawn -/
structure Fx (K : PySem.W.Frag) (p a b c o q : Addr) (ns : List Str) (L : Ls) (W : Ws) (op sh : List Str) (H : Hp) : Prop where
  p : H p = some (.lst (ns.map V.str))
  a : TD inD K H a L
  b : TD wkD K H b W
  c : H c = some (.dK [])
  o : H o = some (.lst (op.map V.str))
  q : H q = some (.lst (sh.map V.str))
theorem Fx.but {K : PySem.W.Frag} {p a b c o q D : Addr} {ns : List Str} {L : Ls} {W : Ws} {op sh : List Str} {H H' : Hp} (hD : Dc H D) (bt : But D H H') (np : p ≠ D) (nc : c ≠ D) (no : o ≠ D) (nq : q ≠ D) (h : Fx K p a b c o q ns L W op sh H) : Fx K p a b c o q ns L W op sh H' :=
  ⟨bt _ _ np h.p, td_roll ge_in hD bt h.a, td_roll ge_wk hD bt h.b, bt _ _ nc h.c, bt _ _ no h.o, bt _ _ nq h.q⟩
/-- picked of a written list of numbers -/
theorem pick_int {K : PySem.W.Frag} {H : Hp} {D q : Addr} {xs : List V} {R : VK} {E : XK} (hD : Dc H D) (nq : H q = none) (l0 : 0 < xs.length) (l1 : xs.length < 1000) (k : ∀ u H', u ∈ xs → But D H H' → Dc H' D → R u H') : spPick K [.ref D, .ref q] (upd H q (.lst xs)) R E :=
  ⟨D, .ref q, rfl, hD.same (same_new nq), .inl ⟨q, xs, rfl, new_ne hD nq, upd_same, l0, l1, fun u H' hu b hd => k u H' hu ((Same.but (same_new nq)).trans b) hd⟩⟩
abbrev sl15 (D : Addr) (m : Nat) (x2 x3 x4 x5 x6 x7 x8 x9 x10 x11 x12 x13 x14 : Option V) : L2.St := [some (.ref D), some (.int (m : Nat)), x2, x3, x4, x5, x6, x7, x8, x9, x10, x11, x12, x13, x14]
theorem ok_gr {f fR fP fS : Addr} {fd dR dP dS : FuncData} (F : Fun K "_law_nt_great" "_law_nt_great" s_law_nt_great f fd) (CR : Cal P w K mg base 1 "_law_roll" ["dice", "total"] spRoll fR dR) (CP : Cal P w K mg base 2 "_law_pick" ["dice", "items"] (spPick K) fP dP)
    (CS : Cal P w K mg base 2 "_law_shuffled" ["dice", "items"] spShuf fS dS) (zR : mg "range" = none) (zT : mg "str" = none) (zS : mg "sorted" = none) (zE : mg "set" = none) (zN : mg "enumerate" = none) : FnOk P w K mg base CX0 3 f fd ["dice"] (spGr K) := by
  refine F.ok scGr (fun vs H Q E h => ?_) (fun cdv A outer s H vs Q E hr h => ?_)
  · obtain ⟨D, rfl, _⟩ := h
    rfl
  obtain ⟨D, rfl, hD, k⟩ := h
  refine ⟨_, C8.pss_cut (ps_set (i := 1) scGr.nd rfl (Or.inl rfl) (pe_cal (E := E0) CP hr rfl (pa_cons (pv 0) (pa_cons (pe_lst (pa_cons pe_int (pa_cons pe_int (pa_cons pe_int (pa_cons pe_int (pa_cons pe_int pa_nil)))))) pa_nil))))
    (C8.pss_cut (ps_set (i := 3) scGr.nd rfl (Or.inl rfl) (pe_op op_cat (pe_lc (own := [("at", 2)]) (g := gName 2) (tt := tYes) rfl scGr.nd (pi_range1 rfl zR (pa_cons (pv 1) pa_nil)) (blkOk_by (own := [("at", 2)]) (N := grN) (sc := defScope s_law_nt_great) (by decide +kernel))
        (fun _ _ _ _ _ => pg_name (i := 2) scGr.nd rfl (Or.inl rfl)) (fun _ _ _ _ _ => pts_nil) (fun _ _ _ _ _ => pe_op op_add_str pe_str (pe_callTy call_str_int (by rfl) zT (by decide +kernel) (pa_cons (pv 2) pa_nil)))) (pe_lst (pa_cons pe_str (pa_cons pe_str (pa_cons pe_str (pa_cons pe_str pa_nil)))))))
    (C8.pss_cut (ps_set (i := 3) scGr.nd rfl (Or.inl rfl) (pe_sortSet rfl rfl zS rfl zE (pe_slice sl_list (pe_cal (E := E0) CS hr rfl (pa_cons (pv 0) (pa_cons (pv 3) pa_nil))) po_none (po_some (pv 1)))))
    (C8.pss_cut (ps_asg (pe_tup (pa_cons pe_dnewK (pa_cons pe_dnewK (pa_cons pe_dnewK (pa_cons (pe_op op_cat (pe_lst (pa_cons pe_str pa_nil)) (pe_slS (pv 3) po_none po_none (po_some pe_int))) pa_nil))))) (pg_tup rfl (pgs_cons (pg_name (i := 4) scGr.nd rfl (Or.inl rfl)) (pgs_cons (pg_name (i := 5) scGr.nd rfl (Or.inl rfl)) (pgs_cons (pg_name (i := 6) scGr.nd rfl (Or.inl rfl)) (pgs_cons (pg_name (i := 7) scGr.nd rfl (Or.inl rfl)) pgs_nil))))))
    (C8.pss_cut (ps_for PassesOwn.never rfl (pi_list (pe_cal (E := E0) CS hr rfl (pa_cons (pv 0) (pa_cons (pv 3) pa_nil)))) (pg_name (i := 8) scGr.nd rfl (.inl rfl))
      (pss_one (ps_dput (hu_of hr) (pv 4) (pv 8) (pe_cal (E := E0) CP hr rfl (pa_cons (pv 0) (pa_cons (pe_lst (pa_cons pe_int (pa_cons pe_int (pa_cons pe_int (pa_cons pe_int (pa_cons (pe_op op_powW pe_int pe_int) (pa_cons (pe_op op_powW pe_int pe_int) pa_nil))))))) pa_nil))) rfl)))
    (C8.pss_cut (ps_for PassesOwn.never rfl (pi_enum rfl zN (pa_cons (pe_cal (E := E0) CS hr rfl (pa_cons (pv 0) (pa_cons (pe_slS (pv 3) (po_some pe_int) po_none (po_some pe_int)) pa_nil))) pa_nil)) (pg_tup rfl (pgs_cons (pg_name (i := 2) scGr.nd rfl (.inl rfl)) (pgs_cons (pg_name (i := 9) scGr.nd rfl (.inl rfl)) pgs_nil)))
      (pss_one (ps_if (pt_cmpR op_gt (pe_cal (E := E0) CR (Room.mono hr (by decide)) rfl (pa_cons (pv 0) (pa_cons pe_int pa_nil)) (Nat.le_refl _)) pe_int (nomark _))
        (pss_cons (ps_set (i := 10) scGr.nd rfl (Or.inl rfl) (pe_op op_add pe_int (pe_cal (E := E0) CP hr rfl (pa_cons (pv 0) (pa_cons (pe_lst (pa_cons pe_int (pa_cons pe_int (pa_cons pe_int (pa_cons (pe_op op_powW pe_int pe_int) pa_nil))))) pa_nil)))))
        (pss_cons (ps_set (i := 11) scGr.nd rfl (Or.inl rfl) (pe_op op_add (pv 10) (pe_cal (E := E0) CP hr rfl (pa_cons (pv 0) (pa_cons (pe_lst (pa_cons pe_int (pa_cons pe_int (pa_cons pe_int (pa_cons (pe_op op_powW pe_int pe_int) pa_nil))))) pa_nil)))))
        (pss_cons (ps_set (i := 12) scGr.nd rfl (Or.inl rfl) (pe_cal (E := E0) CP hr rfl (pa_cons (pv 0) (pa_cons (pe_lst (pa_cons pe_int (pa_cons pe_int (pa_cons pe_int (pa_cons pe_int (pa_cons pe_int pa_nil)))))) pa_nil))))
        (pss_cons (ps_dput (hu_of hr) (pv 5) (pe_op op_add_str (pe_cal (E := E0) CP hr rfl (pa_cons (pv 0) (pa_cons (pe_lst (pa_cons pe_str (pa_cons pe_str (pa_cons pe_str pa_nil)))) pa_nil))) (pe_callTy call_str_int (by rfl) zT (by decide +kernel) (pa_cons (pv 2) pa_nil))) (pe_tup (pa_cons (pe_cal (E := E0) CP hr rfl (pa_cons (pv 0) (pa_cons (pv 7) pa_nil))) (pa_cons (pv 9) (pa_cons (pv 10) (pa_cons (pv 11) (pa_cons (pv 12) pa_nil)))))) rfl)
        (pss_one (ps_set (i := 7) scGr.nd rfl (Or.inl rfl) (pe_op op_cat (pv 7) (pe_ifExp (pt_cmpR op_eq (pv 12) pe_int (nomark _)) (pe_lst (pa_cons (pv 9) pa_nil)) (pe_lst pa_nil)))))))))
        pss_nil)))
    (C8.pss_cut (ps_for PassesOwn.never rfl (pi_range1 rfl zR (pa_cons (pe_cal (E := E0) CP hr rfl (pa_cons (pv 0) (pa_cons (pe_lst (pa_cons pe_int (pa_cons pe_int (pa_cons (pv 1) (pa_cons (pe_op op_mul pe_int (pv 1)) pa_nil))))) pa_nil))) pa_nil)) (pg_name (i := 2) scGr.nd rfl (.inl rfl))
      (pss_cons (ps_set (i := 13) scGr.nd rfl (Or.inl rfl) (pe_slice sl_list (pe_cal (E := E0) CS hr rfl (pa_cons (pv 0) (pa_cons (pe_op op_cat (pv 3) (pe_lst (pa_cons pe_str pa_nil))) pa_nil))) po_none (po_some pe_int)))
      (pss_cons (ps_set (i := 14) scGr.nd rfl (Or.inl rfl) (pe_op op_add (pe_cal (E := E0) CP hr rfl (pa_cons (pv 0) (pa_cons (pe_lst (pa_cons (pe_un un_neg pe_int) (pa_cons pe_int (pa_cons pe_int (pa_cons (pe_op op_powW pe_int pe_int) pa_nil))))) pa_nil))) (pe_cal (E := E0) CR (Room.mono hr (by decide)) rfl (pa_cons (pv 0) (pa_cons pe_int pa_nil)) (Nat.le_refl _))))
      (pss_one (ps_dput (hu_of hr) (pv 6) (pe_op op_add_str (pe_cal (E := E0) CP hr rfl (pa_cons (pv 0) (pa_cons (pe_lst (pa_cons pe_str (pa_cons pe_str (pa_cons pe_str pa_nil)))) pa_nil))) (pe_callTy call_str_int (by rfl) zT (by decide +kernel) (pa_cons (pv 2) pa_nil))) (pe_tup (pa_cons (pe_ix (r := rIxL K) ix_list (pv 13) pe_int (fun _ _ => rfl)) (pa_cons (pe_ix (r := rIxL K) ix_list (pv 13) pe_int (fun _ _ => rfl)) (pa_cons (pv 14) pa_nil)))) rfl)))))
    (pss_one (ps_ret (pe_lst (pa_cons (pv 4) (pa_cons (pv 5) (pa_cons (pv 6) pa_nil)))))))))))), ?_⟩
  -- many
  refine ⟨fun σ' H' => ∃ m : Nat, σ' = sl15 D m none none none none none none none none none none none none none ∧ m ∈ [1, 3, 7, 20, 40] ∧ But D H H' ∧ Dc H' D, ?_, ?_⟩
  · refine ⟨_, rfl, by show 5 ≤ sizeLine; decide, fun p np => ⟨D, .ref p, rfl, hD.same (same_new np), .inl ⟨p, _, rfl, new_ne hD np, upd_same, by decide, by decide, fun u H1 hu b1 hD1 => ?_⟩⟩⟩
    have b2 := (Same.but (D := D) (same_new (o := .lst [.int 1, .int 3, .int 7, .int 20, .int 40]) np)).trans b1
    have : ∃ m : Nat, m ∈ [1, 3, 7, 20, 40] ∧ u = .int (m : Nat) := by
      simp only [List.mem_cons, List.not_mem_nil, or_false] at hu
      rcases hu with rfl | rfl | rfl | rfl | rfl
      · exact ⟨1, by simp, rfl⟩
      · exact ⟨3, by simp, rfl⟩
      · exact ⟨7, by simp, rfl⟩
      · exact ⟨20, by simp, rfl⟩
      · exact ⟨40, by simp, rfl⟩
    obtain ⟨m, hm, rfl⟩ := this
    exact ⟨m, rfl, hm, b2, hD1⟩
  rintro _ H1 ⟨m, rfl, hm, b1, hD1⟩
  have m40 : 1 ≤ m ∧ m ≤ 40 := by
    simp only [List.mem_cons, List.not_mem_nil, or_false] at hm
    omega
  obtain ⟨bnd, bnm, bln⟩ := base_ok m hm
  -- names
  refine ⟨fun σ' H' => ∃ p : Addr, σ' = sl15 D m none (some (.ref p)) none none none none none none none none none none none ∧ But D H H' ∧ Dc H' D ∧ p ≠ D ∧ H' p = some (.lst ((baseN m).map V.str)), ?_, ?_⟩
  · refine ⟨_, rfl, (m : Int), rfl, by omega, by omega, fun L nL => ?_⟩
    refine lc_range (lo := 0) (n := (m : Int).toNat) (fun i H' => Same H1 H' ∧ H' L = some (.lst (((List.range i).map eN).map V.str))) ⟨same_new nL, upd_same⟩ (fun i H' hi q => ⟨by simp [gName, wipe], tyes ?_⟩) (fun H' q => ?_)
    · obtain ⟨s1, e1⟩ := q
      rw [Int.toNat_natCast] at hi
      refine ⟨_, by simp [gName, wipe]; rfl, (i : Int), by simp, n_log (by omega), ("e" : Str), nS i, rfl, rfl, ?_, _, e1, ?_, same_mut s1 nL, ?_⟩
      · have := nS_len (n := i) (by omega)
        have e2 : ("e" : Str).length = 1 := by decide
        rw [sizeLine_eq]
        omega
      · rw [List.length_map, List.length_map, List.length_range, sizeLine_eq]
        omega
      · rw [upd_same, List.range_succ, List.map_append, List.map_append]
        rfl
    · obtain ⟨s1, e1⟩ := q
      rw [Int.toNat_natCast] at e1
      refine ⟨by show 4 ≤ sizeLine; decide, fun q nq => ⟨L, q, _, _, rfl, rfl, same_new nq _ _ e1, upd_same, by rw [List.length_map, List.length_map, List.length_range, sizeLine_eq]; show m + 4 ≤ _; omega, fun p np => ?_⟩⟩
      have s2 := s1.trans ((same_new (o := .lst [.str "a", .str "b.1", .str "z9", .str "go.go"]) nq).trans (same_new (o := .lst (((List.range m).map eN).map V.str ++ [.str "a", .str "b.1", .str "z9", .str "go.go"])) np))
      refine ⟨p, rfl, b1.trans (Same.but s2), hD1.same s2, ?_, ?_⟩
      · obtain ⟨d0, d1, d2, eD⟩ := hD1
        exact (ne_of_none (s1.trans (same_new nq) _ _ eD) np).symm
      · rw [upd_same]
        unfold baseN
        rw [List.map_append]
        rfl
  rintro _ H2 ⟨p, rfl, b2, hD2, pD, hp⟩
  -- sorted names
  refine ⟨fun σ' H' => ∃ (p : Addr) (ns : List Str), σ' = sl15 D m none (some (.ref p)) none none none none none none none none none none none ∧ But D H H' ∧ Dc H' D ∧ p ≠ D ∧ H' p = some (.lst (ns.map V.str)) ∧ NamesOk ns, ?_, ?_⟩
  · refine ⟨_, rfl, _, rfl, D, p, _, rfl, hD2, pD, hp, by rw [List.length_map, bln]; omega, fun L zs H3 LD hL pz b3 hD3 => ?_⟩
    obtain ⟨ps, rfl, pp⟩ := strs_perm pz
    refine ⟨_, rfl, _, rfl, L, _, rfl, SqL.of hL, fun q nq => ?_⟩
    rw [cut_take]
    have lps : ps.length = m + 4 := by rw [pp.length_eq, bln]
    have lt : (ps.take m).length = m := by rw [List.length_take]; omega
    have ndt : (ps.take m).Nodup := (List.take_sublist m ps).nodup (pp.nodup_iff.mpr bnd)
    refine ⟨q, ps.take m, rfl, SqL.of (by rw [upd_same, List.map_take]), by rw [lt]; omega, fun ys p2 mem srt2 len np2 => ?_⟩
    have s4 := (same_new (o := .lst ((ps.map V.str).take m)) nq).trans (same_new (o := .lst (ys.map V.str)) np2)
    have py : ys.Perm (ps.take m) := sub_perm ndt (fun x hx => (mem x).mpr hx) len
    refine ⟨p2, ys, rfl, b2.trans (b3.trans (Same.but s4)), hD3.same s4, ?_, upd_same, py.nodup_iff.mpr ndt, fun z hz => ?_, by rw [py.length_eq, lt]; omega, by rw [py.length_eq, lt]; omega, fun z hz e => ?_, fun z hz e => ?_⟩
    · obtain ⟨d0, d1, d2, eD⟩ := hD3
      exact (ne_of_none (same_new nq _ _ eD) np2).symm
    · exact List.all_eq_true.mp bnm z (pp.mem_iff.mp (List.mem_of_mem_take (py.mem_iff.mp hz)))
    · have := List.all_eq_true.mp (base_new m hm) z (pp.mem_iff.mp (List.mem_of_mem_take (py.mem_iff.mp hz)))
      rw [e] at this
      exact absurd this (by decide)
    · have := List.all_eq_true.mp (base_new m hm) z (pp.mem_iff.mp (List.mem_of_mem_take (py.mem_iff.mp hz)))
      rw [e] at this
      exact absurd this (by decide)
  clear hp pD
  rintro _ H3 ⟨p, ns, rfl, b3, hD3, pD, hp, nok⟩
  have nsl := nok.l2
  have evl : (pickL ns none none (some 2)).length ≤ 40 := Nat.le_trans (nodup_len (pick_le2 nok.nd none (.inl rfl)) fun x hx => pick_sub hx) nsl
  -- four names
  refine ⟨fun σ' H' => ∃ a b c o : Addr, σ' = sl15 D m none (some (.ref p)) (some (.ref a)) (some (.ref b)) (some (.ref c)) (some (.ref o)) none none none none none none none ∧ But D H H' ∧ Dc H' D ∧ H' p = some (.lst (ns.map V.str)) ∧
    H' a = some (.dK []) ∧ H' b = some (.dK []) ∧ H' c = some (.dK []) ∧ H' o = some (.lst ((("dawn" : Str) :: pickL ns none none (some 2)).map V.str)) ∧ (H a = none ∧ H b = none ∧ H c = none ∧ H o = none) ∧ a ≠ b ∧ a ≠ c ∧ b ≠ c ∧ a ≠ D ∧ b ≠ D ∧ c ≠ D ∧ o ≠ D, ?_, ?_⟩
  · intro a na b nb c nc
    have sa := same_new (o := .dK []) na
    have sb := same_new (o := .dK []) nb
    have sc := same_new (o := .dK []) nc
    refine ⟨by show 1 ≤ sizeLine; decide, fun q nq => ⟨_, rfl, 2, rfl, by simp, p, ns.map V.str, rfl, SqL.of ?_, ?_, fun e ne => ⟨q, e, [.str "dawn"], pickL (ns.map V.str) none none (some 2), rfl, rfl, ?_, upd_same, ?_, fun o no => ⟨by show 4 ≤ sizeLine; decide, fun t nt => ?_⟩⟩⟩⟩
    · exact same_new nq _ _ (sc _ _ (sb _ _ (sa _ _ hp)))
    · rw [pick_map, List.length_map, sizeLine_eq]
      omega
    · exact same_new ne _ _ upd_same
    · rw [pick_map, List.length_map, sizeLine_eq]
      show 1 + _ ≤ _
      omega
    · have sq := same_new (o := .lst [.str "dawn"]) nq
      have se := same_new (o := .lst (pickL (ns.map V.str) none none (some 2))) ne
      have so := same_new (o := .lst ([.str "dawn"] ++ pickL (ns.map V.str) none none (some 2))) no
      have st := same_new (o := .tup [.ref a, .ref b, .ref c, .ref o]) nt
      have s1 := sq.trans (se.trans (so.trans st))
      have s2 := sc.trans s1
      have s3 := sb.trans s2
      have s4 := sa.trans s3
      refine ⟨t, _, rfl, SqT.of upd_same, rfl, _, _, rfl, _, _, rfl, _, _, rfl, _, _, rfl, rfl, ?_⟩
      have nob : ∀ {x : Addr} {G : Hp}, Same H3 G → G x = none → H x = none := fun s n => none_but b3 hD3 (none_of s n)
      have nD : ∀ {x : Addr} {G : Hp}, Same H3 G → G x = none → x ≠ D := fun s n e => by
        obtain ⟨d0, d1, d2, eD⟩ := hD3
        rw [e, s _ _ eD] at n
        cases n
      refine ⟨a, b, c, o, rfl, b3.trans (Same.but s4), hD3.same s4, s4 _ _ hp, s3 _ _ upd_same, s2 _ _ upd_same, s1 _ _ upd_same, ?_, ⟨nob (Same.refl _) na, nob sa nb, nob (sa.trans sb) nc, nob (sa.trans (sb.trans (sc.trans (sq.trans se)))) no⟩, ?_, ?_, ?_, nD (Same.refl _) na, nD sa nb, nD (sa.trans sb) nc, nD (sa.trans (sb.trans (sc.trans (sq.trans se)))) no⟩
      · rw [st _ _ upd_same, pick_map]
        rfl
      · exact ne_of_none (upd_same (H := H3) (a := a) (o := .dK [])) nb
      · exact ne_of_none (sb _ _ (upd_same (H := H3) (a := a) (o := .dK []))) nc
      · exact ne_of_none (upd_same (a := b) (o := .dK [])) nc
  clear hp hD3 b3
  rintro _ H4 ⟨a, b, c, o, rfl, b4, hD4, hp, ha, hb, hc, ho, ⟨na, nb, nc, no⟩, ab, ac, bc, aD, bD, cD, oD⟩
  have hao : a ≠ o := ne_of ha ho (fun z => nomatch z)
  have hap : a ≠ p := ne_of ha hp (fun z => nomatch z)
  -- lasts
  refine ⟨fun σ' H' => ∃ (x8 : Option V) (L : Ls), σ' = sl15 D m none (some (.ref p)) (some (.ref a)) (some (.ref b)) (some (.ref c)) (some (.ref o)) x8 none none none none none none ∧ But D H H' ∧ Dc H' D ∧ H' p = some (.lst (ns.map V.str)) ∧
    TD inD K H' a L ∧ H' b = some (.dK []) ∧ H' c = some (.dK []) ∧ H' o = some (.lst ((("dawn" : Str) :: pickL ns none none (some 2)).map V.str)) ∧ (L.map (·.1)).Perm ns ∧ ∀ q ∈ L, 0 ≤ q.2 ∧ q.2 ≤ 10 ^ 30, ?_, ?_⟩
  · refine ⟨_, rfl, _, rfl, D, p, _, rfl, hD4, pD, hp, by rw [List.length_map]; omega, fun Lq zs H5 LD hL pz b5 hD5 => ⟨Lq, rfl, ⟨_, SqL.of hL⟩, ?_⟩⟩
    obtain ⟨sh, rfl, psh⟩ := strs_perm pz
    have hLa : a ≠ Lq := ne_of (b5 _ _ aD ha) hL (fun z => nomatch z)
    have lsh : sh.length ≤ 40 := by rw [psh.length_eq]; exact nsl
    have ndsh := psh.nodup_iff.mpr nok.nd
    refine for_list (K := K) (xs := sh.map V.str) (fun i σ H' => ∃ (x8 : Option V) (L : Ls), σ = sl15 D m none (some (.ref p)) (some (.ref a)) (some (.ref b)) (some (.ref c)) (some (.ref o)) x8 none none none none none none ∧ But D H H' ∧ Dc H' D ∧ H' p = some (.lst (ns.map V.str)) ∧
      TD inD K H' a L ∧ H' b = some (.dK []) ∧ H' c = some (.dK []) ∧ H' o = some (.lst ((("dawn" : Str) :: pickL ns none none (some 2)).map V.str)) ∧ H' Lq = some (.lst (sh.map V.str)) ∧ L.map (·.1) = sh.take i ∧ ∀ q ∈ L, 0 ≤ q.2 ∧ q.2 ≤ 10 ^ 30)
      ⟨none, [], rfl, b4.trans b5, hD5, b5 _ _ pD hp, TD.nil (b5 _ _ aD ha), b5 _ _ bD hb, b5 _ _ cD hc, b5 _ _ oD ho, hL, rfl, fun q hq => by cases hq⟩ (fun i σ H' _ q => by obtain ⟨_, _, _, _, _, _, _, _, _, _, h, _⟩ := q; exact SqL.of h) (fun i y σ H6 hy q => ?_) (fun σ H' q => ?_)
    · obtain ⟨x8, L, rfl, b6, hD6, hp6, td6, hb6, hc6, ho6, hL6, en, tk⟩ := q
      rw [List.getElem?_map] at hy
      obtain ⟨z, hz, rfl⟩ := Option.map_eq_some_iff.mp hy
      refine ⟨_, rfl, _, _, rfl, rfl, ⟨by decide, by decide +kernel⟩, _, _, rfl, rfl, ⟨by decide, by decide +kernel⟩, by show 6 ≤ sizeLine; decide, fun q nq => ⟨D, .ref q, rfl, hD6.same (same_new nq), .inl ⟨q, _, rfl, new_ne hD6 nq, upd_same, by decide, by decide, fun u H7 hu b7 hD7 => ?_⟩⟩⟩
      have hv : ∃ v : Int, u = .int v ∧ 0 ≤ v ∧ v ≤ 10 ^ 30 := by
        simp only [List.mem_cons, List.not_mem_nil, or_false] at hu
        rcases hu with rfl | rfl | rfl | rfl | rfl | rfl
        · exact ⟨_, rfl, by decide, by decide +kernel⟩
        · exact ⟨_, rfl, by decide, by decide +kernel⟩
        · exact ⟨_, rfl, by decide, by decide +kernel⟩
        · exact ⟨_, rfl, by decide, by decide +kernel⟩
        · exact ⟨_, rfl, by decide +kernel, by decide +kernel⟩
        · exact ⟨_, rfl, by decide +kernel, by decide +kernel⟩
      obtain ⟨v, rfl, v0, v1⟩ := hv
      have sq := same_new (o := .lst [.int 0, .int 1, .int 9, .int 60, .int (10 ^ Int.toNat 12), .int (10 ^ Int.toNat 30)]) nq
      obtain ⟨ka, hka, tka⟩ := td_roll ge_in (hD6.same sq) b7 (td6.same sq)
      have lka : ka.length ≤ 40 := by
        have e1 : ka.length = L.length := Paired.length tka
        have e2 := congrArg List.length en
        rw [List.length_map, List.length_take] at e2
        omega
      have zn : z ∉ L.map (·.1) := by
        rw [en]
        have hE : sh.take (i + 1) = sh.take i ++ [z] := by
          have := take_succ_map (f := id) hz
          simpa using this
        have := (List.take_sublist (i + 1) sh).nodup ndsh
        rw [hE] at this
        exact fun m => (List.nodup_append.mp this).2.2 _ m _ (List.mem_singleton.mpr rfl) rfl
      have pa' : p ≠ a := Ne.symm hap
      refine ⟨_, rfl, _, rfl, a, _, rfl, DPut.k (k := .inr z) hka (by rw [sizeLine_eq]; omega), some (.str z), L ++ [(z, v)], rfl, but_mut ((b6.trans (Same.but sq)).trans b7) na, dc_upd hD7 aD, ?_, ?_, ?_, ?_, ?_, ?_, ?_, ?_⟩
      · rw [upd_ne pa']; exact b7 _ _ pD (sq _ _ hp6)
      · exact ⟨_, upd_same, (tka.put zn (.int v)).sk (sk_dK hka)⟩
      · rw [upd_ne ab.symm]; exact b7 _ _ bD (sq _ _ hb6)
      · rw [upd_ne ac.symm]; exact b7 _ _ cD (sq _ _ hc6)
      · rw [upd_ne hao.symm]; exact b7 _ _ oD (sq _ _ ho6)
      · rw [upd_ne hLa.symm]; exact b7 _ _ LD (sq _ _ hL6)
      · rw [List.map_append, en, List.take_add_one, hz]
        rfl
      · intro q hq
        rcases List.mem_append.mp hq with hq | hq
        · exact tk q hq
        · rw [List.mem_singleton] at hq
          subst hq
          exact ⟨v0, v1⟩
    · obtain ⟨x8, L, rfl, b6, hD6, hp6, td6, hb6, hc6, ho6, hL6, en, tk⟩ := q
      rw [List.length_map, List.take_length] at en
      exact ⟨x8, L, rfl, b6, hD6, hp6, td6, hb6, hc6, ho6, by rw [en]; exact psh, tk⟩
  clear hp ha hb hc ho hD4 b4
  rintro _ H5 ⟨x8, L, rfl, b5, hD5, hp5, tdL, hb5, hc5, ho5, pL, tkL⟩
  have okL : OkL L := ⟨pL.nodup_iff.mpr nok.nd, by have := pL.length_eq; rw [List.length_map] at this; have := nok.l1; omega, fun q hq => nok.nm _ (pL.mem_iff.mp (List.mem_map.mpr ⟨q, hq, rfl⟩)), tkL⟩
  have kn : ∀ z ∈ ns, knownB L z = true := fun z hz => by
    unfold knownB
    rw [decide_eq_true (pL.mem_iff.mpr hz), Bool.or_true]
  have ndn : ∀ z ∈ ns, z ≠ ("dawn" : Str) := fun z hz e => by
    have := nok.nm z hz
    rw [e] at this
    revert this
    decide
  -- works
  refine ⟨fun σ' H' => ∃ (x2 x9 x10 x11 x12 : Option V) (o : Addr) (W : Ws), σ' = sl15 D m x2 (some (.ref p)) (some (.ref a)) (some (.ref b)) (some (.ref c)) (some (.ref o)) x8 x9 x10 x11 x12 none none ∧ But D H H' ∧ Dc H' D ∧ H' p = some (.lst (ns.map V.str)) ∧
    TD inD K H' a L ∧ TD wkD K H' b W ∧ H' c = some (.dK []) ∧ OkW L W ∧ W.length ≤ 40, ?_, ?_⟩
  · refine ⟨_, rfl, _, rfl, 1, rfl, 2, rfl, by simp, p, ns.map V.str, rfl, SqL.of hp5, by rw [pick_map, List.length_map, sizeLine_eq]; have := Nat.le_trans (nodup_len (pick_le2 nok.nd (some 1) (.inr rfl)) fun x hx => pick_sub hx) nsl; omega, fun e ne => ⟨D, e, _, rfl, hD5.same (same_new ne), new_ne hD5 ne, upd_same, ?_, fun Lq zs H6 LD hL pz b6 hD6 => ?_⟩⟩
    · rw [pick_map, List.length_map]
      have := Nat.le_trans (nodup_len (pick_le2 nok.nd (some 1) (.inr rfl)) fun x hx => pick_sub hx) nsl
      omega
    rw [pick_map] at pz
    obtain ⟨sh, rfl, psh⟩ := strs_perm pz
    have b56 : But D H5 H6 := (Same.but (same_new ne)).trans b6
    have odn := pick_le2 nok.nd (some 1) (.inr rfl)
    have ndsh := psh.nodup_iff.mpr odn
    have lsh : sh.length ≤ 40 := by
      rw [psh.length_eq]
      exact Nat.le_trans (nodup_len odn fun x hx => pick_sub hx) nsl
    have shn : ∀ z ∈ sh, z ∈ ns := fun z hz => pick_sub (psh.mem_iff.mp hz)
    have evo : ∀ s ∈ ("dawn" : Str) :: pickL ns none none (some 2), s ∉ sh := fun s hs hs2 => by
      rcases List.mem_cons.mp hs with rfl | hs
      · exact ndn _ (shn _ hs2) rfl
      · obtain ⟨i, hi⟩ := pick_even hs
        obtain ⟨j, hj⟩ := pick_odd (psh.mem_iff.mp hs2)
        have e1 := rk_at nok.nd hi
        have e2 := rk_at nok.nd hj
        omega
    have fx0 : Fx K p a b c o Lq ns L [] (("dawn" : Str) :: pickL ns none none (some 2)) sh H6 :=
      ⟨b56 _ _ pD hp5, td_roll ge_in hD5 b56 tdL, TD.nil (b56 _ _ bD hb5), b56 _ _ cD hc5, b56 _ _ oD ho5, hL⟩
    have wi0 : WI L sh 0 [] (("dawn" : Str) :: pickL ns none none (some 2)) := WI.init (fun s hs => ⟨by
      rcases List.mem_cons.mp hs with rfl | hs
      · rfl
      · exact kn s (pick_sub hs), evo s hs⟩) (by rw [List.length_cons]; omega) (by rw [List.length_cons]; omega)
    refine ⟨Lq, _, rfl, SqL.of hL, ?_⟩
    refine for_it (walk_enum (K := K) (a := Lq) (xs := sh.map V.str)) (fun i σ H' => ∃ (x2 x9 x10 x11 x12 : Option V) (o : Addr) (W : Ws) (op : List Str), σ = sl15 D m x2 (some (.ref p)) (some (.ref a)) (some (.ref b)) (some (.ref c)) (some (.ref o)) x8 x9 x10 x11 x12 none none ∧ But D H H' ∧ Dc H' D ∧ o ≠ D ∧ H o = none ∧ Fx K p a b c o Lq ns L W op sh H' ∧ WI L sh i W op)
      ⟨none, none, none, none, none, o, [], _, rfl, b5.trans b56, hD6, oD, no, fx0, wi0⟩ (fun i σ H' _ q => by obtain ⟨_, _, _, _, _, _, _, _, _, _, _, _, _, h, _⟩ := q; exact SqL.of h.q) (fun i y σ H7 H8 hi q yy => ?_) (fun σ H' q => ?_)
    · obtain ⟨x2, x9, x10, x11, x12, o, W, op, rfl, b7, hD7, oD, no, fx, wi⟩ := q
      obtain ⟨T, xi, ye, rfl, nT, rfl, e1, e2⟩ := yy
      cases e1
      have e2 : (sh.map V.str)[i]? = some ye := e2
      rw [List.getElem?_map] at e2
      obtain ⟨z, hz, rfl⟩ := Option.map_eq_some_iff.mp e2
      have hz2 : z ∈ sh := List.mem_of_getElem? hz
      have i40 : i < 40 := by
        have := (List.getElem?_eq_some_iff.mp hz).1
        omega
      have sT := same_new (o := .tup [.int (i : Nat), .str z]) nT
      have hD8 := hD7.same sT
      have fx8 := fx.but hD7 (Same.but sT) pD cD oD LD
      obtain ⟨d0, d1, d2, eD⟩ := id hD8
      refine ⟨T, _, rfl, SqT.of upd_same, rfl, _, _, rfl, _, _, rfl, rfl, _, rfl, D, d0, d1, d2, 3, rfl, eD, by decide, by decide, fun r f0 f2 r0 r1 => ⟨_, _, rfl, rfl, _, rfl, ite2 (fun hr => ?_) (fun hr => ?_)⟩⟩
      · have bR : But D (upd H7 T (.tup [.int (i : Nat), .str z])) (upd (upd H7 T (.tup [.int (i : Nat), .str z])) D (.lst [.int f0, .int d1, .int f2])) := But.upd
        have hDR : Dc (upd (upd H7 T (.tup [.int (i : Nat), .str z])) D (.lst [.int f0, .int d1, .int f2])) D := ⟨f0, d1, f2, upd_same⟩
        have fxR := fx8.but hD8 bR pD cD oD LD
        have b9 := (b7.trans (Same.but sT)).trans bR
        -- least
        refine ⟨_, rfl, _, _, rfl, rfl, ⟨by decide, by decide +kernel⟩, by show 4 ≤ sizeLine; decide, fun q1 nq1 => pick_int (K := K) (E := E0) hDR nq1 (by show 0 < 4; decide) (by show 4 < 1000; decide) fun u1 G1 hu1 c1 hG1 => ?_⟩
        have hv1 : ∃ v : Int, u1 = .int v ∧ 0 ≤ v ∧ v ≤ 10 ^ 20 := by
          simp only [List.mem_cons, List.not_mem_nil, or_false] at hu1
          rcases hu1 with rfl | rfl | rfl | rfl
          · exact ⟨_, rfl, by decide, by decide +kernel⟩
          · exact ⟨_, rfl, by decide, by decide +kernel⟩
          · exact ⟨_, rfl, by decide, by decide +kernel⟩
          · exact ⟨_, rfl, by decide +kernel, by decide +kernel⟩
        obtain ⟨v1, rfl, v1a, v1b⟩ := hv1
        have fx1 := fxR.but hDR c1 pD cD oD LD
        refine ⟨_, _, rfl, rfl, _, rfl, _, rfl, _, _, rfl, rfl, ⟨by decide, by decide +kernel⟩, by show 4 ≤ sizeLine; decide, fun q2 nq2 => pick_int (K := K) (E := E0) hG1 nq2 (by show 0 < 4; decide) (by show 4 < 1000; decide) fun u2 G2 hu2 c2 hG2 => ?_⟩
        have hv2 : ∃ v : Int, u2 = .int v ∧ 0 ≤ v ∧ v ≤ 10 ^ 29 := by
          simp only [List.mem_cons, List.not_mem_nil, or_false] at hu2
          rcases hu2 with rfl | rfl | rfl | rfl
          · exact ⟨_, rfl, by decide, by decide +kernel⟩
          · exact ⟨_, rfl, by decide, by decide +kernel⟩
          · exact ⟨_, rfl, by decide, by decide +kernel⟩
          · exact ⟨_, rfl, by decide +kernel, by decide +kernel⟩
        obtain ⟨v2, rfl, v2a, v2b⟩ := hv2
        have fx2 := fx1.but hG1 c2 pD cD oD LD
        -- look
        refine ⟨_, _, rfl, rfl, _, rfl, by show 5 ≤ sizeLine; decide, fun q3 nq3 => pick_int (K := K) (E := E0) hG2 nq3 (by show 0 < 5; decide) (by show 5 < 1000; decide) fun u3 G3 hu3 c3 hG3 => ?_⟩
        have hv3 : ∃ v : Int, u3 = .int v ∧ 0 ≤ v ∧ v ≤ 20 := by
          simp only [List.mem_cons, List.not_mem_nil, or_false] at hu3
          rcases hu3 with rfl | rfl | rfl | rfl | rfl
          · exact ⟨_, rfl, by decide, by decide⟩
          · exact ⟨_, rfl, by decide, by decide⟩
          · exact ⟨_, rfl, by decide, by decide⟩
          · exact ⟨_, rfl, by decide, by decide⟩
          · exact ⟨_, rfl, by decide, by decide⟩
        obtain ⟨v3, rfl, v3a, v3b⟩ := hv3
        have fx3 := fx2.but hG2 c3 pD cD oD LD
        have ol := wi.len
        have op0 := wi.pos
        -- the work
        refine ⟨_, rfl, _, rfl, D, .ref o, rfl, hG3, .inl ⟨o, _, rfl, oD, fx3.o, by rw [List.length_map]; exact op0, by rw [List.length_map]; omega, fun u4 G4 hu4 c4 hG4 => ?_⟩⟩
        obtain ⟨bg, hbg, rfl⟩ := List.mem_map.mp hu4
        have fx4 := fx3.but hG3 c4 pD cD oD LD
        refine ⟨_, rfl, _, rfl, _, rfl, _, rfl, by show 5 ≤ sizeLine; decide, fun t4 nt4 => ⟨_, rfl, _, rfl, by show 3 ≤ sizeLine; decide, fun q5 nq5 => ?_⟩⟩
        have sT4 := same_new (o := .tup [.str bg, .str z, .int (1 + v1), .int (1 + v1 + v2), .int v3]) nt4
        have hT4 := hG4.same sT4
        have fx5 := fx4.but hG4 (Same.but sT4) pD cD oD LD
        refine pick_int (K := K) (E := E0) hT4 nq5 (by show 0 < 3; decide) (by show 3 < 1000; decide) fun u6 G6 hu6 c6 hG6 => ?_
        have hv6 : ∃ pr ∈ preW, u6 = .str pr := by
          simp only [List.mem_cons, List.not_mem_nil, or_false] at hu6
          rcases hu6 with rfl | rfl | rfl
          · exact ⟨_, by simp [preW], rfl⟩
          · exact ⟨_, by simp [preW], rfl⟩
          · exact ⟨_, by simp [preW], rfl⟩
        obtain ⟨pr, hpr, rfl⟩ := hv6
        have fx6 := fx5.but hT4 c6 pD cD oD LD
        have hzn := shn z hz2
        obtain ⟨fresh, wi2⟩ := wi.step (l := 1 + v1) (m := 1 + v1 + v2) (k := v3) ndsh i40 hz (kn z hzn) (ndn z hzn) hbg hpr (by omega) (by omega) (by omega) ⟨v3a, v3b⟩
        obtain ⟨kb, hkb, tkb⟩ := fx6.b
        have lkb : kb.length ≤ 40 := by
          have e1 : kb.length = W.length := Paired.length tkb
          have e2 := wi.en.length_le
          rw [List.length_map, List.length_take] at e2
          omega
        have hpl : (pr ++ nS i).length ≤ 200 := by
          have e1 := nS_len (n := i) (by omega)
          have e2 : ∀ p ∈ preW, p.length ≤ 10 := by decide
          have := e2 pr hpr
          rw [PySem.Str.length_append]
          omega
        have hplen : pr.length + (nS i).length ≤ sizeLine := by
          rw [PySem.Str.length_append] at hpl
          rw [sizeLine_eq]
          omega
        have ht6 : G6 t4 = some (.tup [.str bg, .str z, .int (1 + v1), .int (1 + v1 + v2), .int v3]) := Tp.but hT4 c6 _ _ upd_same
        have b16 : But D H G6 := ((((((b9.trans c1).trans c2).trans c3).trans c4).trans (Same.but sT4)).trans c6)
        refine ⟨_, rfl, (i : Int), rfl, n_log (by omega), pr, nS i, rfl, rfl, hplen, b, _, rfl, DPut.k (k := .inr (pr ++ nS i)) hkb (by rw [sizeLine_eq]; omega), ?_⟩
        have skb := sk_dK (o := .dK (putK kb (.inr (pr ++ nS i)) (.ref t4))) hkb
        have hG7 : Dc (upd G6 b (.dK (putK kb (.inr (pr ++ nS i)) (.ref t4)))) D := dc_upd hG6 bD
        have b17 : But D H (upd G6 b (.dK (putK kb (.inr (pr ++ nS i)) (.ref t4)))) := but_mut b16 nb
        have fp7 : (upd G6 b (.dK (putK kb (.inr (pr ++ nS i)) (.ref t4)))) p = some (.lst (ns.map V.str)) := by
          rw [upd_ne (ne_of fx6.p hkb (fun z => nomatch z))]
          exact fx6.p
        have fa7 : TD inD K (upd G6 b (.dK (putK kb (.inr (pr ++ nS i)) (.ref t4)))) a L := by
          obtain ⟨ka, hka, tka⟩ := fx6.a
          exact ⟨ka, by rw [upd_ne ab]; exact hka, tka.sk skb⟩
        have fb7 : TD wkD K (upd G6 b (.dK (putK kb (.inr (pr ++ nS i)) (.ref t4)))) b (W ++ [(pr ++ nS i, (bg, z, 1 + v1, 1 + v1 + v2, v3))]) :=
          ⟨_, upd_same, (tkb.put fresh (.tup (SqT.of ht6) (.cons (.str _) (.cons (.str _) (.cons (.int _) (.cons (.int _) (.cons (.int _) .nil))))))).sk skb⟩
        have fc7 : (upd G6 b (.dK (putK kb (.inr (pr ++ nS i)) (.ref t4)))) c = some (.dK []) := by
          rw [upd_ne bc.symm]
          exact fx6.c
        have fo7 : (upd G6 b (.dK (putK kb (.inr (pr ++ nS i)) (.ref t4)))) o = some (.lst (op.map V.str)) := by
          rw [upd_ne (ne_of fx6.o hkb (fun z => nomatch z))]
          exact fx6.o
        have fq7 : (upd G6 b (.dK (putK kb (.inr (pr ++ nS i)) (.ref t4)))) Lq = some (.lst (sh.map V.str)) := by
          rw [upd_ne (ne_of fx6.q hkb (fun z => nomatch z))]
          exact fx6.q
        have fx7 : Fx K p a b c o Lq ns L (W ++ [(pr ++ nS i, (bg, z, 1 + v1, 1 + v1 + v2, v3))]) op sh (upd G6 b (.dK (putK kb (.inr (pr ++ nS i)) (.ref t4)))) := ⟨fp7, fa7, fb7, fc7, fo7, fq7⟩
        refine ⟨_, rfl, _, rfl, rfl, _, rfl, ?_⟩
        have fin : ∀ (more : List Str) (e o2 : Addr) (G : Hp), G = upd (upd (upd G6 b (.dK (putK kb (.inr (pr ++ nS i)) (.ref t4)))) e (.lst (more.map V.str))) o2 (.lst (op.map V.str ++ more.map V.str)) → (upd G6 b (.dK (putK kb (.inr (pr ++ nS i)) (.ref t4)))) e = none → (upd (upd G6 b (.dK (putK kb (.inr (pr ++ nS i)) (.ref t4)))) e (.lst (more.map V.str))) o2 = none →
            But D H G ∧ Dc G D ∧ o2 ≠ D ∧ H o2 = none ∧ Fx K p a b c o2 Lq ns L (W ++ [(pr ++ nS i, (bg, z, 1 + v1, 1 + v1 + v2, v3))]) (op ++ more) sh G := fun more e o2 G eG ne no2 => by
          have se := same_new (o := .lst (more.map V.str)) ne
          have so := same_new (o := .lst (op.map V.str ++ more.map V.str)) no2
          have s := se.trans so
          subst eG
          have f := fx7.but hG7 (Same.but s) pD cD oD LD
          refine ⟨b17.trans (Same.but s), hG7.same s, ?_, none_but (b17.trans (Same.but se)) (hG7.same se) no2, f.p, f.a, f.b, f.c, by rw [upd_same, List.map_append], f.q⟩
          obtain ⟨w0, w1, w2, eD'⟩ := hG7.same se
          exact (ne_of_none eD' no2).symm
        by_cases z0 : v3 = 0
        · rw [if_pos z0] at wi2
          refine ite1 (by rw [z0]; simp) ⟨_, rfl, by show 1 ≤ sizeLine; decide, fun e ne => ⟨o, e, _, [.str z], rfl, rfl, same_new ne _ _ fo7, upd_same, by rw [List.length_map, sizeLine_eq]; show op.length + 1 ≤ _; omega, fun o2 no2 => ?_⟩⟩
          obtain ⟨g1, g2, g3, g4, g5⟩ := fin [z] e o2 _ rfl ne no2
          exact ⟨_, _, _, _, _, o2, _, _, rfl, g1, g2, g3, g4, g5, wi2⟩
        · rw [if_neg z0] at wi2
          refine ite0 (by simp [z0]) ⟨Nat.zero_le _, fun e ne => ⟨o, e, _, [], rfl, rfl, same_new ne _ _ fo7, upd_same, by rw [List.length_map, sizeLine_eq]; show op.length + 0 ≤ _; omega, fun o2 no2 => ?_⟩⟩
          obtain ⟨g1, g2, g3, g4, g5⟩ := fin [] e o2 _ rfl ne no2
          exact ⟨_, _, _, _, _, o2, _, _, rfl, g1, g2, g3, g4, g5, wi2⟩
      · have bR : But D (upd H7 T (.tup [.int (i : Nat), .str z])) (upd (upd H7 T (.tup [.int (i : Nat), .str z])) D (.lst [.int f0, .int d1, .int f2])) := But.upd
        have hDR : Dc (upd (upd H7 T (.tup [.int (i : Nat), .str z])) D (.lst [.int f0, .int d1, .int f2])) D := ⟨f0, d1, f2, upd_same⟩
        exact ⟨_, _, x10, x11, x12, o, W, op, rfl, (b7.trans (Same.but sT)).trans bR, hDR, oD, no, fx8.but hD8 bR pD cD oD LD, wi.skip⟩
    · obtain ⟨x2, x9, x10, x11, x12, o, W, op, rfl, b7, hD7, oD, no, fx, wi⟩ := q
      rw [List.length_map] at wi
      have ow := wi.fin ndsh lsh (by omega)
      refine ⟨x2, x9, x10, x11, x12, o, W, rfl, b7, hD7, fx.p, fx.a, fx.b, fx.c, ow, ?_⟩
      have e1 := wi.en.length_le
      rw [List.length_map, List.length_take] at e1
      omega
  clear ho5 hc5 hb5 tdL hp5 hD5 b5 oD no hao
  rintro _ H6 ⟨x2, x9, x10, x11, x12, o, W, rfl, b6, hD6, hp6, ta6, tb6, hc6, okW, lW⟩
  have hcp : c ≠ p := ne_of hc6 hp6 (fun z => nomatch z)
  -- bounds
  refine ⟨fun σ' H' => ∃ (x2 x13 x14 : Option V) (B : Bs), σ' = sl15 D m x2 (some (.ref p)) (some (.ref a)) (some (.ref b)) (some (.ref c)) (some (.ref o)) x8 x9 x10 x11 x12 x13 x14 ∧ But D H H' ∧ Dc H' D ∧ TD inD K H' a L ∧ TD wkD K H' b W ∧ TD bdD K H' c B ∧ OkB L B ∧ B.length ≤ 80 ∧ (∀ q ∈ B, -1 ≤ q.2.2.2), ?_, ?_⟩
  · refine ⟨_, rfl, _, rfl, _, rfl, _, _, rfl, rfl, .inl ⟨by decide, by decide⟩, by show 4 ≤ sizeLine; decide, fun q nq => pick_int (K := K) (E := E0) hD6 nq (by show 0 < 4; decide) (by show 4 < 1000; decide) fun u H7 hu b7 hD7 => ?_⟩
    have hu2 : ∃ n : Nat, u = .int (n : Nat) ∧ n ≤ 80 := by
      simp only [List.mem_cons, List.not_mem_nil, or_false] at hu
      rcases hu with rfl | rfl | rfl | rfl
      · exact ⟨0, rfl, by omega⟩
      · exact ⟨2, rfl, by omega⟩
      · exact ⟨m, rfl, by omega⟩
      · exact ⟨2 * m, by show V.int (2 * (m : Nat)) = V.int ((2 * m : Nat) : Int); rw [Int.natCast_mul]; rfl, by omega⟩
    obtain ⟨n, rfl, n80⟩ := hu2
    refine ⟨(n : Int), rfl, by omega, by omega, ?_⟩
    refine for_range (lo := 0) (n := (n : Int).toNat) (fun i σ H' => ∃ (x2 x13 x14 : Option V) (B : Bs), σ = sl15 D m x2 (some (.ref p)) (some (.ref a)) (some (.ref b)) (some (.ref c)) (some (.ref o)) x8 x9 x10 x11 x12 x13 x14 ∧ But D H H' ∧ Dc H' D ∧ H' p = some (.lst (ns.map V.str)) ∧ TD inD K H' a L ∧ TD wkD K H' b W ∧ TD bdD K H' c B ∧ BI L i B)
      ⟨x2, none, none, [], rfl, b6.trans b7, hD7, b7 _ _ pD hp6, td_roll ge_in hD6 b7 ta6, td_roll ge_wk hD6 b7 tb6, TD.nil (b7 _ _ cD hc6), BI.init⟩ (fun i σ H8 hi q => ?_) (fun σ H8 q => ?_)
    · obtain ⟨x2, x13, x14, B, rfl, b8, hD8, hp8, ta8, tb8, tc8, bi⟩ := q
      rw [Int.toNat_natCast] at hi
      have i80 : i < 80 := by omega
      refine ⟨_, rfl, _, rfl, by show 1 ≤ sizeLine; decide, fun e ne => ⟨p, e, _, [.str "dawn"], rfl, rfl, same_new ne _ _ hp8, upd_same, by rw [List.length_map, sizeLine_eq]; show _ + 1 ≤ _; omega, fun r nr => ?_⟩⟩
      have s8 := (same_new (o := .lst [.str "dawn"]) ne).trans (same_new (o := .lst (ns.map V.str ++ [.str "dawn"])) nr)
      have hDr := hD8.same s8
      have rD : r ≠ D := by
        obtain ⟨w0, w1, w2, eD'⟩ := hD8.same (same_new (o := .lst [.str "dawn"]) ne)
        exact (ne_of_none eD' nr).symm
      have er : ns.map V.str ++ [.str "dawn"] = (ns ++ [("dawn" : Str)]).map V.str := by rw [List.map_append]; rfl
      refine ⟨D, r, _, rfl, hDr, rD, upd_same, by rw [er, List.length_map, List.length_append]; show _ + 1 ≤ _; omega, fun Lq zs H9 LD hL pz b9 hD9 => ?_⟩
      rw [er] at pz
      obtain ⟨sh, rfl, psh⟩ := strs_perm pz
      have ndw : (ns ++ [("dawn" : Str)]).Nodup := List.nodup_append.mpr ⟨nok.nd, List.nodup_cons.mpr ⟨fun q => (by cases q), .nil⟩, fun x hx y hy z => by
        have hy : y = "dawn" := List.mem_singleton.mp hy
        rw [hy] at z
        exact ndn x hx z⟩
      have kw : ∀ s ∈ sh, knownB L s = true := fun s hs => by
        rcases List.mem_append.mp (psh.mem_iff.mp hs) with q | q
        · exact kn s q
        · rw [List.mem_singleton.mp q]
          rfl
      have ndsh := psh.nodup_iff.mpr ndw
      have lsh : 2 ≤ sh.length := by rw [psh.length_eq, List.length_append]; show 2 ≤ _ + 1; have := nok.l1; omega
      obtain ⟨s1, s2, rest, rfl⟩ : ∃ s1 s2 rest, sh = s1 :: s2 :: rest := by
        match sh, lsh with
        | s1 :: s2 :: rest, _ => exact ⟨s1, s2, rest, rfl⟩
      have s12 : s1 ≠ s2 := fun z => (List.nodup_cons.mp ndsh).1 (by rw [z]; exact List.mem_cons_self ..)
      refine ⟨2, rfl, Lq, _, rfl, SqL.of hL, fun g ng => ?_⟩
      rw [show (2 : Int) = ((2 : Nat) : Int) from rfl, cut_take]
      have hg : upd H9 g (.lst ((List.map V.str (s1 :: s2 :: rest)).take 2)) g = some (.lst [.str s1, .str s2]) := upd_same
      have s9 := same_new (o := .lst ((List.map V.str (s1 :: s2 :: rest)).take 2)) ng
      have hDg := hD9.same s9
      have gD : g ≠ D := by
        obtain ⟨w0, w1, w2, eD'⟩ := hD9
        exact (ne_of_none eD' ng).symm
      have b89 : But D H8 (upd H9 g (.lst ((List.map V.str (s1 :: s2 :: rest)).take 2))) := ((Same.but s8).trans b9).trans (Same.but s9)
      -- the number
      refine ⟨_, rfl, _, rfl, _, _, rfl, rfl, ⟨by decide, by decide +kernel⟩, by show 4 ≤ sizeLine; decide, fun q1 nq1 => pick_int (K := K) (E := E0) hDg nq1 (by show 0 < 4; decide) (by show 4 < 1000; decide) fun u1 G1 hu1 c1 hG1 => ?_⟩
      have hv1 : ∃ v : Int, u1 = .int v ∧ -1 ≤ v ∧ v ≤ 10 ^ 39 := by
        simp only [List.mem_cons, List.not_mem_nil, or_false] at hu1
        rcases hu1 with rfl | rfl | rfl | rfl
        · exact ⟨_, rfl, by decide, by decide +kernel⟩
        · exact ⟨_, rfl, by decide, by decide +kernel⟩
        · exact ⟨_, rfl, by decide, by decide +kernel⟩
        · exact ⟨_, rfl, by decide +kernel, by decide +kernel⟩
      obtain ⟨v1, rfl, v1a, v1b⟩ := hv1
      obtain ⟨d0, d1, d2, eD1⟩ := id hG1
      refine ⟨_, rfl, D, d0, d1, d2, 9, rfl, eD1, by decide, by decide, fun r2 f0 f2 r0 r1 => ⟨_, _, rfl, rfl, ?_⟩⟩
      have bR : But D G1 (upd G1 D (.lst [.int f0, .int d1, .int f2])) := But.upd
      have hDR : Dc (upd G1 D (.lst [.int f0, .int d1, .int f2])) D := ⟨f0, d1, f2, upd_same⟩
      have bAll : But D H8 (upd G1 D (.lst [.int f0, .int d1, .int f2])) := (b89.trans c1).trans bR
      have hgR : (upd G1 D (.lst [.int f0, .int d1, .int f2])) g = some (.lst [.str s1, .str s2]) := bR _ _ gD (c1 _ _ gD hg)
      refine ⟨_, rfl, g, _, _, _, rfl, rfl, SqL.of hgR, atI_nat (j := 0) rfl, _, rfl, g, _, _, _, rfl, rfl, SqL.of hgR, atI_nat (j := 1) rfl, _, rfl, by show 3 ≤ sizeLine; decide, fun t nt => ⟨_, rfl, _, rfl, by show 3 ≤ sizeLine; decide, fun q5 nq5 => ?_⟩⟩
      have sT := same_new (o := .tup [.str s1, .str s2, .int (v1 + r2)]) nt
      have hDT := hDR.same sT
      refine pick_int (K := K) (E := E0) hDT nq5 (by show 0 < 3; decide) (by show 3 < 1000; decide) fun u6 G6 hu6 c6 hG6 => ?_
      have hv6 : ∃ pr ∈ preB, u6 = .str pr := by
        simp only [List.mem_cons, List.not_mem_nil, or_false] at hu6
        rcases hu6 with rfl | rfl | rfl
        · exact ⟨_, by simp [preB], rfl⟩
        · exact ⟨_, by simp [preB], rfl⟩
        · exact ⟨_, by simp [preB], rfl⟩
      obtain ⟨pr, hpr, rfl⟩ := hv6
      have b86 : But D H8 G6 := (bAll.trans (Same.but sT)).trans c6
      have ht6 : G6 t = some (.tup [.str s1, .str s2, .int (v1 + r2)]) := Tp.but hDT c6 _ _ upd_same
      obtain ⟨fresh, bi2⟩ := bi.step (p := pr) (b := (s1, s2, v1 + r2)) i80 hpr ⟨kw s1 (by simp), kw s2 (by simp), s12, ⟨by show 1 - 10 ^ 40 ≤ v1 + r2; omega, by show v1 + r2 ≤ 10 ^ 40 - 1; omega⟩⟩ (by show -1 ≤ v1 + r2; omega)
      obtain ⟨kc, hkc, tkc⟩ := td_roll ge_bd hD8 b86 tc8
      have lkc : kc.length ≤ 80 := by
        have e1 : kc.length = B.length := Paired.length tkc
        have := bi.len
        omega
      have hplen : pr.length + (nS i).length ≤ sizeLine := by
        have e1 := nS_len (n := i) (by omega)
        have e2 : ∀ p ∈ preB, p.length ≤ 10 := by decide
        have := e2 pr hpr
        rw [sizeLine_eq]
        omega
      refine ⟨_, rfl, (i : Int), by simp, n_log (by omega), pr, nS i, rfl, rfl, hplen, c, _, rfl, DPut.k (k := .inr (pr ++ nS i)) hkc (by rw [sizeLine_eq]; omega), ?_⟩
      have skc := sk_dK (o := .dK (putK kc (.inr (pr ++ nS i)) (.ref t))) hkc
      refine ⟨_, _, _, B ++ [(pr ++ nS i, (s1, s2, v1 + r2))], rfl, but_mut (b8.trans b86) nc, dc_upd hG6 cD, ?_, ?_, ?_, ⟨_, upd_same, (tkc.put fresh (.tup (SqT.of ht6) (.cons (.str _) (.cons (.str _) (.cons (.int _) .nil))))).sk skc⟩, bi2⟩
      · rw [upd_ne hcp.symm]
        exact b86 _ _ pD hp8
      · obtain ⟨ka, hka, tka⟩ := td_roll ge_in hD8 b86 ta8
        exact ⟨ka, by rw [upd_ne ac]; exact hka, tka.sk skc⟩
      · obtain ⟨ka, hka, tka⟩ := td_roll ge_wk hD8 b86 tb8
        exact ⟨ka, by rw [upd_ne bc]; exact hka, tka.sk skc⟩
    · obtain ⟨x2, x13, x14, B, rfl, b8, hD8, hp8, ta8, tb8, tc8, bi⟩ := q
      rw [Int.toNat_natCast] at bi
      exact ⟨x2, x13, x14, B, rfl, b8, hD8, ta8, tb8, tc8, bi.fin n80, by rw [bi.len]; exact n80, bi.lo⟩
  rintro _ H7 ⟨x2, x13, x14, B, rfl, b7, hD7, ta7, tb7, tc7, okB, lB, loB⟩
  refine ⟨_, rfl, _, rfl, _, rfl, by show 3 ≤ sizeLine; decide, fun pl npl => ?_⟩
  have sp := same_new (o := .lst [.ref a, .ref b, .ref c]) npl
  have lL : L.length ≤ 60 := by have := pL.length_eq; rw [List.length_map] at this; omega
  exact k pl ⟨L, W, B⟩ _ ⟨a, b, c, upd_same, ta7.same sp, tb7.same sp, tc7.same sp⟩ ⟨okL, okW, okB⟩ ⟨lL, by show W.length ≤ 60; omega, by show B.length ≤ 100; omega⟩ ⟨loB, fun q hq => nok.nw _ (pL.mem_iff.mp (List.mem_map.mpr ⟨q, hq, rfl⟩)), fun q hq => nok.nl _ (pL.mem_iff.mp (List.mem_map.mpr ⟨q, hq, rfl⟩))⟩ (b7.trans (Same.but sp)) (hD7.same sp) (new_ne hD7 npl)
end
end LW
namespace DW
open PySem PySem.Spec PyProof.Rows L2 PySem.W
/-! ### data small enough to be shown, dicts among it -/
structure Shw (w k : Nat) (d : PyData) : Prop where
  sho : d.showable = true
  short : d.leavesShort 50 = true
  wt : d.weight ≤ w
  dep : d.depth ≤ k
theorem Shw.mono {w k w' k' : Nat} {d : PyData} (h : Shw w k d) (hw : w ≤ w') (hk : k ≤ k') : Shw w' k' d := ⟨h.sho, h.short, Nat.le_trans h.wt hw, Nat.le_trans h.dep hk⟩
theorem Shw.len {w k : Nat} {d : PyData} (h : Shw w k d) (hw : w ≤ 310000) : d.shown.length ≤ sizeLine := by
  have a := PyData.shown_le 50 (by decide) d h.short
  have b : (50 + 2) * d.weight ≤ 52 * 310000 := Nat.mul_le_mul (Nat.le_refl _) (Nat.le_trans h.wt hw)
  rw [sizeLine_eq]
  omega
theorem Shw.non : Shw 0 0 .none := ⟨rfl, rfl, by simp [PyData.weight], by simp [PyData.depth]⟩
theorem Shw.bl (b : Bool) : Shw 0 0 (.bool b) := ⟨rfl, rfl, by simp [PyData.weight], by simp [PyData.depth]⟩
theorem Shw.int {i : Int} (h : i.natAbs < 10 ^ 41) : Shw 140 0 (.int i) := by
  have l1 : i.natAbs.log2 < 137 := by
    by_cases z : i.natAbs = 0
    · rw [z]
      decide
    · rw [Nat.log2_lt z]
      exact Nat.lt_of_lt_of_le h (by decide +kernel)
  refine ⟨?_, ?_, ?_, by simp [PyData.depth]⟩
  · simp only [PyData.showable, decide_eq_true_eq]
    omega
  · simp only [PyData.leavesShort, decide_eq_true_eq]
    have := int_text_length_le10 (a := i) (k := 41) (by decide) h
    have e : (PyData.shown (.int i)).length = (toString i).length := by
      show (Str.ofString (toString i)).length = _
      rw [PySem.ofString_length]
    omega
  · simp only [PyData.weight]
    split
    · omega
    · omega
theorem Shw.str {z : Str} {n : Nat} (h : z.length ≤ n) (c : ∀ x ∈ z.cps.toList, x < 16 ^ 8) : Shw n 0 (.str z) := by
  refine ⟨rfl, ?_, ?_, by simp [PyData.depth]⟩
  · simp only [PyData.leavesShort, List.all_eq_true, decide_eq_true_eq]
    exact c
  · simp only [PyData.weight]
    exact h
theorem shw_all {w k : Nat} : ∀ {ds : List PyData}, (∀ d ∈ ds, Shw w k d) → PyData.showableAll ds = true ∧ PyData.leavesShortAll 50 ds = true ∧ PyData.weightAll ds ≤ (w + 1) * ds.length ∧ PyData.depthAll ds ≤ k
  | [], _ => ⟨rfl, rfl, by simp [PyData.weightAll], by simp [PyData.depthAll]⟩
  | d :: r, h => by
    obtain ⟨h1, h2, h3, h4⟩ := h d (List.mem_cons_self ..)
    obtain ⟨g1, g2, g3, g4⟩ := shw_all fun e m => h e (List.mem_cons_of_mem _ m)
    refine ⟨?_, ?_, ?_, ?_⟩
    · simp only [PyData.showableAll, h1, g1, Bool.and_self]
    · simp only [PyData.leavesShortAll, h2, g2, Bool.and_self]
    · simp only [PyData.weightAll, List.length_cons, Nat.mul_add, Nat.mul_one]
      omega
    · simp only [PyData.depthAll]
      omega
theorem Shw.list {w k n : Nat} {ds : List PyData} (h : ∀ d ∈ ds, Shw w k d) (l : ds.length ≤ n) : Shw ((w + 1) * n) (k + 1) (.list ds) := by
  obtain ⟨g1, g2, g3, g4⟩ := shw_all h
  refine ⟨by simp only [PyData.showable]; exact g1, by simp only [PyData.leavesShort]; exact g2, ?_, ?_⟩
  · simp only [PyData.weight]
    exact Nat.le_trans g3 (Nat.mul_le_mul (Nat.le_refl _) l)
  · simp only [PyData.depth]
    omega
theorem Shw.tuple {w k n : Nat} {ds : List PyData} (h : ∀ d ∈ ds, Shw w k d) (l : ds.length ≤ n) : Shw ((w + 1) * n) (k + 1) (.tuple ds) := by
  obtain ⟨g1, g2, g3, g4⟩ := shw_all h
  refine ⟨by simp only [PyData.showable]; exact g1, by simp only [PyData.leavesShort]; exact g2, ?_, ?_⟩
  · simp only [PyData.weight]
    exact Nat.le_trans g3 (Nat.mul_le_mul (Nat.le_refl _) l)
  · simp only [PyData.depth]
    omega
theorem shw_kv {w k : Nat} : ∀ {ds : List (PyData × PyData)}, (∀ d ∈ ds, Shw w k d.1 ∧ Shw w k d.2) → PyData.showableKv ds = true ∧ PyData.leavesShortKv 50 ds = true ∧ PyData.weightKv ds ≤ (2 * w + 2) * ds.length ∧ PyData.depthKv ds ≤ k
  | [], _ => ⟨rfl, rfl, by simp [PyData.weightKv], by simp [PyData.depthKv]⟩
  | (a, b) :: r, h => by
    obtain ⟨⟨h1, h2, h3, h4⟩, ⟨h5, h6, h7, h8⟩⟩ : Shw w k a ∧ Shw w k b := h (a, b) (List.mem_cons_self ..)
    obtain ⟨g1, g2, g3, g4⟩ := shw_kv fun e m => h e (List.mem_cons_of_mem _ m)
    refine ⟨?_, ?_, ?_, ?_⟩
    · simp only [PyData.showableKv, h1, h5, g1, Bool.and_self]
    · simp only [PyData.leavesShortKv, h2, h6, g2, Bool.and_self]
    · simp only [PyData.weightKv, List.length_cons, Nat.mul_add, Nat.mul_one]
      omega
    · simp only [PyData.depthKv]
      omega
theorem Shw.dict {w k n : Nat} {ds : List (PyData × PyData)} (h : ∀ d ∈ ds, Shw w k d.1 ∧ Shw w k d.2) (l : ds.length ≤ n) : Shw ((2 * w + 2) * n) (k + 1) (.dict ds) := by
  obtain ⟨g1, g2, g3, g4⟩ := shw_kv h
  refine ⟨by simp only [PyData.showable]; exact g1, by simp only [PyData.leavesShort]; exact g2, ?_, ?_⟩
  · simp only [PyData.weight]
    exact Nat.le_trans g3 (Nat.mul_le_mul (Nat.le_refl _) l)
  · simp only [PyData.depth]
    omega
end DW
namespace LW
open PySem PySem.Spec PyProof.Rows L2 DW
/-! ### nets as shown data -/
def dictD {α : Type} (enc : α → PyData) (rs : List (Str × α)) : PyData := .dict (rs.map fun p => (.str p.1, enc p.2))
theorem dz_tx {α : Type} {enc : α → PyData} {K : PySem.W.Frag} {H : Hp} {kvs : List (Key × V)} {rs : List (Str × α)} (h : Tx enc K H kvs rs) : ∃ ds, DzAll K H (kvs.map (·.2)) ds ∧ (kvs.map fun p => keyD p.1).zip ds = rs.map fun p => (PyData.str p.1, enc p.2) := by
  induction h with
  | nil => exact ⟨[], .nil, rfl⟩
  | cons q t ih =>
    rename_i p r l l'
    obtain ⟨ds, h1, h2⟩ := ih
    refine ⟨enc r.2 :: ds, .cons (Dz.of q.2) h1, ?_⟩
    rw [List.map_cons, List.zip_cons_cons, h2, List.map_cons, q.1]
    rfl
theorem dz_td {α : Type} {enc : α → PyData} {K : PySem.W.Frag} {H : Hp} {a : Addr} {rs : List (Str × α)} (h : TD enc K H a rs) : Dz K H (.ref a) (dictD enc rs) := by
  obtain ⟨kvs, e, t⟩ := h
  obtain ⟨ds, h1, h2⟩ := dz_tx t
  have := Dz.dK e h1
  rw [h2] at this
  exact this
theorem lett_small : ∀ c ∈ lettL.cps.toList, c < 16 ^ 8 := by decide +kernel
theorem shw_name {z : Str} (h : nameS z = true) : Shw 12 0 (.str z) := by
  simp only [nameS, Bool.and_eq_true, decide_eq_true_eq, List.all_eq_true] at h
  exact Shw.str h.2.1 fun c hc => lett_small c (h.2.2.2.2 c hc)
theorem shw_dawn : Shw 12 0 (.str ("dawn" : Str)) := Shw.str (by decide) (by decide +kernel)
theorem shw_known {L : Ls} (ok : OkL L) {z : Str} (h : knownB L z = true) : Shw 12 0 (.str z) := by
  unfold knownB at h
  by_cases e : z = ("dawn" : Str)
  · rw [e]
    exact shw_dawn
  · rw [decide_eq_false e, Bool.false_or] at h
    obtain ⟨p, hp, rfl⟩ := List.mem_map.mp (of_decide_eq_true h)
    exact shw_name (ok.name p hp)
theorem shw_in {L : Ls} (ok : OkL L) {p : Str × Int} (h : p ∈ L) : Shw 140 0 (inD p.2) := by
  have := ok.tick p h
  exact Shw.int (by
    have e : (10 : Int) ^ 30 < 10 ^ 41 := by decide +kernel
    have e2 : ((10 ^ 41 : Nat) : Int) = 10 ^ 41 := by norm_cast
    omega)
theorem shw_num {i : Int} (h : -(10 ^ 40) ≤ i ∧ i ≤ 10 ^ 40) : Shw 140 0 (.int i) := Shw.int (by omega)
theorem shw_wk {L : Ls} (ol : OkL L) {x : WkT} (ok : OkWk L x) : Shw 705 1 (wkD x) := by
  refine (Shw.tuple (ds := [.str x.1, .str x.2.1, .int x.2.2.1, .int x.2.2.2.1, .int x.2.2.2.2]) (w := 140) (k := 0) (n := 5) (fun d hd => ?_) (Nat.le_refl 5)).mono (by decide) (by decide)
  have h1 := ok.l
  have h2 := ok.lm
  have h3 := ok.m
  have h4 := ok.k
  simp only [List.mem_cons, List.not_mem_nil, or_false] at hd
  rcases hd with rfl | rfl | rfl | rfl | rfl
  · exact (shw_known ol ok.b).mono (by decide) (by decide)
  · exact (shw_known ol ok.e).mono (by decide) (by decide)
  · exact shw_num (by omega)
  · exact shw_num (by omega)
  · exact shw_num (by omega)
theorem shw_bd {L : Ls} (ol : OkL L) {x : BdT} (ok : OkBd L x) : Shw 423 1 (bdD x) := by
  refine (Shw.tuple (ds := [.str x.1, .str x.2.1, .int x.2.2]) (w := 140) (k := 0) (n := 3) (fun d hd => ?_) (Nat.le_refl 3)).mono (by decide) (by decide)
  have h4 := ok.m
  simp only [List.mem_cons, List.not_mem_nil, or_false] at hd
  rcases hd with rfl | rfl | rfl
  · exact (shw_known ol ok.f).mono (by decide) (by decide)
  · exact (shw_known ol ok.s).mono (by decide) (by decide)
  · exact shw_num (by omega)
/-- [lasts, works, bounds] -/
def netD (D : PlainD) : PyData := .list [dictD inD D.L, dictD wkD D.W, dictD bdD D.B]
theorem shw_net {D : PlainD} (ok : OkN D) (sm : SmallN D) : Shw 254403 3 (netD D) := by
  have dk : ∀ {α : Type} {enc : α → PyData} {rs : List (Str × α)} {w n : Nat}, (∀ p ∈ rs, nameS p.1 = true ∧ Shw w 1 (enc p.2)) → 12 ≤ w → rs.length ≤ n → Shw ((2 * w + 2) * n) 2 (dictD enc rs) := by
    intro α enc rs w n h hw hn
    refine Shw.dict (fun d hd => ?_) (by rw [List.length_map]; exact hn)
    obtain ⟨p, hp, rfl⟩ := List.mem_map.mp hd
    exact ⟨(shw_name (h p hp).1).mono hw (by decide), (h p hp).2⟩
  refine (Shw.list (ds := [dictD inD D.L, dictD wkD D.W, dictD bdD D.B]) (w := 84800) (k := 2) (n := 3) (fun d hd => ?_) (Nat.le_refl 3)).mono (by decide) (by decide)
  simp only [List.mem_cons, List.not_mem_nil, or_false] at hd
  rcases hd with rfl | rfl | rfl
  · exact (dk (w := 140) (n := 60) (fun p hp => ⟨ok.l.name p hp, (shw_in ok.l hp).mono (by decide) (by decide)⟩) (by decide) sm.l).mono (by decide) (by decide)
  · exact (dk (w := 705) (n := 60) (fun p hp => ⟨ok.w.name p hp, shw_wk ok.l (ok.w.wk p hp)⟩) (by decide) sm.w).mono (by decide) (by decide)
  · exact (dk (w := 423) (n := 100) (fun p hp => ⟨ok.b.name p hp, shw_bd ok.l (ok.b.bd p hp)⟩) (by decide) sm.b).mono (by decide) (by decide)
theorem SmallN.sort {D : PlainD} (h : SmallN D) : SmallN (sortN D) := ⟨by show (srtR D.L).length ≤ 60; rw [srtR_len]; exact h.l, by show (srtR D.W).length ≤ 60; rw [srtR_len]; exact h.w, by show (srtR D.B).length ≤ 100; rw [srtR_len]; exact h.b⟩
end LW
namespace DW
open PySem PySem.Spec PyProof.Rows L2 LamX
/-! ### all but the dice and the tables stays -/
def ButN (D : Addr) (H H' : Hp) : Prop := ∀ b o, b ≠ D → H b = some o → (∀ ps, o ≠ .tbl ps) → H' b = some o
theorem ButN.refl {D : Addr} {H : Hp} : ButN D H H := fun _ _ _ e _ => e
theorem ButN.trans {D : Addr} {H H1 H2 : Hp} (x : ButN D H H1) (y : ButN D H1 H2) : ButN D H H2 := fun b o n e t => y b o n (x b o n e t) t
theorem ExtN.butN {D : Addr} {H H' : Hp} (x : ExtN H H') : ButN D H H' := fun b o _ e t => x b o e t
theorem sqL_ext {K : PySem.W.Frag} {H H' : Hp} {a : Addr} {xs : List V} (s : ExtN H H') (h : SqL K H a xs) : SqL K H' a xs := by
  rcases h with (e | ⟨o, e⟩) | h
  · exact .inl (.inl (s _ _ e fun _ z => nomatch z))
  · exact .inl (.inr ⟨o, s _ _ e fun _ z => nomatch z⟩)
  · exact .inr h
theorem sqT_ext {K : PySem.W.Frag} {H H' : Hp} {a : Addr} {xs : List V} (s : ExtN H H') (h : SqT K H a xs) : SqT K H' a xs := by
  rcases h with (e | ⟨o, e⟩) | h
  · exact .inl (.inl (s _ _ e fun _ z => nomatch z))
  · exact .inl (.inr ⟨o, s _ _ e fun _ z => nomatch z⟩)
  · exact .inr h
mutual
theorem Dp.ext {K : PySem.W.Frag} {H H' : Hp} (s : ExtN H H') : ∀ {v : V} {d : PyData}, Dp K H v d → Dp K H' v d
  | _, _, .non => .non
  | _, _, .bl b => .bl b
  | _, _, .int i => .int i
  | _, _, .str x => .str x
  | _, _, .lst h a => .lst (sqL_ext s h) (DpAll.ext s a)
  | _, _, .tup h a => .tup (sqT_ext s h) (DpAll.ext s a)
theorem DpAll.ext {K : PySem.W.Frag} {H H' : Hp} (s : ExtN H H') : ∀ {vs : List V} {ds : List PyData}, DpAll K H vs ds → DpAll K H' vs ds
  | _, _, .nil => .nil
  | _, _, .cons a b => .cons (Dp.ext s a) (DpAll.ext s b)
end
theorem Dd.ext {K : PySem.W.Frag} {H H' : Hp} {v : V} {d : PyData} (s : ExtN H H') (h : Dd K H v d) : Dd K H' v d := by
  cases h with
  | base h n => exact .base (Dp.ext s h) n
  | dct h => exact .dct (s _ _ h fun _ z => nomatch z)
theorem Same.extN {H H' : Hp} (s : Same H H') : ExtN H H' := fun b o e _ => s b o e
theorem Tabs.same {T : List (Addr × Str)} {H H' : Hp} (t : Tabs T H) (s : Same H H') : Tabs T H' := t.ext fun b o e => s b o e
end DW
namespace LW
open PySem PySem.Spec PyProof.Rows L2 DW LamX
theorem But.butN {D : Addr} {H H' : Hp} (b : But D H H') : ButN D H H' := fun c o n e _ => b c o n e
theorem tabs_but {T : List (Addr × Str)} {H H' : Hp} {D : Addr} (hD : Dc H D) (b : But D H H') (t : Tabs T H) : Tabs T H' := fun p hp => by
  obtain ⟨d0, d1, d2, eD⟩ := hD
  have ne : ∀ {c : Addr} {o : HO}, H c = some o → (∀ xs, o ≠ .lst xs) → c ≠ D := fun e n z => by rw [z, eD] at e; cases e; exact n _ rfl
  obtain ⟨ps, h1, h2, h3⟩ := t p hp
  refine ⟨ps, b _ _ (ne h1 fun xs z => nomatch z) h1, h2, fun pos cv hc => ?_⟩
  obtain ⟨c, e1, e2⟩ := h3 pos cv hc
  refine ⟨c, e1, b _ _ (ne e2 fun xs z => ?_) e2⟩
  unfold CodeO at z
  cases z
theorem Dc.ext {H H' : Hp} {D : Addr} (s : ExtN H H') (h : Dc H D) : Dc H' D := by
  obtain ⟨a, b, c, e⟩ := h
  exact ⟨a, b, c, s _ _ e fun _ z => nomatch z⟩
end LW
namespace DW
open PySem PySem.Spec PyProof.Rows L2
section
variable {P : Program} {w : World} {K : PySem.W.Frag} {mg : Str → Option Value} {base : Heap}
/-- as fng, and the body is told where its code object stands -/
theorem fngL {x qual : Str} {st : Stmt} {f : Addr} {fd : FuncData} {N ps : List Str} {k : Nat} {sp : Sp} (F : Fun K x qual st f fd) (S : FnScope N ps (defScope st)) (len : ∀ vs H Q, sp vs H Q E0 → vs.length = ps.length)
    (hbody : ∀ (cdv : Value) (A : Around) (outer : List Env) (s : Shared) (H : Hp) (vs : List V) (Q : VK), (∃ oc od kV doc pm an ct osl, K.lookup f = some ⟨oc, od, .func (PySem.W.fnOf x qual (defArgs st) (defBody st) (defScope st) .none kV doc pm an cdv ct), osl⟩) →
      Room k (A.deeper (envOfC qual (defScope st) s.heap.objs.size f cdv)) → A.guards = some [] → sp vs H Q E0 →
      ∃ t, PSs (cxOf CX0 P w K mg base N qual (defScope st) f cdv A outer s H E0).nox (defBody st) t ∧ t { nx := fun _ H' => Q .non H', rt := Q } (start N vs) H) : FnG P w K mg base (k + 1) f fd ps sp := by
  obtain ⟨oc, od, kV, doc, pm, an, cdv, ct, osl, rfl, lk, hcd⟩ := F.ex
  refine ⟨len, fun A outer s H args us vs Q hr hg env0 hb r hsp => ?_⟩
  have inK : K.In s.heap := env0.mod.kin.keeps fun a o q => (env0.bs a o q).1
  have lim : s.heap.NoLimit := env0.mod.nolimit.keeps fun a o q => (env0.bs a o q).1
  have hk : ∀ y ∈ ps.zip us, (defScope st).names.lookup y.1 = some .local ∨ ((defScope st).names.lookup y.1 = some .cell ∧ ((cellsFrom (s.heap.objs.size + 1) (defScope st).names []).lookup y.1).isSome = true) := fun ⟨n, v⟩ hy => by
    rcases S.par n (List.of_mem_zip hy).1 with q | q
    · exact Or.inl q
    · exact Or.inr ⟨q, PySem.W.cellsFrom_some _ _ _ (Or.inl q)⟩
  refine codeAny_call_function hr.depth (inK _ _ lk) rfl S.co S.gen rfl (PySem.W.codeRec_of inK hcd) (hb _ _ _ _ (wpAny_newFunctionEnv_cells S.kind hk fun env he s1 x => ?_))
  subst he
  refine ⟨lim.keeps x.toInCall.keep, codeAny_func ?_⟩
  obtain ⟨t, ht, hq⟩ := hbody cdv A outer s H vs Q ⟨oc, od, kV, doc, pm, an, ct, osl, lk⟩ (hr.deeper _) hg hsp
  have I0 : Inv (cxOf CX0 P w K mg base N qual (defScope st) f cdv A outer s H E0) [] (start N vs) H s1 := inv_start S hr.hd env0 (len _ _ _ hsp) r x
  refine wpAny_mono (ht.nox.run [] s1 (start N vs) H _ I0 hq) (fun fl s' hs => ?_) fun e s' z => z
  cases fl with
  | ret u => obtain ⟨v, σ', H', J, rv, q⟩ := hs; exact ⟨v, H', J.os, J.bare, J.base, J.hok, rv, q⟩
  | next => obtain ⟨σ', H', J, q⟩ := hs; exact ⟨V.non, H', J.os, J.bare, J.base, J.hok, rfl, q⟩
  | brk => obtain ⟨_, _, _, q⟩ := hs; exact q.elim
  | cont => obtain ⟨_, _, _, q⟩ := hs; exact q.elim
end
end DW
namespace LW
open PySem PySem.Spec PyProof.Rows L2 DW LamX
/-- what is known of the table of the def's code object -/
structure TkS (K : PySem.W.Frag) (base : Heap) (mg : Str → Option Value) (T : List (Addr × Str)) (x qual : Str) (st : Stmt) (f c Pt : Addr) : Prop where
  tb : TabB base mg c Pt
  mem : (Pt, qual ++ ".<locals>." ++ "<lambda>") ∈ T
  un : ∀ p ∈ T, p.1 = Pt → p.2 = qual ++ ".<locals>." ++ "<lambda>"
  code : ∀ oc od kV doc pm an cdv ct osl, K.lookup f = some ⟨oc, od, .func (PySem.W.fnOf x qual (defArgs st) (defBody st) (defScope st) .none kV doc pm an cdv ct), osl⟩ → cdv = .ref c
theorem Cp.ext {H H' : Hp} {v : V} {d : PyData} (s : ExtN H H') (h : Cp H v d) : Cp H' v d := h.keep fun b o p e => s b o e fun ps z => by rw [z] at p; cases p
end LW
namespace LW
open PySem PySem.Spec PyProof.Rows L2 DW LamX
/-- what is told of an error that is met -/
def eMet (K : PySem.W.Frag) (CO : Addr) (Q : VK) : XK := fun cls d H => PySem.W.exmOne K cls (.ref CO) = some true ∧ ∀ t, H t = none → Q (.ref t) (upd H t (.tup [.str "operation"]))
def TMet (K : PySem.W.Frag) (CO : Addr) : (XK → Hp → VK → Prop) → Hp → VK → Prop := fun tl H Q => tl (eMet K CO Q) H fun v H1 => ([V.str "told", v] : List V).length ≤ sizeLine ∧ ∀ t, H1 t = none → Q (.ref t) (upd H1 t (.tup [.str "told", v]))
theorem scMet : FnScope ["call", "error"] ["call"] (defScope s_law_met) := ⟨rfl, rfl, rfl, by decide +kernel, rfl, by decide +kernel, by decide +kernel⟩
abbrev cxM (X : Cx) (g : Addr) (cdg : Value) (s : Shared) (H : Hp) : Cx := (cxOf C8.CX0 X.prog X.w X.K X.mg X.base ["call", "error"] "_law_met" (defScope s_law_met) g cdg X.A X.stack s H C8.E0).nox
theorem met_gives {X : Cx} {g CO CU : Addr} {cdg : Value} {q : Str} (hO : X.mg "InvalidOperation" = some (.ref CO)) (hU : X.mg "UnknownName" = some (.ref CU)) :
    GivesTo X ["call", "error"] "_law_met" (defScope s_law_met) g cdg (defBody s_law_met) "call" q (TMet X.K CO) := by
  intro f c' s H Q tl act hc h
  refine ⟨_, pss_one (ps_try_mix (X := cxM X g cdg s H) (Wout := fun _ _ _ _ => False)
      (tb := fun W D σ H => ∃ Ech : XK, (∀ cls d σ' H', Ech cls d H' → W cls d σ' H') ∧ σ[0]? = some (some (.ref f)) ∧ H c' = some (CodeO c' q) ∧ tl Ech H fun v H1 => ([V.str "told", v] : List V).length ≤ sizeLine ∧ ∀ t, H1 t = none → D.rt (.ref t) (upd H1 t (.tup [.str "told", v])))
      rfl rfl LamX.takes0 (fun W pn xe tk _ => ?_)
      (.bare (c := .ref CO) ⟨rfl, by decide, .inl hO⟩ (fun a oe cls d pn _ _ => pss_one (ps_ret (pe_tup (pa_cons pe_str pa_nil))))
      (.named (c := .ref CU) (i := 1) (ts := fun _ _ _ _ _ _ => False) scMet.nd rfl rfl ⟨rfl, by decide, .inl hU⟩ (fun a oe cls d pn hz hf => dead) .nil))), ?_⟩
  · refine ⟨fun pins s' σ H' D I h' => ?_⟩
    obtain ⟨Ech, hW, h1, h2, h3⟩ := h'
    exact (pss_one (ps_ret (pe_tup (pa_cons pe_str (pa_cons (act W pn xe Ech _ _ tk hW) pa_nil))))).run pins s' σ H' D I ⟨h1, h2, h3⟩
  · refine ⟨eMet X.K CO Q, fun cls d σ' H' hw => ?_, rfl, hc, h⟩
    obtain ⟨e1, y1⟩ := hw
    exact ⟨true, e1, fun _ a na => ⟨by show 1 ≤ sizeLine; decide, fun t nt => y1 t nt⟩, fun z => by cases z⟩
end LW
namespace DW
open PySem PySem.Spec PyProof.Rows L2 PySem.W
theorem hitsIn {prog : Program} {w : World} {K : Type} [DecidableEq K] {A : Around} {s : Shared} {kb : List (K × Value)} : ∀ {ka : List (K × Value)} {r : Bool}, KeqHits A s kb ka r → KeqHitsIn prog w A s kb ka r
  | _, _, .nil => .nil
  | _, _, .miss h => .miss h
  | _, _, .hit h1 h2 h3 => .hit h1 (h2.inModel prog w) (hitsIn h3)
section
variable {X : Cx} {pins : List (Addr × Obj)} {σ : L2.St} {H : Hp} {s : Shared} {α : Type} {enc : α → PyData} {A : Around}
theorem eqIn_td (I : Inv X pins σ H s) (ak : Alk enc) (hu : A.units + 70 < cLine) {a b : Addr} {la lb : List (Str × α)} (ta : TD enc X.K H a la) (tb : TD enc X.K H b lb) (same : a = b → eqTab enc la lb = true) : SeqAt.EqIn X.prog X.w A s (.ref a) (.ref b) (eqTab enc la lb) := by
  by_cases e : a = b
  · rw [same e, e]
    exact (SeqAt.EqAt.same _).inModel X.prog X.w
  · obtain ⟨ka, ea, ta⟩ := ta
    obtain ⟨kb, eb, tb⟩ := tb
    obtain ⟨_, ya, va, ra, da⟩ := dk_rd I.hok (.inl ea)
    obtain ⟨_, yb, vb, rb, db⟩ := dk_rd I.hok (.inl eb)
    have l1 : va.length = la.length := by rw [← ra.length]; exact Paired.length ta
    have l2 : vb.length = lb.length := by rw [← rb.length]; exact Paired.length tb
    refine SeqAt.EqIn.of_refs e fun E Q hq => keq_eqIn (knd := mixKind X.prog X.w) (r := eqX enc la lb) ya yb da db (by omega) (fun _ => hitsIn (hits_tx I ak (by show A.units + 1 + 64 < cLine; omega) tb rb ta ra)) ?_
    rw [l1, l2]
    exact hq
end
end DW
namespace LW
open PySem PySem.Spec PyProof.Rows L2 DW PySem.W
/-- two plain nets: lists of three dicts -/
def rEqPl (K : PySem.W.Frag) : R2 := fun x y H Q => ∃ (p q a b c a' b' c' : Addr) (D D' : PlainD), x = .ref p ∧ y = .ref q ∧ H p = some (.lst [.ref a, .ref b, .ref c]) ∧ H q = some (.lst [.ref a', .ref b', .ref c']) ∧ TD inD K H a D.L ∧ TD wkD K H b D.W ∧ TD bdD K H c D.B ∧ TD inD K H a' D'.L ∧ TD wkD K H b' D'.W ∧ TD bdD K H c' D'.B ∧
  (a = a' → eqTab inD D.L D'.L = true) ∧ (b = b' → eqTab wkD D.W D'.W = true) ∧ (c = c' → eqTab bdD D.B D'.B = true) ∧ Q (.bl (eqN D D')) H
theorem refs3 {a b c : Addr} {its : List Value} (r : Vals [V.ref a, V.ref b, V.ref c] its) : its = [.ref a, .ref b, .ref c] := by
  cases r with
  | cons r1 r =>
    cases r with
    | cons r2 r =>
      cases r with
      | cons r3 r =>
        cases r
        cases r1
        cases r2
        cases r3
        rfl
theorem op_eqPl {X : Cx} (hu : X.A.units + 100 < cLine) : OpR X (compareOp .Eq) (rEqPl X.K) := by
  intro pins s σ H x y v u Q I rx ry h
  obtain ⟨p, q, a, b, c, a', b', c', D, D', rfl, rfl, hp, hq, ta, tb, tc, ta', tb', tc', s1, s2, s3, k⟩ := h
  obtain rfl : v = Value.ref p := rx
  obtain rfl : u = Value.ref q := ry
  obtain ⟨its, rv, pl, hz⟩ := I.list (SqL.of hp)
  obtain ⟨its', rv', pl', hz'⟩ := I.list (SqL.of hq)
  have e1 := refs3 rv
  have e2 := refs3 rv'
  subst e1 e2
  refine SeqAt.rcIn_lists (e := fun j => [eqTab inD D.L D'.L, eqTab wkD D.W D'.W, eqTab bdD D.B D'.B].getD j true) pl.isList pl'.isList rfl (by omega) (fun j h1 h2 => ?_) (fin_bl I k ?_)
  · have hA : X.A.in1.units + 70 < cLine := by show X.A.units + 1 + 70 < cLine; omega
    match j, h1, h2 with
    | 0, _, _ => exact eqIn_td I alk_in hA ta ta' s1
    | 1, _, _ => exact eqIn_td I alk_wk hA tb tb' s2
    | 2, _, _ => exact eqIn_td I alk_bd hA tc tc' s3
    | j + 3, h1, _ => exact absurd (show j + 3 < 3 from h1) (by omega)
  · unfold eqN
    show _ = (List.range 3).all _
    cases eqTab inD D.L D'.L <;> cases eqTab wkD D.W D'.W <;> cases eqTab bdD D.B D'.B <;> rfl
end LW
namespace HNL
open PySem PySem.Spec PyProof.Rows PySem.SeqAt
open AutoSeq1 (wpAny_loadPart')
open MeetsSeq MeetsSeq2 MeetsSeq3 SeqRoads2
/-! ### xs != ys, the items compared in one program and world -/
section
variable {prog : Program} {w : World} {A : Around} {s : Shared}
abbrev lstO (xs : Array Value) (n : Nat) (d : Option Addr) (sl : Array (Option Value)) : Obj := { cls := .type "list", dict := d, data := .seq xs n, slots := sl }
theorem from_ix (l b : Addr) (xs ys : Array Value) (n m : Nat) (d d2 : Option Addr) (sl sl2 : Array (Option Value)) (hz : xs.size = ys.size) (e : Nat → Bool) : ∀ (k i : Nat), xs.size - i = k →
    MeetsIn prog w (Builtin.«list.__eq__.loop» ⟨[.ref l, .ref b, rawInt i, rawInt 3], []⟩) (fun A R s => s.heap.get? l = some (lstO xs n d sl) ∧ s.heap.get? b = some (lstO ys m d2 sl2) ∧
      (∀ j (h1 : j < xs.size) (h2 : j < ys.size), EqIn prog w A.in1 s xs[j] ys[j] (e j)) ∧ R (.ok (.ret (.bool (!((List.range xs.size).drop i).all e)))) s)
  | 0, i, hk => by
    intro A R s h
    obtain ⟨hp, g, dr, tk, os⟩ := s
    obtain ⟨hl, hb, he, q⟩ := h
    wp_walk using wpAny_loadPart' hl, wpAny_loadPart' hb
    have n1 : xs[((i : Nat) : Int).toNat]? = none := by simp; omega
    have n2 : ys[((i : Nat) : Int).toNat]? = none := by simp; omega
    have z : (List.range xs.size).drop i = [] := by simp; omega
    rw [z] at q
    rw [n1, n2]
    wp_walk using wpAny_loadPart' hl, wpAny_loadPart' hb
    show R (.ok (.ret (.bool (xs.size != ys.size)))) _
    rw [hz]
    simpa using q
  | k + 1, i, hk => by
    intro A R s h
    obtain ⟨hp, g, dr, tk, os⟩ := s
    obtain ⟨hl, hb, he, q⟩ := h
    wp_walk using wpAny_loadPart' hl, wpAny_loadPart' hb
    have l1 : i < xs.size := by omega
    have l2 : i < ys.size := by omega
    have n1 : xs[((i : Nat) : Int).toNat]? = some xs[i] := by simp [l1]
    have n2 : ys[((i : Nat) : Int).toNat]? = some ys[i] := by simp [l2]
    have z : (List.range xs.size).drop i = i :: (List.range xs.size).drop (i + 1) := by simp [List.drop_eq_getElem_cons, l1]
    have c : ((i : Int) + 1) = ((i + 1 : Nat) : Int) := by push_cast; rfl
    rw [z, List.all_cons] at q
    rw [n1, n2]
    refine wpAny_bind (he i l1 l2 _ _ ?_)
    cases ei : e i with
    | true =>
      rw [ei] at q
      wp_walk
      rw [c]
      refine ⟨plainId_quiet plain_eq_loop _, codeAny_builtin entry_eq_loop ?_⟩
      rw [Around.under_plainId plain_eq_loop _]
      exact from_ix l b xs ys n m d d2 sl sl2 hz e k (i + 1) (by omega) A R _ ⟨hl, hb, he, by simpa using q⟩
    | false =>
      rw [ei] at q
      wp_walk using wpAny_loadPart' hl, wpAny_loadPart' hb
      rw [n1, n2]
      wp_walk
      simpa using q
theorem ne_lists (l b : Addr) (xs ys : Array Value) (n m : Nat) (d d2 : Option Addr) (sl sl2 : Array (Option Value)) (hz : xs.size = ys.size) (e : Nat → Bool) :
    MeetsIn prog w (Builtin.«list.__ne__» ⟨[.ref l, .ref b], []⟩) (fun A R s => s.heap.get? l = some (lstO xs n d sl) ∧ s.heap.get? b = some (lstO ys m d2 sl2) ∧
      (∀ j (h1 : j < xs.size) (h2 : j < ys.size), EqIn prog w A.in1 s xs[j] ys[j] (e j)) ∧ R (.ok (.ret (.bool (!(List.range xs.size).all e)))) s) := by
  intro A R s h
  obtain ⟨hp, g, dr, tk, os⟩ := s
  obtain ⟨hl, hb, he, q⟩ := h
  have f3 := AutoSeq1.sub_list_list
  have no : ¬ (xs.size != ys.size) = true := by simp [hz]
  wp_walk using wpAny_loadPart' hl, wpAny_loadPart' hb
  refine ⟨plainId_quiet plain_eq_loop _, codeAny_builtin entry_eq_loop ?_⟩
  rw [Around.under_plainId plain_eq_loop _]
  exact from_ix l b xs ys n m d d2 sl sl2 hz e _ 0 rfl A R _ ⟨hl, hb, he, by simpa using q⟩
theorem rc_ne_lists {E : Value → Shared → Prop} {l b : Addr} {xs ys : Array Value} {e : Nat → Bool} {Q : Value → Shared → Prop} (hl : s.heap.IsList l xs) (hb : s.heap.IsList b ys) (hz : xs.size = ys.size) (hu : A.units < cLine)
    (he : ∀ j (h1 : j < xs.size) (h2 : j < ys.size), EqIn prog w A.in1 s xs[j] ys[j] (e j)) (h : Q (.bool (!(List.range xs.size).all e)) s) : wpAny (model prog w) A (richCompare .NotEq (.ref l) (.ref b)) Q E s := by
  obtain ⟨⟨cls, dd, data, sl⟩, ho, hc, n, hd⟩ := id hl
  obtain ⟨⟨cls2, dd2, data2, sl2⟩, ho2, hc2, n2, hd2⟩ := id hb
  simp only at hc hd hc2 hd2
  subst hc hd hc2 hd2
  exact wpAny_richCompare_same_room (T := "list") (op := .NotEq) ⟨_, ho, rfl⟩ ⟨_, ho2, rfl⟩ F.slot_list_ne (call_meetsIn F.slot_list_ne ⟨_, ho, rfl⟩ F.entry_list_ne (F.args_list_ne_2 _ _) (ne_lists l b xs ys n n2 dd dd2 sl sl2 hz e)
    ⟨ho, ho2, he, show Value.bool (!(List.range xs.size).all e) ≠ Value.notImplemented ∧ Q (.bool (!(List.range xs.size).all e)) s from ⟨(fun x => nomatch x), h⟩⟩) hu
end
end HNL
namespace LW
open PySem PySem.Spec PyProof.Rows L2 DW PySem.W
def rNePl (K : PySem.W.Frag) : R2 := fun x y H Q => ∃ (p q a b c a' b' c' : Addr) (D D' : PlainD), x = .ref p ∧ y = .ref q ∧ H p = some (.lst [.ref a, .ref b, .ref c]) ∧ H q = some (.lst [.ref a', .ref b', .ref c']) ∧ TD inD K H a D.L ∧ TD wkD K H b D.W ∧ TD bdD K H c D.B ∧ TD inD K H a' D'.L ∧ TD wkD K H b' D'.W ∧ TD bdD K H c' D'.B ∧
  (a = a' → eqTab inD D.L D'.L = true) ∧ (b = b' → eqTab wkD D.W D'.W = true) ∧ (c = c' → eqTab bdD D.B D'.B = true) ∧ Q (.bl (!eqN D D')) H
theorem op_nePl {X : Cx} (hu : X.A.units + 100 < cLine) : OpR X (compareOp .NotEq) (rNePl X.K) := by
  intro pins s σ H x y v u Q I rx ry h
  obtain ⟨p, q, a, b, c, a', b', c', D, D', rfl, rfl, hp, hq, ta, tb, tc, ta', tb', tc', s1, s2, s3, k⟩ := h
  obtain rfl : v = Value.ref p := rx
  obtain rfl : u = Value.ref q := ry
  obtain ⟨its, rv, pl, hz⟩ := I.list (SqL.of hp)
  obtain ⟨its', rv', pl', hz'⟩ := I.list (SqL.of hq)
  have e1 := refs3 rv
  have e2 := refs3 rv'
  subst e1 e2
  refine HNL.rc_ne_lists (e := fun j => [eqTab inD D.L D'.L, eqTab wkD D.W D'.W, eqTab bdD D.B D'.B].getD j true) pl.isList pl'.isList rfl (by omega) (fun j h1 h2 => ?_) (fin_bl I k ?_)
  · have hA : X.A.in1.units + 70 < cLine := by show X.A.units + 1 + 70 < cLine; omega
    match j, h1, h2 with
    | 0, _, _ => exact eqIn_td I alk_in hA ta ta' s1
    | 1, _, _ => exact eqIn_td I alk_wk hA tb tb' s2
    | 2, _, _ => exact eqIn_td I alk_bd hA tc tc' s3
    | j + 3, h1, _ => exact absurd (show j + 3 < 3 from h1) (by omega)
  · unfold eqN
    show _ = !(List.range 3).all _
    cases eqTab inD D.L D'.L <;> cases eqTab wkD D.W D'.W <;> cases eqTab bdD D.B D'.B <;> rfl
end LW
namespace HNE
open PySem PySem.Spec PyProof.Rows PySem.SeqAt
open AutoSeq1 (wpAny_loadPart')
open MeetsSeq MeetsSeq2 MeetsSeq3
section
variable {M : Model} {prog : Program} {w : World} {A : Around} {E : Value → Shared → Prop} {s : Shared} {K : PySem.W.Frag} {x C f : Addr} {ox : Obj} {od : Option Obj}
theorem ifBound_objNe {args : List Value} {Q : Option Value → Shared → Prop} (X : K.In s.heap) (I : PySem.W.InstAt s.heap x ox C od) (hs : PySem.W.findIn K (.ref C) "__ne__" = some (some (.builtin "object.__ne__")))
    (h : wpAny M A (call (.builtin "object.__ne__") (.ref x :: args)) (fun v => Q (some v)) E s) : wpAny M A (callSpecialIfBound? (.ref x) "__ne__" args) Q E s := by
  simp only [callSpecialIfBound?, bindSpecialIfBound?]
  refine wpAny_holding (wpAny_bind (wpAny_bind (wpAny_bind (I.type.here ((PySem.W.looks_findIn X hs).here ?_)))))
  refine wpAny_bind (wpAny_askSetting (wpAny_ite ?_))
  have fin : wpAny M A (call (.builtin "object.__ne__") ([.ref x] ++ args) >>= fun v => pure (some v)) Q E s := wpAny_bind (wpAny_mono h (fun v s' h' => wpAny_pure h') fun _ _ h' => h')
  split
  · exact wpAny_bind (wpAny_of_eq (F.cmp_object.ne.bind _) (wpAny_pure (by exact fin)))
  · exact wpAny_tryCatch (wpAny_bind (wpAny_of_eq (F.cmp_object.ne.bind _) (wpAny_pure (by exact fin))))
/-- object.__ne__ asks the own __eq__ -/
theorem entry_ne {y : Value} {Q : Fin → Shared → Prop} (hu : A.units < cLine) (X : K.In s.heap) (I : PySem.W.InstAt s.heap x ox C od) (he : PySem.W.findIn K (.ref C) "__eq__" = some (some (.ref f))) (hf : PySem.W.isFn K (.ref f) = true)
    (hcall : wpAny (model prog w) A (call (.ref f) [.ref x, y]) (fun v s' => ∃ b, v = .bool b ∧ Q (.done (.ret (.bool (!b)))) s') E s) : wpAny (model prog w) A (Builtin.«object.__ne__» ⟨[.ref x, y], []⟩) Q E s := by
  unfold Builtin.«object.__ne__»
  repeat (first
    | with_reducible refine wpAny_cRoomFor hu ?_
    | (refine wpAny_bind (m := callSpecialIfBound? (.ref x) (Str.ofString "__eq__") [y])
        (PySem.W.ifBound_K X I he hf (wpAny_mono hcall (fun r s' hr => by
          obtain ⟨b, rfl, hq⟩ := hr
          repeat (first | exact hq | exact wpAny_pure hq | exact wpAny_truthy_bool hq | (refine wpAny_bind (m := truthy (.bool _)) (wpAny_truthy_bool ?_)) | wp_step)) fun _ _ e => e)))
    | wp_step)
theorem call_ne {y : Value} {Q : Value → Shared → Prop} (hu : A.units + 1 < cLine) (X : K.In s.heap) (I : PySem.W.InstAt s.heap x ox C od) (hm : PySem.W.mroIn K C (.type "object") = some true) (he : PySem.W.findIn K (.ref C) "__eq__" = some (some (.ref f))) (hf : PySem.W.isFn K (.ref f) = true)
    (hcall : wpAny (model prog w) A.in1 (call (.ref f) [.ref x, y]) (fun v s' => ∃ b, v = .bool b ∧ Q (.bool (!b)) s') E s) : wpAny (model prog w) A (call (.builtin "object.__ne__") [.ref x, y]) Q E s :=
  wpAny_call (codeAny_call_builtin F.cmp_object.ne.plain F.cmpEntry_ne (PySem.W.check_slot F.cmpKind_ne F.cmpSplit_ne (I.type.andThen (PySem.W.looks_mroIn X hm)) (F.cmpArgs_ne _ _) (entry_ne (A := A.in1) hu X I he hf hcall)))
end
end HNE
namespace LW
open PySem PySem.Spec PyProof.Rows L2 DW
section
variable {prog : Program} {w : World} {A : Around} {E : Value → Shared → Prop} {s : Shared} {K : PySem.W.Frag} {x C f : Addr} {ox : Obj} {od : Option Obj}
/-- != of an instance with an own __eq__ and object's __ne__ against a value of any type that is no subclass -/
theorem rc_neG {p tb : Value} {Q : Value → Shared → Prop} (hu : A.units + 1 < cLine) (X : K.In s.heap) (I : PySem.W.InstAt s.heap x ox C od) (hm : PySem.W.mroIn K C (.type "object") = some true) (hne : PySem.W.findIn K (.ref C) "__ne__" = some (some (.builtin "object.__ne__"))) (he : PySem.W.findIn K (.ref C) "__eq__" = some (some (.ref f))) (hf : PySem.W.isFn K (.ref f) = true)
    (hp : PySem.W.Looks (model prog w) s.heap (typeOf p) tb) (hn : PySem.W.notFirst K C tb = true) (hcall : wpAny (model prog w) A.in1 (call (.ref f) [.ref x, p]) (fun v s' => ∃ b, v = .bool b ∧ Q (.bool (!b)) s') E s) : wpAny (model prog w) A (richCompare .NotEq (.ref x) p) Q E s := by
  have one : wpAny (model prog w) A (tryCompare (.ref x) "__ne__" p) (fun r s' => ∃ b, r = some (.bool b) ∧ Q (.bool b) s') E s := by
    unfold tryCompare
    refine wpAny_bind (HNE.ifBound_objNe X I hne (HNE.call_ne hu X I hm he hf (wpAny_mono hcall (fun v s' hv => ?_) fun _ _ e => e)))
    obtain ⟨b, rfl, hq⟩ := hv
    exact ⟨b, rfl, wpAny_pure ⟨_, rfl, hq⟩⟩
  simp only [richCompare, cmpInfo_NotEq, oneThing_ref]
  refine wpAny_holding (wpAny_bind (wpAny_cRoomFor (Nat.lt_of_succ_lt hu) ?_))
  refine wpAny_bind (I.type.here (wpAny_bind (hp.here ?_)))
  split
  · rename_i q
    have e : PySem.W.subIn K tb (.ref C) = some false := by
      rcases Bool.or_eq_true_iff.mp hn with e | e
      · rw [beq_iff_eq.mp e] at q; simp at q
      · exact beq_iff_eq.mp e
    refine wpAny_bind ((PySem.W.looks_subIn X e).here ?_)
    simp only [Bool.false_eq_true, if_false, Bool.not_false, if_true]
    refine wpAny_bind (m := tryCompare (.ref x) _ p) (wpAny_mono one (fun r s1 z => ?_) fun _ _ e => e)
    obtain ⟨b, rfl, hq⟩ := z
    exact wpAny_pure hq
  · refine wpAny_bind (wpAny_pure ?_)
    simp only [Bool.false_eq_true, if_false, Bool.not_false, if_true]
    refine wpAny_bind (m := tryCompare (.ref x) _ p) (wpAny_mono one (fun r s1 z => ?_) fun _ _ e => e)
    obtain ⟨b, rfl, hq⟩ := z
    exact wpAny_pure hq
end
/-- a net against v: whether they are equal is r -/
def NetEq (K : PySem.W.Frag) (C : Addr) (H : Hp) (x : Addr) (v : V) (r : Bool) : Prop := ∃ D, NetAt K C H x D ∧
  ((∃ (y : Addr) (D' : PlainD), v = .ref y ∧ NetAt K C H y D' ∧ r = eqN D D') ∨ (∃ t, TyX K H v (.type t) ∧ PySem.W.kitOne K (.type t) (.ref C) = some false ∧ PySem.W.notFirst K C (.type t) = true ∧ r = false))
def rEqNet (K : PySem.W.Frag) (C : Addr) (g : Bool → Bool) : R2 := fun x y H Q => ∃ a r, x = .ref a ∧ NetEq K C H a y r ∧ Q (.bl (g r)) H
section
variable {X : Cx} {C f : Addr} {fd : FuncData} {n : Nat}
/-- the call of __eq__ -/
theorem call_eqN (F : FnOk X.prog X.w X.K X.mg X.base CX0 n f fd ["self", "other"] (spEq X.K C)) (hb : Binds X.K fd ["self", "other"] []) {A : Around} (hr : Room n A) (hfr : A.frames = X.A.frames) {pins : List (Addr × Obj)} {s : Shared} {σ : L2.St} {H : Hp} {a : Addr} {y : V} {u : Value} {r : Bool} (I : Inv X pins σ H s) (ry : RelV y u) (h : NetEq X.K C H a y r) :
    wpAny (model X.prog X.w) A (call (.ref f) [.ref a, u]) (fun v s' => v = .bool r ∧ Inv X pins σ H s') X.xe s := by
  obtain ⟨D, nd, h⟩ := h
  have hsp : spEq X.K C [.ref a, y] H (fun v H' => v = .bl r ∧ H' = H) E0 := by
    refine ⟨a, y, D, rfl, nd, ?_⟩
    rcases h with ⟨b, D', rfl, nd', rfl⟩ | ⟨t, ty, k, _, rfl⟩
    · exact .inl ⟨b, D', rfl, nd', rfl, rfl⟩
    · exact .inr ⟨t, ty, k, rfl, rfl⟩
  have e0 : Env0 X.prog X.w X.K X.mg X.base A X.stack s H := by
    have e := I.env0
    exact ⟨by rw [hfr]; exact e.frames, e.mod, e.bs, e.bsz, e.funs, e.frf, e.hok, e.bare⟩
  have r2 : Vals [V.ref a, y] [Value.ref a, u] := .cons rfl (.cons ry .nil)
  refine wpAny_call (codeAny_mono (F.run A X.stack s H ⟨[.ref a, u], []⟩ [.ref a, u] [.ref a, y] _ E0 hr e0 (by
    have := hb s [.ref a, u] I.kIn rfl
    simpa using this) r2 hsp) fun r s' hq => ?_)
  rcases r with er | fl
  · exact hq.elim
  · cases fl with
    | ret w =>
      obtain ⟨z, H', I', rz, ez, ex⟩ := I.after hq
      subst ez ex
      cases rz
      exact ⟨rfl, I'⟩
    | _ => exact False.elim hq
theorem look_of {pins : List (Addr × Obj)} {s : Shared} {σ : L2.St} {H : Hp} {a : Addr} {y : V} {u : Value} {r : Bool} (I : Inv X pins σ H s) (ry : RelV y u) (h : NetEq X.K C H a y r) : ∃ tb, PySem.W.Looks (model X.prog X.w) s.heap (typeOf u) tb ∧ PySem.W.notFirst X.K C tb = true := by
  obtain ⟨D, nd, h⟩ := h
  rcases h with ⟨b, D', rfl, ⟨dy, lb, wb, bb, eb, rb, g1, _⟩, rfl⟩ | ⟨t, ty, k, nf, rfl⟩
  · cases ry
    obtain ⟨mA, J, _⟩ := ins_get I.hok g1
    obtain ⟨od, J, _⟩ := J.look
    exact ⟨_, J.type, by simp [PySem.W.notFirst]⟩
  · obtain ⟨P, kx, hP, _⟩ := kit_of I ry ty
    exact ⟨_, kx.ty _ _ I.kIn hP, nf⟩
theorem op_eqNet (F : FnOk X.prog X.w X.K X.mg X.base CX0 n f fd ["self", "other"] (spEq X.K C)) (hr : Room (n + 1) X.A) (he : PySem.W.findIn X.K (.ref C) "__eq__" = some (some (.ref f))) (hf : PySem.W.isFn X.K (.ref f) = true) (hb : Binds X.K fd ["self", "other"] []) : OpR X (compareOp .Eq) (rEqNet X.K C id) := by
  intro pins s σ H x y v u Q I rx ry h
  obtain ⟨a, r, rfl, h, q⟩ := h
  cases rx
  obtain ⟨tb, lk, nf⟩ := look_of I ry h
  obtain ⟨D, ⟨dx, _, _, _, _, _, g1, _⟩, _⟩ := id h
  obtain ⟨mA, J, _⟩ := ins_get I.hok g1
  obtain ⟨od, J, _⟩ := J.look
  obtain ⟨m, hF⟩ := I.fr
  refine PySem.W.cmp_K (op := .Eq) hr.units0 hF I.ok.mod.kin J lk nf he hf ?_
  refine wpAny_mono (call_eqN F hb (hr.mono (by omega)) rfl I ry h) (fun v s' hv => ?_) fun _ _ e => e
  obtain ⟨rfl, I'⟩ := hv
  exact ⟨.bl r, H, I', rfl, q⟩
theorem op_neNet (F : FnOk X.prog X.w X.K X.mg X.base CX0 n f fd ["self", "other"] (spEq X.K C)) (hr : Room (n + 1) X.A) (hne : PySem.W.findIn X.K (.ref C) "__ne__" = some (some (.builtin "object.__ne__"))) (he : PySem.W.findIn X.K (.ref C) "__eq__" = some (some (.ref f))) (hf : PySem.W.isFn X.K (.ref f) = true) (hb : Binds X.K fd ["self", "other"] []) (hm : PySem.W.mroIn X.K C (.type "object") = some true) : OpR X (compareOp .NotEq) (rEqNet X.K C not) := by
  intro pins s σ H x y v u Q I rx ry h
  obtain ⟨a, r, rfl, h, q⟩ := h
  cases rx
  obtain ⟨tb, lk, nf⟩ := look_of I ry h
  obtain ⟨D, ⟨dx, _, _, _, _, _, g1, _⟩, _⟩ := id h
  obtain ⟨mA, J, _⟩ := ins_get I.hok g1
  obtain ⟨od, J, _⟩ := J.look
  have hu := hr.un
  refine rc_neG (by omega) I.kIn J hm hne he hf lk nf ?_
  refine wpAny_mono (call_eqN F hb hr.in1 rfl I ry h) (fun v s' hv => ?_) fun _ _ e => e
  obtain ⟨rfl, I'⟩ := hv
  exact ⟨r, rfl, .bl (!r), H, I', rfl, q⟩
end
end LW
namespace LW
open PySem PySem.Spec PyProof.Rows L2 DW
section
variable {X : Cx} {f C : Addr} {fd : FuncData} {n : Nat} {ps : List Str} {sp : Sp} {A : Around} {pins : List (Addr × Obj)} {s : Shared} {σ : L2.St} {H : Hp} {us : List Value} {ws : List V} {Q : VK}
/-- a def called below the running body, whatever the nesting -/
theorem call_at (F : FnOk X.prog X.w X.K X.mg X.base CX0 n f fd ps sp) (hb : Binds X.K fd ps []) (hr : Room n A) (hfr : A.frames = X.A.frames) (I : Inv X pins σ H s) (r : Vals ws us) (h : sp ws H Q E0) : wpAny (model X.prog X.w) A (call (.ref f) us) (EP X pins σ Q) X.xe s := by
  have e0 : Env0 X.prog X.w X.K X.mg X.base A X.stack s H := by
    have e := I.env0
    exact ⟨by rw [hfr]; exact e.frames, e.mod, e.bs, e.bsz, e.funs, e.frf, e.hok, e.bare⟩
  have hl := F.len _ _ _ _ h
  have hu : us.length = ps.length := by rw [← r.length]; exact hl
  refine wpAny_call (codeAny_mono (F.run A X.stack s H ⟨us, []⟩ us ws _ E0 hr e0 (by
    have := hb s us I.kIn (by simpa using hu)
    simpa using this) r h) fun r s' hq => ?_)
  rcases r with er | fl
  · exact hq.elim
  · cases fl with
    | ret w => exact I.after hq
    | _ => exact False.elim hq
/-- an instance of the class at C -/
def InsAt (H : Hp) (C a : Addr) : Prop := ∃ dx fs, H a = some (.ins C dx fs)
theorem NetAt.ins {K : PySem.W.Frag} {a : Addr} {D : PlainD} (h : NetAt K C H a D) : InsAt H C a := by
  obtain ⟨dx, _, _, _, _, _, g1, _⟩ := h
  exact ⟨dx, _, g1⟩
/-- len(x) of an instance with a def for it -/
def rLenI (C : Addr) (sp : Sp) : List V → Hp → VK → Prop := fun xs H Q => ∃ a, xs = [.ref a] ∧ InsAt H C a ∧ sp [.ref a] H (fun z H' => ∃ m : Nat, z = .int m ∧ m < 2 ^ 63 ∧ Q z H') E0
theorem call_lenI (F : FnOk X.prog X.w X.K X.mg X.base CX0 n f fd ps sp) (hb : Binds X.K fd ps []) (hr : Room (n + 1) X.A) (hs : PySem.W.findIn X.K (.ref C) "__len__" = some (some (.ref f))) (hf : PySem.W.isFn X.K (.ref f) = true) : CallR X (.builtin "len") (rLenI C sp) := by
  intro pins s σ H xs us Q I r h
  obtain ⟨a, rfl, ⟨dx, fs, g1⟩, q⟩ := h
  obtain ⟨u, rfl, ru⟩ := r.one
  cases (show u = Value.ref a from ru)
  obtain ⟨mA, J, _⟩ := ins_get I.hok g1
  obtain ⟨od, J, _⟩ := J.look
  obtain ⟨m, hF⟩ := I.fr
  refine PySem.W.len_K hF I.ok.mod.kin J hs hf (wpAny_mono (call_at (us := [.ref a]) (ws := [.ref a]) F hb hr.in1 rfl I (.cons rfl .nil) q) (fun w s' z => ?_) fun _ _ x => x)
  obtain ⟨z', H', I', rz, m, em, hm, qz⟩ := z
  subst em
  obtain ⟨t, e⟩ := (show ∃ t, w = Value.int (m : Nat) t from rz)
  cases e
  exact ⟨⟨by omega, by omega⟩, .int (m : Nat), H', I'.tok _, ⟨_, rfl⟩, qz⟩
/-- str(x) of an instance with a def for it -/
def rStrI (C : Addr) (sp : Sp) : List V → Hp → VK → Prop := fun xs H Q => ∃ a, xs = [.ref a] ∧ InsAt H C a ∧ sp [.ref a] H (fun z H' => ∃ y, z = .str y ∧ Q z H') E0
theorem call_strI (F : FnOk X.prog X.w X.K X.mg X.base CX0 n f fd ps sp) (hb : Binds X.K fd ps []) (hr : Room (n + 2) X.A) (hs : PySem.W.findIn X.K (.ref C) "__str__" = some (some (.ref f))) (hf : PySem.W.isFn X.K (.ref f) = true) : CallR X (.type "str") (rStrI C sp) := by
  intro pins s σ H xs us Q I r h
  obtain ⟨a, rfl, ⟨dx, fs, g1⟩, q⟩ := h
  obtain ⟨u, rfl, ru⟩ := r.one
  cases (show u = Value.ref a from ru)
  obtain ⟨mA, J, _⟩ := ins_get I.hok g1
  obtain ⟨od, J, _⟩ := J.look
  have hr2 : Room n X.A.in1.in1 := (show Room (n + 1) X.A.in1 from Room.in1 hr).in1
  refine PySem.W.kso_call hr2.units0 I.kIn J hs hf (wpAny_mono (call_at (us := [.ref a]) (ws := [.ref a]) F hb hr2 rfl I (.cons rfl .nil) q) (fun w s' z => ?_) fun _ _ x => x)
  obtain ⟨z', H', I', rz, y, ey, qz⟩ := z
  subst ey
  obtain ⟨t, e⟩ := (show ∃ t, w = Value.str y t from rz)
  cases e
  exact ⟨.str y, H', I', ⟨_, rfl⟩, qz⟩
/-- x in y, y an instance with a def for it -/
def rInI (C : Addr) (sp : Sp) : R2 := fun x y H Q => ∃ a, y = .ref a ∧ InsAt H C a ∧ sp [.ref a, x] H (fun z H' => ∃ b, z = .bl b ∧ Q z H') E0
theorem op_inI (F : FnOk X.prog X.w X.K X.mg X.base CX0 n f fd ps sp) (hb : Binds X.K fd ps []) (hr : Room n X.A) (hs : PySem.W.findIn X.K (.ref C) "__contains__" = some (some (.ref f))) (hf : PySem.W.isFn X.K (.ref f) = true) : OpR X (compareOp .In) (rInI C sp) := by
  intro pins s σ H x y v u Q I rx ry h
  obtain ⟨a, rfl, ⟨dx, fs, g1⟩, q⟩ := h
  cases ry
  obtain ⟨mA, J, _⟩ := ins_get I.hok g1
  obtain ⟨od, J, _⟩ := J.look
  obtain ⟨m, hF⟩ := I.fr
  refine PySem.W.in_K hF I.ok.mod.kin J hs hf (wpAny_mono (call_at (us := [.ref a, v]) (ws := [.ref a, x]) F hb hr rfl I (.cons rfl (.cons rx .nil)) q) (fun w s' z => ?_) fun _ _ x => x)
  obtain ⟨z', H', I', rz, b, eb, qz⟩ := z
  subst eb
  cases rz
  exact wpAny_truthy_bool ⟨.bl b, H', I', rfl, qz⟩
end
end LW
namespace LW
open PySem PySem.Spec PyProof.Rows L2 DW
/-- no built-in type is a class below an own one -/
theorem nf_ty {K : PySem.W.Frag} {C : Addr} {t : String} {l : List Value} (h : fastBuiltinMro t = some l) (hl : l.all (fun v => match v with | .type _ => true | _ => false) = true) : PySem.W.notFirst K C (.type t) = true := by
  have e : PySem.W.subIn K (.type t) (.ref C) = some false := by
    show (fastBuiltinMro t).map (·.contains (.ref C)) = some false
    rw [h]
    show some (l.contains (.ref C)) = some false
    congr 1
    rw [Bool.eq_false_iff]
    intro hc
    have hm := List.contains_iff_mem.mp hc
    have := List.all_eq_true.mp hl _ hm
    simp at this
  simp [PySem.W.notFirst, e]
theorem nf_none {K : PySem.W.Frag} {C : Addr} : PySem.W.notFirst K C (.type "NoneType") = true := nf_ty (l := [.type "NoneType", .type "object"]) (by decide +kernel) (by decide)
theorem nf_int {K : PySem.W.Frag} {C : Addr} : PySem.W.notFirst K C (.type "int") = true := nf_ty (l := [.type "int", .type "object"]) (by decide +kernel) (by decide)
theorem nf_str {K : PySem.W.Frag} {C : Addr} : PySem.W.notFirst K C (.type "str") = true := nf_ty (l := [.type "str", .type "object"]) (by decide +kernel) (by decide)
theorem nf_tup {K : PySem.W.Frag} {C : Addr} : PySem.W.notFirst K C (.type "tuple") = true := nf_ty (l := [.type "tuple", .type "object"]) (by decide +kernel) (by decide)
theorem nf_lst {K : PySem.W.Frag} {C : Addr} : PySem.W.notFirst K C (.type "list") = true := nf_ty (l := [.type "list", .type "object"]) (by decide +kernel) (by decide)
theorem nf_dct {K : PySem.W.Frag} {C : Addr} : PySem.W.notFirst K C (.type "dict") = true := nf_ty (l := [.type "dict", .type "object"]) (by decide +kernel) (by decide)
/-- a value of a built-in type is equal to no net -/
theorem NetEq.no {K : PySem.W.Frag} {C : Addr} {H : Hp} {x : Addr} {D : PlainD} {v : V} {t : String} (h : NetAt K C H x D) (ty : TyX K H v (.type t)) (k : PySem.W.kitOne K (.type t) (.ref C) = some false) (n : PySem.W.notFirst K C (.type t) = true) : NetEq K C H x v false :=
  ⟨D, h, .inr ⟨t, ty, k, n, rfl⟩⟩
theorem NetEq.two {K : PySem.W.Frag} {C : Addr} {H : Hp} {x y : Addr} {D D' : PlainD} (h : NetAt K C H x D) (h' : NetAt K C H y D') : NetEq K C H x (.ref y) (eqN D D') := ⟨D, h, .inl ⟨y, D', rfl, h', rfl⟩⟩
section
variable {J : It} {n : Nat} {G : Hp → Prop} {Y : Nat → Hp → V → Hp → Prop}
/-- [.. for x in .. if ..] where the condition holds for none -/
theorem no_it {K : PySem.W.Frag} (w : Walk J n G Y) {g : TG} {tt : L2.TT} {te : TE} {vs : List Nat} {σ : L2.St} {H : Hp} {D : Addr} {Qd : Hp → Prop} (hD : H D = none) (hG : ∀ H', Same H H' → G H')
    (hg : ∀ x σ2 H2 (P P' : L2.St → Hp → Prop), (∀ σ3 H3, P σ3 H3 → P' σ3 H3) → g x σ2 H2 P → g x σ2 H2 P')
    (hs : ∀ i x H1 H2, i < n → Same H H1 → Y i H1 x H2 → g x (wipe σ vs) H2 fun σ2 H3 => wipe σ2 vs = wipe σ vs ∧ ∀ R : Bool → Hp → Prop, (∀ H5, Same H1 H5 → R false H5) → tt σ2 H3 R) (k : ∀ H', Same H H' → SqL K H' D [] → Qd H') :
    ∃ W : Nat → Nat → Hp → Prop, (∃ m, W 0 m (upd H D (.lst []))) ∧ ∀ i m H, W i m H →
      (J.stop i H ∧ Qd H) ∨ (J.go i H ∧ ∃ Nx : Hp → Prop, (∀ H', Nx H' → ∃ m', m' < m ∧ W (i + 1) m' H') ∧ ∀ x H', J.yld i H x H' → g x (wipe σ vs) H' fun σ2 H2 => wipe σ2 vs = wipe σ vs ∧ tt σ2 H2 fun b H3 =>
        if b = true then te σ2 H3 fun y H4 => ∃ acc, H4 D = some (.lst acc) ∧ acc.length < sizeLine ∧ Nx (upd H4 D (.lst (acc ++ [y]))) else Nx H3) := by
  refine lc_it w (fun i H' => Same H H' ∧ H' D = some (.lst [])) ⟨same_new hD, upd_same⟩ (fun i H' _ p => hG H' p.1) (fun i x H1 H2 hi p y => ?_) (fun H' p => k H' p.1 (SqL.of p.2))
  obtain ⟨s1, e⟩ := p
  refine hg _ _ _ _ _ (fun σ3 H3 z => ⟨z.1, z.2 _ fun H5 s5 => ?_⟩) (hs i x H1 H2 hi s1 y)
  have q : Same H H5 ∧ H5 D = some (.lst []) := ⟨s1.trans s5, s5 _ _ e⟩
  exact q
end
end LW
namespace LW
open PySem PySem.Spec PyProof.Rows L2 DW
theorem nd_len : ∀ {l m : List Str}, l.Nodup → (∀ s, s ∈ l → s ∈ m) → l.length ≤ m.length
  | [], _, _, _ => Nat.zero_le _
  | x :: l, m, nd, h => by
    have hx := h x (List.mem_cons_self ..)
    have n1 := List.nodup_cons.mp nd
    have := nd_len (m := m.erase x) n1.2 fun s hs => (List.mem_erase_of_ne (a := s) (b := x) (fun e => by subst e; exact n1.1 hs)).mpr (h s (List.mem_cons_of_mem _ hs))
    rw [List.length_erase_of_mem hx] at this
    have p : 0 < m.length := List.length_pos_of_mem hx
    rw [List.length_cons]
    omega
theorem nd_all {l m : List Str} (nd : l.Nodup) (h : ∀ s, s ∈ l → s ∈ m) (hl : m.length ≤ l.length) {s : Str} (hs : s ∈ m) : s ∈ l := by
  by_cases c : s ∈ l
  · exact c
  · have := nd_len (l := s :: l) (m := m) (List.nodup_cons.mpr ⟨c, nd⟩) fun t ht => by
      rcases List.mem_cons.mp ht with rfl | ht
      · exact hs
      · exact h t ht
    rw [List.length_cons] at this
    omega
section
variable {α : Type} {enc : α → PyData}
theorem eqX_at {la lb : List (Str × α)} : eqX enc la lb = true ↔ ∀ p, p ∈ la → ∃ y, look lb p.1 = some y ∧ PyData.eqv (enc p.2) (enc y) = true := by
  unfold eqX
  rw [List.all_eq_true]
  constructor
  · intro h p hp
    have := h p hp
    cases e : look lb p.1 with
    | none => rw [e] at this; exact absurd this (by simp)
    | some y => rw [e] at this; exact ⟨y, rfl, this⟩
  · intro h p hp
    obtain ⟨y, e, q⟩ := h p hp
    rw [e]
    exact q
theorem bool_ext {a b : Bool} (h : a = true ↔ b = true) : a = b := by
  cases a <;> cases b <;> simp_all
/-- the sequence of the keys says nothing -/
theorem eqTab_congr {la la' lb lb' : List (Str × α)} (pa : la.Perm la') (pb : lb.Perm lb') (nb : (lb.map (·.1)).Nodup) : eqTab enc la lb = eqTab enc la' lb' := by
  unfold eqTab
  rw [pa.length_eq, pb.length_eq]
  congr 1
  refine bool_ext ?_
  rw [eqX_at, eqX_at]
  constructor
  · intro h p hp
    obtain ⟨y, e, q⟩ := h p (pa.mem_iff.mpr hp)
    exact ⟨y, by rw [← look_perm pb nb]; exact e, q⟩
  · intro h p hp
    obtain ⟨y, e, q⟩ := h p (pa.mem_iff.mp hp)
    exact ⟨y, by rw [look_perm pb nb]; exact e, q⟩
theorem eqTab_imp {la lb : List (Str × α)} (na : (la.map (·.1)).Nodup) (nb : (lb.map (·.1)).Nodup) (h : eqTab enc la lb = true) : eqTab enc lb la = true := by
  unfold eqTab at h ⊢
  rw [Bool.and_eq_true] at h ⊢
  obtain ⟨h1, h2⟩ := h
  have e1 : la.length = lb.length := by simpa using h1
  rw [eqX_at] at h2
  refine ⟨by simp [e1], eqX_at.mpr fun q hq => ?_⟩
  have sub : ∀ s, s ∈ la.map (·.1) → s ∈ lb.map (·.1) := fun s hs => by
    obtain ⟨p, hp, rfl⟩ := List.mem_map.mp hs
    obtain ⟨y, e, _⟩ := h2 p hp
    exact look_some.mp (by rw [e]; rfl)
  have hm : q.1 ∈ la.map (·.1) := nd_all na sub (by simp [e1]) (List.mem_map_of_mem hq)
  obtain ⟨p, hp, ep⟩ := List.mem_map.mp hm
  obtain ⟨y, e, v⟩ := h2 p hp
  have ey : look lb q.1 = some q.2 := DW.look_of nb hq
  rw [ep, ey] at e
  cases e
  refine ⟨p.2, ?_, by rw [PySem.W.eqv_comm]; exact v⟩
  rw [← ep]
  exact DW.look_of na hp
theorem eqTab_comm {la lb : List (Str × α)} (na : (la.map (·.1)).Nodup) (nb : (lb.map (·.1)).Nodup) : eqTab enc la lb = eqTab enc lb la := bool_ext ⟨eqTab_imp na nb, eqTab_imp nb na⟩
end
theorem eqN_comm {D D' : PlainD} (l : (D.L.map (·.1)).Nodup) (w : (D.W.map (·.1)).Nodup) (b : (D.B.map (·.1)).Nodup) (l' : (D'.L.map (·.1)).Nodup) (w' : (D'.W.map (·.1)).Nodup) (b' : (D'.B.map (·.1)).Nodup) : eqN D D' = eqN D' D := by
  unfold eqN
  rw [eqTab_comm l l', eqTab_comm w w', eqTab_comm b b']
theorem eqN_sort {D D' : PlainD} (l : (D.L.map (·.1)).Nodup) (w : (D.W.map (·.1)).Nodup) (b : (D.B.map (·.1)).Nodup) (l' : (D'.L.map (·.1)).Nodup) (w' : (D'.W.map (·.1)).Nodup) (b' : (D'.B.map (·.1)).Nodup) : eqN (sortN D) (sortN D') = eqN D D' := by
  unfold eqN sortN
  show (eqTab inD (srtR D.L) (srtR D'.L) && (eqTab wkD (srtR D.W) (srtR D'.W) && eqTab bdD (srtR D.B) (srtR D'.B))) = _
  rw [eqTab_congr (srtR_perm l) (srtR_perm l') (srtR_nodup l'), eqTab_congr (srtR_perm w) (srtR_perm w') (srtR_nodup w'), eqTab_congr (srtR_perm b) (srtR_perm b') (srtR_nodup b')]
end LW
namespace LW
open PySem PySem.Spec PyProof.Rows L2 DW
section
variable {α : Type}
/-- the value at k is x -/
def rep (rs : List (Str × α)) (k : Str) (x : α) : List (Str × α) := rs.map fun p => if p.1 = k then (k, x) else p
def less (rs : List (Str × α)) (k : Str) : List (Str × α) := rs.filter fun p => p.1 ≠ k
theorem rep_names {rs : List (Str × α)} {k : Str} {x : α} : (rep rs k x).map (·.1) = rs.map (·.1) := by
  unfold rep
  rw [List.map_map]
  refine List.map_congr_left fun p _ => ?_
  show (if p.1 = k then (k, x) else p).1 = p.1
  split
  · rename_i e; exact e.symm
  · rfl
theorem rep_len {rs : List (Str × α)} {k : Str} {x : α} : (rep rs k x).length = rs.length := List.length_map _
theorem rep_mem {rs : List (Str × α)} {k : Str} {x : α} {p : Str × α} (h : p ∈ rep rs k x) : (p = (k, x) ∧ k ∈ rs.map (·.1)) ∨ p ∈ rs := by
  obtain ⟨q, hq, e⟩ := List.mem_map.mp h
  by_cases c : q.1 = k
  · rw [if_pos c] at e
    exact .inl ⟨e.symm, c ▸ List.mem_map_of_mem hq⟩
  · rw [if_neg c] at e
    exact .inr (e ▸ hq)
theorem less_mem {rs : List (Str × α)} {k : Str} {p : Str × α} (h : p ∈ less rs k) : p ∈ rs := (List.mem_filter.mp h).1
theorem less_sub {rs : List (Str × α)} {k : Str} : (less rs k).Sublist rs := List.filter_sublist
end
theorem OkWk.mono {L L' : Ls} {w : WkT} (hk : ∀ z, knownB L z = true → knownB L' z = true) (h : OkWk L w) : OkWk L' w := ⟨hk _ h.b, hk _ h.e, h.ne, h.be, h.l, h.lm, h.m, h.k⟩
theorem OkBd.mono {L L' : Ls} {b : BdT} (hk : ∀ z, knownB L z = true → knownB L' z = true) (h : OkBd L b) : OkBd L' b := ⟨hk _ h.f, hk _ h.s, h.ne, h.m⟩
theorem OkW.mono {L L' : Ls} {W : Ws} (hk : ∀ z, knownB L z = true → knownB L' z = true) (h : OkW L W) : OkW L' W := ⟨h.nd, h.len, h.name, fun p hp => (h.wk p hp).mono hk, h.ends, h.rank, h.look⟩
theorem OkB.mono {L L' : Ls} {B : Bs} (hk : ∀ z, knownB L z = true → knownB L' z = true) (h : OkB L B) : OkB L' B := ⟨h.nd, h.len, h.name, fun p hp => (h.bd p hp).mono hk⟩
theorem known_rep {L : Ls} {k : Str} {x : Int} (z : Str) (h : knownB L z = true) : knownB (rep L k x) z = true := by
  unfold knownB at h ⊢
  rw [rep_names]
  exact h
theorem known_add {L : Ls} {k : Str} {x : Int} (z : Str) (h : knownB L z = true) : knownB (L ++ [(k, x)]) z = true := by
  unfold knownB at h ⊢
  rw [Bool.or_eq_true, decide_eq_true_eq, decide_eq_true_eq] at h ⊢
  refine h.imp id fun h => ?_
  rw [List.map_append]
  exact List.mem_append_left _ h
theorem OkL.rep {L : Ls} {k : Str} {x : Int} (h : OkL L) (hx : 0 ≤ x ∧ x ≤ 10 ^ 30) : OkL (rep L k x) where
  nd := by rw [rep_names]; exact h.nd
  len := by rw [rep_len]; exact h.len
  name := fun p hp => by
    rcases rep_mem hp with ⟨rfl, hk⟩ | hp
    · obtain ⟨q, hq, e⟩ := List.mem_map.mp hk
      exact e ▸ h.name q hq
    · exact h.name p hp
  tick := fun p hp => by
    rcases rep_mem hp with ⟨rfl, _⟩ | hp
    · exact hx
    · exact h.tick p hp
theorem OkL.add {L : Ls} {k : Str} {x : Int} (h : OkL L) (hl : L.length ≤ 199) (hk : ∀ p ∈ L, p.1 ≠ k) (hn : nameS k = true) (hx : 0 ≤ x ∧ x ≤ 10 ^ 30) : OkL (L ++ [(k, x)]) where
  nd := by
    rw [List.map_append]
    refine List.nodup_append.mpr ⟨h.nd, List.nodup_cons.mpr ⟨fun q => (by cases q), .nil⟩, fun a ha c hc z => ?_⟩
    obtain ⟨q, hq, e⟩ := List.mem_map.mp ha
    have hc : c = k := List.mem_singleton.mp hc
    exact hk q hq (e.trans (z.trans hc))
  len := by rw [List.length_append]; exact ⟨by show 1 ≤ L.length + 1; omega, by show L.length + 1 ≤ 200; omega⟩
  name := fun p hp => by
    rcases List.mem_append.mp hp with hp | hp
    · exact h.name p hp
    · rw [List.mem_singleton.mp hp]; exact hn
  tick := fun p hp => by
    rcases List.mem_append.mp hp with hp | hp
    · exact h.tick p hp
    · rw [List.mem_singleton.mp hp]; exact hx
theorem OkW.less {L : Ls} {W : Ws} {k : Str} (h : OkW L W) : OkW L (less W k) := by
  obtain ⟨r, hr⟩ := h.rank
  exact ⟨(less_sub.map _).nodup h.nd, Nat.le_trans less_sub.length_le h.len, fun p hp => h.name p (less_mem hp), fun p hp => h.wk p (less_mem hp), (less_sub.map _).nodup h.ends, ⟨r, fun p hp => hr p (less_mem hp)⟩, fun p hp q hq => h.look p (less_mem hp) q (less_mem hq)⟩
theorem OkB.less {L : Ls} {B : Bs} {k : Str} (h : OkB L B) : OkB L (less B k) :=
  ⟨(less_sub.map _).nodup h.nd, Nat.le_trans less_sub.length_le h.len, fun p hp => h.name p (less_mem hp), fun p hp => h.bd p (less_mem hp)⟩
theorem OkB.rep {L : Ls} {B : Bs} {k : Str} {b : BdT} (h : OkB L B) (hb : OkBd L b) : OkB L (rep B k b) where
  nd := by rw [rep_names]; exact h.nd
  len := by rw [rep_len]; exact h.len
  name := fun p hp => by
    rcases rep_mem hp with ⟨rfl, hk⟩ | hp
    · obtain ⟨q, hq, e⟩ := List.mem_map.mp hk
      exact e ▸ h.name q hq
    · exact h.name p hp
  bd := fun p hp => by
    rcases rep_mem hp with ⟨rfl, _⟩ | hp
    · exact hb
    · exact h.bd p hp
/-- a work of the same ends and the same look -/
theorem OkW.rep {L : Ls} {W : Ws} {k : Str} {w w' : WkT} (h : OkW L W) (hw : (k, w) ∈ W) (hb : OkWk L w') (e1 : w'.1 = w.1) (e2 : w'.2.1 = w.2.1) (e3 : w'.2.2.2.2 = w.2.2.2.2) : OkW L (rep W k w') := by
  have back : ∀ p ∈ LW.rep W k w', ∃ q ∈ W, p.1 = q.1 ∧ p.2.1 = q.2.1 ∧ p.2.2.1 = q.2.2.1 ∧ p.2.2.2.2.2 = q.2.2.2.2.2 := fun p hp => by
    rcases rep_mem hp with ⟨rfl, _⟩ | hp
    · exact ⟨_, hw, rfl, e1, e2, e3⟩
    · exact ⟨p, hp, rfl, rfl, rfl, rfl⟩
  have same : ∀ q ∈ W, q.1 = k → q = (k, w) := fun q hq e => by
    have l1 := DW.look_of h.nd hq
    have l2 := DW.look_of h.nd hw
    rw [e] at l1
    rw [l1] at l2
    cases l2
    exact Prod.ext e rfl
  obtain ⟨r, hr⟩ := h.rank
  refine ⟨by rw [rep_names]; exact h.nd, by rw [rep_len]; exact h.len, fun p hp => ?_, fun p hp => ?_, ?_, ⟨r, fun p hp => ?_⟩, fun p hp q hq e => ?_⟩
  · obtain ⟨q, hq, a, _⟩ := back p hp
    rw [a]; exact h.name q hq
  · rcases rep_mem hp with ⟨rfl, _⟩ | hp
    · exact hb
    · exact h.wk p hp
  · have : ((LW.rep W k w').map fun p => p.2.2.1) = W.map fun p => p.2.2.1 := by
      unfold LW.rep
      rw [List.map_map]
      refine List.map_congr_left fun q hq => ?_
      show (if q.1 = k then (k, w') else q).2.2.1 = q.2.2.1
      split
      · rename_i e
        rw [same q hq e]
        exact e2
      · rfl
    rw [this]
    exact h.ends
  · obtain ⟨q, hq, _, a, b, _⟩ := back p hp
    rw [a, b]; exact hr q hq
  · obtain ⟨p', hp', _, a, _, _⟩ := back p hp
    obtain ⟨q', hq', _, _, b, c⟩ := back q hq
    rw [c]
    exact h.look p' hp' q' hq' (by rw [← a, ← b]; exact e)
end LW
namespace LW
open PySem PySem.Spec PyProof.Rows L2 DW
section
variable {α : Type} {enc : α → PyData} {K : PySem.W.Frag} {H : Hp}
theorem tx_keys : ∀ {kvs : List (Key × V)} {rs : List (Str × α)}, Tx enc K H kvs rs → kvs.map (·.1) = rs.map fun p => (.inr p.1 : Key)
  | _, _, .nil => rfl
  | _, _, .cons h t => by
    rw [List.map_cons, List.map_cons, tx_keys t, h.1]
theorem tx_nd {kvs : List (Key × V)} {rs : List (Str × α)} (h : Tx enc K H kvs rs) (nd : (rs.map (·.1)).Nodup) : (kvs.map (·.1)).Nodup := by
  rw [tx_keys h]
  have : (rs.map fun p => (.inr p.1 : Key)) = (rs.map (·.1)).map Sum.inr := by rw [List.map_map]; rfl
  rw [this]
  clear this h
  generalize rs.map (·.1) = l at nd ⊢
  induction l with
  | nil => exact .nil
  | cons x l ih =>
    have n := List.nodup_cons.mp nd
    rw [List.map_cons]
    refine List.nodup_cons.mpr ⟨fun h => ?_, ih n.2⟩
    obtain ⟨y, hy, e⟩ := List.mem_map.mp h
    cases e
    exact n.1 hy
theorem tx_rep {k : Str} {x : α} {v : V} (dv : Dp K H v (enc x)) : ∀ {kvs : List (Key × V)} {rs : List (Str × α)}, Tx enc K H kvs rs → Tx enc K H (kvs.map fun kv => if kv.1 = .inr k then (kv.1, v) else kv) (rep rs k x)
  | _, _, .nil => .nil
  | _, _, .cons (a := p) (b := q) h t => by
    unfold rep
    rw [List.map_cons, List.map_cons]
    refine .cons ?_ (tx_rep dv t)
    by_cases c : q.1 = k
    · rw [if_pos c, if_pos (by rw [h.1, c])]
      exact ⟨by rw [h.1, c], dv⟩
    · rw [if_neg c, if_neg (by rw [h.1]; intro e; cases e; exact c rfl)]
      exact h
/-- dict(list(d.items()) + [(k, x)]) with a key that d has -/
theorem merge_rep {k : Str} {x : α} {v : V} {kvs : List (Key × V)} {rs : List (Str × α)} (h : Tx enc K H kvs rs) (nd : (rs.map (·.1)).Nodup) (hk : k ∈ rs.map (·.1)) (dv : Dp K H v (enc x)) : Tx enc K H (mergeK [] (kvs ++ [(.inr k, v)])) (rep rs k x) := by
  have e : mergeK [] (kvs ++ [(.inr k, v)]) = putK (mergeK [] kvs) (.inr k) v := by
    unfold mergeK
    rw [List.foldl_append]
    rfl
  rw [e, merge_nil (tx_nd h nd)]
  unfold putK
  rw [if_pos ?_]
  · exact tx_rep dv h
  · rw [List.any_eq_true]
    have : (.inr k : Key) ∈ kvs.map (·.1) := by
      rw [tx_keys h]
      obtain ⟨p, hp, e⟩ := List.mem_map.mp hk
      exact List.mem_map.mpr ⟨p, hp, by rw [e]⟩
    obtain ⟨q, hq, e⟩ := List.mem_map.mp this
    exact ⟨q, hq, decide_eq_true e⟩
/-- .. with a key that d has not -/
theorem merge_add {k : Str} {x : α} {v : V} {kvs : List (Key × V)} {rs : List (Str × α)} (h : Tx enc K H kvs rs) (nd : (rs.map (·.1)).Nodup) (hk : k ∉ rs.map (·.1)) (dv : Dp K H v (enc x)) : Tx enc K H (mergeK [] (kvs ++ [(.inr k, v)])) (rs ++ [(k, x)]) := by
  have t2 : Tx enc K H (kvs ++ [(.inr k, v)]) (rs ++ [(k, x)]) := paired_snoc h ⟨rfl, dv⟩
  have n2 : ((rs ++ [(k, x)]).map (·.1)).Nodup := by
    rw [List.map_append]
    refine List.nodup_append.mpr ⟨nd, List.nodup_cons.mpr ⟨fun q => (by cases q), .nil⟩, fun a ha c hc z => ?_⟩
    have hc : c = k := List.mem_singleton.mp hc
    rw [hc] at z
    rw [z] at ha
    exact hk ha
  rw [merge_nil (tx_nd t2 n2)]
  exact t2
end
end LW
namespace LW
open PySem PySem.Spec PyProof.Rows L2 DW
section
variable {α : Type} {enc : α → PyData} {K : PySem.W.Frag} {H : Hp}
theorem eqTab_refl (ak : Alk enc) {la : List (Str × α)} (nd : (la.map (·.1)).Nodup) : eqTab enc la la = true := by
  unfold eqTab
  rw [Bool.and_eq_true]
  refine ⟨by simp, eqX_at.mpr fun p hp => ⟨p.2, DW.look_of nd hp, PySem.W.eqv_refl_alike _ (ak p.2 p.2).1⟩⟩
end
/-- a plain net at o besides the one at pl: where a dict is shared it is the same -/
def OtherAt (K : PySem.W.Frag) (H : Hp) (o pl : Addr) (D N : PlainD) : Prop := ∃ a b c a' b' c' : Addr, H pl = some (.lst [.ref a, .ref b, .ref c]) ∧ H o = some (.lst [.ref a', .ref b', .ref c']) ∧
  TD inD K H a D.L ∧ TD wkD K H b D.W ∧ TD bdD K H c D.B ∧ TD inD K H a' N.L ∧ TD wkD K H b' N.W ∧ TD bdD K H c' N.B ∧ (a' = a → N.L = D.L) ∧ (b' = b → N.W = D.W) ∧ (c' = c → N.B = D.B)
section
variable {K : PySem.W.Frag} {H H' : Hp} {o pl : Addr} {D N : PlainD} {Q : VK}
theorem OtherAt.same (s : Same H H') (h : OtherAt K H o pl D N) : OtherAt K H' o pl D N := by
  obtain ⟨a, b, c, a', b', c', h1, h2, h3, h4, h5, h6, h7, h8, r⟩ := h
  exact ⟨a, b, c, a', b', c', s _ _ h1, s _ _ h2, h3.same s, h4.same s, h5.same s, h6.same s, h7.same s, h8.same s, r⟩
theorem OtherAt.plain (h : OtherAt K H o pl D N) : PlainAt K H o N := by
  obtain ⟨a, b, c, a', b', c', h1, h2, h3, h4, h5, h6, h7, h8, r⟩ := h
  exact ⟨a', b', c', h2, h6, h7, h8⟩
theorem OtherAt.eq (ok : OkN D) (h : OtherAt K H o pl D N) (k : Q (.bl (eqN N D)) H) : rEqPl K (.ref o) (.ref pl) H Q := by
  obtain ⟨a, b, c, a', b', c', h1, h2, h3, h4, h5, h6, h7, h8, r1, r2, r3⟩ := h
  exact ⟨o, pl, a', b', c', a, b, c, N, D, rfl, rfl, h2, h1, h6, h7, h8, h3, h4, h5, fun e => by rw [r1 e]; exact eqTab_refl alk_in ok.l.nd, fun e => by rw [r2 e]; exact eqTab_refl alk_wk ok.w.nd, fun e => by rw [r3 e]; exact eqTab_refl alk_bd ok.b.nd, k⟩
theorem OtherAt.ne (ok : OkN D) (h : OtherAt K H o pl D N) (k : Q (.bl (!eqN N D)) H) : rNePl K (.ref o) (.ref pl) H Q := by
  obtain ⟨a, b, c, a', b', c', h1, h2, h3, h4, h5, h6, h7, h8, r1, r2, r3⟩ := h
  exact ⟨o, pl, a', b', c', a, b, c, N, D, rfl, rfl, h2, h1, h6, h7, h8, h3, h4, h5, fun e => by rw [r1 e]; exact eqTab_refl alk_in ok.l.nd, fun e => by rw [r2 e]; exact eqTab_refl alk_wk ok.w.nd, fun e => by rw [r3 e]; exact eqTab_refl alk_bd ok.b.nd, k⟩
end
/-- both sides of the law's question agree -/
theorem eqN_both {D N : PlainD} (ok : OkN D) (okN : OkN N) : eqN (sortN D) (sortN N) = eqN N D := by
  rw [eqN_sort ok.l.nd ok.w.nd ok.b.nd okN.l.nd okN.w.nd okN.b.nd, eqN_comm ok.l.nd ok.w.nd ok.b.nd okN.l.nd okN.w.nd okN.b.nd]
end LW
namespace LW
open PySem PySem.Spec PyProof.Rows L2 DW
theorem less_succ {α : Type} {rs : List (Str × α)} {k : Str} {i : Nat} {p : Str × α} (h : rs[i]? = some p) : less (rs.take (i + 1)) k = less (rs.take i) k ++ (if p.1 ≠ k then [p] else []) := by
  unfold less
  rw [List.take_add_one, h, Option.toList_some, List.filter_append]
  congr 1
  by_cases e : p.1 = k
  · simp [e]
  · simp [e]
theorem less_len {α : Type} {rs : List (Str × α)} {k : Str} : (less rs k).length ≤ rs.length := less_sub.length_le
/-- [(word, d[word]) for word in d if word != key] -/
theorem less_it {α : Type} {enc : α → PyData} {K : PySem.W.Frag} {b d : Addr} {rs : List (Str × α)} {kb : List (Key × V)} {od : Obj} {σ : L2.St} {H : Hp} {i : Nat} {tv : TE} {tt : L2.TT} {key : Str} {Qd : Hp → Prop} (hi : i < σ.length)
    (hb : H b = some (.dK kb)) (txb : Tx enc K H kb rs) (nd : (rs.map (·.1)).Nodup) (hl : rs.length ≤ 1000) (hd : upd H b (.frz od (.dK kb)) d = none)
    (htt : ∀ {σ' : L2.St} {H' : Hp} {R : Bool → Hp → Prop} {n : Str}, σ'[i]? = some (some (.str n)) → (∀ j z, i ≠ j → σ[j]? = some (some z) → σ'[j]? = some (some z)) → Same (upd H b (.frz od (.dK kb))) H' → R (decide (n ≠ key)) H' → tt σ' H' R)
    (htv : ∀ {σ' : L2.St} {H' : Hp} {R : VK} {n : Str} {u : V}, σ'[i]? = some (some (.str n)) → (∀ j z, i ≠ j → σ[j]? = some (some z) → σ'[j]? = some (some z)) → Same (upd H b (.frz od (.dK kb))) H' → DGet H' b (.str n) (some u) → R u H' → tv σ' H' R)
    (k : ∀ H' ps kvs, Same (upd H b (.frz od (.dK kb))) H' → H' d = some (.lst (ps.map V.ref)) → PA2 K H' ps kvs → Tx enc K H kvs (less rs key) → Qd H') :
    ∃ Wf : Nat → Nat → Hp → Prop, (∃ m, Wf 0 m (upd (upd H b (.frz od (.dK kb))) d (.lst []))) ∧ ∀ n m H, Wf n m H →
      ((Itk b od kb).stop n H ∧ Qd H) ∨ ((Itk b od kb).go n H ∧ ∃ Nx : Hp → Prop, (∀ H', Nx H' → ∃ m', m' < m ∧ Wf (n + 1) m' H') ∧ ∀ x H', (Itk b od kb).yld n H x H' → gName i x (wipe σ [i]) H' fun σ2 H2 => wipe σ2 [i] = wipe σ [i] ∧ tt σ2 H2 fun b H3 =>
        if b = true then tTup (tCons (tVar i) (tCons tv tNil)) σ2 H3 fun y H4 => ∃ acc, H4 d = some (.lst acc) ∧ acc.length < sizeLine ∧ Nx (upd H4 d (.lst (acc ++ [y]))) else Nx H3) := by
  have lb : kb.length = rs.length := Paired.length txb
  refine lc_it (walk_keys (d := b) (o := od) (kvs := kb)) (fun n H' => Same (upd H b (.frz od (.dK kb))) H' ∧ ∃ (ps : List Addr) (kvs : List (Key × V)), H' d = some (.lst (ps.map V.ref)) ∧ PA2 K H' ps kvs ∧ Tx enc K H kvs (less (rs.take n) key)) ⟨same_new hd, [], [], upd_same, .nil, .nil⟩ (fun n H' _ q => q.1 _ _ upd_same) (fun n x H1 H2 hn q y => ?_) (fun H' q => ?_)
  · obtain ⟨rfl, ky, v, hk, rfl⟩ := y
    obtain ⟨s1, ps, kvs, hps, pa, tx⟩ := q
    obtain ⟨p, hp, e, dv⟩ := txb.at hk
    have e : ky = .inr p.1 := e
    subst e
    have si : ((wipe σ [i]).set i (some (V.str p.1)))[i]? = some (some (.str p.1)) := by simp [wipe, hi]
    have so : ∀ j z, i ≠ j → σ[j]? = some (some z) → ((wipe σ [i]).set i (some (V.str p.1)))[j]? = some (some z) := fun j z hj e => by simp [wipe, hj, e]
    have lk := DW.look_of nd (List.mem_of_getElem? hp)
    rcases txb.get p.1 with ⟨l1, _⟩ | ⟨x', u, l1, v1, du⟩
    · rw [lk] at l1; cases l1
    rw [lk] at l1
    obtain rfl : p.2 = x' := Option.some.inj l1
    refine ⟨by simp [gName, wipe], htt si so s1 ?_⟩
    by_cases c : p.1 ≠ key
    · refine ite1 (decide_eq_true c) ⟨_, si, htv si so s1 (.inl ⟨kb, .inr p.1, .inr ⟨od, s1 _ _ upd_same⟩, rfl, v1.symm⟩) ⟨by show 2 ≤ sizeLine; decide, fun t2 nt => ?_⟩⟩
      have s2 := same_new (o := .tup [.str p.1, u]) nt
      have lp : ps.length ≤ 1000 := by
        have q1 : ps.length = kvs.length := Paired.length pa
        have q2 : kvs.length = (less (rs.take n) key).length := Paired.length tx
        have q3 := less_len (rs := rs.take n) (k := key)
        rw [List.length_take] at q3
        omega
      refine ⟨_, s2 _ _ hps, by rw [List.length_map, sizeLine_eq]; omega, same_mut (s1.trans s2) hd, ps ++ [t2], kvs ++ [(.inr p.1, u)], by rw [upd_same, List.map_append]; rfl, ?_, ?_⟩
      · exact PA2.tk (tk_lst (s2 _ _ hps)) ((pa.tk (Sk.of s2).2).snoc (SqT.of upd_same))
      · rw [less_succ hp, if_pos c]
        exact LW.Tx.snoc tx du
    · refine ite0 (decide_eq_false c) ⟨s1, ps, kvs, hps, pa, ?_⟩
      rw [less_succ hp, if_neg c, List.append_nil]
      exact tx
  · obtain ⟨s1, ps, kvs, hps, pa, tx⟩ := q
    rw [lb, List.take_length] at tx
    exact k H' ps kvs s1 hps pa tx
end LW
namespace LW
open PySem PySem.Spec PyProof.Rows L2 DW
/-- dict([.. if word != key]) once the walk is done: the dict that was walked is unlocked -/
theorem less_td {α : Type} {enc : α → PyData} {K : PySem.W.Frag} {b d2 : Addr} {rs : List (Str × α)} {kb kvs : List (Key × V)} {od : Obj} {H H' : Hp} {key : Str} (hb : H b = some (.dK kb)) (nd : (rs.map (·.1)).Nodup)
    (s1 : Same (upd H b (.frz od (.dK kb))) H') (tx : Tx enc K H kvs (less rs key)) (n : H' d2 = none) :
    (upd H' d2 (.dK (mergeK [] kvs))) b = some (.frz od (.dK kb)) ∧ Same H (upd (upd H' d2 (.dK (mergeK [] kvs))) b (.dK kb)) ∧ TD enc K (upd (upd H' d2 (.dK (mergeK [] kvs))) b (.dK kb)) d2 (less rs key) := by
  have s2 := s1.trans (same_new (o := .dK (mergeK [] kvs)) n)
  obtain ⟨z1, s3⟩ := unlock hb s2
  have n2 := none_lock s1 n
  have nl : ((less rs key).map (·.1)).Nodup := (less_sub.map _).nodup nd
  refine ⟨z1, s3, kvs, ?_, tx.wk (Wk.of s3)⟩
  have e := unlock_at (od := od) hb n2 (upd_same (H := H') (a := d2) (o := .dK (mergeK [] kvs)))
  rw [merge_nil (tx_nd tx nl)] at e ⊢
  exact e
end LW
namespace LW
open PySem PySem.Spec PyProof.Rows L2 DW
theorem name_new : nameS ("new" : Str) = true := by decide +kernel
def chgW (w : WkT) : WkT := (w.1, w.2.1, 1, w.2.2.2.1, w.2.2.2.2)
def chgB (b : BdT) : BdT := (b.1, b.2.1, b.2.2 - 1)
theorem OkWk.chg {L : Ls} {w : WkT} (h : OkWk L w) : OkWk L (chgW w) := ⟨h.b, h.e, h.ne, h.be, by show (1 : Int) ≤ 1; omega, by have := h.l; have := h.lm; show (1 : Int) ≤ w.2.2.2.1; omega, h.m, h.k⟩
theorem OkBd.chg {L : Ls} {b : BdT} (h : OkBd L b) (lo : -1 ≤ b.2.2) : OkBd L (chgB b) := ⟨h.f, h.s, h.ne, by
  obtain ⟨m1, m2⟩ := h.m
  exact ⟨by show 1 - 10 ^ 40 ≤ b.2.2 - 1; omega, by show b.2.2 - 1 ≤ 10 ^ 40 - 1; omega⟩⟩
section
variable {D : PlainD}
/-- one last changed: half of it and one -/
theorem OkN.o1 (ok : OkN D) {n : Str} {t : Int} (ht : (n, t) ∈ D.L) : OkN ⟨rep D.L n (t / 2 + 1), D.W, D.B⟩ := by
  have q := ok.l.tick _ ht
  have q1 : 0 ≤ t := q.1
  have q2 : t ≤ 10 ^ 30 := q.2
  exact ⟨ok.l.rep ⟨by omega, by omega⟩, ok.w.mono known_rep, ok.b.mono known_rep⟩
/-- an event more -/
theorem OkN.o2 (ok : OkN D) (sm : SmallN D) (dr : DrawnN D) : OkN ⟨D.L ++ [(("new" : Str), (5 : Int))], D.W, D.B⟩ :=
  ⟨ok.l.add (by have := sm.l; omega) dr.nw name_new ⟨by show (0 : Int) ≤ 5; omega, by show (5 : Int) ≤ 10 ^ 30; omega⟩, ok.w.mono known_add, ok.b.mono known_add⟩
/-- a work less, a work changed -/
theorem OkN.o3 (ok : OkN D) {k : Str} : OkN ⟨D.L, less D.W k, D.B⟩ := ⟨ok.l, ok.w.less, ok.b⟩
theorem OkN.o4 (ok : OkN D) {k : Str} {w : WkT} (h : (k, w) ∈ D.W) : OkN ⟨D.L, rep D.W k (chgW w), D.B⟩ := ⟨ok.l, ok.w.rep h (ok.w.wk _ h).chg rfl rfl rfl, ok.b⟩
/-- a bound less, a bound changed -/
theorem OkN.o5 (ok : OkN D) {k : Str} : OkN ⟨D.L, D.W, less D.B k⟩ := ⟨ok.l, ok.w, ok.b.less⟩
theorem OkN.o6 (ok : OkN D) (dr : DrawnN D) {k : Str} {b : BdT} (h : (k, b) ∈ D.B) : OkN ⟨D.L, D.W, rep D.B k (chgB b)⟩ := ⟨ok.l, ok.w, ok.b.rep ((ok.b.bd _ h).chg (dr.lo _ h))⟩
end
end LW
namespace LW
open PySem PySem.Spec PyProof.Rows L2 DW LamX
theorem u100 {k : Nat} {A : Around} (r : Room k A) : A.units + 100 < cLine := by have := r.un; omega
/-- only these lists change -/
def KL (S : List Addr) (H H' : Hp) : Prop := (∀ b ∈ S, ∃ xs, H b = some (.lst xs)) ∧ ∀ b o, b ∉ S → H b = some o → (∀ ps, o ≠ .tbl ps) → H' b = some o
theorem KL.same {H H' : Hp} (s : Same H H') : KL [] H H' := ⟨fun b m => (by cases m), fun b o _ e _ => s b o e⟩
theorem KL.but {H H' : Hp} {D : Addr} (hD : Dc H D) (b : But D H H') : KL [D] H H' := ⟨fun c m => by
  rw [List.mem_singleton] at m
  subst m
  obtain ⟨x, y, z, e⟩ := hD
  exact ⟨_, e⟩, fun c o n e _ => b c o (fun z => n (List.mem_singleton.mpr z)) e⟩
theorem KL.put {H : Hp} {O : Addr} {xs : List V} {o : HO} (h : H O = some (.lst xs)) : KL [O] H (upd H O o) := ⟨fun c m => by
  rw [List.mem_singleton] at m
  subst m
  exact ⟨_, h⟩, fun c u n e _ => by rw [upd_ne (fun z => n (List.mem_singleton.mpr z))]; exact e⟩
theorem KL.ext {H H' : Hp} (s : ExtN H H') : KL [] H H' := ⟨fun b m => (by cases m), fun b o _ e n => s b o e n⟩
theorem KL.butN {H H' : Hp} {D : Addr} (hD : Dc H D) (b : ButN D H H') : KL [D] H H' := ⟨fun c m => by
  rw [List.mem_singleton] at m
  subst m
  obtain ⟨x, y, z, e⟩ := hD
  exact ⟨_, e⟩, fun c o n e t => b c o (fun z => n (List.mem_singleton.mpr z)) e t⟩
section
variable {S : List Addr} {H H' : Hp} {K : PySem.W.Frag} {α : Type} {enc : α → PyData}
theorem KL.out (k : KL S H H') {b : Addr} {o : HO} (e : H b = some o) (n : ∀ xs, o ≠ .lst xs) : b ∉ S := fun m => by
  obtain ⟨xs, z⟩ := k.1 b m
  rw [e] at z
  cases z
  exact n _ rfl
theorem KL.get (k : KL S H H') {b : Addr} {o : HO} (e : H b = some o) (n : ∀ xs, o ≠ .lst xs) (m : ∀ ps, o ≠ .tbl ps := by intro _ z; cases z) : H' b = some o := k.2 b o (k.out e n) e m
theorem KL.lst (k : KL S H H') {b : Addr} {xs : List V} (n : b ∉ S) (e : H b = some (.lst xs)) : H' b = some (.lst xs) := k.2 _ _ n e fun _ z => nomatch z
theorem KL.tk (k : KL S H H') : Tk H H' := fun c xs h => by
  rcases h with h | ⟨o, h⟩
  · exact .inl (k.get h fun ys z => nomatch z)
  · exact .inr ⟨o, k.get h fun ys z => nomatch z⟩
theorem TD.klS (st : ∀ v x, Dp K H v (enc x) → Dp K H' v (enc x)) (k : KL S H H') {a : Addr} {rs : List (Str × α)} (h : TD enc K H a rs) : TD enc K H' a rs := by
  obtain ⟨kvs, e, t⟩ := h
  exact ⟨kvs, k.get e (fun ys z => nomatch z), pairedMono (fun _ _ z => ⟨z.1, st _ _ z.2⟩) t⟩
theorem TD.kl (g : GE enc) (k : KL S H H') {a : Addr} {rs : List (Str × α)} (h : TD enc K H a rs) : TD enc K H' a rs := TD.klS (fun v x d => g.stay k.tk d) k h
theorem TT.kl (k : KL S H H') {d : Addr} {rows : List RowP} (h : TT K H d rows) : TT K H' d rows := by
  obtain ⟨kt, e, t⟩ := h
  exact ⟨kt, k.get e (fun ys z => nomatch z), t.tk k.tk⟩
theorem NetAt.kl {C x : Addr} {D : PlainD} (k : KL S H H') (h : NetAt K C H x D) : NetAt K C H' x D := by
  obtain ⟨dx, la, wa, ba, ea, ra, h1, h2, h3, h4, h5, h6⟩ := h
  refine ⟨dx, la, wa, ba, ea, ra, k.get h1 (fun ys z => nomatch z), TD.kl ge_in k h2, TD.kl ge_wk k h3, TD.kl ge_bd k h4, TD.klS (fun v x d => ?_) k h5, TT.kl k h6⟩
  change Dp K H v (.str x) at d
  cases d
  exact .str x
theorem PlainAt.kl {pl : Addr} {D : PlainD} (k : KL S H H') (n : pl ∉ S) (h : PlainAt K H pl D) : PlainAt K H' pl D := by
  obtain ⟨a, b, c, h1, h2, h3, h4⟩ := h
  exact ⟨a, b, c, k.lst n h1, TD.kl ge_in k h2, TD.kl ge_wk k h3, TD.kl ge_bd k h4⟩
theorem OtherAt.kl {o pl : Addr} {D N : PlainD} (k : KL S H H') (n : pl ∉ S) (m : o ∉ S) (h : OtherAt K H o pl D N) : OtherAt K H' o pl D N := by
  obtain ⟨a, b, c, a', b', c', h1, h2, h3, h4, h5, h6, h7, h8, r⟩ := h
  exact ⟨a, b, c, a', b', c', k.lst n h1, k.lst m h2, TD.kl ge_in k h3, TD.kl ge_wk k h4, TD.kl ge_bd k h5, TD.kl ge_in k h6, TD.kl ge_wk k h7, TD.kl ge_bd k h8, r⟩
end
theorem knownB_perm {L L' : Ls} (p : L'.Perm L) (z : Str) : knownB L' z = knownB L z := by
  unfold knownB
  congr 1
  by_cases m : z ∈ L.map (·.1)
  · rw [decide_eq_true m, decide_eq_true ((p.map (·.1)).mem_iff.mpr m)]
  · rw [decide_eq_false m, decide_eq_false fun q => m ((p.map (·.1)).mem_iff.mp q)]
/-- a net in another sequence is a net -/
theorem OkN.perm {D D' : PlainD} (pl : D'.L.Perm D.L) (pw : D'.W.Perm D.W) (pb : D'.B.Perm D.B) (ok : OkN D) : OkN D' where
  l := ⟨(pl.map (·.1)).nodup_iff.mpr ok.l.nd, by rw [pl.length_eq]; exact ok.l.len, fun p m => ok.l.name p (pl.mem_iff.mp m), fun p m => ok.l.tick p (pl.mem_iff.mp m)⟩
  w := by
    refine ⟨(pw.map (·.1)).nodup_iff.mpr ok.w.nd, by rw [pw.length_eq]; exact ok.w.len, fun p m => ok.w.name p (pw.mem_iff.mp m), fun p m => ?_, ?_, ?_, fun p m q n => ok.w.look p (pw.mem_iff.mp m) q (pw.mem_iff.mp n)⟩
    · have z := ok.w.wk p (pw.mem_iff.mp m)
      exact ⟨(knownB_perm pl _).trans z.b, (knownB_perm pl _).trans z.e, z.ne, z.be, z.l, z.lm, z.m, z.k⟩
    · exact (pw.map fun p => p.2.2.1).nodup_iff.mpr ok.w.ends
    · obtain ⟨r, hr⟩ := ok.w.rank
      exact ⟨r, fun p m => hr p (pw.mem_iff.mp m)⟩
  b := by
    refine ⟨(pb.map (·.1)).nodup_iff.mpr ok.b.nd, by rw [pb.length_eq]; exact ok.b.len, fun p m => ok.b.name p (pb.mem_iff.mp m), fun p m => ?_⟩
    have z := ok.b.bd p (pb.mem_iff.mp m)
    exact ⟨(knownB_perm pl _).trans z.f, (knownB_perm pl _).trans z.s, z.ne, z.m⟩
theorem sortN_perm {D D' : PlainD} (pl : D'.L.Perm D.L) (pw : D'.W.Perm D.W) (pb : D'.B.Perm D.B) (ok : OkN D) : sortN D' = sortN D := by
  unfold sortN
  rw [srtR_congr pl ((pl.map (·.1)).nodup_iff.mpr ok.l.nd), srtR_congr pw ((pw.map (·.1)).nodup_iff.mpr ok.w.nd), srtR_congr pb ((pb.map (·.1)).nodup_iff.mpr ok.b.nd)]
end LW
namespace LW
open PySem PySem.Spec PyProof.Rows L2 DW
/-- the class Net: made, compared, told -/
structure NetM (P : Program) (w : World) (K : PySem.W.Frag) (mg : Str → Option Value) (base : Heap) (C fI : Addr) (dI : FuncData) : Prop where
  M : Mk K C fI
  G : FnOk P w K mg base CX0 6 fI dI ["self", "lasts", "works", "bounds"] (spNet K C)
  g : mg "Net" = some (.ref C)
  b : Binds K dI ["self", "lasts", "works", "bounds"] []
structure NetQ (P : Program) (w : World) (K : PySem.W.Frag) (mg : Str → Option Value) (base : Heap) (C fE : Addr) (dE : FuncData) : Prop where
  G : FnOk P w K mg base CX0 1 fE dE ["self", "other"] (spEq K C)
  ne : PySem.W.findIn K (.ref C) "__ne__" = some (some (.builtin "object.__ne__"))
  eq : PySem.W.findIn K (.ref C) "__eq__" = some (some (.ref fE))
  fn : PySem.W.isFn K (.ref fE) = true
  b : Binds K dE ["self", "other"] []
  mo : PySem.W.mroIn K C (.type "object") = some true
abbrev rStN : PlainD → V → Hp → Hp → Prop := fun D v _ _ => v = .str (strN D.L.length D.W.length D.B.length)
structure NetS (P : Program) (w : World) (K : PySem.W.Frag) (mg : Str → Option Value) (base : Heap) (C fS : Addr) (dS : FuncData) : Prop where
  G : FnOk P w K mg base CX0 1 fS dS ["self"] (spGet K C rStN)
  s : PySem.W.findIn K (.ref C) "__str__" = some (some (.ref fS))
  fn : PySem.W.isFn K (.ref fS) = true
  b : Binds K dS ["self"] []
abbrev erN : List Str := ["dice", "plain", "net", "mixed", "others", "name", "place", "key", "one", "less", "changed", "some", "other", "same", "word", "value"]
theorem scEr : FnScope erN ["dice", "plain", "net"] (defScope s_law_equal_right) := ⟨rfl, rfl, rfl, by decide +kernel, rfl, by decide +kernel, by decide +kernel⟩
def spEr (K : PySem.W.Frag) (C : Addr) : Sp := fun vs H Q _ => ∃ (D pl x : Addr) (N : PlainD), vs = [.ref D, .ref pl, .ref x] ∧ Dc H D ∧ pl ≠ D ∧ PlainAt K H pl N ∧ NetAt K C H x (sortN N) ∧ OkN N ∧ SmallN N ∧ DrawnN N ∧ ∀ H', But D H H' → Dc H' D → Q (.bl true) H'
end LW
namespace LW
open PySem PySem.Spec PyProof.Rows L2 DW
abbrev tMx (K : PySem.W.Frag) (i : Int) : TE := tCall (spMix K) [] E0 (tCons (tVar 0) (tCons (tOp (rIxL K) (tVar 1) (tC (.int i))) tNil))
abbrev tNetMx (K : PySem.W.Frag) (C : Addr) : TE := tMake C (spNet K C) [] E0 (tCons (tMx K 0) (tCons (tMx K 1) (tCons (tMx K 2) tNil)))
section
variable {K : PySem.W.Frag} {C D pl : Addr} {σ : L2.St} {H : Hp} {N : PlainD} {Q : VK}
/-- Net(_law_mixed(dice, plain[0]), .., ..): the net of the plain one -/
theorem rd_mx (h0 : σ[0]? = some (some (.ref D))) (h1 : σ[1]? = some (some (.ref pl))) (hD : Dc H D) (npl : pl ≠ D) (plain : PlainAt K H pl N) (ok : OkN N)
    (k : ∀ y H', But D H H' → Dc H' D → NetAt K C H' y (sortN N) → H y = none → Q (.ref y) H') : tNetMx K C σ H Q := by
  obtain ⟨a, b, c, hp, ta, tb, tc⟩ := id plain
  have l1 := ok.l.len
  have l2 := ok.w.len
  have l3 := ok.b.len
  refine ⟨_, h0, _, h1, pl, _, 0, _, rfl, rfl, SqL.of hp, atI_nat (j := 0) rfl, D, a, _, inD, N.L, rfl, hD, ge_in, ta, ok.l.nd, by omega, fun v0 H1 L' p0 lot0 b1 hD1 => ?_⟩
  have k1 := KL.but hD b1
  have n1 : pl ∉ [D] := fun z => npl (List.mem_singleton.mp z)
  have hp1 := k1.lst n1 hp
  have tb1 := TD.kl ge_wk k1 tb
  have tc1 := TD.kl ge_bd k1 tc
  refine ⟨_, h0, _, h1, pl, _, 1, _, rfl, rfl, SqL.of hp1, atI_nat (j := 1) rfl, D, b, _, wkD, N.W, rfl, hD1, ge_wk, tb1, ok.w.nd, by omega, fun v1 H2 W' p1 lot1 b2 hD2 => ?_⟩
  have k2 := KL.but hD1 b2
  have hp2 := k2.lst n1 hp1
  have tc2 := TD.kl ge_bd k2 tc1
  refine ⟨_, h0, _, h1, pl, _, 2, _, rfl, rfl, SqL.of hp2, atI_nat (j := 2) rfl, D, c, _, bdD, N.B, rfl, hD2, ge_bd, tc2, ok.b.nd, by omega, fun v2 H3 B' p2 lot2 b3 hD3 => ?_⟩
  intro y dy ny ndy ne
  have k3 := KL.but hD2 b3
  have b123 : But D H H3 := (b1.trans b2).trans b3
  have sN : Same H3 (upd (upd H3 dy (.own y)) y (.ins C dy [])) := fun e o z => by rw [upd_ne (ne_of_none z ny), upd_ne (ne_of_none z ndy)]; exact z
  have lot0' : Lot inD K (upd (upd H3 dy (.own y)) y (.ins C dy [])) v0 L' := (lot_roll ge_in hD2 b3 (lot_roll ge_in hD1 b2 lot0)).same sN
  have lot1' : Lot wkD K (upd (upd H3 dy (.own y)) y (.ins C dy [])) v1 W' := (lot_roll ge_wk hD2 b3 lot1).same sN
  have lot2' := lot2.same sN
  rcases lot0' with ⟨a0, rfl, t0⟩ | ⟨e, _⟩
  · refine ⟨y, dy, a0, v1, v2, ⟨L', W', B'⟩, rfl, upd_same, t0, lot1', lot2', OkN.perm p0 p1 p2 ok, fun H4 b4 net => ⟨rfl, ?_⟩⟩
    rw [sortN_perm (D := N) (D' := ⟨L', W', B'⟩) p0 p1 p2 ok] at net
    obtain ⟨d0, d1, d2, eD⟩ := id hD3
    have yD : D ≠ y := ne_of_none eD ny
    refine k y H4 (fun e o n z => ?_) ⟨d0, d1, d2, b4 _ _ yD (sN _ _ eD)⟩ net (none_but b123 hD3 ny)
    have z3 := b123 e o n z
    exact b4 _ _ (ne_of_none z3 ny) (sN _ _ z3)
  · exact absurd p0.length_eq (by rw [e]; simp only [List.length_nil]; omega)
end
abbrev rDictP (K : PySem.W.Frag) : List V → Hp → VK → Prop := fun xs H Q => ∃ (a : Addr) (ps : List Addr) (kvs : List (Key × V)), xs = [.ref a] ∧ SqL K H a (ps.map V.ref) ∧ Paired (fun (p : Addr) (kv : Key × V) => SqT K H p [kV kv.1, kv.2]) ps kvs ∧
    ∀ p, H p = none → Q (.ref p) (upd H p (.dK (mergeK [] kvs)))
abbrev tPut (K : PySem.W.Frag) (te tk tv : TE) : TE := tCB (rDictP K) (tCons (tOp rCat (LiI.tListItems te) (tLst (tCons (tTup (tCons tk (tCons tv tNil))) tNil))) tNil)
section
variable {K : PySem.W.Frag} {σ : L2.St} {H : Hp} {Q : VK} {α : Type} {enc : α → PyData}
/-- dict(list(d.items()) + [(k, v)]) -/
theorem rd_put {te tk tv : TE} {a : Addr} {k : Str} {x : α} {rs out : List (Str × α)} (hte : ∀ R : VK, R (.ref a) H → te σ H R) (td : TD enc K H a rs) (hl : rs.length ≤ 1000)
    (htk : ∀ (H' : Hp) (R : VK), Same H H' → R (.str k) H' → tk σ H' R) (htv : ∀ (H' : Hp) (R : VK), Same H H' → (∀ u H'', Same H' H'' → Dp K H'' u (enc x) → R u H'') → tv σ H' R)
    (hm : ∀ (H' : Hp) (kvs : List (Key × V)) (u : V), Tx enc K H' kvs rs → Dp K H' u (enc x) → Tx enc K H' (mergeK [] (kvs ++ [(.inr k, u)])) out)
    (kk : ∀ d H', Same H H' → H d = none → TD enc K H' d out → Q (.ref d) H') : tPut K te tk tv σ H Q := by
  obtain ⟨kvs, ea, tx⟩ := id td
  have lk : kvs.length = rs.length := Paired.length tx
  refine hte _ ⟨a, kvs, rfl, ea, fun H1 p ts s1 np nts npt hp1 pts => ?_⟩
  have lt : ts.length = rs.length := by rw [← lk]; exact Paired.length pts
  refine htk H1 _ s1 (htv H1 _ s1 fun u H2 s2 du => ⟨by show 2 ≤ sizeLine; decide, fun t nt => ⟨by show 1 ≤ sizeLine; decide, fun q nq => ?_⟩⟩)
  have s3 := same_new (o := .tup [.str k, u]) nt
  have s4 := same_new (o := .lst [.ref t]) nq
  refine ⟨p, q, ts.map V.ref, [.ref t], rfl, rfl, s4 _ _ (s3 _ _ (s2 _ _ hp1)), upd_same, by rw [List.length_map, lt, sizeLine_eq]; show rs.length + 1 ≤ _; omega, fun r nr => ?_⟩
  have s5 := same_new (o := .lst (ts.map V.ref ++ [.ref t])) nr
  have s25 := s2.trans (s3.trans (s4.trans s5))
  have ht : upd (upd (upd H2 t (.tup [.str k, u])) q (.lst [.ref t])) r (.lst (ts.map V.ref ++ [.ref t])) t = some (.tup [.str k, u]) := s5 _ _ (s4 _ _ upd_same)
  refine ⟨r, ts ++ [t], kvs ++ [(.inr k, u)], rfl, SqL.of (by rw [upd_same, List.map_append]; rfl), ?_, fun d nd => ?_⟩
  · refine paired_snoc (pairedMono (fun t' q' z => SqT.of (s25 _ _ z)) pts) (SqT.of ht)
  · have s6 := same_new (o := .dK (mergeK [] (kvs ++ [(.inr k, u)]))) nd
    have sA : Same H (upd (upd (upd (upd H2 t (.tup [.str k, u])) q (.lst [.ref t])) r (.lst (ts.map V.ref ++ [.ref t]))) d (.dK (mergeK [] (kvs ++ [(.inr k, u)])))) := Same.trans s1 (s25.trans s6)
    refine kk d _ sA (none_of (Same.trans s1 s25) nd) ⟨_, upd_same, ?_⟩
    exact hm _ _ _ (tx.wk (Wk.of sA)) (Dp.same ((s3.trans (s4.trans s5)).trans s6) du)
end
end LW
namespace LW
open PySem PySem.Spec PyProof.Rows L2 DW
theorem call_one {sp : Sp} {E : XK} {te : TE} {σ : L2.St} {H : Hp} {Q : VK} (h : te σ H fun x H1 => sp [x] H1 Q E) : tCall sp [] E (tCons te tNil) σ H Q := h
theorem asg_te {te : TE} {g : TG} {D : Ends} {σ : L2.St} {H : Hp} (h : te σ H fun x H1 => g x σ H1 D.nx) : tAsg te g D σ H := h
/-- what stands while the other nets are put together -/
structure ErJ (K : PySem.W.Frag) (C : Addr) (H0 : Hp) (D pl x y O a b c : Addr) (N : PlainD) (os : List (Addr × PlainD)) (H : Hp) : Prop where
  bt : But D H0 H
  dc : Dc H D
  oD : O ≠ D
  oP : pl ≠ O
  pD : pl ≠ D
  o0 : H0 O = none
  p : H pl = some (.lst [.ref a, .ref b, .ref c])
  ta : TD inD K H a N.L
  tb : TD wkD K H b N.W
  tc : TD bdD K H c N.B
  net : NetAt K C H x (sortN N)
  mix : NetAt K C H y (sortN N)
  o : H O = some (.lst (os.map fun p => V.ref p.1))
  os : ∀ p ∈ os, OtherAt K H p.1 pl N p.2 ∧ OkN p.2 ∧ p.1 ≠ D ∧ p.1 ≠ O
section
variable {K : PySem.W.Frag} {C D pl x y O a b c : Addr} {H0 H H' : Hp} {N : PlainD} {os : List (Addr × PlainD)}
theorem ErJ.same (s : Same H H') (j : ErJ K C H0 D pl x y O a b c N os H) : ErJ K C H0 D pl x y O a b c N os H' :=
  ⟨j.bt.trans (Same.but s), j.dc.same s, j.oD, j.oP, j.pD, j.o0, s _ _ j.p, j.ta.same s, j.tb.same s, j.tc.same s, j.net.same s, j.mix.same s, s _ _ j.o, fun p hp => ⟨(j.os p hp).1.same s, (j.os p hp).2⟩⟩
theorem ErJ.roll (bt : But D H H') (hD : Dc H' D) (j : ErJ K C H0 D pl x y O a b c N os H) : ErJ K C H0 D pl x y O a b c N os H' := by
  have k := KL.but j.dc bt
  have n1 : pl ∉ [D] := fun z => j.pD (List.mem_singleton.mp z)
  have n2 : O ∉ [D] := fun z => j.oD (List.mem_singleton.mp z)
  exact ⟨j.bt.trans bt, hD, j.oD, j.oP, j.pD, j.o0, k.lst n1 j.p, TD.kl ge_in k j.ta, TD.kl ge_wk k j.tb, TD.kl ge_bd k j.tc, NetAt.kl k j.net, NetAt.kl k j.mix, k.lst n2 j.o, fun p hp => ⟨OtherAt.kl k n1 (fun z => (j.os p hp).2.2.1 (List.mem_singleton.mp z)) (j.os p hp).1, (j.os p hp).2⟩⟩
theorem ErJ.app {o : Addr} {M : PlainD} (j : ErJ K C H0 D pl x y O a b c N os H) (ot : OtherAt K H o pl N M) (ok : OkN M) (oD : o ≠ D) (oO : o ≠ O) : ErJ K C H0 D pl x y O a b c N (os ++ [(o, M)]) (upd H O (.lst ((os.map fun p => V.ref p.1) ++ [.ref o]))) := by
  have k := KL.put (o := .lst ((os.map fun p => V.ref p.1) ++ [.ref o])) j.o
  have n1 : pl ∉ [O] := fun z => j.oP (List.mem_singleton.mp z)
  refine ⟨but_mut j.bt j.o0, dc_upd j.dc j.oD, j.oD, j.oP, j.pD, j.o0, k.lst n1 j.p, TD.kl ge_in k j.ta, TD.kl ge_wk k j.tb, TD.kl ge_bd k j.tc, NetAt.kl k j.net, NetAt.kl k j.mix, by rw [upd_same, List.map_append]; rfl, fun p hp => ?_⟩
  rcases List.mem_append.mp hp with hp | hp
  · exact ⟨OtherAt.kl k n1 (fun z => (j.os p hp).2.2.2 (List.mem_singleton.mp z)) (j.os p hp).1, (j.os p hp).2⟩
  · rw [List.mem_singleton.mp hp]
    exact ⟨OtherAt.kl k n1 (fun z => oO (List.mem_singleton.mp z)) ot, ok, oD, oO⟩
theorem ErJ.plain (j : ErJ K C H0 D pl x y O a b c N os H) : PlainAt K H pl N := ⟨a, b, c, j.p, j.ta, j.tb, j.tc⟩
end
section
variable {K : PySem.W.Frag} {σ : L2.St} {H : Hp} {E : Ends} {pl O a b c : Addr} {xs : List V}
/-- others.append([d] + plain[1:]) -/
theorem rd_add1 {te : TE} (h1 : σ[1]? = some (some (.ref pl))) (h4 : σ[4]? = some (some (.ref O))) (hO : H O = some (.lst xs)) (lx : xs.length ≤ 100) (hp : H pl = some (.lst [.ref a, .ref b, .ref c])) {Pd : Addr → Hp → Prop} (hP : ∀ d H1 H2, Same H1 H2 → Pd d H1 → Pd d H2)
    (hte : ∀ R : VK, (∀ d H', Same H H' → Pd d H' → R (.ref d) H') → te σ H R)
    (k : ∀ o d H', Same H H' → H o = none → H' o = some (.lst [.ref d, .ref b, .ref c]) → Pd d H' → E.nx σ (upd H' O (.lst (xs ++ [.ref o])))) :
    tDrop (tBM K "list" rAppend (tVar 4) (tCons (tOp rCat (tLst (tCons te tNil)) (tSl (rSlL K) (tVar 1) (tPart (tC (.int 1))) tNoPart)) tNil)) E σ H := by
  refine ⟨_, h4, .inl ⟨rfl, _, SqL.of hO⟩, hte _ fun d H1 s1 pd => ⟨by show 1 ≤ sizeLine; decide, fun p np => ⟨_, h1, 1, rfl, pl, _, rfl, SqL.of (same_new np _ _ (s1 _ _ hp)), fun q nq => ⟨p, q, [.ref d], [.ref b, .ref c], rfl, rfl, same_new nq _ _ upd_same, upd_same, by show 3 ≤ sizeLine; decide, fun o no => ?_⟩⟩⟩⟩
  have s2 := (same_new (o := .lst [.ref d]) np).trans ((same_new (o := .lst (cutV [.ref a, .ref b, .ref c] (some 1) none)) nq).trans (same_new (o := .lst ([.ref d] ++ [.ref b, .ref c])) no))
  exact ⟨O, xs, .ref o, rfl, rfl, s2 _ _ (s1 _ _ hO), by rw [sizeLine_eq]; omega, k o d _ (s1.trans s2) (none_of (s1.trans ((same_new np).trans (same_new nq))) no) upd_same (hP _ _ _ s2 pd)⟩
/-- others.append(plain[:place] + [some] + plain[place + 1:]) -/
theorem rd_add2 {j : Int} {d : Addr} {l1 l2 : List V} (h1 : σ[1]? = some (some (.ref pl))) (h4 : σ[4]? = some (some (.ref O))) (h6 : σ[6]? = some (some (.int j))) (h11 : σ[11]? = some (some (.ref d))) (hO : H O = some (.lst xs)) (lx : xs.length ≤ 100) (hp : H pl = some (.lst [.ref a, .ref b, .ref c]))
    (e1 : cutV [.ref a, .ref b, .ref c] none (some j) = l1) (e2 : cutV [.ref a, .ref b, .ref c] (some (j + 1)) none = l2) (hl : l1.length + 1 + l2.length ≤ 10)
    (k : ∀ o H', Same H H' → H o = none → H' o = some (.lst ((l1 ++ [.ref d]) ++ l2)) → E.nx σ (upd H' O (.lst (xs ++ [.ref o])))) :
    tDrop (tBM K "list" rAppend (tVar 4) (tCons (tOp rCat (tOp rCat (tSl (rSlL K) (tVar 1) tNoPart (tPart (tVar 6))) (tLst (tCons (tVar 11) tNil))) (tSl (rSlL K) (tVar 1) (tPart (tOp (rI0 fun i j => .int (i + j)) (tVar 6) (tC (.int 1)))) tNoPart)) tNil)) E σ H := by
  subst e1
  subst e2
  refine ⟨_, h4, .inl ⟨rfl, _, SqL.of hO⟩, _, h1, _, h6, j, rfl, pl, _, rfl, SqL.of hp, fun p np => ⟨_, h11, by show 1 ≤ sizeLine; decide, fun q nq => ⟨p, q, _, [.ref d], rfl, rfl, same_new nq _ _ upd_same, upd_same, by rw [sizeLine_eq]; show _ + 1 ≤ _; omega, fun r nr => ?_⟩⟩⟩
  have s1 := (same_new (o := .lst (cutV [.ref a, .ref b, .ref c] none (some j))) np).trans ((same_new (o := .lst [.ref d]) nq).trans (same_new (o := .lst (cutV [.ref a, .ref b, .ref c] none (some j) ++ [.ref d])) nr))
  refine ⟨_, h1, _, h6, j, 1, rfl, rfl, j + 1, rfl, pl, _, rfl, SqL.of (s1 _ _ hp), fun t nt => ⟨r, t, _, _, rfl, rfl, same_new nt _ _ upd_same, upd_same, by rw [sizeLine_eq, List.length_append]; show _ + 1 + _ ≤ _; omega, fun o no => ?_⟩⟩
  have s2 := (same_new (o := .lst (cutV [.ref a, .ref b, .ref c] (some (j + 1)) none)) nt).trans (same_new (o := .lst ((cutV [.ref a, .ref b, .ref c] none (some j) ++ [.ref d]) ++ cutV [.ref a, .ref b, .ref c] (some (j + 1)) none)) no)
  exact ⟨O, xs, .ref o, rfl, rfl, s2 _ _ (s1 _ _ hO), by rw [sizeLine_eq]; omega, k o _ (s1.trans s2) (none_of (s1.trans (same_new nt)) no) upd_same⟩
end
end LW
namespace LW
open PySem PySem.Spec PyProof.Rows L2 DW
abbrev slE (D pl x y O : Addr) (z : Str) (x6 x7 x8 x9 x10 x11 : Option V) : L2.St := [some (.ref D), some (.ref pl), some (.ref x), some (.ref y), some (.ref O), some (.str z), x6, x7, x8, x9, x10, x11, none, none, none, none]
abbrev tPlJ (K : PySem.W.Frag) : TE := tOp (rIxL K) (tVar 1) (tVar 6)
abbrev tLess (K : PySem.W.Frag) : TE := tLockE (tCB (rDictP K) (tCons (tLc (iKeys (tPlJ K)) (gName 14) (tTest (tOp rNe (tVar 14) (tVar 7))) (tTup (tCons (tVar 14) (tCons (tDGet (tPlJ K) (tVar 14)) tNil))) [14]) tNil))
abbrev tChg (K : PySem.W.Frag) : TE := tOp (rCatT K) (tSl (rSlT K) (tVar 8) tNoPart (tPart (tC (V.int 2)))) (tIf (tTest (tOp rEq (tVar 6) (tC (V.int 1))))
  (tTup (tCons (tC (V.int 1)) (tCons (tOp (rIxT K) (tVar 8) (tC (V.int 3))) (tCons (tOp (rIxT K) (tVar 8) (tC (V.int 4))) tNil))))
  (tTup (tCons (tOp (rI0 fun i j => V.int (i - j)) (tOp (rIxT K) (tVar 8) (tC (V.int 2))) (tC (V.int 1))) tNil)))
abbrev tApp2 (K : PySem.W.Frag) : TS := tDrop (tBM K "list" rAppend (tVar 4) (tCons (tOp rCat (tOp rCat (tSl (rSlL K) (tVar 1) tNoPart (tPart (tVar 6))) (tLst (tCons (tVar 11) tNil))) (tSl (rSlL K) (tVar 1) (tPart (tOp (rI0 fun i j => .int (i + j)) (tVar 6) (tC (.int 1)))) tNoPart)) tNil))
abbrev tErB (K : PySem.W.Frag) : TS := tIfS (tTest (tOp (fun x y H Q => rNeT K wkD x y H Q ∨ rNeT K bdD x y H Q) (tPlJ K) tDNewK))
  (C8.tCut (tAsg (tCall (spPick K) [] E0 (tCons (tVar 0) (tCons (tCB (rSrtL K) (tCons (tPlJ K) tNil)) tNil))) (gName 7))
  (C8.tCut (tAsg (tDGet (tPlJ K) (tVar 7)) (gName 8))
  (C8.tCut (tAsg (tLess K) (gName 9))
  (C8.tCut (tAsg (tChg K) (gName 10))
  (tFor (iTup K (tTup (tCons (tVar 9) (tCons (tPut K (tPlJ K) (tVar 7) (tVar 10)) tNil)))) (gName 11) (tApp2 K)))))) tNext
section
variable {K : PySem.W.Frag} {C D pl x y O a b c e : Addr} {H0 H : Hp} {N : PlainD} {os : List (Addr × PlainD)} {E : Ends} {α : Type} {enc : α → PyData}
theorem er_body (ge : GE enc) {j : Int} {rs : List (Str × α)} {mk : List (Str × α) → PlainD} {chg : α → α} {comps : α → List V} {l1 l2 : List V} {z0 : Str} {x7 x8 x9 x10 x11 : Option V}
    (hat : atI [V.ref a, V.ref b, V.ref c] j = some (.ref e)) (hrs : ∀ {os H}, ErJ K C H0 D pl x y O a b c N os H → TD enc K H e rs) (nd : (rs.map (·.1)).Nodup) (hl : rs.length ≤ 400)
    (htest : ∀ {H : Hp} {p : Addr} {la lb : List (Str × α)} {Q : VK}, TR enc K H e la → TR enc K H p lb → Q (.bl (!eqTab enc la lb)) H → (rNeT K wkD (.ref e) (.ref p) H Q ∨ rNeT K bdD (.ref e) (.ref p) H Q))
    (hcm : ∀ {H : Hp} {v : V} {q : α}, Dp K H v (enc q) → ∃ t, v = .ref t ∧ SqT K H t (comps q))
    (hch : ∀ {σ : L2.St} {H : Hp} {Q : VK} {t : Addr} {q : α}, σ[6]? = some (some (.int j)) → σ[8]? = some (some (.ref t)) → SqT K H t (comps q) → (∀ t' H', Same H H' → Dp K H' (.ref t') (enc (chg q)) → Q (.ref t') H') → tChg K σ H Q)
    (e1 : ∀ d : Addr, (cutV [V.ref a, V.ref b, V.ref c] none (some j) ++ [V.ref d]) ++ cutV [V.ref a, V.ref b, V.ref c] (some (j + 1)) none = (l1 ++ [V.ref d]) ++ l2) (hl12 : (cutV [V.ref a, V.ref b, V.ref c] none (some j)).length + 1 + (cutV [V.ref a, V.ref b, V.ref c] (some (j + 1)) none).length ≤ 10)
    (hmk : ∀ {os H o d rs'}, ErJ K C H0 D pl x y O a b c N os H → H o = some (.lst ((l1 ++ [V.ref d]) ++ l2)) → TD enc K H d rs' → d ≠ e → OtherAt K H o pl N (mk rs'))
    (okl : ∀ k, OkN (mk (less rs k))) (okr : ∀ k q, (k, q) ∈ rs → OkN (mk (rep rs k (chg q)))) (lo : os.length ≤ 50)
    (h : ErJ K C H0 D pl x y O a b c N os H) (kk : ∀ os' x7 x8 x9 x10 x11 H', ErJ K C H0 D pl x y O a b c N os' H' → os'.length ≤ os.length + 2 → Tp H H' → E.nx (slE D pl x y O z0 (some (.int j)) x7 x8 x9 x10 x11) H') :
    tErB K E (slE D pl x y O z0 (some (.int j)) x7 x8 x9 x10 x11) H := by
  refine ⟨_, rfl, _, rfl, pl, _, j, _, rfl, rfl, SqL.of h.p, hat, fun p np => htest (TR.wk (Wk.of (same_new np)) (hrs h).tr) (TD.tr (TD.nil upd_same)) ⟨_, rfl, ?_⟩⟩
  have sp := same_new (o := .dK []) np
  cases e0 : eqTab enc rs [] with
  | true => exact ite0 rfl (kk os _ _ _ _ _ _ (h.same sp) (by omega) (Tp.of sp))
  | false =>
  refine ite1 rfl ?_
  have h := h.same sp
  have tp0 : Tp H (upd H p (.dK [])) := Tp.of sp
  have rpos : 0 < rs.length := by
    cases rs with
    | nil => exact absurd e0 (by unfold eqTab eqX; simp)
    | cons q r => simp
  generalize hH : upd H p (.dK []) = G at h tp0
  clear np sp hH
  -- the key
  refine ⟨fun σ' H' => ∃ z q, σ' = slE D pl x y O z0 (some (.int j)) (some (.str z)) x8 x9 x10 x11 ∧ (z, q) ∈ rs ∧ ErJ K C H0 D pl x y O a b c N os H' ∧ Tp H H', ?_, ?_⟩
  · refine ⟨_, rfl, _, rfl, _, rfl, pl, _, j, _, rfl, rfl, SqL.of h.p, hat, .ref e, rs.map (·.1), rfl, Lot.names (.inl ⟨e, rfl, hrs h⟩), by rw [List.length_map]; omega, fun p np => ⟨D, .ref p, rfl, h.dc.same (same_new np), .inl ⟨p, _, rfl, new_ne h.dc np, upd_same, by rw [List.length_map, srt_len, List.length_map]; exact rpos, by rw [List.length_map, srt_len, List.length_map]; omega, fun u H' hu bu hd => ?_⟩⟩⟩
    obtain ⟨z, hz, rfl⟩ := List.mem_map.mp hu
    obtain ⟨q, hq, rfl⟩ := List.mem_map.mp (srt_mem.mp hz)
    have h1 := h.same (same_new (o := .lst ((srt (rs.map (·.1))).map V.str)) np)
    exact ⟨q.1, q.2, rfl, hq, h1.roll bu hd, tp0.trans ((Tp.of (same_new np)).trans (Tp.but h1.dc bu))⟩
  rintro _ H1 ⟨z, q, rfl, hq, h1, tp1⟩
  have lk := DW.look_of nd hq
  -- one
  refine ⟨fun σ' H' => ∃ t, σ' = slE D pl x y O z0 (some (.int j)) (some (.str z)) (some (.ref t)) x9 x10 x11 ∧ ErJ K C H0 D pl x y O a b c N os H' ∧ Tp H H' ∧ SqT K H' t (comps q), ?_, ?_⟩
  · obtain ⟨u, g, du⟩ := (hrs h1).tr.get lk
    obtain ⟨t, rfl, ht⟩ := hcm du
    exact ⟨_, rfl, _, rfl, pl, _, j, _, rfl, rfl, SqL.of h1.p, hat, _, rfl, e, _, rfl, g, t, rfl, h1, tp1, ht⟩
  clear h1 tp1
  rintro _ H2 ⟨t, rfl, h2, tp2, ht2⟩
  -- less
  refine ⟨fun σ' H' => ∃ d, σ' = slE D pl x y O z0 (some (.int j)) (some (.str z)) (some (.ref t)) (some (.ref d)) x10 x11 ∧ ErJ K C H0 D pl x y O a b c N os H' ∧ Tp H H' ∧ SqT K H' t (comps q) ∧ TD enc K H' d (less rs z) ∧ d ≠ e, ?_, ?_⟩
  · obtain ⟨kb, hb, txb⟩ := hrs h2
    have ple : pl ≠ e := ne_of h2.p hb (fun z => nomatch z)
    refine ⟨e, _, hb, mut_dK, fun od => ⟨_, rfl, _, rfl, pl, _, j, _, rfl, rfl, SqL.of (by rw [upd_ne ple]; exact h2.p), hat, e, od, rfl, .inl ⟨kb, upd_same, fun d nd' => ?_⟩⟩⟩
    refine less_it (K := K) (key := z) (i := 14) (by show 14 < 16; decide) hb txb nd (by omega) nd' (fun {σ' H' R n} h14 hs s1 r => ?_) (fun {σ' H' R n u} h14 hs s1 g r => ?_) (fun H' ps kvs s1 hps pa tx => ?_)
    · refine ⟨_, h14, _, hs 7 _ (by decide) rfl, rfl, _, rfl, ?_⟩
      rw [dec_strV]
      have : (!decide (n = z)) = decide (n ≠ z) := by simp
      rw [this]
      exact r
    · exact ⟨_, hs 1 _ (by decide) rfl, _, hs 6 _ (by decide) rfl, pl, _, j, _, rfl, rfl, SqL.of (s1 _ _ (by rw [upd_ne ple]; exact h2.p)), hat, _, h14, e, u, rfl, g, r⟩
    · refine ⟨d, ps, kvs, rfl, SqL.of hps, pa, fun d2 nd2 => ?_⟩
      obtain ⟨z1, s3, tl⟩ := less_td hb nd s1 tx nd2
      exact ⟨z1, d2, rfl, h2.same s3, tp2.trans (Tp.of s3), sqT_same s3 ht2, tl, (ne_of_none hb (none_lock s1 nd2)).symm⟩
  clear h2 tp2 ht2
  rintro _ H3 ⟨d, rfl, h3, tp3, ht3, td3, de⟩
  -- changed
  refine ⟨fun σ' H' => ∃ t', σ' = slE D pl x y O z0 (some (.int j)) (some (.str z)) (some (.ref t)) (some (.ref d)) (some (.ref t')) x11 ∧ ErJ K C H0 D pl x y O a b c N os H' ∧ Tp H H' ∧ Dp K H' (.ref t') (enc (chg q)) ∧ TD enc K H' d (less rs z), ?_, ?_⟩
  · exact hch (σ := slE D pl x y O z0 (some (.int j)) (some (.str z)) (some (.ref t)) (some (.ref d)) x10 x11) rfl rfl ht3 fun t' H' s1 dt => ⟨t', rfl, h3.same s1, tp3.trans (Tp.of s1), dt, td3.same s1⟩
  clear h3 tp3 ht3 td3
  rintro _ H4 ⟨t', rfl, h4, tp4, dt4, td4⟩
  -- the two
  refine ⟨_, rfl, rd_put (K := K) (enc := enc) (a := e) (k := z) (x := chg q) (rs := rs) (out := rep rs z (chg q)) (fun R r => ⟨_, rfl, _, rfl, pl, _, j, _, rfl, rfl, SqL.of h4.p, hat, r⟩) (hrs h4) (by omega) (fun H' R s1 r => ⟨_, rfl, r⟩) (fun H' R s1 r => ⟨_, rfl, r _ _ (Same.refl _) (Dp.same s1 dt4)⟩) (fun H' kvs u tx du => merge_rep tx nd (List.mem_map.mpr ⟨_, hq, rfl⟩) du) fun d3 H5 s5 nd3 td3 => ⟨by show 2 ≤ sizeLine; decide, fun T nT => ?_⟩⟩
  have d3e : d3 ≠ e := by
    obtain ⟨kb, hb, _⟩ := hrs h4
    exact (ne_of_none hb nd3).symm
  have sT := same_new (o := .tup [.ref d, .ref d3]) nT
  have s6 := s5.trans sT
  have h6 := h4.same s6
  have td6 := td4.same s6
  have tr6 := td3.same sT
  refine ⟨T, rfl, ⟨_, SqT.of upd_same⟩, ?_⟩
  refine for_tup (K := K) (xs := [.ref d, .ref d3]) (fun i σ H' => ∃ (x11 : Option V) (os' : List (Addr × PlainD)), σ = slE D pl x y O z0 (some (.int j)) (some (.str z)) (some (.ref t)) (some (.ref d)) (some (.ref t')) x11 ∧ ErJ K C H0 D pl x y O a b c N os' H' ∧ os'.length ≤ os.length + i ∧ Tp H H' ∧ H' T = some (.tup [.ref d, .ref d3]) ∧ TD enc K H' d (less rs z) ∧ TD enc K H' d3 (rep rs z (chg q)))
    ⟨_, os, rfl, h6, by omega, tp4.trans (Tp.of s6), upd_same, td6, tr6⟩ (fun i σ H' _ q => by obtain ⟨_, _, _, _, _, _, h, _⟩ := q; exact SqT.of h) (fun i v σ H' hi q => ?_) (fun σ H' q => ?_)
  · obtain ⟨x11, os', rfl, h7, l7, tp7, hT7, t7, r7⟩ := q
    have i2 : i < 2 := (List.getElem?_eq_some_iff.mp hi).1
    have hv : ∃ dd rs', v = .ref dd ∧ TD enc K H' dd rs' ∧ dd ≠ e ∧ OkN (mk rs') := by
      match i, hi with
      | 0, hi => cases hi; exact ⟨d, _, rfl, t7, de, okl z⟩
      | 1, hi => cases hi; exact ⟨d3, _, rfl, r7, d3e, okr z q hq⟩
    obtain ⟨dd, rs', rfl, tdd, dde, okm⟩ := hv
    refine rd_add2 (K := K) (pl := pl) (O := O) (a := a) (b := b) (c := c) (j := j) (d := dd) rfl rfl rfl rfl h7.o (by rw [List.length_map]; omega) h7.p rfl rfl hl12 fun o H8 s8 no ho => ?_
    rw [e1] at ho
    have h8 := h7.same s8
    have oO : o ≠ O := (ne_of_none h7.o no).symm
    have oD : o ≠ D := by
      obtain ⟨d0, d1, d2, eD⟩ := h7.dc
      exact (ne_of_none eD no).symm
    have ot := hmk h8 ho (tdd.same s8) dde
    have h9 := h8.app ot okm oD oO
    have tpO : Tp H8 (upd H8 O (.lst ((os'.map fun p => V.ref p.1) ++ [.ref o]))) := Tp.lst h8.o
    have kl := KL.put (o := .lst ((os'.map fun p => V.ref p.1) ++ [.ref o])) h8.o
    exact ⟨_, _, rfl, h9, by rw [List.length_append]; show os'.length + 1 ≤ _; omega, (tp7.trans (Tp.of s8)).trans tpO, tpO _ _ (s8 _ _ hT7), TD.kl ge kl (t7.same s8), TD.kl ge kl (r7.same s8)⟩
  · obtain ⟨x11, os', rfl, h7, l7, tp7, _, _, _⟩ := q
    exact kk os' _ _ _ _ _ _ h7 l7 tp7
end
end LW
namespace LW
open PySem PySem.Spec PyProof.Rows L2 DW
section
variable {P : Program} {w : World} {K : PySem.W.Frag} {mg : Str → Option Value} {base : Heap}
theorem ok_er {f fP fM fS fI fE fT C : Addr} {fd dP dM dS dI dE dT : FuncData} (F : Fun K "_law_equal_right" "_law_equal_right" s_law_equal_right f fd) (CP : Cal P w K mg base 2 "_law_pick" ["dice", "items"] (spPick K) fP dP) (CM : Cal P w K mg base 3 "_law_mixed" ["dice", "some"] (spMix K) fM dM)
    (CS : Cal P w K mg base 1 "_law_sorted" ["some"] (spSor K) fS dS) (MK : NetM P w K mg base C fI dI) (EQ : NetQ P w K mg base C fE dE) (ST : NetS P w K mg base C fT dT)
    (zD : mg "dict" = none) (zL : mg "list" = none) (zS : mg "sorted" = none) (zT : mg "str" = none) (KN : ∀ t ∈ (["NoneType", "int", "tuple", "dict", "list", "str"] : List String), PySem.W.kitOne K (.type t) (.ref C) = some false) : FnOk P w K mg base CX0 8 f fd ["dice", "plain", "net"] (spEr K C) := by
  refine F.ok scEr (fun vs H Q E h => ?_) (fun cdv A outer s H vs Q E hr h => ?_)
  · obtain ⟨D, pl, x, N, rfl, _⟩ := h
    rfl
  obtain ⟨D, pl, x, N, rfl, hD, npl, plain, net, ok, sm, dr, k⟩ := h
  have hr7 : Room 7 (A.deeper (envOfC "_law_equal_right" (defScope s_law_equal_right) s.heap.objs.size f cdv)) := hr
  refine ⟨_, C8.pss_cut (ps_set (i := 3) scEr.nd rfl (Or.inl rfl) (pe_make (E := E0) (dvs := []) MK.M MK.G (hr7.mono (by decide)) rfl MK.g MK.b .nil pass0 (pa_cons (pe_cal (E := E0) CM hr rfl (pa_cons (pv 0) (pa_cons (pe_ix (r := rIxL K) ix_list (pv 1) pe_int (fun _ _ => rfl)) pa_nil)))
        (pa_cons (pe_cal (E := E0) CM hr rfl (pa_cons (pv 0) (pa_cons (pe_ix (r := rIxL K) ix_list (pv 1) pe_int (fun _ _ => rfl)) pa_nil))) (pa_cons (pe_cal (E := E0) CM hr rfl (pa_cons (pv 0) (pa_cons (pe_ix (r := rIxL K) ix_list (pv 1) pe_int (fun _ _ => rfl)) pa_nil))) pa_nil)))))
    (C8.pss_cut (ps_par (i := 4) (j := 5) rfl scEr.nd rfl rfl (by decide) rfl rfl (pa_cons (pe_lst pa_nil) (pa_cons (pe_cal (E := E0) CP hr rfl (pa_cons (pv 0) (pa_cons (pe_callB (cr_srtL rfl hr.units) (by rfl) zS (by decide +kernel) (pa_cons (pe_ix (r := rIxL K) ix_list (pv 1) pe_int (fun _ _ => rfl)) pa_nil)) pa_nil))) pa_nil)) (by rfl))
    (C8.pss_cut (ps_expr (pe_bm PySem.F.plainAttrs_list PySem.F.slot_list_append PySem.F.type_list_append mt_append (pv 4) (pa_cons (pe_op op_cat (pe_lst (pa_cons (pe_cal (E := E0) CS hr rfl (pa_cons (pe_callTy (call_dictP rfl) (by rfl) zD (by decide +kernel) (pa_cons (pe_op op_cat (LiI.pe_listItems rfl (pe_ix (r := rIxL K) ix_list (pv 1) pe_int (fun _ _ => rfl)) rfl zL (by decide +kernel))
        (pe_lst (pa_cons (pe_tup (pa_cons (pv 5) (pa_cons (pe_op op_add (pe_op op_fdiv (pe_dget (hu_of hr) (pe_ix (r := rIxL K) ix_list (pv 1) pe_int (fun _ _ => rfl)) (pv 5) (fun _ _ => rfl)) pe_int) pe_int) pa_nil))) pa_nil))) pa_nil)) pa_nil)) pa_nil)) (pe_slice sl_list (pv 1) (po_some pe_int) po_none)) pa_nil)))
    (C8.pss_cut (ps_expr (pe_bm PySem.F.plainAttrs_list PySem.F.slot_list_append PySem.F.type_list_append mt_append (pv 4) (pa_cons (pe_op op_cat (pe_lst (pa_cons (pe_callTy (call_dictP rfl) (by rfl) zD (by decide +kernel) (pa_cons (pe_op op_cat (LiI.pe_listItems rfl (pe_ix (r := rIxL K) ix_list (pv 1) pe_int (fun _ _ => rfl)) rfl zL (by decide +kernel))
        (pe_lst (pa_cons (pe_tup (pa_cons pe_str (pa_cons pe_int pa_nil))) pa_nil))) pa_nil)) pa_nil)) (pe_slice sl_list (pv 1) (po_some pe_int) po_none)) pa_nil)))
    (C8.pss_cut (ps_for PassesOwn.never rfl (pi_tup (pe_tup (pa_cons pe_int (pa_cons pe_int pa_nil)))) (pg_name (i := 6) scEr.nd rfl (.inr rfl))
      (pss_one (ps_if (pt_cmpR (OpR.or (op_neT alk_wk (u70 hr)) (op_neT alk_bd (u70 hr))) (pe_ix (r := rIxL K) ix_list (pv 1) (pv 6) (fun _ _ => rfl)) pe_dnewK (nomark _))
        (C8.pss_cut (ps_set (i := 7) scEr.nd rfl (Or.inr rfl) (pe_cal (E := E0) CP hr rfl (pa_cons (pv 0) (pa_cons (pe_callB (cr_srtL rfl hr.units) (by rfl) zS (by decide +kernel) (pa_cons (pe_ix (r := rIxL K) ix_list (pv 1) (pv 6) (fun _ _ => rfl)) pa_nil)) pa_nil))))
        (C8.pss_cut (ps_set (i := 8) scEr.nd rfl (Or.inl rfl) (pe_dget (hu_of hr) (pe_ix (r := rIxL K) ix_list (pv 1) (pv 6) (fun _ _ => rfl)) (pv 7) (fun _ _ => rfl)))
        (C8.pss_cut (ps_set (i := 9) scEr.nd rfl (Or.inl rfl) (pe_lock (pe_callTy (call_dictP rfl) (by rfl) zD (by decide +kernel) (pa_cons (pe_lc (own := [("word", 14)]) (g := gName 14) (tt := tTest (tOp rNe (tVar 14) (tVar 7))) (te := tTup (tCons (tVar 14) (tCons (tDGet (tOp (rIxL K) (tVar 1) (tVar 6)) (tVar 14)) tNil))) rfl scEr.nd (pi_keys (pe_ix (r := rIxL K) ix_list (pv 1) (pv 6) (fun _ _ => rfl))) (blkOk_by (own := [("word", 14)]) (N := erN) (sc := defScope s_law_equal_right) (by decide +kernel))
            (fun _ _ _ _ _ => pg_name (i := 14) scEr.nd rfl (Or.inl rfl)) (fun _ _ _ _ _ => pts_one (pt_cmpR op_ne (pv 14) (pv 7) (nomark _))) (fun _ _ _ _ _ => pe_tup (pa_cons (pv 14) (pa_cons (pe_dget (hu_of hr) (pe_ix (r := rIxL K) ix_list (pv 1) (pv 6) (fun _ _ => rfl)) (pv 14) (fun _ _ => rfl)) pa_nil)))) pa_nil))))
        (C8.pss_cut (ps_set (i := 10) scEr.nd rfl (Or.inl rfl) (pe_op (r := rCatT K) op_catT (pe_slice sl_tup (pv 8) po_none (po_some pe_int)) (pe_ifExp (pt_cmpR op_eq (pv 6) pe_int (nomark _)) (pe_tup (pa_cons pe_int (pa_cons (pe_ix (r := rIxT K) ix_tup (pv 8) pe_int (fun _ _ => rfl)) (pa_cons (pe_ix (r := rIxT K) ix_tup (pv 8) pe_int (fun _ _ => rfl)) pa_nil)))) (pe_tup (pa_cons (pe_op op_sub (pe_ix (r := rIxT K) ix_tup (pv 8) pe_int (fun _ _ => rfl)) pe_int) pa_nil)))))
        (pss_one (ps_for PassesOwn.never rfl (pi_tup (pe_tup (pa_cons (pv 9) (pa_cons (pe_callTy (call_dictP rfl) (by rfl) zD (by decide +kernel) (pa_cons (pe_op op_cat (LiI.pe_listItems rfl (pe_ix (r := rIxL K) ix_list (pv 1) (pv 6) (fun _ _ => rfl)) rfl zL (by decide +kernel))
              (pe_lst (pa_cons (pe_tup (pa_cons (pv 7) (pa_cons (pv 10) pa_nil))) pa_nil))) pa_nil)) pa_nil)))) (pg_name (i := 11) scEr.nd rfl (.inl rfl))
          (pss_one (ps_expr (pe_bm PySem.F.plainAttrs_list PySem.F.slot_list_append PySem.F.type_list_append mt_append (pv 4) (pa_cons (pe_op op_cat (pe_op op_cat (pe_slice sl_list (pv 1) po_none (po_some (pv 6))) (pe_lst (pa_cons (pv 11) pa_nil))) (pe_slice sl_list (pv 1) (po_some (pe_op op_add (pv 6) pe_int)) po_none)) pa_nil))))))))))
        pss_nil)))
    (C8.pss_cut (ps_if (PW.pt (pw_or (pt_not (pt_cmpR (op_eqNet EQ.G (hr7.mono (by decide)) EQ.eq EQ.fn EQ.b) (pv 2) (pv 3) (nomark _))) (pw_or (pt_cmpR (op_neNet EQ.G (hr7.mono (by decide)) EQ.ne EQ.eq EQ.fn EQ.b EQ.mo) (pv 2) (pv 3) (nomark _))
        (pw_or1 (pt_cmpR op_ne (pe_callTy (call_strI ST.G ST.b (hr7.mono (by decide)) ST.s ST.fn) (by rfl) zT (by decide +kernel) (pa_cons (pv 2) pa_nil)) (pe_callTy (call_strI ST.G ST.b (hr7.mono (by decide)) ST.s ST.fn) (by rfl) zT (by decide +kernel) (pa_cons (pv 3) pa_nil)) (nomark _)))))) (pss_one (ps_ret pe_bl)) pss_nil)
    (C8.pss_cut (ps_for PassesOwn.never rfl (pi_list (pv 4)) (pg_name (i := 12) scEr.nd rfl (.inl rfl))
      (pss_cons (ps_set (i := 13) scEr.nd rfl (Or.inl rfl) (pe_make (E := E0) (dvs := []) MK.M MK.G (hr7.mono (by decide)) rfl MK.g MK.b .nil pass0 (pa_cons (pe_ix (r := rIxL K) ix_list (pv 12) pe_int (fun _ _ => rfl)) (pa_cons (pe_ix (r := rIxL K) ix_list (pv 12) pe_int (fun _ _ => rfl)) (pa_cons (pe_ix (r := rIxL K) ix_list (pv 12) pe_int (fun _ _ => rfl)) pa_nil)))))
      (pss_one (ps_if (PW.pt (pw_or (pt_cmpR op_ne (pe_cmpR (op_eqNet EQ.G (hr7.mono (by decide)) EQ.eq EQ.fn EQ.b) (pv 2) (pv 13) (nomark _)) (pe_cmpR (op_eqPl (u100 hr)) (pv 12) (pv 1) (nomark _)) (nomark _))
          (pw_or1 (pt_cmpR op_ne (pe_cmpR (op_neNet EQ.G (hr7.mono (by decide)) EQ.ne EQ.eq EQ.fn EQ.b EQ.mo) (pv 2) (pv 13) (nomark _)) (pe_cmpR (op_nePl (u100 hr)) (pv 12) (pv 1) (nomark _)) (nomark _))))) (pss_one (ps_ret pe_bl)) pss_nil))))
    (pss_one (ps_ret (pe_cmpR (op_eqD hr.units) (pe_lc (own := [("value", 15)]) (g := gName 15) (tt := tOr (tTest (tOp (rEqNet K C id) (tVar 2) (tVar 15))) (tNot (tTest (tOp (rEqNet K C not) (tVar 2) (tVar 15))))) (te := tC (.int 1)) rfl scEr.nd (pi_tup (pe_tup (pa_cons pe_non (pa_cons pe_int (pa_cons (pe_tup pa_nil) (pa_cons pe_dnewK (pa_cons (pv 1) (pa_cons (pe_ix (r := rIxL K) ix_list (pv 1) pe_int (fun _ _ => rfl)) (pa_cons pe_str pa_nil))))))))) (blkOk_by (own := [("value", 15)]) (N := erN) (sc := defScope s_law_equal_right) (by decide +kernel))
        (fun _ _ _ _ _ => pg_name (i := 15) scEr.nd rfl (Or.inl rfl)) (fun _ _ _ _ _ => pts_one (PW.pt (pw_or (pt_cmpR (op_eqNet EQ.G (hr7.mono (by decide)) EQ.eq EQ.fn EQ.b) (pv 2) (pv 15) (nomark _)) (pw_or1 (pt_not (pt_cmpR (op_neNet EQ.G (hr7.mono (by decide)) EQ.ne EQ.eq EQ.fn EQ.b EQ.mo) (pv 2) (pv 15) (nomark _))))))) (fun _ _ _ _ _ => pe_int)) (pe_lst pa_nil) (nomark _)))))))))), ?_⟩
  obtain ⟨a, b, c, hp, ta, tb, tc⟩ := id plain
  -- mixed
  refine ⟨fun σ' H' => ∃ y, σ' = [some (.ref D), some (.ref pl), some (.ref x), some (.ref y), none, none, none, none, none, none, none, none, none, none, none, none] ∧ But D H H' ∧ Dc H' D ∧ NetAt K C H' y (sortN N), ?_, ?_⟩
  · refine asg_te ?_
    exact rd_mx (K := K) (C := C) (N := N) rfl rfl hD npl plain ok fun y H' bt hd net' ny => ⟨y, rfl, bt, hd, net'⟩
  rintro _ H1 ⟨y, rfl, b1, hD1, mix1⟩
  have kl1 := KL.but hD b1
  have n1 : pl ∉ [D] := fun z => npl (List.mem_singleton.mp z)
  have hp1 := kl1.lst n1 hp
  have ta1 := TD.kl ge_in kl1 ta
  have tb1 := TD.kl ge_wk kl1 tb
  have tc1 := TD.kl ge_bd kl1 tc
  have net1 := NetAt.kl kl1 net
  have l1 := ok.l.len
  have l2 := ok.w.len
  have l3 := ok.b.len
  -- others, name
  refine ⟨fun σ' H' => ∃ (O : Addr) (z : Str) (t : Int), σ' = slE D pl x y O z none none none none none none ∧ (z, t) ∈ N.L ∧ ErJ K C H D pl x y O a b c N [] H', ?_, ?_⟩
  · refine ⟨by show 0 ≤ sizeLine; decide, fun O nO => ⟨_, rfl, _, rfl, pl, _, 0, _, rfl, rfl, SqL.of (same_new nO _ _ hp1), atI_nat (j := 0) rfl, .ref a, _, rfl, Lot.names (.inl ⟨a, rfl, ta1.same (same_new (o := .lst []) nO)⟩), by rw [List.length_map]; omega, fun p np => ?_⟩⟩
    have sO := same_new (o := .lst []) nO
    have sp := same_new (o := .lst ((srt (N.L.map (·.1))).map V.str)) np
    have hDp := (hD1.same sO).same sp
    refine ⟨D, .ref p, rfl, hDp, .inl ⟨p, _, rfl, new_ne (hD1.same sO) np, upd_same, by rw [List.length_map, srt_len, List.length_map]; omega, by rw [List.length_map, srt_len, List.length_map]; omega, fun u H' hu bu hd => ?_⟩⟩
    obtain ⟨z, hz, rfl⟩ := List.mem_map.mp hu
    obtain ⟨q, hq, rfl⟩ := List.mem_map.mp (srt_mem.mp hz)
    have s2 := sO.trans sp
    have oD : O ≠ D := by
      obtain ⟨d0, d1, d2, eD⟩ := hD1
      exact (ne_of_none eD nO).symm
    have j0 : ErJ K C H D pl x y O a b c N [] (upd (upd H1 O (.lst [])) p (.lst ((srt (N.L.map (·.1))).map V.str))) :=
      ⟨b1.trans (Same.but s2), hDp, oD, ne_of_none hp1 nO, npl, none_but b1 hD1 nO, s2 _ _ hp1, ta1.same s2, tb1.same s2, tc1.same s2, net1.same s2, mix1.same s2, sp _ _ upd_same, fun q hq => (by cases hq)⟩
    exact ⟨_, _, rfl, O, q.1, q.2, rfl, hq, j0.roll bu hd⟩
  clear hp1 ta1 tb1 tc1 net1 mix1 kl1 b1 hD1
  rintro _ H2 ⟨O, z, t, rfl, hz, j2⟩
  have lk := DW.look_of ok.l.nd hz
  have tk := ok.l.tick _ hz
  have a_ne : ∀ {G : Hp} {os : List (Addr × PlainD)} {d : Addr}, ErJ K C H D pl x y O a b c N os G → G d = none → d ≠ a := fun j n => by
    obtain ⟨kv, e, _⟩ := j.ta
    exact (ne_of_none e n).symm
  -- one last changed
  refine ⟨fun σ' H' => ∃ os, σ' = slE D pl x y O z none none none none none none ∧ os.length ≤ 1 ∧ ErJ K C H D pl x y O a b c N os H', ?_, ?_⟩
  · refine rd_add1 (K := K) (pl := pl) (O := O) (a := a) (b := b) (c := c) (xs := []) rfl rfl j2.o (Nat.zero_le _) j2.p (Pd := fun d H' => TD inD K H' d (srtR (rep N.L z (t / 2 + 1))) ∧ d ≠ a) (fun d H1 H2 s q => ⟨q.1.same s, q.2⟩) (fun R r => ?_) fun o d H' s1 no ho q => ?_
    · refine call_one ?_
      refine rd_put (K := K) (enc := inD) (a := a) (k := z) (x := t / 2 + 1) (rs := N.L) (out := rep N.L z (t / 2 + 1)) (fun R r => ⟨_, rfl, pl, _, 0, _, rfl, rfl, SqL.of j2.p, atI_nat (j := 0) rfl, r⟩) j2.ta (by omega) (fun H' R s1 r => ⟨_, rfl, r⟩) (fun H' R s1 r => ?_) (fun H' kvs u tx du => merge_rep tx ok.l.nd (List.mem_map.mpr ⟨_, hz, rfl⟩) du) fun d1 H' s1 nd1 td1 => ?_
      · obtain ⟨u, g, du⟩ := (j2.ta.same s1).tr.get lk
        cases in_at du
        exact ⟨_, rfl, pl, _, 0, _, rfl, rfl, SqL.of (s1 _ _ j2.p), atI_nat (j := 0) rfl, _, rfl, a, _, rfl, g, t, 2, rfl, rfl, ⟨by decide, by decide⟩, _, 1, rfl, rfl, r _ _ (Same.refl _) (show Dp K H' (.int (t / 2 + 1)) (.int (t / 2 + 1)) from .int _)⟩
      · refine ⟨d1, _, inD, rep N.L z (t / 2 + 1), rfl, td1, by rw [rep_names]; exact ok.l.nd, by rw [rep_len]; omega, fun d H2 s2 nd2 td2 => r d H2 (Same.trans s1 s2) ⟨td2, a_ne j2 (none_of s1 nd2)⟩⟩
    · have j3 := j2.same s1
      have oO : o ≠ O := (ne_of_none j2.o no).symm
      have oD : o ≠ D := by
        obtain ⟨d0, d1, d2, eD⟩ := j2.dc
        exact (ne_of_none eD no).symm
      have ot : OtherAt K H' o pl N ⟨srtR (rep N.L z (t / 2 + 1)), N.W, N.B⟩ := ⟨a, b, c, d, b, c, j3.p, ho, j3.ta, j3.tb, j3.tc, q.1, j3.tb, j3.tc, fun e => absurd e q.2, fun _ => rfl, fun _ => rfl⟩
      have okm : OkN ⟨srtR (rep N.L z (t / 2 + 1)), N.W, N.B⟩ := OkN.perm (D := ⟨rep N.L z (t / 2 + 1), N.W, N.B⟩) (srtR_perm (by rw [rep_names]; exact ok.l.nd)) (List.Perm.refl _) (List.Perm.refl _) (ok.o1 hz)
      exact ⟨_, rfl, Nat.le_refl _, j3.app ot okm oD oO⟩
  clear j2
  rintro _ H3 ⟨os1, rfl, lo1, j3⟩
  -- one event more
  refine ⟨fun σ' H' => ∃ os, σ' = slE D pl x y O z none none none none none none ∧ os.length ≤ 2 ∧ ErJ K C H D pl x y O a b c N os H', ?_, ?_⟩
  · refine rd_add1 (K := K) (pl := pl) (O := O) (a := a) (b := b) (c := c) rfl rfl j3.o (by rw [List.length_map]; omega) j3.p (Pd := fun d H' => TD inD K H' d (N.L ++ [(("new" : Str), (5 : Int))]) ∧ d ≠ a) (fun d H1 H2 s q => ⟨q.1.same s, q.2⟩) (fun R r => ?_) fun o d H' s1 no ho q => ?_
    · refine rd_put (K := K) (enc := inD) (a := a) (k := ("new" : Str)) (x := 5) (rs := N.L) (out := N.L ++ [(("new" : Str), (5 : Int))]) (fun R r => ⟨_, rfl, pl, _, 0, _, rfl, rfl, SqL.of j3.p, atI_nat (j := 0) rfl, r⟩) j3.ta (by omega) (fun H' R s1 r => r) (fun H' R s1 r => r _ _ (Same.refl _) (show Dp K H' (.int 5) (.int 5) from .int _)) (fun H' kvs u tx du => merge_add tx ok.l.nd (fun m => ?_) du) fun d1 H' s1 nd1 td1 => r d1 H' s1 ⟨td1, a_ne j3 nd1⟩
      obtain ⟨q, hq, e⟩ := List.mem_map.mp m
      exact dr.nw q hq e
    · have j4 := j3.same s1
      have oO : o ≠ O := (ne_of_none j3.o no).symm
      have oD : o ≠ D := by
        obtain ⟨d0, d1, d2, eD⟩ := j3.dc
        exact (ne_of_none eD no).symm
      have ot : OtherAt K H' o pl N ⟨N.L ++ [(("new" : Str), (5 : Int))], N.W, N.B⟩ := ⟨a, b, c, d, b, c, j4.p, ho, j4.ta, j4.tb, j4.tc, q.1, j4.tb, j4.tc, fun e => absurd e q.2, fun _ => rfl, fun _ => rfl⟩
      exact ⟨_, rfl, by rw [List.length_append]; show os1.length + 1 ≤ 2; omega, j4.app ot (ok.o2 sm dr) oD oO⟩
  clear j3
  rintro _ H4 ⟨os2, rfl, lo2, j4⟩
  -- works and bounds
  refine ⟨fun σ' H' => ∃ os x6 x7 x8 x9 x10 x11, σ' = slE D pl x y O z x6 x7 x8 x9 x10 x11 ∧ ErJ K C H D pl x y O a b c N os H', ?_, ?_⟩
  · refine ⟨by show 2 ≤ sizeLine; decide, fun T nT => ⟨T, rfl, ⟨_, SqT.of upd_same⟩, ?_⟩⟩
    have sT := same_new (o := .tup [.int 1, .int 2]) nT
    refine for_tup (K := K) (xs := [.int 1, .int 2]) (fun i σ H' => ∃ os x6 x7 x8 x9 x10 x11, σ = slE D pl x y O z x6 x7 x8 x9 x10 x11 ∧ ErJ K C H D pl x y O a b c N os H' ∧ os.length ≤ 2 + 2 * i ∧ H' T = some (.tup [.int 1, .int 2]))
      ⟨os2, none, none, none, none, none, none, rfl, j4.same sT, lo2, upd_same⟩ (fun i σ H' _ q => by obtain ⟨_, _, _, _, _, _, _, _, _, _, h⟩ := q; exact SqT.of h) (fun i v σ H' hi q => ?_) (fun σ H' q => ?_)
    · obtain ⟨os, x6, x7, x8, x9, x10, x11, rfl, j5, lo5, hT5⟩ := q
      match i, hi with
      | 0, hi =>
        cases hi
        refine er_body (K := K) (C := C) (H0 := H) (N := N) (enc := wkD) (e := b) ge_wk (j := 1) (rs := N.W) (mk := fun rs' => ⟨N.L, rs', N.B⟩) (chg := chgW) (comps := fun w => [.str w.1, .str w.2.1, .int w.2.2.1, .int w.2.2.2.1, .int w.2.2.2.2]) (l1 := [.ref a]) (l2 := [.ref c]) (atI_nat (j := 1) rfl) (fun j => j.tb) ok.w.nd (by omega) (fun {H p la lb Q} h1 h2 q => .inl ⟨b, p, la, lb, rfl, rfl, h1, h2, q⟩) (fun d => wk_at d) (fun {σ H Q t q} h6 h8 ht r => ?_) (fun d => rfl) (by show 3 ≤ 10; decide) (fun {os H o d rs'} j ho td ne => ⟨a, b, c, a, d, c, j.p, ho, j.ta, j.tb, j.tc, j.ta, td, j.tc, fun _ => rfl, fun e => absurd e ne, fun _ => rfl⟩) (fun k => ok.o3) (fun k q hq => ok.o4 hq) (by omega) j5 fun os' x7 x8 x9 x10 x11 H' j' l' tp => ⟨os', _, _, _, _, _, _, rfl, j', by omega, tp _ _ hT5⟩
        refine ⟨_, h8, 2, rfl, t, _, rfl, ht, (fun e => absurd (show (2 : Nat) = 5 from e.2) (by decide)), fun p np => ⟨_, h6, rfl, _, rfl, iteT ⟨_, h8, t, _, 3, _, rfl, rfl, sqT_same (same_new np) ht, atI_nat (j := 3) rfl, _, h8, t, _, 4, _, rfl, rfl, sqT_same (same_new np) ht, atI_nat (j := 4) rfl, by show 3 ≤ sizeLine; decide, fun u nu => ⟨p, u, [.str q.1, .str q.2.1], [.int 1, .int q.2.2.2.1, .int q.2.2.2.2], rfl, rfl, SqT.of (same_new nu _ _ upd_same), SqT.of upd_same, (fun e => by cases e), by show 5 ≤ sizeLine; decide, (fun e => by cases e), fun _ v nv => ?_⟩⟩⟩⟩
        refine r v _ ((same_new np).trans ((same_new nu).trans (same_new nv))) (.tup (SqT.of upd_same) (.cons (.str _) (.cons (.str _) (.cons (.int _) (.cons (.int _) (.cons (.int _) .nil))))))
      | 1, hi =>
        cases hi
        refine er_body (K := K) (C := C) (H0 := H) (N := N) (enc := bdD) (e := c) ge_bd (j := 2) (rs := N.B) (mk := fun rs' => ⟨N.L, N.W, rs'⟩) (chg := chgB) (comps := fun w => [.str w.1, .str w.2.1, .int w.2.2]) (l1 := [.ref a, .ref b]) (l2 := []) (atI_nat (j := 2) rfl) (fun j => j.tc) ok.b.nd (by omega) (fun {H p la lb Q} h1 h2 q => .inr ⟨c, p, la, lb, rfl, rfl, h1, h2, q⟩) (fun d => bd_at d) (fun {σ H Q t q} h6 h8 ht r => ?_) (fun d => rfl) (by show 3 ≤ 10; decide) (fun {os H o d rs'} j ho td ne => ⟨a, b, c, a, b, d, j.p, ho, j.ta, j.tb, j.tc, j.ta, j.tb, td, fun _ => rfl, fun _ => rfl, fun e => absurd e ne⟩) (fun k => ok.o5) (fun k q hq => ok.o6 dr hq) (by omega) j5 fun os' x7 x8 x9 x10 x11 H' j' l' tp => ⟨os', _, _, _, _, _, _, rfl, j', by omega, tp _ _ hT5⟩
        refine ⟨_, h8, 2, rfl, t, _, rfl, ht, (fun e => absurd (show (2 : Nat) = 3 from e.2) (by decide)), fun p np => ⟨_, h6, rfl, _, rfl, iteF ⟨_, h8, t, _, 2, _, rfl, rfl, sqT_same (same_new np) ht, atI_nat (j := 2) rfl, _, 1, rfl, rfl, by show 1 ≤ sizeLine; decide, fun u nu => ⟨p, u, [.str q.1, .str q.2.1], [.int (q.2.2 - 1)], rfl, rfl, SqT.of (same_new nu _ _ upd_same), SqT.of upd_same, (fun e => by cases e), by show 3 ≤ sizeLine; decide, (fun e => by cases e), fun _ v nv => ?_⟩⟩⟩⟩
        refine r v _ ((same_new np).trans ((same_new nu).trans (same_new nv))) (.tup (SqT.of upd_same) (.cons (.str _) (.cons (.str _) (.cons (.int _) .nil))))
    · obtain ⟨os, x6, x7, x8, x9, x10, x11, rfl, j5, _, _⟩ := q
      exact ⟨os, _, _, _, _, _, _, rfl, j5⟩
  clear j4
  rintro _ H5 ⟨os, x6, x7, x8, x9, x10, x11, rfl, j5⟩
  have oks := ok.sort
  have eqr : eqN (sortN N) (sortN N) = true := by
    unfold eqN
    rw [eqTab_refl alk_in oks.l.nd, eqTab_refl alk_wk oks.w.nd, eqTab_refl alk_bd oks.b.nd]
    rfl
  -- the same net
  refine ⟨fun σ' H' => σ' = slE D pl x y O z x6 x7 x8 x9 x10 x11 ∧ ErJ K C H D pl x y O a b c N os H', ?_, ?_⟩
  · refine ⟨_, rfl, _, rfl, x, _, rfl, NetEq.two j5.net j5.mix, _, rfl, ite0 (by rw [eqr]; rfl) ⟨_, rfl, _, rfl, x, _, rfl, NetEq.two j5.net j5.mix, _, rfl, ite0 (by rw [eqr]; rfl) ?_⟩⟩
    refine ⟨_, rfl, x, rfl, j5.net.ins, x, sortN N, rfl, j5.net, oks, fun v1 H6 s6 r1 => ?_⟩
    have r1 : v1 = .str (strN (sortN N).L.length (sortN N).W.length (sortN N).B.length) := r1
    subst r1
    have j6 := j5.same s6
    refine ⟨_, rfl, _, rfl, y, rfl, j6.mix.ins, y, sortN N, rfl, j6.mix, oks, fun v2 H7 s7 r2 => ?_⟩
    have r2 : v2 = .str (strN (sortN N).L.length (sortN N).W.length (sortN N).B.length) := r2
    subst r2
    exact ⟨_, rfl, rfl, _, rfl, ite0 (by simp) ⟨rfl, j6.same s7⟩⟩
  clear j5
  rintro _ H6 ⟨rfl, j6⟩
  -- the others
  refine ⟨fun σ' H' => ∃ x12 x13, σ' = [some (.ref D), some (.ref pl), some (.ref x), some (.ref y), some (.ref O), some (.str z), x6, x7, x8, x9, x10, x11, x12, x13, none, none] ∧ ErJ K C H D pl x y O a b c N os H', ?_, ?_⟩
  · refine ⟨_, rfl, O, rfl, ⟨_, SqL.of j6.o⟩, ?_⟩
    refine for_list (K := K) (xs := os.map fun p => V.ref p.1) (fun i σ H' => ∃ x12 x13, σ = [some (.ref D), some (.ref pl), some (.ref x), some (.ref y), some (.ref O), some (.str z), x6, x7, x8, x9, x10, x11, x12, x13, none, none] ∧ ErJ K C H D pl x y O a b c N os H')
      ⟨none, none, rfl, j6⟩ (fun i σ H' _ q => by obtain ⟨_, _, _, h⟩ := q; exact SqL.of h.o) (fun i v σ H' hi q => ?_) (fun σ H' q => q)
    obtain ⟨x12, x13, rfl, j7⟩ := q
    rw [List.getElem?_map] at hi
    obtain ⟨⟨o, M⟩, ho, rfl⟩ := Option.map_eq_some_iff.mp hi
    obtain ⟨ot, okm, oD, oO⟩ := j7.os _ (List.mem_of_getElem? ho)
    obtain ⟨_, _, _, a', b', c', g1, g2, g3, g4, g5, g6, g7, g8, _⟩ := id ot
    refine ⟨_, rfl, o, _, 0, _, rfl, rfl, SqL.of g2, atI_nat (j := 0) rfl, _, rfl, o, _, 1, _, rfl, rfl, SqL.of g2, atI_nat (j := 1) rfl, _, rfl, o, _, 2, _, rfl, rfl, SqL.of g2, atI_nat (j := 2) rfl, fun y' dy ny ndy ne => ?_⟩
    have sN : Same H' (upd (upd H' dy (.own y')) y' (.ins C dy [])) := fun e o z => by rw [upd_ne (ne_of_none z ny), upd_ne (ne_of_none z ndy)]; exact z
    refine ⟨y', dy, a', .ref b', .ref c', M, rfl, upd_same, g6.same sN, .inl ⟨b', rfl, g7.same sN⟩, .inl ⟨c', rfl, g8.same sN⟩, okm, fun H8 b8 net8 => ⟨rfl, ?_⟩⟩
    have s8 : Same H' H8 := fun e o z => b8 _ _ (ne_of_none z ny) (sN _ _ z)
    have j8 := j7.same s8
    have ot8 := ot.same s8
    have eb := eqN_both ok okm
    refine ⟨_, rfl, _, rfl, x, _, rfl, NetEq.two j8.net net8, _, rfl, _, rfl, OtherAt.eq ok ot8 ⟨rfl, _, rfl, ite0 (by rw [eb]; simp) ?_⟩⟩
    refine ⟨_, rfl, _, rfl, x, _, rfl, NetEq.two j8.net net8, _, rfl, _, rfl, OtherAt.ne ok ot8 ⟨rfl, _, rfl, ite0 (by rw [eb]; simp) ?_⟩⟩
    exact ⟨_, _, rfl, j8⟩
  clear j6
  rintro _ H7 ⟨x12, x13, rfl, j7⟩
  -- other values
  have fin : ∀ H', Same H7 H' → Q (.bl true) H' := fun H' s => k H' (j7.bt.trans (Same.but s)) (j7.dc.same s)
  refine ⟨by show 0 ≤ sizeLine; decide, fun t0 n0 d0 nd0 => ⟨_, rfl, _, rfl, pl, _, 0, _, rfl, rfl, SqL.of (same_new nd0 _ _ (same_new n0 _ _ j7.p)), atI_nat (j := 0) rfl, by show 7 ≤ sizeLine; decide, fun T nT => ⟨T, rfl, ⟨_, SqT.of upd_same⟩, fun L nL => ?_⟩⟩⟩
  have q0 := same_new (o := .tup []) n0
  have q1 := same_new (o := .dK []) nd0
  have q2 := same_new (o := .tup [.non, .int 0, .ref t0, .ref d0, .ref pl, .ref a, .str "net"]) nT
  have q12 := q1.trans q2
  have q := q0.trans q12
  refine no_it (K := K) (walk_tup (a := T) (xs := [.non, .int 0, .ref t0, .ref d0, .ref pl, .ref a, .str "net"])) nL (fun H' s => SqT.of (s _ _ upd_same)) (fun v σ2 H2 P P' hp h => hp _ _ h) (fun i v H1 H2 hi s1 yy => ⟨by simp [gName, wipe], fun R hR => ?_⟩) (fun H' s1 sq => ?_)
  · obtain ⟨rfl, hv⟩ := yy
    have j9 := j7.same (q.trans s1)
    have nq : ∀ v t, TyX K H2 v (.type t) → t ∈ (["NoneType", "int", "tuple", "dict", "list", "str"] : List String) → PySem.W.notFirst K C (.type t) = true → NetEq K C H2 x v false := fun v t ty m n => NetEq.no j9.net ty (KN t m) n
    have ne : NetEq K C H2 x v false := by
      match i, hi, hv with
      | 0, _, hv => cases hv; exact nq _ "NoneType" (.base .non) (by simp) nf_none
      | 1, _, hv => cases hv; exact nq _ "int" (.base (.int _)) (by simp) nf_int
      | 2, _, hv => cases hv; exact nq _ "tuple" (.base (.tup (s1 _ _ (q12 _ _ upd_same)))) (by simp) nf_tup
      | 3, _, hv => cases hv; exact nq _ "dict" (.base (.dK (s1 _ _ (q2 _ _ upd_same)))) (by simp) nf_dct
      | 4, _, hv => cases hv; exact nq _ "list" (.base (.lst j9.p)) (by simp) nf_lst
      | 5, _, hv => cases hv; obtain ⟨kv, e, _⟩ := j9.ta; exact nq _ "dict" (.base (.dK e)) (by simp) nf_dct
      | 6, _, hv => cases hv; exact nq _ "str" (.base (.str _)) (by simp) nf_str
      | i + 7, hi, _ => exact absurd (show i + 7 < 7 from hi) (by omega)
    refine ⟨_, rfl, _, by simp [gName, wipe], x, _, rfl, ne, _, rfl, iteF ⟨_, rfl, _, by simp [gName, wipe], x, _, rfl, ne, _, rfl, hR _ (Same.refl _)⟩⟩
  · refine ⟨by show 0 ≤ sizeLine; decide, fun e ne => ⟨.list [], .list [], .lst (sqL_wk (Wk.of (same_new ne)) sq) .nil, .lst (SqL.of upd_same) .nil, by decide +kernel, by decide +kernel, ?_⟩⟩
    exact fin _ (q.trans (s1.trans (same_new ne)))
end
end LW
namespace DW
open PySem PySem.Spec PyProof.Rows L2 PySem.W HT
/-! ### t[::-1], t a tuple -/
section
variable {prog : Program} {w : World} {A : Around} {E : Value → Shared → Prop} {s : Shared}
theorem sliceApplied_rev {sl : Addr} {vs : Value} {n : Nat} {Q : Int × Int × Nat → Shared → Prop} (hs : s.heap.IsSliceOf sl .none .none vs) (ps : IsPart vs (some (-1))) (hn : 1 ≤ n)
    (h : Q ((n : Int) - 1, -1, n) s) : wpAny (model prog w) A (Builtin.Slice.sliceApplied (.ref sl) (pure (n : Int))) Q E s := by
  obtain ⟨os, hos, hcs, hds⟩ := id hs
  unfold Builtin.Slice.sliceApplied Builtin.Slice.sliceFields
  refine wpAny_bind (wpAny_bind (wpAny_field hos hds (x := .none) rfl (wpAny_bind (wpAny_field hos hds (x := .none) rfl (wpAny_bind (wpAny_field hos hds (x := vs) rfl (wpAny_pure ?_)))))))
  refine wpAny_bind (slicePart_ ps ?_)
  show wpAny _ _ (if ((-1 : Int) == 0) = true then _ else _) _ _ s
  rw [if_neg (by decide)]
  refine wpAny_bind (slicePart_ .none (wpAny_bind (slicePart_ .none (wpAny_bind (wpAny_pure ?_)))))
  have e1 : Builtin.Slice.sliceAdjust none none (-1) (n : Int) = ((n : Int) - 1, -1) := by
    unfold Builtin.Slice.sliceAdjust
    simp
  have e2 : Builtin.Slice.slicePlaces ((n : Int) - 1) (-1) (-1) = n := by
    unfold Builtin.Slice.slicePlaces
    simp
    omega
  show wpAny _ _ (match Builtin.Slice.sliceAdjust none none (-1) (n : Int) with | (lo, hi) => pure (lo, (-1 : Int), Builtin.Slice.slicePlaces lo hi (-1))) _ _ s
  rw [e1]
  show wpAny _ _ (pure ((n : Int) - 1, (-1 : Int), Builtin.Slice.slicePlaces ((n : Int) - 1) (-1) (-1))) _ _ s
  rw [e2]
  exact wpAny_pure h
theorem pick_rev (xs : Array Value) : ((List.range xs.size).filterMap fun (m : Nat) => xs[(((xs.size : Int) - 1) + (m : Int) * -1).toNat]?).toArray = xs.toList.reverse.toArray := by
  congr 1
  apply List.ext_getElem?
  intro i
  have e : ∀ l : List Nat, (∀ m ∈ l, m < xs.size) → l.filterMap (fun (m : Nat) => xs[(((xs.size : Int) - 1) + (m : Int) * -1).toNat]?) = l.map fun m => xs.toList.getD (xs.size - 1 - m) .none := by
    intro l
    induction l with
    | nil => intro _; rfl
    | cons m l ih =>
      intro h
      have hm := h m (List.mem_cons_self ..)
      have ix : (((xs.size : Int) - 1) + (m : Int) * -1).toNat = xs.size - 1 - m := by omega
      have g : xs[(((xs.size : Int) - 1) + (m : Int) * -1).toNat]? = some (xs.toList.getD (xs.size - 1 - m) .none) := by
        rw [ix, List.getD_eq_getElem?_getD, Array.getElem?_toList, Array.getElem?_eq_getElem (by omega)]
        rfl
      rw [List.filterMap_cons_some (f := fun (m : Nat) => xs[(((xs.size : Int) - 1) + (m : Int) * -1).toNat]?) (a := m) g, List.map_cons, ih fun k hk => h k (List.mem_cons_of_mem _ hk)]
  rw [e _ fun m hm => List.mem_range.mp hm, List.getElem?_map]
  rcases Nat.lt_or_ge i xs.size with q | q
  · rw [List.getElem?_range q, List.getElem?_reverse (by simpa using q)]
    simp only [Option.map_some, Array.length_toList]
    rw [List.getD_eq_getElem?_getD, List.getElem?_eq_getElem (by rw [Array.length_toList]; omega)]
    rfl
  · rw [List.getElem?_eq_none (by rw [List.length_range]; exact q), List.getElem?_eq_none (by rw [List.length_reverse, Array.length_toList]; exact q)]
    rfl
theorem getItem_tuple_rev {t sl : Addr} {items : Array Value} {vs : Value} {Q : Value → Shared → Prop} (ht : IsTup s.heap t items) (hs : s.heap.IsSliceOf sl .none .none vs) (ps : IsPart vs (some (-1))) (hn : 1 ≤ items.size)
    (h : Q (.ref s.heap.objs.size) { s with heap := s.heap.push { cls := .type "tuple", data := .seq items.toList.reverse.toArray } }) (hsz : items.size ≤ sizeLine) : wpAny (model prog w) A (getItem (.ref t) (.ref sl)) Q E s := by
  have htake : sizeOk (.seq items.toList.reverse.toArray) := by
    show items.toList.reverse.toArray.size ≤ sizeLine
    rw [List.size_toArray, List.length_reverse, Array.length_toList]
    exact hsz
  obtain ⟨os, hos, hcs, hds⟩ := id hs
  have hTs : s.TypeIs (.ref sl) "slice" := ⟨os, hos, hcs⟩
  unfold getItem
  try with_reducible refine wpAny_holding ?_
  first | refine wpAny_bind (wpAny_pure ?_) | skip
  refine wpAny_bind (wpAny_sequenceKey ht.typeIs (by decide) ?_)
  refine wpAny_bind (wpAny_callSpecial?_slot (name := Str.ofString "__getitem__") ht.typeIs PyProof.Rows.slot_tuple_getitem
    (wpAny_call_entry PyProof.Rows.slot_tuple_getitem ht.typeIs entry_tuple_getitem ?_ (args_tuple_getitem _ _)))
  show wpAny _ _ (Builtin.Tuple.tupleItemsOf (.ref t) >>= _) _ _ s
  refine wpAny_bind (tupleItemsOf_ ht ?_)
  refine wpAny_bind (wpAny_typeOf hTs ?_)
  rw [if_pos (by decide)]
  refine wpAny_bind (sliceApplied_rev hs ps hn ?_)
  have hno : ¬ ((((items.size : Int) - 1) == 0 && (-1 : Int) == 1 && items.size == items.size) = true) := by
    intro q
    rw [Bool.and_eq_true, Bool.and_eq_true] at q
    have := q.1.2
    revert this
    decide
  show wpAny _ _ (if (((items.size : Int) - 1) == 0 && (-1 : Int) == 1 && items.size == items.size) = true then _ else _) _ _ s
  rw [if_neg hno, pick_rev]
  first
    | exact wpAny_bind (m := Builtin.Tuple.tupleExact _) (wpAny_newObj_type (wpAny_pure ⟨_, rfl, wpAny_pure h⟩) htake)
    | exact wpAny_bind (m := Builtin.Tuple.tupleExact _) (wpAny_newObj_type (wpAny_bind (wpAny_pure (wpAny_pure ⟨_, rfl, wpAny_pure h⟩))) htake)
    | exact wpAny_bind (wpAny_bind (m := Builtin.Tuple.tupleExact _) (wpAny_newObj_type (wpAny_pure (wpAny_pure ⟨_, rfl, wpAny_pure h⟩)) htake))
    | exact wpAny_bind (wpAny_bind (m := Builtin.Tuple.tupleExact _) (wpAny_newObj_type (wpAny_pure ⟨_, rfl, wpAny_pure h⟩) htake))
end
def tRevT (K : PySem.W.Frag) (te : TE) : TE := fun σ H Q => te σ H fun x H1 => ∃ a xs, x = .ref a ∧ SqT K H1 a xs ∧ 1 ≤ xs.length ∧ ∀ p, H1 p = none → Q (.ref p) (upd H1 p (.tup xs.reverse))
theorem pe_revT {X : Cx} {e : Expr} {te : TE} {k : Nat} {p1 p2 p3 pos : Pos} (he : PE X e te) : PE X (.Subscript e (.Slice none none (some (.UnaryOp .USub (.Constant (.int 1) k p1) p2)) p3) pos) (tRevT X.K te) := by
  refine ⟨fun pins s σ H Q I h => ?_⟩
  refine Subscript_ (thn (he.run pins s σ H _ I h) fun v s1 ⟨x, H1, I1, r1, q1⟩ => ?_)
  obtain ⟨a, xs, ex, hx, hn, q⟩ := q1
  subst ex
  cases r1
  have hst : PO X (some (.UnaryOp .USub (.Constant (.int 1) k p1) p2)) (tPart (tUn (rU fun i => .int (-i)) (tC (.int 1)))) := po_some (pe_un un_neg pe_int)
  refine wpAny_Slice (thn (po_none.run pins s1 σ H1 (fun o H2 => o = none ∧ H2 = H1) I1 ⟨rfl, rfl⟩) fun vl s2 ⟨l, H2, I2, pl, el, e2⟩ => ?_)
  subst el e2
  refine thn (po_none.run pins s2 σ H2 (fun o H3 => o = none ∧ H3 = H2) I2 ⟨rfl, rfl⟩) fun vu s3 ⟨u, H3, I3, pu, eu, e3⟩ => ?_
  subst eu e3
  refine thn (hst.run pins s3 σ H3 (fun o H4 => o = some (-1) ∧ H4 = H3) I3 ⟨1, rfl, -1, rfl, rfl, rfl⟩) fun vs s4 ⟨o, H4, I4, ps, eo, e4⟩ => ?_
  subst eo e4
  cases pl
  cases pu
  have I5 : Inv X pins σ H4 { s4 with heap := s4.heap.push { cls := .type "slice", data := .fields #[.none, .none, vs] } } := I4.kept (t' := s4.toks) fun b ob q => Heap.get?_push_of_some _ q
  obtain ⟨its, r, ht, hz⟩ := I5.tuple hx
  have hlen := r.length
  show wpAny (model X.prog X.w) X.A (subscriptTail e (.Slice none none (some (.UnaryOp .USub (.Constant (.int 1) k p1) p2)) p3) (.ref a) (.ref s4.heap.objs.size)) (EP X pins σ Q) X.xe { s4 with heap := s4.heap.push { cls := .type "slice", data := .fields #[.none, .none, vs] } }
  refine tail_any (ops := [.ref a, .ref s4.heap.objs.size]) ht.typeIs (PyProof.Rows.slot_tuple_getitem.lookup) ?_ (by with_unfolding_all rfl)
  refine getItem_tuple_rev ht (Heap.IsSliceOf.new _ .none .none vs) ps (by rw [List.size_toArray]; omega) ?_ (by rw [List.size_toArray]; omega)
  refine ⟨.ref _, _, I5.laid (t' := s4.toks) (o := .tup xs.reverse) (fun b ob q => Heap.get?_push_of_some _ q) (Nat.le_refl _) ?_, rfl, q _ (I5.hok.fresh (Nat.le_refl _))⟩
  exact ⟨by rw [List.length_reverse]; exact hz, _, r.reverse, IsTup.new _ _⟩
end DW
namespace LW
open PySem PySem.Spec PyProof.Rows L2 DW LamX
theorem passes0 {X : Cx} {P : Program} {w : World} : Passes (L2.CX P w) X E0 := fun _ _ _ _ _ _ _ h => by
  obtain ⟨_, _, _, _, _, _, _, _, _, _, _, _, z⟩ := h
  exact z.elim
theorem passE {X : Cx} {E : XK} (tk : Takes X (fun cls d _ H => E cls d H)) : Passes (L2.CX X.prog X.w) X E := fun pins σ H s e s' I c => passAt tk σ pins H s e s' I c
structure PropK (P : Program) (w : World) (K : PySem.W.Frag) (mg : Str → Option Value) (base : Heap) (C : Addr) (nm : Str) (R : PlainD → V → Hp → Hp → Prop) (p g : Addr) (fd : FuncData) : Prop where
  o : PropOf K C nm p g
  G : FnOk P w K mg base CX0 1 g fd ["self"] (spGet K C R)
  b : Binds K fd ["self"] []
structure RowK (P : Program) (w : World) (K : PySem.W.Frag) (mg : Str → Option Value) (base : Heap) (C CO : Addr) (f : Addr) (fd : FuncData) : Prop where
  m : Meth K C "row" f
  G : FnOk P w K mg base (L2.CX P w) 2 f fd ["self", "word"] (spRow K C CO)
  b : Binds K fd ["self", "word"] []
structure MetK (P : Program) (w : World) (K : PySem.W.Frag) (mg : Str → Option Value) (base : Heap) (CO CU f : Addr) (fd : FuncData) : Prop where
  F : Fun K "_law_met" "_law_met" s_law_met f fd
  kp : PySem.W.keepIn K (.ref f) = true
  b : Binds K fd ["call"] []
  g : mg "_law_met" = some (.ref f)
  hO : mg "InvalidOperation" = some (.ref CO)
  hU : mg "UnknownName" = some (.ref CU)
abbrev rrN : List Str := ["dice", "plain", "net", "told", "word", "odd", "rows", "one", "row", "other"]
theorem scRr : FnScope rrN ["dice", "plain", "net"] (defScope s_law_rows_right) := ⟨rfl, rfl, rfl, by decide +kernel, rfl, by decide +kernel, by decide +kernel⟩
abbrev gRW (K : PySem.W.Frag) : TG := gTup K 2 (gCons (gName 8) (gCons (gName 4) gNil))
abbrev gRO (K : PySem.W.Frag) : TG := gTup K 2 (gCons (gName 8) (gCons (gName 9) gNil))
def spRr (K : PySem.W.Frag) (C : Addr) (T : List (Addr × Str)) : Sp := fun vs H Q _ => ∃ (D pl x : Addr) (N : PlainD), vs = [.ref D, .ref pl, .ref x] ∧ Dc H D ∧ pl ≠ D ∧ PlainAt K H pl N ∧ NetAt K C H x (sortN N) ∧ OkN N ∧ SmallN N ∧ Tabs T H ∧ ∀ H', ButN D H H' → Dc H' D → Tabs T H' → Q (.bl true) H'
abbrev tRowM (K : PySem.W.Frag) (C CO : Addr) (i : Nat) (E : XK) : TE := tMeth C "row" (spRow K C CO) [] E (tVar 2) (tCons (tVar i) tNil)
end LW
namespace LW
open PySem PySem.Spec PyProof.Rows L2 DW LamX
def rowD (r : RwT) : PyData := .tuple [.str "bound", .str r.1, .str r.2.1, .int r.2.2]
def wrdD (k : Str × Str) : PyData := .tuple [.str k.1, .str k.2]
/-- a text that may stand in a row -/
def SokS (z : Str) : Prop := Shw 12 0 (.str z) ∧ PyData.strOk z = true
theorem sok_lett {z : Str} (hl : z.length ≤ 12) (h : ∀ c ∈ z.cps.toList, c ∈ lettL.cps.toList) : SokS z := by
  refine ⟨Shw.str hl fun c hc => lett_small c (h c hc), ?_⟩
  show z.cps.all _ = true
  rw [Array.all_eq_true_iff_forall_mem]
  intro c hc
  have : ∀ c ∈ lettL.cps.toList, c < 0x110000 := by decide +kernel
  exact decide_eq_true (this c (h c (Array.mem_toList_iff.mpr hc)))
theorem sok_name {z : Str} (h : nameS z = true) : SokS z := by
  simp only [nameS, Bool.and_eq_true, decide_eq_true_eq, List.all_eq_true] at h
  exact sok_lett h.2.1 fun c hc => h.2.2.2.2 c hc
theorem sok_dawn : SokS ("dawn" : Str) := sok_lett (by decide) (by decide +kernel)
theorem sok_known {L : Ls} (ok : OkL L) {z : Str} (h : knownB L z = true) : SokS z := by
  unfold knownB at h
  by_cases e : z = ("dawn" : Str)
  · rw [e]
    exact sok_dawn
  · rw [decide_eq_false e, Bool.false_or] at h
    obtain ⟨p, hp, rfl⟩ := List.mem_map.mp (of_decide_eq_true h)
    exact sok_name (ok.name p hp)
structure Rsm (r : RowP) : Prop where
  t : SokS r.1.1
  n : SokS r.1.2
  a : SokS r.2.1
  b : SokS r.2.2.1
  i : Shw 140 0 (.int r.2.2.2)
  l1 : r.1.1.length ≤ 12
  l2 : r.1.2.length ≤ 12
theorem name12 {z : Str} (h : nameS z = true) : z.length ≤ 12 := by
  simp only [nameS, Bool.and_eq_true, decide_eq_true_eq] at h
  exact h.2.1
theorem sok_tags : ∀ z ∈ [("bound" : Str), ("last" : Str), ("begin" : Str), ("most" : Str), ("least" : Str)], SokS z := by
  intro z hz
  simp only [List.mem_cons, List.not_mem_nil, or_false] at hz
  rcases hz with rfl | rfl | rfl | rfl | rfl <;> exact sok_lett (by decide) (by decide +kernel)
theorem told_sm {D : PlainD} (ok : OkN D) : ∀ r ∈ toldR D, Rsm r := by
  intro r hr
  unfold toldR at hr
  simp only [List.mem_append] at hr
  rcases hr with hr | hr | hr | hr | hr
  · obtain ⟨p, hp, rfl⟩ := List.mem_map.mp hr
    have q := ok.b.bd p hp
    have m := q.m
    exact ⟨sok_tags _ (by simp [mkR]), sok_name (ok.b.name p hp), sok_known ok.l q.f, sok_known ok.l q.s, shw_num (i := p.2.2.2) (by omega), (show ("bound" : Str).length ≤ 12 by decide), name12 (ok.b.name p hp)⟩
  · obtain ⟨p, hp, rfl⟩ := List.mem_map.mp hr
    have q := ok.l.tick p hp
    exact ⟨sok_tags _ (by simp [mkR]), sok_name (ok.l.name p hp), sok_dawn, sok_name (ok.l.name p hp), shw_num (i := p.2) (by omega), (show ("last" : Str).length ≤ 12 by decide), name12 (ok.l.name p hp)⟩
  · obtain ⟨p, hp, rfl⟩ := List.mem_map.mp hr
    exact ⟨sok_tags _ (by simp [mkR]), sok_name (ok.l.name p hp), sok_name (ok.l.name p hp), sok_dawn, shw_num (i := 0) (by omega), (show ("begin" : Str).length ≤ 12 by decide), name12 (ok.l.name p hp)⟩
  · obtain ⟨p, hp, rfl⟩ := List.mem_map.mp hr
    have q := ok.w.wk p hp
    have m := q.m
    have l := q.l
    have lm := q.lm
    exact ⟨sok_tags _ (by simp [mkR]), sok_name (ok.w.name p hp), sok_known ok.l q.b, sok_known ok.l q.e, shw_num (i := p.2.2.2.2.1) (by omega), (show ("most" : Str).length ≤ 12 by decide), name12 (ok.w.name p hp)⟩
  · obtain ⟨p, hp, rfl⟩ := List.mem_map.mp hr
    have q := ok.w.wk p hp
    have m := q.m
    have l := q.l
    have lm := q.lm
    exact ⟨sok_tags _ (by simp [mkR]), sok_name (ok.w.name p hp), sok_known ok.l q.e, sok_known ok.l q.b, shw_num (i := -p.2.2.2.1) (by omega), (show ("least" : Str).length ≤ 12 by decide), name12 (ok.w.name p hp)⟩
theorem Rsm.row {r : RowP} (h : Rsm r) : Shw 564 1 (rowD r.2) := by
  refine (Shw.tuple (ds := [.str "bound", .str r.2.1, .str r.2.2.1, .int r.2.2.2]) (w := 140) (k := 0) (n := 4) (fun d hd => ?_) (Nat.le_refl 4)).mono (by decide) (by decide)
  simp only [List.mem_cons, List.not_mem_nil, or_false] at hd
  rcases hd with rfl | rfl | rfl | rfl
  · exact (sok_tags ("bound" : Str) (by simp)).1.mono (by decide) (by decide)
  · exact h.a.1.mono (by decide) (by decide)
  · exact h.b.1.mono (by decide) (by decide)
  · exact h.i
theorem Rsm.wrd {r : RowP} (h : Rsm r) : Shw 26 1 (wrdD r.1) := by
  refine (Shw.tuple (ds := [.str r.1.1, .str r.1.2]) (w := 12) (k := 0) (n := 2) (fun d hd => ?_) (Nat.le_refl 2)).mono (by decide) (by decide)
  simp only [List.mem_cons, List.not_mem_nil, or_false] at hd
  rcases hd with rfl | rfl
  · exact h.t.1
  · exact h.n.1
/-- shown -/
theorem Shw.rep {w k : Nat} {d : PyData} (h : Shw w k d) (hw : w ≤ 310000) (hk : k ≤ 60) : d.showable = true ∧ d.shown.length ≤ sizeLine ∧ d.depth ≤ 60 := ⟨h.sho, h.len hw, Nat.le_trans h.dep hk⟩
theorem eqv_wrd {a b : Str} {d : PyData} (h : pairS d = false) : PyData.eqv (wrdD (a, b)) d = false := by
  unfold wrdD
  match d, h with
  | .none, _ => simp [PyData.eqv]
  | .bool _, _ => simp [PyData.eqv]
  | .int _, _ => simp [PyData.eqv]
  | .str _, _ => simp [PyData.eqv]
  | .list _, _ => simp [PyData.eqv]
  | .dict _, _ => simp [PyData.eqv]
  | .tuple [], _ => simp [PyData.eqv, PyData.eqvAll]
  | .tuple [x], _ => exact Bool.and_false _
  | .tuple (x :: y :: z :: r), _ => exact (by intro p q; cases p <;> cases q <;> rfl : ∀ p q : Bool, (p && (q && false)) = false) _ _
  | .tuple [x, y], h =>
    cases x <;> cases y <;> first | (exact absurd (show true = false from h) (by decide)) | simp [PyData.eqv, PyData.eqvAll]
theorem eqv_two {a b c d : Str} : PyData.eqv (wrdD (a, b)) (wrdD (c, d)) = decide ((a, b) = (c, d)) := by
  rw [Bool.eq_iff_iff]
  simp [wrdD, PyData.eqv, PyData.eqvAll]
theorem filter_key {α β : Type} [DecidableEq α] : ∀ {l : List (α × β)} {x : α × β}, (l.map (·.1)).Nodup → x ∈ l → l.filter (fun r => decide (r.1 = x.1)) = [x]
  | p :: l, x, nd, h => by
    rw [List.map_cons, List.nodup_cons] at nd
    rcases List.mem_cons.mp h with rfl | h
    · rw [List.filter_cons, if_pos (by simp)]
      congr 1
      rw [List.filter_eq_nil_iff]
      intro r hr e
      exact nd.1 (by rw [← of_decide_eq_true e]; exact List.mem_map.mpr ⟨r, hr, rfl⟩)
    · rw [List.filter_cons, if_neg ?_]
      · exact filter_key nd.2 h
      · intro e
        exact nd.1 (by rw [of_decide_eq_true e]; exact List.mem_map.mpr ⟨x, h, rfl⟩)
theorem filter_no {α β : Type} [DecidableEq α] {l : List (α × β)} {k : α} (h : k ∉ l.map (·.1)) : l.filter (fun r => decide (r.1 = k)) = [] := by
  rw [List.filter_eq_nil_iff]
  intro r hr e
  exact h (by rw [← of_decide_eq_true e]; exact List.mem_map.mpr ⟨r, hr, rfl⟩)
section
variable {K : PySem.W.Frag} {H H' : Hp}
theorem dp_row {H : Hp} {v : V} {r : RwT} (h : TTv K H v r) : Dp K H v (rowD r) := by
  obtain ⟨t, rfl, ht⟩ := h
  exact .tup ht (.cons (.str _) (.cons (.str _) (.cons (.str _) (.cons (.int _) .nil))))
theorem dp_wrd {H : Hp} {t : Addr} {k : Str × Str} (h : H t = some (.tup [.str k.1, .str k.2])) : Dp K H (.ref t) (wrdD k) := .tup (SqT.of h) (.cons (.str _) (.cons (.str _) .nil))
theorem dp_words {H : Hp} {bs : List Addr} {rs : List RowP} (h : Paired (fun (b : Addr) (r : RowP) => H b = some (.tup [.str r.1.1, .str r.1.2])) bs rs) : DpAll K H (bs.map V.ref) (rs.map fun r => wrdD r.1) := by
  induction h with
  | nil => exact .nil
  | cons q t ih => exact .cons (dp_wrd q) ih
theorem dp_rows {H : Hp} {bs : List Addr} {rs : List RowP} (h : Paired (fun (b : Addr) (r : RowP) => SqT K H b [.str "bound", .str r.2.1, .str r.2.2.1, .int r.2.2.2]) bs rs) : DpAll K H (bs.map V.ref) (rs.map fun r => rowD r.2) := by
  induction h with
  | nil => exact .nil
  | cons q t ih => exact .cons (dp_row ⟨_, rfl, q⟩) ih
/-- a value that is asked for as a word -/
def OddV (K : PySem.W.Frag) (H : Hp) (v : V) : Prop := ∃ d, Dp K H v d ∧ d.hasDict = false ∧ Fit d ∧ SeqAt.shaped d = true ∧ ((∃ (t : Addr) (a b : Str), v = .ref t ∧ H t = some (.tup [.str a, .str b]) ∧ d = wrdD (a, b)) ∨ pairS d = false)
theorem OddV.ext {v : V} (s : ExtN H H') (h : OddV K H v) : OddV K H' v := by
  obtain ⟨d, h1, h2, h3, h4, h5⟩ := h
  refine ⟨d, Dp.ext s h1, h2, h3, h4, ?_⟩
  rcases h5 with ⟨t, a, b, rfl, ht, e⟩ | h5
  · exact .inl ⟨t, a, b, rfl, s _ _ ht (fun _ z => nomatch z), e⟩
  · exact .inr h5
theorem OddV.same {v : V} (s : Same H H') (h : OddV K H v) : OddV K H' v := h.ext (Same.extN s)
theorem OddV.two {t : Addr} {a b : Str} (h : H t = some (.tup [.str a, .str b])) (oa : PyData.strOk a = true) (ob : PyData.strOk b = true) : OddV K H (.ref t) :=
  ⟨wrdD (a, b), dp_wrd h, rfl, (fun z e => nomatch e), by simp [SeqAt.shaped, wrdD, PyData.canLay0, PyData.canLayAll0, PyData.depth, PyData.depthAll, oa, ob], .inl ⟨t, a, b, rfl, h, rfl⟩⟩
theorem OddV.of {v : V} {d : PyData} (h : Dp K H v d) (n : d.hasDict = false) (f : Fit d) (s : SeqAt.shaped d = true) (p : pairS d = false) : OddV K H v := ⟨d, h, n, f, s, .inr p⟩
theorem Tp.ext (s : ExtN H H') : Tp H H' := fun c xs e => s _ _ e fun _ z => nomatch z
end
end LW
namespace LW
open PySem PySem.Spec PyProof.Rows L2 DW LamX
/-- what te gives has R -/
def GivS (σ : L2.St) (H0 : Hp) (R : Hp → V → Prop) (te : TE) : Prop := ∀ (H : Hp) (Q : VK), Same H0 H → (∀ v H', Same H H' → R H' v → Q v H') → te σ H Q
def GivSs (σ : L2.St) (H0 : Hp) (R : Hp → V → Prop) (n : Nat) (ta : TA) : Prop := ∀ (H : Hp) (Q : List V → Hp → Prop), Same H0 H → (∀ vs H', Same H H' → vs.length = n → (∀ v ∈ vs, R H' v) → Q vs H') → ta σ H Q
section
variable {K : PySem.W.Frag} {σ : L2.St} {H0 : Hp}
theorem gs_nil {R : Hp → V → Prop} : GivSs σ H0 R 0 tNil := fun H Q _ k => k [] H (Same.refl _) rfl fun v m => by cases m
theorem gs_cons {R : Hp → V → Prop} {n : Nat} {te : TE} {ta : TA} (mono : ∀ {H H' v}, Same H H' → R H v → R H' v) (h : GivS σ H0 R te) (hs : GivSs σ H0 R n ta) : GivSs σ H0 R (n + 1) (tCons te ta) := fun H Q s0 k =>
  h H _ s0 fun v H1 s1 r1 => hs H1 _ (s0.trans s1) fun vs H2 s2 l r2 => k _ _ (s1.trans s2) (by rw [List.length_cons, l]) fun u m => by
    rcases List.mem_cons.mp m with rfl | m
    · exact mono s2 r1
    · exact r2 u m
theorem gs_lst {R : Hp → V → Prop} {n : Nat} {ta : TA} {H : Hp} {Q : VK} (mono : ∀ {H H' v}, Same H H' → R H v → R H' v) (g : GivSs σ H0 R n ta) (hn : n ≤ 100) (s0 : Same H0 H) (k : ∀ p vs H', Same H H' → H p = none → H' p = some (.lst vs) → vs.length = n → (∀ v ∈ vs, R H' v) → Q (.ref p) H') : tLst ta σ H Q :=
  g H _ s0 fun vs H1 s1 l r => ⟨by rw [l, sizeLine_eq]; omega, fun p np => k p vs _ (s1.trans (same_new np)) (none_of s1 np) upd_same l fun v m => mono (same_new np) (r v m)⟩
theorem gs_non : GivS σ H0 (OddV K) (tC .non) := fun H Q _ k => k _ _ (Same.refl _) (OddV.of .non rfl (fun z e => by cases e) (by decide +kernel) rfl)
theorem gs_tup {ta : TA} {xs : List V} {ds : List PyData} (hc : ∀ (H : Hp) (Q : List V → Hp → Prop), Same H0 H → Q xs H → ta σ H Q) (hl : xs.length ≤ 10) (hd : ∀ H, Same H0 H → DpAll K H xs ds) (n : (PyData.tuple ds).hasDict = false) (s : SeqAt.shaped (.tuple ds) = true) (p : pairS (.tuple ds) = false) : GivS σ H0 (OddV K) (tTup ta) := fun H Q s0 k =>
  hc H _ s0 ⟨by rw [sizeLine_eq]; omega, fun t nt => k _ _ (same_new nt) (OddV.of (.tup (SqT.of upd_same) (hd _ (s0.trans (same_new nt)))) n (fun z e => by cases e) s p)⟩
theorem gs_two {ta : TA} {a b : Str} (hc : ∀ (H : Hp) (Q : List V → Hp → Prop), Same H0 H → Q [.str a, .str b] H → ta σ H Q) (oa : PyData.strOk a = true) (ob : PyData.strOk b = true) : GivS σ H0 (OddV K) (tTup ta) := fun H Q s0 k =>
  hc H _ s0 ⟨by show 2 ≤ sizeLine; decide, fun t nt => k _ _ (same_new nt) (OddV.two upd_same oa ob)⟩
/-- the first eight -/
abbrev tOdd1 (K : PySem.W.Frag) : TA := tCons (tC .non) (tCons (tOp (rIxT K) (tVar 4) (tC (.int 0))) (tCons (tCB (fun xs H Q => ∃ p ys, xs = [.ref p] ∧ (SqL K H p ys ∨ SqT K H p ys) ∧ ∀ l, H l = none → Q (.ref l) (upd H l (.lst ys))) (tCons (tVar 4) tNil)) (tCons (tRevT K (tVar 4)) (tCons (tOp (rCatT K) (tVar 4) (tTup (tCons (tC (.int 0)) tNil)))
  (tCons (tSl (rSlT K) (tVar 4) tNoPart (tPart (tC (.int 1)))) (tCons (tTup (tCons (tOp (rIxT K) (tVar 4) (tC (.int 0))) (tCons (tC (.str "nil")) tNil))) (tCons (tTup (tCons (tC (.str "Bound")) (tCons (tOp (rIxT K) (tVar 4) (tC (.int 1))) tNil))) tNil)))))))
abbrev tOdd2 (K : PySem.W.Frag) : TA := tCons (tTup (tCons (tC (.str "last")) (tCons (tC (.str "dawn")) tNil))) (tCons (tTup (tCons (tC (.str "begin")) (tCons (tC (.str "dawn")) tNil))) (tCons (tTup (tCons (tC (.str "most")) (tCons (tC (.int 0)) tNil))) (tCons (tTup (tCons (tC (.str "")) (tCons (tC (.str "")) tNil)))
  (tCons (tTup (tCons (tVar 4) (tCons (tVar 4) tNil))) (tCons (tTup (tCons (tC (.str "least")) (tCons (tOp (fun x y H Q => ∃ i j, x = .str i ∧ y = .str j ∧ i.length + j.length ≤ sizeLine ∧ Q (.str (i ++ j)) H) (tOp (rIxT K) (tVar 4) (tC (.int 1))) (tC (.str "x"))) tNil))) (tCons (tTup tNil) tNil))))))
abbrev tOdd3 (K : PySem.W.Frag) : TA := tCons (tTup (tCons (tC (.int 0)) (tCons (tOp (rIxT K) (tVar 4) (tC (.int 1))) tNil))) (tCons (tTup (tCons (tC (.str "bound")) (tCons (tC (.str "dawn")) tNil))) (tCons (tTup (tCons (tC (.str "most")) (tCons (tC (.str "dawn")) tNil))) tNil))
theorem sok_lit : ∀ z ∈ [("nil" : Str), ("Bound" : Str), ("last" : Str), ("dawn" : Str), ("begin" : Str), ("most" : Str), ("" : Str), ("least" : Str), ("x" : Str), ("bound" : Str)], PyData.strOk z = true := by decide +kernel
theorem sok_app {a b : Str} (ha : PyData.strOk a = true) (hb : PyData.strOk b = true) : PyData.strOk (a ++ b) = true := by
  unfold PyData.strOk at *
  show (a.cps ++ b.cps).all _ = true
  rw [Array.all_append, ha, hb]
  rfl
section
variable {wa : Addr} {s n : Str} (h4 : σ[4]? = some (some (.ref wa))) (hw : H0 wa = some (.tup [.str s, .str n])) (os : PyData.strOk s = true) (on : PyData.strOk n = true) (ln : s.length ≤ 12)
theorem gs_odd1 (h4 : σ[4]? = some (some (.ref wa))) (hw : H0 wa = some (.tup [.str s, .str n])) (os : PyData.strOk s = true) (on : PyData.strOk n = true) (ln : s.length ≤ 12) : GivSs σ H0 (OddV K) 8 (tOdd1 K) := by
  have m : ∀ {H H' : Hp} {v : V}, Same H H' → OddV K H v → OddV K H' v := fun s h => h.same s
  have sh : ∀ {ds : List PyData}, PyData.canLayAll0 ds = true → PyData.depthAll ds ≤ 20 → SeqAt.shaped (.tuple ds) = true := fun {ds} h1 h2 => by
    rw [show SeqAt.shaped (.tuple ds) = (PyData.canLayAll0 ds && decide ((PyData.tuple ds).depth ≤ 64)) from rfl, h1, Bool.true_and, decide_eq_true_iff]
    simp only [PyData.depth]
    omega
  refine gs_cons m gs_non (gs_cons m (fun H Q s0 k => ⟨_, h4, wa, _, 0, _, rfl, rfl, SqT.of (s0 _ _ hw), atI_nat (j := 0) rfl, k _ _ (Same.refl _) (OddV.of (.str s) rfl (fun z e => by cases e; omega) ?_ rfl)⟩) (gs_cons m (fun H Q s0 k => ⟨_, h4, wa, _, rfl, .inr (SqT.of (s0 _ _ hw)), fun l nl => k _ _ (same_new nl) (OddV.of (.lst (SqL.of upd_same) (.cons (.str s) (.cons (.str n) .nil))) rfl (fun z e => by cases e) ?_ rfl)⟩)
    (gs_cons m (fun H Q s0 k => ⟨_, h4, wa, _, rfl, SqT.of (s0 _ _ hw), by show 1 ≤ 2; decide, fun p np => k _ _ (same_new np) (OddV.two upd_same on os)⟩)
    (gs_cons m (fun H Q s0 k => ⟨_, h4, by show 1 ≤ sizeLine; decide, fun q nq => ⟨wa, q, _, [.int 0], rfl, rfl, SqT.of (same_new nq _ _ (s0 _ _ hw)), SqT.of upd_same, (fun e => by cases e), by show 3 ≤ sizeLine; decide, (fun e => by cases e), fun _ r nr => k _ _ ((same_new nq).trans (same_new nr)) (OddV.of (.tup (SqT.of upd_same) (.cons (.str s) (.cons (.str n) (.cons (.int 0) .nil)))) rfl (fun z e => by cases e) ?_ rfl)⟩⟩)
    (gs_cons m (fun H Q s0 k => ⟨_, h4, 1, rfl, wa, _, rfl, SqT.of (s0 _ _ hw), (fun e => absurd (show (1 : Nat) = 2 from e.2) (by decide)), fun p np => k _ _ (same_new np) (OddV.of (.tup (SqT.of upd_same) (.cons (.str s) .nil)) rfl (fun z e => by cases e) ?_ rfl)⟩)
    (gs_cons m (gs_two (a := s) (b := "nil") (fun H Q s0 q => ⟨_, h4, wa, _, 0, _, rfl, rfl, SqT.of (s0 _ _ hw), atI_nat (j := 0) rfl, q⟩) os (sok_lit _ (by simp)))
    (gs_cons m (gs_two (a := "Bound") (b := n) (fun H Q s0 q => ⟨_, h4, wa, _, 1, _, rfl, rfl, SqT.of (s0 _ _ hw), atI_nat (j := 1) rfl, q⟩) (sok_lit _ (by simp)) on) gs_nil)))))))
  · simp [SeqAt.shaped, PyData.canLay0, PyData.depth, os]
  · simp [SeqAt.shaped, PyData.canLay0, PyData.canLayAll0, PyData.depth, PyData.depthAll, os, on]
  · exact sh (by simp [PyData.canLay0, PyData.canLayAll0, os, on]) (by simp [PyData.depth, PyData.depthAll])
  · exact sh (by simp [PyData.canLay0, PyData.canLayAll0, os, on]) (by simp [PyData.depth, PyData.depthAll])
theorem gs_odd2 (h4 : σ[4]? = some (some (.ref wa))) (hw : H0 wa = some (.tup [.str s, .str n])) (os : PyData.strOk s = true) (on : PyData.strOk n = true) (lnn : n.length ≤ 12) : GivSs σ H0 (OddV K) 7 (tOdd2 K) := by
  have m : ∀ {H H' : Hp} {v : V}, Same H H' → OddV K H v → OddV K H' v := fun s h => h.same s
  refine gs_cons m (gs_two (a := "last") (b := "dawn") (fun H Q s0 q => q) (sok_lit _ (by simp)) (sok_lit _ (by simp))) (gs_cons m (gs_two (a := "begin") (b := "dawn") (fun H Q s0 q => q) (sok_lit _ (by simp)) (sok_lit _ (by simp)))
    (gs_cons m (gs_tup (xs := [.str "most", .int 0]) (ds := [.str "most", .int 0]) (fun H Q s0 q => q) (by show 2 ≤ 10; decide) (fun H _ => .cons (.str _) (.cons (.int _) .nil)) rfl (by decide +kernel) rfl)
    (gs_cons m (gs_two (a := "") (b := "") (fun H Q s0 q => q) (sok_lit _ (by simp)) (sok_lit _ (by simp)))
    (gs_cons m (gs_tup (xs := [.ref wa, .ref wa]) (ds := [wrdD (s, n), wrdD (s, n)]) (fun H Q s0 q => ⟨_, h4, _, h4, q⟩) (by show 2 ≤ 10; decide) (fun H s0 => .cons (dp_wrd (k := (s, n)) (s0 _ _ hw)) (.cons (dp_wrd (k := (s, n)) (s0 _ _ hw)) .nil)) rfl ?_ rfl)
    (gs_cons m (gs_two (a := "least") (b := n ++ "x") (fun H Q s0 q => ⟨_, h4, wa, _, 1, _, rfl, rfl, SqT.of (s0 _ _ hw), atI_nat (j := 1) rfl, _, _, rfl, rfl, ?_, q⟩) (sok_lit _ (by simp)) (sok_app on (sok_lit _ (by simp))))
    (gs_cons m (gs_tup (xs := []) (ds := []) (fun H Q s0 q => q) (by show 0 ≤ 10; decide) (fun H _ => .nil) rfl (by decide +kernel) rfl) gs_nil))))))
  · simp [SeqAt.shaped, wrdD, PyData.canLay0, PyData.canLayAll0, PyData.depth, PyData.depthAll, os, on]
  · have e : ("x" : Str).length = 1 := by decide
    rw [sizeLine_eq]
    omega
theorem gs_odd3 (h4 : σ[4]? = some (some (.ref wa))) (hw : H0 wa = some (.tup [.str s, .str n])) (on : PyData.strOk n = true) : GivSs σ H0 (OddV K) 3 (tOdd3 K) := by
  have m : ∀ {H H' : Hp} {v : V}, Same H H' → OddV K H v → OddV K H' v := fun s h => h.same s
  refine gs_cons m (gs_tup (xs := [.int 0, .str n]) (ds := [.int 0, .str n]) (fun H Q s0 q => ⟨_, h4, wa, _, 1, _, rfl, rfl, SqT.of (s0 _ _ hw), atI_nat (j := 1) rfl, q⟩) (by show 2 ≤ 10; decide) (fun H _ => .cons (.int _) (.cons (.str _) .nil)) rfl ?_ rfl)
    (gs_cons m (gs_two (a := "bound") (b := "dawn") (fun H Q s0 q => q) (sok_lit _ (by simp)) (sok_lit _ (by simp))) (gs_cons m (gs_two (a := "most") (b := "dawn") (fun H Q s0 q => q) (sok_lit _ (by simp)) (sok_lit _ (by simp))) gs_nil))
  simp [SeqAt.shaped, PyData.canLay0, PyData.canLayAll0, PyData.depth, PyData.depthAll, on]
end
end
end LW
namespace LW
open PySem PySem.Spec PyProof.Rows L2 DW LamX
abbrev tAsk (K : PySem.W.Frag) (T : List (Addr × Str)) (C CO : Addr) : L2.TT := tTest (tOp rNe (tCB (rRepr K) (tCons (tLam T (TMet K CO) (tRowM K C CO 7)) tNil)) (tCB (rRepr K) (tCons (tIf (tTest (tOp (rNeD K) (tVar 6) (tLst tNil))) (tTup (tCons (tC (V.str "told")) (tCons (tOp (rIxL K) (tVar 6) (tC (V.int 0))) tNil))) (tTup (tCons (tC (V.str "operation")) tNil))) tNil)))
theorem shw_op : Shw 13 1 (.tuple [.str "operation"]) := (Shw.tuple (ds := [.str "operation"]) (w := 12) (k := 0) (n := 1) (fun z hz => by
  rw [List.mem_singleton.mp hz]
  exact (sok_lett (z := "operation") (by decide) (by decide +kernel)).1) (Nat.le_refl 1)).mono (by decide) (by decide)
theorem shw_told {d : PyData} (h : Shw 564 1 d) : Shw 1130 2 (.tuple [.str "told", d]) := (Shw.tuple (ds := [.str "told", d]) (w := 564) (k := 1) (n := 2) (fun z hz => by
  simp only [List.mem_cons, List.not_mem_nil, or_false] at hz
  rcases hz with rfl | rfl
  · exact (sok_lett (z := "told") (by decide) (by decide +kernel)).1.mono (by decide) (by decide)
  · exact h) (Nat.le_refl 2)).mono (by decide) (by decide)
section
variable {K : PySem.W.Frag} {C CO : Addr} {T : List (Addr × Str)} {H : Hp} {x L : Addr} {v : V} {N : PlainD} {σ : L2.St} {Q : Bool → Hp → Prop}
theorem rd_askN (h2 : σ[2]? = some (some (.ref x))) (h6 : σ[6]? = some (some (.ref L))) (h7 : σ[7]? = some (some v)) (tb : Tabs T H) (net : NetAt K C H x N) (hL : H L = some (.lst [])) (ex : PySem.W.exmOne K (.ref CO) (.ref CO) = some true)
    (hcall : ∀ (G : Hp) (Qx : VK) (Ex : XK), ExtN H G → NetAt K C G x N → (∀ G', Same G G' → Ex (.ref CO) none G') → spRow K C CO [.ref x, v] G Qx Ex) (fin : ∀ Hz, ExtN H Hz → Tabs T Hz → Q false Hz) : tAsk K T C CO σ H Q := by
  obtain ⟨sh1, sh2, sh3⟩ := LW.Shw.rep shw_op (by decide) (by decide)
  refine ⟨tb, fun H10 e10 t10 => ?_⟩
  have net10 := NetAt.kl (KL.ext e10) net
  obtain ⟨dx, _, _, _, _, _, hx, _⟩ := id net10
  refine ⟨_, h2, x, dx, _, rfl, hx, by rfl, _, h7, hcall _ _ _ e10 net10 fun G' sG => ⟨ex, fun t nt => ?_⟩⟩
  have st := same_new (o := .tup [.str "operation"]) nt
  refine ⟨.ref t, .tuple [.str "operation"], rfl, .base (.tup (SqT.of upd_same) (.cons (.str _) .nil)) rfl, sh1, sh2, sh3, ?_⟩
  refine ⟨_, h6, by show 0 ≤ sizeLine; decide, fun e ne => ⟨.list [], .list [], .lst (SqL.of (same_new ne _ _ (st _ _ (sG _ _ (e10 _ _ hL fun _ z => nomatch z))))) .nil, .lst (SqL.of upd_same) .nil, by decide +kernel, by decide +kernel, _, rfl, ite0 (by decide +kernel) ⟨by show 1 ≤ sizeLine; decide, fun t2 nt2 => ⟨.ref t2, .tuple [.str "operation"], rfl, .base (.tup (SqT.of upd_same) (.cons (.str _) .nil)) rfl, sh1, sh2, sh3, rfl, _, rfl, ?_⟩⟩⟩⟩
  have sf := sG.trans (st.trans ((same_new (o := .lst []) ne).trans (same_new (o := .tup [.str "operation"]) nt2)))
  have e : (!decide (V.str (PyData.tuple [.str "operation"]).shown = V.str (PyData.tuple [.str "operation"]).shown)) = false := by rw [decide_eq_true rfl]; rfl
  rw [e]
  exact fin _ (e10.trans (Same.extN sf)) (DW.Tabs.same t10 sf)
theorem rd_askT {t ra : Addr} {a b : Str} {rq : RwT} (h2 : σ[2]? = some (some (.ref x))) (h6 : σ[6]? = some (some (.ref L))) (h7 : σ[7]? = some (some (.ref t))) (tb : Tabs T H) (net : NetAt K C H x N) (hL : H L = some (.lst [.ref ra])) (ok : OkN N) (ht : H t = some (.tup [.str a, .str b])) (hr : ((a, b), rq) ∈ toldR N)
    (uni : ∀ r', ((a, b), r') ∈ toldR N → rq = r') (rs : Rsm ((a, b), rq)) (hra : SqT K H ra [.str "bound", .str rq.1, .str rq.2.1, .int rq.2.2]) (fin : ∀ Hz, ExtN H Hz → Tabs T Hz → Q false Hz) : tAsk K T C CO σ H Q := by
  obtain ⟨sh1, sh2, sh3⟩ := LW.Shw.rep (shw_told rs.row) (by decide) (by decide)
  refine ⟨tb, fun H10 e10 t10 => ?_⟩
  have net10 := NetAt.kl (KL.ext e10) net
  obtain ⟨dx, _, _, _, _, _, hx, _⟩ := id net10
  refine ⟨_, h2, x, dx, _, rfl, hx, by rfl, _, h7, x, .ref t, N, rfl, net10, ok, .inl ⟨t, a, b, rfl, e10 _ _ ht (fun _ z => nomatch z), fun r' hr' u H11 s11 tv => ⟨by show 2 ≤ sizeLine; decide, fun q nq => ?_⟩, fun n => absurd (List.mem_map.mpr ⟨_, hr, rfl⟩) n⟩⟩
  obtain rfl := uni _ hr'
  have sq := same_new (o := .tup [.str "told", u]) nq
  refine ⟨.ref q, .tuple [.str "told", rowD rq], rfl, .base (.tup (SqT.of upd_same) (.cons (.str _) (.cons (Dp.same sq (dp_row tv)) .nil))) rfl, sh1, sh2, sh3, ?_⟩
  refine ⟨_, h6, by show 0 ≤ sizeLine; decide, fun e ne => ?_⟩
  have se := same_new (o := .lst []) ne
  have sA := s11.trans (sq.trans se)
  have hLA := sA _ _ (e10 _ _ hL fun _ z => nomatch z)
  have hrA : SqT K (upd (upd H11 q (.tup [.str "told", u])) e (.lst [])) ra [.str "bound", .str rq.1, .str rq.2.1, .int rq.2.2] := sqT_same sA (sqT_ext e10 hra)
  have shp : SeqAt.shaped (.list [rowD rq]) = true := by
    have o1 : PyData.strOk ("bound" : Str) = true := by decide +kernel
    have o2 : PyData.strOk rq.1 = true := rs.a.2
    have o3 : PyData.strOk rq.2.1 = true := rs.b.2
    simp [SeqAt.shaped, rowD, PyData.canLay0, PyData.canLayAll0, PyData.depth, PyData.depthAll, o1, o2, o3]
  refine ⟨.list [rowD rq], .list [], .lst (SqL.of hLA) (.cons (dp_row ⟨ra, rfl, hrA⟩) .nil), .lst (SqL.of upd_same) .nil, shp, by decide +kernel, _, rfl, ite1 (by simp [PyData.eqv, PyData.eqvAll]) ⟨_, h6, L, _, 0, _, rfl, rfl, SqL.of hLA, atI_nat (j := 0) rfl, by show 2 ≤ sizeLine; decide, fun q2 nq2 => ?_⟩⟩
  have s2 := same_new (o := .tup [.str "told", .ref ra]) nq2
  refine ⟨.ref q2, .tuple [.str "told", rowD rq], rfl, .base (.tup (SqT.of upd_same) (.cons (.str _) (.cons (dp_row ⟨ra, rfl, sqT_same s2 hrA⟩) .nil))) rfl, sh1, sh2, sh3, rfl, _, rfl, ?_⟩
  have e : (!decide (V.str (PyData.tuple [.str "told", rowD rq]).shown = V.str (PyData.tuple [.str "told", rowD rq]).shown)) = false := by rw [decide_eq_true rfl]; rfl
  rw [e]
  exact fin _ (e10.trans (Same.extN (sA.trans s2))) (DW.Tabs.same t10 (sA.trans s2))
end
abbrev s10 (D pl x : Addr) (x3 x4 x5 x6 x7 : Option V) : L2.St := [some (.ref D), some (.ref pl), some (.ref x), x3, x4, x5, x6, x7, none, none]
/-- what stands while words are asked -/
structure RrJ (K : PySem.W.Frag) (C : Addr) (T : List (Addr × Str)) (H0 : Hp) (D x d : Addr) (N : PlainD) (ps : List Addr) (H : Hp) : Prop where
  bt : ButN D H0 H
  dc : Dc H D
  tb : Tabs T H
  ld : H d = some (.lst (ps.map V.ref))
  dD : d ≠ D
  rp : RPs H ps (toldR (sortN N))
  net : NetAt K C H x (sortN N)
theorem noD_words : ∀ (l : List RowP), (PyData.tuple (l.map fun r => wrdD r.1)).hasDict = false
  | [] => rfl
  | _ :: l => noD_words l
theorem noD_rows : ∀ (l : List RowP), (PyData.list (l.map fun r => rowD r.2)).hasDict = false
  | [] => rfl
  | _ :: l => noD_rows l
section
variable {K : PySem.W.Frag} {C : Addr} {T : List (Addr × Str)} {H0 H H' : Hp} {D x d : Addr} {N : PlainD} {ps : List Addr}
theorem RrJ.ext (s : ExtN H H') (tb : Tabs T H') (j : RrJ K C T H0 D x d N ps H) : RrJ K C T H0 D x d N ps H' :=
  ⟨j.bt.trans (DW.ExtN.butN s), Dc.ext s j.dc, tb, s _ _ j.ld (fun _ z => nomatch z), j.dD, j.rp.tp (Tp.ext s), NetAt.kl (KL.ext s) j.net⟩
theorem RrJ.same (s : Same H H') (j : RrJ K C T H0 D x d N ps H) : RrJ K C T H0 D x d N ps H' := j.ext (Same.extN s) (DW.Tabs.same j.tb s)
theorem RrJ.roll (b : But D H H') (hD : Dc H' D) (j : RrJ K C T H0 D x d N ps H) : RrJ K C T H0 D x d N ps H' := by
  have k := KL.but j.dc b
  exact ⟨j.bt.trans (But.butN b), hD, tabs_but j.dc b j.tb, k.lst (fun z => j.dD (List.mem_singleton.mp z)) j.ld, j.dD, j.rp.tp (Tp.but j.dc b), NetAt.kl k j.net⟩
theorem gRW_mono {i j : Nat} {v : V} {σ : L2.St} {H : Hp} {P P' : L2.St → Hp → Prop} (hp : ∀ σ3 H3, P σ3 H3 → P' σ3 H3) (h : gTup K 2 (gCons (gName i) (gCons (gName j) gNil)) v σ H P) : gTup K 2 (gCons (gName i) (gCons (gName j) gNil)) v σ H P' := by
  obtain ⟨a, xs, e, sq, l, v1, r1, e1, v2, r2, e2, e3, h⟩ := h
  exact ⟨a, xs, e, sq, l, v1, r1, e1, v2, r2, e2, e3, hp _ _ h⟩
end
section
variable {P : Program} {w : World} {K : PySem.W.Frag} {mg : Str → Option Value} {base : Heap}
theorem ok_rr {T : List (Addr × Str)} {f c Pt fP fT fM fR C CO CU pT gT : Addr} {fd dP dT dM dR dTo : FuncData} (F : Fun K "_law_rows_right" "_law_rows_right" s_law_rows_right f fd) (tk : TkS K base mg T "_law_rows_right" "_law_rows_right" s_law_rows_right f c Pt)
    (CP : Cal P w K mg base 2 "_law_pick" ["dice", "items"] (spPick K) fP dP) (CT : Cal P w K mg base 1 "_law_nt_told" ["plain"] (spNt K) fT dT) (W : MetK P w K mg base CO CU fM dM) (cC : Cls K C) (RK : RowK P w K mg base C CO fR dR) (TK : PropK P w K mg base C "told" (rTold K) pT gT dTo)
    (ex : PySem.W.exmOne K (.ref CO) (.ref CO) = some true)
    (zD : mg "list" = none) (zP : mg "repr" = none) (zT : mg "tuple" = none) : FnG P w K mg base 8 f fd ["dice", "plain", "net"] (spRr K C T) := by
  obtain ⟨ocM, odM, kVM, docM, pmM, anM, cdM, ctM, oslM, edW, lkM, hcdM⟩ := W.F.ex
  refine fngL F scRr (fun vs H Q h => ?_) (fun cdv A outer s H vs Q hlk hr hgu h => ?_)
  · obtain ⟨D, pl, x, N, rfl, _⟩ := h
    rfl
  obtain ⟨oc, od, kV, doc, pm, an, ct, osl, lk⟩ := hlk
  obtain rfl := tk.code _ _ _ _ _ _ _ _ _ lk
  obtain ⟨D, pl, x, N, rfl, hD, npl, plain, net, ok, sm, tb, k⟩ := h
  subst edW
  refine ⟨_, C8.pss_cut (ps_set (i := 3) scRr.nd rfl (Or.inl rfl) (pe_cal (E := E0) CT hr rfl (pa_cons (pv 1) pa_nil)))
    (C8.pss_cut (ps_if (pt_cmpR op_ne (pe_callB (call_repr hgu hr.units) (by rfl) zP (by decide +kernel) (pa_cons (pe_prop (E := E0) (dvs := []) (pv 2) cC TK.o TK.G (hr.mono (by decide)) TK.b .nil pass0 (by rfl)) pa_nil))
        (pe_callB (call_repr hgu hr.units) (by rfl) zP (by decide +kernel) (pa_cons (pe_callTy call_tuple_of (by rfl) zT (by decide +kernel) (pa_cons (pe_lc (own := [("row", 8), ("word", 4)]) (g := gRW K) (tt := tYes) (te := tVar 4) rfl scRr.nd (pi_list (pv 3)) (blkOk_by (own := [("row", 8), ("word", 4)]) (N := rrN) (sc := defScope s_law_rows_right) (by decide +kernel))
          (fun _ _ _ _ _ => pg_tup rfl (pgs_cons (pg_name (i := 8) scRr.nd rfl (Or.inl rfl)) (pgs_cons (pg_name (i := 4) scRr.nd rfl (Or.inl rfl)) pgs_nil))) (fun _ _ _ _ _ => pts_nil) (fun _ _ _ _ _ => pv 4)) pa_nil)) pa_nil)) (nomark _)) (pss_one (ps_ret pe_bl)) pss_nil)
    (C8.pss_cut (ps_if (pt_cmpR (op_neD hr.units) (pe_lc (own := [("row", 8), ("word", 4)]) (g := gRW K) (tt := tTest (tOp rNe (tCB (rRepr K) (tCons (tRowM K C CO 4 E0) tNil)) (tCB (rRepr K) (tCons (tVar 8) tNil)))) (te := tC (.int 1)) rfl scRr.nd (pi_list (pv 3)) (blkOk_by (own := [("row", 8), ("word", 4)]) (N := rrN) (sc := defScope s_law_rows_right) (by decide +kernel))
          (fun _ _ _ _ _ => pg_tup rfl (pgs_cons (pg_name (i := 8) scRr.nd rfl (Or.inl rfl)) (pgs_cons (pg_name (i := 4) scRr.nd rfl (Or.inl rfl)) pgs_nil)))
          (fun _ _ _ _ _ => pts_one (pt_cmpR op_ne (pe_callB (call_repr hgu hr.units) (by rfl) zP (by decide +kernel) (pa_cons (pe_methX (k := 2) (pv 2) cC RK.m (FnGX.of RK.G) (hr.mono (by decide)) hgu RK.b .nil passes0 (pa_cons (pv 4) pa_nil)) pa_nil)) (pe_callB (call_repr hgu hr.units) (by rfl) zP (by decide +kernel) (pa_cons (pv 8) pa_nil)) (nomark _)))
          (fun _ _ _ _ _ => pe_int)) (pe_lst pa_nil) (nomark _)) (pss_one (ps_ret pe_bl)) pss_nil)
    (C8.pss_cut (ps_set (i := 4) scRr.nd rfl (Or.inl rfl) (pe_ix (r := rIxT K) ix_tup (pe_cal (E := E0) CP hr rfl (pa_cons (pv 0) (pa_cons (pv 3) pa_nil))) pe_int (fun _ _ => rfl)))
    (C8.pss_cut (ps_set (i := 5) scRr.nd rfl (Or.inl rfl) (pe_lst (pa_cons pe_non (pa_cons (pe_ix (r := rIxT K) ix_tup (pv 4) pe_int (fun _ _ => rfl)) (pa_cons (pe_callTy call_list_of (by rfl) zD (by decide +kernel) (pa_cons (pv 4) pa_nil)) (pa_cons (pe_revT (pv 4)) (pa_cons (pe_op (r := rCatT K) op_catT (pv 4) (pe_tup (pa_cons pe_int pa_nil)))
        (pa_cons (pe_slice sl_tup (pv 4) po_none (po_some pe_int)) (pa_cons (pe_tup (pa_cons (pe_ix (r := rIxT K) ix_tup (pv 4) pe_int (fun _ _ => rfl)) (pa_cons pe_str pa_nil))) (pa_cons (pe_tup (pa_cons pe_str (pa_cons (pe_ix (r := rIxT K) ix_tup (pv 4) pe_int (fun _ _ => rfl)) pa_nil))) pa_nil))))))))))
    (C8.pss_cut (ps_set (i := 5) scRr.nd rfl (Or.inl rfl) (pe_op op_cat (pv 5) (pe_lst (pa_cons (pe_tup (pa_cons pe_str (pa_cons pe_str pa_nil))) (pa_cons (pe_tup (pa_cons pe_str (pa_cons pe_str pa_nil))) (pa_cons (pe_tup (pa_cons pe_str (pa_cons pe_int pa_nil))) (pa_cons (pe_tup (pa_cons pe_str (pa_cons pe_str pa_nil)))
        (pa_cons (pe_tup (pa_cons (pv 4) (pa_cons (pv 4) pa_nil))) (pa_cons (pe_tup (pa_cons pe_str (pa_cons (pe_op op_add_str (pe_ix (r := rIxT K) ix_tup (pv 4) pe_int (fun _ _ => rfl)) pe_str) pa_nil))) (pa_cons (pe_tup pa_nil) pa_nil))))))))))
    (C8.pss_cut (ps_set (i := 5) scRr.nd rfl (Or.inl rfl) (pe_op op_cat (pv 5) (pe_lst (pa_cons (pe_tup (pa_cons pe_int (pa_cons (pe_ix (r := rIxT K) ix_tup (pv 4) pe_int (fun _ _ => rfl)) pa_nil))) (pa_cons (pe_tup (pa_cons pe_str (pa_cons pe_str pa_nil))) (pa_cons (pe_tup (pa_cons pe_str (pa_cons pe_str pa_nil))) pa_nil))))))
    (C8.pss_cut (ps_for PassesOwn.never rfl (pi_list (pv 5)) (pg_name (i := 7) scRr.nd rfl (.inr rfl))
      (pss_cons (ps_setLc (i := 6) (own := [("row", 8), ("other", 9)]) (g := gRO K) (tt := tTest (tOp (rEqD K) (tVar 9) (tVar 7))) (te := tVar 8) rfl scRr.nd rfl rfl (sw_true rfl rfl rfl (by decide +kernel)) (pi_list (pv 3)) (blkOk_by (own := [("row", 8), ("other", 9)]) (N := rrN) (sc := defScope s_law_rows_right) (by decide +kernel))
          (fun _ _ _ _ _ => pg_tup rfl (pgs_cons (pg_name (i := 8) scRr.nd rfl (Or.inl rfl)) (pgs_cons (pg_name (i := 9) scRr.nd rfl (Or.inl rfl)) pgs_nil))) (fun _ _ _ _ _ => pts_one (pt_cmpR (op_eqD hr.units) (pv 9) (pv 7) (nomark _))) (fun _ _ _ _ _ => pv 8))
      (pss_one (ps_if (pt_cmpR op_ne (pe_callB (call_repr hgu hr.units) (by rfl) zP (by decide +kernel) (pa_cons (pe_lamcallG (k := 4) (T := T) (Ng := ["call", "error"]) (TT := TMet K CO) (t := tRowM K C CO 7) rfl W.g W.kp hgu lkM hcdM W.b scMet rfl (.inl rfl) (met_gives W.hO W.hU) tk.tb rfl tk.mem tk.un (hr.mono (by decide)) (lamS_by (by rfl)) rfl (fun _ _ _ _ _ => rfl)
              (fun A outer s H E f c' hr2 hg2 => pe_methX (k := 2) (pv 2) cC RK.m (FnGX.of RK.G) (hr2.mono (by decide)) hg2 RK.b .nil (passE (takes_of rfl rfl rfl rfl)) (pa_cons (pv 7) pa_nil))) pa_nil))
          (pe_callB (call_repr hgu hr.units) (by rfl) zP (by decide +kernel) (pa_cons (pe_ifExp (pt_cmpR (op_neD hr.units) (pv 6) (pe_lst pa_nil) (nomark _)) (pe_tup (pa_cons pe_str (pa_cons (pe_ix (r := rIxL K) ix_list (pv 6) pe_int (fun _ _ => rfl)) pa_nil))) (pe_tup (pa_cons pe_str pa_nil))) pa_nil)) (nomark _)) (pss_one (ps_ret pe_bl)) pss_nil))))
    (pss_one (ps_ret pe_bl))))))))), ?_⟩
  have oks := ok.sort
  have nodup := told_nodup oks
  have tlen : (toldR (sortN N)).length ≤ 340 ∧ 1 ≤ (toldR (sortN N)).length := by
    have e := told_len (D := sortN N)
    have q1 := sm.sort.l
    have q2 := sm.sort.w
    have q3 := sm.sort.b
    have q4 := oks.l.len.1
    omega
  have rsm := told_sm oks
  -- told
  refine ⟨fun σ' H' => ∃ d ps, σ' = s10 D pl x (some (.ref d)) none none none none ∧ RrJ K C T H D x d N ps H', ?_, ?_⟩
  · refine ⟨_, rfl, pl, N, rfl, plain, ok, fun d ps H1 s1 nd hd rp => ⟨d, ps, rfl, ?_⟩⟩
    refine ⟨DW.ExtN.butN (Same.extN s1), hD.same s1, DW.Tabs.same tb s1, hd, ?_, rp, net.same s1⟩
    obtain ⟨d0, d1, d2, eD⟩ := hD
    exact (ne_of_none eD nd).symm
  rintro _ H1 ⟨d, ps, rfl, j1⟩
  have lps : ps.length = (toldR (sortN N)).length := Paired.length j1.rp
  -- the words
  refine ⟨fun σ' H' => σ' = s10 D pl x (some (.ref d)) none none none none ∧ RrJ K C T H D x d N ps H', ?_, ?_⟩
  · have shw : Shw (27 * 340) 2 (.tuple ((toldR (sortN N)).map fun r => wrdD r.1)) := Shw.tuple (w := 26) (k := 1) (n := 340) (fun z hz => by
      obtain ⟨r, hr, rfl⟩ := List.mem_map.mp hz
      exact (rsm r hr).wrd) (by rw [List.length_map]; exact tlen.1)
    obtain ⟨sh1, sh2, sh3⟩ := LW.Shw.rep shw (by decide) (by decide)
    obtain ⟨dx, _, _, _, _, _, hx, _⟩ := id j1.net
    refine ⟨_, rfl, x, dx, _, rfl, hx, x, sortN N, rfl, j1.net, oks, fun v H2 s2 r => ?_⟩
    obtain ⟨t, bs, rfl, nt, ht, pr⟩ := r
    have j2 := j1.same s2
    refine ⟨.ref t, _, rfl, .base (.tup (SqT.of ht) (dp_words (pairedMono (fun _ _ z => s2 _ _ z) pr))) (noD_words _), sh1, sh2, sh3, ?_⟩
    refine ⟨_, rfl, d, rfl, ⟨_, SqL.of j2.ld⟩, fun L nL => ?_⟩
    refine lc_it (walk_list (K := K) (a := d) (xs := ps.map V.ref)) (fun n H' => Same H2 H' ∧ ∃ ws : List Addr, H' L = some (.lst (ws.map V.ref)) ∧ Paired (fun (b : Addr) (r : RowP) => H' b = some (.tup [.str r.1.1, .str r.1.2])) ws ((toldR (sortN N)).take n)) ⟨same_new nL, [], upd_same, .nil⟩ (fun n H' _ q => SqL.of (q.1 _ _ j2.ld)) (fun n v H3 H4 hn q y => ?_) (fun H3 q => ?_)
    · obtain ⟨rfl, hv⟩ := y
      obtain ⟨s3, ws, hL, pw⟩ := q
      rw [List.getElem?_map] at hv
      obtain ⟨tt, htt, rfl⟩ := Option.map_eq_some_iff.mp hv
      obtain ⟨r, hr, ra, wa, g1, g2, g3⟩ := pairedAt (j2.same s3).rp htt
      refine ⟨tt, _, rfl, SqT.of g1, rfl, _, _, rfl, _, _, rfl, rfl, rfl, tyes ⟨_, rfl, _, hL, ?_, same_mut s3 nL, ws ++ [wa], by rw [upd_same, List.map_append]; rfl, ?_⟩⟩
      · have : ws.length = ((toldR (sortN N)).take n).length := Paired.length pw
        rw [List.length_take] at this
        rw [List.length_map, sizeLine_eq]
        omega
      · have tp := Tp.lst (o := .lst (ws.map V.ref ++ [.ref wa])) hL
        rw [List.take_add_one, hr]
        exact paired_snoc (pairedMono (fun _ _ z => tp _ _ z) pw) (tp _ _ g3)
    · obtain ⟨s3, ws, hL, pw⟩ := q
      rw [List.length_map, lps, List.take_length] at pw
      refine ⟨L, _, rfl, .inl ⟨SqL.of hL, fun l nl => ⟨.ref l, _, rfl, .base (.tup (SqT.of upd_same) (dp_words (pairedMono (fun _ _ z => same_new nl _ _ z) pw))) (noD_words _), sh1, sh2, sh3, rfl, _, rfl, ite0 (by simp) ⟨rfl, ?_⟩⟩⟩⟩
      exact j2.same (s3.trans (same_new nl))
  clear j1
  rintro _ H2 ⟨rfl, j2⟩
  have row_of : ∀ {a b : Str} {r r' : RwT}, ((a, b), r) ∈ toldR (sortN N) → ((a, b), r') ∈ toldR (sortN N) → r = r' := fun {a b r r'} h h' => by
    have f1 := filter_key nodup h
    have f2 := filter_key nodup h'
    rw [f1] at f2
    exact congrArg (fun l : List RowP => (l.head?.map (·.2)).getD r) f2
  -- the rows
  refine ⟨fun σ' H' => σ' = s10 D pl x (some (.ref d)) none none none none ∧ RrJ K C T H D x d N ps H', ?_, ?_⟩
  · refine ⟨_, rfl, d, rfl, ⟨_, SqL.of j2.ld⟩, fun L nL => ?_⟩
    refine no_it (K := K) (walk_list (a := d) (xs := ps.map V.ref)) nL (fun H' s => SqL.of (s _ _ j2.ld)) (fun v σ2 H2 P P' hp h => gRW_mono hp h) (fun i v H3 H4 hi s1 yy => ?_) (fun H' s1 sq => ?_)
    · obtain ⟨rfl, hv⟩ := yy
      have j3 := j2.same s1
      rw [List.getElem?_map] at hv
      obtain ⟨tt, htt, rfl⟩ := Option.map_eq_some_iff.mp hv
      obtain ⟨r, hr, ra, wa, g1, g2, g3⟩ := pairedAt j3.rp htt
      have hm : r ∈ toldR (sortN N) := List.mem_of_getElem? hr
      obtain ⟨sh1, sh2, sh3⟩ := LW.Shw.rep (rsm r hm).row (by decide) (by decide)
      refine ⟨tt, _, rfl, SqT.of g1, rfl, _, _, rfl, _, _, rfl, rfl, rfl, fun R hR => ?_⟩
      obtain ⟨dx, _, _, _, _, _, hx, _⟩ := id j3.net
      refine ⟨_, rfl, x, dx, _, rfl, hx, by rfl, _, rfl, x, .ref wa, sortN N, rfl, j3.net, oks, .inl ⟨wa, r.1.1, r.1.2, rfl, g3, fun r' hr' u H5 s5 tv => ?_, fun n => absurd (List.mem_map.mpr ⟨r, hm, rfl⟩) n⟩⟩
      obtain rfl := row_of hm hr'
      refine ⟨u, _, rfl, .base (dp_row tv) rfl, sh1, sh2, sh3, _, rfl, .ref ra, _, rfl, .base (dp_row ⟨ra, rfl, SqT.of (s5 _ _ g2)⟩) rfl, sh1, sh2, sh3, rfl, _, rfl, ?_⟩
      have e : (!decide (V.str (rowD r.2).shown = V.str (rowD r.2).shown)) = false := by simp
      rw [e]
      exact hR _ s5
    · refine ⟨by show 0 ≤ sizeLine; decide, fun e ne => ⟨.list [], .list [], .lst (sqL_wk (Wk.of (same_new ne)) sq) .nil, .lst (SqL.of upd_same) .nil, by decide +kernel, by decide +kernel, _, rfl, ite0 (by decide +kernel) ⟨rfl, ?_⟩⟩⟩
      exact j2.same (s1.trans (same_new ne))
  clear j2
  rintro _ H3 ⟨rfl, j3⟩
  -- a word
  refine ⟨fun σ' H' => ∃ (wa : Addr) (r : RowP), σ' = s10 D pl x (some (.ref d)) (some (.ref wa)) none none none ∧ r ∈ toldR (sortN N) ∧ H' wa = some (.tup [.str r.1.1, .str r.1.2]) ∧ RrJ K C T H D x d N ps H', ?_, ?_⟩
  · refine ⟨_, rfl, _, rfl, D, .ref d, rfl, j3.dc, .inl ⟨d, _, rfl, j3.dD, j3.ld, by rw [List.length_map]; omega, by rw [List.length_map]; omega, fun u H' hu bu hd => ?_⟩⟩
    obtain ⟨tt, ht, rfl⟩ := List.mem_map.mp hu
    have j4 := j3.roll bu hd
    obtain ⟨i, hi⟩ := List.getElem?_of_mem ht
    obtain ⟨r, hr, ra, wa, g1, g2, g3⟩ := pairedAt j4.rp hi
    exact ⟨tt, _, 1, _, rfl, rfl, SqT.of g1, atI_nat (j := 1) rfl, wa, r, rfl, List.mem_of_getElem? hr, g3, j4⟩
  clear j3
  rintro _ H4 ⟨wa, r, rfl, hm, hw, j4⟩
  have rs := rsm r hm
  have ls := rs.l1
  have ln := rs.l2
  have mo : ∀ {H H' : Hp} {v : V}, Same H H' → OddV K H v → OddV K H' v := fun s h => h.same s
  -- odd values
  refine ⟨fun σ' H' => ∃ (p : Addr) (vs : List V), σ' = s10 D pl x (some (.ref d)) (some (.ref wa)) (some (.ref p)) none none ∧ vs.length = 8 ∧ (∀ v ∈ vs, OddV K H' v) ∧ H' p = some (.lst vs) ∧ H' wa = some (.tup [.str r.1.1, .str r.1.2]) ∧ RrJ K C T H D x d N ps H', ?_, ?_⟩
  · refine gs_lst (R := OddV K) (σ := s10 D pl x (some (.ref d)) (some (.ref wa)) none none none) mo (gs_odd1 rfl hw rs.t.2 rs.n.2 ls) (by decide) (Same.refl _) fun p vs H' s1 np hp l hv => ⟨p, vs, rfl, l, hv, hp, s1 _ _ hw, j4.same s1⟩
  clear hw j4
  rintro _ H5 ⟨p, vs, rfl, l5, hv5, hp5, hw, j5⟩
  refine ⟨fun σ' H' => ∃ (p : Addr) (vs : List V), σ' = s10 D pl x (some (.ref d)) (some (.ref wa)) (some (.ref p)) none none ∧ vs.length = 15 ∧ (∀ v ∈ vs, OddV K H' v) ∧ H' p = some (.lst vs) ∧ H' wa = some (.tup [.str r.1.1, .str r.1.2]) ∧ RrJ K C T H D x d N ps H', ?_, ?_⟩
  · refine ⟨_, rfl, gs_lst (R := OddV K) (σ := s10 D pl x (some (.ref d)) (some (.ref wa)) (some (.ref p)) none none) mo (gs_odd2 rfl hw rs.t.2 rs.n.2 ln) (by decide) (Same.refl _) fun q us H' s1 nq hq l hu => ⟨p, q, vs, us, rfl, rfl, s1 _ _ hp5, hq, by rw [l5, l, sizeLine_eq]; omega, fun o no => ?_⟩⟩
    have s2 := s1.trans (same_new (o := .lst (vs ++ us)) no)
    refine ⟨o, vs ++ us, rfl, by rw [List.length_append, l5, l], fun v hv => ?_, upd_same, s2 _ _ hw, j5.same s2⟩
    rcases List.mem_append.mp hv with hv | hv
    · exact (hv5 v hv).same s2
    · exact (hu v hv).same (same_new no)
  clear hw j5 hp5 hv5 l5
  rintro _ H6 ⟨p, vs, rfl, l6, hv6, hp6, hw, j6⟩
  refine ⟨fun σ' H' => ∃ (p : Addr) (vs : List V), σ' = s10 D pl x (some (.ref d)) (some (.ref wa)) (some (.ref p)) none none ∧ (∀ v ∈ vs, OddV K H' v) ∧ H' p = some (.lst vs) ∧ RrJ K C T H D x d N ps H', ?_, ?_⟩
  · refine ⟨_, rfl, gs_lst (R := OddV K) (σ := s10 D pl x (some (.ref d)) (some (.ref wa)) (some (.ref p)) none none) mo (gs_odd3 rfl hw rs.n.2) (by decide) (Same.refl _) fun q us H' s1 nq hq l hu => ⟨p, q, vs, us, rfl, rfl, s1 _ _ hp6, hq, by rw [l6, l, sizeLine_eq]; omega, fun o no => ?_⟩⟩
    have s2 := s1.trans (same_new (o := .lst (vs ++ us)) no)
    refine ⟨o, vs ++ us, rfl, fun v hv => ?_, upd_same, j6.same s2⟩
    rcases List.mem_append.mp hv with hv | hv
    · exact (hv6 v hv).same s2
    · exact (hu v hv).same (same_new no)
  clear hw j6 hp6 hv6 l6
  rintro _ H7 ⟨p, vs, rfl, hv7, hp7, j7⟩
  -- each is asked
  refine ⟨fun σ' H' => ∃ d ps, RrJ K C T H D x d N ps H', ?_, ?_⟩
  · refine ⟨_, rfl, p, rfl, ⟨_, SqL.of hp7⟩, ?_⟩
    refine for_list (K := K) (xs := vs) (fun i σ H' => ∃ x6 x7, σ = s10 D pl x (some (.ref d)) (some (.ref wa)) (some (.ref p)) x6 x7 ∧ (∀ v ∈ vs, OddV K H' v) ∧ H' p = some (.lst vs) ∧ RrJ K C T H D x d N ps H')
      ⟨none, none, rfl, hv7, hp7, j7⟩ (fun i σ H' _ q => by obtain ⟨_, _, _, _, h, _⟩ := q; exact SqL.of h) (fun i v σ H' hi q => ?_) (fun σ H' q => by obtain ⟨_, _, _, _, _, h⟩ := q; exact ⟨d, ps, h⟩)
    obtain ⟨x6, x7, rfl, hv8, hp8, j8⟩ := q
    obtain ⟨dd, hpd, hnd, hfd, hsh, hk⟩ := hv8 v (List.mem_of_getElem? hi)
    obtain ⟨sel, hsel⟩ : ∃ sel : RowP → Bool, ∀ q, sel q = PyData.eqv (wrdD q.1) dd := ⟨_, fun _ => rfl⟩
    refine ⟨_, rfl, d, rfl, ⟨_, SqL.of j8.ld⟩, fun L nL => ?_⟩
    refine lc_it (walk_list (K := K) (a := d) (xs := ps.map V.ref)) (fun n H2 => Same H' H2 ∧ ∃ rs : List Addr, H2 L = some (.lst (rs.map V.ref)) ∧ Paired (fun (b : Addr) (r : RowP) => SqT K H2 b [.str "bound", .str r.2.1, .str r.2.2.1, .int r.2.2.2]) rs (((toldR (sortN N)).take n).filter sel)) ⟨same_new nL, [], upd_same, .nil⟩ (fun n H2 _ q => SqL.of (q.1 _ _ j8.ld)) (fun n u H3 H4 hn q y => ?_) (fun H9 q => ?_)
    · obtain ⟨rfl, hu⟩ := y
      obtain ⟨s3, rs', hL, pw⟩ := q
      rw [List.getElem?_map] at hu
      obtain ⟨tt, htt, rfl⟩ := Option.map_eq_some_iff.mp hu
      obtain ⟨q, hq, ra, wq, g1, g2, g3⟩ := pairedAt (j8.same s3).rp htt
      have qs := rsm q (List.mem_of_getElem? hq)
      have lr : rs'.length ≤ 340 := by
        have l1 : rs'.length = (((toldR (sortN N)).take n).filter sel).length := Paired.length pw
        have l2 := List.length_filter_le sel ((toldR (sortN N)).take n)
        rw [List.length_take] at l2
        omega
      refine ⟨tt, _, rfl, SqT.of g1, rfl, _, _, rfl, _, _, rfl, rfl, rfl, _, rfl, _, rfl, wrdD q.1, dd, dp_wrd g3, Dp.same s3 hpd, by simp [SeqAt.shaped, wrdD, PyData.canLay0, PyData.canLayAll0, PyData.depth, PyData.depthAll, qs.t.2, qs.n.2], hsh, _, rfl, ?_⟩
      rw [← hsel q]
      cases e : sel q with
      | true =>
        have tp := tk_lst (o := .lst (rs'.map V.ref ++ [.ref ra])) hL
        refine iteT ⟨_, rfl, _, hL, by rw [List.length_map, sizeLine_eq]; omega, same_mut s3 nL, rs' ++ [ra], by rw [upd_same, List.map_append]; rfl, ?_⟩
        rw [List.take_add_one, hq, List.filter_append, Option.toList_some, List.filter_cons, if_pos e, List.filter_nil]
        exact paired_snoc (pairedMono (fun _ _ z => z.elim (fun w => .inl (tp _ _ w)) .inr) pw) (.inl (tp _ _ (.inl g2)))
      | false =>
        refine iteF ⟨s3, rs', hL, ?_⟩
        rw [List.take_add_one, hq, List.filter_append, Option.toList_some, List.filter_cons, if_neg (by rw [e]; simp), List.filter_nil, List.append_nil]
        exact pw
    obtain ⟨s9, rs', hL, pw⟩ := q
    rw [List.length_map, lps, List.take_length] at pw
    have j9 := j8.same s9
    have fin : ∀ {Hz : Hp} {x6 x7 : Option V}, ExtN H9 Hz → Tabs T Hz → ∃ x6' x7', s10 D pl x (some (.ref d)) (some (.ref wa)) (some (.ref p)) x6 x7 = s10 D pl x (some (.ref d)) (some (.ref wa)) (some (.ref p)) x6' x7' ∧ (∀ v ∈ vs, OddV K Hz v) ∧ Hz p = some (.lst vs) ∧ RrJ K C T H D x d N ps Hz := fun e t =>
      ⟨_, _, rfl, fun v hv => ((hv8 v hv).same s9).ext e, e _ _ (s9 _ _ hp8) (fun _ z => nomatch z), j9.ext e t⟩
    have dich : ((toldR (sortN N)).filter sel = [] ∧ ∀ (G : Hp) (Qx : VK) (Ex : XK), ExtN H9 G → NetAt K C G x (sortN N) → (∀ G', Same G G' → Ex (.ref CO) none G') → spRow K C CO [.ref x, v] G Qx Ex) ∨ (∃ (t : Addr) (a b : Str) (rq : RwT), v = .ref t ∧ H' t = some (.tup [.str a, .str b]) ∧ ((a, b), rq) ∈ toldR (sortN N) ∧ (toldR (sortN N)).filter sel = [((a, b), rq)]) := by
      rcases hk with ⟨t, a, b, rfl, ht, rfl⟩ | pf
      · have hsel2 : sel = fun q => decide (q.1 = (a, b)) := funext fun q => by rw [hsel q]; exact eqv_two
        by_cases m : (a, b) ∈ (toldR (sortN N)).map (·.1)
        · obtain ⟨⟨k2, rq⟩, hr, e2⟩ := List.mem_map.mp m
          obtain rfl : k2 = (a, b) := e2
          exact .inr ⟨t, a, b, rq, rfl, ht, hr, by rw [hsel2]; exact filter_key nodup hr⟩
        · exact .inl ⟨by rw [hsel2]; exact filter_no m, fun G Qx Ex eG netG kE => ⟨x, .ref t, sortN N, rfl, netG, oks, .inl ⟨t, a, b, rfl, eG _ _ (s9 _ _ ht) (fun _ z => nomatch z), fun r' hr' => absurd (List.mem_map.mpr ⟨_, hr', rfl⟩) m, fun _ => kE⟩⟩⟩
      · exact .inl ⟨by rw [List.filter_eq_nil_iff]; intro q hq; rw [hsel q, eqv_wrd pf]; simp, fun G Qx Ex eG netG kE => ⟨x, v, sortN N, rfl, netG, oks, .inr ⟨dd, .base (Dp.ext eG (Dp.same s9 hpd)) hnd, hfd, pf, kE⟩⟩⟩
    rcases dich with ⟨ef, hcall⟩ | ⟨t, a, b, rq, rfl, ht, hr, ef⟩
    · rw [ef] at pw
      cases pw
      exact rd_askN (K := K) (T := T) (C := C) (CO := CO) (x := x) (L := L) (v := v) (N := sortN N) (σ := s10 D pl x (some (.ref d)) (some (.ref wa)) (some (.ref p)) (some (.ref L)) (some v)) rfl rfl rfl j9.tb j9.net hL ex hcall fun Hz e t => iteF (fin (x6 := some (.ref L)) (x7 := some v) e t)
    · rw [ef] at pw
      cases pw with
      | cons q0 pw0 =>
      cases pw0
      exact rd_askT (K := K) (T := T) (C := C) (CO := CO) (x := x) (L := L) (t := t) (N := sortN N) (σ := s10 D pl x (some (.ref d)) (some (.ref wa)) (some (.ref p)) (some (.ref L)) (some (.ref t))) rfl rfl rfl j9.tb j9.net hL oks (s9 _ _ ht) hr (fun r' h' => row_of hr h') (rsm _ hr) q0 fun Hz e t' => iteF (fin (x6 := some (.ref L)) (x7 := some (.ref t)) e t')
  rintro σ8 H8 ⟨d8, ps8, j8⟩
  exact k _ j8.bt j8.dc j8.tb
end
end LW
namespace LW
open PySem PySem.Spec PyProof.Rows L2 DW LamX
structure MethE (P : Program) (w : World) (K : PySem.W.Frag) (mg : Str → Option Value) (base : Heap) (C : Addr) (nm : Str) (R : PlainD → Str → V → Hp → Hp → Prop) (f : Addr) (fd : FuncData) : Prop where
  m : Meth K C nm f
  G : FnOk P w K mg base CX0 2 f fd ["self", "event"] (spEvt K C R)
  b : Binds K fd ["self", "event"] []
abbrev rLenN : PlainD → V → Hp → Hp → Prop := fun D v _ _ => v = .int (D.L.length : Nat)
abbrev rWkN : PlainD → Str → V → Hp → Hp → Prop := fun D z v _ _ => v = wkV (look (endW D.W) z)
structure NetL (P : Program) (w : World) (K : PySem.W.Frag) (mg : Str → Option Value) (base : Heap) (C f : Addr) (fd : FuncData) : Prop where
  G : FnOk P w K mg base CX0 1 f fd ["self"] (spGet K C rLenN)
  s : PySem.W.findIn K (.ref C) "__len__" = some (some (.ref f))
  fn : PySem.W.isFn K (.ref f) = true
  b : Binds K fd ["self"] []
structure NetI (P : Program) (w : World) (K : PySem.W.Frag) (mg : Str → Option Value) (base : Heap) (C f : Addr) (fd : FuncData) : Prop where
  G : FnOk P w K mg base CX0 1 f fd ["self", "value"] (spCon K C)
  s : PySem.W.findIn K (.ref C) "__contains__" = some (some (.ref f))
  fn : PySem.W.isFn K (.ref f) = true
  b : Binds K fd ["self", "value"] []
abbrev rNameT (K : PySem.W.Frag) : PlainD → V → Hp → Hp → Prop := rStrs K fun D => D.L.map (·.1)
abbrev rtN : List Str := ["dice", "plain", "net", "ends", "told", "deeds", "due", "event", "words", "some", "work", "one", "name"]
theorem scRt : FnScope rtN ["dice", "plain"] (defScope s_law_right) := ⟨rfl, rfl, rfl, by decide +kernel, rfl, by decide +kernel, by decide +kernel⟩
def spRt (K : PySem.W.Frag) (T : List (Addr × Str)) : Sp := fun vs H Q _ => ∃ (D pl : Addr) (N : PlainD), vs = [.ref D, .ref pl] ∧ Dc H D ∧ pl ≠ D ∧ PlainAt K H pl N ∧ OkN N ∧ SmallN N ∧ DrawnN N ∧ Tabs T H ∧ ∀ H', ButN D H H' → Dc H' D → Tabs T H' → Q (.bl true) H'
abbrev tPr (C : Addr) (R : Sp) : TE := tProp C R [] E0 (tVar 2)
structure NetP (P : Program) (w : World) (K : PySem.W.Frag) (mg : Str → Option Value) (base : Heap) (C p1 g1 p2 g2 p3 g3 p4 g4 p5 g5 p6 g6 p7 g7 : Addr) (d1 d2 d3 d4 d5 d6 d7 : FuncData) : Prop where
  la : PropK P w K mg base C "lasts" (rLasts K) p1 g1 d1
  wo : PropK P w K mg base C "works" (rWorks K) p2 g2 d2
  bo : PropK P w K mg base C "bounds" (rBounds K) p3 g3 d3
  ev : PropK P w K mg base C "events" (rNameT K) p4 g4 d4
  de : PropK P w K mg base C "deeds" (rStrs K deedsL) p5 g5 d5
  en : PropK P w K mg base C "ends" (rStrs K endsL) p6 g6 d6
  ho : PropK P w K mg base C "horizon" rHor p7 g7 d7
section
variable {X : Cx} {C p g : Addr} {fd : FuncData} {nm : Str} {R : PlainD → V → Hp → Hp → Prop} {o : Expr} {pos : Pos} {ta : TE}
theorem pe_pr (T : PropK X.prog X.w X.K X.mg X.base C nm R p g fd) (c : Cls X.K C) (hr : Room 2 X.A) (he : PE X o ta) (hab : attributeBase o nm X.env (eval o X.env) = eval o X.env := by rfl) : PE X (.Attribute o nm pos) (tProp C (spGet X.K C R) [] E0 ta) :=
  pe_prop (E := E0) (dvs := []) he c T.o T.G hr T.b .nil pass0 hab
end
end LW
namespace LW
open PySem PySem.Spec PyProof.Rows L2 DW LamX
theorem slot_q {σ : L2.St} {j : Nat} {u : V} (h : j < σ.length) : ((wipe σ [j]).set j (some u))[j]? = some (some u) := by
  simp [wipe, h]
structure RtJ (K : PySem.W.Frag) (C : Addr) (T : List (Addr × Str)) (H0 : Hp) (D pl x a b c : Addr) (N : PlainD) (H : Hp) : Prop where
  bt : But D H0 H
  dc : Dc H D
  tb : Tabs T H
  p : H pl = some (.lst [.ref a, .ref b, .ref c])
  ta : TD inD K H a N.L
  tw : TD wkD K H b N.W
  tc : TD bdD K H c N.B
  net : NetAt K C H x (sortN N)
section
variable {K : PySem.W.Frag} {C : Addr} {T : List (Addr × Str)} {H0 H H' : Hp} {D pl x a b c : Addr} {N : PlainD}
theorem RtJ.same (s : Same H H') (j : RtJ K C T H0 D pl x a b c N H) : RtJ K C T H0 D pl x a b c N H' :=
  ⟨j.bt.trans (Same.but s), j.dc.same s, DW.Tabs.same j.tb s, s _ _ j.p, j.ta.same s, j.tw.same s, j.tc.same s, j.net.same s⟩
theorem RtJ.roll (n : pl ≠ D) (bt : But D H H') (hD : Dc H' D) (j : RtJ K C T H0 D pl x a b c N H) : RtJ K C T H0 D pl x a b c N H' := by
  have k := KL.but j.dc bt
  exact ⟨j.bt.trans bt, hD, tabs_but j.dc bt j.tb, k.lst (fun z => n (List.mem_singleton.mp z)) j.p, TD.kl ge_in k j.ta, TD.kl ge_wk k j.tw, TD.kl ge_bd k j.tc, NetAt.kl k j.net⟩
theorem RtJ.plain (j : RtJ K C T H0 D pl x a b c N H) : PlainAt K H pl N := ⟨a, b, c, j.p, j.ta, j.tw, j.tc⟩
end
/-- a dict as shown data -/
def DzT (K : PySem.W.Frag) (H : Hp) (d : Addr) (z : PyData) : Prop := ∃ (α : Type) (enc : α → PyData) (rs : List (Str × α)), GE enc ∧ TD enc K H d rs ∧ z = dictD enc rs
theorem DzT.kl {K : PySem.W.Frag} {S : List Addr} {H H' : Hp} {d : Addr} {z : PyData} (k : KL S H H') (h : DzT K H d z) : DzT K H' d z := by
  obtain ⟨α, enc, rs, g, t, e⟩ := h
  exact ⟨α, enc, rs, g, TD.kl g k t, e⟩
theorem dz_all {K : PySem.W.Frag} {H : Hp} {ds : List Addr} {zs : List PyData} (h : Paired (fun d z => DzT K H d z) ds zs) : DzAll K H (ds.map V.ref) zs := by
  induction h with
  | nil => exact .nil
  | cons q t ih =>
    obtain ⟨α, enc, rs, g, td, rfl⟩ := q
    exact .cons (dz_td td) ih
abbrev tNets (K : PySem.W.Frag) (C : Addr) : L2.TT := tTest (tOp rNe (tCB (rReprZ K) (tCons (tLst (tCons (tPr C (spGet K C (rLasts K))) (tCons (tPr C (spGet K C (rWorks K))) (tCons (tPr C (spGet K C (rBounds K))) tNil)))) tNil)) (tCB (rReprZ K) (tCons (tLc (iList K (tVar 1)) (gName 11) tYes (tCall (spSor K) [] E0 (tCons (tVar 11) tNil)) [11]) tNil)))
section
variable {K : PySem.W.Frag} {C : Addr} {T : List (Addr × Str)} {H0 H : Hp} {D pl x a b c : Addr} {N : PlainD} {σ : L2.St} {Q : Bool → Hp → Prop}
theorem rd_nets (h1 : σ[1]? = some (some (.ref pl))) (h2 : σ[2]? = some (some (.ref x))) (hσ : 11 < σ.length) (ok : OkN N) (sm : SmallN N) (j : RtJ K C T H0 D pl x a b c N H) (k : ∀ H', Same H H' → Q false H') : tNets K C σ H Q := by
  have oks := ok.sort
  have shw := shw_net oks sm.sort
  have sh1 := shw.sho
  have sh2 := shw.len (by decide)
  have sh3 : (netD (sortN N)).depth ≤ 60 := Nat.le_trans shw.dep (by decide)
  have l1 := ok.l.len
  have l2 := ok.w.len
  have l3 := ok.b.len
  obtain ⟨dx, _, _, _, _, _, hx, _⟩ := id j.net
  refine ⟨_, h2, x, dx, _, rfl, hx, x, sortN N, rfl, j.net, oks, fun v1 H1 s1 r1 => ?_⟩
  obtain ⟨d1, rfl, n1, t1⟩ := r1
  have j1 := j.same s1
  refine ⟨_, h2, x, dx, _, rfl, s1 _ _ hx, x, sortN N, rfl, j1.net, oks, fun v2 H2 s2 r2 => ?_⟩
  obtain ⟨d2, rfl, n2, t2⟩ := r2
  have j2 := j1.same s2
  refine ⟨_, h2, x, dx, _, rfl, s2 _ _ (s1 _ _ hx), x, sortN N, rfl, j2.net, oks, fun v3 H3 s3 r3 => ?_⟩
  obtain ⟨d3, rfl, n3, t3⟩ := r3
  have j3 := j2.same s3
  refine ⟨by show 3 ≤ sizeLine; decide, fun q nq => ?_⟩
  have sq := same_new (o := .lst [.ref d1, .ref d2, .ref d3]) nq
  refine ⟨.ref q, netD (sortN N), rfl, .lst (SqL.of upd_same) (.cons (dz_td (t1.same (s2.trans (s3.trans sq)))) (.cons (dz_td (t2.same (s3.trans sq))) (.cons (dz_td (t3.same sq)) .nil))), sh1, sh2, sh3, ?_⟩
  have j4 := j3.same sq
  refine ⟨_, h1, pl, rfl, ⟨_, SqL.of j4.p⟩, fun L nL => ?_⟩
  refine lc_it (walk_list (K := K) (a := pl) (xs := [.ref a, .ref b, .ref c])) (fun n H' => Same (upd H3 q (.lst [.ref d1, .ref d2, .ref d3])) H' ∧ ∃ ds : List Addr, H' L = some (.lst (ds.map V.ref)) ∧ Paired (fun d z => DzT K H' d z) ds ([dictD inD (srtR N.L), dictD wkD (srtR N.W), dictD bdD (srtR N.B)].take n)) ⟨same_new nL, [], upd_same, .nil⟩ (fun n H' _ z => SqL.of (z.1 _ _ j4.p)) (fun n v H4 H5 hn z y => ?_) (fun H' z => ?_)
  · obtain ⟨rfl, hv⟩ := y
    obtain ⟨s4, ds, hL, pz⟩ := z
    have j5 := j4.same s4
    have lds : ds.length ≤ 3 := by
      have e : ds.length = ([dictD inD (srtR N.L), dictD wkD (srtR N.W), dictD bdD (srtR N.B)].take n).length := Paired.length pz
      rw [List.length_take] at e
      have : ([dictD inD (srtR N.L), dictD wkD (srtR N.W), dictD bdD (srtR N.B)] : List PyData).length = 3 := rfl
      omega
    have fin : ∀ (d : Addr) (H6 : Hp) (z : PyData), Same H5 H6 → DzT K H6 d z → [dictD inD (srtR N.L), dictD wkD (srtR N.W), dictD bdD (srtR N.B)][n]? = some z → ∃ acc, H6 L = some (.lst acc) ∧ acc.length < sizeLine ∧ Same (upd H3 q (.lst [.ref d1, .ref d2, .ref d3])) (upd H6 L (.lst (acc ++ [V.ref d]))) ∧ ∃ ds : List Addr, upd H6 L (.lst (acc ++ [V.ref d])) L = some (.lst (ds.map V.ref)) ∧ Paired (fun e w => DzT K (upd H6 L (.lst (acc ++ [V.ref d]))) e w) ds ([dictD inD (srtR N.L), dictD wkD (srtR N.W), dictD bdD (srtR N.B)].take (n + 1)) := fun d H6 z s6 dz hz => by
      have k6 := KL.put (o := .lst (ds.map V.ref ++ [V.ref d])) (s6 _ _ hL)
      refine ⟨ds.map V.ref, s6 _ _ hL, by rw [List.length_map, sizeLine_eq]; omega, same_mut (s4.trans s6) nL, ds ++ [d], by rw [upd_same, List.map_append]; rfl, ?_⟩
      rw [List.take_add_one, hz]
      exact paired_snoc (pairedMono (fun _ _ w => (w.kl (KL.same s6)).kl k6) pz) (dz.kl k6)
    match n, hn, hv with
    | 0, _, hv =>
      cases hv
      exact ⟨by simp [gName, wipe], tyes ⟨_, slot_q hσ, a, _, inD, N.L, rfl, j5.ta, ok.l.nd, by omega, fun d H6 s6 nd td => fin d H6 _ s6 ⟨_, _, _, ge_in, td, rfl⟩ rfl⟩⟩
    | 1, _, hv =>
      cases hv
      exact ⟨by simp [gName, wipe], tyes ⟨_, slot_q hσ, b, _, wkD, N.W, rfl, j5.tw, ok.w.nd, by omega, fun d H6 s6 nd td => fin d H6 _ s6 ⟨_, _, _, ge_wk, td, rfl⟩ rfl⟩⟩
    | 2, _, hv =>
      cases hv
      exact ⟨by simp [gName, wipe], tyes ⟨_, slot_q hσ, c, _, bdD, N.B, rfl, j5.tc, ok.b.nd, by omega, fun d H6 s6 nd td => fin d H6 _ s6 ⟨_, _, _, ge_bd, td, rfl⟩ rfl⟩⟩
    | n + 3, hn, _ => exact absurd (show n + 3 < 3 from hn) (by omega)
  · obtain ⟨s4, ds, hL, pz⟩ := z
    refine ⟨.ref L, netD (sortN N), rfl, .lst (SqL.of hL) (dz_all pz), sh1, sh2, sh3, rfl, _, rfl, ?_⟩
    have e : (!decide (V.str (netD (sortN N)).shown = V.str (netD (sortN N)).shown)) = false := by rw [decide_eq_true rfl]; rfl
    rw [e]
    exact k _ (s1.trans (s2.trans (s3.trans (sq.trans s4))))
end
/-- the ends, ascending -/
def endS (N : PlainD) : List Str := srt (N.W.map fun p => p.2.2.1)
abbrev tEnds (K : PySem.W.Frag) : TE := tCB (rSrt K) (tCons (tLc (iList K (tListVals (tOp (rIxL K) (tVar 1) (tC (.int 1))))) (gName 10) tYes (tOp (rIxT K) (tVar 10) (tC (.int 1))) [10]) tNil)
section
variable {K : PySem.W.Frag} {C : Addr} {T : List (Addr × Str)} {H0 H : Hp} {D pl x a b c : Addr} {N : PlainD} {σ : L2.St} {Q : VK}
theorem rd_ends (h1 : σ[1]? = some (some (.ref pl))) (hσ : 10 < σ.length) (ok : OkN N) (j : RtJ K C T H0 D pl x a b c N H) (k : ∀ p H', Same H H' → H' p = some (.lst ((endS N).map V.str)) → Q (.ref p) H') : tEnds K σ H Q := by
  obtain ⟨kb, hb, txb⟩ := j.tw
  have lb : kb.length = N.W.length := Paired.length txb
  have l2 := ok.w.len
  refine ⟨_, h1, pl, _, 1, _, rfl, rfl, SqL.of j.p, atI_nat (j := 1) rfl, b, kb, rfl, hb, fun q nq => ⟨q, rfl, ⟨_, SqL.of upd_same⟩, fun L nL => ?_⟩⟩
  have sq := same_new (o := .lst (kb.map (·.2))) nq
  refine lc_it (walk_list (K := K) (a := q) (xs := kb.map (·.2))) (fun n H' => Same (upd H q (.lst (kb.map (·.2)))) H' ∧ H' L = some (.lst (((N.W.take n).map fun p => p.2.2.1).map V.str))) ⟨same_new nL, upd_same⟩ (fun n H' _ z => SqL.of (z.1 _ _ upd_same)) (fun n v H1 H2 hn z y => ?_) (fun H' z => ?_)
  · obtain ⟨rfl, hv⟩ := y
    obtain ⟨s1, hL⟩ := z
    rw [List.getElem?_map] at hv
    obtain ⟨kv, hk, rfl⟩ := Option.map_eq_some_iff.mp hv
    obtain ⟨p, hp, _, dv⟩ := txb.at hk
    obtain ⟨t, e, ht⟩ := wk_at (Dp.same (sq.trans s1) dv)
    rw [e]
    refine ⟨by simp [gName, wipe], tyes ⟨_, slot_q hσ, t, _, 1, _, rfl, rfl, ht, atI_nat (j := 1) rfl, _, hL, ?_, same_mut s1 nL, ?_⟩⟩
    · rw [List.length_map, List.length_map, List.length_take, sizeLine_eq]
      omega
    · rw [upd_same, take_succ_map hp, List.map_append]
      rfl
  · obtain ⟨s1, hL⟩ := z
    rw [List.length_map, lb, List.take_length] at hL
    exact ⟨L, _, rfl, SqL.of hL, by rw [List.length_map]; omega, fun r nr => k r _ (sq.trans (s1.trans (same_new nr))) upd_same⟩
end
end LW
namespace LW
open PySem PySem.Spec PyProof.Rows L2 DW LamX
def nmS (N : PlainD) : List Str := srt (N.L.map fun p => p.1)
def deS (N : PlainD) : List Str := (nmS N).filter fun n => !decide (n ∈ endS N)
theorem ev_eq (N : PlainD) : (sortN N).L.map (·.1) = nmS N := srtR_names N.L
theorem endW_mem {N : PlainD} (ok : OkN N) (n : Str) : n ∈ (endW (sortN N).W).map (·.1) ↔ n ∈ endS N := by
  unfold endS
  rw [srt_mem]
  have e : (endW (sortN N).W).map (·.1) = (srtR N.W).map fun p => p.2.2.1 := by
    unfold endW sortN
    rw [List.map_map]
    rfl
  rw [e]
  exact ((srtR_perm ok.w.nd).map _).mem_iff
theorem de_eq {N : PlainD} (ok : OkN N) : deedsL (sortN N) = deS N := by
  unfold deedsL deS
  rw [ev_eq]
  refine List.filter_congr fun n _ => ?_
  rw [decide_eq_decide.mpr (endW_mem ok n)]
theorem ends_sub {N : PlainD} (ok : OkN N) {s : Str} (h : s ∈ N.W.map fun p => p.2.2.1) : s ∈ N.L.map fun p => p.1 := by
  obtain ⟨p, hp, rfl⟩ := List.mem_map.mp h
  have q := ok.w.wk p hp
  have e := q.e
  unfold knownB at e
  rw [decide_eq_false q.ne, Bool.false_or] at e
  exact of_decide_eq_true e
theorem en_eq {N : PlainD} (ok : OkN N) : endsL (sortN N) = endS N := by
  unfold endsL
  rw [ev_eq]
  have e1 : ((nmS N).filter fun n => decide (n ∈ (endW (sortN N).W).map (·.1))) = (nmS N).filter fun n => decide (n ∈ N.W.map fun p => p.2.2.1) := by
    refine List.filter_congr fun n _ => ?_
    have e : n ∈ (endW (sortN N).W).map (·.1) ↔ n ∈ N.W.map fun p => p.2.2.1 := (endW_mem ok n).trans (by unfold endS; exact srt_mem)
    rw [Bool.eq_iff_iff, decide_eq_true_iff, decide_eq_true_iff]
    exact e
  rw [e1]
  unfold nmS endS
  rw [← srt_filter]
  refine srt_congr ?_
  have nd1 : ((N.L.map fun p => p.1).filter fun n => decide (n ∈ N.W.map fun p => p.2.2.1)).Nodup := List.filter_sublist.nodup ok.l.nd
  refine sub_perm ok.w.ends (fun s hs => List.mem_filter.mpr ⟨ends_sub ok hs, decide_eq_true hs⟩) (nodup_len nd1 fun s hs => of_decide_eq_true (List.mem_filter.mp hs).2)
def strsD (l : List Str) : PyData := .tuple (l.map PyData.str)
def datD (N : PlainD) (m : Int) : PyData := .list [strsD (nmS N), strsD (deS N), strsD (endS N), .int m, .int (N.L.length : Nat)]
theorem noD_strs : ∀ l : List Str, PyData.hasDictAll (l.map PyData.str) = false
  | [] => rfl
  | _ :: l => noD_strs l
theorem noD_dat (N : PlainD) (m : Int) : (datD N m).hasDict = false := by
  simp [datD, strsD, PyData.hasDict, PyData.hasDictAll, noD_strs]
theorem shw_strs {l : List Str} (h : ∀ s ∈ l, nameS s = true) (hl : l.length ≤ 60) : Shw 780 1 (strsD l) := by
  refine (Shw.tuple (ds := l.map PyData.str) (w := 12) (k := 0) (n := 60) (fun d hd => ?_) (by rw [List.length_map]; exact hl)).mono (by decide) (by decide)
  obtain ⟨s, hs, rfl⟩ := List.mem_map.mp hd
  exact shw_name (h s hs)
theorem nm_names {N : PlainD} (ok : OkN N) : ∀ s ∈ nmS N, nameS s = true := fun s hs => by
  obtain ⟨p, hp, rfl⟩ := List.mem_map.mp (srt_mem.mp hs)
  exact ok.l.name p hp
theorem nm_len {N : PlainD} (sm : SmallN N) : (nmS N).length ≤ 60 := by
  unfold nmS
  rw [srt_len, List.length_map]
  exact sm.l
theorem en_names {N : PlainD} (ok : OkN N) : ∀ s ∈ endS N, nameS s = true := fun s hs => by
  obtain ⟨p, hp, e⟩ := List.mem_map.mp (ends_sub ok (srt_mem.mp hs))
  exact e ▸ ok.l.name p hp
theorem en_len {N : PlainD} (sm : SmallN N) : (endS N).length ≤ 60 := by
  unfold endS
  rw [srt_len, List.length_map]
  exact sm.w
theorem shw_dat {N : PlainD} (ok : OkN N) (sm : SmallN N) {m : Int} (hm : m ∈ N.L.map fun p => p.2) : Shw 3905 2 (datD N m) := by
  obtain ⟨p, hp, rfl⟩ := List.mem_map.mp hm
  have q := ok.l.tick p hp
  have l1 := sm.l
  refine (Shw.list (ds := [strsD (nmS N), strsD (deS N), strsD (endS N), .int p.2, .int (N.L.length : Nat)]) (w := 780) (k := 1) (n := 5) (fun d hd => ?_) (Nat.le_refl 5)).mono (by decide) (by decide)
  simp only [List.mem_cons, List.not_mem_nil, or_false] at hd
  rcases hd with rfl | rfl | rfl | rfl | rfl
  · exact shw_strs (nm_names ok) (nm_len sm)
  · exact shw_strs (fun s hs => nm_names ok s (List.mem_filter.mp hs).1) (Nat.le_trans (List.length_filter_le _ _) (nm_len sm))
  · exact shw_strs (en_names ok) (en_len sm)
  · exact (shw_num (i := p.2) (by omega)).mono (by decide) (by decide)
  · exact (shw_num (i := (N.L.length : Nat)) (by omega)).mono (by decide) (by decide)
theorem dp_strs {K : PySem.W.Frag} {H : Hp} : ∀ l : List Str, DpAll K H (l.map V.str) (l.map PyData.str)
  | [] => .nil
  | s :: l => .cons (.str s) (dp_strs l)
theorem dp_tup {K : PySem.W.Frag} {H : Hp} {t : Addr} {l : List Str} (h : H t = some (.tup (l.map V.str))) : Dp K H (.ref t) (strsD l) := .tup (SqT.of h) (dp_strs l)
def MaxN (N : PlainD) (m : Int) : Prop := m ∈ (N.L.map fun p => p.2) ∧ ∀ y ∈ (N.L.map fun p => p.2), y ≤ m
theorem MaxN.det {N : PlainD} {m n : Int} (h : MaxN N m) (g : MaxN N n) : m = n := by
  have a := h.2 _ g.1
  have b := g.2 _ h.1
  omega
abbrev tTold (K : PySem.W.Frag) (C : Addr) : TE := tLst (tCons (tPr C (spGet K C (rNameT K))) (tCons (tPr C (spGet K C (rStrs K deedsL))) (tCons (tPr C (spGet K C (rStrs K endsL))) (tCons (tPr C (spGet K C rHor)) (tCons (tCB (rLenI C (spGet K C rLenN)) (tCons (tVar 2) tNil)) tNil)))))
section
variable {K : PySem.W.Frag} {C : Addr} {T : List (Addr × Str)} {H0 H : Hp} {D pl x a b c : Addr} {N : PlainD} {σ : L2.St} {Q : VK}
theorem rd_told (h2 : σ[2]? = some (some (.ref x))) (ok : OkN N) (j : RtJ K C T H0 D pl x a b c N H) (k : ∀ q m H', Same H H' → MaxN N m → Dp K H' (.ref q) (datD N m) → Q (.ref q) H') : tTold K C σ H Q := by
  have oks := ok.sort
  have l1 := ok.l.len
  obtain ⟨dx, _, _, _, _, _, hx, _⟩ := id j.net
  refine ⟨_, h2, x, dx, _, rfl, hx, x, sortN N, rfl, j.net, oks, fun v1 H1 s1 r1 => ?_⟩
  obtain ⟨t1, rfl, n1, e1⟩ := r1
  have j1 := j.same s1
  refine ⟨_, h2, x, dx, _, rfl, s1 _ _ hx, x, sortN N, rfl, j1.net, oks, fun v2 H2 s2 r2 => ?_⟩
  obtain ⟨t2, rfl, n2, e2⟩ := r2
  have j2 := j1.same s2
  refine ⟨_, h2, x, dx, _, rfl, s2 _ _ (s1 _ _ hx), x, sortN N, rfl, j2.net, oks, fun v3 H3 s3 r3 => ?_⟩
  obtain ⟨t3, rfl, n3, e3⟩ := r3
  have j3 := j2.same s3
  refine ⟨_, h2, x, dx, _, rfl, s3 _ _ (s2 _ _ (s1 _ _ hx)), x, sortN N, rfl, j3.net, oks, fun v4 H4 s4 r4 => ?_⟩
  obtain ⟨m, rfl, m1, m2⟩ := r4
  have j4 := j3.same s4
  refine ⟨_, h2, x, rfl, j4.net.ins, x, sortN N, rfl, j4.net, oks, fun v5 H5 s5 r5 => ?_⟩
  have r5 : v5 = .int ((sortN N).L.length : Nat) := r5
  have ln : (sortN N).L.length = N.L.length := srtR_len N.L
  rw [ln] at r5
  subst r5
  refine ⟨N.L.length, rfl, by omega, by show 5 ≤ sizeLine; decide, fun q nq => ?_⟩
  have sq := same_new (o := .lst [.ref t1, .ref t2, .ref t3, .int m, .int (N.L.length : Nat)]) nq
  have mx : MaxN N m := by
    have pm := (srtR_perm ok.l.nd).map (fun p : Str × Int => p.2)
    exact ⟨pm.mem_iff.mp m1, fun y hy => m2 y (pm.mem_iff.mpr hy)⟩
  have e1 : H1 t1 = some (.tup ((nmS N).map V.str)) := by rw [← ev_eq]; exact e1
  rw [de_eq ok] at e2
  rw [en_eq ok] at e3
  refine k q m _ (s1.trans (s2.trans (s3.trans (s4.trans (s5.trans sq))))) mx (.lst (SqL.of upd_same) (.cons (dp_tup (sq _ _ (s5 _ _ (s4 _ _ (s3 _ _ (s2 _ _ e1)))))) (.cons (dp_tup (sq _ _ (s5 _ _ (s4 _ _ (s3 _ _ e2))))) (.cons (dp_tup (sq _ _ (s5 _ _ (s4 _ _ e3)))) (.cons (.int _) (.cons (.int _) .nil))))))
end
theorem inV_strs {n : Str} {l : List Str} : inV (.str n) (l.map V.str) = decide (n ∈ l) := by
  unfold inV
  rw [List.any_map, Bool.eq_iff_iff, List.any_eq_true, decide_eq_true_iff]
  constructor
  · rintro ⟨y, hy, e⟩
    have : y = n := by simpa [eqV] using e
    exact this ▸ hy
  · intro h
    exact ⟨n, h, by simp [eqV]⟩
theorem flat_strs : ∀ l : List Str, (l.map V.str).all flatV = true
  | [] => rfl
  | _ :: l => flat_strs l
abbrev tPl0 (K : PySem.W.Frag) : TE := tOp (rIxL K) (tVar 1) (tC (.int 0))
abbrev tNm (K : PySem.W.Frag) : TE := tCB (rSrtL K) (tCons (tPl0 K) tNil)
abbrev tDeeds (K : PySem.W.Frag) : TE := tLc (iList K (tNm K)) (gName 12) (tTest (tOp (rIn K true) (tVar 12) (tVar 3))) (tVar 12) [12]
abbrev tTupO (K : PySem.W.Frag) (te : TE) : TE := tCB (fun xs H Q => ∃ p ys, xs = [.ref p] ∧ ((SqL K H p ys ∧ ∀ l, H l = none → Q (.ref l) (upd H l (.tup ys))) ∨ (SqT K H p ys ∧ Q (.ref p) H))) (tCons te tNil)
abbrev tLenD (te : TE) : TE := tCB (fun xs H Q => ∃ a kvs, xs = [V.ref a] ∧ H a = some (.dK kvs) ∧ Q (.int kvs.length) H) (tCons te tNil)
abbrev tDue (K : PySem.W.Frag) : TE := tLst (tCons (tTupO K (tNm K)) (tCons (tTupO K (tVar 5)) (tCons (tTupO K (tVar 3)) (tCons (tCB (rMax K) (tCons (tListVals (tPl0 K)) tNil)) (tCons (tLenD (tPl0 K)) tNil)))))
section
variable {K : PySem.W.Frag} {C : Addr} {T : List (Addr × Str)} {H0 H : Hp} {D pl x a b c e : Addr} {N : PlainD} {σ : L2.St} {Q : VK}
theorem rd_nm (h1 : σ[1]? = some (some (.ref pl))) (ok : OkN N) (j : RtJ K C T H0 D pl x a b c N H) (k : ∀ p, H p = none → Q (.ref p) (upd H p (.lst ((nmS N).map V.str)))) : tNm K σ H Q := by
  have l1 := ok.l.len
  exact ⟨_, h1, pl, _, 0, _, rfl, rfl, SqL.of j.p, atI_nat (j := 0) rfl, .ref a, _, rfl, Lot.names (.inl ⟨a, rfl, j.ta⟩), by rw [List.length_map]; omega, k⟩
theorem rd_deeds (h1 : σ[1]? = some (some (.ref pl))) (h3 : σ[3]? = some (some (.ref e))) (hσ : 12 < σ.length) (ok : OkN N) (sm : SmallN N) (j : RtJ K C T H0 D pl x a b c N H) (he : H e = some (.lst ((endS N).map V.str)))
    (k : ∀ p H', Same H H' → H' p = some (.lst ((deS N).map V.str)) → Q (.ref p) H') : tDeeds K σ H Q := by
  refine rd_nm h1 ok j fun p np => ⟨p, rfl, ⟨_, SqL.of upd_same⟩, fun L nL => ?_⟩
  have sp := same_new (o := .lst ((nmS N).map V.str)) np
  refine lc_it (walk_list (K := K) (a := p) (xs := (nmS N).map V.str)) (fun n H' => Same (upd H p (.lst ((nmS N).map V.str))) H' ∧ H' L = some (.lst ((((nmS N).take n).filter fun n => !decide (n ∈ endS N)).map V.str))) ⟨same_new nL, upd_same⟩ (fun n H' _ z => SqL.of (z.1 _ _ upd_same)) (fun n v H1 H2 hn z y => ?_) (fun H' z => ?_)
  · obtain ⟨rfl, hv⟩ := y
    obtain ⟨s1, hL⟩ := z
    rw [List.getElem?_map] at hv
    obtain ⟨s, hs, rfl⟩ := Option.map_eq_some_iff.mp hv
    refine ⟨by simp [gName, wipe], _, slot_q hσ, _, by simp [wipe, List.getElem?_set, h3], e, _, rfl, .inl (SqL.of (s1 _ _ (sp _ _ he))), rfl, flat_strs _, _, rfl, ?_⟩
    rw [inV_strs]
    have ll : (((nmS N).take n).filter fun n => !decide (n ∈ endS N)).length ≤ 60 := by
      have q1 := List.length_filter_le (fun n => !decide (n ∈ endS N)) ((nmS N).take n)
      have q2 := nm_len sm
      rw [List.length_take] at q1
      omega
    show if (!decide (s ∈ endS N)) = true then _ else _
    cases em : (!decide (s ∈ endS N)) with
    | true =>
      refine iteT ⟨_, slot_q hσ, _, hL, by rw [List.length_map, sizeLine_eq]; omega, same_mut s1 nL, ?_⟩
      rw [upd_same, List.take_add_one, hs, List.filter_append, Option.toList_some, List.filter_cons, if_pos em, List.filter_nil, List.map_append]
      rfl
    | false =>
      refine iteF ⟨s1, ?_⟩
      rw [List.take_add_one, hs, List.filter_append, Option.toList_some, List.filter_cons, if_neg (by rw [em]; simp), List.filter_nil, List.append_nil]
      exact hL
  · obtain ⟨s1, hL⟩ := z
    rw [List.length_map, List.take_length] at hL
    exact k L _ (sp.trans s1) hL
theorem rd_due {de : Addr} (h1 : σ[1]? = some (some (.ref pl))) (h3 : σ[3]? = some (some (.ref e))) (h5 : σ[5]? = some (some (.ref de))) (ok : OkN N) (j : RtJ K C T H0 D pl x a b c N H) (he : H e = some (.lst ((endS N).map V.str))) (hd : H de = some (.lst ((deS N).map V.str)))
    (k : ∀ q m H', Same H H' → MaxN N m → Dp K H' (.ref q) (datD N m) → Q (.ref q) H') : tDue K σ H Q := by
  obtain ⟨ka, ha, txa⟩ := j.ta
  have la : ka.length = N.L.length := Paired.length txa
  have l1 := ok.l.len
  refine rd_nm h1 ok j fun p np => ⟨p, _, rfl, .inl ⟨SqL.of upd_same, fun t1 n1 => ?_⟩⟩
  have s1 := (same_new (o := .lst ((nmS N).map V.str)) np).trans (same_new (o := .tup ((nmS N).map V.str)) n1)
  have g1 : upd (upd H p (.lst ((nmS N).map V.str))) t1 (.tup ((nmS N).map V.str)) t1 = _ := upd_same
  generalize upd (upd H p (.lst ((nmS N).map V.str))) t1 (.tup ((nmS N).map V.str)) = G1 at s1 g1 ⊢
  refine ⟨_, h5, de, _, rfl, .inl ⟨SqL.of (s1 _ _ hd), fun t2 n2 => ?_⟩⟩
  have s2 := same_new (o := .tup ((deS N).map V.str)) n2
  have g2 : upd G1 t2 (.tup ((deS N).map V.str)) t2 = _ := upd_same
  generalize upd G1 t2 (.tup ((deS N).map V.str)) = G2 at s2 g2 ⊢
  refine ⟨_, h3, e, _, rfl, .inl ⟨SqL.of (s2 _ _ (s1 _ _ he)), fun t3 n3 => ?_⟩⟩
  have s3 := same_new (o := .tup ((endS N).map V.str)) n3
  have g3 : upd G2 t3 (.tup ((endS N).map V.str)) t3 = _ := upd_same
  generalize upd G2 t3 (.tup ((endS N).map V.str)) = G3 at s3 g3 ⊢
  have s13 := s1.trans (s2.trans s3)
  refine ⟨_, h1, pl, _, 0, _, rfl, rfl, SqL.of (s13 _ _ j.p), atI_nat (j := 0) rfl, a, ka, rfl, s13 _ _ ha, fun r nr => ?_⟩
  have sr := same_new (o := .lst (ka.map (·.2))) nr
  have ev : ka.map (·.2) = (N.L.map fun p => p.2).map V.int := by
    clear ha la sr nr
    have : ∀ {kvs : List (Key × V)} {rs : List (Str × Int)}, Tx inD K H kvs rs → kvs.map (·.2) = (rs.map fun p => p.2).map V.int := by
      intro kvs rs h
      induction h with
      | nil => rfl
      | cons q t ih =>
        rw [List.map_cons, List.map_cons, List.map_cons, ih, in_at q.2]
    exact this txa
  refine ⟨r, N.L.map fun p => p.2, rfl, SqL.of (by rw [upd_same, ev]), by rw [List.length_map]; omega, fun m m1 m2 => ?_⟩
  refine ⟨_, h1, pl, _, 0, _, rfl, rfl, SqL.of (sr _ _ (s13 _ _ j.p)), atI_nat (j := 0) rfl, a, ka, rfl, sr _ _ (s13 _ _ ha), ?_⟩
  rw [la]
  refine ⟨by show 5 ≤ sizeLine; decide, fun q nq => ?_⟩
  have sq := same_new (o := .lst [.ref t1, .ref t2, .ref t3, .int m, .int (N.L.length : Nat)]) nq
  refine k q m _ (s13.trans (sr.trans sq)) ⟨m1, m2⟩ (.lst (SqL.of upd_same) (.cons (dp_tup (sq _ _ (sr _ _ (s3 _ _ (s2 _ _ g1))))) (.cons (dp_tup (sq _ _ (sr _ _ (s3 _ _ g2)))) (.cons (dp_tup (sq _ _ (sr _ _ g3))) (.cons (.int _) (.cons (.int _) .nil))))))
end
end LW
namespace LW
open PySem PySem.Spec PyProof.Rows L2 DW LamX
def wkvD : Option Str → PyData
  | some n => .str n
  | none => .none
theorem dp_wkv {K : PySem.W.Frag} {H : Hp} : ∀ o : Option Str, Dp K H (wkV o) (wkvD o)
  | some n => .str n
  | none => .non
def evD (N : PlainD) (z r : Str) (ch : List Str) : PyData := .list [wkvD (look (endW N.W) z), .tuple [.str r, strsD ch]]
theorem Road.known {L : Ls} {W : Ws} (ok : OkW L W) {z r : Str} {ch : List Str} (h : Road W z r ch) (hz : knownB L z = true) : knownB L r = true ∧ ∀ n ∈ ch, nameS n = true := by
  induction h with
  | stop e => exact ⟨hz, fun n m => by cases m⟩
  | step e lx _ ih =>
    have m := look_mem lx
    obtain ⟨k1, k2⟩ := ih (ok.wk _ m).b
    refine ⟨k1, fun n hn => ?_⟩
    rcases List.mem_append.mp hn with hn | hn
    · exact k2 n hn
    · rw [List.mem_singleton.mp hn]
      exact ok.name _ m
theorem shw_wkv {N : PlainD} (ok : OkN N) (z : Str) : Shw 12 0 (wkvD (look (endW N.W) z)) := by
  cases e : look (endW N.W) z with
  | none => exact Shw.non.mono (by decide) (by decide)
  | some n =>
    obtain ⟨p, hp, e2⟩ := List.mem_map.mp (look_mem e)
    cases e2
    exact shw_name (ok.w.name p hp)
theorem shw_ev {N : PlainD} (ok : OkN N) {z r : Str} {ch : List Str} (h : Road N.W z r ch) (hz : knownB N.L z = true) : Shw 3126 3 (evD N z r ch) := by
  obtain ⟨k1, k2⟩ := h.known ok.w hz
  have l1 := h.len ok.w
  have l2 := ok.w.len
  have t1 : Shw 1562 2 (.tuple [.str r, strsD ch]) := (Shw.tuple (ds := [.str r, strsD ch]) (w := 780) (k := 1) (n := 2) (fun d hd => by
    simp only [List.mem_cons, List.not_mem_nil, or_false] at hd
    rcases hd with rfl | rfl
    · exact (shw_known ok.l k1).mono (by decide) (by decide)
    · exact shw_strs k2 (by omega)) (Nat.le_refl 2)).mono (by decide) (by decide)
  refine (Shw.list (ds := [wkvD (look (endW N.W) z), .tuple [.str r, strsD ch]]) (w := 1562) (k := 2) (n := 2) (fun d hd => ?_) (Nat.le_refl 2)).mono (by decide) (by decide)
  simp only [List.mem_cons, List.not_mem_nil, or_false] at hd
  rcases hd with rfl | rfl
  · exact (shw_wkv ok z).mono (by decide) (by decide)
  · exact t1
theorem noD_ev (N : PlainD) (z r : Str) (ch : List Str) : (evD N z r ch).hasDict = false := by
  unfold evD
  cases look (endW N.W) z <;> simp [wkvD, strsD, PyData.hasDict, PyData.hasDictAll, noD_strs]
/-- the works that end at z -/
def byEnd (W : Ws) (z : Str) : List Str := (W.filter fun p => decide (p.2.2.1 = z)).map fun p => p.1
theorem byEnd_look : ∀ (W : Ws) (z : Str), ((byEnd W z).map V.str ++ [V.non])[0]? = some (wkV (look (endW W) z))
  | [], z => rfl
  | p :: W, z => by
    unfold byEnd endW
    rw [List.filter_cons, List.map_cons]
    by_cases e : p.2.2.1 = z
    · rw [if_pos (decide_eq_true e)]
      have : look ((p.2.2.1, p.1) :: W.map fun p => (p.2.2.1, p.1)) z = some p.1 := by
        simp [look, e]
      rw [this]
      rfl
    · rw [if_neg (by simpa using e)]
      have : look ((p.2.2.1, p.1) :: W.map fun p => (p.2.2.1, p.1)) z = look (endW W) z := by
        unfold endW
        simp [look, e]
      rw [this]
      exact byEnd_look W z
abbrev tDue2 (K : PySem.W.Frag) : TE := tOp rCat (tLockE (tLc (iKeys (tOp (rIxL K) (tVar 1) (tC (.int 1)))) (gName 12) (tTest (tOp rEq (tOp (rIxT K) (tDGet (tOp (rIxL K) (tVar 1) (tC (.int 1))) (tVar 12)) (tC (.int 1))) (tVar 7))) (tVar 12) [12])) (tLst (tCons (tC .non) tNil))
abbrev tEvt (K : PySem.W.Frag) (C : Addr) : L2.TT := tTest (tOp rNe (tCB (rRepr K) (tCons (tLst (tCons (tMeth C "work_of" (spEvt K C rWkN) [] E0 (tVar 2) (tCons (tVar 7) tNil)) (tCons (tMeth C "road" (spEvt K C (rRoad K)) [] E0 (tVar 2) (tCons (tVar 7) tNil)) tNil))) tNil))
  (tCB (rRepr K) (tCons (tLst (tCons (tOp (rIxL K) (tVar 6) (tC (.int 0))) (tCons (tCall (spRoa K) [] E0 (tCons (tVar 1) (tCons (tVar 7) tNil))) tNil))) tNil)))
section
variable {K : PySem.W.Frag} {C : Addr} {T : List (Addr × Str)} {H0 H : Hp} {D pl x a b c : Addr} {N : PlainD} {σ : L2.St} {z : Str}
theorem rd_due2 {Q : VK} (h1 : σ[1]? = some (some (.ref pl))) (h7 : σ[7]? = some (some (.str z))) (hσ : 12 < σ.length) (ok : OkN N) (j : RtJ K C T H0 D pl x a b c N H) (k : ∀ p H', Same H H' → H' p = some (.lst ((byEnd N.W z).map V.str ++ [V.non])) → Q (.ref p) H') : tDue2 K σ H Q := by
  obtain ⟨kb, hb, txb⟩ := id j.tw
  have lb : kb.length = N.W.length := Paired.length txb
  have l60 := ok.w.len
  have plb : pl ≠ b := ne_of j.p hb (fun z => nomatch z)
  refine ⟨b, _, hb, mut_dK, fun od => ⟨_, h1, pl, _, 1, _, rfl, rfl, SqL.of (by rw [upd_ne plb]; exact j.p), atI_nat (j := 1) rfl, b, od, rfl, .inl ⟨kb, upd_same, fun d nd => ?_⟩⟩⟩
  refine lc_it (walk_keys (d := b) (o := od) (kvs := kb)) (fun n H' => Same (upd H b (.frz od (.dK kb))) H' ∧ H' d = some (.lst ((byEnd (N.W.take n) z).map V.str))) ⟨same_new nd, upd_same⟩ (fun n H' _ q => q.1 _ _ upd_same) (fun n v H1 H2 hn q y => ?_) (fun H' q => ?_)
  · obtain ⟨rfl, key, v', hk, rfl⟩ := y
    obtain ⟨s1, hd⟩ := q
    obtain ⟨p, hp, e, dv⟩ := txb.at hk
    have e : key = .inr p.1 := e
    subst e
    have tr : TR wkD K H2 b N.W := TR.wk ((Wk.lock hb (fun _ _ z => nomatch z)).trans (Wk.of s1)) ⟨kb, .inl hb, txb⟩
    obtain ⟨u, g, du⟩ := tr.get (DW.look_of ok.w.nd (List.mem_of_getElem? hp))
    obtain ⟨t, rfl, ht⟩ := wk_at du
    have hpl2 : H2 pl = some (.lst [.ref a, .ref b, .ref c]) := s1 _ _ (by rw [upd_ne plb]; exact j.p)
    have s1' : ((wipe σ [12]).set 12 (some (.str p.1)))[1]? = some (some (.ref pl)) := by simp [wipe, List.getElem?_set, h1]
    have s7' : ((wipe σ [12]).set 12 (some (.str p.1)))[7]? = some (some (.str z)) := by simp [wipe, List.getElem?_set, h7]
    refine ⟨by simp [gName, wipe], _, s1', pl, _, 1, _, rfl, rfl, SqL.of hpl2, atI_nat (j := 1) rfl, _, slot_q hσ, b, _, rfl, g, t, _, 1, .str p.2.2.1, rfl, rfl, ht, atI_nat (j := 1) rfl, _, s7', rfl, _, rfl, ?_⟩
    rw [dec_strV]
    have ll : (byEnd (N.W.take n) z).length ≤ 60 := by
      unfold byEnd
      rw [List.length_map]
      have q1 := List.length_filter_le (fun p : Str × WkT => decide (p.2.2.1 = z)) (N.W.take n)
      rw [List.length_take] at q1
      omega
    have st : byEnd (N.W.take (n + 1)) z = byEnd (N.W.take n) z ++ (if p.2.2.1 = z then [p.1] else []) := by
      unfold byEnd
      rw [List.take_add_one, hp, List.filter_append, Option.toList_some, List.map_append, List.filter_cons]
      by_cases e : p.2.2.1 = z
      · simp [e]
      · simp [e]
    by_cases e : p.2.2.1 = z
    · rw [decide_eq_true e]
      refine iteT ⟨_, slot_q hσ, _, hd, by rw [List.length_map, sizeLine_eq]; omega, same_mut s1 nd, ?_⟩
      rw [upd_same, st, if_pos e, List.map_append]
      rfl
    · rw [decide_eq_false e]
      refine iteF ⟨s1, ?_⟩
      rw [st, if_neg e, List.append_nil]
      exact hd
  · obtain ⟨s1, hd⟩ := q
    rw [lb, List.take_length] at hd
    obtain ⟨z1, s3⟩ := unlock hb s1
    have n2 : H d = none := by
      have : d ≠ b := fun e => by rw [e, upd_same] at nd; cases nd
      rw [upd_ne this] at nd
      exact nd
    have hd3 := unlock_at (od := od) hb n2 hd
    refine ⟨z1, by show 1 ≤ sizeLine; decide, fun q nq => ⟨d, q, _, _, rfl, rfl, same_new nq _ _ hd3, upd_same, ?_, fun r nr => k r _ (s3.trans ((same_new nq).trans (same_new nr))) upd_same⟩⟩
    have ll : (byEnd N.W z).length ≤ 60 := by
      unfold byEnd
      rw [List.length_map]
      have q1 := List.length_filter_le (fun p : Str × WkT => decide (p.2.2.1 = z)) N.W
      omega
    rw [List.length_map, sizeLine_eq]
    show _ + 1 ≤ _
    omega
theorem rd_evt {q : Addr} {Q : Bool → Hp → Prop} (h1 : σ[1]? = some (some (.ref pl))) (h2 : σ[2]? = some (some (.ref x))) (h6 : σ[6]? = some (some (.ref q))) (h7 : σ[7]? = some (some (.str z))) (hq : H q = some (.lst ((byEnd N.W z).map V.str ++ [V.non]))) (ok : OkN N) (hz : knownB N.L z = true) (j : RtJ K C T H0 D pl x a b c N H) (k : ∀ H', Same H H' → Q false H') : tEvt K C σ H Q := by
  have oks := ok.sort
  have hzs : knownB (sortN N).L z = true := (knownB_sort ok.l.nd z).trans hz
  obtain ⟨dx, _, _, _, _, _, hx, _⟩ := id j.net
  refine ⟨_, h2, x, dx, _, rfl, hx, by rfl, _, h7, x, z, sortN N, rfl, j.net, oks, hzs, fun v1 H1 s1 r1 => ?_⟩
  have r1 : v1 = wkV (look (endW (sortN N).W) z) := r1
  rw [show look (endW (sortN N).W) z = look (endW N.W) z from endW_sort ok.w z] at r1
  subst r1
  have j1 := j.same s1
  refine ⟨_, h2, x, dx, _, rfl, s1 _ _ hx, by rfl, _, h7, x, z, sortN N, rfl, j1.net, oks, hzs, fun v2 H2 s2 r2 => ?_⟩
  obtain ⟨t, u, root, ch, rfl, hro, ht, hu⟩ := r2
  have hro : Road N.W z root ch := hro.congr (fun s => endW_sort ok.w s) (fun n => srtR_look ok.w.nd n)
  have j2 := j1.same s2
  have shw := shw_ev ok hro hz
  obtain ⟨sh1, sh2, sh3⟩ := LW.Shw.rep shw (by decide) (by decide)
  refine ⟨by show 2 ≤ sizeLine; decide, fun l nl => ?_⟩
  have sl := same_new (o := .lst [wkV (look (endW N.W) z), .ref t]) nl
  refine ⟨.ref l, evD N z root ch, rfl, .base (.lst (SqL.of upd_same) (.cons (dp_wkv _) (.cons (.tup (SqT.of (sl _ _ ht)) (.cons (.str _) (.cons (dp_tup (sl _ _ hu)) .nil))) .nil))) (noD_ev _ _ _ _), sh1, sh2, sh3, ?_⟩
  have j3 := j2.same sl
  have hq3 := sl _ _ (s2 _ _ (s1 _ _ hq))
  refine ⟨_, h6, q, _, 0, _, rfl, rfl, SqL.of hq3, atI_nat (j := 0) (byEnd_look N.W z), _, h1, _, h7, pl, z, N, rfl, j3.plain, ok, fun v3 H4 s4 r3 => ?_⟩
  obtain ⟨t', u', root', ch', rfl, hro', ht', hu'⟩ := r3
  obtain ⟨rfl, rfl⟩ := hro.det hro'
  refine ⟨by show 2 ≤ sizeLine; decide, fun m nm => ?_⟩
  have sm := same_new (o := .lst [wkV (look (endW N.W) z), .ref t']) nm
  refine ⟨.ref m, evD N z root ch, rfl, .base (.lst (SqL.of upd_same) (.cons (dp_wkv _) (.cons (.tup (SqT.of (sm _ _ ht')) (.cons (.str _) (.cons (dp_tup (sm _ _ hu')) .nil))) .nil))) (noD_ev _ _ _ _), sh1, sh2, sh3, rfl, _, rfl, ?_⟩
  have e : (!decide (V.str (evD N z root ch).shown = V.str (evD N z root ch).shown)) = false := by rw [decide_eq_true rfl]; rfl
  rw [e]
  exact k _ (s1.trans (s2.trans (sl.trans (s4.trans sm))))
end
end LW
namespace LW
open PySem PySem.Spec PyProof.Rows L2 DW LamX
abbrev rAddS : R2 := fun x y H Q => ∃ i j, x = .str i ∧ y = .str j ∧ i.length + j.length ≤ sizeLine ∧ Q (.str (i ++ j)) H
abbrev tStrL (K : PySem.W.Frag) (i : Int) : TE := tCB (fun xs H Q => ∃ i, xs = [.int i] ∧ i.natAbs.log2 < 1920 ∧ Q (.str (toString i)) H) (tCons (tLenD (tOp (rIxL K) (tVar 1) (tC (.int i)))) tNil)
abbrev tW1 (K : PySem.W.Frag) : TE := tOp rAddS (tOp rAddS (tOp rAddS (tOp rAddS (tC (.str "net of ")) (tStrL K 0)) (tC (.str " events, "))) (tStrL K 1)) (tC (.str " works, "))
abbrev tW2 (K : PySem.W.Frag) : TE := tOp rAddS (tOp rAddS (tVar 8) (tStrL K 2)) (tC (.str " bounds"))
def w1S (N : PlainD) : Str := (((("net of " : Str) ++ nS N.L.length) ++ (" events, " : Str)) ++ nS N.W.length) ++ (" works, " : Str)
theorem len_app (a b : Str) : (a ++ b).length = a.length + b.length := by
  show (a.cps ++ b.cps).size = _
  rw [Array.size_append]
  rfl
theorem w1_len {N : PlainD} (l1 : N.L.length ≤ 400) (l2 : N.W.length ≤ 400) : (w1S N).length ≤ 300 := by
  unfold w1S
  have a1 := nS_len l1
  have a2 := nS_len l2
  have b1 : ("net of " : Str).length = 7 := by decide
  have b2 : (" events, " : Str).length = 9 := by decide
  have b3 : (" works, " : Str).length = 8 := by decide
  rw [len_app, len_app, len_app, len_app]
  omega
section
variable {K : PySem.W.Frag} {C : Addr} {T : List (Addr × Str)} {H0 H : Hp} {D pl x a b c : Addr} {N : PlainD} {σ : L2.St}
theorem rd_w1 {Q : VK} (h1 : σ[1]? = some (some (.ref pl))) (ok : OkN N) (sm : SmallN N) (j : RtJ K C T H0 D pl x a b c N H) (k : Q (.str (w1S N)) H) : tW1 K σ H Q := by
  have m1 := sm.l
  have m2 := sm.w
  obtain ⟨ka, ha, la⟩ := j.ta.len
  obtain ⟨kb, hb, lb⟩ := j.tw.len
  have a1 := nS_len (n := N.L.length) (by omega)
  have a2 := nS_len (n := N.W.length) (by omega)
  have b1 : ("net of " : Str).length = 7 := by decide
  have b2 : (" events, " : Str).length = 9 := by decide
  have b3 : (" works, " : Str).length = 8 := by decide
  have e := sizeLine_eq
  refine ⟨_, h1, pl, _, 0, _, rfl, rfl, SqL.of j.p, atI_nat (j := 0) rfl, a, ka, rfl, ha, _, rfl, by rw [la]; exact n_log (by omega), _, _, rfl, rfl, ?_, ?_⟩
  · show ("net of " : Str).length + (nS ka.length).length ≤ _
    rw [la]; omega
  refine ⟨_, _, rfl, rfl, ?_, ?_⟩
  · show (("net of " : Str) ++ nS ka.length).length + (" events, " : Str).length ≤ _
    rw [la, len_app]; omega
  refine ⟨_, h1, pl, _, 1, _, rfl, rfl, SqL.of j.p, atI_nat (j := 1) rfl, b, kb, rfl, hb, _, rfl, by rw [lb]; exact n_log (by omega), _, _, rfl, rfl, ?_, ?_⟩
  · show ((("net of " : Str) ++ nS ka.length) ++ (" events, " : Str)).length + (nS kb.length).length ≤ _
    rw [la, lb, len_app, len_app]; omega
  refine ⟨_, _, rfl, rfl, ?_, ?_⟩
  · show (((("net of " : Str) ++ nS ka.length) ++ (" events, " : Str)) ++ nS kb.length).length + (" works, " : Str).length ≤ _
    rw [la, lb, len_app, len_app, len_app]; omega
  rw [la, lb]
  exact k
theorem rd_w2 {Q : VK} (h1 : σ[1]? = some (some (.ref pl))) (h8 : σ[8]? = some (some (.str (w1S N)))) (ok : OkN N) (sm : SmallN N) (j : RtJ K C T H0 D pl x a b c N H) (k : Q (.str (strN N.L.length N.W.length N.B.length)) H) : tW2 K σ H Q := by
  have m1 := sm.l
  have m2 := sm.w
  have m3 := sm.b
  obtain ⟨kc, hc, lc⟩ := j.tc.len
  have a1 := w1_len (N := N) (by omega) (by omega)
  have a3 := nS_len (n := N.B.length) (by omega)
  have b1 : (" bounds" : Str).length = 7 := by decide
  have e := sizeLine_eq
  refine ⟨_, h8, _, h1, pl, _, 2, _, rfl, rfl, SqL.of j.p, atI_nat (j := 2) rfl, c, kc, rfl, hc, _, rfl, by rw [lc]; exact n_log (by omega), _, _, rfl, rfl, ?_, ?_⟩
  · show (w1S N).length + (nS kc.length).length ≤ _
    rw [lc]; omega
  refine ⟨_, _, rfl, rfl, ?_, ?_⟩
  · show (w1S N ++ nS kc.length).length + (" bounds" : Str).length ≤ _
    rw [lc, len_app]; omega
  rw [lc]
  exact k
end
abbrev tSome (K : PySem.W.Frag) : TE := tLst (tCons (tCall (spPick K) [] E0 (tCons (tVar 0) (tCons (tNm K) tNil))) (tCons (tC (.str "dawn")) (tCons (tC (.str "nil")) (tCons (tC .non) (tCons (tC (.int 0)) (tCons (tTup (tCons (tC (.str "a")) tNil)) (tCons (tLst (tCons (tC (.str "a")) tNil)) (tCons (tC (.str "")) tNil))))))))
abbrev someV (z : Str) (t l : Addr) : List V := [.str z, .str "dawn", .str "nil", .non, .int 0, .ref t, .ref l, .str ""]
abbrev tIns (K : PySem.W.Frag) (C : Addr) : L2.TT := tTest (tOp rNe (tCB (rRepr K) (tCons (tLc (iList K (tVar 9)) (gName 11) tYes (tOp (rInI C (spCon K C)) (tVar 11) (tVar 2)) [11]) tNil)) (tCB (rRepr K) (tCons (tOp rCat (tLst (tCons (tC (.bl true)) tNil)) (tOp rRep (tLst (tCons (tC (.bl false)) tNil)) (tC (.int 7)))) tNil)))
def insB : List Bool := [true, false, false, false, false, false, false, false]
def insD : PyData := .list (insB.map PyData.bool)
section
variable {K : PySem.W.Frag} {C : Addr} {T : List (Addr × Str)} {H0 H : Hp} {D pl x a b c : Addr} {N : PlainD} {σ : L2.St}
theorem rd_some {Q : VK} (h0 : σ[0]? = some (some (.ref D))) (h1 : σ[1]? = some (some (.ref pl))) (npl : pl ≠ D) (ok : OkN N) (j : RtJ K C T H0 D pl x a b c N H)
    (k : ∀ q z t l H', z ∈ nmS N → H' q = some (.lst (someV z t l)) → H' t = some (.tup [.str "a"]) → H' l = some (.lst [.str "a"]) → RtJ K C T H0 D pl x a b c N H' → Q (.ref q) H') : tSome K σ H Q := by
  have l1 := ok.l.len
  have ln : (nmS N).length = N.L.length := by
    unfold nmS
    rw [srt_len, List.length_map]
  refine ⟨_, h0, rd_nm h1 ok j fun p np => ?_⟩
  have j1 := j.same (same_new (o := .lst ((nmS N).map V.str)) np)
  refine ⟨D, .ref p, rfl, j1.dc, .inl ⟨p, _, rfl, new_ne j.dc np, upd_same, by rw [List.length_map, ln]; omega, by rw [List.length_map, ln]; omega, fun u H2 hu b2 hD2 => ?_⟩⟩
  obtain ⟨z, hz, rfl⟩ := List.mem_map.mp hu
  have j2 := j1.roll npl b2 hD2
  refine ⟨by show 1 ≤ sizeLine; decide, fun t nt => ⟨by show 1 ≤ sizeLine; decide, fun l nl => ⟨by show 8 ≤ sizeLine; decide, fun q nq => ?_⟩⟩⟩
  have st := same_new (o := .tup [.str "a"]) nt
  have sl := same_new (o := .lst [.str "a"]) nl
  have sq := same_new (o := .lst (someV z t l)) nq
  exact k q z t l _ hz upd_same (sq _ _ (sl _ _ upd_same)) (sq _ _ upd_same) (j2.same (st.trans (sl.trans sq)))
theorem rd_ins {q t l : Addr} {z : Str} {Q : Bool → Hp → Prop} (h2 : σ[2]? = some (some (.ref x))) (h9 : σ[9]? = some (some (.ref q))) (hσ : 11 < σ.length) (hz : z ∈ nmS N) (hq : H q = some (.lst (someV z t l))) (ht : H t = some (.tup [.str "a"])) (hl : H l = some (.lst [.str "a"])) (ok : OkN N) (dr : DrawnN N) (j : RtJ K C T H0 D pl x a b c N H) (k : ∀ H', Same H H' → Q false H') : tIns K C σ H Q := by
  have no : ∀ {s : Str}, (∀ p ∈ N.L, p.1 ≠ s) → decide (s ∈ (sortN N).L.map (·.1)) = false := fun {s} h => decide_eq_false fun m => by
    rw [ev_eq] at m
    obtain ⟨p, hp, e⟩ := List.mem_map.mp (srt_mem.mp m)
    exact h p hp e
  have n1 : ∀ p ∈ N.L, p.1 ≠ ("dawn" : Str) := fun p hp e => by
    have := ok.l.name p hp
    rw [e] at this
    revert this
    decide
  have n2 : ∀ p ∈ N.L, p.1 ≠ ("" : Str) := fun p hp e => by
    have := ok.l.name p hp
    rw [e] at this
    revert this
    decide
  have yes : decide (z ∈ (sortN N).L.map (·.1)) = true := decide_eq_true (by rw [ev_eq]; exact hz)
  have sh : Shw 8 1 insD := by
    refine (Shw.list (ds := insB.map PyData.bool) (w := 0) (k := 0) (n := 8) (fun d hd => ?_) (by decide)).mono (by decide) (by decide)
    obtain ⟨b, _, rfl⟩ := List.mem_map.mp hd
    exact Shw.bl b
  obtain ⟨sh1, sh2, sh3⟩ := LW.Shw.rep sh (by decide) (by decide)
  refine ⟨_, h9, q, rfl, ⟨_, SqL.of hq⟩, fun L nL => ?_⟩
  refine lc_it (walk_list (K := K) (a := q) (xs := someV z t l)) (fun n H' => Same H H' ∧ H' L = some (.lst ((insB.take n).map V.bl))) ⟨same_new nL, upd_same⟩ (fun n H' _ w => SqL.of (w.1 _ _ hq)) (fun n v H1 H2 hn w y => ?_) (fun H' w => ?_)
  · obtain ⟨rfl, hv⟩ := y
    obtain ⟨s1, hL⟩ := w
    have j1 := j.same s1
    have cov : ∃ (d : PyData) (bb : Bool), Dd K H2 v d ∧ insB[n]? = some bb ∧ inNetB (sortN N) d = bb := by
      match n, hn, hv with
      | 0, _, hv => cases hv; exact ⟨.str z, true, .base (.str _) rfl, rfl, yes⟩
      | 1, _, hv => cases hv; exact ⟨.str "dawn", false, .base (.str _) rfl, rfl, no n1⟩
      | 2, _, hv => cases hv; exact ⟨.str "nil", false, .base (.str _) rfl, rfl, no dr.nl⟩
      | 3, _, hv => cases hv; exact ⟨.none, false, .base .non rfl, rfl, rfl⟩
      | 4, _, hv => cases hv; exact ⟨.int 0, false, .base (.int _) rfl, rfl, rfl⟩
      | 5, _, hv => cases hv; exact ⟨.tuple [.str "a"], false, .base (.tup (SqT.of (s1 _ _ ht)) (.cons (.str _) .nil)) rfl, rfl, rfl⟩
      | 6, _, hv => cases hv; exact ⟨.list [.str "a"], false, .base (.lst (SqL.of (s1 _ _ hl)) (.cons (.str _) .nil)) rfl, rfl, rfl⟩
      | 7, _, hv => cases hv; exact ⟨.str "", false, .base (.str _) rfl, rfl, no n2⟩
      | n + 8, hn, _ => exact absurd (show n + 8 < 8 from hn) (by omega)
    obtain ⟨d, bb, dd, hb, e⟩ := cov
    have s2' : ((wipe σ [11]).set 11 (some v))[2]? = some (some (.ref x)) := by simp [wipe, List.getElem?_set, h2]
    refine ⟨by simp [gName, wipe], tyes ⟨_, slot_q hσ, _, s2', x, rfl, j1.net.ins, x, v, d, sortN N, rfl, j1.net, dd, _, rfl, _, hL, ?_, same_mut s1 nL, ?_⟩⟩
    · rw [List.length_map, List.length_take, sizeLine_eq]
      have : insB.length = 8 := rfl
      omega
    · rw [upd_same, e, List.take_add_one, hb, List.map_append]
      rfl
  · obtain ⟨s1, hL⟩ := w
    refine ⟨.ref L, insD, rfl, .base (.lst (SqL.of hL) (.cons (.bl _) (.cons (.bl _) (.cons (.bl _) (.cons (.bl _) (.cons (.bl _) (.cons (.bl _) (.cons (.bl _) (.cons (.bl _) .nil))))))))) rfl, sh1, sh2, sh3, ?_⟩
    refine ⟨by show 1 ≤ sizeLine; decide, fun p np => ⟨by show 1 ≤ sizeLine; decide, fun r nr => ⟨r, 7, [.bl false], rfl, rfl, upd_same, by decide, by decide, by show 7 ≤ sizeLine; decide, fun m nm => ⟨p, m, [.bl true], _, rfl, rfl, same_new nm _ _ (same_new nr _ _ upd_same), upd_same, by show 8 ≤ sizeLine; decide, fun w nw => ?_⟩⟩⟩⟩
    have sF := (same_new (o := .lst [.bl true]) np).trans ((same_new (o := .lst [.bl false]) nr).trans ((same_new (o := .lst (List.replicate (7 : Int).toNat [V.bl false]).flatten) nm).trans (same_new (o := .lst ([.bl true] ++ (List.replicate (7 : Int).toNat [V.bl false]).flatten)) nw)))
    refine ⟨.ref w, insD, rfl, .base (.lst (xs := [.bl true, .bl false, .bl false, .bl false, .bl false, .bl false, .bl false, .bl false]) (SqL.of upd_same) (.cons (.bl _) (.cons (.bl _) (.cons (.bl _) (.cons (.bl _) (.cons (.bl _) (.cons (.bl _) (.cons (.bl _) (.cons (.bl _) .nil))))))))) rfl, sh1, sh2, sh3, rfl, _, rfl, ?_⟩
    have e : (!decide (V.str insD.shown = V.str insD.shown)) = false := by rw [decide_eq_true rfl]; rfl
    rw [e]
    exact k _ (s1.trans sF)
end
end LW
namespace LW
open PySem PySem.Spec PyProof.Rows L2 DW LamX
abbrev s13 (D pl x : Addr) (x3 x4 x5 x6 x7 x8 x9 : Option V) : L2.St := [some (.ref D), some (.ref pl), some (.ref x), x3, x4, x5, x6, x7, x8, x9, none, none, none]
section
variable {P : Program} {w : World} {K : PySem.W.Frag} {mg : Str → Option Value} {base : Heap}
theorem ok_rt {T : List (Addr × Str)} {f fP fM fS fRo fRr fEr fI fS2 fL fIn fWk fRd C p1 g1 p2 g2 p3 g3 p4 g4 p5 g5 p6 g6 p7 g7 : Addr} {fd dP dM dS dRo dRr dEr dI dS2 dL dIn dWk dRd d1 d2 d3 d4 d5 d6 d7 : FuncData} (F : Fun K "_law_right" "_law_right" s_law_right f fd)
    (CP : Cal P w K mg base 2 "_law_pick" ["dice", "items"] (spPick K) fP dP) (CM : Cal P w K mg base 3 "_law_mixed" ["dice", "some"] (spMix K) fM dM) (CS : Cal P w K mg base 1 "_law_sorted" ["some"] (spSor K) fS dS) (CR : Cal P w K mg base 1 "_law_road" ["plain", "event"] (spRoa K) fRo dRo)
    (RR : CalG P w K mg base 8 "_law_rows_right" ["dice", "plain", "net"] (spRr K C T) fRr dRr) (ER : Cal P w K mg base 8 "_law_equal_right" ["dice", "plain", "net"] (spEr K C) fEr dEr) (MK : NetM P w K mg base C fI dI) (ST : NetS P w K mg base C fS2 dS2) (LN : NetL P w K mg base C fL dL) (IN : NetI P w K mg base C fIn dIn)
    (cC : Cls K C) (PR : NetP P w K mg base C p1 g1 p2 g2 p3 g3 p4 g4 p5 g5 p6 g6 p7 g7 d1 d2 d3 d4 d5 d6 d7) (WK : MethE P w K mg base C "work_of" rWkN fWk dWk) (RD : MethE P w K mg base C "road" (rRoad K) fRd dRd) (hS : SysB base)
    (zL : mg "list" = none) (zS : mg "sorted" = none) (zP : mg "repr" = none) (zT : mg "tuple" = none) (zX : mg "max" = none) (zN : mg "len" = none) (zR : mg "str" = none) : FnG P w K mg base 9 f fd ["dice", "plain"] (spRt K T) := by
  refine fng F scRt (fun vs H Q h => ?_) (fun cdv A outer s H vs Q hr hgu h => ?_)
  · obtain ⟨D, pl, N, rfl, _⟩ := h
    rfl
  obtain ⟨D, pl, N, rfl, hD, npl, plain, ok, sm, dr, tb, k⟩ := h
  refine ⟨_, C8.pss_cut (ps_set (i := 2) scRt.nd rfl (Or.inr rfl) (pe_make (E := E0) (dvs := []) MK.M MK.G (hr.mono (by decide)) rfl MK.g MK.b .nil pass0 (pa_cons (pe_cal (E := E0) CM hr rfl (pa_cons (pv 0) (pa_cons (pe_ix (r := rIxL K) ix_list (pv 1) pe_int (fun _ _ => rfl)) pa_nil)))
        (pa_cons (pe_cal (E := E0) CM hr rfl (pa_cons (pv 0) (pa_cons (pe_ix (r := rIxL K) ix_list (pv 1) pe_int (fun _ _ => rfl)) pa_nil))) (pa_cons (pe_cal (E := E0) CM hr rfl (pa_cons (pv 0) (pa_cons (pe_ix (r := rIxL K) ix_list (pv 1) pe_int (fun _ _ => rfl)) pa_nil))) pa_nil)))))
    (C8.pss_cut (ps_set (i := 3) scRt.nd rfl (Or.inr rfl) (pe_callB (cr_srt hr.units) (by rfl) zS (by decide +kernel) (pa_cons (pe_lc (own := [("work", 10)]) (g := gName 10) (tt := tYes) (te := tOp (rIxT K) (tVar 10) (tC (.int 1))) rfl scRt.nd (pi_list (pe_listVals rfl (pe_ix (r := rIxL K) ix_list (pv 1) pe_int (fun _ _ => rfl)) rfl zL (by decide +kernel))) (blkOk_by (own := [("work", 10)]) (N := rtN) (sc := defScope s_law_right) (by decide +kernel))
        (fun _ _ _ _ _ => pg_name (i := 10) scRt.nd rfl (Or.inl rfl)) (fun _ _ _ _ _ => pts_nil) (fun _ _ _ _ _ => pe_ix (r := rIxT K) ix_tup (pv 10) pe_int (fun _ _ => rfl))) pa_nil)))
    (C8.pss_cut (ps_if (pt_cmpR op_ne (pe_callB (call_reprZ hS hgu hr.units) (by rfl) zP (by decide +kernel) (pa_cons (pe_lst (pa_cons (pe_pr PR.la cC (hr.mono (by decide)) (pv 2)) (pa_cons (pe_pr PR.wo cC (hr.mono (by decide)) (pv 2)) (pa_cons (pe_pr PR.bo cC (hr.mono (by decide)) (pv 2)) pa_nil)))) pa_nil))
        (pe_callB (call_reprZ hS hgu hr.units) (by rfl) zP (by decide +kernel) (pa_cons (pe_lc (own := [("one", 11)]) (g := gName 11) (tt := tYes) (te := tCall (spSor K) [] E0 (tCons (tVar 11) tNil)) rfl scRt.nd (pi_list (pv 1)) (blkOk_by (own := [("one", 11)]) (N := rtN) (sc := defScope s_law_right) (by decide +kernel))
          (fun _ _ _ _ _ => pg_name (i := 11) scRt.nd rfl (Or.inl rfl)) (fun _ _ _ _ _ => pts_nil) (fun _ _ _ _ _ => pe_cal (E := E0) CS hr rfl (pa_cons (pv 11) pa_nil))) pa_nil)) (nomark _)) (pss_one (ps_ret pe_bl)) pss_nil)
    (C8.pss_cut (ps_set (i := 4) scRt.nd rfl (Or.inl rfl) (pe_lst (pa_cons (pe_pr PR.ev cC (hr.mono (by decide)) (pv 2)) (pa_cons (pe_pr PR.de cC (hr.mono (by decide)) (pv 2)) (pa_cons (pe_pr PR.en cC (hr.mono (by decide)) (pv 2)) (pa_cons (pe_pr PR.ho cC (hr.mono (by decide)) (pv 2)) (pa_cons (pe_callB (call_lenI LN.G LN.b (hr.mono (by decide)) LN.s LN.fn) (by rfl) zN PySem.boot_len (pa_cons (pv 2) pa_nil)) pa_nil)))))))
    (C8.pss_cut (ps_setLc (i := 5) (own := [("name", 12)]) (g := gName 12) (tt := tTest (tOp (rIn K true) (tVar 12) (tVar 3))) (te := tVar 12) rfl scRt.nd rfl rfl (sw_true rfl rfl rfl (by decide +kernel)) (pi_list (pe_callB (cr_srtL rfl hr.units) (by rfl) zS (by decide +kernel) (pa_cons (pe_ix (r := rIxL K) ix_list (pv 1) pe_int (fun _ _ => rfl)) pa_nil))) (blkOk_by (own := [("name", 12)]) (N := rtN) (sc := defScope s_law_right) (by decide +kernel))
        (fun _ _ _ _ _ => pg_name (i := 12) scRt.nd rfl (Or.inl rfl)) (fun _ _ _ _ _ => pts_one (pt_cmpR op_notIn_seq (pv 12) (pv 3) (by rfl))) (fun _ _ _ _ _ => pv 12))
    (C8.pss_cut (ps_set (i := 6) scRt.nd rfl (Or.inl rfl) (pe_lst (pa_cons (pe_callTy call_tuple_of (by rfl) zT (by decide +kernel) (pa_cons (pe_callB (cr_srtL rfl hr.units) (by rfl) zS (by decide +kernel) (pa_cons (pe_ix (r := rIxL K) ix_list (pv 1) pe_int (fun _ _ => rfl)) pa_nil)) pa_nil)) (pa_cons (pe_callTy call_tuple_of (by rfl) zT (by decide +kernel) (pa_cons (pv 5) pa_nil)) (pa_cons (pe_callTy call_tuple_of (by rfl) zT (by decide +kernel) (pa_cons (pv 3) pa_nil))
        (pa_cons (pe_callB (cr_max rfl) (by rfl) zX (by decide +kernel) (pa_cons (pe_listVals rfl (pe_ix (r := rIxL K) ix_list (pv 1) pe_int (fun _ _ => rfl)) rfl zL (by decide +kernel)) pa_nil)) (pa_cons (pe_callB call_lenD (by rfl) zN PySem.boot_len (pa_cons (pe_ix (r := rIxL K) ix_list (pv 1) pe_int (fun _ _ => rfl)) pa_nil)) pa_nil)))))))
    (C8.pss_cut (ps_if (pt_cmpR op_ne (pe_callB (call_repr hgu hr.units) (by rfl) zP (by decide +kernel) (pa_cons (pv 4) pa_nil)) (pe_callB (call_repr hgu hr.units) (by rfl) zP (by decide +kernel) (pa_cons (pv 6) pa_nil)) (nomark _)) (pss_one (ps_ret pe_bl)) pss_nil)
    (C8.pss_cut (ps_for PassesOwn.never rfl (pi_list (pe_op op_cat (pe_lst (pa_cons pe_str pa_nil)) (pe_callB (cr_srtL rfl hr.units) (by rfl) zS (by decide +kernel) (pa_cons (pe_ix (r := rIxL K) ix_list (pv 1) pe_int (fun _ _ => rfl)) pa_nil)))) (pg_name (i := 7) scRt.nd rfl (.inr rfl))
      (pss_cons (ps_set (i := 6) scRt.nd rfl (Or.inl rfl) (pe_op op_cat (pe_lock (pe_lc (own := [("name", 12)]) (g := gName 12) (tt := tTest (tOp rEq (tOp (rIxT K) (tDGet (tOp (rIxL K) (tVar 1) (tC (.int 1))) (tVar 12)) (tC (.int 1))) (tVar 7))) (te := tVar 12) rfl scRt.nd (pi_keys (pe_ix (r := rIxL K) ix_list (pv 1) pe_int (fun _ _ => rfl))) (blkOk_by (own := [("name", 12)]) (N := rtN) (sc := defScope s_law_right) (by decide +kernel))
          (fun _ _ _ _ _ => pg_name (i := 12) scRt.nd rfl (Or.inl rfl)) (fun _ _ _ _ _ => pts_one (pt_cmpR op_eq (pe_ix (r := rIxT K) ix_tup (pe_dget (hu_of hr) (pe_ix (r := rIxL K) ix_list (pv 1) pe_int (fun _ _ => rfl)) (pv 12) (fun _ _ => rfl)) pe_int (fun _ _ => rfl)) (pv 7) (nomark _))) (fun _ _ _ _ _ => pv 12))) (pe_lst (pa_cons pe_non pa_nil))))
      (pss_one (ps_if (pt_cmpR op_ne (pe_callB (call_repr hgu hr.units) (by rfl) zP (by decide +kernel) (pa_cons (pe_lst (pa_cons (pe_methX (k := 2) (pv 2) cC WK.m (FnGX.of WK.G) (hr.mono (by decide)) hgu WK.b .nil pass0 (pa_cons (pv 7) pa_nil)) (pa_cons (pe_methX (k := 2) (pv 2) cC RD.m (FnGX.of RD.G) (hr.mono (by decide)) hgu RD.b .nil pass0 (pa_cons (pv 7) pa_nil)) pa_nil))) pa_nil))
          (pe_callB (call_repr hgu hr.units) (by rfl) zP (by decide +kernel) (pa_cons (pe_lst (pa_cons (pe_ix (r := rIxL K) ix_list (pv 6) pe_int (fun _ _ => rfl)) (pa_cons (pe_cal (E := E0) CR hr rfl (pa_cons (pv 1) (pa_cons (pv 7) pa_nil))) pa_nil))) pa_nil)) (nomark _)) (pss_one (ps_ret pe_bl)) pss_nil))))
    (C8.pss_cut (ps_set (i := 8) scRt.nd rfl (Or.inl rfl) (pe_op op_add_str (pe_op op_add_str (pe_op op_add_str (pe_op op_add_str pe_str (pe_callTy call_str_int (by rfl) zR (by decide +kernel) (pa_cons (pe_callB call_lenD (by rfl) zN PySem.boot_len (pa_cons (pe_ix (r := rIxL K) ix_list (pv 1) pe_int (fun _ _ => rfl)) pa_nil)) pa_nil))) pe_str) (pe_callTy call_str_int (by rfl) zR (by decide +kernel) (pa_cons (pe_callB call_lenD (by rfl) zN PySem.boot_len (pa_cons (pe_ix (r := rIxL K) ix_list (pv 1) pe_int (fun _ _ => rfl)) pa_nil)) pa_nil))) pe_str))
    (C8.pss_cut (ps_set (i := 8) scRt.nd rfl (Or.inl rfl) (pe_op op_add_str (pe_op op_add_str (pv 8) (pe_callTy call_str_int (by rfl) zR (by decide +kernel) (pa_cons (pe_callB call_lenD (by rfl) zN PySem.boot_len (pa_cons (pe_ix (r := rIxL K) ix_list (pv 1) pe_int (fun _ _ => rfl)) pa_nil)) pa_nil))) pe_str))
    (C8.pss_cut (ps_set (i := 9) scRt.nd rfl (Or.inl rfl) (pe_lst (pa_cons (pe_cal (E := E0) CP hr rfl (pa_cons (pv 0) (pa_cons (pe_callB (cr_srtL rfl hr.units) (by rfl) zS (by decide +kernel) (pa_cons (pe_ix (r := rIxL K) ix_list (pv 1) pe_int (fun _ _ => rfl)) pa_nil)) pa_nil))) (pa_cons pe_str (pa_cons pe_str (pa_cons pe_non (pa_cons pe_int (pa_cons (pe_tup (pa_cons pe_str pa_nil)) (pa_cons (pe_lst (pa_cons pe_str pa_nil)) (pa_cons pe_str pa_nil))))))))))
    (C8.pss_cut (ps_if (PW.pt (pw_or (pt_cmpR op_ne (pe_callTy (call_strI ST.G ST.b (hr.mono (by decide)) ST.s ST.fn) (by rfl) zR (by decide +kernel) (pa_cons (pv 2) pa_nil)) (pv 8) (nomark _)) (pw_or1 (pt_cmpR op_ne (pe_callB (call_repr hgu hr.units) (by rfl) zP (by decide +kernel) (pa_cons (pe_lc (own := [("one", 11)]) (g := gName 11) (tt := tYes) (te := tOp (rInI C (spCon K C)) (tVar 11) (tVar 2)) rfl scRt.nd (pi_list (pv 9)) (blkOk_by (own := [("one", 11)]) (N := rtN) (sc := defScope s_law_right) (by decide +kernel))
          (fun _ _ _ _ _ => pg_name (i := 11) scRt.nd rfl (Or.inl rfl)) (fun _ _ _ _ _ => pts_nil) (fun _ _ _ _ _ => pe_cmpR (op_inI IN.G IN.b (hr.mono (by decide)) IN.s IN.fn) (pv 11) (pv 2) (by rfl))) pa_nil))
        (pe_callB (call_repr hgu hr.units) (by rfl) zP (by decide +kernel) (pa_cons (pe_op op_cat (pe_lst (pa_cons pe_bl pa_nil)) (pe_op op_rep (pe_lst (pa_cons pe_bl pa_nil)) pe_int)) pa_nil)) (nomark _))))) (pss_one (ps_ret pe_bl)) pss_nil)
    (C8.pss_cut (ps_expr (pe_dclear (pe_pr PR.la cC (hr.mono (by decide)) (pv 2))))
    (C8.pss_cut (ps_asg (pe_tup (pa_cons pe_int (pa_cons pe_int pa_nil))) (pg_tup rfl (pgs_cons (pg_sub (pe_pr PR.wo cC (hr.mono (by decide)) (pv 2)) pe_str (set_dict (hu_of hr))) (pgs_cons (pg_sub (pe_pr PR.bo cC (hr.mono (by decide)) (pv 2)) pe_str (set_dict (hu_of hr))) pgs_nil))))
    (C8.pss_cut (ps_if (pt_cmpR op_ne (pe_callB (call_reprZ hS hgu hr.units) (by rfl) zP (by decide +kernel) (pa_cons (pe_lst (pa_cons (pe_pr PR.la cC (hr.mono (by decide)) (pv 2)) (pa_cons (pe_pr PR.wo cC (hr.mono (by decide)) (pv 2)) (pa_cons (pe_pr PR.bo cC (hr.mono (by decide)) (pv 2)) pa_nil)))) pa_nil))
        (pe_callB (call_reprZ hS hgu hr.units) (by rfl) zP (by decide +kernel) (pa_cons (pe_lc (own := [("one", 11)]) (g := gName 11) (tt := tYes) (te := tCall (spSor K) [] E0 (tCons (tVar 11) tNil)) rfl scRt.nd (pi_list (pv 1)) (blkOk_by (own := [("one", 11)]) (N := rtN) (sc := defScope s_law_right) (by decide +kernel))
          (fun _ _ _ _ _ => pg_name (i := 11) scRt.nd rfl (Or.inl rfl)) (fun _ _ _ _ _ => pts_nil) (fun _ _ _ _ _ => pe_cal (E := E0) CS hr rfl (pa_cons (pv 11) pa_nil))) pa_nil)) (nomark _)) (pss_one (ps_ret pe_bl)) pss_nil)
    (pss_one (ps_ret (pe_and (pe_g RR.G hr hgu rfl RR.g RR.kp RR.b (pa_cons (pv 0) (pa_cons (pv 1) (pa_cons (pv 2) pa_nil)))) (pe_one (pe_cal (E := E0) ER hr rfl (pa_cons (pv 0) (pa_cons (pv 1) (pa_cons (pv 2) pa_nil)))))))))))))))))))))), ?_⟩
  obtain ⟨a, b, c, hp, ta, tw, tc⟩ := id plain
  -- the net
  refine ⟨fun σ' H' => ∃ x, σ' = s13 D pl x none none none none none none none ∧ RtJ K C T H D pl x a b c N H', ?_, ?_⟩
  · refine asg_te ?_
    refine rd_mx (K := K) (C := C) (N := N) rfl rfl hD npl plain ok fun x H' bt hd net nx => ⟨x, rfl, ?_⟩
    have kl := KL.but hD bt
    exact ⟨bt, hd, tabs_but hD bt tb, kl.lst (fun z => npl (List.mem_singleton.mp z)) hp, TD.kl ge_in kl ta, TD.kl ge_wk kl tw, TD.kl ge_bd kl tc, net⟩
  clear hp ta tw tc
  rintro _ H1 ⟨x, rfl, j1⟩
  -- ends
  refine ⟨fun σ' H' => ∃ e, σ' = s13 D pl x (some (.ref e)) none none none none none none ∧ H' e = some (.lst ((endS N).map V.str)) ∧ RtJ K C T H D pl x a b c N H', ?_, ?_⟩
  · refine asg_te ?_
    exact rd_ends (K := K) (σ := s13 D pl x none none none none none none none) rfl (by show 10 < 13; decide) ok j1 fun e H' s he => ⟨e, rfl, he, j1.same s⟩
  clear j1
  rintro _ H2 ⟨e, rfl, he, j2⟩
  -- shown
  refine ⟨fun σ' H' => σ' = s13 D pl x (some (.ref e)) none none none none none none ∧ H' e = some (.lst ((endS N).map V.str)) ∧ RtJ K C T H D pl x a b c N H', ?_, ?_⟩
  · exact rd_nets (K := K) (C := C) (σ := s13 D pl x (some (.ref e)) none none none none none none) rfl rfl (by show 11 < 13; decide) ok sm j2 fun H' s => iteF ⟨rfl, s _ _ he, j2.same s⟩
  clear j2 he
  rintro _ H3 ⟨rfl, he, j3⟩
  -- told
  refine ⟨fun σ' H' => ∃ q m, σ' = s13 D pl x (some (.ref e)) (some (.ref q)) none none none none none ∧ MaxN N m ∧ Dp K H' (.ref q) (datD N m) ∧ H' e = some (.lst ((endS N).map V.str)) ∧ RtJ K C T H D pl x a b c N H', ?_, ?_⟩
  · refine asg_te ?_
    exact rd_told (K := K) (C := C) (σ := s13 D pl x (some (.ref e)) none none none none none none) rfl ok j3 fun q m H' s mx dq => ⟨q, m, rfl, mx, dq, s _ _ he, j3.same s⟩
  clear j3 he
  rintro _ H4 ⟨q, m, rfl, mx, dq, he, j4⟩
  -- deeds
  refine ⟨fun σ' H' => ∃ de, σ' = s13 D pl x (some (.ref e)) (some (.ref q)) (some (.ref de)) none none none none ∧ H' de = some (.lst ((deS N).map V.str)) ∧ Dp K H' (.ref q) (datD N m) ∧ H' e = some (.lst ((endS N).map V.str)) ∧ RtJ K C T H D pl x a b c N H', ?_, ?_⟩
  · refine asg_te ?_
    exact rd_deeds (K := K) (C := C) (σ := s13 D pl x (some (.ref e)) (some (.ref q)) none none none none none) rfl rfl (by show 12 < 13; decide) ok sm j4 he fun p H' s hp => ⟨p, rfl, hp, Dp.same s dq, s _ _ he, j4.same s⟩
  clear j4 he dq
  rintro _ H5 ⟨de, rfl, hde, dq, he, j5⟩
  -- due
  refine ⟨fun σ' H' => ∃ du, σ' = s13 D pl x (some (.ref e)) (some (.ref q)) (some (.ref de)) (some (.ref du)) none none none ∧ Dp K H' (.ref du) (datD N m) ∧ Dp K H' (.ref q) (datD N m) ∧ RtJ K C T H D pl x a b c N H', ?_, ?_⟩
  · refine asg_te ?_
    refine rd_due (K := K) (C := C) (σ := s13 D pl x (some (.ref e)) (some (.ref q)) (some (.ref de)) none none none none) rfl rfl rfl ok j5 he hde fun du m' H' s mx' dd => ⟨du, rfl, ?_, Dp.same s dq, j5.same s⟩
    rw [mx.det mx']
    exact dd
  clear j5 he dq hde
  rintro _ H6 ⟨du, rfl, dd, dq, j6⟩
  -- both
  refine ⟨fun σ' H' => σ' = s13 D pl x (some (.ref e)) (some (.ref q)) (some (.ref de)) (some (.ref du)) none none none ∧ RtJ K C T H D pl x a b c N H', ?_, ?_⟩
  · obtain ⟨sh1, sh2, sh3⟩ := LW.Shw.rep (shw_dat ok sm mx.1) (by decide) (by decide)
    refine ⟨_, rfl, .ref q, datD N m, rfl, .base dq (noD_dat _ _), sh1, sh2, sh3, _, rfl, .ref du, datD N m, rfl, .base dd (noD_dat _ _), sh1, sh2, sh3, rfl, _, rfl, ?_⟩
    have e : (!decide (V.str (datD N m).shown = V.str (datD N m).shown)) = false := by rw [decide_eq_true rfl]; rfl
    rw [e]
    exact iteF ⟨rfl, j6⟩
  clear j6 dd dq
  rintro _ H7 ⟨rfl, j7⟩
  -- each event
  refine ⟨fun σ' H' => ∃ x6 x7, σ' = s13 D pl x (some (.ref e)) (some (.ref q)) (some (.ref de)) x6 x7 none none ∧ RtJ K C T H D pl x a b c N H', ?_, ?_⟩
  · refine ⟨by show 1 ≤ sizeLine; decide, fun p1 np1 => ?_⟩
    have sp1 := same_new (o := .lst [.str "dawn"]) np1
    refine rd_nm (K := K) (σ := s13 D pl x (some (.ref e)) (some (.ref q)) (some (.ref de)) (some (.ref du)) none none none) rfl ok (j7.same sp1) fun p2 np2 => ?_
    have sp2 := same_new (o := .lst ((nmS N).map V.str)) np2
    refine ⟨p1, p2, [.str "dawn"], (nmS N).map V.str, rfl, rfl, sp2 _ _ upd_same, upd_same, by rw [List.length_map, sizeLine_eq]; have := nm_len sm; show 1 + _ ≤ _; omega, fun p3 np3 => ?_⟩
    have sp3 := same_new (o := .lst ([.str "dawn"] ++ (nmS N).map V.str)) np3
    refine ⟨p3, rfl, ⟨_, SqL.of upd_same⟩, ?_⟩
    refine for_list (K := K) (xs := [V.str "dawn"] ++ (nmS N).map V.str) (fun i σ H' => ∃ x6 x7, σ = s13 D pl x (some (.ref e)) (some (.ref q)) (some (.ref de)) x6 x7 none none ∧ H' p3 = some (.lst ([V.str "dawn"] ++ (nmS N).map V.str)) ∧ RtJ K C T H D pl x a b c N H')
      ⟨_, _, rfl, upd_same, j7.same (sp1.trans (sp2.trans sp3))⟩ (fun i σ H' _ w => by obtain ⟨_, _, _, h, _⟩ := w; exact SqL.of h) (fun i v σ H' hi w => ?_) (fun σ H' w => by obtain ⟨x6, x7, h1, _, h2⟩ := w; exact ⟨x6, x7, h1, h2⟩)
    obtain ⟨x6, x7, rfl, h3, j8⟩ := w
    have hv : ∃ z, v = .str z ∧ knownB N.L z = true := by
      have m := List.mem_of_getElem? hi
      rcases List.mem_append.mp m with m | m
      · rw [List.mem_singleton.mp m]
        exact ⟨_, rfl, rfl⟩
      · obtain ⟨z, hz, rfl⟩ := List.mem_map.mp m
        refine ⟨z, rfl, ?_⟩
        unfold knownB
        rw [decide_eq_true (srt_mem.mp hz), Bool.or_true]
    obtain ⟨z, rfl, kz⟩ := hv
    refine asg_te ?_
    refine rd_due2 (K := K) (z := z) (σ := s13 D pl x (some (.ref e)) (some (.ref q)) (some (.ref de)) x6 (some (.str z)) none none) rfl rfl (by show 12 < 13; decide) ok j8 fun p H' s1 hp => ?_
    have j9 := j8.same s1
    exact rd_evt (K := K) (C := C) (z := z) (q := p) (σ := s13 D pl x (some (.ref e)) (some (.ref q)) (some (.ref de)) (some (.ref p)) (some (.str z)) none none) rfl rfl rfl rfl hp ok kz j9 fun H'' s2 => iteF ⟨_, _, rfl, s2 _ _ (s1 _ _ h3), j9.same s2⟩
  clear j7
  rintro _ H8 ⟨x6, x7, rfl, j8⟩
  -- words
  refine ⟨fun σ' H' => σ' = s13 D pl x (some (.ref e)) (some (.ref q)) (some (.ref de)) x6 x7 (some (.str (w1S N))) none ∧ RtJ K C T H D pl x a b c N H', ?_, ?_⟩
  · refine asg_te ?_
    exact rd_w1 (K := K) (σ := s13 D pl x (some (.ref e)) (some (.ref q)) (some (.ref de)) x6 x7 none none) rfl ok sm j8 ⟨rfl, j8⟩
  clear j8
  rintro _ H9 ⟨rfl, j9⟩
  refine ⟨fun σ' H' => σ' = s13 D pl x (some (.ref e)) (some (.ref q)) (some (.ref de)) x6 x7 (some (.str (strN N.L.length N.W.length N.B.length))) none ∧ RtJ K C T H D pl x a b c N H', ?_, ?_⟩
  · refine asg_te ?_
    exact rd_w2 (K := K) (σ := s13 D pl x (some (.ref e)) (some (.ref q)) (some (.ref de)) x6 x7 (some (.str (w1S N))) none) rfl rfl ok sm j9 ⟨rfl, j9⟩
  clear j9
  rintro _ H10 ⟨rfl, j10⟩
  -- some values
  refine ⟨fun σ' H' => ∃ sv z t l, σ' = s13 D pl x (some (.ref e)) (some (.ref q)) (some (.ref de)) x6 x7 (some (.str (strN N.L.length N.W.length N.B.length))) (some (.ref sv)) ∧ z ∈ nmS N ∧ H' sv = some (.lst (someV z t l)) ∧ H' t = some (.tup [.str "a"]) ∧ H' l = some (.lst [.str "a"]) ∧ RtJ K C T H D pl x a b c N H', ?_, ?_⟩
  · refine asg_te ?_
    exact rd_some (K := K) (σ := s13 D pl x (some (.ref e)) (some (.ref q)) (some (.ref de)) x6 x7 (some (.str (strN N.L.length N.W.length N.B.length))) none) rfl rfl npl ok j10 fun sv z t l H' hz h1 h2 h3 j => ⟨sv, z, t, l, rfl, hz, h1, h2, h3, j⟩
  clear j10
  rintro _ H11 ⟨sv, z, t, l, rfl, hz, hsv, ht, hl, j11⟩
  refine ⟨fun σ' H' => σ' = s13 D pl x (some (.ref e)) (some (.ref q)) (some (.ref de)) x6 x7 (some (.str (strN N.L.length N.W.length N.B.length))) (some (.ref sv)) ∧ RtJ K C T H D pl x a b c N H', ?_, ?_⟩
  · refine ⟨_, rfl, x, rfl, j11.net.ins, x, sortN N, rfl, j11.net, ok.sort, fun v1 H12 s12 r1 => ?_⟩
    have r1 : v1 = .str (strN (sortN N).L.length (sortN N).W.length (sortN N).B.length) := r1
    rw [show (sortN N).L.length = N.L.length from srtR_len _, show (sortN N).W.length = N.W.length from srtR_len _, show (sortN N).B.length = N.B.length from srtR_len _] at r1
    subst r1
    refine ⟨_, rfl, _, rfl, rfl, _, rfl, ?_⟩
    have e1 : (!decide (V.str (strN N.L.length N.W.length N.B.length) = V.str (strN N.L.length N.W.length N.B.length))) = false := by rw [decide_eq_true rfl]; rfl
    rw [e1]
    have j12 := j11.same s12
    exact iteF (rd_ins (K := K) (C := C) (σ := s13 D pl x (some (.ref e)) (some (.ref q)) (some (.ref de)) x6 x7 (some (.str (strN N.L.length N.W.length N.B.length))) (some (.ref sv))) rfl rfl (by show 11 < 13; decide) hz (s12 _ _ hsv) (s12 _ _ ht) (s12 _ _ hl) ok dr j12 fun H' s => iteF ⟨rfl, j12.same s⟩)
  clear j11 hsv ht hl hz
  rintro _ H12 ⟨rfl, j12⟩
  have oks := ok.sort
  -- what is told is the asker's own
  refine ⟨fun σ' H' => σ' = s13 D pl x (some (.ref e)) (some (.ref q)) (some (.ref de)) x6 x7 (some (.str (strN N.L.length N.W.length N.B.length))) (some (.ref sv)) ∧ RtJ K C T H D pl x a b c N H', ?_, ?_⟩
  · obtain ⟨dx, _, _, _, _, _, hx, _⟩ := id j12.net
    refine ⟨_, rfl, x, dx, _, rfl, hx, x, sortN N, rfl, j12.net, oks, fun v1 H13 s1 r1 => ?_⟩
    obtain ⟨d1, rfl, n1, kv, e1, t1⟩ := r1
    exact ⟨.inr (.inr (.inl ⟨rfl, .inl ⟨kv, e1⟩⟩)), d1, kv, rfl, rfl, e1, rfl, j12.same (same_mut s1 n1)⟩
  clear j12
  rintro _ H13 ⟨rfl, j13⟩
  refine ⟨fun σ' H' => σ' = s13 D pl x (some (.ref e)) (some (.ref q)) (some (.ref de)) x6 x7 (some (.str (strN N.L.length N.W.length N.B.length))) (some (.ref sv)) ∧ RtJ K C T H D pl x a b c N H', ?_, ?_⟩
  · refine ⟨by show 2 ≤ sizeLine; decide, fun tt nt => ⟨tt, _, rfl, SqT.of upd_same, rfl, _, _, rfl, ?_⟩⟩
    have j14 := j13.same (same_new (o := .tup [.int 1, .int 2]) nt)
    obtain ⟨dx, _, _, _, _, _, hx, _⟩ := id j14.net
    refine ⟨_, rfl, x, dx, _, rfl, hx, x, sortN N, rfl, j14.net, oks, fun v1 H14 s1 r1 => ?_⟩
    obtain ⟨d1, rfl, n1, kv, e1, t1⟩ := r1
    have l1 : kv.length ≤ 60 := by
      have q1 : kv.length = (sortN N).W.length := Paired.length t1
      rw [q1, show (sortN N).W.length = N.W.length from srtR_len _]
      exact sm.w
    refine ⟨d1, _, rfl, DPut.k (k := .inr "more") e1 (by rw [sizeLine_eq]; omega), _, _, rfl, ?_⟩
    have j15 := j14.same (same_mut (o := .dK (putK kv (.inr "more") (.int 1))) s1 n1)
    obtain ⟨dx, _, _, _, _, _, hx, _⟩ := id j15.net
    refine ⟨_, rfl, x, dx, _, rfl, hx, x, sortN N, rfl, j15.net, oks, fun v2 H15 s2 r2 => ?_⟩
    obtain ⟨d2, rfl, n2, kv2, e2, t2⟩ := r2
    have l2 : kv2.length ≤ 100 := by
      have q1 : kv2.length = (sortN N).B.length := Paired.length t2
      rw [q1, show (sortN N).B.length = N.B.length from srtR_len _]
      exact sm.b
    exact ⟨d2, _, rfl, DPut.k (k := .inr "more") e2 (by rw [sizeLine_eq]; omega), rfl, rfl, j15.same (same_mut s2 n2)⟩
  clear j13
  rintro _ H14 ⟨rfl, j14⟩
  refine ⟨fun σ' H' => σ' = s13 D pl x (some (.ref e)) (some (.ref q)) (some (.ref de)) x6 x7 (some (.str (strN N.L.length N.W.length N.B.length))) (some (.ref sv)) ∧ RtJ K C T H D pl x a b c N H', ?_, ?_⟩
  · exact rd_nets (K := K) (C := C) (σ := s13 D pl x (some (.ref e)) (some (.ref q)) (some (.ref de)) x6 x7 (some (.str (strN N.L.length N.W.length N.B.length))) (some (.ref sv))) rfl rfl (by show 11 < 13; decide) ok sm j14 fun H' s => iteF ⟨rfl, j14.same s⟩
  clear j14
  rintro _ H15 ⟨rfl, j15⟩
  -- the rows, the same nets
  refine ⟨_, rfl, _, rfl, _, rfl, D, pl, x, N, rfl, j15.dc, npl, j15.plain, j15.net, ok, sm, j15.tb, fun H16 b16 hD16 tb16 => ⟨true, rfl, ?_⟩⟩
  have kl := KL.butN j15.dc b16
  refine iteT ⟨_, rfl, _, rfl, _, rfl, D, pl, x, N, rfl, hD16, npl, PlainAt.kl kl (fun z => npl (List.mem_singleton.mp z)) j15.plain, NetAt.kl kl j15.net, ok, sm, dr, fun H17 b17 hD17 => ?_⟩
  exact k _ (((But.butN j15.bt).trans b16).trans (But.butN b17)) hD17 (tabs_but hD16 b17 tb16)
end
end LW
namespace LW
open PySem PySem.Spec PyProof.Rows L2 DW LamX
abbrev lwN : List Str := ["script", "spot", "dice", "turn", "bounds", "day", "told", "due"]
theorem scLw : FnScope lwN ["script"] (defScope s_law) := ⟨rfl, rfl, rfl, by decide +kernel, rfl, by decide +kernel, by decide +kernel⟩
def spLaw (K : PySem.W.Frag) (T : List (Addr × Str)) : Sp := fun vs H Q _ => ∃ (a : Addr) (ns : List Int), vs = [.ref a] ∧ SqL K H a (ns.map V.int) ∧ ns.length ≤ 1000 ∧ Tabs T H ∧ ∀ H', Q (.bl true) H'
abbrev tDy (C : Addr) (R : Sp) : TE := tProp C R [] E0 (tVar 5)
def L0 : Ls := [(("board" : Str), (60 : Int)), (("land" : Str), (40 : Int)), (("off" : Str), (60 : Int))]
def W0 : Ws := [(("fly" : Str), (("dawn" : Str), ("land" : Str), (10 : Int), (30 : Int), (0 : Int)))]
def B0 : Bs := [(("crew" : Str), (("land" : Str), ("off" : Str), (20 : Int))), (("late" : Str), (("board" : Str), ("off" : Str), (25 : Int)))]
def N0 : PlainD := ⟨L0, W0, B0⟩
theorem ok0 : OkN N0 where
  l := ⟨by decide +kernel, ⟨by decide, by decide⟩, by decide +kernel, by decide +kernel⟩
  w := by
    refine ⟨by decide +kernel, by decide, by decide +kernel, fun p hp => ?_, by decide +kernel, ⟨fun s => if s = ("dawn" : Str) then 0 else 1, by decide +kernel⟩, by decide +kernel⟩
    obtain rfl := List.mem_singleton.mp hp
    exact ⟨by decide +kernel, by decide +kernel, by decide +kernel, by decide +kernel, by decide, by decide, by decide +kernel, by decide, by decide⟩
  b := by
    refine ⟨by decide +kernel, by decide, by decide +kernel, fun p hp => ?_⟩
    have hp : p ∈ [(("crew" : Str), (("land" : Str), ("off" : Str), (20 : Int))), (("late" : Str), (("board" : Str), ("off" : Str), (25 : Int)))] := hp
    simp only [List.mem_cons, List.not_mem_nil, or_false] at hp
    rcases hp with rfl | rfl
    · exact ⟨by decide +kernel, by decide +kernel, by decide +kernel, by decide +kernel, by decide +kernel⟩
    · exact ⟨by decide +kernel, by decide +kernel, by decide +kernel, by decide +kernel, by decide +kernel⟩
theorem nm0 : nmS N0 = [("board" : Str), ("land" : Str), ("off" : Str)] := srt_uniq (List.Perm.refl _) (srt_of_sorted (by decide +kernel))
theorem en0 : endS N0 = [("land" : Str)] := srt_uniq (List.Perm.refl _) (srt_of_sorted (by decide +kernel))
theorem de0 : deS N0 = [("board" : Str), ("off" : Str)] := by
  unfold deS
  rw [nm0, en0]
  decide +kernel
theorem told_uni {D : PlainD} (ok : OkN D) {k : Str × Str} {r r' : RwT} (h : (k, r) ∈ toldR D) (h' : (k, r') ∈ toldR D) : r = r' := by
  have f1 := filter_key (told_nodup ok) h
  have f2 := filter_key (told_nodup ok) h'
  rw [f1] at f2
  exact congrArg (fun l : List RowP => (l.head?.map (·.2)).getD r) f2
theorem row_last : ((("last" : Str), ("off" : Str)), (("dawn" : Str), ("off" : Str), (60 : Int))) ∈ toldR (sortN N0) := by
  unfold toldR
  refine List.mem_append_right _ (List.mem_append_left _ (List.mem_map.mpr ⟨(("off" : Str), (60 : Int)), (srtR_mem ok0.l.nd).mpr ?_, rfl⟩))
  show _ ∈ L0
  simp [L0]
theorem row_least : ((("least" : Str), ("fly" : Str)), (("land" : Str), ("dawn" : Str), (-10 : Int))) ∈ toldR (sortN N0) := by
  unfold toldR
  refine List.mem_append_right _ (List.mem_append_right _ (List.mem_append_right _ (List.mem_append_right _ (List.mem_map.mpr ⟨(("fly" : Str), (("dawn" : Str), ("land" : Str), (10 : Int), (30 : Int), (0 : Int))), (srtR_mem ok0.w.nd).mpr ?_, rfl⟩))))
  show _ ∈ W0
  simp [W0]
theorem told_ten : (toldR (sortN N0)).length = 10 := by
  rw [told_len]
  show (srtR B0).length + (srtR L0).length + (srtR L0).length + (srtR W0).length + (srtR W0).length = 10
  rw [srtR_len, srtR_len, srtR_len]
  rfl
theorem road0 {r : Str} {ch : List Str} (h : Road (sortN N0).W "land" r ch) : r = ("dawn" : Str) ∧ ch = [("fly" : Str)] := by
  have h : Road N0.W "land" r ch := h.congr (fun s => endW_sort ok0.w s) (fun n => srtR_look ok0.w.nd n)
  have g : Road N0.W "land" "dawn" ([] ++ [("fly" : Str)]) := .step (x := (("dawn" : Str), ("land" : Str), (10 : Int), (30 : Int), (0 : Int))) (by decide +kernel) (by decide +kernel) (.stop (by decide +kernel))
  exact h.det g
theorem hor0 {m : Int} (h1 : m ∈ (sortN N0).L.map (·.2)) (h2 : ∀ y ∈ (sortN N0).L.map (·.2), y ≤ m) : m = 60 := by
  have pm := (srtR_perm ok0.l.nd).map (fun p : Str × Int => p.2)
  have a := pm.mem_iff.mp h1
  have b := h2 60 (pm.mem_iff.mpr (by show (60 : Int) ∈ L0.map (fun p => p.2); decide +kernel))
  have a : m ∈ [(60 : Int), 40, 60] := a
  simp only [List.mem_cons, List.not_mem_nil, or_false] at a
  omega
def day0 : List PyData := [strsD [("board" : Str), ("off" : Str)], strsD [("land" : Str)], .int 60, rowD (("dawn" : Str), ("off" : Str), (60 : Int)), rowD (("land" : Str), ("dawn" : Str), (-10 : Int))]
def dayX : PyData := .tuple [.str "dawn", strsD [("fly" : Str)]]
def dayD : PyData := .list (day0 ++ [dayX])
theorem day_sh : dayD.showable = true ∧ dayD.shown.length ≤ sizeLine ∧ dayD.depth ≤ 60 := ⟨by decide +kernel, by rw [sizeLine_eq]; decide +kernel, by decide +kernel⟩
section
variable {P : Program} {w : World} {K : PySem.W.Frag} {mg : Str → Option Value} {base : Heap}
theorem ok_law {T : List (Addr × Str)} {f fD fG fR fI fRow fRd C CO p1 g1 p2 g2 p3 g3 p4 g4 p5 g5 p6 g6 p7 g7 pT gT : Addr} {fd dD dG dR dI dRow dRd d1 d2 d3 d4 d5 d6 d7 dT : FuncData} (F : Fun K "law" "law" s_law f fd)
    (CD : Cal P w K mg base 1 "_law_dice" ["script", "spot"] (spDice K) fD dD) (CG : Cal P w K mg base 3 "_law_nt_great" ["dice"] (spGr K) fG dG) (RT : CalG P w K mg base 9 "_law_right" ["dice", "plain"] (spRt K T) fR dR) (MK : NetM P w K mg base C fI dI)
    (cC : Cls K C) (PR : NetP P w K mg base C p1 g1 p2 g2 p3 g3 p4 g4 p5 g5 p6 g6 p7 g7 d1 d2 d3 d4 d5 d6 d7) (TK : PropK P w K mg base C "told" (rTold K) pT gT dT) (RK : RowK P w K mg base C CO fRow dRow) (RD : MethE P w K mg base C "road" (rRoad K) fRd dRd)
    (gE : ∃ t, mg "MAX_EVENTS" = some (.int 200 t)) (gW : ∃ t, mg "MAX_WORKS" = some (.int 60 t)) (gB : ∃ t, mg "MAX_BOUNDS" = some (.int 400 t))
    (zL : mg "len" = none) (zM : mg "max" = none) (zN : mg "min" = none) (zR : mg "range" = none) (zP : mg "repr" = none) : FnG P w K mg base 10 f fd ["script"] (spLaw K T) := by
  refine fng F scLw (fun vs H Q h => ?_) (fun cdv A outer s H vs Q hr hgu h => ?_)
  · obtain ⟨a, ns, rfl, _⟩ := h
    rfl
  obtain ⟨a, ns, rfl, hS, hlen, tb, k⟩ := h
  obtain ⟨tE, gE⟩ := gE
  obtain ⟨tW, gW⟩ := gW
  obtain ⟨tB, gB⟩ := gB
  refine ⟨_, C8.pss_cut (ps_for PassesOwn.never rfl (pi_range1 rfl zR (pa_cons (pe_callB (call_max2 rfl) (by rfl) zM (by decide +kernel) (pa_cons pe_int (pa_cons (pe_callB (call_min2 rfl) (by rfl) zN (by decide +kernel) (pa_cons pe_int (pa_cons (pe_callB call_len_seq (by rfl) zL PySem.boot_len (pa_cons (pv 0) pa_nil)) pa_nil))) pa_nil))) pa_nil)) (pg_name (i := 1) scLw.nd rfl (Or.inl rfl))
      (pss_cons (ps_set (i := 2) scLw.nd rfl (Or.inl rfl) (pe_cal (E := E0) CD hr rfl (pa_cons (pv 0) (pa_cons (pv 1) pa_nil))))
      (pss_one (ps_for PassesOwn.never rfl (pi_range1 rfl zR (pa_cons pe_int pa_nil)) (pg_name (i := 3) scLw.nd rfl (Or.inl rfl))
        (pss_one (ps_if (pt_not (pt_val (pe_g RT.G hr hgu rfl RT.g RT.kp RT.b (pa_cons (pv 2) (pa_cons (pe_cal (E := E0) CG hr rfl (pa_cons (pv 2) pa_nil)) pa_nil))))) (pss_one (ps_ret pe_bl)) pss_nil))))))
    (C8.pss_cut (ps_set (i := 4) scLw.nd rfl (Or.inl rfl) (pe_disp (pps_cons pe_str (pe_tup (pa_cons pe_str (pa_cons pe_str (pa_cons pe_int pa_nil)))) (pps_cons pe_str (pe_tup (pa_cons pe_str (pa_cons pe_str (pa_cons pe_int pa_nil)))) pps_nil)) (by rfl) (by rfl) (fun z => by cases z) (by decide)))
    (C8.pss_cut (ps_set (i := 5) scLw.nd rfl (Or.inl rfl) (pe_make (E := E0) (dvs := []) MK.M MK.G (hr.mono (by decide)) rfl MK.g MK.b .nil pass0 (pa_cons (pe_disp (pps_cons pe_str pe_int (pps_cons pe_str pe_int (pps_cons pe_str pe_int pps_nil))) (by rfl) (by rfl) (fun z => by cases z) (by decide))
        (pa_cons (pe_disp (pps_cons pe_str (pe_tup (pa_cons pe_str (pa_cons pe_str (pa_cons pe_int (pa_cons pe_int (pa_cons pe_int pa_nil)))))) pps_nil) (by rfl) (by rfl) (fun z => by cases z) (by decide)) (pa_cons (pv 4) pa_nil)))))
    (C8.pss_cut (ps_set (i := 6) scLw.nd rfl (Or.inl rfl) (pe_lst (pa_cons (pe_pr PR.de cC (hr.mono (by decide)) (pv 5)) (pa_cons (pe_pr PR.en cC (hr.mono (by decide)) (pv 5)) (pa_cons (pe_pr PR.ho cC (hr.mono (by decide)) (pv 5))
        (pa_cons (pe_methX (k := 2) (pv 5) cC RK.m (FnGX.of RK.G) (hr.mono (by decide)) hgu RK.b .nil passes0 (pa_cons (pe_tup (pa_cons pe_str (pa_cons pe_str pa_nil))) pa_nil)) (pa_cons (pe_methX (k := 2) (pv 5) cC RK.m (FnGX.of RK.G) (hr.mono (by decide)) hgu RK.b .nil passes0 (pa_cons (pe_tup (pa_cons pe_str (pa_cons pe_str pa_nil))) pa_nil))
        (pa_cons (pe_methX (k := 2) (pv 5) cC RD.m (FnGX.of RD.G) (hr.mono (by decide)) hgu RD.b .nil pass0 (pa_cons pe_str pa_nil)) pa_nil))))))))
    (C8.pss_cut (ps_set (i := 7) scLw.nd rfl (Or.inl rfl) (pe_lst (pa_cons (pe_tup (pa_cons pe_str (pa_cons pe_str pa_nil))) (pa_cons (pe_tup (pa_cons pe_str pa_nil)) (pa_cons pe_int (pa_cons (pe_tup (pa_cons pe_str (pa_cons pe_str (pa_cons pe_str (pa_cons pe_int pa_nil))))) (pa_cons (pe_tup (pa_cons pe_str (pa_cons pe_str (pa_cons pe_str (pa_cons (pe_un un_neg pe_int) pa_nil))))) pa_nil)))))))
    (C8.pss_cut (ps_expr (pe_bm PySem.F.plainAttrs_list PySem.F.slot_list_append PySem.F.type_list_append mt_append (pv 7) (pa_cons (pe_tup (pa_cons pe_str (pa_cons (pe_tup (pa_cons pe_str pa_nil)) pa_nil))) pa_nil)))
    (pss_one (ps_ret (pe_and (pe_cmpR op_eq (pe_callB (call_repr hgu hr.units) (by rfl) zP (by decide +kernel) (pa_cons (pv 6) pa_nil)) (pe_callB (call_repr hgu hr.units) (by rfl) zP (by decide +kernel) (pa_cons (pv 7) pa_nil)) (nomark _))
      (pe_and (pe_cmpR (op_eqD hr.units) (pe_lst (pa_cons (pe_glob rfl gE (show RelV (.int 200) (.int 200 tE) from ⟨_, rfl⟩)) (pa_cons (pe_glob rfl gW (show RelV (.int 60) (.int 60 tW) from ⟨_, rfl⟩)) (pa_cons (pe_glob rfl gB (show RelV (.int 400) (.int 400 tB) from ⟨_, rfl⟩)) pa_nil)))) (pe_lst (pa_cons pe_int (pa_cons pe_int (pa_cons pe_int pa_nil)))) (nomark _))
      (pe_one (pe_cmpR op_eq (pe_callB call_len_seq (by rfl) zL PySem.boot_len (pa_cons (pe_pr TK cC (hr.mono (by decide)) (pv 5)) pa_nil)) pe_int (nomark _)))))))))))), ?_⟩
  have oks := ok0.sort
  have bd : ∀ j : Int, (if (if j < 6 then j else 6) > 1 then (if j < 6 then j else 6) else 1) ≤ 6 ∧ 1 ≤ (if (if j < 6 then j else 6) > 1 then (if j < 6 then j else 6) else 1) := fun j => by
    split <;> split <;> constructor <;> omega
  -- the drawn nets
  refine ⟨fun σ' H' => (∃ x1 x2 x3, σ' = [some (.ref a), x1, x2, x3, none, none, none, none]), ?_, ?_⟩
  · refine ⟨_, rfl, a, _, rfl, .inl hS, _, _, rfl, _, _, rfl, _, rfl, ?_, ?_, ?_⟩
    · have z := (bd ((ns.map V.int).length : Nat)).2
      omega
    · have z := (bd ((ns.map V.int).length : Nat)).1
      omega
    have top6 : (if (if (((ns.map V.int).length : Nat) : Int) < 6 then (((ns.map V.int).length : Nat) : Int) else 6) > 1 then (if (((ns.map V.int).length : Nat) : Int) < 6 then (((ns.map V.int).length : Nat) : Int) else 6) else 1).toNat ≤ 6 := by
      have z := (bd ((ns.map V.int).length : Nat)).1
      omega
    generalize (if (if (((ns.map V.int).length : Nat) : Int) < 6 then (((ns.map V.int).length : Nat) : Int) else 6) > 1 then (if (((ns.map V.int).length : Nat) : Int) < 6 then (((ns.map V.int).length : Nat) : Int) else 6) else 1).toNat = many at top6 ⊢
    refine for_range (lo := 0) (n := many) (fun i σ H' => ExtN H H' ∧ Tabs T H' ∧ ∃ x1 x2 x3, σ = [some (.ref a), x1, x2, x3, none, none, none, none]) ⟨ExtN.refl H, tb, _, _, _, rfl⟩ ?_ ?_
    · rintro i _ H1 hi ⟨e1, t1, x1, x2, x3, rfl⟩
      refine ⟨_, rfl, _, rfl, a, ns, _, rfl, sqL_ext e1 hS, by omega, by omega, fun D d0 d1 nD => ?_⟩
      have s1 := same_new (o := .lst [.int d0, .int d1, .int 0]) nD
      refine ⟨3, rfl, by decide, by decide, ?_⟩
      refine for_range (lo := 0) (n := 3) (fun j σ H' => ButN D (upd H1 D (.lst [.int d0, .int d1, .int 0])) H' ∧ Dc H' D ∧ Tabs T H' ∧ ∃ x3, σ = [some (.ref a), some (.int (0 + (i : Nat))), some (.ref D), x3, none, none, none, none]) ⟨ButN.refl, ⟨d0, d1, 0, upd_same⟩, DW.Tabs.same t1 s1, x3, rfl⟩ ?_ ?_
      · rintro j _ H2 hj ⟨b2, c2, t2, x3', rfl⟩
        refine ⟨_, rfl, _, rfl, D, rfl, c2, fun pl N H3 plain ok sm dr b3 c3 npl => ?_⟩
        refine ⟨D, pl, N, rfl, c3, npl, plain, ok, sm, dr, tabs_but c2 b3 t2, fun H4 b4 c4 t4 => ⟨true, rfl, ?_⟩⟩
        exact iteF ⟨b2.trans ((But.butN b3).trans b4), c4, t4, _, rfl⟩
      · rintro _ H2 ⟨b2, c2, t2, x3', rfl⟩
        exact ⟨fun b o e n => b2 b o (ne_of_none (e1 b o e n) nD) (s1 _ _ (e1 b o e n)) n, t2, _, _, _, rfl⟩
    · rintro _ H1 ⟨_, t1, x1, x2, x3, rfl⟩
      exact ⟨_, _, _, rfl⟩
  rintro σ1 H1 ⟨x1, x2, x3, rfl⟩
  -- bounds
  refine ⟨fun σ' H' => ∃ p : Addr, σ' = [some (.ref a), x1, x2, x3, some (.ref p), none, none, none] ∧ TD bdD K H' p B0, ?_, ?_⟩
  · refine fun p np => ⟨by show 3 ≤ sizeLine; decide, fun t1 n1 => ⟨by show 3 ≤ sizeLine; decide, fun t2 n2 => ?_⟩⟩
    have s1 := same_new (o := .tup [.str "land", .str "off", .int 20]) n1
    have s2 := same_new (o := .tup [.str "board", .str "off", .int 25]) n2
    refine ⟨s2 _ _ (s1 _ _ upd_same), [(.inr "crew", .ref t1), (.inr "late", .ref t2)], rfl, by show 2 ≤ 15; decide, p, rfl, ?_⟩
    rw [merge_nil (by show ([.inr "crew", .inr "late"] : List Key).Nodup; decide +kernel)]
    have hp := s2 _ _ (s1 _ _ (upd_same (H := H1) (a := p) (o := .dK [])))
    have n1p : t1 ≠ p := (ne_of_none (upd_same (H := H1) (a := p) (o := .dK [])) n1).symm
    have n2p : t2 ≠ p := (ne_of_none (s1 _ _ (upd_same (H := H1) (a := p) (o := .dK []))) n2).symm
    exact ⟨_, upd_same, .cons ⟨rfl, .tup (SqT.of (by rw [upd_ne n1p]; exact s2 _ _ upd_same)) (.cons (.str _) (.cons (.str _) (.cons (.int _) .nil)))⟩ (.cons ⟨rfl, .tup (SqT.of (by rw [upd_ne n2p]; exact upd_same)) (.cons (.str _) (.cons (.str _) (.cons (.int _) .nil)))⟩ .nil)⟩
  rintro _ H2 ⟨pb, rfl, tdb⟩
  -- the day
  refine ⟨fun σ' H' => ∃ y : Addr, σ' = [some (.ref a), x1, x2, x3, some (.ref pb), some (.ref y), none, none] ∧ NetAt K C H' y (sortN N0), ?_, ?_⟩
  · refine fun p np => ⟨upd_same, [(.inr "board", .int 60), (.inr "land", .int 40), (.inr "off", .int 60)], rfl, by decide, ?_⟩
    rw [merge_nil (by show ([.inr "board", .inr "land", .inr "off"] : List Key).Nodup; decide +kernel)]
    have sP := same_mut (o := .dK [(.inr "board", .int 60), (.inr "land", .int 40), (.inr "off", .int 60)]) (same_new (o := .dK []) np) np
    have tL : TD inD K (upd (upd H2 p (.dK [])) p (.dK [(.inr "board", .int 60), (.inr "land", .int 40), (.inr "off", .int 60)])) p L0 := ⟨_, upd_same, .cons ⟨rfl, .int _⟩ (.cons ⟨rfl, .int _⟩ (.cons ⟨rfl, .int _⟩ .nil))⟩
    generalize upd (upd H2 p (.dK [])) p (.dK [(.inr "board", .int 60), (.inr "land", .int 40), (.inr "off", .int 60)]) = G at sP tL ⊢
    refine fun q nq => ⟨by show 5 ≤ sizeLine; decide, fun t nt => ?_⟩
    have sq := same_new (o := .dK []) nq
    have st := same_new (o := .tup [.str "dawn", .str "land", .int 10, .int 30, .int 0]) nt
    refine ⟨st _ _ upd_same, [(.inr "fly", .ref t)], rfl, by show 1 ≤ 15; decide, ?_⟩
    rw [merge_nil (by show ([.inr "fly"] : List Key).Nodup; decide +kernel)]
    have ntq : t ≠ q := (ne_of_none (upd_same (H := G) (a := q) (o := .dK [])) nt).symm
    have sQ := same_mut (o := .dK [(.inr "fly", .ref t)]) (sq.trans st) nq
    have tW : TD wkD K (upd (upd (upd G q (.dK [])) t (.tup [.str "dawn", .str "land", .int 10, .int 30, .int 0])) q (.dK [(.inr "fly", .ref t)])) q W0 := ⟨_, upd_same, .cons ⟨rfl, .tup (SqT.of (by rw [upd_ne ntq]; exact upd_same)) (.cons (.str _) (.cons (.str _) (.cons (.int _) (.cons (.int _) (.cons (.int _) .nil)))))⟩ .nil⟩
    generalize upd (upd (upd G q (.dK [])) t (.tup [.str "dawn", .str "land", .int 10, .int 30, .int 0])) q (.dK [(.inr "fly", .ref t)]) = G2 at sQ tW ⊢
    refine ⟨_, rfl, fun y dy ny ndy ne => ?_⟩
    have sN : Same G2 (upd (upd G2 dy (.own y)) y (.ins C dy [])) := fun c o e => by rw [upd_ne (ne_of_none e ny), upd_ne (ne_of_none e ndy)]; exact e
    exact ⟨y, dy, p, .ref q, .ref pb, N0, rfl, upd_same, (tL.same sQ).same sN, .inl ⟨q, rfl, tW.same sN⟩, .inl ⟨pb, rfl, ((tdb.same sP).same sQ).same sN⟩, ok0, fun H' b net => ⟨rfl, y, rfl, net⟩⟩
  clear tdb
  rintro _ H3 ⟨y, rfl, net3⟩
  -- told
  refine ⟨fun σ' H' => ∃ q : Addr, σ' = [some (.ref a), x1, x2, x3, some (.ref pb), some (.ref y), some (.ref q), none] ∧ NetAt K C H' y (sortN N0) ∧ Dp K H' (.ref q) dayD, ?_, ?_⟩
  · obtain ⟨dx, _, _, _, _, _, hx, _⟩ := id net3
    refine ⟨_, rfl, y, dx, _, rfl, hx, y, sortN N0, rfl, net3, oks, fun v1 G1 s1 r1 => ?_⟩
    obtain ⟨t1, rfl, n1, e1⟩ := r1
    rw [de_eq ok0, de0] at e1
    have net4 := net3.same s1
    refine ⟨_, rfl, y, dx, _, rfl, s1 _ _ hx, y, sortN N0, rfl, net4, oks, fun v2 G2 s2 r2 => ?_⟩
    obtain ⟨t2, rfl, n2, e2⟩ := r2
    rw [en_eq ok0, en0] at e2
    have net5 := net4.same s2
    have s12 := s1.trans s2
    refine ⟨_, rfl, y, dx, _, rfl, s12 _ _ hx, y, sortN N0, rfl, net5, oks, fun v3 G3 s3 r3 => ?_⟩
    obtain ⟨m, rfl, m1, m2⟩ := r3
    rw [hor0 m1 m2]
    have net6 := net5.same s3
    have s13 := s12.trans s3
    refine ⟨_, rfl, y, dx, _, rfl, s13 _ _ hx, by rfl, by show 2 ≤ sizeLine; decide, fun w1 nw1 => ?_⟩
    have sw1 := same_new (o := .tup [.str "last", .str "off"]) nw1
    refine ⟨y, .ref w1, sortN N0, rfl, net6.same sw1, oks, .inl ⟨w1, "last", "off", rfl, upd_same, fun r hr u G4 s4 tv => ?_, fun n => absurd (List.mem_map.mpr ⟨_, row_last, rfl⟩) n⟩⟩
    obtain rfl := told_uni oks row_last hr
    have net7 := (net6.same sw1).same s4
    have s14 := s13.trans (sw1.trans s4)
    refine ⟨_, rfl, y, dx, _, rfl, s14 _ _ hx, by rfl, by show 2 ≤ sizeLine; decide, fun w2 nw2 => ?_⟩
    have sw2 := same_new (o := .tup [.str "least", .str "fly"]) nw2
    refine ⟨y, .ref w2, sortN N0, rfl, net7.same sw2, oks, .inl ⟨w2, "least", "fly", rfl, upd_same, fun r hr u2 G5 s5 tv2 => ?_, fun n => absurd (List.mem_map.mpr ⟨_, row_least, rfl⟩) n⟩⟩
    obtain rfl := told_uni oks row_least hr
    have net8 := (net7.same sw2).same s5
    have s15 := s14.trans (sw2.trans s5)
    refine ⟨_, rfl, y, dx, _, rfl, s15 _ _ hx, by rfl, y, "land", sortN N0, rfl, net8, oks, (knownB_sort ok0.l.nd _).trans (by decide +kernel), fun v6 G6 s6 r6 => ?_⟩
    obtain ⟨tr, ur, root, ch, rfl, hro, htr, hur⟩ := r6
    obtain ⟨rfl, rfl⟩ := road0 hro
    refine ⟨by show 6 ≤ sizeLine; decide, fun q nq => ⟨q, rfl, ?_⟩⟩
    have sq := same_new (o := .lst [.ref t1, .ref t2, .int 60, u, u2, .ref tr]) nq
    have a6 : Same G5 (upd G6 q (.lst [.ref t1, .ref t2, .int 60, u, u2, .ref tr])) := s6.trans sq
    have a5 : Same G4 (upd G6 q (.lst [.ref t1, .ref t2, .int 60, u, u2, .ref tr])) := (sw2.trans s5).trans a6
    have a4 : Same G3 (upd G6 q (.lst [.ref t1, .ref t2, .int 60, u, u2, .ref tr])) := (sw1.trans s4).trans a5
    refine ⟨net8.same a6, .lst (SqL.of upd_same) (.cons (dp_tup (l := [("board" : Str), ("off" : Str)]) (a4 _ _ (s3 _ _ (s2 _ _ e1)))) (.cons (dp_tup (l := [("land" : Str)]) (a4 _ _ (s3 _ _ e2))) (.cons (.int _) (.cons (Dp.same a5 (dp_row tv)) (.cons (Dp.same a6 (dp_row tv2)) (.cons (.tup (SqT.of (sq _ _ htr)) (.cons (.str _) (.cons (dp_tup (l := [("fly" : Str)]) (sq _ _ hur)) .nil))) .nil))))))⟩
  clear net3
  rintro _ H4 ⟨q, rfl, net4, dq4⟩
  -- due
  refine ⟨fun σ' H' => ∃ (du t1 t2 t3 t4 : Addr), σ' = [some (.ref a), x1, x2, x3, some (.ref pb), some (.ref y), some (.ref q), some (.ref du)] ∧ Same H4 H' ∧ H4 du = none ∧ H' du = some (.lst [.ref t1, .ref t2, .int 60, .ref t3, .ref t4]) ∧ H' t1 = some (.tup [.str "board", .str "off"]) ∧ H' t2 = some (.tup [.str "land"]) ∧
      H' t3 = some (.tup [.str "bound", .str "dawn", .str "off", .int 60]) ∧ H' t4 = some (.tup [.str "bound", .str "land", .str "dawn", .int (-10)]), ?_, ?_⟩
  · refine ⟨by show 2 ≤ sizeLine; decide, fun t1 n1 => ⟨by show 1 ≤ sizeLine; decide, fun t2 n2 => ⟨by show 4 ≤ sizeLine; decide, fun t3 n3 => ⟨10, rfl, by show 4 ≤ sizeLine; decide, fun t4 n4 => ⟨by show 5 ≤ sizeLine; decide, fun du nd => ?_⟩⟩⟩⟩⟩
    have s1 := same_new (o := .tup [.str "board", .str "off"]) n1
    have s2 := same_new (o := .tup [.str "land"]) n2
    have s3 := same_new (o := .tup [.str "bound", .str "dawn", .str "off", .int 60]) n3
    have s4 := same_new (o := .tup [.str "bound", .str "land", .str "dawn", .int (-10)]) n4
    have s5 := same_new (o := .lst [.ref t1, .ref t2, .int 60, .ref t3, .ref t4]) nd
    have b4 := s4.trans s5
    have b3 := s3.trans b4
    have b2 := s2.trans b3
    have b1 := s1.trans b2
    exact ⟨du, t1, t2, t3, t4, rfl, b1, none_of (s1.trans (s2.trans (s3.trans s4))) nd, upd_same, b2 _ _ upd_same, b3 _ _ upd_same, b4 _ _ upd_same, s5 _ _ upd_same⟩
  rintro _ H5 ⟨du, t1, t2, t3, t4, rfl, s5, nd, hdu, e1, e2, e3, e4⟩
  -- one more
  refine ⟨fun σ' H' => σ' = [some (.ref a), x1, x2, x3, some (.ref pb), some (.ref y), some (.ref q), some (.ref du)] ∧ NetAt K C H' y (sortN N0) ∧ Dp K H' (.ref q) dayD ∧ Dp K H' (.ref du) dayD, ?_, ?_⟩
  · refine ⟨_, rfl, .inl ⟨rfl, _, SqL.of hdu⟩, by show 1 ≤ sizeLine; decide, fun t nt => ⟨by show 2 ≤ sizeLine; decide, fun r nr => ?_⟩⟩
    have st := same_new (o := .tup [.str "fly"]) nt
    have sr := same_new (o := .tup [.str "dawn", .ref t]) nr
    have str := st.trans sr
    refine ⟨du, _, .ref r, rfl, rfl, str _ _ hdu, by show 5 < sizeLine; decide, rfl, ?_⟩
    have sB := same_mut (o := .lst ([.ref t1, .ref t2, .int 60, .ref t3, .ref t4] ++ [.ref r])) (s5.trans str) nd
    have kt : ∀ c xs, upd (upd H5 t (.tup [.str "fly"])) r (.tup [.str "dawn", .ref t]) c = some (.tup xs) → upd (upd (upd H5 t (.tup [.str "fly"])) r (.tup [.str "dawn", .ref t])) du (.lst ([.ref t1, .ref t2, .int 60, .ref t3, .ref t4] ++ [.ref r])) c = some (.tup xs) := fun c xs e => by
      rw [upd_ne (ne_of e (str _ _ hdu) (fun z => nomatch z))]; exact e
    refine ⟨net4.same sB, Dp.same sB dq4, .lst (xs := [.ref t1, .ref t2, .int 60, .ref t3, .ref t4, .ref r]) (SqL.of upd_same) (.cons (dp_tup (l := [("board" : Str), ("off" : Str)]) (kt _ _ (str _ _ e1))) (.cons (dp_tup (l := [("land" : Str)]) (kt _ _ (str _ _ e2))) (.cons (.int _) (.cons (dp_row (r := (("dawn" : Str), ("off" : Str), (60 : Int))) ⟨t3, rfl, SqT.of (kt _ _ (str _ _ e3))⟩)
      (.cons (dp_row (r := (("land" : Str), ("dawn" : Str), (-10 : Int))) ⟨t4, rfl, SqT.of (kt _ _ (str _ _ e4))⟩) (.cons (.tup (SqT.of (kt _ _ upd_same)) (.cons (.str _) (.cons (dp_tup (l := [("fly" : Str)]) (kt _ _ (sr _ _ upd_same))) .nil))) .nil))))))⟩
  rintro _ H6 ⟨rfl, net6, dq6, dd6⟩
  -- the end
  obtain ⟨sh1, sh2, sh3⟩ := day_sh
  refine ⟨_, rfl, .ref q, dayD, rfl, .base dq6 (by decide +kernel), sh1, sh2, sh3, _, rfl, .ref du, dayD, rfl, .base dd6 (by decide +kernel), sh1, sh2, sh3, rfl, _, rfl, ?_⟩
  have e : decide (V.str dayD.shown = V.str dayD.shown) = true := decide_eq_true rfl
  rw [e]
  refine iteT ⟨by show 3 ≤ sizeLine; decide, fun p1 n1 => ⟨by show 3 ≤ sizeLine; decide, fun p2 n2 => ?_⟩⟩
  refine ⟨.list [.int 200, .int 60, .int 400], .list [.int 200, .int 60, .int 400], .lst (SqL.of (same_new n2 _ _ upd_same)) (.cons (.int _) (.cons (.int _) (.cons (.int _) .nil))), .lst (SqL.of upd_same) (.cons (.int _) (.cons (.int _) (.cons (.int _) .nil))), by decide +kernel, by decide +kernel, _, rfl, ite1 (by decide +kernel) ?_⟩
  have sE := (same_new (o := .lst [.int 200, .int 60, .int 400]) n1).trans (same_new (o := .lst [.int 200, .int 60, .int 400]) n2)
  have net7 := net6.same sE
  obtain ⟨dx, _, _, _, _, _, hx, _⟩ := id net7
  refine ⟨_, rfl, y, dx, _, rfl, hx, y, sortN N0, rfl, net7, oks, fun v H7 s7 r7 => ?_⟩
  obtain ⟨t, bs, rfl, nt, ht, pr⟩ := r7
  have lb : bs.length = 10 := by rw [← told_ten]; exact Paired.length pr
  refine ⟨t, _, rfl, .inr (SqT.of ht), rfl, ?_⟩
  rw [List.length_map, lb]
  rw [show decide (V.int (10 : Nat) = V.int 10) = true from decide_eq_true rfl]
  exact k _
end
end LW
namespace DW
open PySem PySem.Spec PyProof.Rows L2 LamX
/-! ### the end for a promise that asks for tables, and that no repr is under way -/
section
variable {P : Program} {w : World} {K : PySem.W.Frag} {mg mb : Str → Option Value} {k : Nat} {fa a : Addr} {fd : FuncData} {x : Str} {sp : Sp} {s : Shared} {vs : List Value} {ns : List Int} {cs : List (Addr × Addr)}
abbrev tabO : Obj := { cls := .none, data := .fields #[] }
noncomputable def tabH (K : PySem.W.Frag) (a : Addr) (vs : List Value) (ns : List Int) (cs : List (Addr × Addr)) : Hp := fun b => if b ∈ cs.map (·.2) then some (.tbl #[]) else scrH K a vs ns b
theorem tab_in {b : Addr} (h : b ∈ cs.map (·.2)) : tabH K a vs ns cs b = some (.tbl #[]) := if_pos h
theorem tab_out {b : Addr} (h : b ∉ cs.map (·.2)) : tabH K a vs ns cs b = scrH K a vs ns b := if_neg h
theorem tab_has {b : Addr} {u : HO} (e : tabH K a vs ns cs b = some u) : (b ∈ cs.map (·.2) ∧ u = .tbl #[]) ∨ (b ∉ cs.map (·.2) ∧ scrH K a vs ns b = some u) := by
  by_cases h : b ∈ cs.map (·.2)
  · rw [tab_in h] at e
    exact .inl ⟨h, (Option.some.inj e).symm⟩
  · rw [tab_out h] at e
    exact .inr ⟨h, e⟩
theorem lawGT (KX : K.In s.heap) (hm : s.heap.Ns mainGlobals mg) (hb : s.heap.Ns builtinsNs mb) (hq : ∀ y : Str, y ≠ "__name__" → mb y = bootBuiltins y) (nl : s.heap.NoLimit) (hg : s.gens = #[]) (hT : ∀ p ∈ cs, s.heap.get? p.2 = some tabO) (nT : ∀ p ∈ cs, K.lookup p.2 = none)
    (cd : ∀ p ∈ cs, PySem.W.CodeHd s.heap p.1 p.2) (bmain : ∃ (bm : Addr) (ob : Obj), mg "__builtins__" = some (.ref bm) ∧ bm ≠ builtinsNs ∧ s.heap.get? bm = some ob ∧ ob.cls = .type "module" ∧ ob.dict = some builtinsNs ∧ ob.data = .plain)
    (ha : s.heap.get? a = some (scrO vs)) (hi : IntsAre vs ns) (hl : ns.length ≤ sizeLine) (hr : Room k callerA) (F : ∀ base : Heap, K.In base → (∀ p ∈ cs, TabB base mg p.1 p.2) → FnG P w K mg base k fa fd [x] sp) (hbind : ∀ (t : Shared) (u : Value), BindsTo t fd ⟨[u], []⟩ [(x, u)])
    (hsp : ∀ H : Hp, SqL K H a (ns.map V.int) → (∀ p ∈ cs, H p.2 = some (.tbl #[])) → sp [.ref a] H (fun v _ => v = .bl true) E0) :
    codeAny (model P w) callerA (.call (.ref fa) ⟨[.ref a], []⟩) (fun r s' => r = .ok (.ret (.bool true)) ∧ OldK s.heap s'.heap ∧ s'.os = s.os ∧ AllBare s'.gens) s := by
  have empty : ∀ {b : Addr}, b ∈ cs.map (·.2) → s.heap.get? b = some tabO := fun {b} h => by
    obtain ⟨p, hp, rfl⟩ := List.mem_map.mp h
    exact hT p hp
  have notK : ∀ {b : Addr}, b ∈ cs.map (·.2) → K.lookup b = none := fun {b} h => by
    obtain ⟨p, hp, rfl⟩ := List.mem_map.mp h
    exact nT p hp
  have mem : ∀ p ∈ cs, p.2 ∈ cs.map (·.2) := fun p hp => List.mem_map.mpr ⟨p, hp, rfl⟩
  have aOut : a ∉ cs.map (·.2) := fun h => by
    have z := (empty h).symm.trans ha
    have z' : Data.fields #[] = Data.seq vs.toArray _ := congrArg Obj.data (Option.some.inj z)
    cases z'
  have stay : ∀ {b : Addr} {o : Obj}, s.heap.get? b = some o → tabH K a vs ns cs b = none → (hidT s.heap (tabH K a vs ns cs)).get? b = some o := fun e n => hidT_get e n
  have plain : ∀ {b : Addr} {o : Obj}, s.heap.get? b = some o → o ≠ scrO vs → o ≠ tabO → tabH K a vs ns cs b = none := fun {b o} e n1 n2 => by
    rw [tab_out fun h => n2 (Option.some.inj (e.symm.trans (empty h)))]
    exact scr_out fun z => by
      rw [z.1, ha] at e
      exact n1 (Option.some.inj e).symm
  have byData : ∀ {b : Addr} {o : Obj}, s.heap.get? b = some o → o.data ≠ (scrO vs).data → o.data ≠ .fields #[] → tabH K a vs ns cs b = none := fun e n1 n2 => plain e (fun z => n1 (by rw [z])) fun z => n2 (by rw [z])
  have nsS : ∀ {b : Addr} {m : Str → Option Value}, s.heap.Ns b m → (hidT s.heap (tabH K a vs ns cs)).Ns b m := fun {b m} ⟨o, es, ep, e, d, r⟩ =>
    ⟨o, es, ep, stay e (byData e (fun z => by rw [d] at z; have z' : Data.dict es ep = Data.seq vs.toArray _ := z; cases z') fun z => by rw [d] at z; cases z), d, r⟩
  have KB : K.In (hidT s.heap (tabH K a vs ns cs)) := fun b o e => stay (KX b o e) (by
    rw [tab_out fun h => by rw [notK h] at e; cases e]
    exact scr_out fun z => by rw [z.1, z.2] at e; cases e)
  have md : Mod K mg (hidT s.heap (tabH K a vs ns cs)) := ⟨KB, nsS hm, ⟨mb, nsS hb, hq⟩, let ⟨c, h1, h2⟩ := nl; ⟨c, nsS h1, h2⟩⟩
  have hok : HOk P w (tabH K a vs ns cs) s.heap := fun b u e => by
    rcases tab_has e with ⟨h, rfl⟩ | ⟨h, e'⟩
    · exact empty h
    · obtain ⟨rfl, _, rfl⟩ := scr_in e'
      exact ⟨ha, by rw [List.length_map]; exact hl, vs, _, scr_vals hi, ha⟩
  have ev : Env0 P w K mg (hidT s.heap (tabH K a vs ns cs)) callerA [] s (tabH K a vs ns cs) :=
    ⟨rfl, md, fun b o e => of_hidT e, Nat.le_of_eq (hidT_size _ _), trivial, fun b z => absurd (show b ∈ ([] : List Addr) from z) (by simp), hok, .of_eq hg⟩
  have tabs : ∀ p ∈ cs, TabB (hidT s.heap (tabH K a vs ns cs)) mg p.1 p.2 := fun p hp => by
    refine ⟨?_, ?_, fun z => ?_⟩
    · obtain ⟨o, us, v1, v2, v3, v4, v5, v6, v7, e, c, d, g, rest⟩ := cd p hp
      refine ⟨o, us, v1, v2, v3, v4, v5, v6, v7, stay e (byData e (fun z => by rw [d] at z; have z' : Data.fields us = Data.seq vs.toArray _ := z; cases z') fun z => ?_), c, d, g, rest⟩
      rw [d] at z
      cases z
      simp at g
    · obtain ⟨bm, ob, m1, m2, m3, m4, m5, m6⟩ := bmain
      refine ⟨bm, ob, m1, m2, fun z => ?_, fun z => ?_, stay m3 (byData m3 (fun z => by rw [m6] at z; have z' : Data.plain = Data.seq vs.toArray _ := z; cases z') fun z => by rw [m6] at z; cases z), m4, m5, m6⟩
      · obtain ⟨o, es, ep, e, d, _⟩ := hm
        rw [z, e] at m3
        cases m3
        rw [d] at m6
        cases m6
      · rw [z, hT p hp] at m3
        cases m3
        cases m6
    · obtain ⟨o, es, ep, e, d, _⟩ := hm
      rw [z, hT p hp] at e
      cases e
      cases d
  have seq : SqL K (tabH K a vs ns cs) a (ns.map V.int) := by
    rcases scr_seq (K := K) KX ha hi hl with (z | ⟨o, z⟩) | z
    · exact .inl (.inl (by rw [tab_out aOut]; exact z))
    · exact .inl (.inr ⟨o, by rw [tab_out aOut]; exact z⟩)
    · exact .inr z
  have go := (F _ KB tabs).run callerA [] s (tabH K a vs ns cs) ⟨[.ref a], []⟩ [.ref a] [.ref a] _ hr rfl ev (hbind s (.ref a)) (Paired.cons rfl Paired.nil) (hsp _ seq fun p hp => tab_in (mem p hp))
  refine codeAny_mono go fun r s' h => ?_
  match r, h with
  | .ok (.ret u), ⟨v, H', os, bare, un, ok', rv, q⟩ =>
    cases (show v = V.bl true from q)
    cases (show u = Value.bool true from rv)
    have same : ∀ b o, b ∉ cs.map (·.2) → s.heap.get? b = some o → s'.heap.get? b = some o := fun b o out e => by
      cases z : tabH K a vs ns cs b with
      | none => exact un.keep b o e z (by intro y; exact absurd (show b ∈ ([] : List Addr) from y) (by simp)) (by simp)
      | some u =>
        rcases tab_has z with ⟨h, _⟩ | ⟨_, z'⟩
        · exact absurd h out
        · obtain ⟨rfl, _, rfl⟩ := scr_in z'
          obtain ⟨e1, _⟩ := ok' b _ (un.frzs b (scrO vs) _ z)
          rw [ha] at e
          cases e
          exact e1
    have grown : ∀ p ∈ cs, ∃ more : Array Value, s'.heap.get? p.2 = some { cls := .none, data := .fields more } := fun p hp => by
      obtain ⟨more, z⟩ := un.tbls p.2 #[] (tab_in (mem p hp))
      exact ⟨_, ok' p.2 _ z⟩
    refine ⟨rfl, ⟨fun b o e => ?_, fun b o e => ?_⟩, os, bare⟩
    · by_cases h : b ∈ cs.map (·.2)
      · obtain ⟨p, hp, rfl⟩ := List.mem_map.mp h
        obtain ⟨more, g⟩ := grown p hp
        rw [hT p hp] at e
        cases e
        exact .inr (.inl ⟨((cd p hp).tab (hT p hp)).isCodeTable, rfl, #[], more, rfl, by rw [Array.empty_append]; exact g⟩)
      · exact .inl (same b o h e)
    · by_cases h : b ∈ cs.map (·.2)
      · obtain ⟨p, hp, rfl⟩ := List.mem_map.mp h
        obtain ⟨more, g⟩ := grown p hp
        exact ⟨_, g⟩
      · exact ⟨o, same b o h e⟩
end
/-- what k_head leaves, from such a promise -/
theorem walkGT {l : PySem.W.OpenLaw} {n k : Nat} {q : Program} {loose : List Str} {XP : (Str → Option Value) → Heap → Prop} {YP : World → Heap → Prop} {d : DefRec} {K : Params → PySem.W.Frag} {x : Str} (hn : l.most = some n) (hz : n ≤ sizeLine)
    (hd : d.params.defaults = []) (hr : Room k callerA) (hY : ∀ (w : World) (h : Heap), YP w h → (K w.params).In h)
    (F : ∀ (w : World) (mg : Str → Option Value) (fa : Addr) (h : Heap), YP w h → (K w.params).In h → h.Ns mainGlobals mg → mg d.name = some (.ref fa) →
      ∃ (fd : FuncData) (cs : List (Addr × Addr)) (sp : Sp), (∀ p ∈ cs, h.get? p.2 = some tabO) ∧ (∀ p ∈ cs, (K w.params).lookup p.2 = none) ∧ (∀ p ∈ cs, PySem.W.CodeHd h p.1 p.2) ∧ (∀ (t : Shared) (u : Value), BindsTo t fd ⟨[u], []⟩ [(x, u)]) ∧
        (∀ (H : Hp) (a : Addr) (ns : List Int), ns.length ≤ n → SqL (K w.params) H a (ns.map V.int) → (∀ p ∈ cs, H p.2 = some (.tbl #[])) → sp [.ref a] H (fun v _ => v = .bl true) E0) ∧
        ∀ base : Heap, (K w.params).In base → (∀ p ∈ cs, TabB base mg p.1 p.2) → FnG l.prog w (K w.params) mg base k fa fd [x] sp) :
    PySem.W.WalkO q loose XP YP l.row.toRowW d [] (fun f vs => PySem.call f vs) := by
  refine Att.attach_call hn hd fun w _ s mg mb fa _ _ _ _ a vs ns G Y _ _ _ hmg ho hi hl hg => ?_
  have KX := hY w _ Y
  obtain ⟨fd, cs, sp, hT, nT, cd, hbind, hsp, hF⟩ := F w mg fa _ Y KX G.T.g hmg
  exact lawGT KX G.T.g G.T.b G.T.builtins G.T.nolimit hg hT nT cd G.T.bmain ho hi (Nat.le_trans hl hz) hr hF hbind fun H hS hH => hsp H a ns hl hS hH
end DW
namespace DW
open PySem PySem.Spec PyProof.Rows L2 LamX
/-! ### the end for a promise that asks for tables, and that no repr is under way -/
section
variable {P : Program} {w : World} {K : PySem.W.Frag} {mg mb : Str → Option Value} {k : Nat} {fa a : Addr} {fd : FuncData} {x : Str} {sp : Sp} {s : Shared} {vs : List Value} {ns : List Int} {cs : List (Addr × Addr)}
/-- what stands at sys.modules, as the end finds it -/
def SysH (h : Heap) : Prop := ∃ (o : Obj) (es : Array DictEntry) (ep : Nat), h.get? sysModules = some o ∧ o.cls = .type "dict" ∧ o.data = .dict es ep
theorem lawGS (hS : SysH s.heap) (KX : K.In s.heap) (hm : s.heap.Ns mainGlobals mg) (hb : s.heap.Ns builtinsNs mb) (hq : ∀ y : Str, y ≠ "__name__" → mb y = bootBuiltins y) (nl : s.heap.NoLimit) (hg : s.gens = #[]) (hT : ∀ p ∈ cs, s.heap.get? p.2 = some tabO) (nT : ∀ p ∈ cs, K.lookup p.2 = none)
    (cd : ∀ p ∈ cs, PySem.W.CodeHd s.heap p.1 p.2) (bmain : ∃ (bm : Addr) (ob : Obj), mg "__builtins__" = some (.ref bm) ∧ bm ≠ builtinsNs ∧ s.heap.get? bm = some ob ∧ ob.cls = .type "module" ∧ ob.dict = some builtinsNs ∧ ob.data = .plain)
    (ha : s.heap.get? a = some (scrO vs)) (hi : IntsAre vs ns) (hl : ns.length ≤ sizeLine) (hr : Room k callerA) (F : ∀ base : Heap, SysB base → K.In base → (∀ p ∈ cs, TabB base mg p.1 p.2) → FnG P w K mg base k fa fd [x] sp) (hbind : ∀ (t : Shared) (u : Value), BindsTo t fd ⟨[u], []⟩ [(x, u)])
    (hsp : ∀ H : Hp, SqL K H a (ns.map V.int) → (∀ p ∈ cs, H p.2 = some (.tbl #[])) → sp [.ref a] H (fun v _ => v = .bl true) E0) :
    codeAny (model P w) callerA (.call (.ref fa) ⟨[.ref a], []⟩) (fun r s' => r = .ok (.ret (.bool true)) ∧ OldK s.heap s'.heap ∧ s'.os = s.os ∧ AllBare s'.gens) s := by
  have empty : ∀ {b : Addr}, b ∈ cs.map (·.2) → s.heap.get? b = some tabO := fun {b} h => by
    obtain ⟨p, hp, rfl⟩ := List.mem_map.mp h
    exact hT p hp
  have notK : ∀ {b : Addr}, b ∈ cs.map (·.2) → K.lookup b = none := fun {b} h => by
    obtain ⟨p, hp, rfl⟩ := List.mem_map.mp h
    exact nT p hp
  have mem : ∀ p ∈ cs, p.2 ∈ cs.map (·.2) := fun p hp => List.mem_map.mpr ⟨p, hp, rfl⟩
  have aOut : a ∉ cs.map (·.2) := fun h => by
    have z := (empty h).symm.trans ha
    have z' : Data.fields #[] = Data.seq vs.toArray _ := congrArg Obj.data (Option.some.inj z)
    cases z'
  have stay : ∀ {b : Addr} {o : Obj}, s.heap.get? b = some o → tabH K a vs ns cs b = none → (hidT s.heap (tabH K a vs ns cs)).get? b = some o := fun e n => hidT_get e n
  have plain : ∀ {b : Addr} {o : Obj}, s.heap.get? b = some o → o ≠ scrO vs → o ≠ tabO → tabH K a vs ns cs b = none := fun {b o} e n1 n2 => by
    rw [tab_out fun h => n2 (Option.some.inj (e.symm.trans (empty h)))]
    exact scr_out fun z => by
      rw [z.1, ha] at e
      exact n1 (Option.some.inj e).symm
  have byData : ∀ {b : Addr} {o : Obj}, s.heap.get? b = some o → o.data ≠ (scrO vs).data → o.data ≠ .fields #[] → tabH K a vs ns cs b = none := fun e n1 n2 => plain e (fun z => n1 (by rw [z])) fun z => n2 (by rw [z])
  have nsS : ∀ {b : Addr} {m : Str → Option Value}, s.heap.Ns b m → (hidT s.heap (tabH K a vs ns cs)).Ns b m := fun {b m} ⟨o, es, ep, e, d, r⟩ =>
    ⟨o, es, ep, stay e (byData e (fun z => by rw [d] at z; have z' : Data.dict es ep = Data.seq vs.toArray _ := z; cases z') fun z => by rw [d] at z; cases z), d, r⟩
  have KB : K.In (hidT s.heap (tabH K a vs ns cs)) := fun b o e => stay (KX b o e) (by
    rw [tab_out fun h => by rw [notK h] at e; cases e]
    exact scr_out fun z => by rw [z.1, z.2] at e; cases e)
  have md : Mod K mg (hidT s.heap (tabH K a vs ns cs)) := ⟨KB, nsS hm, ⟨mb, nsS hb, hq⟩, let ⟨c, h1, h2⟩ := nl; ⟨c, nsS h1, h2⟩⟩
  have hok : HOk P w (tabH K a vs ns cs) s.heap := fun b u e => by
    rcases tab_has e with ⟨h, rfl⟩ | ⟨h, e'⟩
    · exact empty h
    · obtain ⟨rfl, _, rfl⟩ := scr_in e'
      exact ⟨ha, by rw [List.length_map]; exact hl, vs, _, scr_vals hi, ha⟩
  have ev : Env0 P w K mg (hidT s.heap (tabH K a vs ns cs)) callerA [] s (tabH K a vs ns cs) :=
    ⟨rfl, md, fun b o e => of_hidT e, Nat.le_of_eq (hidT_size _ _), trivial, fun b z => absurd (show b ∈ ([] : List Addr) from z) (by simp), hok, .of_eq hg⟩
  have tabs : ∀ p ∈ cs, TabB (hidT s.heap (tabH K a vs ns cs)) mg p.1 p.2 := fun p hp => by
    refine ⟨?_, ?_, fun z => ?_⟩
    · obtain ⟨o, us, v1, v2, v3, v4, v5, v6, v7, e, c, d, g, rest⟩ := cd p hp
      refine ⟨o, us, v1, v2, v3, v4, v5, v6, v7, stay e (byData e (fun z => by rw [d] at z; have z' : Data.fields us = Data.seq vs.toArray _ := z; cases z') fun z => ?_), c, d, g, rest⟩
      rw [d] at z
      cases z
      simp at g
    · obtain ⟨bm, ob, m1, m2, m3, m4, m5, m6⟩ := bmain
      refine ⟨bm, ob, m1, m2, fun z => ?_, fun z => ?_, stay m3 (byData m3 (fun z => by rw [m6] at z; have z' : Data.plain = Data.seq vs.toArray _ := z; cases z') fun z => by rw [m6] at z; cases z), m4, m5, m6⟩
      · obtain ⟨o, es, ep, e, d, _⟩ := hm
        rw [z, e] at m3
        cases m3
        rw [d] at m6
        cases m6
      · rw [z, hT p hp] at m3
        cases m3
        cases m6
    · obtain ⟨o, es, ep, e, d, _⟩ := hm
      rw [z, hT p hp] at e
      cases e
      cases d
  have seq : SqL K (tabH K a vs ns cs) a (ns.map V.int) := by
    rcases scr_seq (K := K) KX ha hi hl with (z | ⟨o, z⟩) | z
    · exact .inl (.inl (by rw [tab_out aOut]; exact z))
    · exact .inl (.inr ⟨o, by rw [tab_out aOut]; exact z⟩)
    · exact .inr z
  have sysb : SysB (hidT s.heap (tabH K a vs ns cs)) := by
    obtain ⟨o, es, ep, e, c, d⟩ := hS
    exact ⟨o, stay e (byData e (fun z => by rw [d] at z; have z' : Data.dict es ep = Data.seq vs.toArray _ := z; cases z') fun z => by rw [d] at z; cases z), c⟩
  have go := (F _ sysb KB tabs).run callerA [] s (tabH K a vs ns cs) ⟨[.ref a], []⟩ [.ref a] [.ref a] _ hr rfl ev (hbind s (.ref a)) (Paired.cons rfl Paired.nil) (hsp _ seq fun p hp => tab_in (mem p hp))
  refine codeAny_mono go fun r s' h => ?_
  match r, h with
  | .ok (.ret u), ⟨v, H', os, bare, un, ok', rv, q⟩ =>
    cases (show v = V.bl true from q)
    cases (show u = Value.bool true from rv)
    have same : ∀ b o, b ∉ cs.map (·.2) → s.heap.get? b = some o → s'.heap.get? b = some o := fun b o out e => by
      cases z : tabH K a vs ns cs b with
      | none => exact un.keep b o e z (by intro y; exact absurd (show b ∈ ([] : List Addr) from y) (by simp)) (by simp)
      | some u =>
        rcases tab_has z with ⟨h, _⟩ | ⟨_, z'⟩
        · exact absurd h out
        · obtain ⟨rfl, _, rfl⟩ := scr_in z'
          obtain ⟨e1, _⟩ := ok' b _ (un.frzs b (scrO vs) _ z)
          rw [ha] at e
          cases e
          exact e1
    have grown : ∀ p ∈ cs, ∃ more : Array Value, s'.heap.get? p.2 = some { cls := .none, data := .fields more } := fun p hp => by
      obtain ⟨more, z⟩ := un.tbls p.2 #[] (tab_in (mem p hp))
      exact ⟨_, ok' p.2 _ z⟩
    refine ⟨rfl, ⟨fun b o e => ?_, fun b o e => ?_⟩, os, bare⟩
    · by_cases h : b ∈ cs.map (·.2)
      · obtain ⟨p, hp, rfl⟩ := List.mem_map.mp h
        obtain ⟨more, g⟩ := grown p hp
        rw [hT p hp] at e
        cases e
        exact .inr (.inl ⟨((cd p hp).tab (hT p hp)).isCodeTable, rfl, #[], more, rfl, by rw [Array.empty_append]; exact g⟩)
      · exact .inl (same b o h e)
    · by_cases h : b ∈ cs.map (·.2)
      · obtain ⟨p, hp, rfl⟩ := List.mem_map.mp h
        obtain ⟨more, g⟩ := grown p hp
        exact ⟨_, g⟩
      · exact ⟨o, same b o h e⟩
end
/-- what k_head leaves, from such a promise -/
theorem walkGS {l : PySem.W.OpenLaw} {n k : Nat} {q : Program} {loose : List Str} {XP : (Str → Option Value) → Heap → Prop} {YP : World → Heap → Prop} {d : DefRec} {K : Params → PySem.W.Frag} {x : Str} (hn : l.most = some n) (hz : n ≤ sizeLine)
    (hd : d.params.defaults = []) (hr : Room k callerA) (hY : ∀ (w : World) (h : Heap), YP w h → (K w.params).In h)
    (F : ∀ (w : World) (mg : Str → Option Value) (fa : Addr) (h : Heap), YP w h → (K w.params).In h → h.Ns mainGlobals mg → mg d.name = some (.ref fa) →
      SysH h ∧ ∃ (fd : FuncData) (cs : List (Addr × Addr)) (sp : Sp), (∀ p ∈ cs, h.get? p.2 = some tabO) ∧ (∀ p ∈ cs, (K w.params).lookup p.2 = none) ∧ (∀ p ∈ cs, PySem.W.CodeHd h p.1 p.2) ∧ (∀ (t : Shared) (u : Value), BindsTo t fd ⟨[u], []⟩ [(x, u)]) ∧
        (∀ (H : Hp) (a : Addr) (ns : List Int), ns.length ≤ n → SqL (K w.params) H a (ns.map V.int) → (∀ p ∈ cs, H p.2 = some (.tbl #[])) → sp [.ref a] H (fun v _ => v = .bl true) E0) ∧
        ∀ base : Heap, SysB base → (K w.params).In base → (∀ p ∈ cs, TabB base mg p.1 p.2) → FnG l.prog w (K w.params) mg base k fa fd [x] sp) :
    PySem.W.WalkO q loose XP YP l.row.toRowW d [] (fun f vs => PySem.call f vs) := by
  refine Att.attach_call hn hd fun w _ s mg mb fa _ _ _ _ a vs ns G Y _ _ _ hmg ho hi hl hg => ?_
  have KX := hY w _ Y
  obtain ⟨hS, fd, cs, sp, hT, nT, cd, hbind, hsp, hF⟩ := F w mg fa _ Y KX G.T.g hmg
  exact lawGS hS KX G.T.g G.T.b G.T.builtins G.T.nolimit hg hT nT cd G.T.bmain ho hi (Nat.le_trans hl hz) hr hF hbind fun H hS hH => hsp H a ns hl hS hH
end DW
namespace LW
open PySem PySem.Spec PyProof.Rows L2 DW LamX PySem.W
/-- a dict stands at sys.modules -/
def sysOk : Option Obj → Bool
  | some ⟨.type "dict", _, .dict _ _, _⟩ => true
  | _ => false
theorem sys_of {h : Heap} (e : sysOk (h.get? sysModules) = true) : SysH h := by
  unfold sysOk at e
  split at e
  · rename_i hh
    exact ⟨_, _, _, hh, rfl, rfl⟩
  · cases e
def kmHookS (K : Params → Frag) (as : List Addr) (e : ∀ P, as = (K P).map (·.1)) (ts : List Addr) : Hook :=
  { α := (kmHook K as e ts).α × Bool
    obs := fun s => ((kmHook K as e ts).obs s, sysOk (s.heap.get? sysModules))
    val := fun w => ((kmHook K as e ts).val w, true)
    says := fun w h => (kmHook K as e ts).says w h ∧ SysH h
    of := fun w s x => ⟨(kmHook K as e ts).of w s (congrArg Prod.fst x), sys_of (congrArg Prod.snd x)⟩
    keeps := fun w h h' x k => ⟨(kmHook K as e ts).keeps w h h' x.1 k, by
      obtain ⟨o, es, ep, h1, h2, h3⟩ := x.2
      exact ⟨o, es, ep, k _ _ h1, h2, h3⟩⟩ }
theorem kmS_in_of {K : Params → Frag} {as : List Addr} {e : ∀ P, as = (K P).map (·.1)} {ts : List Addr} {w : World} {h : Heap} (Y : (kmHookS K as e ts).says w h) : (K w.params).In h := km_in_of Y.1
theorem kmS_tabs_of {K : Params → Frag} {as : List Addr} {e : ∀ P, as = (K P).map (·.1)} {ts : List Addr} {w : World} {h : Heap} (Y : (kmHookS K as e ts).says w h) : ∀ P ∈ ts, h.get? P = some (tabObj #[]) := km_tabs_of Y.1
theorem kmS_sys_of {K : Params → Frag} {as : List Addr} {e : ∀ P, as = (K P).map (·.1)} {ts : List Addr} {w : World} {h : Heap} (Y : (kmHookS K as e ts).says w h) : SysH h := Y.2
end LW
namespace LW
open PySem PySem.Spec PyProof.Rows L2 DW LamX
def exkB (K : PySem.W.Frag) (C : Addr) : Bool :=
  PySem.W.keepIn K (.ref C) && ((PySem.W.clsIn K C).isSome && (PySem.W.hasDictIn K C && (PySem.W.findIn K (.ref C) "__getattribute__" == some (some (.builtin "BaseException.__getattribute__")) &&
  (PySem.W.findIn K (.ref C) "__getattr__" == some none && (PySem.W.findIn K (.ref C) "__setattr__" == some (some (.builtin "object.__setattr__")) &&
  ((PySem.W.findIn K (.ref C) "__str__" == some (some (.builtin "BaseException.__str__")) || PySem.W.findIn K (.ref C) "__str__" == some (some (.builtin "KeyError.__str__"))) &&
  (PySem.W.subIn K (.ref C) (.type "BaseException") == some true && (PySem.W.findIn K (.ref C) "__class__" == some (some (.builtin "object.__class__")) &&
  (PySem.W.specialIn K (.builtin "object.__class__") "__get__" == some (some (.builtin "getset_descriptor.__get__")) && (PySem.W.takesIn K (.builtin "object.__class__") == some true &&
  PySem.W.mroIn K C (.type "object") == some true))))))))))
theorem exk_of {K : PySem.W.Frag} {C : Addr} (h : exkB K C = true) : ExK K C := by
  unfold exkB at h
  simp only [Bool.and_eq_true, Bool.or_eq_true, beq_iff_eq] at h
  obtain ⟨a, b, c, d, e, f, g, i, j, k, l, m⟩ := h
  exact ⟨a, b, c, d, e, f, g, i, j, k, l, m⟩
def plB (K : PySem.W.Frag) (C : Addr) : Bool := PySem.W.excInitIn K C bmV "ValueError.__new__" && (PySem.W.findIn K (.ref C) "__init__" == some (some (.builtin "ValueError.__init__")) && PySem.W.typeIn K (.ref C) == some (.type "type"))
theorem pl_of {K : PySem.W.Frag} {mg : Str → Option Value} {nm : Str} {C : Addr} (e : exkB K C = true) (h : plB K C = true) (g : mg nm = some (.ref C)) : Pl K mg nm C := by
  unfold plB at h
  simp only [Bool.and_eq_true, beq_iff_eq] at h
  exact ⟨exk_of e, g, h.1, h.2.1, h.2.2⟩
def exoB (K : PySem.W.Frag) (C : Addr) : Bool := PySem.W.exmOne K (.ref C) (.ref C) == some true
abbrev tyN : List String := ["NoneType", "int", "tuple", "dict", "list", "str"]
def netB (K : PySem.W.Frag) (C : Addr) : Bool := PySem.W.plainGet K C Str.empty && (PySem.W.hasDictIn K C && (PySem.W.plainOver K C && (PySem.W.findIn K (.ref C) "__setattr__" == some (some (.builtin "object.__setattr__")) &&
  (PySem.W.findIn K (.ref C) "_lasts" == some none && (PySem.W.findIn K (.ref C) "_works" == some none && (PySem.W.findIn K (.ref C) "_bounds" == some none && (PySem.W.findIn K (.ref C) "_ended" == some none && (PySem.W.findIn K (.ref C) "_rows" == some none &&
  (PySem.W.makesIn K C && (PySem.W.keepIn K (.ref C) && (PySem.W.findIn K (.ref C) "__ne__" == some (some (.builtin "object.__ne__")) && (PySem.W.mroIn K C (.type "object") == some true && (PySem.W.findIn K (.ref C) "__class__" == some (some (.builtin "object.__class__")) &&
  (PySem.W.specialIn K (.builtin "object.__class__") "__get__" == some (some (.builtin "getset_descriptor.__get__")) && (PySem.W.takesIn K (.builtin "object.__class__") == some true && (PySem.W.kitOne K (.ref C) (.ref C) == some true && tyN.all fun t => PySem.W.kitOne K (.type t) (.ref C) == some false))))))))))))))))
structure NetF (K : PySem.W.Frag) (C : Addr) : Prop where
  n : NetK K C
  mks : PySem.W.makesIn K C = true
  kp : PySem.W.keepIn K (.ref C) = true
  ne : PySem.W.findIn K (.ref C) "__ne__" = some (some (.builtin "object.__ne__"))
  mo : PySem.W.mroIn K C (.type "object") = some true
  ic : C8.InsC K C
  kn : ∀ t ∈ tyN, PySem.W.kitOne K (.type t) (.ref C) = some false
theorem net_of {K : PySem.W.Frag} {C : Addr} (h : netB K C = true) : NetF K C := by
  unfold netB at h
  simp only [Bool.and_eq_true, beq_iff_eq, List.all_eq_true] at h
  obtain ⟨a1, a2, a3, a4, b1, b2, b3, b4, b5, c1, c2, c3, c4, c5, c6, c7, c8, c9⟩ := h
  exact ⟨⟨⟨a1, a2, a3, a4⟩, b1, b2, b3, b4, b5⟩, c1, c2, c3, c4, ⟨⟨a1, a2, a3, a4⟩, c5, c6, c7, c4, c8⟩, c9⟩
theorem one_all {α : Type} {x : α} {R : α → Prop} (a : R x) : ∀ p ∈ [x], R p := fun p hp => by
  rw [List.mem_singleton.mp hp]
  exact a
theorem code_is {K : PySem.W.Frag} {f c : Addr} {x x' q q' : Str} {ar ar' : Arguments} {bd bd' : List Stmt} {sc sc' : Scope} {oc oc' cdv ct ct' dV dV' kV kV' doc doc' pm pm' : Value} {od od' an an' : Option Addr} {osl osl' : Array (Option Value)}
    (h1 : K.lookup f = some ⟨oc, od, .func (PySem.W.fnOf x q ar bd sc dV kV doc pm an cdv ct), osl⟩) (h2 : K.lookup f = some ⟨oc', od', .func (PySem.W.fnOf x' q' ar' bd' sc' dV' kV' doc' pm' an' (.ref c) ct'), osl'⟩) : cdv = .ref c := by
  have z := congrArg (fun o : Option Obj => match o with | some ⟨_, _, .func fd, _⟩ => fd.code | _ => Value.none) (h1.symm.trans h2)
  exact z
abbrev QRr : Str := "_law_rows_right" ++ ".<locals>." ++ "<lambda>"
theorem all_mk {l : PySem.W.OpenLaw} {w : World} {K : PySem.W.Frag} {h : Heap} {mg : Str → Option Value} {fa fLa fBt fIi fIn fIp fAl fIl fIk fIw fIb fGo fCh fWf fBf fNf fTr fRo fDi fPi fSh fGr fNt fSo fMi fRd fMe fRr fEr fRt fMk fRw fNd fWo fRm fLe fCo fEq fSt fPl fPw fPb fPe fPd fPn fPh fPt uRr pRr TMk vMk0 vMk1 qPl qPw qPb qPe qPd qPn qPh qPt cOp cUn cNe : Addr} {odBt anBt odIi anIi odIn anIn odIp anIp odAl anAl odIl anIl odIk anIk odIw anIw odIb anIb odGo anGo odCh anCh odWf anWf odBf anBf odNf anNf odTr anTr odRo anRo odDi anDi odPi anPi odSh anSh odGr anGr odNt anNt odSo anSo odMi anMi odRd anRd odMe anMe odRr anRr odEr anEr odRt anRt odLa anLa odMk anMk dTMk odRw anRw odNd anNd odWo anWo odRm anRm odLe anLe odCo anCo odEq anEq odSt anSt odPl anPl odPw anPw odPb anPb odPe anPe odPd anPd odPn anPn odPh anPh odPt anPt : Option Addr} {slBt slIi slIn slIp slAl slIl slIk slIw slIb slGo slCh slWf slBf slNf slTr slRo slDi slPi slSh slGr slNt slSo slMi slRd slMe slRr slEr slRt slLa slMk sTMk slRw slNd slWo slRm slLe slCo slEq slSt slPl slPw slPb slPe slPd slPn slPh slPt : Array (Option Value)} {ocBt dcBt pmBt ctBt kVBt cdBt ocIi dcIi pmIi ctIi kVIi cdIi ocIn dcIn pmIn ctIn kVIn cdIn ocIp dcIp pmIp ctIp kVIp cdIp ocAl dcAl pmAl ctAl kVAl cdAl ocIl dcIl pmIl ctIl kVIl cdIl ocIk dcIk pmIk ctIk kVIk cdIk ocIw dcIw pmIw ctIw kVIw cdIw ocIb dcIb pmIb ctIb kVIb cdIb ocGo dcGo pmGo ctGo kVGo cdGo ocCh dcCh pmCh ctCh kVCh cdCh ocWf dcWf pmWf ctWf kVWf cdWf ocBf dcBf pmBf ctBf kVBf cdBf ocNf dcNf pmNf ctNf kVNf cdNf ocTr dcTr pmTr ctTr kVTr cdTr ocRo dcRo pmRo ctRo kVRo cdRo ocDi dcDi pmDi ctDi kVDi cdDi ocPi dcPi pmPi ctPi kVPi cdPi ocSh dcSh pmSh ctSh kVSh cdSh ocGr dcGr pmGr ctGr kVGr cdGr ocNt dcNt pmNt ctNt kVNt cdNt ocSo dcSo pmSo ctSo kVSo cdSo ocMi dcMi pmMi ctMi kVMi cdMi ocRd dcRd pmRd ctRd kVRd cdRd ocMe dcMe pmMe ctMe kVMe cdMe ocRr dcRr pmRr ctRr kVRr ocEr dcEr pmEr ctEr kVEr cdEr ocRt dcRt pmRt ctRt kVRt cdRt ocLa dcLa pmLa ctLa kVLa cdLa ocMk dcMk pmMk ctMk kVMk cdMk ocRw dcRw pmRw ctRw kVRw cdRw ocNd dcNd pmNd ctNd kVNd cdNd ocWo dcWo pmWo ctWo kVWo cdWo ocRm dcRm pmRm ctRm kVRm cdRm ocLe dcLe pmLe ctLe kVLe cdLe ocCo dcCo pmCo ctCo kVCo cdCo ocEq dcEq pmEq ctEq kVEq cdEq ocSt dcSt pmSt ctSt kVSt cdSt ocPl dcPl pmPl ctPl kVPl cdPl ocPw dcPw pmPw ctPw kVPw cdPw ocPb dcPb pmPb ctPb kVPb cdPb ocPe dcPe pmPe ctPe kVPe cdPe ocPd dcPd pmPd ctPd kVPd cdPd ocPn dcPn pmPn ctPn kVPn cdPn ocPh dcPh pmPh ctPh kVPh cdPh ocPt dcPt pmPt ctPt kVPt cdPt : Value} {tcFar tcLett tcDawn tcFst tcAll tcLen tcLook tcEv tcWk tcBd : Tok}  {rePl rePw rePb rePe rePd rePn rePh rePt : List Value} {nTMk : Nat} (X : K.In h) (G : h.Ns mainGlobals mg) (hfa : mg "law" = some (.ref fa))
    (gOp : PySem.W.nsIn K mainGlobals "InvalidOperation" = some (some (.ref cOp)))
    (gUn : PySem.W.nsIn K mainGlobals "UnknownName" = some (some (.ref cUn)))
    (gNe : PySem.W.nsIn K mainGlobals "Net" = some (some (.ref cNe)))
    (aBt : PySem.W.nsIn K mainGlobals "is_between" = some (some (.ref fBt)))
    (lBt : K.lookup fBt = some ⟨ocBt, odBt, .func (PySem.W.fnOf "is_between" "is_between" (defArgs s_is_between) (defBody s_is_between) (defScope s_is_between) .none kVBt dcBt pmBt anBt cdBt ctBt), slBt⟩)
    (dBt : PySem.W.codeIn K cdBt "is_between" = true)
    (kBt : PySem.W.keepIn K (.ref fBt) = true)
    (aIi : PySem.W.nsIn K mainGlobals "is_integer" = some (some (.ref fIi)))
    (lIi : K.lookup fIi = some ⟨ocIi, odIi, .func (PySem.W.fnOf "is_integer" "is_integer" (defArgs s_is_integer) (defBody s_is_integer) (defScope s_is_integer) .none kVIi dcIi pmIi anIi cdIi ctIi), slIi⟩)
    (dIi : PySem.W.codeIn K cdIi "is_integer" = true)
    (kIi : PySem.W.keepIn K (.ref fIi) = true)
    (aIn : PySem.W.nsIn K mainGlobals "is_name" = some (some (.ref fIn)))
    (lIn : K.lookup fIn = some ⟨ocIn, odIn, .func (PySem.W.fnOf "is_name" "is_name" (defArgs s_is_name) (defBody s_is_name) (defScope s_is_name) .none kVIn dcIn pmIn anIn cdIn ctIn), slIn⟩)
    (dIn : PySem.W.codeIn K cdIn "is_name" = true)
    (kIn : PySem.W.keepIn K (.ref fIn) = true)
    (aIp : PySem.W.nsIn K mainGlobals "is_pair" = some (some (.ref fIp)))
    (lIp : K.lookup fIp = some ⟨ocIp, odIp, .func (PySem.W.fnOf "is_pair" "is_pair" (defArgs s_is_pair) (defBody s_is_pair) (defScope s_is_pair) .none kVIp dcIp pmIp anIp cdIp ctIp), slIp⟩)
    (dIp : PySem.W.codeIn K cdIp "is_pair" = true)
    (kIp : PySem.W.keepIn K (.ref fIp) = true)
    (aAl : PySem.W.nsIn K mainGlobals "are_lasts" = some (some (.ref fAl)))
    (lAl : K.lookup fAl = some ⟨ocAl, odAl, .func (PySem.W.fnOf "are_lasts" "are_lasts" (defArgs s_are_lasts) (defBody s_are_lasts) (defScope s_are_lasts) .none kVAl dcAl pmAl anAl cdAl ctAl), slAl⟩)
    (dAl : PySem.W.codeIn K cdAl "are_lasts" = true)
    (kAl : PySem.W.keepIn K (.ref fAl) = true)
    (aIl : PySem.W.nsIn K mainGlobals "_is_lot" = some (some (.ref fIl)))
    (lIl : K.lookup fIl = some ⟨ocIl, odIl, .func (PySem.W.fnOf "_is_lot" "_is_lot" (defArgs s_u_is_lot) (defBody s_u_is_lot) (defScope s_u_is_lot) .none kVIl dcIl pmIl anIl cdIl ctIl), slIl⟩)
    (dIl : PySem.W.codeIn K cdIl "_is_lot" = true)
    (kIl : PySem.W.keepIn K (.ref fIl) = true)
    (aIk : PySem.W.nsIn K mainGlobals "_is_known" = some (some (.ref fIk)))
    (lIk : K.lookup fIk = some ⟨ocIk, odIk, .func (PySem.W.fnOf "_is_known" "_is_known" (defArgs s_u_is_known) (defBody s_u_is_known) (defScope s_u_is_known) .none kVIk dcIk pmIk anIk cdIk ctIk), slIk⟩)
    (dIk : PySem.W.codeIn K cdIk "_is_known" = true)
    (kIk : PySem.W.keepIn K (.ref fIk) = true)
    (aIw : PySem.W.nsIn K mainGlobals "_is_work" = some (some (.ref fIw)))
    (lIw : K.lookup fIw = some ⟨ocIw, odIw, .func (PySem.W.fnOf "_is_work" "_is_work" (defArgs s_u_is_work) (defBody s_u_is_work) (defScope s_u_is_work) .none kVIw dcIw pmIw anIw cdIw ctIw), slIw⟩)
    (dIw : PySem.W.codeIn K cdIw "_is_work" = true)
    (kIw : PySem.W.keepIn K (.ref fIw) = true)
    (aIb : PySem.W.nsIn K mainGlobals "_is_bound" = some (some (.ref fIb)))
    (lIb : K.lookup fIb = some ⟨ocIb, odIb, .func (PySem.W.fnOf "_is_bound" "_is_bound" (defArgs s_u_is_bound) (defBody s_u_is_bound) (defScope s_u_is_bound) .none kVIb dcIb pmIb anIb cdIb ctIb), slIb⟩)
    (dIb : PySem.W.codeIn K cdIb "_is_bound" = true)
    (kIb : PySem.W.keepIn K (.ref fIb) = true)
    (aGo : PySem.W.nsIn K mainGlobals "_goes_round" = some (some (.ref fGo)))
    (lGo : K.lookup fGo = some ⟨ocGo, odGo, .func (PySem.W.fnOf "_goes_round" "_goes_round" (defArgs s_u_goes_round) (defBody s_u_goes_round) (defScope s_u_goes_round) .none kVGo dcGo pmGo anGo cdGo ctGo), slGo⟩)
    (dGo : PySem.W.codeIn K cdGo "_goes_round" = true)
    (kGo : PySem.W.keepIn K (.ref fGo) = true)
    (aCh : PySem.W.nsIn K mainGlobals "_chain_fault" = some (some (.ref fCh)))
    (lCh : K.lookup fCh = some ⟨ocCh, odCh, .func (PySem.W.fnOf "_chain_fault" "_chain_fault" (defArgs s_u_chain_fault) (defBody s_u_chain_fault) (defScope s_u_chain_fault) .none kVCh dcCh pmCh anCh cdCh ctCh), slCh⟩)
    (dCh : PySem.W.codeIn K cdCh "_chain_fault" = true)
    (kCh : PySem.W.keepIn K (.ref fCh) = true)
    (aWf : PySem.W.nsIn K mainGlobals "works_fault" = some (some (.ref fWf)))
    (lWf : K.lookup fWf = some ⟨ocWf, odWf, .func (PySem.W.fnOf "works_fault" "works_fault" (defArgs s_works_fault) (defBody s_works_fault) (defScope s_works_fault) .none kVWf dcWf pmWf anWf cdWf ctWf), slWf⟩)
    (dWf : PySem.W.codeIn K cdWf "works_fault" = true)
    (kWf : PySem.W.keepIn K (.ref fWf) = true)
    (aBf : PySem.W.nsIn K mainGlobals "bounds_fault" = some (some (.ref fBf)))
    (lBf : K.lookup fBf = some ⟨ocBf, odBf, .func (PySem.W.fnOf "bounds_fault" "bounds_fault" (defArgs s_bounds_fault) (defBody s_bounds_fault) (defScope s_bounds_fault) .none kVBf dcBf pmBf anBf cdBf ctBf), slBf⟩)
    (dBf : PySem.W.codeIn K cdBf "bounds_fault" = true)
    (kBf : PySem.W.keepIn K (.ref fBf) = true)
    (aNf : PySem.W.nsIn K mainGlobals "net_fault" = some (some (.ref fNf)))
    (lNf : K.lookup fNf = some ⟨ocNf, odNf, .func (PySem.W.fnOf "net_fault" "net_fault" (defArgs s_net_fault) (defBody s_net_fault) (defScope s_net_fault) .none kVNf dcNf pmNf anNf cdNf ctNf), slNf⟩)
    (dNf : PySem.W.codeIn K cdNf "net_fault" = true)
    (kNf : PySem.W.keepIn K (.ref fNf) = true)
    (aTr : PySem.W.nsIn K mainGlobals "_told_rows" = some (some (.ref fTr)))
    (lTr : K.lookup fTr = some ⟨ocTr, odTr, .func (PySem.W.fnOf "_told_rows" "_told_rows" (defArgs s_u_told_rows) (defBody s_u_told_rows) (defScope s_u_told_rows) .none kVTr dcTr pmTr anTr cdTr ctTr), slTr⟩)
    (dTr : PySem.W.codeIn K cdTr "_told_rows" = true)
    (kTr : PySem.W.keepIn K (.ref fTr) = true)
    (aRo : PySem.W.nsIn K mainGlobals "_law_roll" = some (some (.ref fRo)))
    (lRo : K.lookup fRo = some ⟨ocRo, odRo, .func (PySem.W.fnOf "_law_roll" "_law_roll" (defArgs s_law_roll) (defBody s_law_roll) (defScope s_law_roll) .none kVRo dcRo pmRo anRo cdRo ctRo), slRo⟩)
    (dRo : PySem.W.codeIn K cdRo "_law_roll" = true)
    (kRo : PySem.W.keepIn K (.ref fRo) = true)
    (aDi : PySem.W.nsIn K mainGlobals "_law_dice" = some (some (.ref fDi)))
    (lDi : K.lookup fDi = some ⟨ocDi, odDi, .func (PySem.W.fnOf "_law_dice" "_law_dice" (defArgs s_law_dice) (defBody s_law_dice) (defScope s_law_dice) .none kVDi dcDi pmDi anDi cdDi ctDi), slDi⟩)
    (dDi : PySem.W.codeIn K cdDi "_law_dice" = true)
    (kDi : PySem.W.keepIn K (.ref fDi) = true)
    (aPi : PySem.W.nsIn K mainGlobals "_law_pick" = some (some (.ref fPi)))
    (lPi : K.lookup fPi = some ⟨ocPi, odPi, .func (PySem.W.fnOf "_law_pick" "_law_pick" (defArgs s_law_pick) (defBody s_law_pick) (defScope s_law_pick) .none kVPi dcPi pmPi anPi cdPi ctPi), slPi⟩)
    (dPi : PySem.W.codeIn K cdPi "_law_pick" = true)
    (kPi : PySem.W.keepIn K (.ref fPi) = true)
    (aSh : PySem.W.nsIn K mainGlobals "_law_shuffled" = some (some (.ref fSh)))
    (lSh : K.lookup fSh = some ⟨ocSh, odSh, .func (PySem.W.fnOf "_law_shuffled" "_law_shuffled" (defArgs s_law_shuffled) (defBody s_law_shuffled) (defScope s_law_shuffled) .none kVSh dcSh pmSh anSh cdSh ctSh), slSh⟩)
    (dSh : PySem.W.codeIn K cdSh "_law_shuffled" = true)
    (kSh : PySem.W.keepIn K (.ref fSh) = true)
    (aGr : PySem.W.nsIn K mainGlobals "_law_nt_great" = some (some (.ref fGr)))
    (lGr : K.lookup fGr = some ⟨ocGr, odGr, .func (PySem.W.fnOf "_law_nt_great" "_law_nt_great" (defArgs s_law_nt_great) (defBody s_law_nt_great) (defScope s_law_nt_great) .none kVGr dcGr pmGr anGr cdGr ctGr), slGr⟩)
    (dGr : PySem.W.codeIn K cdGr "_law_nt_great" = true)
    (kGr : PySem.W.keepIn K (.ref fGr) = true)
    (aNt : PySem.W.nsIn K mainGlobals "_law_nt_told" = some (some (.ref fNt)))
    (lNt : K.lookup fNt = some ⟨ocNt, odNt, .func (PySem.W.fnOf "_law_nt_told" "_law_nt_told" (defArgs s_law_nt_told) (defBody s_law_nt_told) (defScope s_law_nt_told) .none kVNt dcNt pmNt anNt cdNt ctNt), slNt⟩)
    (dNt : PySem.W.codeIn K cdNt "_law_nt_told" = true)
    (kNt : PySem.W.keepIn K (.ref fNt) = true)
    (aSo : PySem.W.nsIn K mainGlobals "_law_sorted" = some (some (.ref fSo)))
    (lSo : K.lookup fSo = some ⟨ocSo, odSo, .func (PySem.W.fnOf "_law_sorted" "_law_sorted" (defArgs s_law_sorted) (defBody s_law_sorted) (defScope s_law_sorted) .none kVSo dcSo pmSo anSo cdSo ctSo), slSo⟩)
    (dSo : PySem.W.codeIn K cdSo "_law_sorted" = true)
    (kSo : PySem.W.keepIn K (.ref fSo) = true)
    (aMi : PySem.W.nsIn K mainGlobals "_law_mixed" = some (some (.ref fMi)))
    (lMi : K.lookup fMi = some ⟨ocMi, odMi, .func (PySem.W.fnOf "_law_mixed" "_law_mixed" (defArgs s_law_mixed) (defBody s_law_mixed) (defScope s_law_mixed) .none kVMi dcMi pmMi anMi cdMi ctMi), slMi⟩)
    (dMi : PySem.W.codeIn K cdMi "_law_mixed" = true)
    (kMi : PySem.W.keepIn K (.ref fMi) = true)
    (aRd : PySem.W.nsIn K mainGlobals "_law_road" = some (some (.ref fRd)))
    (lRd : K.lookup fRd = some ⟨ocRd, odRd, .func (PySem.W.fnOf "_law_road" "_law_road" (defArgs s_law_road) (defBody s_law_road) (defScope s_law_road) .none kVRd dcRd pmRd anRd cdRd ctRd), slRd⟩)
    (dRd : PySem.W.codeIn K cdRd "_law_road" = true)
    (kRd : PySem.W.keepIn K (.ref fRd) = true)
    (aMe : PySem.W.nsIn K mainGlobals "_law_met" = some (some (.ref fMe)))
    (lMe : K.lookup fMe = some ⟨ocMe, odMe, .func (PySem.W.fnOf "_law_met" "_law_met" (defArgs s_law_met) (defBody s_law_met) (defScope s_law_met) .none kVMe dcMe pmMe anMe cdMe ctMe), slMe⟩)
    (dMe : PySem.W.codeIn K cdMe "_law_met" = true)
    (kMe : PySem.W.keepIn K (.ref fMe) = true)
    (aRr : PySem.W.nsIn K mainGlobals "_law_rows_right" = some (some (.ref fRr)))
    (lRr : K.lookup fRr = some ⟨ocRr, odRr, .func (PySem.W.fnOf "_law_rows_right" "_law_rows_right" (defArgs s_law_rows_right) (defBody s_law_rows_right) (defScope s_law_rows_right) .none kVRr dcRr pmRr anRr (.ref uRr) ctRr), slRr⟩)
    (dRr : PySem.W.codeIn K (.ref uRr) "_law_rows_right" = true)
    (kRr : PySem.W.keepIn K (.ref fRr) = true)
    (aEr : PySem.W.nsIn K mainGlobals "_law_equal_right" = some (some (.ref fEr)))
    (lEr : K.lookup fEr = some ⟨ocEr, odEr, .func (PySem.W.fnOf "_law_equal_right" "_law_equal_right" (defArgs s_law_equal_right) (defBody s_law_equal_right) (defScope s_law_equal_right) .none kVEr dcEr pmEr anEr cdEr ctEr), slEr⟩)
    (dEr : PySem.W.codeIn K cdEr "_law_equal_right" = true)
    (kEr : PySem.W.keepIn K (.ref fEr) = true)
    (aRt : PySem.W.nsIn K mainGlobals "_law_right" = some (some (.ref fRt)))
    (lRt : K.lookup fRt = some ⟨ocRt, odRt, .func (PySem.W.fnOf "_law_right" "_law_right" (defArgs s_law_right) (defBody s_law_right) (defScope s_law_right) .none kVRt dcRt pmRt anRt cdRt ctRt), slRt⟩)
    (dRt : PySem.W.codeIn K cdRt "_law_right" = true)
    (kRt : PySem.W.keepIn K (.ref fRt) = true)
    (aLa : PySem.W.nsIn K mainGlobals "law" = some (some (.ref fLa)))
    (lLa : K.lookup fLa = some ⟨ocLa, odLa, .func (PySem.W.fnOf "law" "law" (defArgs s_law) (defBody s_law) (defScope s_law) .none kVLa dcLa pmLa anLa cdLa ctLa), slLa⟩)
    (dLa : PySem.W.codeIn K cdLa "law" = true)
    (kLa : PySem.W.keepIn K (.ref fLa) = true)
    (aMk : PySem.W.findIn K (.ref cNe) "__init__" = some (some (.ref fMk)))
    (iMk : PySem.W.isFn K (.ref fMk) = true)
    (lMk : K.lookup fMk = some ⟨ocMk, odMk, .func (PySem.W.fnOf "__init__" "Net.__init__" (defArgs m_Net_init) (defBody m_Net_init) (defScope m_Net_init) (.ref TMk) kVMk dcMk pmMk anMk cdMk ctMk), slMk⟩)
    (dMk : PySem.W.codeIn K cdMk "Net.__init__" = true)
    (kMk : PySem.W.keepIn K (.ref fMk) = true)
    (lTMk : K.lookup TMk = some ⟨.type "tuple", dTMk, .seq #[.ref vMk0, .ref vMk1] nTMk, sTMk⟩)
    (aRw : PySem.W.findIn K (.ref cNe) "row" = some (some (.ref fRw)))
    (iRw : PySem.W.isFn K (.ref fRw) = true)
    (lRw : K.lookup fRw = some ⟨ocRw, odRw, .func (PySem.W.fnOf "row" "Net.row" (defArgs m_Net_row) (defBody m_Net_row) (defScope m_Net_row) .none kVRw dcRw pmRw anRw cdRw ctRw), slRw⟩)
    (dRw : PySem.W.codeIn K cdRw "Net.row" = true)
    (kRw : PySem.W.keepIn K (.ref fRw) = true)
    (aNd : PySem.W.findIn K (.ref cNe) "_need_event" = some (some (.ref fNd)))
    (iNd : PySem.W.isFn K (.ref fNd) = true)
    (lNd : K.lookup fNd = some ⟨ocNd, odNd, .func (PySem.W.fnOf "_need_event" "Net._need_event" (defArgs m_Net_u_need_event) (defBody m_Net_u_need_event) (defScope m_Net_u_need_event) .none kVNd dcNd pmNd anNd cdNd ctNd), slNd⟩)
    (dNd : PySem.W.codeIn K cdNd "Net._need_event" = true)
    (kNd : PySem.W.keepIn K (.ref fNd) = true)
    (aWo : PySem.W.findIn K (.ref cNe) "work_of" = some (some (.ref fWo)))
    (iWo : PySem.W.isFn K (.ref fWo) = true)
    (lWo : K.lookup fWo = some ⟨ocWo, odWo, .func (PySem.W.fnOf "work_of" "Net.work_of" (defArgs m_Net_work_of) (defBody m_Net_work_of) (defScope m_Net_work_of) .none kVWo dcWo pmWo anWo cdWo ctWo), slWo⟩)
    (dWo : PySem.W.codeIn K cdWo "Net.work_of" = true)
    (kWo : PySem.W.keepIn K (.ref fWo) = true)
    (aRm : PySem.W.findIn K (.ref cNe) "road" = some (some (.ref fRm)))
    (iRm : PySem.W.isFn K (.ref fRm) = true)
    (lRm : K.lookup fRm = some ⟨ocRm, odRm, .func (PySem.W.fnOf "road" "Net.road" (defArgs m_Net_road) (defBody m_Net_road) (defScope m_Net_road) .none kVRm dcRm pmRm anRm cdRm ctRm), slRm⟩)
    (dRm : PySem.W.codeIn K cdRm "Net.road" = true)
    (kRm : PySem.W.keepIn K (.ref fRm) = true)
    (aLe : PySem.W.findIn K (.ref cNe) "__len__" = some (some (.ref fLe)))
    (iLe : PySem.W.isFn K (.ref fLe) = true)
    (lLe : K.lookup fLe = some ⟨ocLe, odLe, .func (PySem.W.fnOf "__len__" "Net.__len__" (defArgs m_Net_len) (defBody m_Net_len) (defScope m_Net_len) .none kVLe dcLe pmLe anLe cdLe ctLe), slLe⟩)
    (dLe : PySem.W.codeIn K cdLe "Net.__len__" = true)
    (kLe : PySem.W.keepIn K (.ref fLe) = true)
    (aCo : PySem.W.findIn K (.ref cNe) "__contains__" = some (some (.ref fCo)))
    (iCo : PySem.W.isFn K (.ref fCo) = true)
    (lCo : K.lookup fCo = some ⟨ocCo, odCo, .func (PySem.W.fnOf "__contains__" "Net.__contains__" (defArgs m_Net_contains) (defBody m_Net_contains) (defScope m_Net_contains) .none kVCo dcCo pmCo anCo cdCo ctCo), slCo⟩)
    (dCo : PySem.W.codeIn K cdCo "Net.__contains__" = true)
    (kCo : PySem.W.keepIn K (.ref fCo) = true)
    (aEq : PySem.W.findIn K (.ref cNe) "__eq__" = some (some (.ref fEq)))
    (iEq : PySem.W.isFn K (.ref fEq) = true)
    (lEq : K.lookup fEq = some ⟨ocEq, odEq, .func (PySem.W.fnOf "__eq__" "Net.__eq__" (defArgs m_Net_eq) (defBody m_Net_eq) (defScope m_Net_eq) .none kVEq dcEq pmEq anEq cdEq ctEq), slEq⟩)
    (dEq : PySem.W.codeIn K cdEq "Net.__eq__" = true)
    (kEq : PySem.W.keepIn K (.ref fEq) = true)
    (aSt : PySem.W.findIn K (.ref cNe) "__str__" = some (some (.ref fSt)))
    (iSt : PySem.W.isFn K (.ref fSt) = true)
    (lSt : K.lookup fSt = some ⟨ocSt, odSt, .func (PySem.W.fnOf "__str__" "Net.__str__" (defArgs m_Net_str) (defBody m_Net_str) (defScope m_Net_str) .none kVSt dcSt pmSt anSt cdSt ctSt), slSt⟩)
    (dSt : PySem.W.codeIn K cdSt "Net.__str__" = true)
    (kSt : PySem.W.keepIn K (.ref fSt) = true)
    (o1Pl : PySem.W.findIn K (.ref cNe) "lasts" = some (some (.ref qPl)))
    (o2Pl : PySem.W.specialIn K (.ref qPl) "__get__" = some (some (.builtin "property.__get__")))
    (o3Pl : PySem.W.takesIn K (.ref qPl) = some true)
    (o4Pl : PySem.W.recIn K qPl "property" = some (.ref fPl :: rePl))
    (lPl : K.lookup fPl = some ⟨ocPl, odPl, .func (PySem.W.fnOf "lasts" "Net.lasts" (defArgs m_Net_lasts) (defBody m_Net_lasts) (defScope m_Net_lasts) .none kVPl dcPl pmPl anPl cdPl ctPl), slPl⟩)
    (dPl : PySem.W.codeIn K cdPl "Net.lasts" = true)
    (kPl : PySem.W.keepIn K (.ref fPl) = true)
    (o1Pw : PySem.W.findIn K (.ref cNe) "works" = some (some (.ref qPw)))
    (o2Pw : PySem.W.specialIn K (.ref qPw) "__get__" = some (some (.builtin "property.__get__")))
    (o3Pw : PySem.W.takesIn K (.ref qPw) = some true)
    (o4Pw : PySem.W.recIn K qPw "property" = some (.ref fPw :: rePw))
    (lPw : K.lookup fPw = some ⟨ocPw, odPw, .func (PySem.W.fnOf "works" "Net.works" (defArgs m_Net_works) (defBody m_Net_works) (defScope m_Net_works) .none kVPw dcPw pmPw anPw cdPw ctPw), slPw⟩)
    (dPw : PySem.W.codeIn K cdPw "Net.works" = true)
    (kPw : PySem.W.keepIn K (.ref fPw) = true)
    (o1Pb : PySem.W.findIn K (.ref cNe) "bounds" = some (some (.ref qPb)))
    (o2Pb : PySem.W.specialIn K (.ref qPb) "__get__" = some (some (.builtin "property.__get__")))
    (o3Pb : PySem.W.takesIn K (.ref qPb) = some true)
    (o4Pb : PySem.W.recIn K qPb "property" = some (.ref fPb :: rePb))
    (lPb : K.lookup fPb = some ⟨ocPb, odPb, .func (PySem.W.fnOf "bounds" "Net.bounds" (defArgs m_Net_bounds) (defBody m_Net_bounds) (defScope m_Net_bounds) .none kVPb dcPb pmPb anPb cdPb ctPb), slPb⟩)
    (dPb : PySem.W.codeIn K cdPb "Net.bounds" = true)
    (kPb : PySem.W.keepIn K (.ref fPb) = true)
    (o1Pe : PySem.W.findIn K (.ref cNe) "events" = some (some (.ref qPe)))
    (o2Pe : PySem.W.specialIn K (.ref qPe) "__get__" = some (some (.builtin "property.__get__")))
    (o3Pe : PySem.W.takesIn K (.ref qPe) = some true)
    (o4Pe : PySem.W.recIn K qPe "property" = some (.ref fPe :: rePe))
    (lPe : K.lookup fPe = some ⟨ocPe, odPe, .func (PySem.W.fnOf "events" "Net.events" (defArgs m_Net_events) (defBody m_Net_events) (defScope m_Net_events) .none kVPe dcPe pmPe anPe cdPe ctPe), slPe⟩)
    (dPe : PySem.W.codeIn K cdPe "Net.events" = true)
    (kPe : PySem.W.keepIn K (.ref fPe) = true)
    (o1Pd : PySem.W.findIn K (.ref cNe) "deeds" = some (some (.ref qPd)))
    (o2Pd : PySem.W.specialIn K (.ref qPd) "__get__" = some (some (.builtin "property.__get__")))
    (o3Pd : PySem.W.takesIn K (.ref qPd) = some true)
    (o4Pd : PySem.W.recIn K qPd "property" = some (.ref fPd :: rePd))
    (lPd : K.lookup fPd = some ⟨ocPd, odPd, .func (PySem.W.fnOf "deeds" "Net.deeds" (defArgs m_Net_deeds) (defBody m_Net_deeds) (defScope m_Net_deeds) .none kVPd dcPd pmPd anPd cdPd ctPd), slPd⟩)
    (dPd : PySem.W.codeIn K cdPd "Net.deeds" = true)
    (kPd : PySem.W.keepIn K (.ref fPd) = true)
    (o1Pn : PySem.W.findIn K (.ref cNe) "ends" = some (some (.ref qPn)))
    (o2Pn : PySem.W.specialIn K (.ref qPn) "__get__" = some (some (.builtin "property.__get__")))
    (o3Pn : PySem.W.takesIn K (.ref qPn) = some true)
    (o4Pn : PySem.W.recIn K qPn "property" = some (.ref fPn :: rePn))
    (lPn : K.lookup fPn = some ⟨ocPn, odPn, .func (PySem.W.fnOf "ends" "Net.ends" (defArgs m_Net_ends) (defBody m_Net_ends) (defScope m_Net_ends) .none kVPn dcPn pmPn anPn cdPn ctPn), slPn⟩)
    (dPn : PySem.W.codeIn K cdPn "Net.ends" = true)
    (kPn : PySem.W.keepIn K (.ref fPn) = true)
    (o1Ph : PySem.W.findIn K (.ref cNe) "horizon" = some (some (.ref qPh)))
    (o2Ph : PySem.W.specialIn K (.ref qPh) "__get__" = some (some (.builtin "property.__get__")))
    (o3Ph : PySem.W.takesIn K (.ref qPh) = some true)
    (o4Ph : PySem.W.recIn K qPh "property" = some (.ref fPh :: rePh))
    (lPh : K.lookup fPh = some ⟨ocPh, odPh, .func (PySem.W.fnOf "horizon" "Net.horizon" (defArgs m_Net_horizon) (defBody m_Net_horizon) (defScope m_Net_horizon) .none kVPh dcPh pmPh anPh cdPh ctPh), slPh⟩)
    (dPh : PySem.W.codeIn K cdPh "Net.horizon" = true)
    (kPh : PySem.W.keepIn K (.ref fPh) = true)
    (o1Pt : PySem.W.findIn K (.ref cNe) "told" = some (some (.ref qPt)))
    (o2Pt : PySem.W.specialIn K (.ref qPt) "__get__" = some (some (.builtin "property.__get__")))
    (o3Pt : PySem.W.takesIn K (.ref qPt) = some true)
    (o4Pt : PySem.W.recIn K qPt "property" = some (.ref fPt :: rePt))
    (lPt : K.lookup fPt = some ⟨ocPt, odPt, .func (PySem.W.fnOf "told" "Net.told" (defArgs m_Net_told) (defBody m_Net_told) (defScope m_Net_told) .none kVPt dcPt pmPt anPt cdPt ctPt), slPt⟩)
    (dPt : PySem.W.codeIn K cdPt "Net.told" = true)
    (kPt : PySem.W.keepIn K (.ref fPt) = true)
    (eOp : exkB K cOp = true)
    (pOp : plB K cOp = true)
    (xOp : exoB K cOp = true)
    (nf : netB K cNe = true)
    (tRr : PySem.W.codeHdIn K uRr pRr = true)
    (nRr : K.lookup pRr = none)
    (c_Far : PySem.W.nsIn K mainGlobals "_TOO_LONG" = some (some (.int (10 ^ 40) tcFar)))
    (c_Lett : PySem.W.nsIn K mainGlobals "MAX_LETTERS" = some (some (.int 12 tcLett)))
    (c_Dawn : PySem.W.nsIn K mainGlobals "DAWN" = some (some (.str "dawn" tcDawn)))
    (c_Fst : PySem.W.nsIn K mainGlobals "_FIRST_LETTERS" = some (some (.str firstL tcFst)))
    (c_All : PySem.W.nsIn K mainGlobals "_LETTERS" = some (some (.str lettL tcAll)))
    (c_Len : PySem.W.nsIn K mainGlobals "MAX_LENGTH" = some (some (.int (10 ^ 30) tcLen)))
    (c_Look : PySem.W.nsIn K mainGlobals "MAX_LOOK" = some (some (.int 20 tcLook)))
    (c_Ev : PySem.W.nsIn K mainGlobals "MAX_EVENTS" = some (some (.int 200 tcEv)))
    (c_Wk : PySem.W.nsIn K mainGlobals "MAX_WORKS" = some (some (.int 60 tcWk)))
    (c_Bd : PySem.W.nsIn K mainGlobals "MAX_BOUNDS" = some (some (.int 400 tcBd)))
    (z_isinstance : PySem.W.nsIn K mainGlobals "isinstance" = some none)
    (z_int : PySem.W.nsIn K mainGlobals "int" = some none)
    (z_bool : PySem.W.nsIn K mainGlobals "bool" = some none)
    (z_str : PySem.W.nsIn K mainGlobals "str" = some none)
    (z_len : PySem.W.nsIn K mainGlobals "len" = some none)
    (z_all : PySem.W.nsIn K mainGlobals "all" = some none)
    (z_range : PySem.W.nsIn K mainGlobals "range" = some none)
    (z_tuple : PySem.W.nsIn K mainGlobals "tuple" = some none)
    (z_list : PySem.W.nsIn K mainGlobals "list" = some none)
    (z_dict : PySem.W.nsIn K mainGlobals "dict" = some none)
    (z_set : PySem.W.nsIn K mainGlobals "set" = some none)
    (z_abs : PySem.W.nsIn K mainGlobals "abs" = some none)
    (z_max : PySem.W.nsIn K mainGlobals "max" = some none)
    (z_min : PySem.W.nsIn K mainGlobals "min" = some none)
    (z_sorted : PySem.W.nsIn K mainGlobals "sorted" = some none)
    (z_repr : PySem.W.nsIn K mainGlobals "repr" = some none)
    (z_enumerate : PySem.W.nsIn K mainGlobals "enumerate" = some none)
    (hRr : h.get? pRr = some tabO)
    : ∃ (fd : FuncData) (cs : List (Addr × Addr)) (sp : Sp), (∀ p ∈ cs, h.get? p.2 = some tabO) ∧ (∀ p ∈ cs, K.lookup p.2 = none) ∧ (∀ p ∈ cs, PySem.W.CodeHd h p.1 p.2) ∧ (∀ (t : Shared) (u : Value), BindsTo t fd ⟨[u], []⟩ [("script", u)]) ∧
        (∀ (H : Hp) (a : Addr) (ns : List Int), ns.length ≤ 63 → SqL K H a (ns.map V.int) → (∀ p ∈ cs, H p.2 = some (.tbl #[])) → sp [.ref a] H (fun v _ => v = .bl true) E0) ∧
        ∀ base : Heap, SysB base → K.In base → (∀ p ∈ cs, TabB base mg p.1 p.2) → FnG l.prog w K mg base 10 fa fd ["script"] sp := by
  have e := hfa.symm.trans (PySem.W.mg_of X G aLa)
  cases e
  have y_isinstance := PySem.W.mg_none_of X G z_isinstance
  have y_int := PySem.W.mg_none_of X G z_int
  have y_bool := PySem.W.mg_none_of X G z_bool
  have y_str := PySem.W.mg_none_of X G z_str
  have y_len := PySem.W.mg_none_of X G z_len
  have y_all := PySem.W.mg_none_of X G z_all
  have y_range := PySem.W.mg_none_of X G z_range
  have y_tuple := PySem.W.mg_none_of X G z_tuple
  have y_list := PySem.W.mg_none_of X G z_list
  have y_dict := PySem.W.mg_none_of X G z_dict
  have y_set := PySem.W.mg_none_of X G z_set
  have y_abs := PySem.W.mg_none_of X G z_abs
  have y_max := PySem.W.mg_none_of X G z_max
  have y_min := PySem.W.mg_none_of X G z_min
  have y_sorted := PySem.W.mg_none_of X G z_sorted
  have y_repr := PySem.W.mg_none_of X G z_repr
  have y_enumerate := PySem.W.mg_none_of X G z_enumerate
  have mOp := PySem.W.mg_of X G gOp
  have mUn := PySem.W.mg_of X G gUn
  have mNe := PySem.W.mg_of X G gNe
  have FBt : Fun K "is_between" "is_between" s_is_between fBt _ := fun_mk (st := s_is_between) lBt dBt kBt
  have bBt := FBt.binds (ps := ["value", "least", "most"]) fun _ _ _ _ _ _ us hl => match us, hl with | [_, _, _], _ => rfl
  have mBt := PySem.W.mg_of X G aBt
  have FIi : Fun K "is_integer" "is_integer" s_is_integer fIi _ := fun_mk (st := s_is_integer) lIi dIi kIi
  have bIi := FIi.binds (ps := ["value"]) fun _ _ _ _ _ _ us hl => match us, hl with | [_], _ => rfl
  have mIi := PySem.W.mg_of X G aIi
  have FIn : Fun K "is_name" "is_name" s_is_name fIn _ := fun_mk (st := s_is_name) lIn dIn kIn
  have bIn := FIn.binds (ps := ["value"]) fun _ _ _ _ _ _ us hl => match us, hl with | [_], _ => rfl
  have mIn := PySem.W.mg_of X G aIn
  have FIp : Fun K "is_pair" "is_pair" s_is_pair fIp _ := fun_mk (st := s_is_pair) lIp dIp kIp
  have bIp := FIp.binds (ps := ["value"]) fun _ _ _ _ _ _ us hl => match us, hl with | [_], _ => rfl
  have mIp := PySem.W.mg_of X G aIp
  have FAl : Fun K "are_lasts" "are_lasts" s_are_lasts fAl _ := fun_mk (st := s_are_lasts) lAl dAl kAl
  have bAl := FAl.binds (ps := ["value", "limit"]) fun _ _ _ _ _ _ us hl => match us, hl with | [_, _], _ => rfl
  have mAl := PySem.W.mg_of X G aAl
  have FIl : Fun K "_is_lot" "_is_lot" s_u_is_lot fIl _ := fun_mk (st := s_u_is_lot) lIl dIl kIl
  have bIl := FIl.binds (ps := ["value", "limit"]) fun _ _ _ _ _ _ us hl => match us, hl with | [_, _], _ => rfl
  have mIl := PySem.W.mg_of X G aIl
  have FIk : Fun K "_is_known" "_is_known" s_u_is_known fIk _ := fun_mk (st := s_u_is_known) lIk dIk kIk
  have bIk := FIk.binds (ps := ["lasts", "value"]) fun _ _ _ _ _ _ us hl => match us, hl with | [_, _], _ => rfl
  have mIk := PySem.W.mg_of X G aIk
  have FIw : Fun K "_is_work" "_is_work" s_u_is_work fIw _ := fun_mk (st := s_u_is_work) lIw dIw kIw
  have bIw := FIw.binds (ps := ["lasts", "value"]) fun _ _ _ _ _ _ us hl => match us, hl with | [_, _], _ => rfl
  have mIw := PySem.W.mg_of X G aIw
  have FIb : Fun K "_is_bound" "_is_bound" s_u_is_bound fIb _ := fun_mk (st := s_u_is_bound) lIb dIb kIb
  have bIb := FIb.binds (ps := ["lasts", "value"]) fun _ _ _ _ _ _ us hl => match us, hl with | [_, _], _ => rfl
  have mIb := PySem.W.mg_of X G aIb
  have FGo : Fun K "_goes_round" "_goes_round" s_u_goes_round fGo _ := fun_mk (st := s_u_goes_round) lGo dGo kGo
  have bGo := FGo.binds (ps := ["works", "ended", "name"]) fun _ _ _ _ _ _ us hl => match us, hl with | [_, _, _], _ => rfl
  have mGo := PySem.W.mg_of X G aGo
  have FCh : Fun K "_chain_fault" "_chain_fault" s_u_chain_fault fCh _ := fun_mk (st := s_u_chain_fault) lCh dCh kCh
  have bCh := FCh.binds (ps := ["works", "ended"]) fun _ _ _ _ _ _ us hl => match us, hl with | [_, _], _ => rfl
  have mCh := PySem.W.mg_of X G aCh
  have FWf : Fun K "works_fault" "works_fault" s_works_fault fWf _ := fun_mk (st := s_works_fault) lWf dWf kWf
  have bWf := FWf.binds (ps := ["lasts", "works", "limit"]) fun _ _ _ _ _ _ us hl => match us, hl with | [_, _, _], _ => rfl
  have mWf := PySem.W.mg_of X G aWf
  have FBf : Fun K "bounds_fault" "bounds_fault" s_bounds_fault fBf _ := fun_mk (st := s_bounds_fault) lBf dBf kBf
  have bBf := FBf.binds (ps := ["lasts", "bounds", "limit"]) fun _ _ _ _ _ _ us hl => match us, hl with | [_, _, _], _ => rfl
  have mBf := PySem.W.mg_of X G aBf
  have FNf : Fun K "net_fault" "net_fault" s_net_fault fNf _ := fun_mk (st := s_net_fault) lNf dNf kNf
  have bNf := FNf.binds (ps := ["lasts", "works", "bounds"]) fun _ _ _ _ _ _ us hl => match us, hl with | [_, _, _], _ => rfl
  have mNf := PySem.W.mg_of X G aNf
  have FTr : Fun K "_told_rows" "_told_rows" s_u_told_rows fTr _ := fun_mk (st := s_u_told_rows) lTr dTr kTr
  have bTr := FTr.binds (ps := ["lasts", "works", "bounds"]) fun _ _ _ _ _ _ us hl => match us, hl with | [_, _, _], _ => rfl
  have mTr := PySem.W.mg_of X G aTr
  have FRo : Fun K "_law_roll" "_law_roll" s_law_roll fRo _ := fun_mk (st := s_law_roll) lRo dRo kRo
  have bRo := FRo.binds (ps := ["dice", "total"]) fun _ _ _ _ _ _ us hl => match us, hl with | [_, _], _ => rfl
  have mRo := PySem.W.mg_of X G aRo
  have FDi : Fun K "_law_dice" "_law_dice" s_law_dice fDi _ := fun_mk (st := s_law_dice) lDi dDi kDi
  have bDi := FDi.binds (ps := ["script", "spot"]) fun _ _ _ _ _ _ us hl => match us, hl with | [_, _], _ => rfl
  have mDi := PySem.W.mg_of X G aDi
  have FPi : Fun K "_law_pick" "_law_pick" s_law_pick fPi _ := fun_mk (st := s_law_pick) lPi dPi kPi
  have bPi := FPi.binds (ps := ["dice", "items"]) fun _ _ _ _ _ _ us hl => match us, hl with | [_, _], _ => rfl
  have mPi := PySem.W.mg_of X G aPi
  have FSh : Fun K "_law_shuffled" "_law_shuffled" s_law_shuffled fSh _ := fun_mk (st := s_law_shuffled) lSh dSh kSh
  have bSh := FSh.binds (ps := ["dice", "items"]) fun _ _ _ _ _ _ us hl => match us, hl with | [_, _], _ => rfl
  have mSh := PySem.W.mg_of X G aSh
  have FGr : Fun K "_law_nt_great" "_law_nt_great" s_law_nt_great fGr _ := fun_mk (st := s_law_nt_great) lGr dGr kGr
  have bGr := FGr.binds (ps := ["dice"]) fun _ _ _ _ _ _ us hl => match us, hl with | [_], _ => rfl
  have mGr := PySem.W.mg_of X G aGr
  have FNt : Fun K "_law_nt_told" "_law_nt_told" s_law_nt_told fNt _ := fun_mk (st := s_law_nt_told) lNt dNt kNt
  have bNt := FNt.binds (ps := ["plain"]) fun _ _ _ _ _ _ us hl => match us, hl with | [_], _ => rfl
  have mNt := PySem.W.mg_of X G aNt
  have FSo : Fun K "_law_sorted" "_law_sorted" s_law_sorted fSo _ := fun_mk (st := s_law_sorted) lSo dSo kSo
  have bSo := FSo.binds (ps := ["some"]) fun _ _ _ _ _ _ us hl => match us, hl with | [_], _ => rfl
  have mSo := PySem.W.mg_of X G aSo
  have FMi : Fun K "_law_mixed" "_law_mixed" s_law_mixed fMi _ := fun_mk (st := s_law_mixed) lMi dMi kMi
  have bMi := FMi.binds (ps := ["dice", "some"]) fun _ _ _ _ _ _ us hl => match us, hl with | [_, _], _ => rfl
  have mMi := PySem.W.mg_of X G aMi
  have FRd : Fun K "_law_road" "_law_road" s_law_road fRd _ := fun_mk (st := s_law_road) lRd dRd kRd
  have bRd := FRd.binds (ps := ["plain", "event"]) fun _ _ _ _ _ _ us hl => match us, hl with | [_, _], _ => rfl
  have mRd := PySem.W.mg_of X G aRd
  have FMe : Fun K "_law_met" "_law_met" s_law_met fMe _ := fun_mk (st := s_law_met) lMe dMe kMe
  have bMe := FMe.binds (ps := ["call"]) fun _ _ _ _ _ _ us hl => match us, hl with | [_], _ => rfl
  have mMe := PySem.W.mg_of X G aMe
  have FRr : Fun K "_law_rows_right" "_law_rows_right" s_law_rows_right fRr _ := fun_mk (st := s_law_rows_right) lRr dRr kRr
  have bRr := FRr.binds (ps := ["dice", "plain", "net"]) fun _ _ _ _ _ _ us hl => match us, hl with | [_, _, _], _ => rfl
  have mRr := PySem.W.mg_of X G aRr
  have FEr : Fun K "_law_equal_right" "_law_equal_right" s_law_equal_right fEr _ := fun_mk (st := s_law_equal_right) lEr dEr kEr
  have bEr := FEr.binds (ps := ["dice", "plain", "net"]) fun _ _ _ _ _ _ us hl => match us, hl with | [_, _, _], _ => rfl
  have mEr := PySem.W.mg_of X G aEr
  have FRt : Fun K "_law_right" "_law_right" s_law_right fRt _ := fun_mk (st := s_law_right) lRt dRt kRt
  have bRt := FRt.binds (ps := ["dice", "plain"]) fun _ _ _ _ _ _ us hl => match us, hl with | [_, _], _ => rfl
  have mRt := PySem.W.mg_of X G aRt
  have FLa : Fun K "law" "law" s_law fa _ := fun_mk (st := s_law) lLa dLa kLa
  have bLa := FLa.binds (ps := ["script"]) fun _ _ _ _ _ _ us hl => match us, hl with | [_], _ => rfl
  have mLa := PySem.W.mg_of X G aLa
  have FMk : FunD K "__init__" "Net.__init__" (defArgs m_Net_init) (defBody m_Net_init) (defScope m_Net_init) [.ref vMk0, .ref vMk1] [] fMk _ := ⟨⟨_, _, _, _, _, _, _, _, _, _, rfl, lMk, dMk, .inr ⟨by simp, TMk, _, [.ref vMk0, .ref vMk1], nTMk, rfl, lTMk, rfl, .cons rfl (.cons rfl (.nil))⟩, .inl rfl⟩, kMk⟩
  have mtMk : Meth K cNe "__init__" fMk := ⟨aMk, iMk, kMk⟩
  have FRw : Fun K "row" "Net.row" m_Net_row fRw _ := fun_mk (st := m_Net_row) lRw dRw kRw
  have bRw := FRw.binds (ps := ["self", "word"]) fun _ _ _ _ _ _ us hl => match us, hl with | [_, _], _ => rfl
  have mtRw : Meth K cNe "row" fRw := ⟨aRw, iRw, kRw⟩
  have FNd : Fun K "_need_event" "Net._need_event" m_Net_u_need_event fNd _ := fun_mk (st := m_Net_u_need_event) lNd dNd kNd
  have bNd := FNd.binds (ps := ["self", "event"]) fun _ _ _ _ _ _ us hl => match us, hl with | [_, _], _ => rfl
  have mtNd : Meth K cNe "_need_event" fNd := ⟨aNd, iNd, kNd⟩
  have FWo : Fun K "work_of" "Net.work_of" m_Net_work_of fWo _ := fun_mk (st := m_Net_work_of) lWo dWo kWo
  have bWo := FWo.binds (ps := ["self", "event"]) fun _ _ _ _ _ _ us hl => match us, hl with | [_, _], _ => rfl
  have mtWo : Meth K cNe "work_of" fWo := ⟨aWo, iWo, kWo⟩
  have FRm : Fun K "road" "Net.road" m_Net_road fRm _ := fun_mk (st := m_Net_road) lRm dRm kRm
  have bRm := FRm.binds (ps := ["self", "event"]) fun _ _ _ _ _ _ us hl => match us, hl with | [_, _], _ => rfl
  have mtRm : Meth K cNe "road" fRm := ⟨aRm, iRm, kRm⟩
  have FLe : Fun K "__len__" "Net.__len__" m_Net_len fLe _ := fun_mk (st := m_Net_len) lLe dLe kLe
  have bLe := FLe.binds (ps := ["self"]) fun _ _ _ _ _ _ us hl => match us, hl with | [_], _ => rfl
  have mtLe : Meth K cNe "__len__" fLe := ⟨aLe, iLe, kLe⟩
  have FCo : Fun K "__contains__" "Net.__contains__" m_Net_contains fCo _ := fun_mk (st := m_Net_contains) lCo dCo kCo
  have bCo := FCo.binds (ps := ["self", "value"]) fun _ _ _ _ _ _ us hl => match us, hl with | [_, _], _ => rfl
  have mtCo : Meth K cNe "__contains__" fCo := ⟨aCo, iCo, kCo⟩
  have FEq : Fun K "__eq__" "Net.__eq__" m_Net_eq fEq _ := fun_mk (st := m_Net_eq) lEq dEq kEq
  have bEq := FEq.binds (ps := ["self", "other"]) fun _ _ _ _ _ _ us hl => match us, hl with | [_, _], _ => rfl
  have mtEq : Meth K cNe "__eq__" fEq := ⟨aEq, iEq, kEq⟩
  have FSt : Fun K "__str__" "Net.__str__" m_Net_str fSt _ := fun_mk (st := m_Net_str) lSt dSt kSt
  have bSt := FSt.binds (ps := ["self"]) fun _ _ _ _ _ _ us hl => match us, hl with | [_], _ => rfl
  have mtSt : Meth K cNe "__str__" fSt := ⟨aSt, iSt, kSt⟩
  have FPl : Fun K "lasts" "Net.lasts" m_Net_lasts fPl _ := fun_mk (st := m_Net_lasts) lPl dPl kPl
  have bPl := FPl.binds (ps := ["self"]) fun _ _ _ _ _ _ us hl => match us, hl with | [_], _ => rfl
  have poPl : PropOf K cNe "lasts" qPl fPl := ⟨o1Pl, o2Pl, o3Pl, ⟨_, o4Pl⟩⟩
  have FPw : Fun K "works" "Net.works" m_Net_works fPw _ := fun_mk (st := m_Net_works) lPw dPw kPw
  have bPw := FPw.binds (ps := ["self"]) fun _ _ _ _ _ _ us hl => match us, hl with | [_], _ => rfl
  have poPw : PropOf K cNe "works" qPw fPw := ⟨o1Pw, o2Pw, o3Pw, ⟨_, o4Pw⟩⟩
  have FPb : Fun K "bounds" "Net.bounds" m_Net_bounds fPb _ := fun_mk (st := m_Net_bounds) lPb dPb kPb
  have bPb := FPb.binds (ps := ["self"]) fun _ _ _ _ _ _ us hl => match us, hl with | [_], _ => rfl
  have poPb : PropOf K cNe "bounds" qPb fPb := ⟨o1Pb, o2Pb, o3Pb, ⟨_, o4Pb⟩⟩
  have FPe : Fun K "events" "Net.events" m_Net_events fPe _ := fun_mk (st := m_Net_events) lPe dPe kPe
  have bPe := FPe.binds (ps := ["self"]) fun _ _ _ _ _ _ us hl => match us, hl with | [_], _ => rfl
  have poPe : PropOf K cNe "events" qPe fPe := ⟨o1Pe, o2Pe, o3Pe, ⟨_, o4Pe⟩⟩
  have FPd : Fun K "deeds" "Net.deeds" m_Net_deeds fPd _ := fun_mk (st := m_Net_deeds) lPd dPd kPd
  have bPd := FPd.binds (ps := ["self"]) fun _ _ _ _ _ _ us hl => match us, hl with | [_], _ => rfl
  have poPd : PropOf K cNe "deeds" qPd fPd := ⟨o1Pd, o2Pd, o3Pd, ⟨_, o4Pd⟩⟩
  have FPn : Fun K "ends" "Net.ends" m_Net_ends fPn _ := fun_mk (st := m_Net_ends) lPn dPn kPn
  have bPn := FPn.binds (ps := ["self"]) fun _ _ _ _ _ _ us hl => match us, hl with | [_], _ => rfl
  have poPn : PropOf K cNe "ends" qPn fPn := ⟨o1Pn, o2Pn, o3Pn, ⟨_, o4Pn⟩⟩
  have FPh : Fun K "horizon" "Net.horizon" m_Net_horizon fPh _ := fun_mk (st := m_Net_horizon) lPh dPh kPh
  have bPh := FPh.binds (ps := ["self"]) fun _ _ _ _ _ _ us hl => match us, hl with | [_], _ => rfl
  have poPh : PropOf K cNe "horizon" qPh fPh := ⟨o1Ph, o2Ph, o3Ph, ⟨_, o4Ph⟩⟩
  have FPt : Fun K "told" "Net.told" m_Net_told fPt _ := fun_mk (st := m_Net_told) lPt dPt kPt
  have bPt := FPt.binds (ps := ["self"]) fun _ _ _ _ _ _ us hl => match us, hl with | [_], _ => rfl
  have poPt : PropOf K cNe "told" qPt fPt := ⟨o1Pt, o2Pt, o3Pt, ⟨_, o4Pt⟩⟩
  have qOp : Pl K mg "InvalidOperation" cOp := pl_of eOp pOp mOp
  have xo : PySem.W.exmOne K (.ref cOp) (.ref cOp) = some true := by
    unfold exoB at xOp
    exact beq_iff_eq.mp xOp
  have net := net_of nf
  have glo : Glo mg := ⟨⟨_, PySem.W.mg_of X G c_Far⟩, ⟨_, PySem.W.mg_of X G c_Lett⟩, ⟨_, PySem.W.mg_of X G c_Dawn⟩, ⟨_, PySem.W.mg_of X G c_Fst⟩, ⟨_, PySem.W.mg_of X G c_All⟩⟩
  have gLen := PySem.W.mg_of X G c_Len
  have gLook := PySem.W.mg_of X G c_Look
  have gDawn := PySem.W.mg_of X G c_Dawn
  have gEv := PySem.W.mg_of X G c_Ev
  have gWk := PySem.W.mg_of X G c_Wk
  have gBd := PySem.W.mg_of X G c_Bd
  obtain ⟨dMk, vMk, bMk⟩ := FMk.binds1 (ps := ["self", "lasts", "works", "bounds"]) 4 2 (by simp) rfl (fun T kV doc pm an cdv ct us its hu hi => match us, its, hu, hi with | [_, _, _, _], [_, _], _, _ => ⟨_, rfl, rfl⟩)
  have vMk : Vals [] dMk := vMk
  cases vMk
  refine ⟨PySem.W.fnOf "law" "law" (defArgs s_law) (defBody s_law) (defScope s_law) .none kVLa dcLa pmLa anLa cdLa ctLa, [(uRr, pRr)], spLaw K [(pRr, QRr)], ?_, ?_, ?_, fun t v => .of_eq rfl, fun H a ns hl hS hH => ?_, fun base sysb _ TB => ?_⟩
  · exact one_all hRr
  · exact one_all nRr
  · exact one_all (PySem.W.codeHd_of_K X tRr)
  · exact ⟨a, ns, rfl, hS, by omega, one_all (LamX.TabS.nil (hH (uRr, pRr) (by simp))), fun _ => rfl⟩
  have tbR := TB (uRr, pRr) (by simp)
  have GBt := ok_bet (P := l.prog) (w := w) (mg := mg) (base := base) FBt y_isinstance y_int y_bool
  have GIi := ok_int (P := l.prog) (w := w) (mg := mg) (base := base) FIi GBt FBt.kp bBt mBt glo
  have GIn := ok_name (P := l.prog) (w := w) (mg := mg) (base := base) FIn glo y_isinstance y_str y_len y_all
  have GIp := ok_pair (P := l.prog) (w := w) (mg := mg) (base := base) FIp y_isinstance y_tuple y_len
  have GAl := ok_lasts (P := l.prog) (w := w) (mg := mg) (base := base) FAl ⟨GIn, FIn.kp, bIn, mIn⟩ ⟨GBt, FBt.kp, bBt, mBt⟩ gLen y_isinstance y_dict y_len y_all
  have GIl := ok_lot (P := l.prog) (w := w) (mg := mg) (base := base) FIl ⟨GIn, FIn.kp, bIn, mIn⟩ y_isinstance y_tuple y_dict y_len y_all
  have GIk := ok_known (P := l.prog) (w := w) (mg := mg) (base := base) FIk gDawn y_isinstance y_str
  have GIw := ok_work (P := l.prog) (w := w) (mg := mg) (base := base) FIw ⟨GIk, FIk.kp, bIk, mIk⟩ ⟨GBt, FBt.kp, bBt, mBt⟩ gDawn gLen gLook y_isinstance y_tuple y_len
  have GIb := ok_bound (P := l.prog) (w := w) (mg := mg) (base := base) FIb ⟨GIk, FIk.kp, bIk, mIk⟩ ⟨GIi, FIi.kp, bIi, mIi⟩ y_isinstance y_tuple y_len
  have GGo := ok_round (P := l.prog) (w := w) (mg := mg) (base := base) FGo y_range y_len
  have GCh := ok_chain (P := l.prog) (w := w) (mg := mg) (base := base) FCh ⟨GGo, FGo.kp, bGo, mGo⟩ y_sorted
  have GWf := ok_wf (P := l.prog) (w := w) (mg := mg) (base := base) FWf ⟨GIl, FIl.kp, bIl, mIl⟩ ⟨GIw, FIw.kp, bIw, mIw⟩ ⟨GCh, FCh.kp, bCh, mCh⟩ y_sorted
  have GBf := ok_bf (P := l.prog) (w := w) (mg := mg) (base := base) FBf ⟨GIl, FIl.kp, bIl, mIl⟩ ⟨GIb, FIb.kp, bIb, mIb⟩ y_sorted
  have GNf := ok_nf (P := l.prog) (w := w) (mg := mg) (base := base) FNf ⟨GAl, FAl.kp, bAl, mAl⟩ ⟨GWf, FWf.kp, bWf, mWf⟩ ⟨GBf, FBf.kp, bBf, mBf⟩ gEv gWk gBd
  have GTr := ok_told (P := l.prog) (w := w) (mg := mg) (base := base) FTr gDawn
  have GMk := ok_init (P := l.prog) (w := w) (mg := mg) (base := base) FMk ⟨GNf, FNf.kp, bNf, mNf⟩ ⟨GTr, FTr.kp, bTr, mTr⟩ net.n y_sorted
  have GPl := ok_pl (P := l.prog) (w := w) (mg := mg) (base := base) FPl net.n y_dict
  have GPw := ok_pw (P := l.prog) (w := w) (mg := mg) (base := base) FPw net.n y_dict
  have GPb := ok_pb (P := l.prog) (w := w) (mg := mg) (base := base) FPb net.n y_dict
  have GPe := ok_ev (P := l.prog) (w := w) (mg := mg) (base := base) FPe net.n y_tuple
  have GPt := ok_pt (P := l.prog) (w := w) (mg := mg) (base := base) FPt net.n y_tuple
  have GPd := ok_de (P := l.prog) (w := w) (mg := mg) (base := base) FPd net.n y_tuple
  have GPn := ok_en (P := l.prog) (w := w) (mg := mg) (base := base) FPn net.n y_tuple
  have GPh := ok_ho (P := l.prog) (w := w) (mg := mg) (base := base) FPh net.n y_max
  have GLe := ok_le (P := l.prog) (w := w) (mg := mg) (base := base) FLe net.n y_len
  have GNd := ok_ne (P := l.prog) (w := w) (mg := mg) (base := base) FNd net.n gDawn y_isinstance y_str
  have GWo := ok_wk (P := l.prog) (w := w) (mg := mg) (base := base) FWo net.n mtNd GNd bNd
  have GRm := ok_ro (P := l.prog) (w := w) (mg := mg) (base := base) FRm net.n mtNd GNd bNd y_tuple
  have GCo := ok_co (P := l.prog) (w := w) (mg := mg) (base := base) FCo net.n y_isinstance y_str
  have GSt := ok_st (P := l.prog) (w := w) (mg := mg) (base := base) FSt net.n y_len
  have GRw := ok_rw (P := l.prog) (w := w) (mg := mg) (base := base) FRw net.n ⟨GIp, FIp.kp, bIp, mIp⟩ qOp y_isinstance y_str y_all
  have GEq := ok_eq (P := l.prog) (w := w) (mg := mg) (base := base) FEq net.n mNe net.ic y_isinstance
  have GRo := ok_roll (P := l.prog) (w := w) (mg := mg) (base := base) FRo
  have GDi := ok_dice (P := l.prog) (w := w) (mg := mg) (base := base) FDi y_len y_int y_abs y_max
  have GPi := ok_pick (K := K) (P := l.prog) (w := w) (mg := mg) (base := base) FPi FRo bRo mRo y_len
  have GSh := ok_shuf (P := l.prog) (w := w) (mg := mg) (base := base) FSh GRo FRo.kp bRo mRo y_list y_range y_len
  have GGr := ok_gr (P := l.prog) (w := w) (mg := mg) (base := base) FGr ⟨GRo, FRo.kp, bRo, mRo⟩ ⟨GPi, FPi.kp, bPi, mPi⟩ ⟨GSh, FSh.kp, bSh, mSh⟩ y_range y_str y_sorted y_set y_enumerate
  have GNt := ok_nt (P := l.prog) (w := w) (mg := mg) (base := base) FNt y_sorted
  have GSo := ok_sor (P := l.prog) (w := w) (mg := mg) (base := base) FSo y_dict y_sorted
  have GMi := ok_mix (P := l.prog) (w := w) (mg := mg) (base := base) FMi ⟨GSh, FSh.kp, bSh, mSh⟩ ⟨GRo, FRo.kp, bRo, mRo⟩ y_dict y_list
  have GRd := ok_roa (P := l.prog) (w := w) (mg := mg) (base := base) FRd y_dict y_tuple
  have MK : NetM l.prog w K mg base cNe fMk _ := ⟨⟨net.mks, aMk, iMk, net.kp⟩, GMk, mNe, bMk⟩
  have EQ : NetQ l.prog w K mg base cNe fEq _ := ⟨GEq, net.ne, aEq, iEq, bEq, net.mo⟩
  have ST : NetS l.prog w K mg base cNe fSt _ := ⟨GSt, aSt, iSt, bSt⟩
  have LN : NetL l.prog w K mg base cNe fLe _ := ⟨GLe, aLe, iLe, bLe⟩
  have IN : NetI l.prog w K mg base cNe fCo _ := ⟨GCo, aCo, iCo, bCo⟩
  have PR : NetP l.prog w K mg base cNe qPl fPl qPw fPw qPb fPb qPe fPe qPd fPd qPn fPn qPh fPh _ _ _ _ _ _ _ := ⟨⟨poPl, GPl, bPl⟩, ⟨poPw, GPw, bPw⟩, ⟨poPb, GPb, bPb⟩, ⟨poPe, GPe, bPe⟩, ⟨poPd, GPd, bPd⟩, ⟨poPn, GPn, bPn⟩, ⟨poPh, GPh, bPh⟩⟩
  have TK : PropK l.prog w K mg base cNe "told" (rTold K) qPt fPt _ := ⟨poPt, GPt, bPt⟩
  have RK : RowK l.prog w K mg base cNe cOp fRw _ := ⟨mtRw, GRw, bRw⟩
  have WK : MethE l.prog w K mg base cNe "work_of" rWkN fWo _ := ⟨mtWo, GWo, bWo⟩
  have RM : MethE l.prog w K mg base cNe "road" (rRoad K) fRm _ := ⟨mtRm, GRm, bRm⟩
  have WM : MetK l.prog w K mg base cOp cUn fMe _ := ⟨FMe, FMe.kp, bMe, mMe, mOp, mUn⟩
  have tkR : TkS K base mg [(pRr, QRr)] "_law_rows_right" "_law_rows_right" s_law_rows_right fRr uRr pRr := ⟨tbR, by simp, one_all (R := fun p : Addr × Str => p.1 = pRr → p.2 = QRr) (fun _ => rfl), fun oc od kV doc pm an cdv ct osl lk => code_is lk lRr⟩
  have GRr := ok_rr (P := l.prog) (w := w) (mg := mg) (base := base) FRr tkR ⟨GPi, FPi.kp, bPi, mPi⟩ ⟨GNt, FNt.kp, bNt, mNt⟩ WM net.n.c RK TK xo y_list y_repr y_tuple
  have GEr := ok_er (P := l.prog) (w := w) (mg := mg) (base := base) FEr ⟨GPi, FPi.kp, bPi, mPi⟩ ⟨GMi, FMi.kp, bMi, mMi⟩ ⟨GSo, FSo.kp, bSo, mSo⟩ MK EQ ST y_dict y_list y_sorted y_str net.kn
  have GRt := ok_rt (P := l.prog) (w := w) (mg := mg) (base := base) FRt ⟨GPi, FPi.kp, bPi, mPi⟩ ⟨GMi, FMi.kp, bMi, mMi⟩ ⟨GSo, FSo.kp, bSo, mSo⟩ ⟨GRd, FRd.kp, bRd, mRd⟩ ⟨GRr, FRr.kp, bRr, mRr⟩ ⟨GEr, FEr.kp, bEr, mEr⟩ MK ST LN IN net.n.c PR WK RM sysb y_list y_sorted y_repr y_tuple y_max y_len y_str
  exact ok_law (P := l.prog) (w := w) (mg := mg) (base := base) FLa ⟨GDi, FDi.kp, bDi, mDi⟩ ⟨GGr, FGr.kp, bGr, mGr⟩ ⟨GRt, FRt.kp, bRt, mRt⟩ MK net.n.c PR TK RK RM ⟨_, gEv⟩ ⟨_, gWk⟩ ⟨_, gBd⟩ y_len y_max y_min y_range y_repr
theorem walk {l : PySem.W.OpenLaw} {q : Program} {loose : List Str} {XP : (Str → Option Value) → Heap → Prop} {YP : World → Heap → Prop} {d : DefRec} {K : Params → PySem.W.Frag} (hn : l.most = some 63) (hdf : d.params.defaults = [])
    (hY : ∀ (w : World) (h : Heap), YP w h → (K w.params).In h)
    (F : ∀ (w : World) (mg : Str → Option Value) (fa : Addr) (h : Heap), YP w h → (K w.params).In h → h.Ns mainGlobals mg → mg d.name = some (.ref fa) →
      SysH h ∧ ∃ (fd : FuncData) (cs : List (Addr × Addr)) (sp : Sp), (∀ p ∈ cs, h.get? p.2 = some tabO) ∧ (∀ p ∈ cs, (K w.params).lookup p.2 = none) ∧ (∀ p ∈ cs, PySem.W.CodeHd h p.1 p.2) ∧ (∀ (t : Shared) (u : Value), BindsTo t fd ⟨[u], []⟩ [("script", u)]) ∧
        (∀ (H : Hp) (a : Addr) (ns : List Int), ns.length ≤ 63 → SqL (K w.params) H a (ns.map V.int) → (∀ p ∈ cs, H p.2 = some (.tbl #[])) → sp [.ref a] H (fun v _ => v = .bl true) E0) ∧
        ∀ base : Heap, SysB base → (K w.params).In base → (∀ p ∈ cs, TabB base mg p.1 p.2) → FnG l.prog w (K w.params) mg base 10 fa fd ["script"] sp) :
    PySem.W.WalkO q loose XP YP l.row.toRowW d [] (fun f vs => PySem.call f vs) :=
  walkGS (n := 63) (k := 10) (x := "script") hn (by decide) hdf ⟨rfl, by decide, by decide⟩ hY F
end LW
open Lean in
local macro_rules
  | `(tactic| o_head ($f:ident $k $a $e $ts)) => do
    if f.getId.eraseMacroScopes == `kmHook then `(tactic| o_head (LW.kmHookS $k $a $e $ts)) else Macro.throwUnsupported
open PySem PySem.W PyProof.Rows in
set_option maxRecDepth 100000 in
set_option maxHeartbeats 0 in
theorem PySem.Challenge.cw_dawnway_k02_what_nets_tell_holds : PySem.Challenge.rw_dawnway_k02_what_nets_tell.Holds := by
  w_on; o_law; k_head; (case hw => w_witness2)
  k_fill
  refine LW.walk (l := PySem.Challenge.rw_dawnway_k02_what_nets_tell) rfl rfl (fun w h Y => LW.kmS_in_of Y) ?F
  case F =>
    intro w mg fa h Y KX G hmg
    have hT8 := LW.kmS_tabs_of Y
    refine ⟨LW.kmS_sys_of Y, ?_⟩
    refine' LW.all_mk (pRr := 416) KX G hmg ?q7_gOp ?q7_gUn ?q7_gNe ?q7_aBt ?q7_lBt ?q7_dBt ?q7_kBt ?q7_aIi ?q7_lIi ?q7_dIi ?q7_kIi ?q7_aIn ?q7_lIn ?q7_dIn ?q7_kIn ?q7_aIp ?q7_lIp ?q7_dIp ?q7_kIp ?q7_aAl ?q7_lAl ?q7_dAl ?q7_kAl ?q7_aIl ?q7_lIl ?q7_dIl ?q7_kIl ?q7_aIk ?q7_lIk ?q7_dIk ?q7_kIk ?q7_aIw ?q7_lIw ?q7_dIw ?q7_kIw ?q7_aIb ?q7_lIb ?q7_dIb ?q7_kIb ?q7_aGo ?q7_lGo ?q7_dGo ?q7_kGo ?q7_aCh ?q7_lCh ?q7_dCh ?q7_kCh ?q7_aWf ?q7_lWf ?q7_dWf ?q7_kWf ?q7_aBf ?q7_lBf ?q7_dBf ?q7_kBf ?q7_aNf ?q7_lNf ?q7_dNf ?q7_kNf ?q7_aTr ?q7_lTr ?q7_dTr ?q7_kTr ?q7_aRo ?q7_lRo ?q7_dRo ?q7_kRo ?q7_aDi ?q7_lDi ?q7_dDi ?q7_kDi ?q7_aPi ?q7_lPi ?q7_dPi ?q7_kPi ?q7_aSh ?q7_lSh ?q7_dSh ?q7_kSh ?q7_aGr ?q7_lGr ?q7_dGr ?q7_kGr ?q7_aNt ?q7_lNt ?q7_dNt ?q7_kNt ?q7_aSo ?q7_lSo ?q7_dSo ?q7_kSo ?q7_aMi ?q7_lMi ?q7_dMi ?q7_kMi ?q7_aRd ?q7_lRd ?q7_dRd ?q7_kRd ?q7_aMe ?q7_lMe ?q7_dMe ?q7_kMe ?q7_aRr ?q7_lRr ?q7_dRr ?q7_kRr ?q7_aEr ?q7_lEr ?q7_dEr ?q7_kEr ?q7_aRt ?q7_lRt ?q7_dRt ?q7_kRt ?q7_aLa ?q7_lLa ?q7_dLa ?q7_kLa ?q7_aMk ?q7_iMk ?q7_lMk ?q7_dMk ?q7_kMk ?q7_lTMk ?q7_aRw ?q7_iRw ?q7_lRw ?q7_dRw ?q7_kRw ?q7_aNd ?q7_iNd ?q7_lNd ?q7_dNd ?q7_kNd ?q7_aWo ?q7_iWo ?q7_lWo ?q7_dWo ?q7_kWo ?q7_aRm ?q7_iRm ?q7_lRm ?q7_dRm ?q7_kRm ?q7_aLe ?q7_iLe ?q7_lLe ?q7_dLe ?q7_kLe ?q7_aCo ?q7_iCo ?q7_lCo ?q7_dCo ?q7_kCo ?q7_aEq ?q7_iEq ?q7_lEq ?q7_dEq ?q7_kEq ?q7_aSt ?q7_iSt ?q7_lSt ?q7_dSt ?q7_kSt ?q7_o1Pl ?q7_o2Pl ?q7_o3Pl ?q7_o4Pl ?q7_lPl ?q7_dPl ?q7_kPl ?q7_o1Pw ?q7_o2Pw ?q7_o3Pw ?q7_o4Pw ?q7_lPw ?q7_dPw ?q7_kPw ?q7_o1Pb ?q7_o2Pb ?q7_o3Pb ?q7_o4Pb ?q7_lPb ?q7_dPb ?q7_kPb ?q7_o1Pe ?q7_o2Pe ?q7_o3Pe ?q7_o4Pe ?q7_lPe ?q7_dPe ?q7_kPe ?q7_o1Pd ?q7_o2Pd ?q7_o3Pd ?q7_o4Pd ?q7_lPd ?q7_dPd ?q7_kPd ?q7_o1Pn ?q7_o2Pn ?q7_o3Pn ?q7_o4Pn ?q7_lPn ?q7_dPn ?q7_kPn ?q7_o1Ph ?q7_o2Ph ?q7_o3Ph ?q7_o4Ph ?q7_lPh ?q7_dPh ?q7_kPh ?q7_o1Pt ?q7_o2Pt ?q7_o3Pt ?q7_o4Pt ?q7_lPt ?q7_dPt ?q7_kPt ?q7_eOp ?q7_pOp ?q7_xOp ?q7_nf ?q7_tRr ?q7_nRr ?q7_c_Far ?q7_c_Lett ?q7_c_Dawn ?q7_c_Fst ?q7_c_All ?q7_c_Len ?q7_c_Look ?q7_c_Ev ?q7_c_Wk ?q7_c_Bd ?q7_z_isinstance ?q7_z_int ?q7_z_bool ?q7_z_str ?q7_z_len ?q7_z_all ?q7_z_range ?q7_z_tuple ?q7_z_list ?q7_z_dict ?q7_z_set ?q7_z_abs ?q7_z_max ?q7_z_min ?q7_z_sorted ?q7_z_repr ?q7_z_enumerate ?q7_hRr
    (case q7_gOp => k_is)
    (case q7_gUn => k_is)
    (case q7_gNe => k_is)
    (case q7_aBt => k_is)
    (case q7_lBt => k_is)
    (case q7_dBt => k_is)
    (case q7_kBt => k_is)
    (case q7_aIi => k_is)
    (case q7_lIi => k_is)
    (case q7_dIi => k_is)
    (case q7_kIi => k_is)
    (case q7_aIn => k_is)
    (case q7_lIn => k_is)
    (case q7_dIn => k_is)
    (case q7_kIn => k_is)
    (case q7_aIp => k_is)
    (case q7_lIp => k_is)
    (case q7_dIp => k_is)
    (case q7_kIp => k_is)
    (case q7_aAl => k_is)
    (case q7_lAl => k_is)
    (case q7_dAl => k_is)
    (case q7_kAl => k_is)
    (case q7_aIl => k_is)
    (case q7_lIl => k_is)
    (case q7_dIl => k_is)
    (case q7_kIl => k_is)
    (case q7_aIk => k_is)
    (case q7_lIk => k_is)
    (case q7_dIk => k_is)
    (case q7_kIk => k_is)
    (case q7_aIw => k_is)
    (case q7_lIw => k_is)
    (case q7_dIw => k_is)
    (case q7_kIw => k_is)
    (case q7_aIb => k_is)
    (case q7_lIb => k_is)
    (case q7_dIb => k_is)
    (case q7_kIb => k_is)
    (case q7_aGo => k_is)
    (case q7_lGo => k_is)
    (case q7_dGo => k_is)
    (case q7_kGo => k_is)
    (case q7_aCh => k_is)
    (case q7_lCh => k_is)
    (case q7_dCh => k_is)
    (case q7_kCh => k_is)
    (case q7_aWf => k_is)
    (case q7_lWf => k_is)
    (case q7_dWf => k_is)
    (case q7_kWf => k_is)
    (case q7_aBf => k_is)
    (case q7_lBf => k_is)
    (case q7_dBf => k_is)
    (case q7_kBf => k_is)
    (case q7_aNf => k_is)
    (case q7_lNf => k_is)
    (case q7_dNf => k_is)
    (case q7_kNf => k_is)
    (case q7_aTr => k_is)
    (case q7_lTr => k_is)
    (case q7_dTr => k_is)
    (case q7_kTr => k_is)
    (case q7_aRo => k_is)
    (case q7_lRo => k_is)
    (case q7_dRo => k_is)
    (case q7_kRo => k_is)
    (case q7_aDi => k_is)
    (case q7_lDi => k_is)
    (case q7_dDi => k_is)
    (case q7_kDi => k_is)
    (case q7_aPi => k_is)
    (case q7_lPi => k_is)
    (case q7_dPi => k_is)
    (case q7_kPi => k_is)
    (case q7_aSh => k_is)
    (case q7_lSh => k_is)
    (case q7_dSh => k_is)
    (case q7_kSh => k_is)
    (case q7_aGr => k_is)
    (case q7_lGr => k_is)
    (case q7_dGr => k_is)
    (case q7_kGr => k_is)
    (case q7_aNt => k_is)
    (case q7_lNt => k_is)
    (case q7_dNt => k_is)
    (case q7_kNt => k_is)
    (case q7_aSo => k_is)
    (case q7_lSo => k_is)
    (case q7_dSo => k_is)
    (case q7_kSo => k_is)
    (case q7_aMi => k_is)
    (case q7_lMi => k_is)
    (case q7_dMi => k_is)
    (case q7_kMi => k_is)
    (case q7_aRd => k_is)
    (case q7_lRd => k_is)
    (case q7_dRd => k_is)
    (case q7_kRd => k_is)
    (case q7_aMe => k_is)
    (case q7_lMe => k_is)
    (case q7_dMe => k_is)
    (case q7_kMe => k_is)
    (case q7_aRr => k_is)
    (case q7_lRr => k_is)
    (case q7_dRr => k_is)
    (case q7_kRr => k_is)
    (case q7_aEr => k_is)
    (case q7_lEr => k_is)
    (case q7_dEr => k_is)
    (case q7_kEr => k_is)
    (case q7_aRt => k_is)
    (case q7_lRt => k_is)
    (case q7_dRt => k_is)
    (case q7_kRt => k_is)
    (case q7_aLa => k_is)
    (case q7_lLa => k_is)
    (case q7_dLa => k_is)
    (case q7_kLa => k_is)
    (case q7_aMk => k_is)
    (case q7_iMk => k_is)
    (case q7_lMk => k_is)
    (case q7_dMk => k_is)
    (case q7_kMk => k_is)
    (case q7_lTMk => k_is)
    (case q7_aRw => k_is)
    (case q7_iRw => k_is)
    (case q7_lRw => k_is)
    (case q7_dRw => k_is)
    (case q7_kRw => k_is)
    (case q7_aNd => k_is)
    (case q7_iNd => k_is)
    (case q7_lNd => k_is)
    (case q7_dNd => k_is)
    (case q7_kNd => k_is)
    (case q7_aWo => k_is)
    (case q7_iWo => k_is)
    (case q7_lWo => k_is)
    (case q7_dWo => k_is)
    (case q7_kWo => k_is)
    (case q7_aRm => k_is)
    (case q7_iRm => k_is)
    (case q7_lRm => k_is)
    (case q7_dRm => k_is)
    (case q7_kRm => k_is)
    (case q7_aLe => k_is)
    (case q7_iLe => k_is)
    (case q7_lLe => k_is)
    (case q7_dLe => k_is)
    (case q7_kLe => k_is)
    (case q7_aCo => k_is)
    (case q7_iCo => k_is)
    (case q7_lCo => k_is)
    (case q7_dCo => k_is)
    (case q7_kCo => k_is)
    (case q7_aEq => k_is)
    (case q7_iEq => k_is)
    (case q7_lEq => k_is)
    (case q7_dEq => k_is)
    (case q7_kEq => k_is)
    (case q7_aSt => k_is)
    (case q7_iSt => k_is)
    (case q7_lSt => k_is)
    (case q7_dSt => k_is)
    (case q7_kSt => k_is)
    (case q7_o1Pl => k_is)
    (case q7_o2Pl => k_is)
    (case q7_o3Pl => k_is)
    (case q7_o4Pl => k_is)
    (case q7_lPl => k_is)
    (case q7_dPl => k_is)
    (case q7_kPl => k_is)
    (case q7_o1Pw => k_is)
    (case q7_o2Pw => k_is)
    (case q7_o3Pw => k_is)
    (case q7_o4Pw => k_is)
    (case q7_lPw => k_is)
    (case q7_dPw => k_is)
    (case q7_kPw => k_is)
    (case q7_o1Pb => k_is)
    (case q7_o2Pb => k_is)
    (case q7_o3Pb => k_is)
    (case q7_o4Pb => k_is)
    (case q7_lPb => k_is)
    (case q7_dPb => k_is)
    (case q7_kPb => k_is)
    (case q7_o1Pe => k_is)
    (case q7_o2Pe => k_is)
    (case q7_o3Pe => k_is)
    (case q7_o4Pe => k_is)
    (case q7_lPe => k_is)
    (case q7_dPe => k_is)
    (case q7_kPe => k_is)
    (case q7_o1Pd => k_is)
    (case q7_o2Pd => k_is)
    (case q7_o3Pd => k_is)
    (case q7_o4Pd => k_is)
    (case q7_lPd => k_is)
    (case q7_dPd => k_is)
    (case q7_kPd => k_is)
    (case q7_o1Pn => k_is)
    (case q7_o2Pn => k_is)
    (case q7_o3Pn => k_is)
    (case q7_o4Pn => k_is)
    (case q7_lPn => k_is)
    (case q7_dPn => k_is)
    (case q7_kPn => k_is)
    (case q7_o1Ph => k_is)
    (case q7_o2Ph => k_is)
    (case q7_o3Ph => k_is)
    (case q7_o4Ph => k_is)
    (case q7_lPh => k_is)
    (case q7_dPh => k_is)
    (case q7_kPh => k_is)
    (case q7_o1Pt => k_is)
    (case q7_o2Pt => k_is)
    (case q7_o3Pt => k_is)
    (case q7_o4Pt => k_is)
    (case q7_lPt => k_is)
    (case q7_dPt => k_is)
    (case q7_kPt => k_is)
    (case q7_eOp => first | kernel_rfl | k_is)
    (case q7_pOp => first | kernel_rfl | k_is)
    (case q7_xOp => first | kernel_rfl | k_is)
    (case q7_nf => first | kernel_rfl | k_is)
    (case q7_tRr => first | kernel_rfl | k_is)
    (case q7_nRr => first | kernel_rfl | k_is)
    (case q7_c_Far => k_is)
    (case q7_c_Lett => k_is)
    (case q7_c_Dawn => k_is)
    (case q7_c_Fst => k_is)
    (case q7_c_All => k_is)
    (case q7_c_Len => k_is)
    (case q7_c_Look => k_is)
    (case q7_c_Ev => k_is)
    (case q7_c_Wk => k_is)
    (case q7_c_Bd => k_is)
    (case q7_z_isinstance => k_is)
    (case q7_z_int => k_is)
    (case q7_z_bool => k_is)
    (case q7_z_str => k_is)
    (case q7_z_len => k_is)
    (case q7_z_all => k_is)
    (case q7_z_range => k_is)
    (case q7_z_tuple => k_is)
    (case q7_z_list => k_is)
    (case q7_z_dict => k_is)
    (case q7_z_set => k_is)
    (case q7_z_abs => k_is)
    (case q7_z_max => k_is)
    (case q7_z_min => k_is)
    (case q7_z_sorted => k_is)
    (case q7_z_repr => k_is)
    (case q7_z_enumerate => k_is)
    (case q7_hRr => exact hT8 _ (by k_mem))
