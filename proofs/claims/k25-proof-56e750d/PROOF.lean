import PyProof.Rows.All
import Wide.All
import OpenK.AllK
import Wide.FinOn
import PyProof.EqAt
import PyProof.EqKinds
import PyProof.TupleCall
import PyProof.ReprRoads
import PyProof.Rows.RuleB_pow
import KE.KExcMore
import KE.KExcMake
import KE.KExcIs
import KE.KDictCopyH
import HandS.ForMost
import HandS.Exc
import HandS.ExcOwn
import HandS.ExcValue
import HandS.ExcInit
import HandS.IsInst
import HandS.DictComp
import HandS.FStr
import HandS.RaiseMore
import HandS.Style
import PyProof.Rows.FactsExc_KeyError
import HandS.Wide
import HandS.Small
import HandS.TryMany
import HandS.ExcField
import HandS.Lambda
import HandS.WordsExc
import HandS.MakeKwOnly
import HandS.Defaults
import HandS.DictTup
import KE.KDictDisplayH
import HandS.Strs
import HandS.Set
import HandS.More
import HandS.Conv
import KE.SortData
import KE.DataCmp
import HandS.Walk
import KE.SortLaws
import HandS.ListItems
import KE.KStar
import HandS.WordsDict
import HandS.Star
import HandS.Codes
import KE.LtData
import KE.KCallOwn
import OpenK.KOps
import OpenK.KMeth
import HandS.Property
import HandS.RaiseOp
import HandS.Deep
import PyProof.EnumMake
import PyProof.Draws
import KE.GoesMore
import HandS.Iter
import HandS.OwnEq
import OpenK.KWalk
import HandS.List
import HandS.CallLocal
import HandS.TryOnly
import KE.KNestM
import PySem.Challenge.RW_dawnway_k25_errors_of_rows
set_option Elab.async false
set_option linter.all false
set_option maxRecDepth 100000
set_option maxHeartbeats 4000000
namespace DW
open PySem PySem.Spec PyProof.Rows L2

/-! ### promises of defs that may write out data: no repr is under way -/
structure FnG (P : Program) (w : World) (K : PySem.W.Frag) (mg : Str → Option Value) (base : Heap) (k : Nat) (f : Addr) (fd : FuncData) (ps : List Str) (sp : Sp) : Prop where
  len : ∀ vs H Q, sp vs H Q E0 → vs.length = ps.length
  run : ∀ (A : Around) (outer : List Env) (s : Shared) (H : Hp) (args : Args) (us : List Value) (vs : List V) (Q : VK),
    Room k A → A.guards = some [] → Env0 P w K mg base A outer s H → BindsTo s fd args (ps.zip us) → Vals vs us →
    sp vs H Q E0 → codeAny (model P w) A (.call (.ref f) args) (CR CX0 outer P w H s Q E0) s

section
variable {P : Program} {w : World} {K : PySem.W.Frag} {mg : Str → Option Value} {base : Heap}
theorem FnG.of {k : Nat} {f : Addr} {fd : FuncData} {ps : List Str} {sp : Sp} (F : FnOk P w K mg base CX0 k f fd ps sp) : FnG P w K mg base k f fd ps sp :=
  ⟨fun vs H Q h => F.len vs H Q E0 h, fun A outer s H args us vs Q hr _ e0 hb r h => F.run A outer s H args us vs Q E0 hr e0 hb r h⟩

theorem fng {x qual : Str} {st : Stmt} {f : Addr} {fd : FuncData} {N ps : List Str} {k : Nat} {sp : Sp} (F : Fun K x qual st f fd) (S : FnScope N ps (defScope st))
    (len : ∀ vs H Q, sp vs H Q E0 → vs.length = ps.length)
    (hbody : ∀ (cdv : Value) (A : Around) (outer : List Env) (s : Shared) (H : Hp) (vs : List V) (Q : VK),
      Room k (A.deeper (envOfC qual (defScope st) s.heap.objs.size f cdv)) → A.guards = some [] → sp vs H Q E0 →
      ∃ t, PSs (cxOf CX0 P w K mg base N qual (defScope st) f cdv A outer s H E0).nox (defBody st) t ∧
        t { nx := fun _ H' => Q .non H', rt := Q } (start N vs) H) : FnG P w K mg base (k + 1) f fd ps sp := by
  obtain ⟨oc, od, kV, doc, pm, an, cdv, ct, osl, rfl, lk, hcd⟩ := F.ex
  refine ⟨len, fun A outer s H args us vs Q hr hg env0 hb r hsp => ?_⟩
  have hlen := len _ _ _ hsp
  have inK : K.In s.heap := env0.mod.kin.keeps fun a o q => (env0.bs a o q).1
  have lim : s.heap.NoLimit := env0.mod.nolimit.keeps fun a o q => (env0.bs a o q).1
  have hk : ∀ y ∈ ps.zip us, (defScope st).names.lookup y.1 = some .local ∨
      ((defScope st).names.lookup y.1 = some .cell ∧ ((cellsFrom (s.heap.objs.size + 1) (defScope st).names []).lookup y.1).isSome = true) := by
    rintro ⟨n, v⟩ hy
    rcases S.par n (List.of_mem_zip hy).1 with q | q
    · exact Or.inl q
    · exact Or.inr ⟨q, PySem.W.cellsFrom_some _ _ _ (Or.inl q)⟩
  refine codeAny_call_function hr.depth (inK _ _ lk) rfl S.co S.gen rfl (PySem.W.codeRec_of inK hcd) (hb _ _ _ _ ?_)
  refine wpAny_newFunctionEnv_cells S.kind hk fun env he s1 x => ?_
  subst he
  refine ⟨lim.keeps x.toInCall.keep, codeAny_func ?_⟩
  obtain ⟨t, ht, hq⟩ := hbody cdv A outer s H vs Q (hr.deeper _) hg hsp
  have I0 : Inv (cxOf CX0 P w K mg base N qual (defScope st) f cdv A outer s H E0) [] (start N vs) H s1 := inv_start S hr.hd env0 hlen r x
  refine wpAny_mono (ht.nox.run [] s1 (start N vs) H _ I0 hq) (fun fl s' hs => ?_) fun e s' z => z
  cases fl with
  | brk =>
    obtain ⟨_, _, _, q⟩ := hs
    exact q.elim
  | cont =>
    obtain ⟨_, _, _, q⟩ := hs
    exact q.elim
  | next =>
    obtain ⟨σ', H', J, q⟩ := hs
    exact ⟨V.non, H', J.os, J.bare, J.base, J.hok, rfl, q⟩
  | ret u =>
    obtain ⟨v, σ', H', J, rv, q⟩ := hs
    exact ⟨v, H', J.os, J.bare, J.base, J.hok, rv, q⟩
end

section
variable {X : Cx} {k : Nat} {f C : Addr} {fd : FuncData} {ps : List Str} {sp : Sp} {x : Str} {p pos : Pos} {e : Expr} {es : List Expr} {t : TA}
theorem run_g {pins : List (Addr × Obj)} {σ : L2.St} {H : Hp} {s : Shared} {Q : VK} {us : List Value} {vs : List V} (F : FnG X.prog X.w X.K X.mg X.base k f fd ps sp)
    (hr : Room k X.A) (hg : X.A.guards = some []) (hb : Binds X.K fd ps []) (I : Inv X pins σ H s) (r : Vals vs us) (h : sp vs H Q E0) :
    wpAny (model X.prog X.w) X.A (call (.ref f) us) (EP X pins σ Q) X.xe s := by
  have hl : us.length = ps.length := r.length.symm.trans (F.len _ _ _ h)
  have b := hb s us I.kIn (by rw [List.append_nil]; exact hl)
  rw [List.append_nil] at b
  refine wpAny_call (codeAny_mono (F.run X.A X.stack s H ⟨us, []⟩ us vs Q hr hg I.env0 b r h) fun r s' hq => ?_)
  rcases r with er | fl
  · exact hq.elim
  · cases fl with
    | ret u => exact I.after hq
    | _ => exact False.elim hq
/-- a call of such a def -/
theorem pe_g (F : FnG X.prog X.w X.K X.mg X.base k f fd ps sp) (hr : Room k X.A) (hgu : X.A.guards = some []) (hg : Gl X x) (hm : X.mg x = some (.ref f))
    (hk : PySem.W.keepIn X.K (.ref f) = true) (hb : Binds X.K fd ps []) (ha : PA X (e :: es) t) (hdb : (x == ("__debug__" : Str)) = false := by decide)
    (he : starEach (e :: es) X.env = (false, eval e X.env) :: starEach es X.env := by rfl) (hpl : (backTo pos (starEach es X.env)).any (·.1) = false := by rfl) :
    PE X (.Call (.Name x p) (e :: es) [] pos) (tCall sp [] E0 t) := by
  refine ⟨fun pins s σ H Q I h => ?_⟩
  refine wpAny_Call_Name_kw (ld_glob I hg hm ?_ hdb)
  refine PySem.W.callWith_K (h₀ := X.base) I.ok.mod.kin hk (thn (ha.run pos pins s σ H _ I h) ?_) he hpl
  rintro us s1 ⟨vs, H1, I1, r, q⟩
  rw [List.append_nil] at q
  exact ⟨I1.kIn, run_g F hr hgu hb I1 r q⟩
end

/-! ### two new objects at once -/
section
variable {X : Cx} {pins : List (Addr × Obj)} {σ : L2.St} {H : Hp} {s : Shared}
theorem laid2 {h' : Heap} {a t : Addr} {o u : HO} {tk : Nat} (I : Inv X pins σ H s) (k : ∀ b v, s.heap.get? b = some v → h'.get? b = some v)
    (ha : s.heap.objs.size ≤ a) (ht : s.heap.objs.size ≤ t) (ne : t ≠ a) (n1 : ObjOk X.prog X.w (upd (upd H t u) a o) h' t u) (n2 : ObjOk X.prog X.w (upd (upd H t u) a o) h' a o) :
    Inv X pins σ (upd (upd H t u) a o) { s with heap := h', toks := tk } := by
  have na : H a = none := I.hok.fresh ha
  have nt : H t = none := I.hok.fresh ht
  have old : ∀ b v, H b = some v → upd (upd H t u) a o b = some v := fun b v q => by
    rw [upd_ne (ne_of_none q na), upd_ne (ne_of_none q nt)]; exact q
  have there : ∀ b v, s.heap.get? b = some v → b ≠ a ∧ b ≠ t := fun b v q =>
    ⟨Nat.ne_of_lt (Nat.lt_of_lt_of_le (Heap.lt_size q) ha), Nat.ne_of_lt (Nat.lt_of_lt_of_le (Heap.lt_size q) ht)⟩
  refine I.un ⟨fun b v q _ _ _ => k b v q, fun b v q _ _ _ => ⟨v.slots, k b v q⟩, fun b v q n _ => ?_, fun b v q _ => ⟨v, k b v q⟩,
    fun b xs q => old b _ q, fun b ob xs q => old b _ q, fun b qs q => ⟨#[], by rw [old b _ q]; simp⟩⟩ fun b v q => ?_
  · rw [upd_ne (there b v q).1, upd_ne (there b v q).2]; exact n
  · by_cases hb : b = a
    · subst hb; rw [upd_same] at q; cases q; exact n2
    · rw [upd_ne hb] at q
      by_cases hc : b = t
      · subst hc; rw [upd_same] at q; cases q; exact n1
      · rw [upd_ne hc] at q
        exact (I.hok b v q).stay (fun c z _ y => k c z y) (fun c y => old c _ y) fun c xs y => old c _ y
end

/-! ### exceptions that are held as values -/
abbrev exr (C : Addr) (d : Option Addr) (t : Addr) : Obj := { cls := .ref C, dict := d, data := .fields #[.ref t, .none, .none, .none, .bool false, .none] }
/-- at a: an exception of the class at C, its dict, its args at t -/
def exq (a C : Addr) (d : Option Addr) (t : Addr) : HO := .ext fun h => h.get? a = some (exr C d t)
theorem exq_ok {P : Program} {w : World} {H : Hp} {h : Heap} {a C t : Addr} {d : Option Addr} (e : h.get? a = some (exr C d t)) : ObjOk P w H h a (exq a C d t) :=
  ⟨e, ⟨_, e⟩, fun _ _ z q => q _ z⟩
theorem exq_at {P : Program} {w : World} {H : Hp} {h : Heap} {a C t : Addr} {d : Option Addr} (x : HOk P w H h) (e : H a = some (exq a C d t)) : h.get? a = some (exr C d t) := by
  have z : ObjOk P w H h a (.ext fun h => h.get? a = some (exr C d t)) := x a _ e
  exact z.1
theorem exq_tup {a C t : Addr} {d : Option Addr} {xs : List V} : exq a C d t ≠ .tup xs := fun z => by
  have y : HO.ext _ = HO.tup xs := z
  cases y
theorem exq_own {a C t b : Addr} {d : Option Addr} : exq a C d t ≠ .own b := fun z => by
  have y : HO.ext _ = HO.own b := z
  cases y
theorem exq_frz {a C t : Addr} {d : Option Addr} {o : Obj} {u : HO} : exq a C d t ≠ .frz o u := fun z => by
  have y : HO.ext _ = HO.frz o u := z
  cases y
theorem exq_tbl {a C t : Addr} {d : Option Addr} {qs : Array Value} : exq a C d t ≠ .tbl qs := fun z => by
  have y : HO.ext _ = HO.tbl qs := z
  cases y
/-- what the written part says of an exception class that is made, read and asked -/
structure ExK (K : PySem.W.Frag) (C : Addr) : Prop where
  kC : PySem.W.keepIn K (.ref C) = true
  cl : (PySem.W.clsIn K C).isSome = true
  hd : PySem.W.hasDictIn K C = true
  ga : PySem.W.findIn K (.ref C) "__getattribute__" = some (some (.builtin "BaseException.__getattribute__"))
  gg : PySem.W.findIn K (.ref C) "__getattr__" = some none
  sa : PySem.W.findIn K (.ref C) "__setattr__" = some (some (.builtin "object.__setattr__"))
  st : PySem.W.findIn K (.ref C) "__str__" = some (some (.builtin "BaseException.__str__")) ∨ PySem.W.findIn K (.ref C) "__str__" = some (some (.builtin "KeyError.__str__"))
  ex : PySem.W.subIn K (.ref C) (.type "BaseException") = some true
  cc : PySem.W.findIn K (.ref C) "__class__" = some (some (.builtin "object.__class__"))
  cg : PySem.W.specialIn K (.builtin "object.__class__") "__get__" = some (some (.builtin "getset_descriptor.__get__"))
  ct : PySem.W.takesIn K (.builtin "object.__class__") = some true
  ob : PySem.W.mroIn K C (.type "object") = some true
section
variable {X : Cx} {C fI : Addr} {bmB : List Value} {B newId initId : String} {x : Str} {e : Expr} {te : TE} {p pos : Pos}
/-- X(e), no __init__ of its own -/
def tExP (C : Addr) (te : TE) : TE := fun σ H Q => te σ H fun v H1 => ∀ a t, H1 a = none → H1 t = none → t ≠ a → Q (.ref a) (upd (upd H1 t (.tup [v])) a (exq a C none t))
theorem pe_exP (FB : ExcBaseFacts B newId initId bmB) (q : PySem.W.excInitIn X.K C bmB newId = true) (hi : PySem.W.findIn X.K (.ref C) "__init__" = some (some (.builtin initId)))
    (kC : PySem.W.keepIn X.K (.ref C) = true) (gC : X.mg x = some (.ref C)) (hg : Gl X x) (he : PE X e te)
    (hs : starEach [e] X.env = (false, eval e X.env) :: starEach [] X.env := by rfl) (hdb : (x == ("__debug__" : Str)) = false := by decide) :
    PE X (.Call (.Name x p) [e] [] pos) (tExP C te) := by
  refine ⟨fun pins s σ H Q I h => ?_⟩
  refine wpAny_Call_Name_kw (ld_glob I hg gC ?_ hdb)
  refine PySem.W.callWith_K (h₀ := X.base) I.ok.mod.kin kC ?_ hs (by rfl)
  rw [hs]
  show wpAny _ _ (spliced ((false, eval e X.env) :: backTo pos (starEach [] X.env))) _ _ s
  refine Calls.spliced_cons (thn (he.run pins s σ H _ I h) ?_)
  rintro u s1 ⟨v, H1, I1, r1, q1⟩
  refine Calls.spliced_nil ⟨I1.kIn, ?_⟩
  show wpAny _ _ (call (.ref C) [u]) _ _ _
  obtain ⟨nm, N, qn, bs, bm, hdct, sn, sub, ab, col, dd, k0, k1, k2, k3, k5, hC, hT⟩ := PySem.W.excInit_of I1.kIn q
  have hi' : PySem.W.Looks (model X.prog X.w) s1.heap (typeLookup (.ref C) "__init__") (some (.builtin initId)) := PySem.W.looks_findIn I1.kIn hi
  obtain ⟨hp, g, d, tk, os⟩ := s1
  refine PySem.W.call_B FB hT hC hi' (by show 1 ≤ sizeLine; rw [sizeLine_eq]; omega) fun h' k ea et => ?_
  have n1 : H1 (hp.objs.size + 1) = none := I1.hok.fresh (Nat.le_succ _)
  have n2 : H1 (hp.objs.size + 2) = none := I1.hok.fresh (Nat.le_add_right _ 2)
  have ne : hp.objs.size + 2 ≠ hp.objs.size + 1 := Nat.ne_of_gt (Nat.lt_succ_self _)
  refine ⟨.ref (hp.objs.size + 1), _, laid2 (tk := tk) I1 k (Nat.le_succ _) (Nat.le_add_right _ 2) ne ?_ (exq_ok ea), rfl, q1 _ _ n1 n2 ne⟩
  exact ⟨by show 1 ≤ sizeLine; rw [sizeLine_eq]; omega, [u], .cons r1 .nil, ⟨_, et, rfl, _, rfl⟩⟩
end
end DW
namespace DW
open PySem PySem.Spec PyProof.Rows L2

/-! ### data, a flat dict too -/
def keyD : Key → PyData
  | .inl i => .int i
  | .inr x => .str x
inductive Dd (K : PySem.W.Frag) (H : Hp) : V → PyData → Prop where
  | base {v : V} {d : PyData} (h : Dp K H v d) (n : d.hasDict = false) : Dd K H v d
  | dct {a : Addr} {kvs : List (Key × Int)} (h : H a = some (.dK (kvs.map fun p => (p.1, V.int p.2)))) :
      Dd K H (.ref a) (.dict (kvs.map fun p => (keyD p.1, PyData.int p.2)))
section
variable {X : Cx} {pins : List (Addr × Obj)} {σ : L2.St} {H : Hp} {s : Shared}
theorem key_reads {h : Heap} {k : Key} {u : Value} (e : keyIs k u = true) : Reads h u (keyD k) [] := by
  rcases keyIs_shape e with ⟨i, t, rfl, rfl⟩ | ⟨x, t, rfl, rfl⟩
  · exact .int i t
  · exact .str x t
theorem pairs_reads {h : Heap} {P : Program} {w : World} : ∀ {kvs : List (Key × Int)} {es : List DictEntry} {vs : List (Key × Value)},
    KV (kvs.map fun p => (p.1, V.int p.2)) vs → Pairs (mixKind P w) es vs →
    ReadsAll h (es.map (·.key)) ((kvs.map fun p => (keyD p.1, PyData.int p.2)).map (·.1)) [] ∧
    ReadsAll h (es.map (·.val)) ((kvs.map fun p => (keyD p.1, PyData.int p.2)).map (·.2)) []
  | [], _, _, r, q => by
    cases r
    cases q
    exact ⟨.nil, .nil⟩
  | p :: l, _, _, r, q => by
    cases r with
    | cons r1 r2 =>
      cases q with
      | cons q1 q2 q3 =>
        obtain ⟨z1, z2⟩ := pairs_reads (h := h) r2 q3
        obtain ⟨e1, e2⟩ := r1
        refine ⟨?_, ?_⟩
        · have y := key_reads (h := h) (by rw [← e1] at q1; exact q1)
          exact ReadsAll.cons (as := []) y z1
        · obtain ⟨t, e2⟩ := e2
          refine ReadsAll.cons (as := []) ?_ z2
          dsimp only
          rw [q2, e2]
          exact Reads.int p.2 t
theorem Dd.reads {v : V} {u : Value} {d : PyData} (I : Inv X pins σ H s) (h : Dd X.K H v d) (r : RelV v u) :
    ∃ as, Reads s.heap u d as ∧ (d.hasDict = true → sysModules ∉ as) := by
  cases h with
  | base h n =>
    obtain ⟨as, q⟩ := Dp.reads I d v u h r
    exact ⟨as, q, fun z => by rw [n] at z; cases z⟩
  | @dct a kvs h =>
    cases r
    obtain ⟨_, hs, vs, rel, o, es, ep, ho, hx, hd, _, hp, _⟩ := (show ObjOk X.prog X.w H s.heap a (.dK _) from I.hok a _ h)
    obtain ⟨z1, z2⟩ := pairs_reads (h := s.heap) rel hp
    refine ⟨_, Reads.dict ho hx.1 hd z1 z2, fun _ hm => ?_⟩
    have e : sysModules = a := by simpa using hm
    rw [e] at hs
    simp at hs
/-- repr(x) of data -/
def rRepr (K : PySem.W.Frag) : List V → Hp → VK → Prop := fun xs H Q => ∃ v d, xs = [v] ∧ Dd K H v d ∧ d.showable = true ∧ d.shown.length ≤ sizeLine ∧ d.depth ≤ 60 ∧ Q (.str d.shown) H
theorem call_repr (hg : X.A.guards = some []) (hu : X.A.units + 64 < cLine) : CallR X (.builtin "repr") (rRepr X.K) := by
  intro pins s σ H xs us Q I r h
  obtain ⟨v, d, rfl, hd, hs, hz, hp, q⟩ := h
  obtain ⟨u, rfl, r1⟩ := vals1 r
  obtain ⟨as, hr, hm⟩ := hd.reads I r1
  cases hr with
  | none => exact PySem.P.repr_of_none ⟨.str _, H, I.tok _, ⟨_, rfl⟩, q⟩
  | bool b => exact PySem.P.repr_of_bool ⟨.str _, H, I.tok _, ⟨_, rfl⟩, q⟩
  | int i t => exact PySem.P.repr_of_int (by simpa [PyData.showable] using hs) ⟨.str _, H, I.tok _, ⟨_, rfl⟩, q⟩
  | str x t => exact PySem.P.repr_of_str ⟨.str _, H, I.tok _, ⟨_, rfl⟩, q⟩ hz
  | list h1 h2 h3 h4 => exact repr_of_reads' (Reads.list h1 h2 h3 h4) hs hm hg (by omega) (fun _ _ z => z) (fun h' t tk k => ⟨.str _, H, I.kept (t' := tk) k, ⟨_, rfl⟩, q⟩) hz
  | tuple h1 h2 h3 h4 => exact repr_of_reads' (Reads.tuple h1 h2 h3 h4) hs hm hg (by omega) (fun _ _ z => z) (fun h' t tk k => ⟨.str _, H, I.kept (t' := tk) k, ⟨_, rfl⟩, q⟩) hz
  | dict h1 h2 h3 h4 h5 => exact repr_of_reads' (Reads.dict h1 h2 h3 h4 h5) hs hm hg (by omega) (fun _ _ z => z) (fun h' t tk k => ⟨.str _, H, I.kept (t' := tk) k, ⟨_, rfl⟩, q⟩) hz
/-- {x!r} of data -/
def tFmtD (K : PySem.W.Frag) (te : TE) : TE := fun σ H Q => te σ H fun v H1 => ∃ d, Dd K H1 v d ∧ d.showable = true ∧ d.shown.length ≤ sizeLine ∧ d.depth ≤ 60 ∧ Q (.str d.shown) H1
theorem pe_fmtD {e : Expr} {te : TE} {pos : Pos} (hg : X.A.guards = some []) (hu : X.A.units + 64 < cLine) (he : PE X e te) : PE X (.FormattedValue e 114 none pos) (tFmtD X.K te) := by
  refine ⟨fun pins s σ H Q I h => ?_⟩
  refine wpAny_FormattedValue_repr (thn (he.run pins s σ H _ I h) ?_)
  rintro u s1 ⟨v, H1, I1, r1, d, hd, hs, hz, hp, q⟩
  obtain ⟨as, hr, hm⟩ := hd.reads I1 r1
  have fin : ∀ (h' : Heap) (t tk : Nat), (∀ b o, s1.heap.get? b = some o → h'.get? b = some o) →
      wpAny (model X.prog X.w) X.A (formatField (.str d.shown t) Str.empty) (EP X pins σ Q) X.xe { s1 with heap := h', toks := tk } := fun h' t tk k =>
    wpAny_formatField_str ⟨.str d.shown, H1, (I1.kept (t' := tk) k).tok _, ⟨_, rfl⟩, q⟩ ⟨.str d.shown, H1, (I1.kept (t' := tk) k).tok _, ⟨_, rfl⟩, q⟩ hz
  cases hr with
  | none => exact pyReprObj_none (fin _ _ _ fun _ _ z => z)
  | bool b => exact pyReprObj_bool (fin _ _ _ fun _ _ z => z)
  | int i t => exact pyReprObj_int (by simpa [PyData.showable] using hs) (fin _ _ _ fun _ _ z => z)
  | str x t => exact pyReprObj_str (fin _ _ _ fun _ _ z => z) hz
  | list h1 h2 h3 h4 => exact pyReprObj_of_reads (Reads.list h1 h2 h3 h4) hs hm hg (by omega) (fun _ _ z => z) (fun h' t tk k => fin h' t tk k) hz
  | tuple h1 h2 h3 h4 => exact pyReprObj_of_reads (Reads.tuple h1 h2 h3 h4) hs hm hg (by omega) (fun _ _ z => z) (fun h' t tk k => fin h' t tk k) hz
  | dict h1 h2 h3 h4 h5 => exact pyReprObj_of_reads (Reads.dict h1 h2 h3 h4 h5) hs hm hg (by omega) (fun _ _ z => z) (fun h' t tk k => fin h' t tk k) hz
end

/-! ### isinstance, str, a field of an exception that is held -/
section
variable {X : Cx}
def rIsX (K : PySem.W.Frag) : List V → Hp → VK → Prop := fun xs H Q => ∃ (a C : Addr) (d : Option Addr) (t : Addr) (c : V) (u : Value) (b : Bool), xs = [.ref a, c] ∧ ClsV c u ∧ H a = some (exq a C d t) ∧
  (∀ x, d = some x → ∃ fs, H x = some (exd x fs)) ∧ ExK K C ∧ PySem.W.kitOne K (.ref C) u = some b ∧ Q (.bl b) H
theorem exq_inst {pins : List (Addr × Obj)} {σ : L2.St} {H : Hp} {s : Shared} {a C t : Addr} {d : Option Addr} (I : Inv X pins σ H s) (e : H a = some (exq a C d t))
    (hd : ∀ x, d = some x → ∃ fs, H x = some (exd x fs)) : ∃ od, PySem.W.InstAt s.heap a (exr C d t) C od := by
  have z := exq_at I.hok e
  cases d with
  | none => exact ⟨none, z, rfl, rfl, trivial⟩
  | some x =>
    obtain ⟨fs, ex⟩ := hd x rfl
    obtain ⟨mA, ⟨o, es, ep, ho, _⟩, _⟩ := exd_at I.hok ex
    exact ⟨some o, z, rfl, rfl, ho⟩
theorem call_isX : CallR X (.builtin "isinstance") (rIsX X.K) := by
  intro pins s σ H xs us Q I r h
  obtain ⟨a, C, d, t, c, u, b, rfl, hc, ha, hd, T, hk, q⟩ := h
  obtain ⟨u1, u2, rfl, r1, r2⟩ := vals2 r
  cases (show u1 = Value.ref a from r1)
  have e2 := hc.eq r2
  subst e2
  obtain ⟨od, J⟩ := exq_inst I ha hd
  exact PySem.W.kia_one (PySem.W.kitx_exc T.cl T.ga T.gg T.ex T.cc T.cg T.ct T.ob) I.kIn J hk (fun z => nomatch z) fun tk => ⟨.bl b, H, I.tok tk, rfl, q⟩
/-- str(e) -/
def rStrX (K : PySem.W.Frag) : List V → Hp → VK → Prop := fun xs H Q => ∃ (a C : Addr) (d : Option Addr) (t : Addr) (m : Str), xs = [.ref a] ∧ H a = some (exq a C d t) ∧ H t = some (.tup [.str m]) ∧
  ExK K C ∧ PySem.W.findIn K (.ref C) "__str__" = some (some (.builtin "BaseException.__str__")) ∧ Q (.str m) H
theorem call_strX (hu : X.A.units + 64 < cLine) : CallR X (.type "str") (rStrX X.K) := by
  intro pins s σ H xs us Q I r h
  obtain ⟨a, C, d, t, m, rfl, ha, ht, T, hs, q⟩ := h
  obtain ⟨u1, rfl, r1⟩ := vals1 r
  cases (show u1 = Value.ref a from r1)
  have z := exq_at I.hok ha
  obtain ⟨_, its, rv, o, ho, hc, n, hdt⟩ := (show ObjOk X.prog X.w H s.heap t (.tup [.str m]) from I.hok t _ ht)
  cases rv with
  | cons r2 r3 =>
    cases r3
    obtain ⟨tk, rfl⟩ := r2
    exact PySem.P.str_of_C_one (C := C) (by omega) ⟨I.kIn, _, _, z, rfl, rfl, rfl⟩ ⟨o, n, ho, hc, hdt⟩ hs T.ex ⟨.str m, H, I, ⟨_, rfl⟩, q⟩
/-- e.f -/
def tXfld (K : PySem.W.Frag) (f : Str) (te : TE) : TE := fun σ H Q => te σ H fun x H1 => ∃ (a C dx t : Addr) (fs : List (Str × V)) (v : V), x = .ref a ∧ H1 a = some (exq a C (some dx) t) ∧ H1 dx = some (exd dx fs) ∧
  ExK K C ∧ PySem.W.findIn K (.ref C) f = some none ∧ fs.lookup f = some v ∧ Q v H1
theorem pe_xfld {e : Expr} {te : TE} {pos : Pos} {f : Str} (he : PE X e te) (hb : attributeBase e f X.env (eval e X.env) = eval e X.env := by rfl) : PE X (.Attribute e f pos) (tXfld X.K f te) := by
  refine ⟨fun pins s σ H Q I h => ?_⟩
  refine attr_of hb (thn (he.run pins s σ H _ I h) ?_)
  rintro u s1 ⟨x, H1, I1, rx, a, C, dx, t, fs, v, rfl, ha, hx, T, hno, l, q⟩
  cases (show u = Value.ref a from rx)
  have z := exq_at I1.hok ha
  obtain ⟨mA, hns, hr⟩ := exd_at I1.hok hx
  obtain ⟨od, ho, hl⟩ := lookIn_ns hns
  obtain ⟨u, hu, ru⟩ := RelO.some_of (v := v) (o := mA f) (by rw [← l]; exact hr f)
  have J : PySem.W.InstAt s1.heap a (exr C (some dx) t) C (some od) := ⟨z, rfl, rfl, ho⟩
  exact PySem.PX.exc_get I1.kIn J T.ga T.gg T.ex (PySem.W.findObj_own T.hd hno rfl (by rw [hl, hu])) (handed_of ru) ⟨v, H1, I1.tok _, ru, q⟩
end

/-! ### self.f = e on an exception that has no dict yet -/
section
variable {X : Cx} {o e : Expr} {to te : TE} {f : Str} {p' pos : Pos}
def tXst (K : PySem.W.Frag) (bmB : List Value) (f : Str) (to te : TE) : TS := fun D σ H => te σ H fun y H1 => to σ H1 fun x H2 => ∃ a C t : Addr, x = .ref a ∧ ExK K C ∧ PySem.W.excOver K C bmB = true ∧ PySem.W.takerIn K C f = some none ∧
  H2 a = some (exq a C none t) ∧ ∀ dx, H2 dx = none → dx ≠ a → D.nx σ (upd (upd H2 dx (exd dx [(f, y)])) a (exq a C (some dx) t))
theorem ps_xst {B : String} {bmB : List Value} (SF : StoreFacts B bmB "object.__setattr__" "object") (ho : PE X o to) (he : PE X e te)
    (hs : swapsWith e (some (.Attribute o f p')) pos.line X.env = pure false := by rfl) : PS X (.Assign [.Attribute o f p'] e pos) (tXst X.K bmB f to te) := by
  refine ⟨fun pins s σ H D I h => ?_⟩
  refine plainObj_wpAny_Assign_Attribute (thn (he.run pins s σ H _ I h) fun u s1 h1 => ?_) hs
  obtain ⟨y, H1, I1, r1, q1⟩ := h1
  refine thn (ho.run pins s1 σ H1 _ I1 q1) fun v s2 h2 => ?_
  obtain ⟨x, H2, I2, r2, a, C, t, rfl, T, hov, htk, ea, q⟩ := h2
  cases (show v = Value.ref a from r2)
  have z := exq_at I2.hok ea
  obtain ⟨cd, hcd, hh⟩ := PySem.W.any_some T.hd
  have Lc : PySem.W.Looks (model X.prog X.w) s2.heap (classData C) cd := PySem.W.looks_clsIn I2.kIn hcd
  have hn : H2 s2.heap.objs.size = none := I2.hok.fresh (Nat.le_refl _)
  have hlt : a < s2.heap.objs.size := Heap.lt_size z
  have hne : s2.heap.objs.size ≠ a := Nat.ne_of_gt hlt
  have q := q _ hn hne
  obtain ⟨hp, g, d, tk, os⟩ := s2
  dsimp only at z hn hlt hne q Lc
  refine PySem.W.set_plain (od := none) I2.kIn ⟨z, rfl, rfl, trivial⟩ T.sa ?_
  refine PySem.W.osa_openX (s := ⟨hp, g, d, tk + 1, os⟩) (od := none) (r := none) SF I2.kIn ⟨z, rfl, rfl, trivial⟩ hov htk fun b => ?_
  refine wpAny_bind (wpAny_pure (wpAny_bind (PySem.W.instanceDict_exc (s := ⟨hp, g, d, tk + 1, os⟩) z Lc hh ?_)))
  show wpAny _ _ (Builtin.ObjectAttr.storeInDict hp.objs.size (.str f tk) f u) _ _ _
  have hget : ((hp.push (PySem.W.dictOf [] 0)).update a fun o => { o with dict := some hp.objs.size }).get? hp.objs.size = some (PySem.W.dictOf [] 0) := by
    rw [Heap.get?_update_other _ _ (Ne.symm hne)]
    exact Heap.get?_push_size hp rfl
  have hga : ((hp.push (PySem.W.dictOf [] 0)).update a fun o => { o with dict := some hp.objs.size }).get? a = some (exr C (some hp.objs.size) t) :=
    Heap.get?_update_self _ (Heap.get?_push_of_some _ z) rfl
  refine PySem.PX.store_in_new ⟨_, #[], 0, hget, rfl, fun e he => absurd he (by simp), fun _ => rfl⟩ fun h' tk' hns sb => ?_
  have keep : ∀ c v, c ≠ a → hp.get? c = some v → h'.get? c = some v := fun c v hc y => by
    have hcs : c ≠ hp.objs.size := Nat.ne_of_lt (Heap.lt_size y)
    rw [sb.2 c hcs, Heap.get?_update_other _ _ (Ne.symm hc)]
    exact Heap.get?_push_of_some _ y
  have ga' : h'.get? a = some (exr C (some hp.objs.size) t) := (sb.2 a (Ne.symm hne)).trans hga
  have na : ∀ {c : Addr}, H2 c = none → c ≠ a := fun {c} n y => by rw [y, ea] at n; cases n
  have nd : ∀ {c : Addr} {v : Obj}, hp.get? c = some v → c ≠ hp.objs.size := fun y => Nat.ne_of_lt (Heap.lt_size y)
  show SP X pins D .next ⟨h', g, d, tk', os⟩
  refine ⟨σ, _, I2.un (t' := tk') ⟨fun c v y n _ _ => keep c v (na n) y, fun c v y n _ _ => ⟨v.slots, keep c v (na n) y⟩, fun c v y n _ => ?_, fun c v y _ => ?_,
    fun c xs y => ?_, fun c ob xs y => ?_, fun c qs y => ⟨#[], ?_⟩⟩ fun c v y => ?_, q⟩
  · rw [upd_ne (na n), upd_ne (nd y)]; exact n
  · by_cases hc : c = a
    · exact ⟨_, by rw [hc]; exact ga'⟩
    · exact ⟨v, keep c v hc y⟩
  · rw [upd_ne (at_ne ea y exq_tup), upd_ne (ne_of_none y hn)]; exact y
  · rw [upd_ne (at_ne ea y exq_frz), upd_ne (ne_of_none y hn)]; exact y
  · rw [upd_ne (at_ne ea y exq_tbl), upd_ne (ne_of_none y hn), y]; simp
  · by_cases hc : c = a
    · subst hc; rw [upd_same] at y; cases y; exact exq_ok ga'
    · rw [upd_ne hc] at y
      by_cases hd : c = hp.objs.size
      · subst hd; rw [upd_same] at y; cases y
        exact exd_ok hns (relO_put (fs := []) r1 fun g => True.intro)
      · rw [upd_ne hd] at y
        refine (I2.hok c v y).stay (fun b v' hb y' => keep b v' ?_ y') (fun b y' => ?_) fun b xs y' => ?_
        · rcases hb with hb | hb
          · rw [hb]; exact hc
          · exact at_ne ea hb exq_own
        · rw [upd_ne (at_ne ea y' exq_own), upd_ne (ne_of_none y' hn)]; exact y'
        · rw [upd_ne (at_ne ea y' exq_tup), upd_ne (ne_of_none y' hn)]; exact y'
end
end DW
namespace DW
open PySem PySem.Spec PyProof.Rows L2

/-! ### X(e), X with an __init__ of its own, over any built-in base -/
/-- the class object at C: its __new__ is that of Bn, its built-in base B -/
def exnB (K : PySem.W.Frag) (C : Addr) (newId : String) (Bn B : String) : Bool := match K.lookup C with
  | some ⟨.type "type", _, .cls cd, sl⟩ => (match cd.mro, sl.toList with
    | .ref C' :: bm, [_, _, _, _, some (.builtin n), _] => C' == C && (n == newId && (!cd.hasDel && (bm.contains (.type Bn) && (bm.contains (.type B) &&
        (!bm.contains (.type "AttributeError") && !bm.contains (.type "NameError"))))))
    | _, _ => false)
  | _ => false
structure Bm (bm : List Value) (Bn B : String) : Prop where
  n : bm.contains (.type Bn) = true
  b : bm.contains (.type B) = true
  a : bm.contains (.type "AttributeError") = false
  m : bm.contains (.type "NameError") = false
theorem exn_of {K : PySem.W.Frag} {h : Heap} {C : Addr} {newId Bn B : String} (X : K.In h) (q : exnB K C newId Bn B = true) :
    ∃ nm N qn bs bm hdct sn sub ab col dd k0 k1 k2 k3 k5, h.get? C = some (excClassObj nm qn C N bs bm hdct sn sub ab col dd k0 k1 k2 k3 k5 newId) ∧ Bm bm Bn B := by
  unfold exnB at q
  split at q
  · rename_i dd cd sl ho
    split at q
    · rename_i C' bm k0 k1 k2 k3 n k5 hm hs
      simp only [Bool.and_eq_true, beq_iff_eq, Bool.not_eq_true'] at q
      obtain ⟨rfl, rfl, hdel, x1, x2, x3, x4⟩ := q
      obtain ⟨nm, bs, mro, ns, qn, hd, sn, sub, ab, col, del⟩ := cd
      dsimp only at hm hdel
      subst hm hdel
      obtain rfl : sl = #[k0, k1, k2, k3, some (.builtin n), k5] := by
        obtain ⟨l⟩ := sl
        simp only at hs
        rw [hs]
      exact ⟨nm, ns, qn, bs, bm, hd, sn, sub, ab, col, dd, k0, k1, k2, k3, k5, X _ _ ho, x1, x2, x3, x4⟩
    · cases q
  · cases q
/-- what is known of a built-in's __init__ -/
structure IniF (B initId : String) : Prop where
  pl : plainId initId = true
  en : entryFor table initId = some Builtin.«BaseException.__init__»
  sp : splitId initId = some (B, "__init__")
  kd : builtinKind initId = some .slot
  rw' : Manifest.signature? initId = some ⟨.positional, "*", B, .self, [⟨"args", .varPos, false⟩]⟩
  ns : (B != "*") = true
theorem IniF.of {B newId initId : String} {bm : List Value} (F : ExcBaseFacts B newId initId bm) : IniF B initId := ⟨F.init.plain, F.initEntry, F.initSplit, F.initKind, F.initRow, F.noStar⟩
theorem ini_key : IniF "KeyError" "KeyError.__init__" :=
  ⟨PyProof.Rows.excClass_KeyError.init.plain, PyProof.Rows.excClass_KeyError.initEntry, PyProof.Rows.excClass_KeyError.initSplit, PyProof.Rows.excClass_KeyError.initKind, PyProof.Rows.excClass_KeyError.initSig, PyProof.Rows.excClass_KeyError.notStar⟩

section
variable {prog : Program} {w : World} {M : Model} {A : Around} {E : Value → Shared → Prop} {R : Result → Shared → Prop} {h : Heap} {g : Array GenState} {d : Drawn} {t : Nat} {os : OsState}
variable {nm q : Str} {C N : Addr} {bs bm bmN : List Value} {hdct : Bool} {sn : List Str} {sub : List Value} {ab : Bool} {col : Option Bool} {dd : Option Addr} {k0 k1 k2 k3 k5 : Option Value} {Bn B newId inN initId : String}
variable {rest : List Value} {fI : Addr}
theorem newU_check (F : ExcBaseFacts Bn newId inN bmN) (b : Bm bm Bn B) (hC : h.get? C = some (excClassObj nm q C N bs bm hdct sn sub ab col dd k0 k1 k2 k3 k5 newId))
    {Q : Unit → Shared → Prop} (k : Q () ⟨h, g, d, t, os⟩) : wpAny M A (checkBuiltinCall newId ⟨.ref C :: rest, []⟩) Q E ⟨h, g, d, t, os⟩ := by
  have c1 : (Value.ref C :: bm).contains (.type Bn) = true := by
    rw [List.contains_cons, b.n]
    exact Bool.or_true _
  have s1 := F.noStar
  simp only [checkBuiltinCall, F.newKind, F.newSplit, F.newRow]
  repeat (first
    | refine wpAny_loadPart_at hC ?_
    | (refine wpAny_isSubtype_exc hC ?_; rw [c1])
    | refine wpAny_staticBase_exc hC ?_
    | refine wpAny_madeBy_exc hC ?_
    | simp only [bne_self_eq_false, Bool.false_eq_true, if_false]
    | wp_step)
  exact k
theorem newU (F : ExcBaseFacts Bn newId inN bmN) (b : Bm bm Bn B) (hC : h.get? C = some (excClassObj nm q C N bs bm hdct sn sub ab col dd k0 k1 k2 k3 k5 newId)) (hz : rest.length ≤ sizeLine)
    (k : R (.ok (.ret (.ref (h.objs.size + 1)))) ⟨(h.push (PySem.W.excTup rest)).push (exr C none h.objs.size), g, d, t, os⟩) : codeAny (model prog w) A (.builtin newId ⟨.ref C :: rest, []⟩) R ⟨h, g, d, t, os⟩ := by
  have e1 := F.ends
  have c1 : (Value.ref C :: bm).contains (.type Bn) = true := by
    rw [List.contains_cons, b.n]
    exact Bool.or_true _
  have c2 : (Value.ref C :: bm).contains (.type "AttributeError") = false := by
    rw [List.contains_cons, b.a]
    rfl
  have c3 : (Value.ref C :: bm).contains (.type "NameError") = false := by
    rw [List.contains_cons, b.m]
    rfl
  refine codeAny_builtinAt F.entry ?_
  unfold Builtin.«BaseException.__new__»
  refine PySem.wpAt_bind ?_
  show PySem.wpAt _ _ _ (stack >>= _) _ _ _
  refine PySem.wpAt_bind (PySem.wpAt_stack fun p below => PySem.wpAt_of_wpAny ?_)
  wp_walk
  refine PySem.wpAt_of_wpAny ?_
  rw [F.owner]
  repeat (first
    | with_reducible refine wpAny_madeHere_exc F.canon hC ?_
    | with_reducible refine wpAny_loadPart_at hC ?_
    | (with_reducible refine wpAny_isSubtype_exc hC ?_; first | rw [c1] | rw [c2] | rw [c3])
    | wp_step)
  show R _ _
  rw [Heap.size_push]
  exact k
theorem typeU (F : ExcBaseFacts Bn newId inN bmN) (b : Bm bm Bn B) (hC : h.get? C = some (excClassObj nm q C N bs bm hdct sn sub ab col dd k0 k1 k2 k3 k5 newId)) (hz : rest.length ≤ sizeLine)
    (hi : PySem.W.Looks (model prog w) h (typeLookup (.ref C) "__init__") (some (.ref fI))) (hb : ∀ self, PySem.W.Looks (model prog w) h (bindSpecial (.ref fI) self) (.ref fI, [self])) {Q : Fin → Shared → Prop}
    (k : codeAny (model prog w) A (.call (.ref fI) ⟨.ref (h.objs.size + 1) :: rest, []⟩)
      (fun r s' => match r with | .ok (.ret v) => v = .none ∧ Q (.done (.ret (.ref (h.objs.size + 1)))) s' | .ok _ => False | .error e => E e s')
      ⟨(h.push (PySem.W.excTup rest)).push (exr C none h.objs.size), g, d, t, os⟩) : wpAny (model prog w) A (Builtin.«type.__call__» ⟨.ref C :: rest, []⟩) Q E ⟨h, g, d, t, os⟩ := by
  repeat (first
    | with_reducible refine wpAny_loadPart_at hC ?_
    | with_reducible refine wpAny_madeBy_exc hC ?_
    | wp_step)
  refine codeAny_call_builtin_code (Code.quiet_builtin _ F.quiet) (newU_check F b hC (newU F b hC hz ?_))
  show wpAny _ _ _ _ _ _
  have kp : ∀ c o, h.get? c = some o → ((h.push (PySem.W.excTup rest)).push (exr C none h.objs.size)).get? c = some o := fun c o e => Heap.get?_push_of_some _ (Heap.get?_push_of_some _ e)
  have gC := kp _ _ hC
  have gX : ((h.push (PySem.W.excTup rest)).push (exr C none h.objs.size)).get? (h.objs.size + 1) = some (exr C none h.objs.size) := by heap_get
  have cC : (Value.ref C :: bm).contains (.ref C) = true := by simp
  have i1 := hi.keeps kp
  have b1 := (hb (.ref (h.objs.size + 1))).keeps kp
  unfold isInstance
  repeat (first
    | with_reducible refine wpAny_loadPart_at gX ?_
    | (with_reducible refine wpAny_isSubtype_exc gC ?_; rw [cC])
    | wp_step)
  show wpAny _ _ (typeLookup (.ref C) _) _ _ _
  refine i1.at (wpAny_holding (wpAny_bind (b1.at ?_)))
  refine wpAny_bind (wpAny_call (codeAny_mono k fun r s' z => ?_))
  cases r with
  | error e => exact z
  | ok fl =>
    cases fl with
    | ret v =>
      obtain ⟨rfl, z⟩ := z
      first
        | exact wpAny_pure (wpAny_pure z)
        | (wp_walk; exact z)
    | _ => exact False.elim z
theorem callU (F : ExcBaseFacts Bn newId inN bmN) (b : Bm bm Bn B) (hC : h.get? C = some (excClassObj nm q C N bs bm hdct sn sub ab col dd k0 k1 k2 k3 k5 newId)) (hz : rest.length ≤ sizeLine)
    (hi : PySem.W.Looks (model prog w) h (typeLookup (.ref C) "__init__") (some (.ref fI))) (hb : ∀ self, PySem.W.Looks (model prog w) h (bindSpecial (.ref fI) self) (.ref fI, [self]))
    (k : codeAny (model prog w) (A.under (.builtin "type.__call__" ⟨.ref C :: rest, []⟩)) (.call (.ref fI) ⟨.ref (h.objs.size + 1) :: rest, []⟩) (PySem.W.InitBack (h.objs.size + 1) R)
      ⟨(h.push (PySem.W.excTup rest)).push (exr C none h.objs.size), g, d, t, os⟩) : codeAny (model prog w) A (.call (.ref C) ⟨rest, []⟩) R ⟨h, g, d, t, os⟩ := by
  have f1 := tc_lookup
  have f2 := tc_bind (.ref C)
  have ty : (⟨h, g, d, t, os⟩ : Shared).TypeIs (.ref C) "type" := ⟨_, hC, rfl⟩
  refine codeAny_of_tree ?_
  show wpAny _ _ (callAny (.ref C) _) _ _ _
  repeat (any_goals (first
    | assumption
    | with_reducible refine wpAny_loadPart_at hC ?_
    | wp_step))
  refine ⟨rfl, codeAny_call_builtin_at (Code.quiet_builtin _ (by decide +kernel)) entry_typeCall (wpAny_check_type_call_sub hC (typeU F b hC hz hi hb ?_))⟩
  refine codeAny_mono k fun r s' z => ?_
  rcases r with e | (v | _ | _ | _) <;> exact z
/-- B.__init__(e, ..) -/
theorem initU {a t0 : Addr} (F : IniF B initId) (b : Bm bm Bn B) (hC : h.get? C = some (excClassObj nm q C N bs bm hdct sn sub ab col dd k0 k1 k2 k3 k5 newId)) (ha : h.get? a = some (exr C none t0)) (hz : rest.length ≤ sizeLine)
    (k : ∀ h' t1, (∀ c o, c ≠ a → h.get? c = some o → h'.get? c = some o) → h'.get? a = some (exr C none t1) → R (.ok (.ret .none)) ⟨h', g, d, t, os⟩) :
    codeAny (model prog w) A (.call (.builtin initId) ⟨.ref a :: rest, []⟩) R ⟨h, g, d, t, os⟩ := by
  have c1 : (Value.ref C :: bm).contains (.type B) = true := by
    rw [List.contains_cons, b.b]
    exact Bool.or_true _
  have s1 := F.ns
  refine codeAny_call_builtin F.pl F.en ?_
  simp only [checkBuiltinCall, F.kd, F.sp, F.rw']
  repeat (first
    | (with_reducible refine wpAny_loadPart_at ha ?_; dsimp only)
    | with_reducible refine wpAny_loadPart_at hC ?_
    | (with_reducible refine wpAny_isSubtype_exc hC ?_; rw [c1])
    | wp_step)
  refine wpAny_onRaise ?_
  have ck : ∀ (x y : String) (n : Nat), Bind.check ⟨.positional, "*", B, .self, [⟨"args", .varPos, false⟩]⟩ x y n (List.map (fun z => z.fst) ({ pos := Value.ref a :: rest } : Args).kw) = pure () :=
    fun x y n => check_star_args _ _ _ _ _ _
  rw [ck]
  refine wpAny_pure (PySem.W.exc_init_tree (cls := .ref C) (t0 := t0) (dv := none) (c2 := .none) (c3 := .none) (b4 := .bool false) ha hz fun h' kp ea _ => ?_)
  exact k h' _ kp ea
end

section
variable {X : Cx} {k : Nat} {C fI : Addr} {fd : FuncData} {ps : List Str} {sp : Sp} {Bn B newId inN initId : String} {bmN : List Value} {x : Str} {e : Expr} {es : List Expr} {te : TE} {ta : TA} {p p1 p2 pos : Pos}
def tExI (C : Addr) (sp : Sp) (te : TE) : TE := fun σ H Q => te σ H fun v H1 => ∀ a t, H1 a = none → H1 t = none → t ≠ a →
  sp [.ref a, v] (upd (upd H1 t (.tup [v])) a (exq a C none t)) (fun u H2 => u = .non ∧ Q (.ref a) H2) E0
theorem pe_exI (F : ExcBaseFacts Bn newId inN bmN) (q : exnB X.K C newId Bn B = true) (hi : PySem.W.findIn X.K (.ref C) "__init__" = some (some (.ref fI))) (tf : PySem.W.typeIn X.K (.ref fI) = some (.type "function"))
    (kC : PySem.W.keepIn X.K (.ref C) = true) (gC : X.mg x = some (.ref C)) (hg : Gl X x) (G : FnG X.prog X.w X.K X.mg X.base k fI fd ps sp) (hr : Room (k + 1) X.A) (hgu : X.A.guards = some []) (hb : Binds X.K fd ps []) (he : PE X e te)
    (hs : starEach [e] X.env = (false, eval e X.env) :: starEach [] X.env := by rfl) (hdb : (x == ("__debug__" : Str)) = false := by decide) :
    PE X (.Call (.Name x p) [e] [] pos) (tExI C sp te) := by
  refine ⟨fun pins s σ H Q I h => ?_⟩
  refine wpAny_Call_Name_kw (ld_glob I hg gC ?_ hdb)
  refine PySem.W.callWith_K (h₀ := X.base) I.ok.mod.kin kC ?_ hs (by rfl)
  rw [hs]
  show wpAny _ _ (spliced ((false, eval e X.env) :: backTo pos (starEach [] X.env))) _ _ s
  refine Calls.spliced_cons (thn (he.run pins s σ H _ I h) ?_)
  rintro u s1 ⟨v, H1, I1, r1, q1⟩
  refine Calls.spliced_nil ⟨I1.kIn, ?_⟩
  show wpAny _ _ (call (.ref C) [u]) _ _ _
  obtain ⟨nm, N, qn, bs, bm, hdct, sn, sub, ab, col, dd, k0, k1, k2, k3, k5, hC, hT⟩ := exn_of I1.kIn q
  have hi' : PySem.W.Looks (model X.prog X.w) s1.heap (typeLookup (.ref C) "__init__") (some (.ref fI)) := PySem.W.looks_findIn I1.kIn hi
  have hbi := fun self => PySem.W.bind_fn (M := model X.prog X.w) I1.kIn self tf
  obtain ⟨hp, g, d, tk, os⟩ := s1
  have n1 : H1 (hp.objs.size + 1) = none := I1.hok.fresh (Nat.le_succ _)
  have n2 : H1 hp.objs.size = none := I1.hok.fresh (Nat.le_refl _)
  have ne : hp.objs.size ≠ hp.objs.size + 1 := Nat.ne_of_lt (Nat.lt_succ_self _)
  have kp : ∀ b o, hp.get? b = some o → ((hp.push (PySem.W.excTup [u])).push (exr C none hp.objs.size)).get? b = some o := fun b o z => Heap.get?_push_of_some _ (Heap.get?_push_of_some _ z)
  have gA : ((hp.push (PySem.W.excTup [u])).push (exr C none hp.objs.size)).get? (hp.objs.size + 1) = some (exr C none hp.objs.size) := by heap_get
  have gT : ((hp.push (PySem.W.excTup [u])).push (exr C none hp.objs.size)).get? hp.objs.size = some (PySem.W.excTup [u]) := Heap.get?_push_of_some _ (Heap.get?_push_size hp rfl)
  have one : [u].length ≤ sizeLine := by show 1 ≤ sizeLine; rw [sizeLine_eq]; omega
  have I2 := laid2 (tk := tk) (o := exq (hp.objs.size + 1) C none hp.objs.size) (u := .tup [v]) I1 kp (Nat.le_succ _) (Nat.le_refl _) ne
    ⟨by show 1 ≤ sizeLine; rw [sizeLine_eq]; omega, [u], .cons r1 .nil, ⟨_, gT, rfl, _, rfl⟩⟩ (exq_ok gA)
  have hq := q1 _ _ n1 n2 ne
  have hl : (Value.ref (hp.objs.size + 1) :: [u]).length = ps.length := by
    have z := G.len _ _ _ hq
    exact z
  have b := hb _ (Value.ref (hp.objs.size + 1) :: [u]) I2.kIn (by rw [List.append_nil]; exact hl)
  rw [List.append_nil] at b
  have gu : (X.A.under (.builtin "type.__call__" ⟨.ref C :: [u], []⟩)).guards = some [] := by
    first
      | exact hgu
      | (simp [Around.under, Code.guards, Code.isGuard, pushGuards, hgu]; done)
      | (simp +decide [Around.under, Code.guards, Code.isGuard, pushGuards, hgu, guardIds]; done)
  refine wpAny_call (callU F hT hC one hi' hbi (codeAny_mono (G.run _ X.stack _ _ ⟨Value.ref (hp.objs.size + 1) :: [u], []⟩ (Value.ref (hp.objs.size + 1) :: [u]) _ _ (hr.make C [u] []) gu (I2.env0.make C [u] []) b (show Vals (V.ref (hp.objs.size + 1) :: [v]) (Value.ref (hp.objs.size + 1) :: [u]) from .cons rfl (.cons r1 .nil)) hq) fun r s' hq' => ?_))
  rcases r with er | fl
  · exact hq'.elim
  · cases fl with
    | ret u2 =>
      obtain ⟨v3, H3, I3, rv, ev, q3⟩ := I2.after hq'
      subst ev
      exact ⟨rv, ⟨V.ref (hp.objs.size + 1), H3, I3, rfl, q3⟩⟩
    | _ => exact False.elim hq'

/-- B.__init__(self, ..), B built-in or a class of the program -/
def tBIn (K : PySem.W.Frag) (newId Bn B : String) (ta : TA) : TE := fun σ H Q => ta σ H fun vs H1 => ∃ (a C t : Addr) (ws : List V), vs = .ref a :: ws ∧ ws.length ≤ 1000 ∧ exnB K C newId Bn B = true ∧
  H1 a = some (exq a C none t) ∧ ∀ t', Q .non (upd H1 a (exq a C none t'))
theorem bin_run {pins : List (Addr × Obj)} {σ : L2.St} {H1 : Hp} {s1 : Shared} {Q : VK} {a t : Addr} {us : List Value} (F : IniF B initId) (q : exnB X.K C newId Bn B = true) (I1 : Inv X pins σ H1 s1) (ea : H1 a = some (exq a C none t)) (hz : us.length ≤ sizeLine)
    (h : ∀ t', Q .non (upd H1 a (exq a C none t'))) : wpAny (model X.prog X.w) X.A (call (.builtin initId) (.ref a :: us)) (EP X pins σ Q) X.xe s1 := by
  obtain ⟨nm, N, qn, bs, bm, hdct, sn, sub, ab, col, dd, k0, k1, k2, k3, k5, hC, hT⟩ := exn_of I1.kIn q
  have z := exq_at I1.hok ea
  obtain ⟨hp, g, d, tk, os⟩ := s1
  refine wpAny_call (initU F hT hC z hz fun h' t1 kp e' => ?_)
  exact ⟨.non, _, I1.write (t' := tk) (x := a) (e := a) (o := exq a C none t1) (by rw [ea]; exact True.intro) (.inl rfl) kp ⟨_, e'⟩ (exq_ok e'), rfl, h t1⟩
theorem pe_binB {pl : Sem Bool} {bn : Str} (F : IniF B initId) (hg : Gl X bn) (hm : X.mg bn = none) (hv : bootBuiltins bn = some (.type B)) (hnn : bn ≠ "__name__") (hty : typeOf (.type B) = pure (.type "type")) (hst : Manifest.isStub B = false)
    (vV : PySem.W.findCls X.K (.type B) (.type "type") "__init__" = some (.val (.builtin initId))) (hh : PySem.W.handedIn (.builtin initId) = true) (ha : PA X (e :: es) ta) (hdb : (bn == ("__debug__" : Str)) = false := by decide)
    (hc : eval (.Call (.Attribute (.Name bn p1) "__init__" p2) (e :: es) [] pos) X.env = (do
      let v ← eval (.Name bn p1) X.env
      standAt p2.atName
      let (f, first) ← holding [v] (getMethod v "__init__" pl)
      callWith pos f first (backTo pos (starEach (e :: es) X.env)) (backToKw pos (keywordEach [] X.env))) := by rfl)
    (he : starEach (e :: es) X.env = (false, eval e X.env) :: starEach es X.env := by rfl) (hpl : (backTo pos (starEach es X.env)).any (·.1) = false := by rfl) :
    PE X (.Call (.Attribute (.Name bn p1) "__init__" p2) (e :: es) [] pos) (tBIn X.K newId Bn B ta) := by
  refine ⟨fun pins s σ H Q I h => ?_⟩
  refine PySem.W.methodCall_KW (ld_blt I hg hm hv ?_ hnn hdb) hc
  obtain ⟨m, fr⟩ := I.fr
  refine PySem.W.method_type fr I.ok.mod.kin hty hst vV hh ?_
  show wpAny _ _ (callWith pos (Value.builtin initId) [] (backTo pos (starEach (e :: es) X.env)) []) _ _ _
  refine PyProof.Rows.callWith_method1 (thn (ha.run pos pins _ σ H _ (I.tok _) h) ?_) he hpl
  rintro us s1 ⟨vs, H1, I1, r1, a, C, t, ws, rfl, hl, q, ea, hq⟩
  cases r1 with
  | @cons _ u0 _ ur ra rw' =>
    cases (show u0 = Value.ref a from ra)
    exact bin_run F q I1 ea (by rw [← Paired.length rw', sizeLine_eq]; omega) hq
theorem pe_binC {pl : Sem Bool} {cn : Str} {D : Addr} (F : IniF B initId) (hg : Gl X cn) (hm : X.mg cn = some (.ref D)) (sg : PySem.W.specialIn X.K (.ref D) "__getattribute__" = some (some (.builtin "type.__getattribute__")))
    (rd : PySem.W.readsIn X.K D (.type "type") = true) (vV : PySem.W.findCls X.K (.ref D) (.type "type") "__init__" = some (.val (.builtin initId))) (hh : PySem.W.handedIn (.builtin initId) = true) (ha : PA X (e :: es) ta) (hdb : (cn == ("__debug__" : Str)) = false := by decide)
    (hc : eval (.Call (.Attribute (.Name cn p1) "__init__" p2) (e :: es) [] pos) X.env = (do
      let v ← eval (.Name cn p1) X.env
      standAt p2.atName
      let (f, first) ← holding [v] (getMethod v "__init__" pl)
      callWith pos f first (backTo pos (starEach (e :: es) X.env)) (backToKw pos (keywordEach [] X.env))) := by rfl)
    (he : starEach (e :: es) X.env = (false, eval e X.env) :: starEach es X.env := by rfl) (hpl : (backTo pos (starEach es X.env)).any (·.1) = false := by rfl) :
    PE X (.Call (.Attribute (.Name cn p1) "__init__" p2) (e :: es) [] pos) (tBIn X.K newId Bn B ta) := by
  refine ⟨fun pins s σ H Q I h => ?_⟩
  refine PySem.W.methodCall_KW (ld_glob I hg hm ?_ hdb) hc
  refine PySem.W.method_cls I.kIn sg (PySem.W.cls_value I.kIn rd vV hh ?_)
  show wpAny _ _ (callWith pos (Value.builtin initId) [] (backTo pos (starEach (e :: es) X.env)) []) _ _ _
  refine PyProof.Rows.callWith_method1 (thn (ha.run pos pins _ σ H _ (I.tok _) h) ?_) he hpl
  rintro us s1 ⟨vs, H1, I1, r1, a, C, t, ws, rfl, hl, q, ea, hq⟩
  cases r1 with
  | @cons _ u0 _ ur ra rw' =>
    cases (show u0 = Value.ref a from ra)
    exact bin_run F q I1 ea (by rw [← Paired.length rw', sizeLine_eq]; omega) hq
end
end DW
namespace DW
open PySem PySem.Spec PyProof.Rows L2
/-! ### the law as it is called behind the top, where its promise asks that no repr is under way -/
section
variable {P : Program} {w : World} {K : PySem.W.Frag} {mg mb : Str → Option Value} {k : Nat} {fa a : Addr} {fd : FuncData} {x : Str} {sp : Sp} {s : Shared} {vs : List Value} {ns : List Int}
abbrev scrO (vs : List Value) : Obj := { cls := .type "list", data := .seq vs.toArray }
/-- the script alone is tracked, and only if the module has not laid it -/
noncomputable def scrH (K : PySem.W.Frag) (a : Addr) (vs : List Value) (ns : List Int) : Hp :=
  fun b => if b = a ∧ K.lookup a = none then some (.frz (scrO vs) (.lst (ns.map V.int))) else none
theorem scr_in {b : Addr} {u : HO} (e : scrH K a vs ns b = some u) : b = a ∧ K.lookup a = none ∧ u = .frz (scrO vs) (.lst (ns.map V.int)) := by
  unfold scrH at e
  by_cases z : b = a ∧ K.lookup a = none
  · rw [if_pos z] at e
    exact ⟨z.1, z.2, (Option.some.inj e).symm⟩
  · rw [if_neg z] at e
    cases e
theorem scr_out {b : Addr} (n : ¬ (b = a ∧ K.lookup a = none)) : scrH K a vs ns b = none := if_neg n
theorem scr_vals : ∀ {vs : List Value} {ns : List Int}, IntsAre vs ns → Vals (ns.map V.int) vs
  | _, _, .nil => Paired.nil
  | _, _, .cons n t r => Paired.cons ⟨t, rfl⟩ (scr_vals r)
theorem scr_seq (KX : K.In s.heap) (ha : s.heap.get? a = some (scrO vs)) (hi : IntsAre vs ns) (hl : ns.length ≤ sizeLine) : SqL K (scrH K a vs ns) a (ns.map V.int) := by
  cases q : K.lookup a with
  | none => exact .inl (.inr ⟨scrO vs, if_pos ⟨rfl, q⟩⟩)
  | some o =>
    have same : o = scrO vs := Option.some.inj ((KX a o q).symm.trans ha)
    rw [same] at q
    have len := hi.length
    exact .inr ⟨_, vs.toArray, _, q, rfl, rfl, rfl, by rw [List.size_toArray, len]; exact hl, by simpa using scr_vals hi⟩
theorem scr_ok (ha : s.heap.get? a = some (scrO vs)) (hi : IntsAre vs ns) (hl : ns.length ≤ sizeLine) : HOk P w (scrH K a vs ns) s.heap := fun b u e => by
  obtain ⟨rfl, _, rfl⟩ := scr_in e
  exact ⟨ha, by rw [List.length_map]; exact hl, vs, _, scr_vals hi, ha⟩
theorem lawG (KX : K.In s.heap) (hm : s.heap.Ns mainGlobals mg) (hb : s.heap.Ns builtinsNs mb) (hq : ∀ y : Str, y ≠ "__name__" → mb y = bootBuiltins y) (nl : s.heap.NoLimit) (hg : s.gens = #[]) (ha : s.heap.get? a = some (scrO vs)) (hi : IntsAre vs ns)
    (hl : ns.length ≤ sizeLine) (hr : Room k callerA) (F : ∀ base : Heap, K.In base → FnG P w K mg base k fa fd [x] sp) (hbind : ∀ (t : Shared) (u : Value), BindsTo t fd ⟨[u], []⟩ [(x, u)])
    (hsp : ∀ H : Hp, SqL K H a (ns.map V.int) → sp [.ref a] H (fun v _ => v = .bl true) E0) :
    codeAny (model P w) callerA (.call (.ref fa) ⟨[.ref a], []⟩) (fun r s' => r = .ok (.ret (.bool true)) ∧ OldK s.heap s'.heap ∧ s'.os = s.os ∧ AllBare s'.gens) s := by
  have stay : ∀ {b : Addr} {o : Obj}, s.heap.get? b = some o → scrH K a vs ns b = none → (hidT s.heap (scrH K a vs ns)).get? b = some o := fun e n => hidT_get e n
  have notA : ∀ {b : Addr} {o : Obj}, s.heap.get? b = some o → o ≠ scrO vs → scrH K a vs ns b = none := fun e n => scr_out fun z => by
    rw [z.1, ha] at e
    exact n (Option.some.inj e).symm
  have nsS : ∀ {b : Addr} {m : Str → Option Value}, s.heap.Ns b m → (hidT s.heap (scrH K a vs ns)).Ns b m := fun {b m} ⟨o, es, ep, e, d, r⟩ =>
    ⟨o, es, ep, stay e (notA e fun z => by rw [z] at d; have d' : Data.seq vs.toArray _ = Data.dict es ep := d; cases d'), d, r⟩
  have KB : K.In (hidT s.heap (scrH K a vs ns)) := fun b o e => stay (KX b o e) (scr_out fun z => by rw [z.1, z.2] at e; cases e)
  have md : Mod K mg (hidT s.heap (scrH K a vs ns)) := ⟨KB, nsS hm, ⟨mb, nsS hb, hq⟩, let ⟨c, h1, h2⟩ := nl; ⟨c, nsS h1, h2⟩⟩
  have ev : Env0 P w K mg (hidT s.heap (scrH K a vs ns)) callerA [] s (scrH K a vs ns) :=
    ⟨rfl, md, fun b o e => of_hidT e, Nat.le_of_eq (hidT_size _ _), trivial, fun b z => absurd (show b ∈ ([] : List Addr) from z) (by simp), scr_ok ha hi hl, .of_eq hg⟩
  have go := (F _ KB).run callerA [] s (scrH K a vs ns) ⟨[.ref a], []⟩ [.ref a] [.ref a] _ hr rfl ev (hbind s (.ref a)) (Paired.cons rfl Paired.nil) (hsp _ (scr_seq KX ha hi hl))
  refine codeAny_mono go fun r s' h => ?_
  match r, h with
  | .ok (.ret u), ⟨v, H', os, bare, un, ok', rv, q⟩ =>
    cases (show v = V.bl true from q)
    cases (show u = Value.bool true from rv)
    refine ⟨rfl, OldK.of_keep fun b o e => ?_, os, bare⟩
    cases z : scrH K a vs ns b with
    | none => exact un.keep b o e z (by intro y; exact absurd (show b ∈ ([] : List Addr) from y) (by simp)) (by simp)
    | some u =>
      obtain ⟨rfl, _, rfl⟩ := scr_in z
      have later := un.frzs b (scrO vs) _ z
      obtain ⟨e1, _⟩ := ok' b _ later
      rw [ha] at e
      cases e
      exact e1
end
/-- what k_head leaves, from such a promise -/
theorem walkG {l : PySem.W.OpenLaw} {n k : Nat} {q : Program} {loose : List Str} {XP : (Str → Option Value) → Heap → Prop} {YP : World → Heap → Prop} {d : DefRec} {K : Params → PySem.W.Frag} {sp : PySem.W.Frag → Sp} {x : Str} (hn : l.most = some n) (hz : n ≤ sizeLine)
    (hd : d.params.defaults = []) (hr : Room k callerA) (hY : ∀ (w : World) (h : Heap), YP w h → (K w.params).In h)
    (F : ∀ (w : World) (mg : Str → Option Value) (fa : Addr) (h : Heap), (K w.params).In h → h.Ns mainGlobals mg → mg d.name = some (.ref fa) →
      ∃ fd : FuncData, (∀ (t : Shared) (u : Value), BindsTo t fd ⟨[u], []⟩ [(x, u)]) ∧ ∀ base : Heap, (K w.params).In base → FnG l.prog w (K w.params) mg base k fa fd [x] (sp (K w.params)))
    (hsp : ∀ (K : PySem.W.Frag) (H : Hp) (a : Addr) (ns : List Int), ns.length ≤ n → SqL K H a (ns.map V.int) → sp K [.ref a] H (fun v _ => v = .bl true) E0) :
    PySem.W.WalkO q loose XP YP l.row.toRowW d [] (fun f vs => PySem.call f vs) := by
  refine Att.attach_call hn hd fun w _ s mg mb fa _ _ _ _ a vs ns G Y _ _ _ hmg ho hi hl hg => ?_
  have KX := hY w _ Y
  obtain ⟨fd, hbind, hF⟩ := F w mg fa _ KX G.T.g hmg
  exact lawG KX G.T.g G.T.b G.T.builtins G.T.nolimit hg ho hi (Nat.le_trans hl hz) hr hF hbind fun H hS => hsp _ H a ns hl hS
end DW
namespace DW
open PySem PySem.Spec PyProof.Rows L2
theorem same_new {H : Hp} {p : Addr} {o : HO} (h : H p = none) : Same H (upd H p o) := fun b u e => by
  rw [upd_ne (ne_of_none e h)]; exact e
theorem same_mut {H0 H : Hp} {p : Addr} {o : HO} (s : Same H0 H) (h : H0 p = none) : Same H0 (upd H p o) := fun b u e => by
  rw [upd_ne (ne_of_none e h)]; exact s b u e
/-- a ledger of tracked objects -/
def Has (H : Hp) (L : List (Addr × HO)) : Prop := ∀ p ∈ L, H p.1 = some p.2
theorem Has.get {H : Hp} {L : List (Addr × HO)} {a : Addr} {o : HO} (h : Has H L) (m : (a, o) ∈ L) : H a = some o := h _ m
theorem Has.nil {H : Hp} : Has H [] := fun _ z => nomatch z
theorem Has.put {H : Hp} {L : List (Addr × HO)} {a : Addr} {o : HO} (h : Has H L) (e : H a = some o) : Has H ((a, o) :: L) := fun p m => by
  rcases List.mem_cons.mp m with rfl | m
  · exact e
  · exact h p m
theorem Has.of {H H' : Hp} {L : List (Addr × HO)} (h : Has H L) (s : Same H H') : Has H' L := fun p m => s _ _ (h p m)
theorem Has.new {H : Hp} {L : List (Addr × HO)} {a : Addr} {o : HO} (h : Has H L) (e : H a = none) : Has (upd H a o) ((a, o) :: L) := (h.of (same_new e)).put upd_same
theorem Has.mut {H : Hp} {L : List (Addr × HO)} {a : Addr} {o u : HO} (h : Has H L) (e : H a = some u) (ne : ∀ p ∈ L, p.2 ≠ u) : Has (upd H a o) L := fun p m => by
  have z := h p m
  rw [upd_ne fun q => ?_]
  · exact z
  · rw [q, e] at z
    exact ne p m (Option.some.inj z).symm
theorem pairedMono {α β : Type} {R R' : α → β → Prop} (f : ∀ x y, R x y → R' x y) : ∀ {xs : List α} {ys : List β}, Paired R xs ys → Paired R' xs ys
  | _, _, .nil => .nil
  | _, _, .cons r k => .cons (f _ _ r) (pairedMono f k)
theorem pairedSnoc {α β : Type} {R : α → β → Prop} : ∀ {xs : List α} {ys : List β} {x : α} {y : β}, Paired R xs ys → R x y → Paired R (xs ++ [x]) (ys ++ [y])
  | _, _, _, _, .nil, h => .cons h .nil
  | _, _, _, _, .cons r k, h => .cons r (pairedSnoc k h)
theorem pairedAt {α β : Type} {R : α → β → Prop} : ∀ {xs : List α} {ys : List β} {i : Nat} {x : α}, Paired R xs ys → xs[i]? = some x → ∃ y, ys[i]? = some y ∧ R x y
  | _, _, i, x, .nil, h => by simp at h
  | _, _, 0, x, .cons r k, h => by
    simp at h
    subst h
    exact ⟨_, rfl, r⟩
  | _, _, i + 1, x, .cons r k, h => by
    obtain ⟨y, e, q⟩ := pairedAt k (i := i) (x := x) (by simpa using h)
    exact ⟨y, by simpa using e, q⟩
theorem tyes {σ : L2.St} {H : Hp} {A B : Hp → Prop} (h : A H) : tYes σ H fun b H3 => if b = true then A H3 else B H3 := by
  show if true = true then A H else B H
  rw [if_pos rfl]
  exact h
theorem takeSucc {α : Type} {ds : List α} {i : Nat} {d : α} (h : ds[i]? = some d) : ds.take (i + 1) = ds.take i ++ [d] := by
  rw [List.take_add_one, h]
  rfl
section
variable {X : Cx}
theorem op_powW : OpR X (binaryOp .Pow) (rI (fun i j => 0 ≤ j ∧ (Builtin.Int.intBits i : Int) * j ≤ 2 ^ 27) fun i j => .int (i ^ j.toNat)) := by
  intro pins s σ H x y v u Q I rx ry h
  obtain ⟨i, j, rfl, rfl, hc, q⟩ := h
  obtain ⟨t, rfl⟩ := rx
  obtain ⟨t', rfl⟩ := ry
  exact PyProof.Rows.pow_int hc.1 hc.2 ⟨.int _, H, I.tok _, ⟨_, rfl⟩, q⟩
theorem op_mulS : OpR X (binaryOp .Mult) (fun x y H Q => ∃ (a : Str) (n : Int), x = .str a ∧ y = .int n ∧ MulOk a n ∧ Q (.str (Txt.mul a n)) H) := by
  intro pins s σ H x y v u Q I rx ry h
  obtain ⟨i, j, rfl, rfl, hc, q⟩ := h
  obtain ⟨t, rfl⟩ := rx
  obtain ⟨t', rfl⟩ := ry
  exact PySem.SB.mul hc fun t' k => ⟨.str _, H, I.tok _, ⟨_, rfl⟩, q⟩
end
end DW
namespace DW
open PySem PySem.Spec PyProof.Rows L2
/-! ### several except clauses, with names or without -/
abbrev Clause := Value × Option Nat × (Addr → Value → Option Addr → TS)
/-- behind a clause with a name, its slot is empty -/
def offAt (i : Nat) (D : Ends) : Ends := ⟨fun σ H => D.nx (σ.set i none) H, D.rt, fun σ H => D.bk (σ.set i none) H, fun σ H => D.ct (σ.set i none) H⟩
/-- n: how many slots there are -/
def wMix (K : PySem.W.Frag) (n : Nat) (Wout : WX) (D : Ends) : List Clause → WX
  | [] => Wout
  | (c, none, ts) :: r => fun cls d σ H => ∃ b, PySem.W.exmOne K cls c = some b ∧ (b = true → ∀ a, H a = none → ts a cls d D σ H) ∧ (b = false → wMix K n Wout D r cls d σ H)
  | (c, some i, ts) :: r => fun cls d σ H => ∃ b, PySem.W.exmOne K cls c = some b ∧ (b = true → ∀ a, H a = none → σ.length = n → ts a cls d (offAt i D) (σ.set i (some (.ref a))) H) ∧ (b = false → wMix K n Wout D r cls d σ H)
inductive Mix (X : Cx) : List ExceptHandler → List Clause → Prop
  | nil : Mix X [] []
  | bare {x : Str} {c : Value} {ts : Addr → Value → Option Addr → TS} {b0 : Stmt} {su : List Stmt} {p1 p2 : Pos} {hs : List ExceptHandler} {l : List Clause} (hc : Names X x c)
      (hsu : ∀ (a : Addr) (oe : Obj) (cls : Value) (d : Option Addr) (pn : List (Addr × Obj)), Zc cls d oe → (∃ vs, oe.data = .fields vs) → PSs (X.suite a ((a, oe) :: pn)) (b0 :: su) (ts a cls d)) (r : Mix X hs l) :
      Mix X (.ExceptHandler (some (.Name x p1)) none (b0 :: su) p2 :: hs) ((c, none, ts) :: l)
  | named {x n : Str} {i : Nat} {c : Value} {ts : Addr → Value → Option Addr → TS} {b0 : Stmt} {su : List Stmt} {p1 p2 : Pos} {hs : List ExceptHandler} {l : List Clause} (nd : X.N.Nodup) (hi : X.N[i]? = some n) (hl : X.env.kindOf n = some .local) (hc : Names X x c)
      (hsu : ∀ (a : Addr) (oe : Obj) (cls : Value) (d : Option Addr) (pn : List (Addr × Obj)), Zc cls d oe → (∃ vs, oe.data = .fields vs) → PSs (X.suite a ((a, oe) :: pn)) (b0 :: su) (ts a cls d)) (r : Mix X hs l) :
      Mix X (.ExceptHandler (some (.Name x p1)) (some n) (b0 :: su) p2 :: hs) ((c, some i, ts) :: l)
section
variable {X : Cx} {pins : List (Addr × Obj)} {D : Ends} {B : Heap} {sI s' : Shared} {a : Addr} {σ' : L2.St} {H' : Hp} {cls : Value} {d : Option Addr} {Wout : WX}
/-- the clauses looked through, one after another, for an exception that has landed -/
theorem mix_go (ok : X.Ok) (hst : X.stack = X.env :: X.outer) (hf : X.env.frame = some X.env.locals) (tk : Takes X Wout) (J : Inv X pins σ' H' sI) (nb : ∀ h3, HandSPX.FlyingZ B (X.env :: X.outer) a (Zc cls d) h3 → s'.heap.UpToSlots h3 → Inv X pins σ' H' { s' with heap := h3 })
    (na : H' a = none) (out : ∀ h4, s'.heap.UpToSlots h4 → HandSPX.HeldZ B (X.env :: X.outer) a (Zc cls d) X.env.locals h4 → Wout cls d σ' H' → XE X Wout (.ref a) { s' with heap := h4 }) :
    ∀ {hs : List ExceptHandler} {l : List Clause}, Mix X hs l → wMix X.K X.N.length Wout D l cls d σ' H' → ∀ h3, HandSPX.FlyingZ B (X.env :: X.outer) a (Zc cls d) h3 → s'.heap.UpToSlots h3 →
      wpAny (model X.prog X.w) X.A (handleBy (.ref a) X.env hs) (SP X pins D) X.xe { s' with heap := h3 } := by
  have look : ∀ h3, HandSPX.FlyingZ B (X.env :: X.outer) a (Zc cls d) h3 → s'.heap.UpToSlots h3 → ∃ oe vs, h3.get? a = some oe ∧ Zc cls d oe ∧ oe.data = .fields vs ∧ Inv (X.suite a ((a, oe) :: (X.pn ++ pins))) [] σ' H' { s' with heap := h3 } := fun h3 fl up => by
    obtain ⟨oe, vs, he, hz, hd⟩ := fl.there
    have nfr : a ∉ frs (X.env :: X.outer) := fun hm => by
      obtain ⟨_, o', e', hnf⟩ := fl.2.2.1.mem hm
      rw [he] at e'
      cases e'
      exact hnf _ hd
    refine ⟨oe, vs, he, hz, hd, (nb h3 fl up).suite he hd na (fun z => nfr (List.mem_filterMap.mpr ⟨X.env, List.mem_cons_self, by rw [hf, z]⟩)) fun hm => ?_⟩
    obtain ⟨e, m, q⟩ := List.mem_filterMap.mp hm
    exact nfr (List.mem_filterMap.mpr ⟨e, List.mem_cons_of_mem _ m, q⟩)
  -- the test of one clause
  have ask : ∀ {x : Str} {c : Value} {p1 : Pos} {b : Bool} {h3 : Heap} {Q : Value → Shared → Prop} {E : Value → Shared → Prop}, Names X x c → HandSPX.FlyingZ B (X.env :: X.outer) a (Zc cls d) h3 → s'.heap.UpToSlots h3 → PySem.W.exmOne X.K cls c = some b →
      (∀ M : PySem.W.Looks (model X.prog X.w) h3 (typeOf (.ref a)) cls, Q c { s' with heap := h3 }) → wpAny (model X.prog X.w) (X.A.mark (some (.ref a))) (eval (.Name x p1) X.env) Q E { s' with heap := h3 } := fun {x c p1 b h3 Q E} hc fl up _ q => by
    obtain ⟨oe, vs, he, hz, hd, S⟩ := look h3 fl up
    have LT : PySem.W.Looks (model X.prog X.w) h3 (typeOf (.ref a)) cls := fun A Q E s k q => wpAny_typeOf_ref (k _ _ he) (by rw [hz.1]; exact q)
    obtain ⟨hg, hdb, hm | ⟨hm, hv, hnn⟩⟩ := hc
    · exact ld_glob (X := X.suite a ((a, oe) :: (X.pn ++ pins))) S hg hm (q LT) hdb
    · exact ld_blt (X := X.suite a ((a, oe) :: (X.pn ++ pins))) S hg hm hv (q LT) hnn hdb
  intro hs l hk
  induction hk with
  | nil =>
    intro w h3 fl up
    refine wpAny_handleBy_nil ?_
    obtain ⟨_, _, _, oe, vs, T, oT, ts', he, hz, hd, h1, hr⟩ := id fl
    unfold PySem.passOn
    refine wpAny_bind (wpAny_field he hd h1 (by
      rw [if_neg (show ¬ ((Value.ref T == Value.none) = true) from by simp)]
      have fin : wpAny (model X.prog X.w) X.A (setFlight (.ref a) X.env.frame) (fun _ s4 => wpAny (model X.prog X.w) X.A (throw (.ref a) : Sem Flow) (SP X pins D) X.xe s4) X.xe { s' with heap := h3 } := by
        rw [hf]
        exact HandSPX.setFlight_upZ fl fun h4 hh4 up4 => wpAny_throw (tk _ _ (out h4 (up.trans up4) hh4 w))
      first
        | exact wpAny_bind (wpAny_pure (wpAny_bind fin))
        | exact wpAny_bind fin))
  | @bare x c ts b0 su p1 p2 hs l hc hsu r ih =>
    intro w h3 fl up
    obtain ⟨b, hb, yes, no⟩ := w
    have J3 := nb h3 fl up
    refine wpAny_handleBy_cons (codeAny_handlers_test (ask hc fl up hb fun LT => (PySem.W.exm_one (M := model X.prog X.w) J3.kIn LT hb).here ?_)) (by intro q; cases q)
    cases b with
    | false => exact ih (no rfl) h3 fl up
    | true =>
      refine codeAny_handlers_suite (HandSPX.lands_againZ fl fun h4 fl4 up4 => ?_)
      obtain ⟨oe, vs, he, hz, hd, S⟩ := look h4 fl4 (up.trans up4)
      refine wpAny_mono ((hsu a oe cls d (X.pn ++ pins) hz ⟨_, hd⟩).run [] _ _ H' _ S (yes rfl a na)) (fun f s6 q => ?_) fun _ _ z => False.elim z
      cases f with
      | ret u => obtain ⟨v, σ6, H6, S6, r6, q6⟩ := q; exact ⟨v, σ6, H6, S6.unsuite ok, r6, q6⟩
      | next => obtain ⟨σ6, H6, S6, q6⟩ := q; exact ⟨σ6, H6, S6.unsuite ok, q6⟩
      | brk => obtain ⟨σ6, H6, S6, q6⟩ := q; exact ⟨σ6, H6, S6.unsuite ok, q6⟩
      | cont => obtain ⟨σ6, H6, S6, q6⟩ := q; exact ⟨σ6, H6, S6.unsuite ok, q6⟩
  | @named x n i c ts b0 su p1 p2 hs l nd hi hl hc hsu r ih =>
    intro w h3 fl up
    obtain ⟨b, hb, yes, no⟩ := w
    have J3 := nb h3 fl up
    refine wpAny_handleBy_cons (codeAny_handlers_test (ask hc fl up hb fun LT => (PySem.W.exm_one (M := model X.prog X.w) J3.kIn LT hb).here ?_)) (by intro q; cases q)
    cases b with
    | false => exact ih (no rfl) h3 fl up
    | true =>
      refine codeAny_handlers_suite_as (HandSPX.lands_againZ fl fun h4 fl4 up4 => ?_)
      obtain ⟨oe, vs, he, hz, hd, S⟩ := look h4 fl4 (up.trans up4)
      refine store_ok (X := X.suite a ((a, oe) :: (X.pn ++ pins))) (v := .ref a) S nd hi (.inl hl) rfl (fun s5 S5 => ?_) (.inr hl)
      have done : ∀ {σ6 : L2.St} {H6 : Hp} {Q : Shared → Prop} {s6 : Shared}, Inv (X.suite a ((a, oe) :: (X.pn ++ pins))) [] σ6 H6 s6 → (∀ s7, Inv X pins (σ6.set i none) H6 s7 → Q s7) →
          wpAny (model X.prog X.w) X.A (do bindName X.env n .none; unbindBehindTheSuite X.env n p2) (fun _ s7 => Q s7) X.xe s6 := fun S6 q => gone_ok (S6.unsuite ok) nd hi hl q
      refine wpAny_mono ((hsu a oe cls d (X.pn ++ pins) hz ⟨_, hd⟩).run [] s5 _ H' _ S5 (yes rfl a na J3.len)) (fun f s6 q => ?_) fun _ _ z => False.elim z
      cases f with
      | ret u => obtain ⟨v, σ6, H6, S6, r6, q6⟩ := q; exact done S6 fun s7 J7 => ⟨v, _, H6, J7, r6, q6⟩
      | next => obtain ⟨σ6, H6, S6, q6⟩ := q; exact done S6 fun s7 J7 => ⟨_, H6, J7, q6⟩
      | brk => obtain ⟨σ6, H6, S6, q6⟩ := q; exact done S6 fun s7 J7 => ⟨_, H6, J7, q6⟩
      | cont => obtain ⟨σ6, H6, S6, q6⟩ := q; exact done S6 fun s7 J7 => ⟨_, H6, J7, q6⟩
end
section
variable {X : Cx} {body : List Stmt} {h0 : ExceptHandler} {hs : List ExceptHandler} {l : List Clause} {pos : Pos} {tb : WX → TS} {Wout : WX}
theorem ps_try_mix (hst : X.stack = X.env :: X.outer) (hf : X.env.frame = some X.env.locals) (tk : Takes X Wout)
    (hb : ∀ (W : WX) (pn : List (Addr × Obj)) (xe : Value → Shared → Prop), Takes (X.tr pn xe) W → PassesOwn (model X.prog X.w) X.A X.env xe → PSs (X.tr pn xe) body (tb W)) (hh : Mix X (h0 :: hs) l) :
    PS X (.Try body (h0 :: hs) [] [] pos) (fun D σ H => tb (wMix X.K X.N.length Wout D l) D σ H) := by
  refine ⟨fun pins s σ H D I h => ?_⟩
  have ok := I.ok
  have hfr : X.A.frames = some (X.env :: X.outer) := by rw [ok.frames, hst]
  refine wpAny_Try_except (wpAny_mono ((hb (wMix X.K X.N.length Wout D l) (X.pn ++ pins) (fun e s₁ => wpAny (model X.prog X.w) X.A (noteFrame e X.env) (fun _ s₂ => wpAny (model X.prog X.w) X.A (setFlight e none) (fun _ s₃ =>
    wpAny (model X.prog X.w) X.A (handleBy e X.env (h0 :: hs)) (SP X pins D) X.xe s₃) X.xe s₂) X.xe s₁) (fun u s' xx => ?_) PassesOwn.looking).run [] s σ H D (I.toTry _) h) (fun f s1 q => ?_) fun e s1 he => he)
  · obtain ⟨a, B, sI, pins', σ', H', cls, d, rfl, J', nb, up, sky, na, os, ag, w⟩ := xx
    have J : Inv X pins σ' H' sI := J'.ofTry ok
    have sky' : Sky B (X.env :: X.outer) a (Zc cls d) X.env.locals s'.heap := by rw [← hst]; exact sky
    refine (show wpAny (model X.prog X.w) X.A (noteFrame (.ref a) X.env) _ _ _ from Sky.land Zc.steady hfr hf sky' fun h3 fl3 up3 => ?_)
    exact mix_go ok hst hf tk J (fun h4 fl4 up4 => J.landed nb fl4.1 (up.trans up4) os ag) na (fun h4 up4 hh4 w4 => ⟨a, B, sI, pins, σ', H', cls, d, rfl, J, nb, up.trans up4, .inr (.inr (by rw [hst]; exact hh4)), na, os, ag, w4⟩) hh w h3 fl3 up3
  · cases f with
    | ret u => obtain ⟨v, σ', H', J', r, q⟩ := q; exact ⟨v, σ', H', J'.ofTry ok, r, q⟩
    | next => obtain ⟨σ', H', J', q⟩ := q; exact wpAny_execs_nil ⟨σ', H', J'.ofTry ok, q⟩
    | brk => obtain ⟨σ', H', J', q⟩ := q; exact ⟨σ', H', J'.ofTry ok, q⟩
    | cont => obtain ⟨σ', H', J', q⟩ := q; exact ⟨σ', H', J'.ofTry ok, q⟩
end
end DW
namespace DW
open PySem PySem.Spec PyProof.Rows L2
section
variable {X : Cx} {pins : List (Addr × Obj)} {σ : L2.St} {H : Hp} {s : Shared}
/-- a thing that is tracked by a word of its own, tracked otherwise -/
theorem retype {dx : Addr} {φ : Heap → Prop} {o : HO} (I : Inv X pins σ H s) (e : H dx = some (.ext φ)) (new : ObjOk X.prog X.w (upd H dx o) s.heap dx o) : Inv X pins σ (upd H dx o) s := by
  have nN : ∀ {b : Addr}, H b = none → b ≠ dx := fun n z => by rw [z, e] at n; cases n
  have nE : ∀ {b : Addr} {u : HO}, H b = some u → (∀ φ, u ≠ .ext φ) → b ≠ dx := fun q n z => by rw [z, e] at q; cases q; exact n φ rfl
  have J := I.un (t' := s.toks) (h' := s.heap) (H' := upd H dx o) ⟨fun b v q _ _ _ => q, fun b v q _ _ _ => ⟨v.slots, q⟩, fun b v q n _ => (upd_ne (nN n)).trans n, fun b v q _ => ⟨v, q⟩,
    fun b xs q => (upd_ne (nE q fun _ z => nomatch z)).trans q, fun b ob xs q => (upd_ne (nE q fun _ z => nomatch z)).trans q, fun b qs q => ⟨#[], by rw [upd_ne (nE q fun _ z => nomatch z), q]; simp⟩⟩ fun b v q => by
      by_cases hb : b = dx
      · subst hb
        rw [upd_same] at q
        cases q
        exact new
      · rw [upd_ne hb] at q
        exact (I.hok b v q).stay (fun c y _ r => r) (fun c r => (upd_ne (nE r fun _ z => nomatch z)).trans r) fun c xs r => (upd_ne (nE r fun _ z => nomatch z)).trans r
  exact J
/-- raise e, where e gives an own exception with a dict of its own -/
theorem pmk_exq {e : Expr} {te : TE} (hx : X.ex = []) (he : PE X e te) : PMk X e (fun σ H Q => te σ H fun x H1 => ∃ (a C dx t : Addr) (fs : List (Str × V)), x = .ref a ∧ H1 a = some (exq a C (some dx) t) ∧ H1 dx = some (exd dx fs) ∧ Fr0 X.H_0 a ∧ Raises X (.ref C) ∧
    Q (.ref C) (some dx) (upd (delH H1 a) dx (.xd fs))) := by
  intro pins s σ H Q I h
  refine wpAny_mono (he.run pins s σ H _ I h) (fun u s1 hu => ?_) fun _ _ x => x
  obtain ⟨v, H1, I1, r1, a, C, dx, t, fs, rfl, ha, hd, h0, hr, q⟩ := hu
  cases (show u = Value.ref a from r1)
  have z := exq_at I1.hok ha
  obtain ⟨mA, ⟨o, es, ep, ho, hdat⟩, rel⟩ := exd_at I1.hok hd
  have ne : dx ≠ a := fun y => by
    rw [y, z] at ho
    cases ho
    simp at hdat
  obtain ⟨G, gs, ga, J⟩ := I1.untrack (φ := fun h => h.get? a = some (exr C (some dx) t)) ha h0 hx
  have hd2 : delH H1 a dx = some (exd dx fs) := by rw [delH_ne ne]; exact hd
  have J2 := retype (o := .xd fs) J hd2 (show ∃ mA, _ from exd_at J.hok hd2)
  exact ⟨a, _, _, { s1 with heap := G }, _, .ref C, some dx, rfl, J2, gs, ga, z, ⟨rfl, rfl⟩, rfl, rfl, (upd_ne (Ne.symm ne)).trans delH_same, rfl, I1.bare, hr, q⟩
end
section
variable {X : Cx} {k : Nat} {C fI : Addr} {fd : FuncData} {ps : List Str} {sp : Sp} {Bn B newId inN : String} {bmN : List Value} {x : Str} {e : Expr} {te : TE} {p pos : Pos}
/-- X(e), X with an __init__ of its own that promises to let nothing out -/
theorem pe_exI0 (F : ExcBaseFacts Bn newId inN bmN) (q : exnB X.K C newId Bn B = true) (hi : PySem.W.findIn X.K (.ref C) "__init__" = some (some (.ref fI))) (tf : PySem.W.typeIn X.K (.ref fI) = some (.type "function"))
    (kC : PySem.W.keepIn X.K (.ref C) = true) (gC : X.mg x = some (.ref C)) (hg : Gl X x) (G : FnOk X.prog X.w X.K X.mg X.base CX0 k fI fd ps sp) (hr : Room (k + 1) X.A) (hb : Binds X.K fd ps []) (he : PE X e te)
    (hs : starEach [e] X.env = (false, eval e X.env) :: starEach [] X.env := by rfl) (hdb : (x == ("__debug__" : Str)) = false := by decide) :
    PE X (.Call (.Name x p) [e] [] pos) (tExI C sp te) := by
  refine ⟨fun pins s σ H Q I h => ?_⟩
  refine wpAny_Call_Name_kw (ld_glob I hg gC (PySem.W.callWith_K (h₀ := X.base) I.ok.mod.kin kC (by
    rw [hs]
    refine (show wpAny _ _ (spliced ((false, eval e X.env) :: backTo pos (starEach [] X.env))) _ _ s from Calls.spliced_cons (thn (he.run pins s σ H _ I h) ?_))
    rintro u s1 ⟨v, H1, I1, r1, q1⟩
    refine Calls.spliced_nil ⟨I1.kIn, (show wpAny _ _ (call (.ref C) [u]) _ _ _ from ?_)⟩
    obtain ⟨nm, N, qn, bs, bm, hdct, sn, sub, ab, col, dd, k0, k1, k2, k3, k5, hC, hT⟩ := exn_of I1.kIn q
    have look := PySem.W.looks_findIn (M := model X.prog X.w) I1.kIn hi
    have bnd := fun self => PySem.W.bind_fn (M := model X.prog X.w) I1.kIn self tf
    obtain ⟨hp, g, d, tk, os⟩ := s1
    have n1 : H1 (hp.objs.size + 1) = none := I1.hok.fresh (Nat.le_succ _)
    have n2 : H1 hp.objs.size = none := I1.hok.fresh (Nat.le_refl _)
    have ne : hp.objs.size ≠ hp.objs.size + 1 := Nat.ne_of_lt (Nat.lt_succ_self _)
    have kp : ∀ b o, hp.get? b = some o → ((hp.push (PySem.W.excTup [u])).push (exr C none hp.objs.size)).get? b = some o := fun b o z => Heap.get?_push_of_some _ (Heap.get?_push_of_some _ z)
    have gA : ((hp.push (PySem.W.excTup [u])).push (exr C none hp.objs.size)).get? (hp.objs.size + 1) = some (exr C none hp.objs.size) := by heap_get
    have gT : ((hp.push (PySem.W.excTup [u])).push (exr C none hp.objs.size)).get? hp.objs.size = some (PySem.W.excTup [u]) := Heap.get?_push_of_some _ (Heap.get?_push_size hp rfl)
    have one : [u].length ≤ sizeLine := by show 1 ≤ sizeLine; rw [sizeLine_eq]; omega
    have I2 := laid2 (tk := tk) (o := exq (hp.objs.size + 1) C none hp.objs.size) (u := .tup [v]) I1 kp (Nat.le_succ _) (Nat.le_refl _) ne
      ⟨by show 1 ≤ sizeLine; rw [sizeLine_eq]; omega, [u], .cons r1 .nil, ⟨_, gT, rfl, _, rfl⟩⟩ (exq_ok gA)
    have hq := q1 _ _ n1 n2 ne
    have hl : (Value.ref (hp.objs.size + 1) :: [u]).length = ps.length := G.len _ _ _ _ hq
    have b := hb _ (Value.ref (hp.objs.size + 1) :: [u]) I2.kIn (by rw [List.append_nil]; exact hl)
    rw [List.append_nil] at b
    refine wpAny_call (callU F hT hC one look bnd (codeAny_mono (G.run _ X.stack _ _ ⟨Value.ref (hp.objs.size + 1) :: [u], []⟩ (Value.ref (hp.objs.size + 1) :: [u]) _ _ _ (hr.make C [u] []) (I2.env0.make C [u] []) b (show Vals (V.ref (hp.objs.size + 1) :: [v]) (Value.ref (hp.objs.size + 1) :: [u]) from .cons rfl (.cons r1 .nil)) hq) fun r s' z => ?_))
    rcases r with er | fl
    · exact z.elim
    · cases fl with
      | ret u2 =>
        obtain ⟨v3, H3, I3, rv, ev, q3⟩ := I2.after z
        subst ev
        exact ⟨rv, ⟨V.ref (hp.objs.size + 1), H3, I3, rfl, q3⟩⟩
      | _ => exact False.elim z) hs (by rfl)) hdb)
/-- {x!r} of what holds nothing: whatever is under way -/
def tFmt0 (te : TE) : TE := fun σ H Q => te σ H fun v H1 => ∃ d : PyData, ((v = .non ∧ d = .none) ∨ (∃ b, v = .bl b ∧ d = .bool b) ∨ (∃ i, v = .int i ∧ d = .int i) ∨ ∃ z, v = .str z ∧ d = .str z) ∧ d.showable = true ∧ d.shown.length ≤ sizeLine ∧ Q (.str d.shown) H1
theorem pe_fmt0 (he : PE X e te) : PE X (.FormattedValue e 114 none pos) (tFmt0 te) := by
  refine ⟨fun pins s σ H Q I h => ?_⟩
  refine wpAny_FormattedValue_repr (thn (he.run pins s σ H _ I h) ?_)
  rintro u s1 ⟨v, H1, I1, r1, d, hd, hs, hz, q⟩
  have fin : ∀ t tk : Nat, wpAny (model X.prog X.w) X.A (formatField (.str d.shown t) Str.empty) (EP X pins σ Q) X.xe { s1 with toks := tk } := fun t tk =>
    wpAny_formatField_str ⟨.str d.shown, H1, (I1.tok _).tok _, ⟨_, rfl⟩, q⟩ ⟨.str d.shown, H1, (I1.tok _).tok _, ⟨_, rfl⟩, q⟩ hz
  rcases hd with ⟨rfl, rfl⟩ | ⟨b, rfl, rfl⟩ | ⟨i, rfl, rfl⟩ | ⟨z, rfl, rfl⟩
  · cases (show u = Value.none from r1)
    exact pyReprObj_none (fin _ _)
  · cases (show u = Value.bool b from r1)
    exact pyReprObj_bool (fin _ _)
  · obtain ⟨t, rfl⟩ := r1
    exact pyReprObj_int (by simpa [PyData.showable] using hs) (fin _ _)
  · obtain ⟨t, rfl⟩ := r1
    exact pyReprObj_str (fin _ _) hz
end
end DW
namespace DW
open PySem PySem.Spec PyProof.Rows L2
/-! ### promises of defs that may let errors out, and that may write out data: no repr is under way -/
structure FnGX (P : Program) (w : World) (K : PySem.W.Frag) (mg : Str → Option Value) (base : Heap) (CX : CXT) (k : Nat) (f : Addr) (fd : FuncData) (ps : List Str) (sp : Sp) : Prop where
  len : ∀ vs H Q E, sp vs H Q E → vs.length = ps.length
  run : ∀ (A : Around) (outer : List Env) (s : Shared) (H : Hp) (args : Args) (us : List Value) (vs : List V) (Q : VK) (E : XK), Room k A → A.guards = some [] → Env0 P w K mg base A outer s H → BindsTo s fd args (ps.zip us) → Vals vs us → sp vs H Q E →
    codeAny (model P w) A (.call (.ref f) args) (CR CX outer P w H s Q E) s
section
variable {P : Program} {w : World} {K : PySem.W.Frag} {mg : Str → Option Value} {base : Heap}
theorem FnGX.of {CX : CXT} {k : Nat} {f : Addr} {fd : FuncData} {ps : List Str} {sp : Sp} (F : FnOk P w K mg base CX k f fd ps sp) : FnGX P w K mg base CX k f fd ps sp :=
  ⟨F.len, fun A outer s H args us vs Q E hr _ e0 hb r h => F.run A outer s H args us vs Q E hr e0 hb r h⟩
theorem FnGX.mono {CX : CXT} {j k : Nat} {f : Addr} {fd : FuncData} {ps : List Str} {sp : Sp} (F : FnGX P w K mg base CX j f fd ps sp) (h : j ≤ k) : FnGX P w K mg base CX k f fd ps sp :=
  ⟨F.len, fun A outer s H args us vs Q E hr => F.run A outer s H args us vs Q E (hr.mono h)⟩
theorem FnG.mono {j k : Nat} {f : Addr} {fd : FuncData} {ps : List Str} {sp : Sp} (F : FnG P w K mg base j f fd ps sp) (h : j ≤ k) : FnG P w K mg base k f fd ps sp :=
  ⟨F.len, fun A outer s H args us vs Q hr => F.run A outer s H args us vs Q (hr.mono h)⟩
/-- a def at f as it stands behind the top, its defaults whatever they are: its code runs -/
theorem gx_of {name qual : Str} {params : Arguments} {body : List Stmt} {scope : Scope} {dV kV doc pm cdv ct oc : Value} {an od : Option Addr} {osl : Array (Option Value)} {CX : CXT} {f : Addr} {N ps : List Str} {k : Nat} {sp : Sp}
    (lk : K.lookup f = some ⟨oc, od, .func (PySem.W.fnOf name qual params body scope dV kV doc pm an cdv ct), osl⟩) (hcd : PySem.W.codeIn K cdv qual = true) (S : FnScope N ps scope)
    (len : ∀ vs H Q E, sp vs H Q E → vs.length = ps.length)
    (hbody : ∀ (A : Around) (outer : List Env) (s : Shared) (H : Hp) (vs : List V) (Q : VK) (E : XK), Room k (A.deeper (envOfC qual scope s.heap.objs.size f cdv)) → A.guards = some [] → sp vs H Q E →
      ∃ t, PSs (cxOf CX P w K mg base N qual scope f cdv A outer s H E) body t ∧ t { nx := fun _ H' => Q .non H', rt := Q } (start N vs) H) :
    FnGX P w K mg base CX (k + 1) f (PySem.W.fnOf name qual params body scope dV kV doc pm an cdv ct) ps sp := by
  refine ⟨len, fun A outer s H args us vs Q E hr hg env0 hb r hsp => ?_⟩
  exact LamX.run_ofS lk hcd S hr env0 hb r (len _ _ _ _ hsp) fun hr' => hbody A outer s H vs Q E hr' hg hsp
theorem fngx {x qual : Str} {st : Stmt} {f : Addr} {fd : FuncData} {N ps : List Str} {k : Nat} {sp : Sp} (F : Fun K x qual st f fd) (S : FnScope N ps (defScope st)) (len : ∀ vs H Q E, sp vs H Q E → vs.length = ps.length)
    (hbody : ∀ (cdv : Value) (A : Around) (outer : List Env) (s : Shared) (H : Hp) (vs : List V) (Q : VK) (E : XK), Room k (A.deeper (envOfC qual (defScope st) s.heap.objs.size f cdv)) → A.guards = some [] → sp vs H Q E →
      ∃ t, PSs (cxOf (L2.CX P w) P w K mg base N qual (defScope st) f cdv A outer s H E) (defBody st) t ∧ t { nx := fun _ H' => Q .non H', rt := Q } (start N vs) H) : FnGX P w K mg base (L2.CX P w) (k + 1) f fd ps sp := by
  obtain ⟨oc, od, kV, doc, pm, an, cdv, ct, osl, rfl, lk, hcd⟩ := F.ex
  exact gx_of lk hcd S len fun A outer s H vs Q E hr hg hsp => hbody cdv A outer s H vs Q E hr hg hsp
theorem fngxD {x qual : Str} {params : Arguments} {body : List Stmt} {scope : Scope} {dvs : List V} {kws : List (Str × V)} {f : Addr} {fd : FuncData} {N ps : List Str} {k : Nat} {sp : Sp} (F : FunD K x qual params body scope dvs kws f fd) (S : FnScope N ps scope) (len : ∀ vs H Q E, sp vs H Q E → vs.length = ps.length)
    (hbody : ∀ (cdv : Value) (A : Around) (outer : List Env) (s : Shared) (H : Hp) (vs : List V) (Q : VK) (E : XK), Room k (A.deeper (envOfC qual scope s.heap.objs.size f cdv)) → A.guards = some [] → sp vs H Q E →
      ∃ t, PSs (cxOf (L2.CX P w) P w K mg base N qual scope f cdv A outer s H E) body t ∧ t { nx := fun _ H' => Q .non H', rt := Q } (start N vs) H) : FnGX P w K mg base (L2.CX P w) (k + 1) f fd ps sp := by
  obtain ⟨oc, od, dV, kV, doc, pm, an, cdv, ct, osl, rfl, lk, hcd, _, _⟩ := F.ex
  exact gx_of lk hcd S len fun A outer s H vs Q E hr hg hsp => hbody cdv A outer s H vs Q E hr hg hsp
end
section
variable {X : Cx} {CX : CXT} {k n : Nat} {f C : Addr} {fd : FuncData} {ps ks : List Str} {sp : Sp} {dvs : List V} {ds : List Value} {E : XK} {x m : Str} {p pos apos : Pos} {e o : Expr} {es : List Expr} {kws : List Keyword} {ta : TE} {t tk : TA} {g : List Value → List Value → List Value} {gV : List V → List V → List V}
theorem run_gx {pins : List (Addr × Obj)} {σ : L2.St} {H : Hp} {s : Shared} {Q : VK} {us : List Value} {vs : List V} (F : FnGX X.prog X.w X.K X.mg X.base CX k f fd ps sp) (hr : Room k X.A) (hg : X.A.guards = some []) (hb : Binds X.K fd ps ds) (hd : Vals dvs ds) (hx : Passes CX X E)
    (I : Inv X pins σ H s) (r : Vals vs us) (h : sp (vs ++ dvs) H Q E) : wpAny (model X.prog X.w) X.A (call (.ref f) us) (EP X pins σ Q) X.xe s := by
  have both : Vals (vs ++ dvs) (us ++ ds) := r.append hd
  have many : (us ++ ds).length = ps.length := both.length.symm.trans (F.len _ _ _ _ h)
  refine wpAny_call (codeAny_mono (F.run X.A X.stack s H ⟨us, []⟩ (us ++ ds) (vs ++ dvs) Q E hr hg I.env0 (hb s us I.kIn many) both h) fun r s' hq => ?_)
  cases r with
  | error er => exact hx _ _ _ _ er s' I hq
  | ok fl =>
    cases fl with
    | ret u => exact I.after hq
    | _ => exact False.elim hq
theorem run_gxN {pins : List (Addr × Obj)} {σ : L2.St} {H : Hp} {s : Shared} {Q : VK} {us ws : List Value} {vs zs : List V} (F : FnGX X.prog X.w X.K X.mg X.base CX k f fd ps sp) (hr : Room k X.A) (hg : X.A.guards = some []) (hb : KBn X.K fd ps n ks g gV) (hx : Passes CX X E)
    (I : Inv X pins σ H s) (r : Vals vs us) (rz : Vals zs ws) (l1 : vs.length = n) (l2 : zs.length = ks.length) (h : sp (gV vs zs) H Q E) : wpAny (model X.prog X.w) X.A (call (.ref f) us (ks.zip ws)) (EP X pins σ Q) X.xe s := by
  have both := hb.rel r rz
  refine wpAny_call (codeAny_mono (F.run X.A X.stack s H ⟨us, ks.zip ws⟩ (g us ws) (gV vs zs) Q E hr hg I.env0 (hb.to s us ws I.kIn (r.length.symm.trans l1) (rz.length.symm.trans l2)) both h) fun r s' hq => ?_)
  cases r with
  | error er => exact hx _ _ _ _ er s' I hq
  | ok fl =>
    cases fl with
    | ret u => exact I.after hq
    | _ => exact False.elim hq
/-- f(e, ..) -/
theorem pe_gx (F : FnGX X.prog X.w X.K X.mg X.base CX k f fd ps sp) (hr : Room k X.A) (hgu : X.A.guards = some []) (hg : Gl X x) (hm : X.mg x = some (.ref f)) (hk : PySem.W.keepIn X.K (.ref f) = true) (hb : Binds X.K fd ps ds) (hd : Vals dvs ds) (hx : Passes CX X E)
    (ha : PA X (e :: es) t) (hdb : (x == ("__debug__" : Str)) = false := by decide) (he : starEach (e :: es) X.env = (false, eval e X.env) :: starEach es X.env := by rfl) (hpl : (backTo pos (starEach es X.env)).any (·.1) = false := by rfl) :
    PE X (.Call (.Name x p) (e :: es) [] pos) (tCall sp dvs E t) := by
  refine ⟨fun pins s σ H Q I h => wpAny_Call_Name_kw (ld_glob I hg hm (PySem.W.callWith_K (h₀ := X.base) I.ok.mod.kin hk (thn (ha.run pos pins s σ H _ I h) fun us s1 z => ?_) he hpl) hdb)⟩
  obtain ⟨vs, H1, I1, r, q⟩ := z
  exact ⟨I1.kIn, run_gx F hr hgu hb hd hx I1 r q⟩
/-- o.m(e, ..), the method such a def -/
theorem pe_methX {pl : Sem Bool} (he : PE X o ta) (c : Cls X.K C) (hm : Meth X.K C m f) (F : FnGX X.prog X.w X.K X.mg X.base CX k f fd ps sp) (hr : Room k X.A) (hgu : X.A.guards = some []) (hb : Binds X.K fd ps ds) (hd : Vals dvs ds) (hx : Passes CX X E) (ha : PA X (e :: es) t)
    (hst : starEach (e :: es) X.env = (false, eval e X.env) :: starEach es X.env := by rfl) (hpl : (backTo pos (starEach es X.env)).any (·.1) = false := by rfl)
    (ht : eval (.Call (.Attribute o m apos) (e :: es) [] pos) X.env = (do
      let ov ← eval o X.env; standAt apos.atName; let (f, first) ← holding [ov] (getMethod ov m pl)
      callWith pos f first (backTo pos (starEach (e :: es) X.env)) (backToKw pos (keywordEach [] X.env))) := by rfl) :
    PE X (.Call (.Attribute o m apos) (e :: es) [] pos) (tMeth C m sp dvs E ta t) := by
  refine ⟨fun pins s σ H Q I h => PySem.W.methodCall_KW (pl := pl) (thn (he.run pins s σ H _ I h) fun u s1 z => ?_) ht⟩
  obtain ⟨v, H1, I1, rv, a, dx, fs, ev, ea, l, q⟩ := z
  subst ev
  cases (show u = Value.ref a from rv)
  refine getmeth_ok I1 ea c hm l (PySem.W.callWith_K (first := [.ref a]) (h₀ := X.base) I.ok.mod.kin hm.kp (thn (ha.run pos pins s1 σ H1 _ I1 q) fun us s2 z2 => ?_) hst hpl)
  obtain ⟨vs, H2, I2, r, q2⟩ := z2
  exact ⟨I2.kIn, run_gx (us := .ref a :: us) (vs := .ref a :: vs) F hr hgu hb hd hx I2 (.cons rfl r) q2⟩
/-- o.m(e, .., k = v, ..) -/
def tMethN (C : Addr) (m : Str) (n l : Nat) (sp : Sp) (gV : List V → List V → List V) (E : XK) (ta : TE) (t tk : TA) : TE := fun σ H Q => ta σ H fun x H1 => ∃ a dx fs, x = .ref a ∧ H1 a = some (.ins C dx fs) ∧ fs.lookup m = none ∧
  t σ H1 fun vs H2 => tk σ H2 fun zs H3 => vs.length = n ∧ zs.length = l ∧ sp (gV (x :: vs) zs) H3 Q E
theorem pe_methXN {pl : Sem Bool} (he : PE X o ta) (c : Cls X.K C) (hm : Meth X.K C m f) (F : FnGX X.prog X.w X.K X.mg X.base CX k f fd ps sp) (hr : Room k X.A) (hgu : X.A.guards = some []) (hb : KBn X.K fd ps (n + 1) ks g gV) (hx : Passes CX X E) (ha : PA X (e :: es) t) (hkw : PK X kws tk)
    (hall : (backToKw pos (keywordEach kws X.env)).all (·.1.isSome) = true := by rfl) (hks : (backToKw pos (keywordEach kws X.env)).filterMap (·.1) = ks := by rfl)
    (hst : starEach (e :: es) X.env = (false, eval e X.env) :: starEach es X.env := by rfl) (hpl : ((backTo pos (starEach (e :: es) X.env)).any (·.1) || (backToKw pos (keywordEach kws X.env)).any (·.1.isNone)) = false := by rfl)
    (ht : eval (.Call (.Attribute o m apos) (e :: es) kws pos) X.env = (do
      let ov ← eval o X.env; standAt apos.atName; let (f, first) ← holding [ov] (getMethod ov m pl)
      callWith pos f first (backTo pos (starEach (e :: es) X.env)) (backToKw pos (keywordEach kws X.env))) := by rfl) :
    PE X (.Call (.Attribute o m apos) (e :: es) kws pos) (tMethN C m n ks.length sp gV E ta t tk) := by
  refine ⟨fun pins s σ H Q I h => PySem.W.methodCall_KW (pl := pl) (thn (he.run pins s σ H _ I h) fun u s1 z => ?_) ht⟩
  obtain ⟨v, H1, I1, rv, a, dx, fs, ev, ea, l, q⟩ := z
  subst ev
  cases (show u = Value.ref a from rv)
  refine getmeth_ok I1 ea c hm l (PySem.W.callWith_KW (first := [.ref a]) (h₀ := X.base) I.ok.mod.kin hm.kp hall (thn (ha.run pos pins s1 σ H1 _ I1 q) fun us s2 z2 => ?_) hpl hst)
  obtain ⟨vs, H2, I2, r, q2⟩ := z2
  refine thn (hkw.run pos pins s2 σ H2 _ I2 q2) fun ws s3 z3 => ?_
  obtain ⟨zs, H3, I3, rz, l1, l2, q3⟩ := z3
  refine ⟨I3.kIn, ?_⟩
  rw [hks]
  exact run_gxN (us := .ref a :: us) (vs := .ref a :: vs) F hr hgu hb hx I3 (.cons rfl r) rz (by rw [List.length_cons, l1]) l2 q3
end
end DW
namespace DW
open PySem PySem.Spec PyProof.Rows L2 LamX
/-! ### a lambda handed to a def, where no repr is under way -/
section
variable {X : Cx} {pins : List (Addr × Obj)} {σ : L2.St} {H : Hp} {s : Shared}
/-- x() in the def that got the lambda; the lambda's body is told that no repr is under way -/
theorem pe_actG {CXg : CXT} {Eg : XK} {Ng : List Str} {qg : Str} {sg : Scope} {g f c' : Addr} {cdg pm ctv : Value} {params : Arguments} {body : Expr} {scope : Scope} {k i : Nat} {a : Str} {pn : List (Addr × Obj)} {xe : Value → Shared → Prop} {W : WX} {E : XK} {tb : TE} {p1 p2 : Pos}
    (I : Inv X pins σ H s) (L : LamS X.env.scope scope) (isF : s.heap.get? f = some (PySem.W.kla_obj "<lambda>" (X.env.qual ++ "<lambda>") params body scope (cloFrom X.env.cells scope.names []) pm c' ctv)) (nF : H f = none) (offF : f ∉ frs X.stack)
    (noPar : bindArgs (PySem.W.kla_fn "<lambda>" (X.env.qual ++ "<lambda>") params body scope (cloFrom X.env.cells scope.names []) pm (.ref c') ctv) ⟨[], []⟩ = pure []) (hgu : X.A.guards = some [])
    (tk : Takes ((cxOf CXg X.prog X.w X.K X.mg X.base Ng qg sg g cdg X.A X.stack s H Eg).tr pn xe) W) (hW : ∀ cls d σ' H', E cls d H' → W cls d σ' H') (hr : Room (k + 1) (X.A.deeper (envOfC qg sg s.heap.objs.size g cdg)))
    (inner : ∀ (A : Around) (outer : List Env) (s : Shared) (H : Hp), Room k (A.deeper (lamEnv X scope s.heap.objs.size f c')) → A.guards = some [] → PE (lamCx X A outer s H E scope f c') body tb)
    (hN : Ng[i]? = some a) (hv : Vis sg a) (hd : (a == ("__debug__" : Str)) = false := by decide) (hcd : (a == ("__classdict__" : Str)) = false := by decide) :
    PE ((cxOf CXg X.prog X.w X.K X.mg X.base Ng qg sg g cdg X.A X.stack s H Eg).tr pn xe) (.Call (.Name a p1) [] [] p2) (fun σZ HZ Q => σZ[i]? = some (some (.ref f)) ∧ HZ c' = some (CodeO c' (X.env.qual ++ "<lambda>")) ∧ tb σ HZ Q) := by
  refine ⟨fun pinsZ sZ σZ HZ Q IZ h => ?_⟩
  obtain ⟨atI, atC, ht⟩ := h
  refine wpAny_Call_Name_kw (thn ((pe_var (pos := p1) (i := i) hN hv hd hcd).run pinsZ sZ σZ HZ (fun v H1 => v = .ref f ∧ H1 = HZ) IZ ⟨.ref f, atI, rfl, rfl⟩) fun u s1 z => ?_)
  obtain ⟨v, H1, I1, r1, rfl, rfl⟩ := z
  cases (show u = Value.ref f from r1)
  have stillF := I1.base.keep f _ isF nF offF (fun z => nomatch (show f ∈ ([] : List Addr) from z))
  refine PySem.W.callWith_F0 ⟨_, _, _, _, stillF⟩ ?_
  have same : Un (frs X.stack) [] H H1 s.heap s1.heap := I1.base
  obtain ⟨⟨oc, vs, t, c1, c2, c3⟩, _, _⟩ := I1.hok c' _ atC
  have runs : codeAny (model X.prog X.w) (X.A.deeper (envOfC qg sg s.heap.objs.size g cdg)) (.call (.ref f) ⟨[], []⟩) (CR (L2.CX X.prog X.w) (envOfC qg sg s.heap.objs.size g cdg :: X.stack) X.prog X.w H1 s1 Q E) s1 := by
    refine PySem.W.kla_callFunE hr.depth stillF rfl L.co L.gen rfl ⟨c', oc, vs, t, rfl, c1, c2, c3⟩ (by
      rw [noPar]
      refine wpAny_pure (wpAny_newFunctionEnv (fun y hy => (L.own y hy).2) (fun y hy => absurd hy (by simp)) (fun h₁ hns hsb => ⟨I1.nolimit.fresh _ hsb, ?_⟩) L.kind)
      have old : ∀ b o, s1.heap.get? b = some o → h₁.get? b = some o := fun b o e => hsb.extBut b o (Nat.ne_of_lt (Heap.lt_size e)) (Heap.get?_push_of_some _ e)
      have J := lam_start2 (E := E) (f := f) (c' := c') (tk := s1.toks + ([] : List (Str × Value)).length) I L I1.env0 hr.hd same hns old
      refine (show codeAny _ _ (.expr body (lamEnv X scope s1.heap.objs.size f c')) _ _ from PySem.W.kla_codeExpr (wpAny_mono ((inner _ _ s1 H1 (hr.deeper _) hgu).run [] _ _ H1 Q J ht) (fun v s' hq => ?_) fun e s' hq => hq))
      obtain ⟨w', H', J', rv, q⟩ := hq
      exact ⟨w', H', J'.os, J'.bare, J'.base, J'.hok, rv, q⟩)
  have up : Passes (L2.CX X.prog X.w) ((cxOf CXg X.prog X.w X.K X.mg X.base Ng qg sg g cdg X.A X.stack s H Eg).tr pn xe) E := passes_call tk hW
  refine wpAny_call (codeAny_mono runs fun r s' hq => ?_)
  cases r with
  | error er => exact up pinsZ σZ H1 s1 er s' I1 hq
  | ok fl =>
    cases fl with
    | ret u => exact I1.after hq
    | _ => exact False.elim hq
/-- x(lambda: body), where no repr is under way -/
theorem pe_lamcallG {T : List (Addr × Str)} {TT : (XK → Hp → VK → Prop) → Hp → VK → Prop} {x a : Str} {g c P : Addr} {k : Nat} {pg : Arguments} {bg : List Stmt} {sg : Scope} {dV kV doc pm cdv ct oc : Value} {an od : Option Addr} {osl : Array (Option Value)} {Ng : List Str}
    {params : Arguments} {body : Expr} {scope : Scope} {t : XK → TE} {p lpos pos : Pos} (hg : Gl X x) (hm : X.mg x = some (.ref g)) (hk : PySem.W.keepIn X.K (.ref g) = true) (hgu : X.A.guards = some [])
    (lk : X.K.lookup g = some ⟨oc, od, .func (PySem.W.fnOf x x pg bg sg dV kV doc pm an cdv ct), osl⟩) (hcg : PySem.W.codeIn X.K cdv x = true) (hb : L2.Binds X.K (PySem.W.fnOf x x pg bg sg dV kV doc pm an cdv ct) [a] []) (Sg : FnScope Ng [a] sg) (hNg : Ng[0]? = some a) (hva : Vis sg a)
    (hG : GivesTo X Ng x sg g cdv bg a (X.env.qual ++ "<lambda>") TT) (TB : TabB X.base X.mg c P) (hcode : X.env.code = .ref c) (hmT : (P, X.env.qual ++ "<lambda>") ∈ T) (hu : ∀ p ∈ T, p.1 = P → p.2 = X.env.qual ++ "<lambda>") (hr : Room (k + 2) X.A) (L : LamS X.env.scope scope) (hdef : defaultsOf params X.env = ([], []))
    (noPar : ∀ (q : Str) (cl : List (Str × Addr)) (pm cv ctv : Value), bindArgs (PySem.W.kla_fn "<lambda>" q params body scope cl pm cv ctv) ⟨[], []⟩ = pure [])
    (inner : ∀ (A : Around) (outer : List Env) (s : Shared) (H : Hp) (E : XK) (f c' : Addr), Room k (A.deeper (lamEnv X scope s.heap.objs.size f c')) → A.guards = some [] → PE (lamCx X A outer s H E scope f c') body (t E))
    (hdb : (x == ("__debug__" : Str)) = false := by decide) (hd : (a == ("__debug__" : Str)) = false := by decide) (hcd : (a == ("__classdict__" : Str)) = false := by decide) :
    PE X (.Call (.Name x p) [.Lambda params body scope lpos] [] pos) (tLam T TT t) := by
  refine ⟨fun pins s σ H Q I h => ?_⟩
  obtain ⟨tabs, h⟩ := h
  refine wpAny_Call_Name_kw (ld_glob I hg hm (PySem.W.callWith_K (h₀ := X.base) I.ok.mod.kin hk ?_ (by rfl) (by rfl)) hdb)
  refine (show wpAny _ _ (spliced ((false, eval (.Lambda params body scope lpos) X.env) :: backTo pos (starEach [] X.env))) _ _ s from Calls.spliced_cons (lam_make2 I TB hcode hmT hu tabs hdef (L.has I.ok) fun f c' pm' ctv H1 s' I1 eN T1 hf hfn hfr hco => ?_))
  refine Calls.spliced_nil ⟨I1.kIn, ?_⟩
  have runs : codeAny (model X.prog X.w) X.A (.call (.ref g) ⟨[.ref f], []⟩) (CR C8.CX0 X.stack X.prog X.w H1 s' Q C8.E0) s' := by
    refine run_ofS (N := Ng) (ps := [a]) (us := [.ref f]) (vs := [.ref f]) lk hcg Sg hr I1.env0 (hb s' [.ref f] I1.kIn rfl) (.cons rfl .nil) rfl fun hr' => ?_
    obtain ⟨t', ht', hq'⟩ := hG f c' s' H1 Q (fun E H' Q' => t E σ H' Q') (fun W pn xe E p1 p2 tk hW => pe_actG (i := 0) I1 L hf hfn hfr (noPar _ _ _ _ _) hgu tk hW hr' (fun A outer s H hr2 hg2 => inner A outer s H E f c' hr2 hg2) hNg hva hd hcd) hco (h H1 eN T1)
    exact ⟨t', ht'.nox, hq'⟩
  refine wpAny_call (codeAny_mono runs fun r s2 hq => ?_)
  cases r with
  | error er => exact (show False from hq).elim
  | ok fl =>
    cases fl with
    | ret u => exact I1.after hq
    | _ => exact False.elim hq
end
end DW
namespace DW
open PySem PySem.Spec PyProof.Rows L2
/-! ### dicts whose keys are tuples: written out, and made by a comprehension -/
section
variable {X : Cx} {pins : List (Addr × Obj)} {σ : L2.St} {H : Hp} {s : Shared}
/-- the store of a pair, as displays and comprehensions do it -/
theorem dt_dictSet {E : Value → Shared → Prop} {D b : Addr} {kvs : List (List Key × V)} {k : List Key} {v : V} {r : Value} {Q : Unit → Shared → Prop} (hu : X.A.units + 1 < cLine) (I : Inv X pins σ H s) (hD : H D = some (.dT kvs)) (hb : H b = some (.tup (k.map kV))) (hz : kvs.length < sizeLine)
    (rv : RelV v r) (h : ∀ s', Inv X pins σ (upd H D (.dT (putK kvs k v))) s' → Q () s') : wpAny (model X.prog X.w) X.A (dictSet D (.ref b) r) Q E s := by
  obtain ⟨z, notSys, xs, rel, held⟩ := dt_of I.hok hD
  have many : xs.length ≤ sizeLine := by rw [← Paired.length rel]; exact z
  have more : (putK kvs k v).length ≤ sizeLine := by have := length_putK kvs k v; omega
  refine wpAny_dictSet_heap (hsz := many) (show X.A.units < cLine by omega) (key_of I.hok hb) held fun h' now same => h _ ?_
  obtain ⟨q, es, ep, hq, h2, h3, h4, _, h5⟩ := now
  refine d_write I (by rw [hD]; exact True.intro) same ⟨q, hq⟩ ⟨more, notSys, _, (rel.put k hb rv).keeps fun c ys ec => ?_, q, es, ep, hq, h2, h3, h4, h5⟩
  rw [upd_ne (ne_of ec hD (fun z => nomatch z))]
  exact ec
end
def mergeT (kvs more : List (List Key × V)) : List (List Key × V) := more.foldl (fun acc kv => putK acc kv.1 kv.2) kvs
theorem mergeT_le : ∀ (more kvs : List (List Key × V)), (mergeT kvs more).length ≤ kvs.length + more.length
  | [], kvs => Nat.le_refl _
  | p :: r, kvs => by
    have h1 := mergeT_le r (putK kvs p.1 p.2)
    have h2 := length_putK kvs p.1 p.2
    show (mergeT (putK kvs p.1 p.2) r).length ≤ kvs.length + (r.length + 1)
    omega
/-- the pairs of a display: each key a tracked tuple -/
abbrev KeyRows (H : Hp) : List (V × V) → List (List Key × V) → Prop := Paired fun p q => p.2 = q.2 ∧ ∃ b, p.1 = .ref b ∧ H b = some (.tup (q.1.map kV))
section
variable {X : Cx} {pins : List (Addr × Obj)} {σ : L2.St} {H : Hp} {s : Shared}
theorem carriesT (I : Inv X pins σ H s) : ∀ {ps : List (V × V)} {kvs : List (List Key × V)} {ws : List (Value × Value)}, KeyRows H ps kvs → VV ps ws → ∃ xs, CarriesH (tupleKind (mixKind X.prog X.w)) s.heap ws xs ∧ KT H kvs xs
  | _, _, _, .nil, r => by
    cases r
    exact ⟨[], True.intro, .nil⟩
  | _, _, _, .cons h t, r => by
    cases r with
    | cons r1 r2 =>
      obtain ⟨xs, c, q⟩ := carriesT I t r2
      obtain ⟨e, b, eb, hb⟩ := h
      obtain ⟨ra, rb⟩ := r1
      rw [eb] at ra
      exact ⟨(_, b, _) :: xs, ⟨ra, rfl, key_of I.hok hb, c⟩, .cons ⟨rfl, hb, by rw [← e]; exact rb⟩ q⟩
theorem kt_merge {H : Hp} : ∀ {more : List (List Key × V)} {xs : List (List Key × Addr × Value)} {kvs : List (List Key × V)} {ys : List (List Key × Addr × Value)}, KT H more xs → KT H kvs ys → KT H (mergeT kvs more) (storedAllH ys xs)
  | _, _, _, _, .nil, q => q
  | p :: ps, x :: xs, kvs, ys, .cons h t, q => by
    obtain ⟨e, hb, rv⟩ := h
    have z := q.put p.1 hb rv
    have w := kt_merge t z
    have e2 : storedH ys p.1 x.2.1 x.2.2 = storedH ys x.1 x.2.1 x.2.2 := by rw [e]
    rw [e2] at w
    exact w
end
/-- {(..): v, ..}; the new dict stands empty while the pairs are made -/
def tDispT (trs : List (TE × TE)) : TE := fun σ H Q => ∀ p, H p = none → tPairs trs σ (upd H p (.dT [])) fun ps H2 => H2 p = some (.dT []) ∧ ∃ kvs : List (List Key × V), KeyRows H2 ps kvs ∧ kvs.length ≤ 15 ∧ Q (.ref p) (upd H2 p (.dT (mergeT [] kvs)))
theorem pe_dispT {X : Cx} {pos : Pos} {keys : List (Option Expr)} {values : List Expr} {trs : List (TE × TE)} (hu : X.A.units + 1 < cLine) (h : PPs X pos keys values trs) (hall : keys.all (·.isSome) = true) (hl : keys.length = values.length) (h0 : keys ≠ [])
    (few : keys.length ≤ 15) : PE X (.Dict keys values pos) (tDispT trs) := by
  refine ⟨fun pins s σ H Q I q => ?_⟩
  have free := I.hok.fresh (Nat.le_refl s.heap.objs.size)
  have I1 := I.laid (a := s.heap.objs.size) (o := .dT []) (h' := s.heap.push { cls := .type "dict", data := .dict #[] }) (t' := s.toks) (fun _ _ z => Heap.get?_push_of_some _ z) (Nat.le_refl _) (dt_empty s.heap I.big)
  have many := pairTrees_length keys values X.env pos hall hl
  have some' : pairTrees keys values X.env pos ≠ [] := fun e => h0 (List.length_eq_zero_iff.mp (by rw [← many, e]; rfl))
  have few' : (pairTrees keys values X.env pos).length ≤ 15 := by rw [many]; exact few
  rw [arm_eval_Dict, zip_pairTrees keys values X.env pos hall hl, dictDisplay_pairs _ some' (by omega)]
  refine wpAny_bind (wpAny_standAt (wpAny_bind (wpAny_subDictH (knd := tupleKind (mixKind X.prog X.w)) (show X.A.units < cLine by omega) few' (thn (h.run pins _ σ _ _ I1 (q _ free)) fun ws s2 z => ?_))))
  obtain ⟨ps, H2, I2, rel, e, kvs, rows, len, q2⟩ := z
  obtain ⟨xs, c, rk⟩ := carriesT I2 rows rel
  obtain ⟨z, notSys, ys, r0, held⟩ := dt_of I2.hok e
  cases r0
  refine ⟨xs, c, held, fun h' tk now same => wpAny_pure ⟨.ref s.heap.objs.size, _, ?_, rfl, q2⟩⟩
  obtain ⟨o, es, ep, ho, h2, h3, h4, _, h5⟩ := now
  refine d_write I2 (by rw [e]; exact True.intro) same ⟨o, ho⟩ ⟨?_, notSys, _, (kt_merge rk .nil).keeps fun c ys ec => ?_, o, es, ep, ho, h2, h3, h4, h5⟩
  · have := mergeT_le kvs []
    rw [List.length_nil] at this
    rw [sizeLine_eq]
    omega
  · rw [upd_ne (ne_of ec e (fun z => nomatch z))]
    exact ec
end DW
namespace DW
open PySem PySem.Spec PyProof.Rows L2
section
variable {X : Cx}
/-- {k: v for target in iter if ..}, the keys tuples: D the new dict -/
def tDcT (wi : TI) (g : TG) (tt : TT) (tk tv : TE) (vs : List Nat) : TE := fun σ H Q => wi σ H fun J H1 => ∀ D, H1 D = none → ∃ W : Nat → Nat → Hp → Prop, (∃ m, W 0 m (upd H1 D (.dT []))) ∧ ∀ i m H, W i m H →
  (J.stop i H ∧ Q (.ref D) H) ∨ (J.go i H ∧ ∃ Nx : Hp → Prop, (∀ H', Nx H' → ∃ m', m' < m ∧ W (i + 1) m' H') ∧ ∀ x H', J.yld i H x H' → g x (wipe σ vs) H' fun σ2 H2 => wipe σ2 vs = wipe σ vs ∧ tt σ2 H2 fun b H3 =>
    if b = true then tk σ2 H3 fun y H4 => tv σ2 H4 fun z H5 => ∃ kvs k c, y = .ref c ∧ H5 c = some (.tup (k.map kV)) ∧ H5 D = some (.dT kvs) ∧ kvs.length < sizeLine ∧ Nx (upd H5 D (.dT (putK kvs k z))) else Nx H3)
theorem pe_dcT {kx vx tg iter : Expr} {ifs : List Expr} {scope : Scope} {own : List (Str × Nat)} {pos : Pos} {wi : TI} {g : TG} {tt : TT} {tk tv : TE} (hu : X.A.units + 1 < cLine) (hc : X.calm = true) (hN : X.N.Nodup) (hi : PI X tg iter wi) (ok : BlkOk X.N X.env.scope scope own)
    (hg : ∀ (s : Shared) (H : Hp) (C : Addr) (cl : List (Str × Addr)) (fp : List Addr), PG (X.blk s H scope (compEnvC scope cl C X.env) fp) tg g) (ht : ∀ (s : Shared) (H : Hp) (C : Addr) (cl : List (Str × Addr)) (fp : List Addr), PTs (X.blk s H scope (compEnvC scope cl C X.env) fp) ifs tt)
    (hk : ∀ (s : Shared) (H : Hp) (C : Addr) (cl : List (Str × Addr)) (fp : List Addr), PE (X.blk s H scope (compEnvC scope cl C X.env) fp) kx tk) (he : ∀ (s : Shared) (H : Hp) (C : Addr) (cl : List (Str × Addr)) (fp : List Addr), PE (X.blk s H scope (compEnvC scope cl C X.env) fp) vx tv)
    (plain : ∀ x, foldedSetIterable iter X.env x = pure x := by intro _; rfl) : PE X (.DictComp kx vx [⟨tg, iter, ifs, 0⟩] scope pos) (tDcT wi g tt tk tv (own.map (·.2))) := by
  refine ⟨fun pins s σ H Q I h => ?_⟩
  rw [arm_eval_DictComp]
  have frees : ∀ y ∈ scope.names, y.2 = .free → ∃ c, X.env.cells.lookup y.1 = some c := fun y hy e => by
    rcases ok.free y hy e with k | k
    · exact I.ok.has _ (.inl k)
    · exact I.ok.has _ (.inr k)
  refine wpAny_comprehension_free (use := none) rfl plain (closure_ok frees) ok.kind (fun y hy e => by rw [ok.uniq y hy, e]) (thn (hi.run pins s σ H _ I h) fun src sa first => thn first fun itv sb z => ?_)
  obtain ⟨it, fp, tn, J, Hb, rfl, Ib, Tn, at0, apart, want⟩ := z
  refine wpAny_newObj_type (newEnv_comp ?_)
  -- D: the new dict's address
  obtain ⟨D, eD⟩ : ∃ D, sb.heap.objs.size = D := ⟨_, rfl⟩
  rw [eD]
  have freeD : Hb D = none := Ib.hok.fresh (Nat.le_of_eq eD)
  obtain ⟨W, ⟨m0, w0⟩, turn⟩ := want D freeD
  obtain ⟨sc, esc⟩ : ∃ sc : Shared, ({ sb with heap := sb.heap.push { cls := .type "dict", data := .dict #[] } } : Shared) = sc := ⟨_, rfl⟩
  have Ic : Inv X pins σ (upd Hb D (.dT [])) sc := by
    rw [← esc]
    refine Ib.laid (t' := sb.toks) (fun b o e => Heap.get?_push_of_some _ e) (Nat.le_of_eq eD) ?_
    rw [← eD]
    exact dt_empty sb.heap Ib.big
  have esh : sc.heap = sb.heap.push { cls := .type "dict", data := .dict #[] } := by rw [← esc]
  have low : ∀ b ∈ fp, b < sb.heap.objs.size := fun b hb => by
    obtain ⟨o, e, _⟩ := Tn.obj _ _ at0 b hb
    exact Heap.lt_size e
  have apartC : ∀ b ∈ fp, FpOk X pins (upd Hb D (.dT [])) b ∧ b < sc.heap.objs.size := fun b hb => by
    have lt := low b hb
    refine ⟨⟨?_, (apart b hb).2⟩, by rw [esh, Heap.size_push]; exact Nat.lt_succ_of_lt lt⟩
    rw [upd_ne (by rw [← eD]; exact Nat.ne_of_lt lt)]
    exact (apart b hb).1
  have atC : tn 0 sc.heap := Tn.keep _ _ _ at0 fun b _ o e => by rw [esh]; exact Heap.get?_push_of_some _ e
  have Id := block_start Ic ok hN apartC
  have pg := hg sc (upd Hb D (.dT [])) sc.heap.objs.size (cellsFrom (sc.heap.objs.size + 1) scope.names (cloFrom X.env.cells scope.names [])) fp
  have pt := ht sc (upd Hb D (.dT [])) sc.heap.objs.size (cellsFrom (sc.heap.objs.size + 1) scope.names (cloFrom X.env.cells scope.names [])) fp
  have pk := hk sc (upd Hb D (.dT [])) sc.heap.objs.size (cellsFrom (sc.heap.objs.size + 1) scope.names (cloFrom X.env.cells scope.names [])) fp
  have pw := he sc (upd Hb D (.dT [])) sc.heap.objs.size (cellsFrom (sc.heap.objs.size + 1) scope.names (cloFrom X.env.cells scope.names [])) fp
  rw [show ({ sb with heap := sb.heap.push { cls := .type "dict", data := .dict #[] } } : Shared) = sc from esc]
  have nofp : ∀ b ∈ fp, (upd Hb D (.dT [])) b = none := fun b hb => (apartC b hb).1.1
  show codeAny _ _ (.compStart (.DictComp kx vx [⟨tg, iter, ifs, 0⟩] scope pos) 0 (.ref it) (.ref D) (compEnvC scope (cellsFrom (sc.heap.objs.size + 1) scope.names (cloFrom X.env.cells scope.names [])) sc.heap.objs.size X.env)) (compPost (model X.prog X.w) X.A X.xe none _ (.ref D) sc.heap.objs.size) { sc with heap := pushCells (sc.heap.push { cls := .type "dict", data := .dict #[] }) scope.names }
  generalize ece : compEnvC scope (cellsFrom (sc.heap.objs.size + 1) scope.names (cloFrom X.env.cells scope.names [])) sc.heap.objs.size X.env = ce at Id pg pt pk pw ⊢
  have locs : ce.locals = sc.heap.objs.size := by subst ece; rfl
  generalize eHc : upd Hb D (.dT []) = Hc at Ic Id pg pt pk pw w0 nofp apartC
  obtain ⟨sd, esd⟩ : ∃ sd : Shared, ({ sc with heap := pushCells (sc.heap.push { cls := .type "dict", data := .dict #[] }) scope.names } : Shared) = sd := ⟨_, rfl⟩
  rw [esd] at Id ⊢
  have atD : tn 0 sd.heap := Tn.keep _ _ _ atC fun b _ o e => by rw [← esd]; exact pushCells_keeps _ _ _ _ (Heap.get?_push_of_some _ e)
  have still : ∀ {σ' : L2.St} {H' : Hp} {s' : Shared}, Inv (X.blk sc Hc scope ce fp) [] σ' H' s' → (∀ b ∈ fp, H' b = none) → ∀ b ∈ fp, FpOk (X.blk sc Hc scope ce fp) [] H' b := fun {σ' H' s'} J' n b hb =>
    ⟨n b hb, (J'.ok.exf b hb).1, J'.ok.exfs b hb, .inl hb, fun x c e => (J'.ok.exf b hb).2 x c e, fun p hp => absurd (show p ∈ ([] : List (Addr × Obj)) ++ [] from hp) (by simp)⟩
  have loop : codeAny (model X.prog X.w) X.A (.compLoop (.DictComp kx vx [⟨tg, iter, ifs, 0⟩] scope pos) 0 (.ref it) (.ref D) ce) (compPost (model X.prog X.w) X.A X.xe none (EP X pins σ Q) (.ref D) sc.heap.objs.size) sd := by
    refine compLoop_anyD (fun n s' => ∃ i H', Inv (X.blk sc Hc scope ce fp) [] (wipe σ (own.map (·.2))) H' s' ∧ tn i s'.heap ∧ (∀ b ∈ fp, H' b = none) ∧ W i n H') ?_ m0 ⟨0, Hc, Id, atD, nofp, w0⟩
    rintro n se ⟨i, He, Ie, atE, nE, wE⟩
    rcases turn i n He wE with ⟨stop, fin⟩ | ⟨go, Nx, less, step⟩
    · refine thnF (Tn.done (X.blk sc Hc scope ce fp) rfl rfl rfl hc i [] se _ He (fun _ _ => False) Ie (still Ie nE) atE stop) fun r sf z => ?_
      obtain ⟨rfl, If⟩ := z
      have Ig : Inv X pins σ He sf := Ic.call' (ch := fp) If.os If.base If.hok If.bare fun b hb => ⟨(apartC b hb).1.2.2.2.1, (apartC b hb).1.2.1, (apartC b hb).1.2.2.2.2.1, (apartC b hb).1.2.2.2.2.2⟩
      have freeC : He sc.heap.objs.size = none := by
        have z : He ce.locals = none := If.free
        rw [locs] at z
        exact z
      obtain ⟨m, ns, _⟩ := If.loc
      have ns : sf.heap.Ns ce.locals m := ns
      rw [locs] at ns
      obtain ⟨g0, g1, g2, g3, g4, g5⟩ := Ic.fpOk (H' := He) (Nat.le_refl _) freeC
      exact ⟨m, ns, fun h'' same => ⟨.ref D, He, Ig.turned (t' := sf.toks) (fun b o hb e => (same.2 b hb).trans e) g0 g1 g3 g4 g5, rfl, fin⟩⟩
    · refine thnF (Tn.item (X.blk sc Hc scope ce fp) rfl rfl rfl hc i [] se _ He (fun _ _ => False) Ie (still Ie nE) atE go) fun r sf z => ?_
      obtain ⟨u, rfl, next⟩ := z
      refine thnF next fun _ sg z => ?_
      obtain ⟨x, Hg, Ig, rg, yg, atG, nG⟩ := z
      have Ih := Ig.pinned (still Ig nG) (Tn.obj _ _ atG)
      refine thnF (pg.run _ sg _ Hg x u _ Ih rg (step x Hg yg)) fun _ si z => ?_
      obtain ⟨σi, Hi, Ii, wi', qi⟩ := z
      refine thnF (pt.run _ si σi Hi _ Ii qi) fun b sj z => ?_
      obtain ⟨Hj, Ij, qj⟩ := z
      have fin : ∀ {s' : Shared} {H' : Hp}, Inv (X.blk sc Hc scope ce fp) ([] ++ pinsAt fp sg.heap) σi H' s' → Nx H' → ∃ m, m < n ∧ ∃ i H', Inv (X.blk sc Hc scope ce fp) [] (wipe σ (own.map (·.2))) H' s' ∧ tn i s'.heap ∧ (∀ b ∈ fp, H' b = none) ∧ W i m H' := fun {s' H'} J' nx => by
        obtain ⟨m', lt, w'⟩ := less H' nx
        have pinned : ∀ b ∈ fp, ∀ o, sg.heap.get? b = some o → s'.heap.get? b = some o ∧ H' b = none := fun b hb o e =>
          let z := J'.pin (b, o) (List.mem_append_right _ (List.mem_append_right _ (mem_pinsAt hb e)))
          ⟨z.1, z.2.1⟩
        have len : (wipe σ (own.map (·.2))).length = σi.length := by rw [← wi', wipe_length]
        refine ⟨m', lt, i + 1, H', (J'.unpinned (pins := [])).weak len (fun j v e => ?_), Tn.keep _ _ _ atG fun b hb o e => (pinned b hb o e).1, fun b hb => ?_, w'⟩
        · rw [← wi'] at e
          exact (wipe_some e).1
        · obtain ⟨o, e, _⟩ := Tn.obj _ _ atG b hb
          exact (pinned b hb o e).2
      cases b with
      | false => exact fin Ij qj
      | true =>
        refine thnF (pk.run _ sj σi Hj _ Ij qj) fun z1 sk z => ?_
        obtain ⟨yk, Hk, Ik, rk, qk⟩ := z
        refine thnF (pw.run _ sk σi Hk _ Ik qk) fun z2 sl z => ?_
        obtain ⟨yv, Hl, Il, rl, kvs, k, c, rfl, atKey, atDict, room, nx⟩ := z
        cases (show z1 = Value.ref c from rk)
        exact dt_dictSet (X := X.blk sc Hc scope ce fp) hu Il atDict atKey room rl fun sm Im => fin Im nx
  exact codeAny_compStart_dict loop (Tn.self X.A 0 _ _ _ atD loop)
end
end DW
namespace DW
open PySem PySem.Spec PyProof.Rows L2
/-! ### set(texts), with as many texts as one likes below the scan's bound -/
/-- how many of the first i texts are new -/
def newN (xs : List Str) : Nat → Nat
  | 0 => 0
  | i + 1 => if (xs.take i).any (· == xs.getD i Str.empty) = true then newN xs i else newN xs i + 1
theorem newN_le (xs : List Str) : ∀ i, newN xs i ≤ i
  | 0 => Nat.le_refl 0
  | i + 1 => by
    have z := newN_le xs i
    unfold newN
    split <;> omega
abbrev inN (xs : List Str) (i : Nat) : Str → Bool := fun y => (xs.take i).any (· == y)
theorem inN_step {xs : List Str} {i : Nat} (h : i < xs.length) (y : Str) : (inN xs i y || decide (y = xs.getD i Str.empty)) = inN xs (i + 1) y := by
  have e : xs[i]? = some (xs.getD i Str.empty) := by rw [List.getD_eq_getElem?_getD, List.getElem?_eq_getElem h]; rfl
  unfold inN
  rw [takeSucc e, List.any_append, List.any_cons, List.any_nil, Bool.or_false]
  congr 1
  rw [Bool.eq_iff_iff, decide_eq_true_iff, beq_iff_eq]
  exact ⟨fun z => z.symm, fun z => z.symm⟩
section
variable {prog : Program} {w : World} {A : Around} {R : Result → Shared → Prop} {I : Addr} {fp wr : List Addr} {G : Array GenState → Array GenState → Prop} {n : Nat} {Pv : Nat → Value → Prop} {St : Nat → Shared → Prop}
theorem setLoop (W : WalksS prog w A.in1 I fp wr G n Pv St) {S : Addr} (out : S ∉ fp) {xs : List Str} (len : xs.length = n) (small : n + 1 < scanBound) (val : ∀ i v, Pv i v → ∃ t, v = .str (xs.getD i Str.empty) t) :
    ∀ (left i : Nat) (s : Shared), n - i = left → i ≤ n → St i s → s.heap.SetOf (PySem.strKind prog w) S (inN xs i) (newN xs i) →
      (∀ s', Moved (S :: wr) G s s' → s'.heap.SetOf (PySem.strKind prog w) S (inN xs n) (newN xs n) → R (.ok (.ret .none)) s') →
      codeAny (model prog w) A (.builtin "set.update.loop" ⟨[.ref S, .ref I], []⟩) R s := by
  have nw : S ∉ wr := fun z => out (W.sub _ z)
  have up : ∀ b ∈ wr, b ∈ S :: wr := fun b z => List.mem_cons_of_mem _ z
  have kept : ∀ {s s' : Shared} {f : Str → Bool} {m : Nat}, Moved wr G s s' → s.heap.SetOf (PySem.strKind prog w) S f m → s'.heap.SetOf (PySem.strKind prog w) S f m := fun mv ⟨o, es, ep, t, ho, more⟩ => ⟨o, es, ep, t, mv.heap S _ nw ho, more⟩
  intro left
  induction left with
  | zero =>
    intro i s hk hi hst hS fin
    obtain rfl : i = n := by omega
    refine codeAny_builtin PyProof.Rows.F.entry_set_update_loop (by
      rw [Around.under_plainId PyProof.Rows.F.plain_set_update_loop _]
      exact wpAny_bind (W.done s _ _ hst fun s' mv => wpAny_pure (fin s' (mv.mono up) (kept mv hS))))
  | succ left ih =>
    intro i s hk hi hst hS fin
    have lt : i < n := by omega
    refine codeAny_builtin PyProof.Rows.F.entry_set_update_loop (by
      rw [Around.under_plainId PyProof.Rows.F.plain_set_update_loop _]
      refine wpAny_bind (W.item i s _ _ lt hst fun v s1 hv hst1 mv => ?_)
      obtain ⟨t, rfl⟩ := val i v hv
      have hS1 := kept mv hS
      refine (show wpAny _ A.in1 (holding [Value.str (xs.getD i Str.empty) t] (setAdd S (.str (xs.getD i Str.empty) t)) >>= _) _ _ s1 from wpAny_bind (wpAny_holding ?_))
      unfold setAdd
      refine wpAny_holding (wpAny_bind ((PySem.strKind prog w).pyHash (k := xs.getD i Str.empty) (strKind_is _ _ _ _) ?_))
      have room := newN_le xs i
      refine wpAny_setAddHashed_of (knd := PySem.strKind prog w) (s := { s1 with toks := s1.toks + 1 }) (strKind_is _ _ _ _) rfl hS1 (by omega) fun h' but hS2 => ?_
      have hS3 : h'.SetOf (PySem.strKind prog w) S (inN xs (i + 1)) (newN xs (i + 1)) := PyProof.Rows.SetOf_congr hS2 (fun y => inN_step (by omega) y) rfl
      refine wpAny_pure ⟨plainId_quiet PyProof.Rows.F.plain_set_update_loop _, ih (i + 1) _ (by omega) lt (W.frame _ s1 _ _ hst1 (Nat.le_succ _) fun b hb o e => (but.2 b fun z => out (z ▸ hb)).trans e) hS3 fun s2 mv2 hS4 => ?_⟩
      exact fin s2 (Moved.trans W.gtrans ((mv.mono up).then_heap (Nat.le_succ _) fun b o hb e => (but.2 b fun z => hb (z ▸ List.mem_cons_self)).trans e) mv2) hS4)
end
section
variable {prog : Program} {w : World} {A : Around} {E : Value → Shared → Prop} {s : Shared}
abbrev rawSet (led : Bool) : Obj := { cls := .type "set", dict := none, data := .set #[] 0 (.fresh 0 0 led) }
/-- what stands behind the making: the set at a, all older objects as they were -/
def SetMade (prog : Program) (w : World) (h : Heap) (a : Addr) (xs : List Str) (h' : Heap) : Prop :=
  h'.SetOf (PySem.strKind prog w) a (inN xs xs.length) (newN xs xs.length) ∧ ∀ b o, b < h.objs.size → h.get? b = some o → h'.get? b = some o
theorem setFill {l : Addr} {items : Array Value} {xs : List Str} {led : Bool} (hh : A.handled = none) (hl : s.heap.IsList l items) (hi : PyProof.Rows.StrsAre items.toList xs) (small : xs.length + 1 < scanBound) :
    codeAny (model prog w) A (.call (.builtin "set.__init__") ⟨[.ref s.heap.objs.size, .ref l], []⟩)
      (wants (fun r s2 => r = .none ∧ ∃ h' tk, s2 = { s with heap := h', toks := tk } ∧ SetMade prog w s.heap s.heap.objs.size xs h') E) { s with heap := s.heap.push (rawSet led) } := by
  have hS : (s.heap.push (rawSet led)).get? s.heap.objs.size = some (rawSet led) := Heap.get?_push_size _ rfl
  have hT : Shared.TypeIs { s with heap := s.heap.push (rawSet led) } (.ref s.heap.objs.size) "set" := ⟨_, hS, rfl⟩
  refine codeAny_call_builtin PySem.F.called_set.init.plain PySem.F.entry_set_init (check_set_init_1 hT ?_)
  obtain ⟨⟨oc, odict, odata, oslots⟩, hol, hcl, nl, hdl⟩ := hl
  simp only at hcl hdl
  subst hcl hdl
  have hol1 := Heap.get?_push_of_some (rawSet led) hol
  have f1 := PySem.F.sub_list_set
  have f2 := PySem.F.sub_list_frozenset
  have f3 : (Value.type "list" == Value.type "dict") = false := by decide
  have hl1 : (s.heap.push (rawSet led)).IsList l items := ⟨_, hol1, rfl, nl, rfl⟩
  unfold Builtin.«set.__init__» noKeywords Builtin.Frozenset.updateFrom
  generalize hPI : pyIter = PI
  wp_walk
  subst hPI
  have old : l < s.heap.objs.size := Heap.lt_size hol
  have len : xs.length = items.size := (StrsAre.len_eq hi).symm.trans Array.length_toList
  have nI : l ≠ (s.heap.push (rawSet led)).objs.size := fun z => by rw [Heap.size_push] at z; exact Nat.ne_of_lt (Nat.lt_succ_of_lt old) z
  have out : s.heap.objs.size ∉ [(s.heap.push (rawSet led)).objs.size, l] := fun z => by
    rw [Heap.size_push] at z
    simp only [List.mem_cons, List.not_mem_nil, or_false] at z
    rcases z with z | z
    · exact Nat.ne_of_lt (Nat.lt_succ_self _) z
    · exact Nat.ne_of_lt old z.symm
  have vals : ∀ (i : Nat) (v : Value), items[i]? = some v → ∃ t, v = .str (xs.getD i Str.empty) t := fun i v e => SS.strs_at hi i v (Array.getElem?_toList.trans e)
  have get0 : ((s.heap.push (rawSet led)).push { cls := .type "list_iterator", data := .fields #[.ref l, .int 0 0] }).get? s.heap.objs.size = some (rawSet led) := Heap.get?_push_of_some _ hS
  have start : ((s.heap.push (rawSet led)).push { cls := .type "list_iterator", data := .fields #[.ref l, .int 0 0] }).SetOf (PySem.strKind prog w) s.heap.objs.size (inN xs 0) (newN xs 0) :=
    PyProof.Rows.SetOf_congr ((PyProof.Rows.setObjOf_fresh (knd := PySem.strKind prog w) led).setOf get0 (by unfold scanBound; omega)) (fun _ => rfl) rfl
  have W := (Walks.list (prog := prog) (w := w) (A := A.in1.in1) (by simp [hh]) (s.heap.push (rawSet led)).objs.size l nI items).toS
  refine wpAny_pyIter_list hl1 (wpAny_bind (wpAny_runValue (setLoop W out len (by omega) vals (items.size - 0) 0 { s with heap := (s.heap.push (rawSet led)).push { cls := .type "list_iterator", data := .fields #[.ref l, .int 0 0] } } (by omega) (Nat.zero_le _) ⟨⟨_, Heap.get?_push_size _ rfl, rfl, rfl⟩, hl1.push _⟩ start fun s2 mv hS2 => ?_)))
  obtain ⟨h', g', d', tk', os'⟩ := s2
  cases (show g' = s.gens from mv.gens)
  cases (show d' = s.drawn from mv.drawn)
  cases (show os' = s.os from mv.os)
  refine wpAny_pure (wpAny_pure ⟨rfl, h', tk', rfl, by rw [len]; exact hS2, fun b o hb e => ?_⟩)
  refine mv.heap b o (fun z => ?_) (Heap.get?_push_of_some _ (Heap.get?_push_of_some _ e))
  rw [Heap.size_push] at z
  simp only [List.mem_cons, List.not_mem_nil, or_false] at z
  rcases z with z | z
  · exact Nat.ne_of_lt hb z
  · exact Nat.ne_of_lt (Nat.lt_succ_of_lt hb) z
theorem setList {l : Addr} {items : Array Value} {xs : List Str} {Q : Value → Shared → Prop} (hh : A.handled = none) (hl : s.heap.IsList l items) (hi : PyProof.Rows.StrsAre items.toList xs) (small : xs.length + 1 < scanBound)
    (k : ∀ h' tk, SetMade prog w s.heap s.heap.objs.size xs h' → Q (.ref s.heap.objs.size) { s with heap := h', toks := tk }) : wpAny (model prog w) A (call (.type "set") [.ref l]) Q E s := by
  obtain ⟨c, tl, hmro⟩ := PySem.F.called_set.mro
  have g1 := PySem.F.called_set.made
  have g2 := PySem.F.called_set.sub
  have g3 := PySem.F.called_set.notType
  have g4 := PySem.F.called_set.canCreate
  have g5 := PySem.F.typeCall_set_1 (.ref l)
  refine wpAny_call (codeAny_of_tree (show wpAny _ _ (callAny (.type "set") _) _ _ _ from wpAny_pure ⟨Code.quiet_builtin _ (by decide +kernel), codeAny_builtin PySem.F.entry_type_call ?_⟩))
  rw [Around.under_plain (weight_type_call_type "set" [.ref l] []) rfl]
  repeat (any_goals (first | assumption | wp_step))
  refine codeAny_mono (code_set_new_1 (.ref l) (E := E) (Q₁ := fun obj s1 => ∃ led : Bool, obj = .ref s.heap.objs.size ∧ s1 = { s with heap := s.heap.push (rawSet led) }) fun led => ⟨led, rfl, rfl⟩) fun r s1 z => ?_
  match r, z with
  | .ok (.ret _), ⟨led, e1, e2⟩ =>
    subst e1 e2
    have hT : Shared.TypeIs { s with heap := s.heap.push (rawSet led) } (.ref s.heap.objs.size) "set" := ⟨_, Heap.get?_push_size _ rfl, rfl⟩
    have i1 := PySem.F.called_set.init.lookup
    have i2 := PySem.F.called_set.init.bind (.ref s.heap.objs.size)
    repeat (any_goals (first | assumption | wp_step))
    refine codeAny_mono (setFill (E := E) (by simp [hh]) hl hi small) fun r2 s2 z2 => ?_
    match r2, z2 with
    | .ok (.ret _), ⟨e3, h', tk, e4, made⟩ =>
      subst e3 e4
      repeat (any_goals (first | assumption | wp_step))
      exact k h' tk made
    | .error e, z2 => exact z2
  | .error e, z => exact z
end
section
variable {X : Cx}
/-- len(set(e)), e a list of texts -/
def tLenS (K : PySem.W.Frag) (te : TE) : TE := fun σ H Q => te σ H fun x H1 => ∃ (l : Addr) (xs : List Str), x = .ref l ∧ SqL K H1 l (xs.map V.str) ∧ xs.length + 1 < scanBound ∧ Q (.int (newN xs xs.length : Nat)) H1
theorem pe_lenS {e : Expr} {te : TE} {p p2 q pos : Pos} (hc : X.calm = true) (hg : Gl X "len") (hm : X.mg "len" = none) (hg2 : Gl X "set") (hm2 : X.mg "set" = none) (he : PE X e te)
    (na : starEach [e] X.env = (false, eval e X.env) :: starEach [] X.env := by rfl) : PE X (.Call (.Name "len" p) [.Call (.Name "set" p2) [e] [] q] [] pos) (tLenS X.K te) := by
  refine ⟨fun pins s σ H Q I h => ?_⟩
  refine Call_ (ld_blt I hg hm PySem.boot_len (PyProof.Rows.callWith_builtin1 (PyProof.Rows.args_cons ?_ rfl) rfl rfl))
  refine Call_ (ld_blt I hg2 hm2 boot_set (PyProof.Rows.callWith_type1 (PyProof.Rows.args_cons (thn (he.run pins s σ H _ I h) fun v s1 z => PyProof.Rows.args_nil ?_) na) na rfl))
  obtain ⟨x, H1, I1, r1, l, xs, rfl, hq, small, q1⟩ := z
  cases r1
  obtain ⟨its, r, pl, hz⟩ := I1.list hq
  refine setList (I1.ok.hd hc) pl.isList (by simpa using L2.strsAre_of r) small fun h' tk made => PyProof.Rows.args_nil ?_
  obtain ⟨⟨o, es, ep, t, ho, hex, hd, _, _, _, hf, hn⟩, kept⟩ := made
  have I2 : Inv X pins σ H1 { s1 with heap := h', toks := tk } := I1.kept fun b o e => kept b o (Heap.lt_size e) e
  have le := newN_le xs xs.length
  have sb : scanBound < 2 ^ 60 := by unfold scanBound; decide
  exact call_len_set ho hex hd hf (by rw [hn]; omega) ⟨.int (newN xs xs.length : Nat), H1, I2.tok _, ⟨_, by rw [hn]⟩, q1⟩
end
end DW
namespace DW
open PySem PySem.Spec PyProof.Rows L2
/-! ### sorted(set(texts)) -/
/-- the set at a, whose table can be walked -/
def SetW {P : Program} {w : World} {K : Type} [DecidableEq K] (knd : KeyKind P w K) (h : Heap) (a : Addr) (S : K → Bool) (n : Nat) : Prop :=
  ∃ o es ep t, h.get? a = some o ∧ o.ExactSet ∧ o.data = .set es ep t ∧ ElemsOf knd es.toList ∧ (∀ k, S k = true ↔ ∃ e ∈ es.toList, knd.is k e.2 = true) ∧ es.size < scanBound ∧ t.fits es.size = true ∧ es.size = n ∧
    Ris t.place.toList ∧ (w.params.followText "set-order" = true ∨ t.led = true)
section
variable {P : Program} {w : World} {K : Type} [DecidableEq K] {knd : KeyKind P w K} {A : Around} {E : Value → Shared → Prop} {s : Shared} {a : Addr} {S : K → Bool} {n : Nat}
theorem SetW.at {h h' : Heap} (R : SetW knd h a S n) (k : ∀ o, h.get? a = some o → h'.get? a = some o) : SetW knd h' a S n := by
  obtain ⟨o, es, ep, t, ho, r⟩ := R
  exact ⟨o, es, ep, t, k o ho, r⟩
theorem SetW.congr {h : Heap} {S' : K → Bool} {m : Nat} (R : SetW knd h a S n) (e : ∀ k, S k = S' k) (em : n = m) : SetW knd h a S' m := by
  obtain rfl : S = S' := funext e
  subst em
  exact R
/-- the store of a grown table, and its laying anew -/
theorem setW_tail {g : Bool → Sem Unit} (quiet : ∀ (b : Bool) (s₁ : Shared) (Q' : Unit → Shared → Prop), Q' () s₁ → wpAny (model P w) A (g b) Q' E s₁) {o : Obj} {es : Array (Int × Value)} {ep : Nat} {t : SetTable} (ho : s.heap.get? a = some o) (ex : o.ExactSet) (hd : o.data = .set es ep t)
    {es1 : Array (Int × Value)} {t2 : SetTable} {S' : K → Bool} (el : ElemsOf knd es1.toList) (mem : ∀ k, S' k = true ↔ ∃ e ∈ es1.toList, knd.is k e.2 = true) (low : es1.size < scanBound) (fit : t2.fits es1.size = true) (ris : Ris t2.place.toList) (led : w.params.followText "set-order" = true ∨ t2.led = true)
    {wasDummy : Bool} {R : Option Bool → Shared → Prop} (fin : ∀ h', Heap.SameBut a s.heap h' → SetW knd h' a S' es1.size → R (some true) { s with heap := h' }) :
    wpAny (model P w) A (do
        storeSet a es1 t2
        if (!wasDummy && t2.tooFull) = true then do
            g (relayAll t2 es1 (SetTable.grown es1.size)).2.2; storeSet a (relayAll t2 es1 (SetTable.grown es1.size)).1 (relayAll t2 es1 (SetTable.grown es1.size)).2.1; pure (some true)
          else pure (some true)) R E s := by
  refine wpAny_bind (wpAny_storeSet_of ho hd ?_ (fits_of_scanBound low))
  have at1 := store_at (es' := es1) (t' := t2) ho hd
  have same1 := Heap.SameBut.update s.heap a (Obj.putSet es1 t2)
  by_cases c : (!wasDummy && t2.tooFull) = true
  · rw [if_pos c]
    have perm := relayAll_perm t2 es1 (SetTable.grown es1.size)
    have fit3 := relayAll_fits t2 es1 (SetTable.grown es1.size)
    have ris3 := relayAll_ris t2 es1 (SetTable.grown es1.size)
    have led3 := relayAll_led t2 es1 (SetTable.grown es1.size)
    generalize relayAll t2 es1 (SetTable.grown es1.size) = Z at perm fit3 ris3 led3 ⊢
    obtain ⟨es2, t3, gave⟩ := Z
    simp only at perm fit3 ris3 led3 ⊢
    have size2 : es2.size = es1.size := by rw [← Array.length_toList, perm.length_eq, Array.length_toList]
    refine wpAny_bind (quiet _ _ _ (wpAny_bind (wpAny_storeSet_of at1 rfl (wpAny_pure (fin _ (same1.trans (Heap.SameBut.update _ a _)) ?_)) (fits_of_scanBound (by rw [size2]; exact low)))))
    exact ⟨_, es2, _, t3, store_at (es' := es2) (t' := t3) at1 rfl, ex, rfl, el.perm perm, fun k => (mem k).trans ⟨fun ⟨e, m, q⟩ => ⟨e, perm.mem_iff.mpr m, q⟩, fun ⟨e, m, q⟩ => ⟨e, perm.mem_iff.mp m, q⟩⟩, by rw [size2]; exact low, fit3, size2, ris3, led.imp id fun z => by rw [led3]; exact z⟩
  · rw [if_neg c]
    exact wpAny_pure (fin _ same1 ⟨_, es1, _, t2, at1, ex, rfl, el, mem, low, fit, rfl, ris, led⟩)
theorem setW_add {k : K} {x : Value} {Q : Bool → Shared → Prop} (hk : knd.is k x = true) (scan : x.scannable = true) (R : SetW knd s.heap a S n) (room : n + 1 < scanBound)
    (fin : ∀ h', Heap.SameBut a s.heap h' → SetW knd h' a (fun j => S j || decide (j = k)) (if S k = true then n else n + 1) → Q (!S k) { s with heap := h' }) : wpAny (model P w) A (setAddHashed a x (knd.hash k)) Q E s := by
  obtain ⟨o, es, ep, t, ho, ex, hd, el, mem, low, fit, size, ris, led⟩ := R
  unfold setAddHashed setAddHashedIn
  refine wpAny_holding (wpAny_bind (wpAny_setState_of ho hd fit ?_))
  dsimp only
  rw [byScan_of scan low el]
  simp only [↓reduceIte]
  unfold setAddByScan
  refine wpAny_bind (wpAny_bind (wpAny_rule (wpAny_bind (wpAny_setScan_of hk ho hd fit el ?_))))
  cases found : List.findIdx? (fun e => knd.is k e.2) es.toList with
  | some j =>
    obtain ⟨lt, is, _⟩ := List.findIdx?_eq_some_iff_getElem.mp found
    have yes : S k = true := (mem k).mpr ⟨es.toList[j], List.getElem_mem lt, is⟩
    have q := fin s.heap (Heap.SameBut.refl a s.heap) ⟨o, es, ep, t, ho, ex, hd, el, fun i => by
      rw [Bool.or_eq_true, decide_eq_true_eq, ← mem i]
      exact ⟨fun z => z.elim id (fun e => e ▸ yes), .inl⟩, low, fit, by rw [if_pos yes]; exact size, ris, led⟩
    rw [yes] at q
    exact wpAny_pure (wpAny_pure q)
  | none =>
    have no : S k = false := by
      cases q : S k with
      | false => rfl
      | true =>
        obtain ⟨e, m, is⟩ := (mem k).mp q
        have z := List.findIdx?_eq_none_iff.mp found e m
        rw [is] at z
        cases z
    have perm := layNew_perm t es (knd.hash k) x
    have fit1 := layNew_fits t es (knd.hash k) x
    have ris1 := layNew_ris t es (knd.hash k) x ris
    have led1 := layNew_led t es (knd.hash k) x
    generalize layNew t es (knd.hash k) x = Z at perm fit1 ris1 led1 ⊢
    obtain ⟨es1, t1, wasDummy, gave⟩ := Z
    simp only at perm fit1 ris1 led1 ⊢
    rw [Array.toList_push] at perm
    have el1 : ElemsOf knd es1.toList := (el.push hk scan).perm perm
    have mem1 : ∀ j, (S j || decide (j = k)) = true ↔ ∃ e ∈ es1.toList, knd.is j e.2 = true := mem_push_iff hk mem perm
    have size1 : es1.size = n + 1 := by rw [← Array.length_toList, perm.length_eq, List.length_append, Array.length_toList, size]; rfl
    have led2 : w.params.followText "set-order" = true ∨ t1.led = true := led.imp id fun z => by rw [led1]; exact z
    have done : ∀ h', Heap.SameBut a s.heap h' → SetW knd h' a (fun j => S j || decide (j = k)) es1.size → Q true { s with heap := h' } := fun h' same r => by
      have q := fin h' same
      rw [no] at q
      rw [size1] at r
      exact q r
    have gw : ∀ (b : Bool) {s₁ : Shared} {Q' : Unit → Shared → Prop}, Q' () s₁ → wpAny (model P w) A (match b with | true => rule "set.scan.the-table-gave-way" | false => pure ()) Q' E s₁ := fun b s₁ Q' q => by
      cases b
      · exact wpAny_pure q
      · exact wpAny_rule q
    have low1 : es1.size < scanBound := by rw [size1]; exact room
    refine wpAny_bind (gw _ ?_)
    split
    · refine wpAny_bind (by
        rw [hashByValue_scannable 8 scan]
        refine wpAny_pure (setW_tail (fun b s₁ Q' q => by cases b <;> first | exact wpAny_pure q | exact wpAny_rule q) ho ex hd el1 mem1 low1 ?_ ?_ ?_ fun h' same r => wpAny_pure (done h' same r))
        · split
          · exact fit1
          · exact SetTable.fits_plain_off fit1
        · split <;> exact ris1
        · split <;> exact led2)
    · refine wpAny_bind (wpAny_pure ?_)
      simp only [↓reduceIte]
      exact setW_tail (fun b s₁ Q' q => by cases b <;> first | exact wpAny_pure q | exact wpAny_rule q) ho ex hd el1 mem1 low1 fit1 ris1 led2 fun h' same r => wpAny_pure (done h' same r)
end
end DW
namespace DW
open PySem PySem.Spec PyProof.Rows L2
section
variable {prog : Program} {w : World} {A : Around} {E : Value → Shared → Prop} {s : Shared}
abbrev newSetO (w : World) : Obj := rawSet (!w.params.followText "set-order")
theorem setW_new (a : Value) {Q₁ : Value → Shared → Prop} (h : Q₁ (.ref s.heap.objs.size) { s with heap := s.heap.push (newSetO w) }) : codeAny (model prog w) A (.call (.builtin "set.__new__") ⟨[.type "set", a], []⟩) (wants Q₁ E) s := by
  refine codeAny_of_tree (show wpAny _ A.in1 (do checkBuiltinCall "set.__new__" ⟨[.type "set", a], []⟩; again (.builtin "set.__new__" ⟨[.type "set", a], []⟩)) _ _ s from ?_)
  refine wpAny_bind (wpAny_of_eq (PySem.F.newCall_set_1 a) (wpAny_pure ⟨plainId_quiet PySem.F.plain_set_new _, codeAny_builtin PySem.F.entry_set_new (by
    rw [Around.under_plainId PySem.F.plain_set_new _]
    unfold Builtin.«set.__new__» Builtin.Frozenset.newClass
    have isSet := sub_set_self
    obtain ⟨hp, g, d, tk, os⟩ := s
    dsimp only
    wp_walk
    refine wpAny_askSetting (wpAny_pure ?_)
    dsimp only
    simp only [newObj]
    exact wpAny_bind (wpAny_alloc (wpAny_pure (wpAny_pure h))))⟩))
end
section
variable {prog : Program} {w : World} {A : Around} {R : Result → Shared → Prop} {I : Addr} {fp wr : List Addr} {G : Array GenState → Array GenState → Prop} {n : Nat} {Pv : Nat → Value → Prop} {St : Nat → Shared → Prop}
theorem setLoopW (W : WalksS prog w A.in1 I fp wr G n Pv St) {S : Addr} (out : S ∉ fp) {xs : List Str} (len : xs.length = n) (small : n + 1 < scanBound) (val : ∀ i v, Pv i v → ∃ t, v = .str (xs.getD i Str.empty) t) :
    ∀ (left i : Nat) (s : Shared), n - i = left → i ≤ n → St i s → SetW (PySem.strKind prog w) s.heap S (inN xs i) (newN xs i) →
      (∀ s', Moved (S :: wr) G s s' → SetW (PySem.strKind prog w) s'.heap S (inN xs n) (newN xs n) → R (.ok (.ret .none)) s') → codeAny (model prog w) A (.builtin "set.update.loop" ⟨[.ref S, .ref I], []⟩) R s := by
  have nw : S ∉ wr := fun z => out (W.sub _ z)
  have up : ∀ b ∈ wr, b ∈ S :: wr := fun b z => List.mem_cons_of_mem _ z
  have kept : ∀ {s s' : Shared} {f : Str → Bool} {m : Nat}, Moved wr G s s' → SetW (PySem.strKind prog w) s.heap S f m → SetW (PySem.strKind prog w) s'.heap S f m := fun mv r => r.at fun o => mv.heap S o nw
  intro left
  induction left with
  | zero =>
    intro i s hk hi hst hS fin
    obtain rfl : i = n := by omega
    refine codeAny_builtin PyProof.Rows.F.entry_set_update_loop (by
      rw [Around.under_plainId PyProof.Rows.F.plain_set_update_loop _]
      exact wpAny_bind (W.done s _ _ hst fun s' mv => wpAny_pure (fin s' (mv.mono up) (kept mv hS))))
  | succ left ih =>
    intro i s hk hi hst hS fin
    have lt : i < n := by omega
    refine codeAny_builtin PyProof.Rows.F.entry_set_update_loop (by
      rw [Around.under_plainId PyProof.Rows.F.plain_set_update_loop _]
      refine wpAny_bind (W.item i s _ _ lt hst fun v s1 hv hst1 mv => ?_)
      obtain ⟨t, rfl⟩ := val i v hv
      have hS1 := kept mv hS
      refine (show wpAny _ A.in1 (holding [Value.str (xs.getD i Str.empty) t] (setAdd S (.str (xs.getD i Str.empty) t)) >>= _) _ _ s1 from wpAny_bind (wpAny_holding ?_))
      unfold setAdd
      refine wpAny_holding (wpAny_bind ((PySem.strKind prog w).pyHash (k := xs.getD i Str.empty) (strKind_is _ _ _ _) ?_))
      have room := newN_le xs i
      refine setW_add (s := { s1 with toks := s1.toks + 1 }) (strKind_is _ _ _ _) rfl hS1 (by omega) fun h' but hS2 => ?_
      have hS3 : SetW (PySem.strKind prog w) h' S (inN xs (i + 1)) (newN xs (i + 1)) := hS2.congr (fun y => inN_step (by omega) y) rfl
      refine wpAny_pure ⟨plainId_quiet PyProof.Rows.F.plain_set_update_loop _, ih (i + 1) _ (by omega) lt (W.frame _ s1 _ _ hst1 (Nat.le_succ _) fun b hb o e => (but.2 b fun z => out (z ▸ hb)).trans e) hS3 fun s2 mv2 hS4 => ?_⟩
      exact fin s2 (Moved.trans W.gtrans ((mv.mono up).then_heap (Nat.le_succ _) fun b o hb e => (but.2 b fun z => hb (z ▸ List.mem_cons_self)).trans e) mv2) hS4)
end
section
variable {prog : Program} {w : World} {A : Around} {E : Value → Shared → Prop} {s : Shared}
def SetMadeW (prog : Program) (w : World) (h : Heap) (a : Addr) (xs : List Str) (h' : Heap) : Prop :=
  SetW (PySem.strKind prog w) h' a (inN xs xs.length) (newN xs xs.length) ∧ ∀ b o, b < h.objs.size → h.get? b = some o → h'.get? b = some o
theorem setFillW {l : Addr} {items : Array Value} {xs : List Str} (hh : A.handled = none) (hl : s.heap.IsList l items) (hi : PyProof.Rows.StrsAre items.toList xs) (small : xs.length + 1 < scanBound) :
    codeAny (model prog w) A (.call (.builtin "set.__init__") ⟨[.ref s.heap.objs.size, .ref l], []⟩)
      (wants (fun r s2 => r = .none ∧ ∃ h' tk, s2 = { s with heap := h', toks := tk } ∧ SetMadeW prog w s.heap s.heap.objs.size xs h') E) { s with heap := s.heap.push (newSetO w) } := by
  have hS : (s.heap.push (newSetO w)).get? s.heap.objs.size = some (newSetO w) := Heap.get?_push_size _ rfl
  have hT : Shared.TypeIs { s with heap := s.heap.push (newSetO w) } (.ref s.heap.objs.size) "set" := ⟨_, hS, rfl⟩
  refine codeAny_call_builtin PySem.F.called_set.init.plain PySem.F.entry_set_init (check_set_init_1 hT ?_)
  obtain ⟨⟨oc, odict, odata, oslots⟩, hol, hcl, nl, hdl⟩ := hl
  simp only at hcl hdl
  subst hcl hdl
  have hol1 := Heap.get?_push_of_some (newSetO w) hol
  have f1 := PySem.F.sub_list_set
  have f2 := PySem.F.sub_list_frozenset
  have f3 : (Value.type "list" == Value.type "dict") = false := by decide
  have hl1 : (s.heap.push (newSetO w)).IsList l items := ⟨_, hol1, rfl, nl, rfl⟩
  unfold Builtin.«set.__init__» noKeywords Builtin.Frozenset.updateFrom
  generalize hPI : pyIter = PI
  wp_walk
  subst hPI
  have old : l < s.heap.objs.size := Heap.lt_size hol
  have len : xs.length = items.size := (StrsAre.len_eq hi).symm.trans Array.length_toList
  have nI : l ≠ (s.heap.push (newSetO w)).objs.size := fun z => by rw [Heap.size_push] at z; exact Nat.ne_of_lt (Nat.lt_succ_of_lt old) z
  have out : s.heap.objs.size ∉ [(s.heap.push (newSetO w)).objs.size, l] := fun z => by
    rw [Heap.size_push] at z
    simp only [List.mem_cons, List.not_mem_nil, or_false] at z
    rcases z with z | z
    · exact Nat.ne_of_lt (Nat.lt_succ_self _) z
    · exact Nat.ne_of_lt old z.symm
  have vals : ∀ (i : Nat) (v : Value), items[i]? = some v → ∃ t, v = .str (xs.getD i Str.empty) t := fun i v e => SS.strs_at hi i v (Array.getElem?_toList.trans e)
  have get0 : ((s.heap.push (newSetO w)).push { cls := .type "list_iterator", data := .fields #[.ref l, .int 0 0] }).get? s.heap.objs.size = some (newSetO w) := Heap.get?_push_of_some _ hS
  have start : SetW (PySem.strKind prog w) ((s.heap.push (newSetO w)).push { cls := .type "list_iterator", data := .fields #[.ref l, .int 0 0] }) s.heap.objs.size (inN xs 0) (newN xs 0) :=
    ⟨_, #[], 0, _, get0, ⟨rfl, rfl, rfl⟩, rfl, (fun e he => by simp at he), (fun k => by simp [inN]), (by unfold scanBound; decide), (by rfl), rfl, List.Pairwise.nil, by
      show _ ∨ (!w.params.followText "set-order") = true
      cases w.params.followText "set-order"
      · exact .inr rfl
      · exact .inl rfl⟩
  have W := (Walks.list (prog := prog) (w := w) (A := A.in1.in1) (by simp [hh]) (s.heap.push (newSetO w)).objs.size l nI items).toS
  refine wpAny_pyIter_list hl1 (wpAny_bind (wpAny_runValue (setLoopW W out len (by omega) vals (items.size - 0) 0 { s with heap := (s.heap.push (newSetO w)).push { cls := .type "list_iterator", data := .fields #[.ref l, .int 0 0] } } (by omega) (Nat.zero_le _) ⟨⟨_, Heap.get?_push_size _ rfl, rfl, rfl⟩, hl1.push _⟩ start fun s2 mv hS2 => ?_)))
  obtain ⟨h', g', d', tk', os'⟩ := s2
  cases (show g' = s.gens from mv.gens)
  cases (show d' = s.drawn from mv.drawn)
  cases (show os' = s.os from mv.os)
  refine wpAny_pure (wpAny_pure ⟨rfl, h', tk', rfl, by rw [len]; exact hS2, fun b o hb e => ?_⟩)
  refine mv.heap b o (fun z => ?_) (Heap.get?_push_of_some _ (Heap.get?_push_of_some _ e))
  rw [Heap.size_push] at z
  simp only [List.mem_cons, List.not_mem_nil, or_false] at z
  rcases z with z | z
  · exact Nat.ne_of_lt hb z
  · exact Nat.ne_of_lt (Nat.lt_succ_of_lt hb) z
theorem setListW {l : Addr} {items : Array Value} {xs : List Str} {Q : Value → Shared → Prop} (hh : A.handled = none) (hl : s.heap.IsList l items) (hi : PyProof.Rows.StrsAre items.toList xs) (small : xs.length + 1 < scanBound)
    (k : ∀ h' tk, SetMadeW prog w s.heap s.heap.objs.size xs h' → Q (.ref s.heap.objs.size) { s with heap := h', toks := tk }) : wpAny (model prog w) A (call (.type "set") [.ref l]) Q E s := by
  obtain ⟨c, tl, hmro⟩ := PySem.F.called_set.mro
  have g1 := PySem.F.called_set.made
  have g2 := PySem.F.called_set.sub
  have g3 := PySem.F.called_set.notType
  have g4 := PySem.F.called_set.canCreate
  have g5 := PySem.F.typeCall_set_1 (.ref l)
  refine wpAny_call (codeAny_of_tree (show wpAny _ _ (callAny (.type "set") _) _ _ _ from wpAny_pure ⟨Code.quiet_builtin _ (by decide +kernel), codeAny_builtin PySem.F.entry_type_call ?_⟩))
  rw [Around.under_plain (weight_type_call_type "set" [.ref l] []) rfl]
  repeat (any_goals (first | assumption | wp_step))
  refine codeAny_mono (setW_new (.ref l) (E := E) (Q₁ := fun obj s1 => obj = .ref s.heap.objs.size ∧ s1 = { s with heap := s.heap.push (newSetO w) }) ⟨rfl, rfl⟩) fun r s1 z => ?_
  match r, z with
  | .ok (.ret _), ⟨e1, e2⟩ =>
    subst e1 e2
    have hT : Shared.TypeIs { s with heap := s.heap.push (newSetO w) } (.ref s.heap.objs.size) "set" := ⟨_, Heap.get?_push_size _ rfl, rfl⟩
    have i1 := PySem.F.called_set.init.lookup
    have i2 := PySem.F.called_set.init.bind (.ref s.heap.objs.size)
    repeat (any_goals (first | assumption | wp_step))
    refine codeAny_mono (setFillW (E := E) (by simp [hh]) hl hi small) fun r2 s2 z2 => ?_
    match r2, z2 with
    | .ok (.ret _), ⟨e3, h', tk, e4, made⟩ =>
      subst e3 e4
      repeat (any_goals (first | assumption | wp_step))
      exact k h' tk made
    | .error e, z2 => exact z2
  | .error e, z => exact z
end
end DW
namespace DW
open PySem PySem.Spec PyProof.Rows L2
theorem strsOf : ∀ (us : List Value), (∀ v ∈ us, ∃ z t, v = Value.str z t) → ∃ zs, StrsAre us zs ∧ zs.length = us.length ∧ ∀ z, z ∈ zs ↔ ∃ t, Value.str z t ∈ us
  | [], _ => ⟨[], .nil, rfl, fun z => by simp⟩
  | u :: us, h => by
    obtain ⟨z, t, rfl⟩ := h u List.mem_cons_self
    obtain ⟨zs, a, b, c⟩ := strsOf us fun v hv => h v (List.mem_cons_of_mem _ hv)
    refine ⟨z :: zs, .cons z t a, by simp [b], fun y => ?_⟩
    rw [List.mem_cons, c y]
    constructor
    · rintro (rfl | ⟨t', m⟩)
      · exact ⟨t, List.mem_cons_self⟩
      · exact ⟨t', List.mem_cons_of_mem _ m⟩
    · rintro ⟨t', m⟩
      rcases List.mem_cons.mp m with e | m
      · cases e
        exact .inl rfl
      · exact .inr ⟨t', m⟩
section
variable {X : Cx}
/-- sorted(set(e)), e a list of texts, fewer than 64 -/
def tSortSet (K : PySem.W.Frag) (te : TE) : TE := fun σ H Q => te σ H fun x H1 => ∃ (l : Addr) (xs : List Str), x = .ref l ∧ SqL K H1 l (xs.map V.str) ∧ xs.length < 63 ∧
  ∀ (ys : List Str) (p : Addr), (∀ y, y ∈ ys ↔ y ∈ xs) → sortedS ys = true → ys.length ≤ xs.length → H1 p = none → Q (.ref p) (upd H1 p (.lst (ys.map V.str)))
theorem pe_sortSet {e : Expr} {te : TE} {p p2 q pos : Pos} (hc : X.calm = true) (hg : Gl X "sorted") (hm : X.mg "sorted" = none) (hg2 : Gl X "set") (hm2 : X.mg "set" = none) (he : PE X e te)
    (na : starEach [e] X.env = (false, eval e X.env) :: starEach [] X.env := by rfl) : PE X (.Call (.Name "sorted" p) [.Call (.Name "set" p2) [e] [] q] [] pos) (tSortSet X.K te) := by
  refine ⟨fun pins s σ H Q I h => ?_⟩
  refine Call_ (ld_blt I hg hm PyProof.Rows.boot_sorted (PyProof.Rows.callWith_builtin1 (PyProof.Rows.args_cons ?_ rfl) rfl rfl))
  refine Call_ (ld_blt I hg2 hm2 boot_set (PyProof.Rows.callWith_type1 (PyProof.Rows.args_cons (thn (he.run pins s σ H _ I h) fun v s1 z => PyProof.Rows.args_nil ?_) na) na rfl))
  obtain ⟨x, H1, I1, r1, l, xs, rfl, hq, small, q1⟩ := z
  cases r1
  obtain ⟨its, r, pl, hz⟩ := I1.list hq
  have sb : 64 < scanBound := by unfold scanBound; decide
  refine setListW (I1.ok.hd hc) pl.isList (by simpa using L2.strsAre_of r) (by omega) fun h' tk made => PyProof.Rows.args_nil ?_
  obtain ⟨⟨o, es, ep, t, ho, ex, hd, el, mem, low, fit, size, ris, led⟩, kept⟩ := made
  have I2 : Inv X pins σ H1 { s1 with heap := h', toks := tk } := I1.kept fun b o e => kept b o (Heap.lt_size e) e
  have le := newN_le xs xs.length
  refine Calls.call_function_entry PyProof.Rows.kind_sorted PyProof.Rows.plain_sorted PyProof.Rows.entry_sorted (PyProof.Rows.args_sorted1 _) ?_
  unfold Builtin.«sorted»
  refine wpAny_bind (m := checkCount "sorted" 1 1 _) (wpAny_pure (wpAny_bind (collect_set (A := X.A.in1) (I2.ok.hd hc) ⟨o, ho, ex.1, hd⟩ fit low ris led fun s2 us k2 z2 g2 o2 perm => ?_)))
  have texts : ∀ v ∈ us, ∃ z t, v = Value.str z t := fun v hv => by
    obtain ⟨e, m, rfl⟩ := List.mem_map.mp (perm.mem_iff.mp hv)
    obtain ⟨⟨z, is, _⟩, _⟩ := el e m
    obtain ⟨t, ev⟩ := Value.isStrOf_shape is
    exact ⟨z, t, ev⟩
  obtain ⟨zs, hS, lz, mz⟩ := strsOf us texts
  have lu : us.length ≤ xs.length := by rw [perm.length_eq, List.length_map, Array.length_toList, size]; exact le
  have memb : ∀ y, y ∈ zs ↔ y ∈ xs := fun y => by
    rw [mz y]
    have a : inN xs xs.length y = true ↔ y ∈ xs := by
      unfold inN
      rw [List.take_length, List.any_eq_true]
      exact ⟨fun ⟨x, m, e⟩ => by rw [← beq_iff_eq.mp e]; exact m, fun m => ⟨y, m, beq_iff_eq.mpr rfl⟩⟩
    rw [← a, mem y]
    constructor
    · rintro ⟨t, m⟩
      obtain ⟨e, m2, ev⟩ := List.mem_map.mp (perm.mem_iff.mp m)
      exact ⟨e, m2, by rw [ev]; exact strKind_is _ _ _ _⟩
    · rintro ⟨e, m2, is⟩
      obtain ⟨t, ev⟩ := Value.isStrOf_shape is
      exact ⟨t, perm.mem_iff.mpr (List.mem_map.mpr ⟨e, m2, ev⟩)⟩
  refine wpAny_bind (wpAny_newList ?_ (by rw [sizeLine_eq]; omega))
  have atL : (s2.heap.push (seqObj "list" us.toArray 0)).get? s2.heap.objs.size = some (seqObj "list" us.toArray 0) := Heap.get?_push_size _ rfl
  refine (show wpAny _ _ _ _ _ { s2 with heap := s2.heap.push (seqObj "list" us.toArray 0) } from wpAny_bind (wpAny_holding (wpAny_call_entry PyProof.Rows.slot_list_sort ⟨_, atL, rfl⟩ PyProof.Rows.entry_list_sort
    (list_sort_treeK strKind_oneLt (s := { s2 with heap := s2.heap.push (seqObj "list" us.toArray 0) }) atL hS.keysOf (fun v₁ v₂ rest e => keyKind_strs (by rw [← e]; exact hS)) (by omega) fun st' hp hs => ⟨_, rfl, ?_⟩) (PyProof.Rows.args_list_sort _))))
  obtain ⟨ys, y1, y2, y3⟩ := sorted_out_str hS hp hs
  obtain ⟨e', atE⟩ := PyProof.Rows.sortedHeap_at (vs := us) (out := (arrOf st').map (·.2)) atL
  have ly : ys.length ≤ xs.length := by rw [y2.length_eq, lz]; exact lu
  have old : ∀ b u, s1.heap.get? b = some u → (sortedHeap (s2.heap.push (seqObj "list" us.toArray 0)) s2.heap.objs.size us ((arrOf st').map (·.2))).get? b = some u := fun b u e => by
    have e2 := k2 b u (kept b u (Heap.lt_size e) e)
    have lt := Heap.lt_size e2
    rw [PyProof.Rows.sortedHeap_old (Nat.ne_of_lt lt) (by rw [size_push']; exact Nat.lt_succ_of_lt lt)]
    exact Heap.get?_push_of_some _ e2
  have low1 : s1.heap.objs.size ≤ s2.heap.objs.size := Nat.le_trans (Nat.le_of_lt (Heap.lt_size ho)) z2
  have free : H1 s2.heap.objs.size = none := I1.hok.fresh low1
  have room : (ys.map V.str).length ≤ sizeLine := by rw [List.length_map, sizeLine_eq]; omega
  refine wpAny_pure ⟨_, rfl, ?_⟩
  have J : Inv X pins σ (upd H1 s2.heap.objs.size (.lst (ys.map V.str))) { s1 with heap := sortedHeap (s2.heap.push (seqObj "list" us.toArray 0)) s2.heap.objs.size us ((arrOf st').map (·.2)), gens := s2.gens, drawn := s2.drawn, toks := s2.toks } :=
    I1.call (ch := []) (Un.laid old low1 free) (I1.hok.laid old low1 ⟨room, ((arrOf st').map (·.2)).toList, e', vals_of_strs y1, by rw [Array.toArray_toList]; exact atE⟩) (by rw [g2]; exact I1.bare) (fun _ z => nomatch z)
  have eo : s2.os = s1.os := o2
  obtain ⟨hp2, gg2, d2, t2, os2⟩ := s2
  cases eo
  exact ⟨.ref hp2.objs.size, _, J, rfl, q1 ys _ (fun y => by rw [y2.mem_iff]; exact memb y) y3 ly free⟩
end
end DW
namespace DW
open PySem PySem.Spec PyProof.Rows L2 PySem.W
/-! ### sorted(d), the keys pairs of texts -/
abbrev kP (x y : Str) : List Key := [.inr x, .inr y]
def encP (b : Addr × Str × Str) : PyData := .tuple [.str b.2.1, .str b.2.2]
theorem reads2 {P : Program} {w : World} {H : Hp} {h : Heap} {b : Addr} {x y : Str} (ok : HOk P w H h) (e : H b = some (.tup [.str x, .str y])) : Reads h (.ref b) (.tuple [.str x, .str y]) [] := by
  obtain ⟨_, its, r, o, h1, h2, n, h3⟩ := (show ObjOk P w H h b (.tup [.str x, .str y]) from ok b _ e)
  cases r with
  | cons r1 r2 =>
    cases r2 with
    | cons r2 r3 =>
      cases r3
      obtain ⟨t1, rfl⟩ := r1
      obtain ⟨t2, rfl⟩ := r2
      exact Reads.tuple h1 h2 h3 (ReadsAll.cons (as := []) (Reads.str x t1) (ReadsAll.cons (as := []) (Reads.str y t2) .nil))
theorem eachAll {α β : Type} {R : α → β → Prop} {f : β → α} : ∀ {bs : List β}, (∀ b ∈ bs, R (f b) b) → EachIs R (bs.map f) bs
  | [], _ => .nil
  | b :: bs, h => .cons (h b List.mem_cons_self) (eachAll fun c m => h c (List.mem_cons_of_mem _ m))
theorem each_vals {bs : List (Addr × Str × Str)} : ∀ {us : List Value}, EachIs (fun (v : Value) (b : Addr × Str × Str) => v = .ref b.1) us bs → Vals (bs.map fun b => V.ref b.1) us := by
  induction bs with
  | nil => intro us h; cases h; exact .nil
  | cons b bs ih =>
    intro us h
    cases h with
    | cons r k => exact .cons r (ih k)
section
variable {X : Cx}
def rSortKeys (K : PySem.W.Frag) : List V → Hp → VK → Prop := fun vs H Q => ∃ (d : Addr) (kvs : List (List Key × V)), vs = [.ref d] ∧ Rd H d (.dT kvs) ∧ kvs.length ≤ 1000 ∧ (∀ p ∈ kvs, ∃ x y, p.1 = kP x y) ∧
  ∀ (bs : List (Addr × Str × Str)) (p : Addr), (bs.map fun b => kP b.2.1 b.2.2).Perm (kvs.map (·.1)) → (∀ b ∈ bs, H b.1 = some (.tup [.str b.2.1, .str b.2.2])) → H p = none → Q (.ref p) (upd H p (.lst (bs.map fun b => .ref b.1)))
theorem pairs_at {H : Hp} : ∀ {kvs : List (List Key × V)} {xs : List (List Key × Addr × Value)}, KT H kvs xs → (∀ p ∈ kvs, ∃ x y, p.1 = kP x y) → ∃ bs : List (Addr × Str × Str), (bs.map fun b => kP b.2.1 b.2.2) = kvs.map (·.1) ∧ (bs.map fun b => b.1) = xs.map (·.2.1) ∧ ∀ b ∈ bs, H b.1 = some (.tup [.str b.2.1, .str b.2.2])
  | _, _, .nil, _ => ⟨[], rfl, rfl, fun b m => by cases m⟩
  | p :: ps, q :: qs, .cons h t, pr => by
    obtain ⟨bs, e1, e2, e3⟩ := pairs_at t fun r m => pr r (List.mem_cons_of_mem _ m)
    obtain ⟨x, y, e⟩ := pr p List.mem_cons_self
    obtain ⟨_, hb, _⟩ := h
    rw [e] at hb
    refine ⟨(q.2.1, x, y) :: bs, by simp [e1, e], by simp [e2], fun b m => ?_⟩
    rcases List.mem_cons.mp m with rfl | m
    · exact hb
    · exact e3 b m
theorem cr_sortKeys (hc : X.calm = true) (hu : X.A.units + 64 < cLine) : CallR X (.builtin "sorted") (rSortKeys X.K) := by
  intro pins s σ H vs us Q I r h
  obtain ⟨d, kvs, rfl, hd, few, pr, q⟩ := h
  obtain ⟨u, rfl, ru⟩ := vals1 r
  obtain rfl : u = Value.ref d := ru
  obtain ⟨z, notSys, xs, rel, o, es, ep, ho, hx, hdat, ents, nd⟩ := (show ObjOk X.prog X.w H s.heap d (.dT kvs) from hd.ok I.hok)
  obtain ⟨bs, b1, b2, b3⟩ := pairs_at rel pr
  have l1 : es.size = xs.length := by rw [← Array.length_toList, ents, List.length_map]
  have l2 : kvs.length = xs.length := Paired.length rel
  have l3 : bs.length = xs.length := by
    have := congrArg List.length b2
    simpa using this
  refine Calls.call_function_entry PyProof.Rows.kind_sorted PyProof.Rows.plain_sorted PyProof.Rows.entry_sorted (PyProof.Rows.args_sorted1 _) ?_
  unfold Builtin.«sorted»
  refine wpAny_bind (m := checkCount "sorted" 1 1 _) (wpAny_pure (wpAny_bind (PySem.W.kdu_collect (A := X.A.in1) (kdl_raw notSys hx hdat) (I.ok.hd hc) ho (by rw [sizeLine_eq]; omega) fun h' tk acc old its => ?_)))
  have ea : acc.toList = bs.map fun b => Value.ref b.1 := by
    have len : acc.toList.length = xs.length := by rw [Array.length_toList, its.1]; exact l1
    have e2 : (bs.map fun b => Value.ref b.1) = xs.map fun x => Value.ref x.2.1 := by
      have := congrArg (List.map Value.ref) b2
      simpa [List.map_map, Function.comp_def] using this
    rw [e2]
    apply List.ext_getElem?
    intro j
    rw [List.getElem?_map]
    cases hj : acc.toList[j]? with
    | none =>
      have h1 := List.getElem?_eq_none_iff.mp hj
      rw [List.getElem?_eq_none (by omega)]
      rfl
    | some v =>
      obtain ⟨en, hen, hv⟩ := its.2 j v (by rw [← Array.getElem?_toList]; exact hj)
      have qe : es.toList[j]? = some en := by rw [Array.getElem?_toList]; exact hen
      rw [ents, List.getElem?_map] at qe
      cases hb : xs[j]? with
      | none => rw [hb] at qe; cases qe
      | some b =>
        rw [hb] at qe
        have e2 : entryOfKey (tupleKind (mixKind X.prog X.w)) b = en := Option.some.inj qe
        rw [hv, ← e2]
        rfl
  have I1 : Inv X pins σ H { s with heap := h', toks := tk } := I.kept old
  refine wpAny_bind (wpAny_newList ?_ (by rw [ea, List.length_map, sizeLine_eq]; omega))
  have atL : (h'.push (seqObj "list" acc.toList.toArray 0)).get? h'.objs.size = some (seqObj "list" acc.toList.toArray 0) := Heap.get?_push_size _ rfl
  have lay : Inv X pins σ (upd H h'.objs.size (.lst (bs.map fun b => V.ref b.1))) { s with heap := h'.push (seqObj "list" acc.toList.toArray 0), toks := tk } := by
    refine I1.laid (t' := tk) (fun b u e => Heap.get?_push_of_some _ e) (Nat.le_refl _) ⟨?_, acc.toList, 0, ?_, atL⟩
    · rw [List.length_map, sizeLine_eq]; omega
    · rw [ea]
      exact each_vals (eachAll fun b _ => rfl)
  have free : H h'.objs.size = none := I1.hok.fresh (Nat.le_refl _)
  have there : ∀ b ∈ bs, upd H h'.objs.size (.lst (bs.map fun b => V.ref b.1)) b.1 = some (.tup [.str b.2.1, .str b.2.2]) := fun b m => by
    rw [upd_ne (ne_of_none (b3 b m) free)]
    exact b3 b m
  have rd1 : EachIs (fun v b => ∃ as, Reads (h'.push (seqObj "list" acc.toList.toArray 0)) v (encP b) as ∧ h'.objs.size ∉ as) (bs.map fun b => Value.ref b.1) bs := eachAll fun b m => ⟨[], reads2 lay.hok (there b m), fun z => nomatch z⟩
  rw [← ea] at rd1
  refine (show wpAny _ _ _ _ _ { s with heap := h'.push (seqObj "list" acc.toList.toArray 0), toks := tk } from wpAny_bind (wpAny_holding ?_))
  refine list_sort_data (vs := acc.toList) (bs := bs) (enc := encP) (R := fun (v : Value) (b : Addr × Str × Str) => v = .ref b.1) atL (by rw [ea]; exact eachAll fun b _ => rfl)
    rd1 (AllAlike.of fun b c => by simp [encP, alike, alikeAll]) (Sortable.tuples fun b => ⟨_, _, rfl⟩) (by rw [sizeLine_eq]; omega) (fun b _ => by simp [encP, PyData.depth, PyData.depthAll]; show X.A.units + 1 + 1 + _ < _; omega) fun out lo eo => ?_
  obtain ⟨e', atE⟩ := PyProof.Rows.sortedHeap_at (vs := acc.toList) (out := out.toArray) atL
  have pm := List.mergeSort_perm bs (dataLe false encP)
  refine wpAny_pure ⟨_, rfl, .ref h'.objs.size, upd H h'.objs.size (.lst ((bs.mergeSort (dataLe false encP)).map fun b => V.ref b.1)), I1.laid (t' := tk) (fun b u e => ?_) (Nat.le_refl _) ⟨?_, out, e', each_vals eo, atE⟩, rfl, q _ _ (by rw [← b1]; exact pm.map _) (fun b m => b3 b (pm.mem_iff.mp m)) free⟩
  · have lt : b < h'.objs.size := Heap.lt_size e
    rw [PyProof.Rows.sortedHeap_old (Nat.ne_of_lt lt) (by rw [size_push']; exact Nat.lt_succ_of_lt lt)]
    exact Heap.get?_push_of_some _ e
  · rw [List.length_map, pm.length_eq, sizeLine_eq]; omega
end
end DW
namespace DW
open PySem PySem.Spec PyProof.Rows L2
def tyName : PyData → String
  | .none => "NoneType" | .bool _ => "bool" | .int _ => "int" | .str _ => "str" | .list _ => "list" | .tuple _ => "tuple" | .dict _ => "dict"
theorem Dp.tyx {K : PySem.W.Frag} {H : Hp} {v : V} {d : PyData} (h : Dp K H v d) : TyX K H v (.type (tyName d)) := by
  cases h with
  | non => exact .base .non
  | bl b => exact .base (.bl b)
  | int i => exact .base (.int i)
  | str x => exact .base (.str x)
  | lst hs _ =>
    rcases hs with (e | ⟨o, e⟩) | ⟨o, its, n, e, c, _⟩
    · exact .base (.lst e)
    · exact .base (.frz e)
    · exact .kList e c
  | tup hs _ =>
    rcases hs with (e | ⟨o, e⟩) | ⟨o, its, n, e, c, _⟩
    · exact .base (.tup e)
    · exact .fTuple e
    · exact .kTuple e c
theorem Dd.tyx {K : PySem.W.Frag} {H : Hp} {v : V} {d : PyData} (h : Dd K H v d) : TyX K H v (.type (tyName d)) := by
  cases h with
  | base h _ => exact Dp.tyx h
  | dct e => exact .base (.dK e)
def isIntT (d : PyData) : Bool := match d with
  | .int _ => true | .bool _ => true | _ => false
def isBoolT (d : PyData) : Bool := match d with
  | .bool _ => true | _ => false
def isStrT (d : PyData) : Bool := match d with
  | .str _ => true | _ => false
def isTupT (d : PyData) : Bool := match d with
  | .tuple _ => true | _ => false
theorem kit_int : ∀ d : PyData, kitB (tyName d) "int" = some (isIntT d)
  | .none => (show kitB "NoneType" "int" = some false by decide +kernel)
  | .bool _ => (show kitB "bool" "int" = some true by decide +kernel)
  | .int _ => (show kitB "int" "int" = some true by decide +kernel)
  | .str _ => (show kitB "str" "int" = some false by decide +kernel)
  | .list _ => (show kitB "list" "int" = some false by decide +kernel)
  | .tuple _ => (show kitB "tuple" "int" = some false by decide +kernel)
  | .dict _ => (show kitB "dict" "int" = some false by decide +kernel)
theorem kit_bool : ∀ d : PyData, kitB (tyName d) "bool" = some (isBoolT d)
  | .none => (show kitB "NoneType" "bool" = some false by decide +kernel)
  | .bool _ => (show kitB "bool" "bool" = some true by decide +kernel)
  | .int _ => (show kitB "int" "bool" = some false by decide +kernel)
  | .str _ => (show kitB "str" "bool" = some false by decide +kernel)
  | .list _ => (show kitB "list" "bool" = some false by decide +kernel)
  | .tuple _ => (show kitB "tuple" "bool" = some false by decide +kernel)
  | .dict _ => (show kitB "dict" "bool" = some false by decide +kernel)
theorem kit_str : ∀ d : PyData, kitB (tyName d) "str" = some (isStrT d)
  | .none => (show kitB "NoneType" "str" = some false by decide +kernel)
  | .bool _ => (show kitB "bool" "str" = some false by decide +kernel)
  | .int _ => (show kitB "int" "str" = some false by decide +kernel)
  | .str _ => (show kitB "str" "str" = some true by decide +kernel)
  | .list _ => (show kitB "list" "str" = some false by decide +kernel)
  | .tuple _ => (show kitB "tuple" "str" = some false by decide +kernel)
  | .dict _ => (show kitB "dict" "str" = some false by decide +kernel)
theorem kit_tup : ∀ d : PyData, kitB (tyName d) "tuple" = some (isTupT d)
  | .none => (show kitB "NoneType" "tuple" = some false by decide +kernel)
  | .bool _ => (show kitB "bool" "tuple" = some false by decide +kernel)
  | .int _ => (show kitB "int" "tuple" = some false by decide +kernel)
  | .str _ => (show kitB "str" "tuple" = some false by decide +kernel)
  | .list _ => (show kitB "list" "tuple" = some false by decide +kernel)
  | .tuple _ => (show kitB "tuple" "tuple" = some true by decide +kernel)
  | .dict _ => (show kitB "dict" "tuple" = some false by decide +kernel)
/-- isinstance(x, T) of data, as a value -/
theorem rd_isi {K : PySem.W.Frag} {σ : L2.St} {H : Hp} {T : String} {v : V} {d : PyData} {b : Bool} {Q : VK} {i : Nat} (hv : σ[i]? = some (some v)) (h : Dd K H v d) (hk : kitB (tyName d) T = some b) (q : Q (.bl b) H) :
    tCB (rIsi K) (tCons (tVar i) (tCons (tC (.ty T)) tNil)) σ H Q := ⟨v, hv, v, .ty T, _, _, b, rfl, .ty _, h.tyx, kit_ty hk, q⟩
/-- a and .. of such answers -/
theorem rd_andT {a b : TE} {σ : L2.St} {H : Hp} {Q : VK} (h : a σ H fun x H1 => x = .bl true ∧ b σ H1 Q) (m : ∀ {R R' : VK}, (∀ x H1, R x H1 → R' x H1) → a σ H R → a σ H R') : tAndV a b σ H Q :=
  m (fun x H1 z => ⟨true, z.1, iteT z.2⟩) h
def betD (lo hi : Int) (d : PyData) : Bool := match d with
  | .int i => decide (lo ≤ i) && decide (i ≤ hi) | _ => false
end DW
namespace DW
open PySem PySem.Spec PyProof.Rows L2
/-- [e for c in s if ..], s a text -/
theorem lc_str {x : Str} {g : TG} {tt : TT} {te : TE} {vs : List Nat} {σ : L2.St} {H1 : Hp} {D : Addr} {Qd : Hp → Prop} (Pv : Nat → Hp → Prop) (h0 : Pv 0 (upd H1 D (.lst [])))
    (hs : ∀ i c H, x.cps[i]? = some c → Pv i H → g (.str ⟨#[c]⟩) (wipe σ vs) H fun σ2 H2 => wipe σ2 vs = wipe σ vs ∧ tt σ2 H2 fun b H3 =>
      if b = true then te σ2 H3 fun y H4 => ∃ acc, H4 D = some (.lst acc) ∧ acc.length < sizeLine ∧ Pv (i + 1) (upd H4 D (.lst (acc ++ [y]))) else Pv (i + 1) H3) (hd : ∀ H, Pv x.cps.size H → Qd H) :
    ∃ W : Nat → Nat → Hp → Prop, (∃ m, W 0 m (upd H1 D (.lst []))) ∧ ∀ i m H, W i m H →
      ((Its x).stop i H ∧ Qd H) ∨ ((Its x).go i H ∧ ∃ Nx : Hp → Prop, (∀ H', Nx H' → ∃ m', m' < m ∧ W (i + 1) m' H') ∧ ∀ v H', (Its x).yld i H v H' → g v (wipe σ vs) H' fun σ2 H2 => wipe σ2 vs = wipe σ vs ∧ tt σ2 H2 fun b H3 =>
        if b = true then te σ2 H3 fun y H4 => ∃ acc, H4 D = some (.lst acc) ∧ acc.length < sizeLine ∧ Nx (upd H4 D (.lst (acc ++ [y]))) else Nx H3) := by
  refine ⟨fun i m H => m = x.cps.size - i ∧ i ≤ x.cps.size ∧ Pv i H, ⟨x.cps.size, by simp, Nat.zero_le _, h0⟩, ?_⟩
  rintro i m H ⟨rfl, hi, p⟩
  by_cases hlt : i < x.cps.size
  · refine .inr ⟨hlt, Pv (i + 1), fun H' p' => ⟨x.cps.size - (i + 1), by omega, rfl, hlt, p'⟩, fun v H' y => ?_⟩
    obtain ⟨e, c, hc, ev⟩ := y
    subst e ev
    exact hs i c _ hc p
  · have e : i = x.cps.size := by omega
    subst e
    exact .inl ⟨Nat.le_refl _, hd H p⟩
/-- what is judged: not too long -/
def Fit (d : PyData) : Prop := ∀ z, d = .str z → z.length ≤ 1000
end DW
namespace DW
open PySem PySem.Spec PyProof.Rows L2
theorem sqT_same {K : PySem.W.Frag} {H H' : Hp} {a : Addr} {xs : List V} (s : Same H H') (h : SqT K H a xs) : SqT K H' a xs := by
  rcases h with (e | ⟨o, e⟩) | h
  · exact .inl (.inl (s _ _ e))
  · exact .inl (.inr ⟨o, s _ _ e⟩)
  · exact .inr h
mutual
theorem Dp.same {K : PySem.W.Frag} {H H' : Hp} (s : Same H H') : ∀ {v : V} {d : PyData}, Dp K H v d → Dp K H' v d
  | _, _, .non => .non
  | _, _, .bl b => .bl b
  | _, _, .int i => .int i
  | _, _, .str x => .str x
  | _, _, .lst h a => .lst (Same.seq s h) (DpAll.same s a)
  | _, _, .tup h a => .tup (sqT_same s h) (DpAll.same s a)
theorem DpAll.same {K : PySem.W.Frag} {H H' : Hp} (s : Same H H') : ∀ {vs : List V} {ds : List PyData}, DpAll K H vs ds → DpAll K H' vs ds
  | _, _, .nil => .nil
  | _, _, .cons a b => .cons (Dp.same s a) (DpAll.same s b)
end
theorem DpAll.length {K : PySem.W.Frag} {H : Hp} : ∀ {vs : List V} {ds : List PyData}, DpAll K H vs ds → vs.length = ds.length
  | _, _, .nil => rfl
  | _, _, .cons _ b => by rw [List.length_cons, List.length_cons, DpAll.length b]
theorem DpAll.at {K : PySem.W.Frag} {H : Hp} : ∀ {vs : List V} {ds : List PyData} {i : Nat} {v : V}, DpAll K H vs ds → vs[i]? = some v → ∃ d, ds[i]? = some d ∧ Dp K H v d
  | _, _, _, _, .nil, h => by simp at h
  | _, _, 0, v, .cons a b, h => by
    simp at h
    subst h
    exact ⟨_, rfl, a⟩
  | _, _, i + 1, v, .cons a b, h => by
    obtain ⟨d, e, q⟩ := DpAll.at b (i := i) (v := v) (by simpa using h)
    exact ⟨d, by simpa using e, q⟩
def Fn : Nat → PyData → Prop
  | 0, d => Fit d
  | n + 1, d => Fit d ∧ ∀ ds, d = .tuple ds → ds.length ≤ 1000 ∧ ∀ x ∈ ds, Fn n x
theorem Fn.fit : ∀ {n : Nat} {d : PyData}, Fn n d → Fit d
  | 0, _, h => h
  | _ + 1, _, h => h.1
section
variable {X : Cx}
def rLtD (K : PySem.W.Frag) : R2 := fun x y H Q => ∃ d e, Dp K H x d ∧ Dp K H y e ∧ PySem.W.alike d e = true ∧ d ≠ .none ∧ d.depth ≤ 60 ∧ Q (.bl (PySem.W.dataLt d e)) H
theorem op_ltD (hu : X.A.units + 64 < cLine) : OpR X (compareOp .Lt) (rLtD X.K) := by
  intro pins s σ H x y v u Q I rx ry h
  obtain ⟨d, e, hd, he, al, nn, dp, q⟩ := h
  obtain ⟨as, r1⟩ := Dp.reads I d x v hd rx
  obtain ⟨bs, r2⟩ := Dp.reads I e y u he ry
  exact PySem.W.lt_data r1 r2 al nn (by omega) ⟨.bl _, H, I, rfl, q⟩
end
end DW
namespace DW
open PySem PySem.Spec PyProof.Rows L2
theorem noDict_all : ∀ {ds : List PyData}, PyData.hasDictAll ds = false → ∀ x ∈ ds, x.hasDict = false
  | [], _, x, h => by cases h
  | d :: ds, e, x, h => by
    have e' : (d.hasDict || PyData.hasDictAll ds) = false := e
    rw [Bool.or_eq_false_iff] at e'
    rcases List.mem_cons.mp h with rfl | h
    · exact e'.1
    · exact noDict_all e'.2 x h
theorem Dd.tup_inv {K : PySem.W.Frag} {H : Hp} {v : V} {ds : List PyData} (h : Dd K H v (.tuple ds)) : ∃ a xs, v = .ref a ∧ SqT K H a xs ∧ DpAll K H xs ds ∧ ∀ x ∈ ds, x.hasDict = false := by
  cases h with
  | base h n =>
    cases h with
    | tup hs ha => exact ⟨_, _, rfl, hs, ha, noDict_all n⟩
end DW
namespace LW
open PySem PySem.Spec PyProof.Rows L2 DW
def top (i : Nat) : Stmt := PySem.Challenge.pw_dawnway_k25_errors_of_rows.main.body.getD i (.Pass ⟨0, 0, 0, 0⟩)
def clsBody (s : Stmt) : List Stmt := match s with
  | .ClassDef (body := b) .. => b
  | _ => []
abbrev s_u_wall : Stmt := top 0
def m_UnknownName_init : Stmt := (clsBody (top 6)).getD 0 (.Pass ⟨0, 0, 0, 0⟩)
abbrev s_own_copy : Stmt := top 7
abbrev s_is_integer : Stmt := top 16
abbrev s_is_between : Stmt := top 17
abbrev s_is_name : Stmt := top 18
abbrev s_is_pair : Stmt := top 19
abbrev s_are_lasts : Stmt := top 21
abbrev s_works_fault : Stmt := top 22
abbrev s_u_chain_fault : Stmt := top 23
abbrev s_bounds_fault : Stmt := top 24
abbrev s_u_is_lot : Stmt := top 25
abbrev s_u_is_known : Stmt := top 26
abbrev s_u_is_work : Stmt := top 27
abbrev s_u_goes_round : Stmt := top 28
abbrev s_u_is_bound : Stmt := top 29
def m_Net_init : Stmt := (clsBody (top 34)).getD 0 (.Pass ⟨0, 0, 0, 0⟩)
def m_Net_lasts : Stmt := (clsBody (top 34)).getD 1 (.Pass ⟨0, 0, 0, 0⟩)
def m_Net_works : Stmt := (clsBody (top 34)).getD 2 (.Pass ⟨0, 0, 0, 0⟩)
def m_Net_bounds : Stmt := (clsBody (top 34)).getD 3 (.Pass ⟨0, 0, 0, 0⟩)
def m_Net_events : Stmt := (clsBody (top 34)).getD 4 (.Pass ⟨0, 0, 0, 0⟩)
def m_Net_deeds : Stmt := (clsBody (top 34)).getD 5 (.Pass ⟨0, 0, 0, 0⟩)
def m_Net_ends : Stmt := (clsBody (top 34)).getD 6 (.Pass ⟨0, 0, 0, 0⟩)
def m_Net_horizon : Stmt := (clsBody (top 34)).getD 7 (.Pass ⟨0, 0, 0, 0⟩)
def m_Net_told : Stmt := (clsBody (top 34)).getD 8 (.Pass ⟨0, 0, 0, 0⟩)
def m_Net_row : Stmt := (clsBody (top 34)).getD 9 (.Pass ⟨0, 0, 0, 0⟩)
def m_Net_work_of : Stmt := (clsBody (top 34)).getD 10 (.Pass ⟨0, 0, 0, 0⟩)
def m_Net_road : Stmt := (clsBody (top 34)).getD 11 (.Pass ⟨0, 0, 0, 0⟩)
def m_Net_with_bounds : Stmt := (clsBody (top 34)).getD 12 (.Pass ⟨0, 0, 0, 0⟩)
def m_Net_without : Stmt := (clsBody (top 34)).getD 13 (.Pass ⟨0, 0, 0, 0⟩)
def m_Net_with_lengths : Stmt := (clsBody (top 34)).getD 14 (.Pass ⟨0, 0, 0, 0⟩)
def m_Net_with_looks : Stmt := (clsBody (top 34)).getD 15 (.Pass ⟨0, 0, 0, 0⟩)
def m_Net_with_lasts : Stmt := (clsBody (top 34)).getD 16 (.Pass ⟨0, 0, 0, 0⟩)
def m_Net_renamed : Stmt := (clsBody (top 34)).getD 17 (.Pass ⟨0, 0, 0, 0⟩)
def m_Net_len : Stmt := (clsBody (top 34)).getD 18 (.Pass ⟨0, 0, 0, 0⟩)
def m_Net_contains : Stmt := (clsBody (top 34)).getD 19 (.Pass ⟨0, 0, 0, 0⟩)
def m_Net_eq : Stmt := (clsBody (top 34)).getD 20 (.Pass ⟨0, 0, 0, 0⟩)
def m_Net_str : Stmt := (clsBody (top 34)).getD 21 (.Pass ⟨0, 0, 0, 0⟩)
def m_Net_u_need_event : Stmt := (clsBody (top 34)).getD 22 (.Pass ⟨0, 0, 0, 0⟩)
abbrev s_net_fault : Stmt := top 35
abbrev s_u_told_rows : Stmt := top 36
abbrev s_need_net : Stmt := top 38
abbrev s_is_place : Stmt := top 39
abbrev s_is_work : Stmt := top 40
abbrev s_make_row : Stmt := top 42
abbrev s_taken_by : Stmt := top 43
abbrev s_is_covered : Stmt := top 44
abbrev s_u_joined : Stmt := top 45
abbrev s_u_early : Stmt := top 46
abbrev s_u_first : Stmt := top 47
abbrev s_u_late : Stmt := top 48
abbrev s_u_both : Stmt := top 49
abbrev s_u_sure : Stmt := top 50
abbrev s_is_row : Stmt := top 53
abbrev s_is_told : Stmt := top 54
abbrev s_covers : Stmt := top 55
abbrev s_made : Stmt := top 56
abbrev s_is_list : Stmt := top 57
abbrev s_list_fault : Stmt := top 58
abbrev s_used_lines : Stmt := top 59
abbrev s_lines_under : Stmt := top 60
abbrev s_u_need_row : Stmt := top 61
abbrev s_u_is_end : Stmt := top 62
abbrev s_u_line_fault : Stmt := top 63
abbrev s_u_reason_row : Stmt := top 64
abbrev s_law_dice : Stmt := top 66
abbrev s_law_roll : Stmt := top 67
abbrev s_law_pick : Stmt := top 68
abbrev s_law_shuffled : Stmt := top 69
abbrev s_law_nt_drawn : Stmt := top 70
abbrev s_law_nt_told : Stmt := top 71
abbrev s_law_is_number : Stmt := top 72
abbrev s_law_ls_is_row : Stmt := top 73
abbrev s_law_word : Stmt := top 74
abbrev s_law_a_row : Stmt := top 75
abbrev s_law_odd_row : Stmt := top 76
abbrev s_law_first : Stmt := top 77
abbrev s_law_made_right : Stmt := top 78
abbrev s_law_others_right : Stmt := top 79
abbrev s_law : Stmt := top 80
end LW
namespace LW
open PySem PySem.Spec PyProof.Rows L2 DW
section
variable {P : Program} {w : World} {K : PySem.W.Frag} {mg : Str → Option Value} {base : Heap}
def spBet (K : PySem.W.Frag) : Sp := fun vs H Q _ => ∃ v d lo hi, vs = [v, .int lo, .int hi] ∧ Dd K H v d ∧ Q (.bl (betD lo hi d)) H
theorem scBet : FnScope ["value", "least", "most"] ["value", "least", "most"] (defScope s_is_between) := ⟨rfl, rfl, rfl, by decide +kernel, rfl, by decide +kernel, by decide +kernel⟩
theorem ok_bet {f : Addr} {fd : FuncData} (F : Fun K "is_between" "is_between" s_is_between f fd) (zI : mg "isinstance" = none) (zT : mg "int" = none) (zB : mg "bool" = none) : FnOk P w K mg base CX0 1 f fd ["value", "least", "most"] (spBet K) := by
  refine F.ok scBet (fun vs H Q E h => ?_) (fun cdv A outer s H vs Q E hr h => ?_)
  · obtain ⟨v, d, lo, hi, rfl, _⟩ := h
    rfl
  · obtain ⟨v, d, lo, hi, rfl, hd, k⟩ := h
    refine ⟨_, pss_one (ps_ret (pe_and (pe_callB call_isi (by rfl) zI (by rfl) (pa_cons (pv 0) (pa_cons (pe_bltn rfl zT (by rfl) (show RelV (.ty "int") (.type "int") from rfl)) pa_nil)))
      (pe_and (pe_not (pe_callB call_isi (by rfl) zI (by rfl) (pa_cons (pv 0) (pa_cons (pe_bltn rfl zB (by rfl) (show RelV (.ty "bool") (.type "bool") from rfl)) pa_nil))))
      (pe_one (pe_chain op_le op_le (pv 1) (pv 0) (pv 2)))))), ?_⟩
    refine rd_isi rfl hd (kit_int d) ⟨_, rfl, ?_⟩
    cases d with
    | int i =>
      have e : v = .int i := by cases hd with | base h _ => cases h; rfl
      subst e
      refine iteT (rd_isi rfl hd (kit_bool (.int i)) ⟨_, rfl, _, rfl, iteT ?_⟩)
      refine ⟨_, rfl, _, rfl, _, _, rfl, rfl, _, rfl, ?_⟩
      by_cases h1 : lo ≤ i
      · rw [decide_eq_true h1]
        refine iteT ⟨_, rfl, _, _, rfl, rfl, ?_⟩
        have z : betD lo hi (.int i) = decide (i ≤ hi) := by simp [betD, h1]
        rw [z] at k
        exact k
      · rw [decide_eq_false h1]
        have z : betD lo hi (.int i) = false := by simp [betD, h1]
        rw [z] at k
        exact iteF k
    | bool b => exact iteT (rd_isi rfl hd (kit_bool (.bool b)) ⟨_, rfl, _, rfl, iteF k⟩)
    | none => exact iteF k
    | str x => exact iteF k
    | list x => exact iteF k
    | tuple x => exact iteF k
    | dict x => exact iteF k
end
end LW
namespace LW
open PySem PySem.Spec PyProof.Rows L2 DW
def firstL : Str := "abcdefghijklmnopqrstuvwxyz"
def lettL : Str := "abcdefghijklmnopqrstuvwxyz0123456789."
def nameS (z : Str) : Bool := decide (1 ≤ z.length) && (decide (z.length ≤ 12) && (!decide (z = ("dawn" : Str)) && (decide ((z.cps.toList.getD 0 0) ∈ firstL.cps.toList) && z.cps.toList.all fun c => decide (c ∈ lettL.cps.toList))))
def isNameD (d : PyData) : Bool := match d with
  | .str z => nameS z | _ => false
structure Glo (mg : Str → Option Value) : Prop where
  far : ∃ t, mg "_TOO_LONG" = some (.int (10 ^ 40) t)
  lett : ∃ t, mg "MAX_LETTERS" = some (.int 12 t)
  dawn : ∃ t, mg "DAWN" = some (.str "dawn" t)
  fst : ∃ t, mg "_FIRST_LETTERS" = some (.str firstL t)
  all : ∃ t, mg "_LETTERS" = some (.str lettL t)
section
variable {P : Program} {w : World} {K : PySem.W.Frag} {mg : Str → Option Value} {base : Heap}
def spJ (K : PySem.W.Frag) (f : PyData → Bool) : Sp := fun vs H Q _ => ∃ v d, vs = [v] ∧ Dd K H v d ∧ Fit d ∧ ∀ H', Same H H' → Q (.bl (f d)) H'
theorem scInt : FnScope ["value"] ["value"] (defScope s_is_integer) := ⟨rfl, rfl, rfl, by decide +kernel, rfl, by decide +kernel, by decide +kernel⟩
theorem ok_int {f fB : Addr} {fd dB : FuncData} (F : Fun K "is_integer" "is_integer" s_is_integer f fd) (GB : FnOk P w K mg base CX0 1 fB dB ["value", "least", "most"] (spBet K)) (kB : PySem.W.keepIn K (.ref fB) = true) (bB : Binds K dB ["value", "least", "most"] []) (gB : mg "is_between" = some (.ref fB)) (G : Glo mg) :
    FnOk P w K mg base CX0 2 f fd ["value"] (spJ K (betD (1 - 10 ^ 40) (10 ^ 40 - 1))) := by
  refine F.ok scInt (fun vs H Q E h => ?_) (fun cdv A outer s H vs Q E hr h => ?_)
  · obtain ⟨v, d, rfl, _⟩ := h
    rfl
  · obtain ⟨v, d, rfl, hd, _, k⟩ := h
    obtain ⟨t, g⟩ := G.far
    have pf : ∀ {pos}, PE (cxOf CX0 P w K mg base ["value"] "is_integer" (defScope s_is_integer) f cdv A outer s H E).nox (.Name "_TOO_LONG" pos) (tC (.int (10 ^ 40))) := pe_glob rfl g ⟨t, rfl⟩
    refine ⟨_, pss_one (ps_ret (pe_call GB hr rfl gB kB bB .nil pass0 (pa_cons (pv 0) (pa_cons (pe_op op_sub pe_int pf) (pa_cons (pe_op op_sub pf pe_int) pa_nil))))), ?_⟩
    exact ⟨_, rfl, _, _, rfl, rfl, _, _, rfl, rfl, v, d, _, _, rfl, hd, k _ (Same.refl H)⟩
theorem scName : FnScope ["value", "letter"] ["value"] (defScope s_is_name) := ⟨rfl, rfl, rfl, by decide +kernel, rfl, by decide +kernel, by decide +kernel⟩
theorem dec_strV {a b : Str} : decide (V.str a = V.str b) = decide (a = b) := by
  by_cases h : a = b
  · subst h
    simp
  · rw [decide_eq_false h, decide_eq_false (by intro z; cases z; exact h rfl)]
/-- all([c in LETTERS for c in s]) -/
theorem rd_allS {z L : Str} {H : Hp} {x1 : Option V} {Q : VK} (hz : z.length ≤ 1000) (k : ∀ H', Same H H' → Q (.bl (z.cps.toList.all fun c => decide (c ∈ L.cps.toList))) H') :
    tCB (rAll K) (tCons (tLc (iStr (tVar 0)) (gName 1) tYes (tOp (fun x y H Q => ∃ (c : Nat) (z : Str), x = .str ⟨#[c]⟩ ∧ y = .str z ∧ Q (.bl (decide (c ∈ z.cps.toList))) H) (tVar 1) (tC (.str L))) [1]) tNil) [some (.str z), x1] H Q := by
  refine ⟨_, rfl, z, rfl, fun D hD => lc_str (fun i H' => Same H H' ∧ H' D = some (.lst ((z.cps.toList.take i).map fun c => V.bl (decide (c ∈ L.cps.toList))))) ⟨same_new hD, upd_same⟩ (fun i c H' hc p => ⟨rfl, tyes ?_⟩) (fun H' p => ?_)⟩
  · obtain ⟨s1, hy⟩ := p
    have hc2 : z.cps.toList[i]? = some c := by rw [← hc]; simp
    have hi : i < z.cps.toList.length := by
      rcases Nat.lt_or_ge i z.cps.toList.length with q | q
      · exact q
      · rw [List.getElem?_eq_none q] at hc2; cases hc2
    refine ⟨_, rfl, c, L, rfl, rfl, _, hy, ?_, same_mut s1 hD, ?_⟩
    · have h1 : z.cps.toList.length = z.length := by simp [Str.length]
      rw [List.length_map, List.length_take, sizeLine_eq]
      omega
    · rw [upd_same, List.take_add_one, hc2, List.map_append]
      rfl
  · obtain ⟨s1, hy⟩ := p
    have e : z.cps.toList.take z.cps.size = z.cps.toList := List.take_of_length_le (by simp)
    rw [e] at hy
    have e2 : (z.cps.toList.map fun c => V.bl (decide (c ∈ L.cps.toList))) = ((z.cps.toList.map fun c => decide (c ∈ L.cps.toList)).map V.bl) := by rw [List.map_map]; rfl
    rw [e2] at hy
    refine ⟨D, _, rfl, SqL.of hy, ?_⟩
    have e3 : (z.cps.toList.map fun c => decide (c ∈ L.cps.toList)).all id = z.cps.toList.all fun c => decide (c ∈ L.cps.toList) := by rw [List.all_map]; rfl
    rw [e3]
    exact k H' s1
theorem fin_all {H : Hp} {D : Addr} {bs : List Bool} {Q : VK} (hy : H D = some (.lst (bs.map V.bl))) (q : Q (.bl (bs.all id)) H) : rAll K [.ref D] H Q := ⟨D, bs, rfl, SqL.of hy, q⟩
theorem ok_name {f : Addr} {fd : FuncData} (F : Fun K "is_name" "is_name" s_is_name f fd) (G : Glo mg) (zI : mg "isinstance" = none) (zS : mg "str" = none) (zL : mg "len" = none) (zA : mg "all" = none) :
    FnOk P w K mg base CX0 1 f fd ["value"] (spJ K isNameD) := by
  refine F.ok scName (fun vs H Q E h => ?_) (fun cdv A outer s H vs Q E hr h => ?_)
  · obtain ⟨v, d, rfl, _⟩ := h
    rfl
  · obtain ⟨v, d, rfl, hd, ft, k⟩ := h
    obtain ⟨t1, g1⟩ := G.lett
    obtain ⟨t2, g2⟩ := G.dawn
    obtain ⟨t3, g3⟩ := G.fst
    obtain ⟨t4, g4⟩ := G.all
    refine ⟨_, pss_cons (ps_if (PW.pt (pw_or (pt_not (pt_val (pe_callB call_isi (by rfl) zI (by rfl) (pa_cons (pv 0) (pa_cons (pe_bltn rfl zS (by rfl) (show RelV (.ty "str") (.type "str") from rfl)) pa_nil)))))
        (pw_or (pt_not (pt_chain op_le op_le pe_int (pe_callB call_len_str (by rfl) zL PySem.boot_len (pa_cons (pv 0) pa_nil)) (pe_glob rfl g1 (show RelV (.int 12) (.int 12 t1) from ⟨t1, rfl⟩))))
        (pw_or1 (pt_cmpR op_eq (pv 0) (pe_glob rfl g2 (show RelV (.str "dawn") (.str "dawn" t2) from ⟨t2, rfl⟩)) (nomark _))))))
        (pss_one (ps_ret pe_bl)) pss_nil)
      (pss_one (ps_ret (pe_and (pe_cmpR op_in_sign (pe_ix ix_str (pv 0) pe_int (fun _ _ => rfl)) (pe_glob rfl g3 (show RelV (.str firstL) (.str firstL t3) from ⟨t3, rfl⟩)) (by rfl))
        (pe_one (pe_callB (cr_all rfl) (by rfl) zA (by decide +kernel) (pa_cons (pe_lc (own := [("letter", 1)]) (g := gName 1) (tt := tYes) rfl scName.nd (pi_str (pv 0)) (blkOk_by (own := [("letter", 1)]) (N := ["value", "letter"]) (sc := defScope s_is_name) (by decide +kernel))
          (fun _ _ _ _ _ => pg_name (i := 1) scName.nd rfl (Or.inl rfl)) (fun _ _ _ _ _ => pts_nil) (fun _ _ _ _ _ => pe_cmpR op_in_sign (pv 1) (pe_glob rfl g4 (show RelV (.str lettL) (.str lettL t4) from ⟨t4, rfl⟩)) (by rfl))) pa_nil)))))), ?_⟩
    have no : isNameD d = false → Q (.bl false) H := fun e => by
      have z := k H (Same.refl H)
      rw [e] at z
      exact z
    refine rd_isi rfl hd (kit_str d) ⟨_, rfl, ?_⟩
    match d, hd, ft, k, no with
    | .str z, hd, ft, k, no =>
      have e : v = .str z := by cases hd with | base h _ => cases h; rfl
      subst e
      have hz := ft z rfl
      have hzs : z.length ≤ sizeLine := by rw [sizeLine_eq]; omega
      refine iteF ⟨_, rfl, z, rfl, hzs, _, _, rfl, rfl, _, rfl, ?_⟩
      by_cases h1 : (1 : Int) ≤ z.length
      · rw [decide_eq_true h1]
        refine iteT ⟨_, _, rfl, rfl, _, rfl, ?_⟩
        by_cases h2 : (z.length : Int) ≤ 12
        · rw [decide_eq_true h2]
          refine iteF ⟨_, rfl, rfl, _, rfl, ?_⟩
          rw [dec_strV]
          by_cases h3 : z = ("dawn" : Str)
          · rw [decide_eq_true h3]
            exact iteT (no (by show nameS z = false; simp [nameS, h3]))
          · rw [decide_eq_false h3]
            refine iteF ?_
            have n1 : 1 ≤ z.length := by omega
            have n2 : z.length ≤ 12 := by omega
            have hc : ∃ c, z.cps.toList[0]? = some c := by
              have q : 0 < z.cps.toList.length := by
                have h1 : z.cps.toList.length = z.length := by simp [Str.length]
                omega
              exact ⟨_, List.getElem?_eq_getElem q⟩
            obtain ⟨c, hc⟩ := hc
            have ed : z.cps.toList.getD 0 0 = c := by rw [List.getD_eq_getElem?_getD, hc]; rfl
            refine ⟨_, rfl, z, 0, c, rfl, rfl, hzs, atI_nat (j := 0) hc, c, firstL, rfl, rfl, _, rfl, ?_⟩
            by_cases h4 : c ∈ firstL.cps.toList
            · rw [decide_eq_true h4]
              refine iteT (rd_allS hz fun H' s1 => ?_)
              have q := k H' s1
              have e : isNameD (.str z) = z.cps.toList.all fun c => decide (c ∈ lettL.cps.toList) := by
                show nameS z = _
                simp only [nameS, ed, decide_eq_true n1, decide_eq_true n2, decide_eq_false h3, decide_eq_true h4, Bool.not_false, Bool.true_and]
              rw [e] at q
              exact q
            · rw [decide_eq_false h4]
              refine iteF (no ?_)
              show nameS z = false
              simp only [nameS, ed, decide_eq_false h4, Bool.false_and, Bool.and_false]
        · rw [decide_eq_false h2]
          refine iteT (no ?_)
          have n2 : ¬ z.length ≤ 12 := by omega
          show nameS z = false
          simp only [nameS, decide_eq_false n2, Bool.false_and, Bool.and_false]
      · rw [decide_eq_false h1]
        refine iteF ⟨_, rfl, iteT (no ?_)⟩
        have n1 : ¬ 1 ≤ z.length := by omega
        show nameS z = false
        simp only [nameS, decide_eq_false n1, Bool.false_and]
    | .none, _, _, _, no => exact iteT (no rfl)
    | .bool _, _, _, _, no => exact iteT (no rfl)
    | .int _, _, _, _, no => exact iteT (no rfl)
    | .list _, _, _, _, no => exact iteT (no rfl)
    | .tuple _, _, _, _, no => exact iteT (no rfl)
    | .dict _, _, _, _, no => exact iteT (no rfl)
end
end LW
namespace LW
open PySem PySem.Spec PyProof.Rows L2 DW
section
variable {P : Program} {w : World} {K : PySem.W.Frag} {mg : Str → Option Value} {base : Heap}
def spJn (K : PySem.W.Frag) (n : Nat) (f : PyData → Bool) : Sp := fun vs H Q _ => ∃ v d, vs = [v] ∧ Dd K H v d ∧ Fn n d ∧ ∀ H', Same H H' → Q (.bl (f d)) H'
/-- all([f(x) for x in t]), t a tuple of data -/
theorem rd_allT {f : PyData → Bool} {n : Nat} {a : Addr} {xs : List V} {ds : List PyData} {H : Hp} {x1 : Option V} {rest : L2.St} {sp : Sp} {Q : VK} (ha : SqT K H a xs) (hp : DpAll K H xs ds) (hn : ∀ x ∈ ds, x.hasDict = false) (hf : ∀ x ∈ ds, Fn n x) (hl : ds.length ≤ 1000)
    (call : ∀ (v : V) (d : PyData) (H1 : Hp) (R : VK), Dd K H1 v d → Fn n d → (∀ H2, Same H1 H2 → R (.bl (f d)) H2) → sp [v] H1 R E0) (k : ∀ H', Same H H' → Q (.bl (ds.all f)) H') :
    tCB (rAll K) (tCons (tLc (iTup K (tVar 0)) (gName 1) tYes (tCall sp [] E0 (tCons (tVar 1) tNil)) [1]) tNil) (some (.ref a) :: x1 :: rest) H Q := by
  refine ⟨_, rfl, a, rfl, ⟨xs, ha⟩, fun D hD => lc_tup (K := K) (xs := xs) (fun i H' => Same H H' ∧ H' D = some (.lst (((ds.take i).map f).map V.bl))) ⟨same_new hD, upd_same⟩ (fun i H' _ p => sqT_same p.1 ha)
    (fun i x H' hx p => ⟨rfl, tyes ⟨_, rfl, ?_⟩⟩) (fun H' p => ?_)⟩
  · obtain ⟨s1, hy⟩ := p
    obtain ⟨d, hd, hr⟩ := DpAll.at hp hx
    have hm : d ∈ ds := List.mem_of_getElem? hd
    refine call x d H' _ (.base (Dp.same s1 hr) (hn d hm)) (hf d hm) fun H2 s2 => ⟨_, s2 _ _ hy, ?_, same_mut (s1.trans s2) hD, ?_⟩
    · rw [List.length_map, List.length_map, List.length_take, sizeLine_eq]
      omega
    · rw [upd_same, takeSucc hd]
      simp
  · obtain ⟨s1, hy⟩ := p
    rw [DpAll.length hp, List.take_length] at hy
    refine fin_all hy ?_
    rw [List.all_map]
    exact k H' s1
def pairD (d : PyData) : Bool := match d with
  | .tuple ds => decide (ds.length = 2) | _ => false
theorem scPair : FnScope ["value"] ["value"] (defScope s_is_pair) := ⟨rfl, rfl, rfl, by decide +kernel, rfl, by decide +kernel, by decide +kernel⟩
theorem ok_pair {f : Addr} {fd : FuncData} (F : Fun K "is_pair" "is_pair" s_is_pair f fd) (zI : mg "isinstance" = none) (zT : mg "tuple" = none) (zL : mg "len" = none) : FnOk P w K mg base CX0 1 f fd ["value"] (spJn K 0 pairD) := by
  refine F.ok scPair (fun vs H Q E h => ?_) (fun cdv A outer s H vs Q E hr h => ?_)
  · obtain ⟨v, d, rfl, _⟩ := h
    rfl
  · obtain ⟨v, d, rfl, hd, _, k⟩ := h
    have k := k H (Same.refl H)
    refine ⟨_, pss_one (ps_ret (pe_and (pe_callB call_isi (by rfl) zI (by rfl) (pa_cons (pv 0) (pa_cons (pe_bltn rfl zT (by rfl) (show RelV (.ty "tuple") (.type "tuple") from rfl)) pa_nil)))
      (pe_one (pe_cmpR op_eq (pe_callB call_len_seq (by rfl) zL PySem.boot_len (pa_cons (pv 0) pa_nil)) pe_int (nomark _))))), ?_⟩
    refine rd_isi rfl hd (kit_tup d) ⟨_, rfl, ?_⟩
    match d, hd, k with
    | .tuple ds, hd, k =>
      obtain ⟨a, xs, rfl, hs, ha, _⟩ := hd.tup_inv
      refine iteT ⟨_, rfl, a, xs, rfl, .inr hs, rfl, ?_⟩
      have e : decide (V.int ((xs.length : Nat) : Int) = V.int 2) = decide (ds.length = 2) := by
        rw [DpAll.length ha, dec_int]
        by_cases q : ds.length = 2
        · rw [q]; rfl
        · rw [decide_eq_false q, beq_eq_false_iff_ne]; omega
      rw [e]
      exact k
    | .none, _, k => exact iteF k
    | .bool _, _, k => exact iteF k
    | .int _, _, k => exact iteF k
    | .str _, _, k => exact iteF k
    | .list _, _, k => exact iteF k
    | .dict _, _, k => exact iteF k
end
end LW
namespace DW
open PySem PySem.Spec PyProof.Rows L2
/-! ### data of tuples at a depth -/
def Td (H : Hp) : Nat → V → PyData → Prop
  | 0, _, _ => False
  | n + 1, v, d => (v = .non ∧ d = .none) ∨ (∃ b, v = .bl b ∧ d = .bool b) ∨ (∃ i, v = .int i ∧ d = .int i) ∨ (∃ x, v = .str x ∧ d = .str x) ∨
    ∃ a xs ds, v = .ref a ∧ d = .tuple ds ∧ H a = some (.tup xs) ∧ xs.length < 1000 ∧ Paired (Td H n) xs ds
def KeepT (H H' : Hp) : Prop := ∀ a xs, H a = some (.tup xs) → H' a = some (.tup xs)
theorem Same.keepT {H H' : Hp} (s : Same H H') : KeepT H H' := fun a xs e => s a _ e
theorem Td.keep {H H' : Hp} (k : KeepT H H') : ∀ {n : Nat} {v : V} {d : PyData}, Td H n v d → Td H' n v d
  | 0, _, _, h => h.elim
  | n + 1, v, d, h => by
    rcases h with h | h | h | h | ⟨a, xs, ds, e1, e2, e3, e4, e5⟩
    · exact .inl h
    · exact .inr (.inl h)
    · exact .inr (.inr (.inl h))
    · exact .inr (.inr (.inr (.inl h)))
    · exact .inr (.inr (.inr (.inr ⟨a, xs, ds, e1, e2, k _ _ e3, e4, pairedMono (fun x y z => Td.keep k z) e5⟩)))
theorem Td.int {H : Hp} {n : Nat} {v : V} {i : Int} (h : Td H (n + 1) v (.int i)) : v = .int i := by
  rcases h with h | ⟨b, _, h⟩ | ⟨j, e, h⟩ | ⟨x, _, h⟩ | ⟨a, xs, ds, _, h, _⟩
  · exact absurd h.2 (by simp)
  · cases h
  · cases h; exact e
  · cases h
  · cases h
theorem is_no {K : PySem.W.Frag} {a b : TS} {D : Ends} {σ : L2.St} {H : Hp} {T t : String} {v : V} (hv : σ[0]? = some (some v)) (ty : TyX K H v (.type t)) (hk : kitB t T = some false) (h : b D σ H) :
    tIfS (tB (tCB (rIsi K) (tCons (tVar 0) (tCons (tC (.ty T)) tNil)))) a b D σ H := ⟨v, hv, v, .ty T, _, _, _, rfl, .ty _, ty, kit_ty hk, _, rfl, ite2 (fun z => nomatch z) (fun _ => h)⟩
theorem is_yes {K : PySem.W.Frag} {a b : TS} {D : Ends} {σ : L2.St} {H : Hp} {T t : String} {v : V} (hv : σ[0]? = some (some v)) (ty : TyX K H v (.type t)) (hk : kitB t T = some true) (h : a D σ H) :
    tIfS (tB (tCB (rIsi K) (tCons (tVar 0) (tCons (tC (.ty T)) tNil)))) a b D σ H := ⟨v, hv, v, .ty T, _, _, _, rfl, .ty _, ty, kit_ty hk, _, rfl, ite2 (fun _ => h) (fun z => absurd rfl z)⟩
end DW
namespace DW
open PySem PySem.Spec PyProof.Rows L2
theorem storeKey : StoreFacts "KeyError" [.type "KeyError", .type "LookupError", .type "Exception", .type "BaseException", .type "object"] "object.__setattr__" "object" :=
  ⟨by kernel_rfl, .of (owner := "object") (n := "__setattr__") (by rw [typeLookup_type, builtinLookup_eq_fast]; kernel_rfl) (by decide +kernel) (by decide +kernel) (by decide +kernel)
    (by first | exact .inl (by decide +kernel) | exact .inr (by decide +kernel)) (by rw [isSubtype_type]; kernel_rfl),
   (PySem.F.store_RuntimeError).entry, by decide +kernel, by decide +kernel, by decide +kernel, fun a b c => by unfold argsOk; kernel_rfl, fun self => by kernel_rfl⟩
mutual
theorem Td.dp {K : PySem.W.Frag} {H : Hp} : ∀ {n : Nat} {v : V} {d : PyData}, Td H n v d → Dp K H v d ∧ d.hasDict = false
  | 0, _, _, h => h.elim
  | n + 1, v, d, h => by
    rcases h with ⟨rfl, rfl⟩ | ⟨b, rfl, rfl⟩ | ⟨i, rfl, rfl⟩ | ⟨x, rfl, rfl⟩ | ⟨a, xs, ds, rfl, rfl, ha, _, hp⟩
    · exact ⟨.non, rfl⟩
    · exact ⟨.bl b, rfl⟩
    · exact ⟨.int i, rfl⟩
    · exact ⟨.str x, rfl⟩
    · obtain ⟨z1, z2⟩ := Td.dpAll (K := K) hp
      exact ⟨.tup (SqT.of ha) z1, z2⟩
theorem Td.dpAll {K : PySem.W.Frag} {H : Hp} : ∀ {n : Nat} {xs : List V} {ds : List PyData}, Paired (Td H n) xs ds → DpAll K H xs ds ∧ PyData.hasDictAll ds = false
  | _, _, _, .nil => ⟨.nil, rfl⟩
  | n, _, _, .cons r k => by
    obtain ⟨a1, a2⟩ := Td.dp (K := K) r
    obtain ⟨b1, b2⟩ := Td.dpAll (K := K) k
    exact ⟨.cons a1 b1, by show (_ || _) = false; rw [a2, b2]; rfl⟩
end
/-- what is copied -/
def Cp (H : Hp) (v : V) (d : PyData) : Prop := Td H 4 v d ∨ (∃ a xs ds, v = .ref a ∧ d = .list ds ∧ H a = some (.lst xs) ∧ xs.length < 1000 ∧ Paired (Td H 3) xs ds) ∨
  ∃ (a : Addr) (kvs : List (Key × Int)), v = .ref a ∧ d = .dict (kvs.map fun p => (keyD p.1, PyData.int p.2)) ∧ H a = some (.dK (kvs.map fun p => (p.1, V.int p.2))) ∧ kvs.length ≤ 1
theorem Cp.dd {K : PySem.W.Frag} {H : Hp} {v : V} {d : PyData} (h : Cp H v d) : Dd K H v d := by
  rcases h with h | ⟨a, xs, ds, rfl, rfl, ha, _, hp⟩ | ⟨a, kvs, rfl, rfl, ha, _⟩
  · obtain ⟨z1, z2⟩ := Td.dp (K := K) h
    exact .base z1 z2
  · obtain ⟨z1, z2⟩ := Td.dpAll (K := K) hp
    exact .base (.lst (SqL.of ha) z1) z2
  · exact .dct ha
def plainO : HO → Bool
  | .tup _ => true | .lst _ => true | .dK _ => true | _ => false
def KeepD (H H' : Hp) : Prop := ∀ b o, plainO o = true → H b = some o → H' b = some o
theorem Same.keepD {H H' : Hp} (s : Same H H') : KeepD H H' := fun b o _ e => s b o e
theorem KeepD.upd {H : Hp} {a : Addr} {o u : HO} (e : H a = some u) (n : plainO u = false) : KeepD H (upd H a o) := fun b z p q => by
  rw [upd_ne fun y => ?_]
  · exact q
  · rw [y, e] at q; cases q; rw [n] at p; cases p
theorem KeepD.trans {H H1 H2 : Hp} (a : KeepD H H1) (b : KeepD H1 H2) : KeepD H H2 := fun c o p h => b c o p (a c o p h)
theorem Cp.keep {H H' : Hp} {v : V} {d : PyData} (k : KeepD H H') (h : Cp H v d) : Cp H' v d := by
  have kt : KeepT H H' := fun a xs e => k a _ rfl e
  rcases h with h | ⟨a, xs, ds, rfl, rfl, ha, hl, hp⟩ | ⟨a, kvs, rfl, rfl, ha, hl⟩
  · exact .inl (Td.keep kt h)
  · exact .inr (.inl ⟨a, xs, ds, rfl, rfl, k _ _ rfl ha, hl, pairedMono (fun _ _ z => Td.keep kt z) hp⟩)
  · exact .inr (.inr ⟨a, kvs, rfl, rfl, k _ _ rfl ha, hl⟩)
theorem plain_exq {a C t : Addr} {d : Option Addr} : plainO (exq a C d t) = false := rfl
end DW
namespace DW
open PySem PySem.Spec PyProof.Rows L2
theorem none_of {H H' : Hp} {a : Addr} (s : Same H H') (n : H' a = none) : H a = none := by
  cases e : H a with
  | none => rfl
  | some o =>
    rw [s a o e] at n
    cases n
/-- raise e, where e gives an own exception without a dict -/
theorem pmk_exq0 {X : Cx} {e : Expr} {te : TE} (hx : X.ex = []) (he : PE X e te) : PMk X e (fun σ H Q => te σ H fun x H1 => ∃ (a C t : Addr), x = .ref a ∧ H1 a = some (exq a C none t) ∧ Fr0 X.H_0 a ∧ Raises X (.ref C) ∧ Q (.ref C) none (delH H1 a)) := by
  intro pins s σ H Q I h
  refine wpAny_mono (he.run pins s σ H _ I h) (fun u s1 hu => ?_) fun _ _ x => x
  obtain ⟨v, H1, I1, r1, a, C, t, rfl, ha, h0, hr, q⟩ := hu
  cases (show u = Value.ref a from r1)
  have z := exq_at I1.hok ha
  obtain ⟨G, gs, ga, J⟩ := I1.untrack (φ := fun h => h.get? a = some (exr C none t)) ha h0 hx
  exact ⟨a, _, _, { s1 with heap := G }, _, .ref C, none, rfl, J, gs, ga, z, ⟨rfl, rfl⟩, rfl, rfl, delH_same, rfl, I1.bare, hr, q⟩
/-- what is never come to -/
theorem dead {X : Cx} {st : List Stmt} : PSs X st (fun _ _ _ => False) := ⟨fun _ _ _ _ _ _ h => h.elim⟩
theorem deadE {X : Cx} {e : Expr} : PE X e (fun _ _ _ => False) := ⟨fun _ _ _ _ _ _ h => h.elim⟩
theorem deadT {X : Cx} {e : Expr} : PT X e (fun _ _ _ => False) := ⟨fun _ _ _ _ _ _ h => h.elim⟩
abbrev bmV : List Value := [.type "ValueError", .type "Exception", .type "BaseException", .type "object"]
/-- an own error without an __init__ of its own -/
structure Pl (K : PySem.W.Frag) (mg : Str → Option Value) (nm : Str) (C : Addr) : Prop where
  ex : ExK K C
  g : mg nm = some (.ref C)
  q : PySem.W.excInitIn K C bmV "ValueError.__new__" = true
  hi : PySem.W.findIn K (.ref C) "__init__" = some (some (.builtin "ValueError.__init__"))
  ty : PySem.W.typeIn K (.ref C) = some (.type "type")
theorem del_new2 {H : Hp} {a t : Addr} {v : V} {C : Addr} (na : H a = none) (ne : t ≠ a) : delH (upd (upd H t (.tup [v])) a (exq a C none t)) a = upd H t (.tup [v]) := delH_new (by rw [upd_ne (Ne.symm ne)]; exact na)
/-- the raise of such an error: nothing that stood changes -/
theorem rd_pl {X : Cx} {C : Addr} {m : Str} {σ : L2.St} {H : Hp} {Q : XK} (r : Raises X (.ref C)) (h0 : ∀ a, H a = none → X.H_0 a = none) (k : ∀ H', Same H H' → Q (.ref C) none H') :
    tExP C (tC (.str m)) σ H fun x H1 => ∃ (a C t : Addr), x = .ref a ∧ H1 a = some (exq a C none t) ∧ Fr0 X.H_0 a ∧ Raises X (.ref C) ∧ Q (.ref C) none (delH H1 a) := fun a t na nt ne =>
  ⟨a, C, t, rfl, upd_same, fr0_none (h0 a na), r, by rw [del_new2 na ne]; exact k _ (same_new nt)⟩
end DW
namespace DW
open PySem PySem.Spec PyProof.Rows L2
section
variable {J : It} {n : Nat} {G : Hp → Prop} {Y : Nat → Hp → V → Hp → Prop}
/-- a dict comprehension over a walk -/
theorem dc_it (w : Walk J n G Y) {g : TG} {tt : TT} {tk tv : TE} {vs : List Nat} {σ : L2.St} {H1 : Hp} {D : Addr} {Qd : Hp → Prop} (Pv : Nat → Hp → Prop) (h0 : Pv 0 (upd H1 D (.dK []))) (hG : ∀ i H, i ≤ n → Pv i H → G H)
    (hs : ∀ i x H H', i < n → Pv i H → Y i H x H' → g x (wipe σ vs) H' fun σ2 H2 => wipe σ2 vs = wipe σ vs ∧ tt σ2 H2 fun b H3 =>
      if b = true then tk σ2 H3 fun y H4 => tv σ2 H4 fun z H5 => ∃ kvs k, y = kV k ∧ H5 D = some (.dK kvs) ∧ kvs.length < sizeLine ∧ Pv (i + 1) (upd H5 D (.dK (putK kvs k z))) else Pv (i + 1) H3) (hd : ∀ H, Pv n H → Qd H) :
    ∃ W : Nat → Nat → Hp → Prop, (∃ m, W 0 m (upd H1 D (.dK []))) ∧ ∀ i m H, W i m H →
      (J.stop i H ∧ Qd H) ∨ (J.go i H ∧ ∃ Nx : Hp → Prop, (∀ H', Nx H' → ∃ m', m' < m ∧ W (i + 1) m' H') ∧ ∀ x H', J.yld i H x H' → g x (wipe σ vs) H' fun σ2 H2 => wipe σ2 vs = wipe σ vs ∧ tt σ2 H2 fun b H3 =>
        if b = true then tk σ2 H3 fun y H4 => tv σ2 H4 fun z H5 => ∃ kvs k, y = kV k ∧ H5 D = some (.dK kvs) ∧ kvs.length < sizeLine ∧ Nx (upd H5 D (.dK (putK kvs k z))) else Nx H3) := by
  refine ⟨fun i m H => m = n - i ∧ i ≤ n ∧ Pv i H, ⟨n, by simp, Nat.zero_le _, h0⟩, ?_⟩
  rintro i m H ⟨rfl, hi, p⟩
  have q := hG i H hi p
  by_cases hlt : i < n
  · exact .inr ⟨w.goes i H hlt q, Pv (i + 1), fun H' p' => ⟨n - (i + 1), by omega, rfl, hlt, p'⟩, fun x H' y => hs i x H H' hlt p (w.yields i H x H' hlt q y)⟩
  · have e : i = n := by omega
    subst e
    exact .inl ⟨w.stops H q, hd H p⟩
/-- .. with tuple keys -/
theorem dcT_it (w : Walk J n G Y) {g : TG} {tt : TT} {tk tv : TE} {vs : List Nat} {σ : L2.St} {H1 : Hp} {D : Addr} {Qd : Hp → Prop} (Pv : Nat → Hp → Prop) (h0 : Pv 0 (upd H1 D (.dT []))) (hG : ∀ i H, i ≤ n → Pv i H → G H)
    (hs : ∀ i x H H', i < n → Pv i H → Y i H x H' → g x (wipe σ vs) H' fun σ2 H2 => wipe σ2 vs = wipe σ vs ∧ tt σ2 H2 fun b H3 =>
      if b = true then tk σ2 H3 fun y H4 => tv σ2 H4 fun z H5 => ∃ kvs k c, y = .ref c ∧ H5 c = some (.tup (k.map kV)) ∧ H5 D = some (.dT kvs) ∧ kvs.length < sizeLine ∧ Pv (i + 1) (upd H5 D (.dT (putK kvs k z))) else Pv (i + 1) H3) (hd : ∀ H, Pv n H → Qd H) :
    ∃ W : Nat → Nat → Hp → Prop, (∃ m, W 0 m (upd H1 D (.dT []))) ∧ ∀ i m H, W i m H →
      (J.stop i H ∧ Qd H) ∨ (J.go i H ∧ ∃ Nx : Hp → Prop, (∀ H', Nx H' → ∃ m', m' < m ∧ W (i + 1) m' H') ∧ ∀ x H', J.yld i H x H' → g x (wipe σ vs) H' fun σ2 H2 => wipe σ2 vs = wipe σ vs ∧ tt σ2 H2 fun b H3 =>
        if b = true then tk σ2 H3 fun y H4 => tv σ2 H4 fun z H5 => ∃ kvs k c, y = .ref c ∧ H5 c = some (.tup (k.map kV)) ∧ H5 D = some (.dT kvs) ∧ kvs.length < sizeLine ∧ Nx (upd H5 D (.dT (putK kvs k z))) else Nx H3) := by
  refine ⟨fun i m H => m = n - i ∧ i ≤ n ∧ Pv i H, ⟨n, by simp, Nat.zero_le _, h0⟩, ?_⟩
  rintro i m H ⟨rfl, hi, p⟩
  have q := hG i H hi p
  by_cases hlt : i < n
  · exact .inr ⟨w.goes i H hlt q, Pv (i + 1), fun H' p' => ⟨n - (i + 1), by omega, rfl, hlt, p'⟩, fun x H' y => hs i x H H' hlt p (w.yields i H x H' hlt q y)⟩
  · have e : i = n := by omega
    subst e
    exact .inl ⟨w.stops H q, hd H p⟩
/-- the second loop of a comprehension -/
theorem in_it (w : Walk J n G Y) {g : TG} {tt : TT} {te : TE} {vs : List Nat} {σ : L2.St} {H0 : Hp} {D : Addr} {Nx : Hp → Prop} (Pv : Nat → Hp → Prop) (h0 : Pv 0 H0) (hG : ∀ i H, i ≤ n → Pv i H → G H)
    (hs : ∀ i x H H', i < n → Pv i H → Y i H x H' → g x (wipe σ vs) H' fun σ2 H2 => wipe σ2 vs = wipe σ vs ∧ tt σ2 H2 fun b H3 =>
      if b = true then te σ2 H3 fun y H4 => ∃ acc, H4 D = some (.lst acc) ∧ acc.length < sizeLine ∧ Pv (i + 1) (upd H4 D (.lst (acc ++ [y]))) else Pv (i + 1) H3) (hd : ∀ H, Pv n H → Nx H) :
    ∃ W : Nat → Nat → Hp → Prop, (∃ m, W 0 m H0) ∧ ∀ i m H, W i m H →
      (J.stop i H ∧ Nx H) ∨ (J.go i H ∧ ∃ N1 : Hp → Prop, (∀ H', N1 H' → ∃ m', m' < m ∧ W (i + 1) m' H') ∧ ∀ x H', J.yld i H x H' → g x (wipe σ vs) H' fun σ2 H2 => wipe σ2 vs = wipe σ vs ∧ tt σ2 H2 fun b H3 =>
        if b = true then te σ2 H3 fun y H4 => ∃ acc, H4 D = some (.lst acc) ∧ acc.length < sizeLine ∧ N1 (upd H4 D (.lst (acc ++ [y]))) else N1 H3) := by
  refine ⟨fun i m H => m = n - i ∧ i ≤ n ∧ Pv i H, ⟨n, by simp, Nat.zero_le _, h0⟩, ?_⟩
  rintro i m H ⟨rfl, hi, p⟩
  have q := hG i H hi p
  by_cases hlt : i < n
  · exact .inr ⟨w.goes i H hlt q, Pv (i + 1), fun H' p' => ⟨n - (i + 1), by omega, rfl, hlt, p'⟩, fun x H' y => hs i x H H' hlt p (w.yields i H x H' hlt q y)⟩
  · have e : i = n := by omega
    subst e
    exact .inl ⟨w.stops H q, hd H p⟩
/-- the first loop of one with two -/
theorem lc2_it (w : Walk J n G Y) {wi1 : TI} {g g1 : TG} {tt tt1 : TT} {te : TE} {vs vs1 : List Nat} {σ : L2.St} {H1 : Hp} {D : Addr} {Qd : Hp → Prop} (Pv : Nat → Hp → Prop) (h0 : Pv 0 (upd H1 D (.lst []))) (hG : ∀ i H, i ≤ n → Pv i H → G H)
    (hs : ∀ i x H H', i < n → Pv i H → Y i H x H' → g x (wipe σ vs) H' fun σ2 H2 => wipe σ2 vs = wipe σ vs ∧ tt σ2 H2 fun b H3 =>
      if b = true then wi1 σ2 H3 fun J1 H4 => ∃ W1 : Nat → Nat → Hp → Prop, (∃ m, W1 0 m H4) ∧ ∀ j k H, W1 j k H →
        (J1.stop j H ∧ Pv (i + 1) H) ∨ (J1.go j H ∧ ∃ Nx1 : Hp → Prop, (∀ H', Nx1 H' → ∃ k', k' < k ∧ W1 (j + 1) k' H') ∧ ∀ x H', J1.yld j H x H' → g1 x (wipe σ2 vs1) H' fun σ3 H5 => wipe σ3 vs1 = wipe σ2 vs1 ∧ tt1 σ3 H5 fun b H6 =>
          if b = true then te σ3 H6 fun y H7 => ∃ acc, H7 D = some (.lst acc) ∧ acc.length < sizeLine ∧ Nx1 (upd H7 D (.lst (acc ++ [y]))) else Nx1 H6)
      else Pv (i + 1) H3) (hd : ∀ H, Pv n H → Qd H) :
    ∃ W : Nat → Nat → Hp → Prop, (∃ m, W 0 m (upd H1 D (.lst []))) ∧ ∀ i m H, W i m H →
      (J.stop i H ∧ Qd H) ∨ (J.go i H ∧ ∃ Nx : Hp → Prop, (∀ H', Nx H' → ∃ m', m' < m ∧ W (i + 1) m' H') ∧ ∀ x H', J.yld i H x H' → g x (wipe σ vs) H' fun σ2 H2 => wipe σ2 vs = wipe σ vs ∧ tt σ2 H2 fun b H3 =>
      if b = true then wi1 σ2 H3 fun J1 H4 => ∃ W1 : Nat → Nat → Hp → Prop, (∃ m, W1 0 m H4) ∧ ∀ j k H, W1 j k H →
        (J1.stop j H ∧ Nx H) ∨ (J1.go j H ∧ ∃ Nx1 : Hp → Prop, (∀ H', Nx1 H' → ∃ k', k' < k ∧ W1 (j + 1) k' H') ∧ ∀ x H', J1.yld j H x H' → g1 x (wipe σ2 vs1) H' fun σ3 H5 => wipe σ3 vs1 = wipe σ2 vs1 ∧ tt1 σ3 H5 fun b H6 =>
          if b = true then te σ3 H6 fun y H7 => ∃ acc, H7 D = some (.lst acc) ∧ acc.length < sizeLine ∧ Nx1 (upd H7 D (.lst (acc ++ [y]))) else Nx1 H6)
      else Nx H3) := by
  refine ⟨fun i m H => m = n - i ∧ i ≤ n ∧ Pv i H, ⟨n, by simp, Nat.zero_le _, h0⟩, ?_⟩
  rintro i m H ⟨rfl, hi, p⟩
  have q := hG i H hi p
  by_cases hlt : i < n
  · exact .inr ⟨w.goes i H hlt q, Pv (i + 1), fun H' p' => ⟨n - (i + 1), by omega, rfl, hlt, p'⟩, fun x H' y => hs i x H H' hlt p (w.yields i H x H' hlt q y)⟩
  · have e : i = n := by omega
    subst e
    exact .inl ⟨w.stops H q, hd H p⟩
end
/-- isinstance(x, T) by the type -/
theorem rd_isiT {K : PySem.W.Frag} {σ : L2.St} {H : Hp} {T t : String} {v : V} {b : Bool} {Q : VK} {i : Nat} (hv : σ[i]? = some (some v)) (ty : TyX K H v (.type t)) (hk : kitB t T = some b) (q : Q (.bl b) H) :
    tCB (rIsi K) (tCons (tVar i) (tCons (tC (.ty T)) tNil)) σ H Q := ⟨v, hv, v, .ty T, _, _, b, rfl, .ty _, ty, kit_ty hk, q⟩
/-! ### dicts and sets of texts -/
/-- the keys are just these texts -/
def KnM (kn : List (Key × V)) (S : List Str) : Prop := ∀ k : Key, (valV kn k).isSome = true ↔ ∃ s ∈ S, k = .inr s
theorem KnM.nil : KnM [] [] := fun k => by
  constructor
  · intro h; cases h
  · rintro ⟨s, h, _⟩; cases h
theorem KnM.put {kn : List (Key × V)} {S T : List Str} {s : Str} {v : V} (h : KnM kn S) (hT : ∀ x, x ∈ T ↔ x = s ∨ x ∈ S) : KnM (putK kn (.inr s) v) T := fun k => by
  rw [valV_put]
  by_cases e : k = .inr s
  · rw [if_pos e]
    exact ⟨fun _ => ⟨s, (hT s).mpr (.inl rfl), e⟩, fun _ => rfl⟩
  · rw [if_neg e, h k]
    constructor
    · rintro ⟨x, hx, ex⟩; exact ⟨x, (hT x).mpr (.inr hx), ex⟩
    · rintro ⟨x, hx, ex⟩
      rcases (hT x).mp hx with z | z
      · exact absurd (ex.trans (by rw [z])) e
      · exact ⟨x, z, ex⟩
theorem KnM.of {kn : List (Key × V)} {S : List Str} (h : KnM kn S) {k : Key} {v : V} (m : (k, v) ∈ kn) : ∃ s ∈ S, k = .inr s :=
  (h k).mp (by rw [← valV_any]; exact List.any_eq_true.mpr ⟨_, m, decide_eq_true rfl⟩)
theorem putK_len {κ : Type} [DecidableEq κ] (c : List (κ × V)) (k : κ) (x : V) : (putK c k x).length ≤ c.length + 1 := by
  unfold putK
  split
  · rw [List.length_map]; omega
  · rw [List.length_append]; exact Nat.le_refl _
theorem valV_mem {κ : Type} [DecidableEq κ] {kvs : List (κ × V)} {k : κ} {v : V} (h : valV kvs k = some v) : (k, v) ∈ kvs := by
  induction kvs with
  | nil => cases h
  | cons p r ih =>
    by_cases e : p.1 = k
    · rw [valV_pos e] at h
      injection h with h
      subst e h
      exact List.mem_cons_self ..
    · rw [valV_neg e] at h
      exact List.mem_cons_of_mem _ (ih h)
theorem KnM.has {kn : List (Key × V)} {S : List Str} (h : KnM kn S) {s : Str} (m : s ∈ S) : ∃ v, ((.inr s : Key), v) ∈ kn := by
  have z := (h (.inr s)).mpr ⟨s, m, rfl⟩
  cases e : valV kn (.inr s) with
  | none => rw [e] at z; cases z
  | some v => exact ⟨v, valV_mem e⟩
theorem KnM.all {kn : List (Key × V)} {S : List Str} (h : KnM kn S) (f : Str → Bool) : (kn.all fun q => match q.1 with | .inr s => f s | .inl _ => true) = S.all f := by
  rw [Bool.eq_iff_iff, List.all_eq_true, List.all_eq_true]
  constructor
  · intro z s hs
    obtain ⟨v, hv⟩ := h.has hs
    exact z _ hv
  · rintro z ⟨k, v⟩ hq
    obtain ⟨s, hs, e⟩ := h.of hq
    subst e
    exact z s hs
theorem mut_dK {kvs : List (Key × V)} : Mut (some (.dK kvs)) := True.intro
theorem mut_dT {kvs : List (List Key × V)} : Mut (some (.dT kvs)) := True.intro
end DW
namespace DW
open PySem PySem.Spec PyProof.Rows L2
/-! ### data with dicts within, and its repr -/
/-- what stands at sys.modules is a dict, from the start on -/
def SysB (b : Heap) : Prop := ∃ o, b.get? sysModules = some o ∧ o.cls = .type "dict"
def tupD (k : List Key) : PyData := .tuple (k.map keyD)
mutual
inductive Dz (K : PySem.W.Frag) (H : Hp) : V → PyData → Prop
  | non : Dz K H .non .none
  | bl (b : Bool) : Dz K H (.bl b) (.bool b)
  | int (i : Int) : Dz K H (.int i) (.int i)
  | str (x : Str) : Dz K H (.str x) (.str x)
  | lst {a : Addr} {xs : List V} {ds : List PyData} (h : SqL K H a xs) (r : DzAll K H xs ds) : Dz K H (.ref a) (.list ds)
  | tup {a : Addr} {xs : List V} {ds : List PyData} (h : SqT K H a xs) (r : DzAll K H xs ds) : Dz K H (.ref a) (.tuple ds)
  | dK {a : Addr} {kvs : List (Key × V)} {ds : List PyData} (h : H a = some (.dK kvs)) (r : DzAll K H (kvs.map (·.2)) ds) : Dz K H (.ref a) (.dict ((kvs.map fun p => keyD p.1).zip ds))
  | dT {a : Addr} {kvs : List (List Key × V)} {ds : List PyData} (h : H a = some (.dT kvs)) (r : DzAll K H (kvs.map (·.2)) ds) : Dz K H (.ref a) (.dict ((kvs.map fun p => tupD p.1).zip ds))
inductive DzAll (K : PySem.W.Frag) (H : Hp) : List V → List PyData → Prop
  | nil : DzAll K H [] []
  | cons {v : V} {vs : List V} {d : PyData} {ds : List PyData} : Dz K H v d → DzAll K H vs ds → DzAll K H (v :: vs) (d :: ds)
end
theorem DzAll.length {K : PySem.W.Frag} {H : Hp} : ∀ {vs : List V} {ds : List PyData}, DzAll K H vs ds → vs.length = ds.length
  | _, _, .nil => rfl
  | _, _, .cons _ h => by rw [List.length_cons, List.length_cons, DzAll.length h]
mutual
theorem Dz.of {K : PySem.W.Frag} {H : Hp} : ∀ {v : V} {d : PyData}, Dp K H v d → Dz K H v d
  | _, _, .non => .non
  | _, _, .bl b => .bl b
  | _, _, .int i => .int i
  | _, _, .str x => .str x
  | _, _, .lst h a => .lst h (DzAll.of a)
  | _, _, .tup h a => .tup h (DzAll.of a)
theorem DzAll.of {K : PySem.W.Frag} {H : Hp} : ∀ {vs : List V} {ds : List PyData}, DpAll K H vs ds → DzAll K H vs ds
  | _, _, .nil => .nil
  | _, _, .cons a b => .cons (Dz.of a) (DzAll.of b)
end
mutual
theorem Dz.same {K : PySem.W.Frag} {H H' : Hp} (s : Same H H') : ∀ {v : V} {d : PyData}, Dz K H v d → Dz K H' v d
  | _, _, .non => .non
  | _, _, .bl b => .bl b
  | _, _, .int i => .int i
  | _, _, .str x => .str x
  | _, _, .lst h a => .lst (Same.seq s h) (DzAll.same s a)
  | _, _, .tup h a => .tup (sqT_same s h) (DzAll.same s a)
  | _, _, .dK h a => .dK (s _ _ h) (DzAll.same s a)
  | _, _, .dT h a => .dT (s _ _ h) (DzAll.same s a)
theorem DzAll.same {K : PySem.W.Frag} {H H' : Hp} (s : Same H H') : ∀ {vs : List V} {ds : List PyData}, DzAll K H vs ds → DzAll K H' vs ds
  | _, _, .nil => .nil
  | _, _, .cons a b => .cons (Dz.same s a) (DzAll.same s b)
end
section
variable {X : Cx} {pins : List (Addr × Obj)} {σ : L2.St} {H : Hp} {s : Shared}
theorem sys_ne (hS : SysB X.base) (I : Inv X pins σ H s) {a : Addr} {o : Obj} (h : s.heap.get? a = some o) (hc : o.cls ≠ .type "dict") : sysModules ≠ a := fun e => by
  obtain ⟨o', h1, h2⟩ := hS
  have z := (I.bs _ _ h1).1
  rw [e, h] at z
  cases z
  exact hc h2
theorem keys_reads {h : Heap} {P : Program} {w : World} : ∀ {kvs : List (Key × V)} {es : List DictEntry} {vs : List (Key × Value)}, KV kvs vs → Pairs (mixKind P w) es vs →
    ReadsAll h (es.map (·.key)) (kvs.map fun p => keyD p.1) [] ∧ Vals (kvs.map (·.2)) (es.map (·.val))
  | [], _, _, r, q => by
    cases r
    cases q
    exact ⟨.nil, .nil⟩
  | p :: l, _, _, r, q => by
    cases r with
    | cons r1 r2 =>
      cases q with
      | cons q1 q2 q3 =>
        obtain ⟨z1, z2⟩ := keys_reads (h := h) r2 q3
        obtain ⟨e1, e2⟩ := r1
        refine ⟨?_, ?_⟩
        · have y := key_reads (h := h) (by rw [← e1] at q1; exact q1)
          exact ReadsAll.cons (as := []) y z1
        · refine Paired.cons ?_ z2
          show RelV p.2 _
          exact Eq.mpr (congrArg (RelV p.2) q2) e2
theorem kvs_reads {h : Heap} : ∀ {k : List Key} {us : List Value}, Vals (k.map kV) us → ReadsAll h us (k.map keyD) []
  | [], _, r => by cases r; exact .nil
  | .inl i :: k, _, r => by
    cases r with
    | cons r1 r2 =>
      obtain ⟨t, rfl⟩ := r1
      exact ReadsAll.cons (as := []) (.int i t) (kvs_reads r2)
  | .inr x :: k, _, r => by
    cases r with
    | cons r1 r2 =>
      obtain ⟨t, rfl⟩ := r1
      exact ReadsAll.cons (as := []) (.str x t) (kvs_reads r2)
theorem keysT_reads (I : Inv X pins σ H s) : ∀ {kvs : List (List Key × V)} {xs : List (List Key × Addr × Value)}, KT H kvs xs →
    ReadsAll s.heap (xs.map fun x => Value.ref x.2.1) (kvs.map fun p => tupD p.1) [] ∧ Vals (kvs.map (·.2)) (xs.map (·.2.2))
  | [], _, r => by
    cases r
    exact ⟨.nil, .nil⟩
  | p :: l, _, r => by
    cases r with
    | cons r1 r2 =>
      obtain ⟨z1, z2⟩ := keysT_reads I r2
      obtain ⟨e1, e2, e3⟩ := r1
      refine ⟨?_, Paired.cons e3 z2⟩
      obtain ⟨its, rv, ⟨o, ho, hc, n, hd⟩, _⟩ := I.tuple (SqT.of e2)
      exact ReadsAll.cons (as := []) (Reads.tuple ho hc hd (kvs_reads rv)) z1
mutual
theorem Dz.reads (hS : SysB X.base) (I : Inv X pins σ H s) : ∀ {v : V} {d : PyData} {u : Value}, Dz X.K H v d → RelV v u → ∃ as, Reads s.heap u d as ∧ sysModules ∉ as
  | _, _, _, .non, r => by
    cases r
    exact ⟨_, Reads.none, by simp⟩
  | _, _, _, .bl b, r => by
    cases r
    exact ⟨_, Reads.bool b, by simp⟩
  | _, _, _, .int i, r => by
    obtain ⟨t, rfl⟩ := r
    exact ⟨_, Reads.int i t, by simp⟩
  | _, _, _, .str x, r => by
    obtain ⟨t, rfl⟩ := r
    exact ⟨_, Reads.str x t, by simp⟩
  | _, _, _, .lst hs ha, r => by
    cases r
    obtain ⟨its, rv, ⟨o, n, ho, hc, _, hd⟩, _⟩ := I.list hs
    obtain ⟨as, hr, hn⟩ := DzAll.reads hS I ha rv
    exact ⟨_, Reads.list ho hc hd hr, by
      rw [List.mem_cons]
      rintro (e | m)
      · exact sys_ne hS I ho (by rw [hc]; decide) e
      · exact hn m⟩
  | _, _, _, .tup hs ha, r => by
    cases r
    obtain ⟨its, rv, ⟨o, ho, hc, n, hd⟩, _⟩ := I.tuple hs
    obtain ⟨as, hr, hn⟩ := DzAll.reads hS I ha rv
    exact ⟨_, Reads.tuple ho hc hd hr, hn⟩
  | _, _, _, .dK (a := a) (kvs := kvs) (ds := ds) h ha, r => by
    cases r
    obtain ⟨_, hs, vs, rel, o, es, ep, ho, hx, hd, _, hp, _⟩ := (show ObjOk X.prog X.w H s.heap a (.dK kvs) from I.hok a _ h)
    obtain ⟨z1, z2⟩ := keys_reads (h := s.heap) rel hp
    obtain ⟨as, hr, hn⟩ := DzAll.reads hS I ha z2
    have hl := DzAll.length ha
    rw [List.length_map] at hl
    refine ⟨_, Reads.dict ho hx.1 hd (by rw [List.map_fst_zip (by rw [List.length_map, hl]; exact Nat.le_refl _)]; exact z1) (by rw [List.map_snd_zip (by rw [List.length_map, hl]; exact Nat.le_refl _)]; exact hr), ?_⟩
    rw [List.mem_append]
    rintro (m | m)
    · have e : sysModules = a := by simpa using m
      rw [e] at hs
      simp at hs
    · exact hn m
  | _, _, _, .dT (a := a) (kvs := kvs) (ds := ds) h ha, r => by
    cases r
    obtain ⟨_, hs, xs, rel, o, es, ep, ho, hx, hd, he, _⟩ := (show ObjOk X.prog X.w H s.heap a (.dT kvs) from I.hok a _ h)
    obtain ⟨z1, z2⟩ := keysT_reads I rel
    obtain ⟨as, hr, hn⟩ := DzAll.reads hS I ha z2
    have hl := DzAll.length ha
    rw [List.length_map] at hl
    have k1 : es.toList.map (·.key) = xs.map fun x => Value.ref x.2.1 := by rw [he, List.map_map]; rfl
    have k2 : es.toList.map (·.val) = xs.map (·.2.2) := by rw [he, List.map_map]; rfl
    refine ⟨_, Reads.dict ho hx.1 hd (by rw [List.map_fst_zip (by rw [List.length_map, hl]; exact Nat.le_refl _), k1]; exact z1) (by rw [List.map_snd_zip (by rw [List.length_map, hl]; exact Nat.le_refl _), k2]; exact hr), ?_⟩
    rw [List.mem_append]
    rintro (m | m)
    · have e : sysModules = a := by simpa using m
      rw [e] at hs
      simp at hs
    · exact hn m
theorem DzAll.reads (hS : SysB X.base) (I : Inv X pins σ H s) : ∀ {vs : List V} {ds : List PyData} {us : List Value}, DzAll X.K H vs ds → Vals vs us → ∃ as, ReadsAll s.heap us ds as ∧ sysModules ∉ as
  | _, _, _, .nil, r => by
    cases r
    exact ⟨_, ReadsAll.nil, by simp⟩
  | _, _, _, .cons h1 h2, r => by
    cases r with
    | cons r1 r2 =>
      obtain ⟨as, q1, n1⟩ := Dz.reads hS I h1 r1
      obtain ⟨bs, q2, n2⟩ := DzAll.reads hS I h2 r2
      exact ⟨_, ReadsAll.cons q1 q2, by
        rw [List.mem_append]
        rintro (m | m)
        · exact n1 m
        · exact n2 m⟩
end
/-- repr(x) of data with dicts -/
def rReprZ (K : PySem.W.Frag) : List V → Hp → VK → Prop := fun xs H Q => ∃ v d, xs = [v] ∧ Dz K H v d ∧ d.showable = true ∧ d.shown.length ≤ sizeLine ∧ d.depth ≤ 60 ∧ Q (.str d.shown) H
theorem call_reprZ (hS : SysB X.base) (hg : X.A.guards = some []) (hu : X.A.units + 64 < cLine) : CallR X (.builtin "repr") (rReprZ X.K) := by
  intro pins s σ H xs us Q I r h
  obtain ⟨v, d, rfl, hd, hs, hz, hp, q⟩ := h
  obtain ⟨u, rfl, r1⟩ := vals1 r
  obtain ⟨as, hr, hm⟩ := hd.reads hS I r1
  have hm' : d.hasDict = true → sysModules ∉ as := fun _ => hm
  cases hr with
  | none => exact PySem.P.repr_of_none ⟨.str _, H, I.tok _, ⟨_, rfl⟩, q⟩
  | bool b => exact PySem.P.repr_of_bool ⟨.str _, H, I.tok _, ⟨_, rfl⟩, q⟩
  | int i t => exact PySem.P.repr_of_int (by simpa [PyData.showable] using hs) ⟨.str _, H, I.tok _, ⟨_, rfl⟩, q⟩
  | str x t => exact PySem.P.repr_of_str ⟨.str _, H, I.tok _, ⟨_, rfl⟩, q⟩ hz
  | list h1 h2 h3 h4 => exact repr_of_reads' (Reads.list h1 h2 h3 h4) hs hm' hg (by omega) (fun _ _ z => z) (fun h' t tk k => ⟨.str _, H, I.kept (t' := tk) k, ⟨_, rfl⟩, q⟩) hz
  | tuple h1 h2 h3 h4 => exact repr_of_reads' (Reads.tuple h1 h2 h3 h4) hs hm' hg (by omega) (fun _ _ z => z) (fun h' t tk k => ⟨.str _, H, I.kept (t' := tk) k, ⟨_, rfl⟩, q⟩) hz
  | dict h1 h2 h3 h4 h5 => exact repr_of_reads' (Reads.dict h1 h2 h3 h4 h5) hs hm' hg (by omega) (fun _ _ z => z) (fun h' t tk k => ⟨.str _, H, I.kept (t' := tk) k, ⟨_, rfl⟩, q⟩) hz
end
end DW
namespace DW
open PySem PySem.Spec PyProof.Rows L2 PySem.W
/-! ### texts in order -/
def strLe (a b : Str) : Bool := decide (a.cps.toList ≤ b.cps.toList)
def srt (l : List Str) : List Str := l.mergeSort strLe
theorem strLe_total : TotalLe strLe where
  total a b := by
    rcases List.le_total a.cps.toList b.cps.toList with h | h
    · exact .inl (decide_eq_true h)
    · exact .inr (decide_eq_true h)
  trans a b c h1 h2 := decide_eq_true (List.le_trans (of_decide_eq_true h1) (of_decide_eq_true h2))
theorem str_cps {a b : Str} (h : a.cps.toList = b.cps.toList) : a = b := by
  cases a; cases b
  simp only at h
  rw [Array.toList_inj.mp h]
theorem strLe_anti {a b : Str} (h1 : strLe a b = true) (h2 : strLe b a = true) : a = b := str_cps (List.le_antisymm (of_decide_eq_true h1) (of_decide_eq_true h2))
theorem srt_perm (l : List Str) : (srt l).Perm l := List.mergeSort_perm l strLe
theorem srt_mem {l : List Str} {x : Str} : x ∈ srt l ↔ x ∈ l := (srt_perm l).mem_iff
theorem srt_len (l : List Str) : (srt l).length = l.length := (srt_perm l).length_eq
theorem srt_asc (l : List Str) : (srt l).Pairwise (fun a b => strLe a b = true) := sort_pairwise strLe_total l
theorem asc_uniq {l m : List Str} (p : l.Perm m) (hl : l.Pairwise (fun a b => strLe a b = true)) (hm : m.Pairwise (fun a b => strLe a b = true)) : l = m :=
  p.eq_of_pairwise (fun a b _ _ h1 h2 => strLe_anti h1 h2) hl hm
theorem srt_uniq {l m : List Str} (p : l.Perm m) (hl : l.Pairwise (fun a b => strLe a b = true)) : srt m = l := (asc_uniq (p.trans (srt_perm m).symm) hl (srt_asc m)).symm
theorem srt_congr {l m : List Str} (p : l.Perm m) : srt l = srt m := (srt_uniq ((srt_perm l).trans p) (srt_asc l)).symm
theorem srt_srt (l : List Str) : srt (srt l) = srt l := srt_congr (srt_perm l)
theorem srt_filter (f : Str → Bool) (l : List Str) : srt (l.filter f) = (srt l).filter f := srt_uniq ((srt_perm l).filter f) ((srt_asc l).filter f)
theorem srt_of_sorted : ∀ {l : List Str}, sortedS l = true → l.Pairwise (fun a b => strLe a b = true) := by
  have key : ∀ (l : List Str) (p : Str), risingS p l = true → (p :: l).Pairwise (fun a b => strLe a b = true) := by
    intro l
    induction l with
    | nil => intro p _; exact List.pairwise_singleton _ _
    | cons x r ih =>
      intro p h
      have h : (!ltCps x.cps.toList p.cps.toList && risingS x r) = true := h
      rw [Bool.and_eq_true] at h
      have z := ih x h.2
      have le : strLe p x = true := by
        have w : ltCps x.cps.toList p.cps.toList = false := by simpa using h.1
        rw [ltCps_eq] at w
        exact decide_eq_true (List.not_lt.mp (of_decide_eq_false w))
      refine List.pairwise_cons.mpr ⟨fun y hy => ?_, z⟩
      rcases List.mem_cons.mp hy with rfl | hy
      · exact le
      · exact strLe_total.trans _ _ _ le (List.rel_of_pairwise_cons z hy)
  intro l h
  cases l with
  | nil => exact List.Pairwise.nil
  | cons x r => exact key r x h
theorem dataLe_srt : dataLe false (fun b : Str => PyData.str b) = strLe := dataLe_str (k := fun b => b)
theorem each_str : ∀ {xs : List Str} {us : List Value}, Vals (xs.map V.str) us → EachIs (fun (v : Value) (b : Str) => RelV (.str b) v) us xs
  | [], _, r => by cases r; exact .nil
  | _ :: _, _, r => by
    cases r with
    | cons r1 r2 => exact .cons r1 (each_str r2)
theorem vals_str : ∀ {xs : List Str} {us : List Value}, EachIs (fun (v : Value) (b : Str) => RelV (.str b) v) us xs → Vals (xs.map V.str) us
  | [], _, .nil => .nil
  | _ :: _, _, .cons r k => .cons r (vals_str k)
theorem each_read {h : Heap} {D : Addr} : ∀ {xs : List Str} {us : List Value}, EachIs (fun (v : Value) (b : Str) => RelV (.str b) v) us xs → EachIs (fun (v : Value) (b : Str) => ∃ as, Reads h v (.str b) as ∧ D ∉ as) us xs
  | [], _, .nil => .nil
  | _ :: _, _, .cons r k => by
    obtain ⟨t, rfl⟩ := r
    exact .cons ⟨[], Reads.str _ t, fun z => nomatch z⟩ (each_read k)
theorem each_read0 {h : Heap} {xs : List Str} {us : List Value} (e : EachIs (fun (v : Value) (b : Str) => RelV (.str b) v) us xs) : EachIs (fun (v : Value) (b : Str) => ∃ as, Reads h v (.str b) as) us xs := by
  induction e with
  | nil => exact .nil
  | cons r k ih =>
    obtain ⟨t, rfl⟩ := r
    exact .cons ⟨[], Reads.str _ t⟩ ih
theorem alike_strs (xs : List Str) : AllAlike (xs.map fun b => PyData.str b) := AllAlike.of fun b c => by simp [alike]
theorem sortable_strs (xs : List Str) : Sortable (xs.map fun b => PyData.str b) := Sortable.others fun b => ⟨by simp, by simp⟩
section
variable {X : Cx}
/-- sorted(list of texts) -/
def rSrt (K : PySem.W.Frag) : List V → Hp → VK → Prop := fun vs H Q => ∃ (a : Addr) (xs : List Str), vs = [.ref a] ∧ SqL K H a (xs.map V.str) ∧ xs.length ≤ 1000 ∧ ∀ p, H p = none → Q (.ref p) (upd H p (.lst ((srt xs).map V.str)))
theorem cr_srt (hu : X.A.units + 64 < cLine) : CallR X (.builtin "sorted") (rSrt X.K) := by
  intro pins s σ H vs us Q I r h
  obtain ⟨a, xs, rfl, hs, hl, q⟩ := h
  obtain ⟨its, rv, pl, hz⟩ := I.list hs
  obtain ⟨u, rfl, ru⟩ := vals1 r
  obtain rfl : u = Value.ref a := ru
  have e := each_str rv
  refine sorted_data (enc := fun b : Str => PyData.str b) (bs := xs) pl.isList e (each_read0 e) (alike_strs xs) (sortable_strs xs) (by rw [sizeLine_eq]; omega) (fun b hb => by simp [PyData.depth]; omega) fun out hlen hout => ?_
  rw [dataLe_srt] at hout
  obtain ⟨n, he⟩ := sortedAll_at s.heap its out.toArray
  have fresh : H (s.heap.objs.size + 1) = none := I.hok.fresh (Nat.le_succ _)
  refine ⟨.ref (s.heap.objs.size + 1), _, I.laid (t' := s.toks) (a := s.heap.objs.size + 1) (o := .lst ((srt xs).map V.str)) (fun b o z => sortedAll_old z) (Nat.le_succ _) ⟨?_, out, n, vals_str hout, he⟩, rfl, q _ fresh⟩
  rw [List.length_map, srt_len, sizeLine_eq]
  omega
/-- sorted(dict with texts as keys) -/
def rSrtD : List V → Hp → VK → Prop := fun vs H Q => ∃ (a : Addr) (kvs : List (Key × V)) (ks : List Str), vs = [.ref a] ∧ Rd H a (.dK kvs) ∧ kvs.map (·.1) = ks.map Sum.inr ∧ ks.length ≤ 1000 ∧ ∀ p, H p = none → Q (.ref p) (upd H p (.lst ((srt ks).map V.str)))
theorem cr_srtD (hcalm : X.calm = true) (hu : X.A.units + 64 < cLine) : CallR X (.builtin "sorted") rSrtD := by
  intro pins s σ H xs us Q I r q
  obtain ⟨a, kvs, ks, ex, hd, hks, h64, q⟩ := q
  subst ex
  obtain ⟨u, eu, rx⟩ := vals1 r
  subst eu
  cases rx
  obtain ⟨z, lo, vs, rel, dd⟩ := dk_rd I.hok hd
  obtain ⟨ep, hat⟩ := dd.dictAt
  have hkeys : vs.map (·.1) = ks.map Sum.inr := rel.keys.symm.trans hks
  have hl : vs.length = ks.length := by
    have e := congrArg List.length hkeys
    rw [List.length_map, List.length_map] at e
    exact e
  have h16 : vs.length ≤ sizeLine := by rw [hl, sizeLine_eq]; omega
  refine Calls.call_function_entry PyProof.Rows.kind_sorted PyProof.Rows.plain_sorted PyProof.Rows.entry_sorted (PyProof.Rows.args_sorted1 _) ?_
  unfold Builtin.«sorted»
  refine wpAny_bind (m := checkCount "sorted" 1 1 _) (wpAny_pure ?_)
  refine wpAny_bind (PySem.W.kdu_collect (A := X.A.in1) (PySem.W.kdl_dict (knd := mixKind X.prog X.w) (kvs := vs) (ep := ep) lo) (I.ok.hd hcalm) hat h16 fun h' tk acc hk hacc => ?_)
  have hal : acc.toList.length = ks.length := by rw [Array.length_toList, hacc.1, hl]
  have hS : StrsAre acc.toList ks := strs_at hal fun j v e => by
    obtain ⟨k, x, e1, e2⟩ := hacc.2 j v (by rw [← Array.getElem?_toList]; exact e)
    have e3 : (vs.map (·.1))[j]? = some k := by rw [List.getElem?_map, e1]; all_goals rfl
    rw [hkeys, List.getElem?_map] at e3
    cases e4 : ks[j]? with
    | none => rw [e4] at e3; cases e3
    | some y =>
      rw [e4] at e3
      have e5 : Sum.inr y = k := Option.some.inj e3
      subst e5
      obtain ⟨t, ev⟩ := Value.isStrOf_shape (x := y) (v := v) e2
      exact ⟨y, t, rfl, ev⟩
  have I1 : Inv X pins σ H { s with heap := h', toks := tk } := I.kept hk
  refine wpAny_bind (wpAny_newList ?_ (by rw [hal, sizeLine_eq]; omega))
  have hoL : (h'.push (seqObj "list" acc.toList.toArray 0)).get? h'.objs.size = some (seqObj "list" acc.toList.toArray 0) := Heap.get?_push_size _ rfl
  have e := each_str (vals_of_strs hS)
  have free : H h'.objs.size = none := I1.hok.fresh (Nat.le_refl _)
  refine (show wpAny _ _ _ _ _ { s with heap := h'.push (seqObj "list" acc.toList.toArray 0), toks := tk } from wpAny_bind (wpAny_holding ?_))
  refine list_sort_data (vs := acc.toList) (bs := ks) (enc := fun b : Str => PyData.str b) (R := fun (v : Value) (b : Str) => RelV (.str b) v) hoL e (each_read e) (alike_strs ks) (sortable_strs ks) (by rw [sizeLine_eq]; omega)
    (fun b _ => by simp [PyData.depth]; omega) fun out lo eo => ?_
  rw [dataLe_srt] at eo
  obtain ⟨e', atE⟩ := PyProof.Rows.sortedHeap_at (vs := acc.toList) (out := out.toArray) hoL
  refine wpAny_pure ⟨_, rfl, .ref h'.objs.size, upd H h'.objs.size (.lst ((srt ks).map V.str)), I1.laid (t' := tk) (fun b u e => ?_) (Nat.le_refl _) ⟨?_, out, e', vals_str eo, atE⟩, rfl, q _ free⟩
  · have lt : b < h'.objs.size := Heap.lt_size e
    rw [PyProof.Rows.sortedHeap_old (Nat.ne_of_lt lt) (by rw [size_push']; exact Nat.lt_succ_of_lt lt)]
    exact Heap.get?_push_of_some _ e
  · rw [List.length_map, srt_len, sizeLine_eq]; omega
end
end DW
namespace DW
open PySem PySem.Spec PyProof.Rows L2 PySem.W
/-! ### slices with a step -/
def pickIx (lo hi st : Option Int) (n : Nat) : List Nat := sliceRange (sliceBounds lo hi st n).1 (sliceBounds lo hi st n).2.1 (sliceBounds lo hi st n).2.2
def pickL {α : Type} (xs : List α) (lo hi st : Option Int) : List α := (pickIx lo hi st xs.length).filterMap (xs[·]?)
theorem vals_ix {xs : List V} {us : List Value} (r : Vals xs us) (i : Nat) : (xs[i]? = none ∧ us[i]? = none) ∨ ∃ x u, xs[i]? = some x ∧ us[i]? = some u ∧ RelV x u := by
  induction r generalizing i with
  | nil => exact .inl ⟨rfl, rfl⟩
  | cons h t ih =>
    cases i with
    | zero => exact .inr ⟨_, _, rfl, rfl, h⟩
    | succ i => simpa using ih i
theorem vals_fm {xs : List V} {us : List Value} (r : Vals xs us) : ∀ l : List Nat, Vals (l.filterMap (xs[·]?)) (l.filterMap (us[·]?))
  | [] => .nil
  | i :: l => by
    rcases vals_ix r i with ⟨e1, e2⟩ | ⟨x, u, e1, e2, q⟩
    · rw [List.filterMap_cons_none e1, List.filterMap_cons_none e2]
      exact vals_fm r l
    · rw [List.filterMap_cons_some e1, List.filterMap_cons_some e2]
      exact .cons q (vals_fm r l)
theorem slicePick_L {its : List Value} {lo hi st : Option Int} : slicePick its.toArray lo hi st = (pickL its lo hi st).toArray := by
  unfold slicePick pickL pickIx
  simp
theorem fm_len {α : Type} (xs : List α) : ∀ l : List Nat, (l.filterMap (xs[·]?)).length ≤ l.length
  | [] => Nat.le_refl _
  | i :: l => by
    cases e : xs[i]? with
    | none => rw [List.filterMap_cons_none e]; exact Nat.le_succ_of_le (fm_len xs l)
    | some x => rw [List.filterMap_cons_some e]; exact Nat.succ_le_succ (fm_len xs l)
theorem pick_mem {α : Type} {xs : List α} {lo hi st : Option Int} {x : α} : x ∈ pickL xs lo hi st ↔ ∃ i ∈ pickIx lo hi st xs.length, xs[i]? = some x := List.mem_filterMap
theorem vals_pick {xs : List V} {us : List Value} (r : Vals xs us) (lo hi st : Option Int) : Vals (pickL xs lo hi st) (pickL us lo hi st) := by
  unfold pickL
  rw [← r.length]
  exact vals_fm r _
def tSlS (K : PySem.W.Frag) (te : TE) (tl th ts : TO) : TE := fun σ H Q => te σ H fun x H1 => tl σ H1 fun l H2 => th σ H2 fun u H3 => ts σ H3 fun o H4 => o ≠ some 0 ∧ ∃ a xs, x = .ref a ∧ SqL K H4 a xs ∧ (pickL xs l u o).length ≤ sizeLine ∧ ∀ p, H4 p = none → Q (.ref p) (upd H4 p (.lst (pickL xs l u o)))
section
variable {X : Cx}
theorem pe_slS {e st : Expr} {lo hi : Option Expr} {te : TE} {tl th ts : TO} {p2 pos : Pos} (he : PE X e te) (hl : PO X lo tl) (hu : PO X hi th) (hs : PO X (some st) ts) : PE X (.Subscript e (.Slice lo hi (some st) p2) pos) (tSlS X.K te tl th ts) := by
  refine ⟨fun pins s σ H Q I h => ?_⟩
  refine Subscript_ (thn (he.run pins s σ H _ I h) fun v s1 ⟨x, H1, I1, r1, q1⟩ => ?_)
  refine wpAny_Slice (thn (hl.run pins s1 σ H1 _ I1 q1) fun vl s2 ⟨l, H2, I2, pl, q2⟩ => thn (hu.run pins s2 σ H2 _ I2 q2) fun vu s3 ⟨u, H3, I3, pu, q3⟩ => thn (hs.run pins s3 σ H3 _ I3 q3) fun vs s4 ⟨o, H4, I4, ps, q4⟩ => ?_)
  obtain ⟨h0, a, xs, rfl, hx, hz, q⟩ := q4
  cases r1
  have I5 : Inv X pins σ H4 { s4 with heap := s4.heap.push { cls := .type "slice", data := .fields #[vl, vu, vs] } } := I4.kept (t' := s4.toks) fun b ob q => Heap.get?_push_of_some _ q
  obtain ⟨its, r, ht, hz2⟩ := I5.list hx
  have hlen := r.length
  show wpAny (model X.prog X.w) X.A (subscriptTail e (.Slice lo hi (some st) p2) (.ref a) (.ref s4.heap.objs.size)) (EP X pins σ Q) X.xe { s4 with heap := s4.heap.push { cls := .type "slice", data := .fields #[vl, vu, vs] } }
  refine tail_any (ops := [.ref a, .ref s4.heap.objs.size]) ht.isList.typeIs (PySem.slot_list_getitem.lookup) ?_ (by with_unfolding_all rfl)
  refine wpAny_getItem_list_slice ht.isList (Heap.IsSliceOf.new _ vl vu vs) pl pu ps h0 ?_ (by rw [List.size_toArray]; omega)
  rw [slicePick_L]
  refine ⟨.ref _, _, I5.laid (t' := s4.toks) (o := .lst (pickL xs l u o)) (fun b ob q => Heap.get?_push_of_some _ q) (Nat.le_refl _) ?_, rfl, q _ (I5.hok.fresh (Nat.le_refl _))⟩
  exact ⟨hz, _, 0, vals_pick r l u o, Heap.get?_push_size _ rfl⟩
/-! ### list(d.values()) -/
def tListVals (te : TE) : TE := fun σ H Q => te σ H fun x H1 => ∃ (d : Addr) (kvs : List (Key × V)), x = .ref d ∧ H1 d = some (.dK kvs) ∧ ∀ p, H1 p = none → Q (.ref p) (upd H1 p (.lst (kvs.map (·.2))))
theorem vals_vals {kvs : List (Key × V)} {vs : List (Key × Value)} (rel : KV kvs vs) : Vals (kvs.map (·.2)) (vs.map (·.2)) := by
  induction rel with
  | nil => exact .nil
  | cons h t ih => exact .cons h.2 ih
theorem vals_at : ∀ {us : List Value} {vs : List (Key × Value)}, us.length = vs.length → (∀ (j : Nat) (v : Value), us[j]? = some v → ∃ k : Key, vs[j]? = some (k, v)) → us = vs.map (·.2) := by
  intro us vs hl h
  apply List.ext_getElem?
  intro j
  rw [List.getElem?_map]
  cases e : us[j]? with
  | none =>
    have h1 := List.getElem?_eq_none_iff.mp e
    rw [List.getElem?_eq_none (by omega)]
    rfl
  | some v =>
    obtain ⟨k, e2⟩ := h j v e
    rw [e2]
    rfl
theorem pe_listVals {e : Expr} {te : TE} {p apos cpos pos : Pos} (hc : X.calm = true) (he : PE X e te) (hg : Gl X "list") (hm : X.mg "list" = none) (hv : bootBuiltins "list" = some (.type "list")) (hbase : attributeBase e "values" X.env (eval e X.env) = eval e X.env := by rfl) (hline : (apos.endLine == cpos.line) = true := by rfl)
    (hs : starEach [.Call (.Attribute e "values" apos) [] [] cpos] X.env = (false, eval (.Call (.Attribute e "values" apos) [] [] cpos) X.env) :: starEach [] X.env := by rfl) :
    PE X (.Call (.Name "list" p) [.Call (.Attribute e "values" apos) [] [] cpos] [] pos) (tListVals te) := by
  refine ⟨fun pins s σ H Q I hq => ?_⟩
  refine wpAny_Call_Name_kw (ld_blt I hg hm hv ?_)
  refine PyProof.Rows.callWith_type1 ?_ hs rfl
  rw [hs]
  show wpAny _ _ (spliced ((false, eval (.Call (.Attribute e "values" apos) [] [] cpos) X.env) :: backTo pos (starEach [] X.env))) _ _ s
  refine Calls.spliced_cons ?_
  refine wpAny_Call_method (T := "dict") (id := "dict.values") hbase rfl hline F.plainAttrs_dict F.slot_dict_values F.type_dict_values (thn (he.run pins s σ H _ I hq) fun u s1 ⟨x, H1, I1, rx, d, kvs, ex, hd, q⟩ => ?_)
  subst ex
  obtain rfl : u = Value.ref d := rx
  obtain ⟨hz, hs0, vs, kv, hdo⟩ := I1.hok d _ hd
  obtain ⟨ep, hat⟩ := hdo.dictAt
  have lk : kvs.length = vs.length := Paired.length kv
  refine ⟨hdo.typeIs, hdo.mapOf.noDict, ?_⟩
  show wpAny _ _ (callWith cpos (.builtin "dict.values") [.ref d] [] []) _ X.xe s1
  refine method_meetsIn F.slot_dict_values F.entry_dict_values rfl (PySem.evalArgs_none ⟨rfl, hdo.typeIs, F.args_dict_values_1 _, _, meets_dict_values (mixKind X.prog X.w) d hs0, ⟨vs, hdo⟩, ?_⟩)
  refine Calls.spliced_nil ?_
  have I2 : Inv X pins σ H1 { s1 with heap := s1.heap.push { cls := .type "dict_values", data := .fields #[.ref d] } } := I1.kept (t' := s1.toks) fun b ob q => Heap.get?_push_of_some _ q
  refine kdl_call (kdl_values (knd := mixKind X.prog X.w) (kvs := vs) (ep := ep)) (I1.ok.hd hc) ⟨⟨_, Heap.get?_push_size _ rfl, rfl, rfl⟩, hat.push _⟩ (by omega) fun h' tk acc c' hk hD hacc => ?_
  have ea : acc.toList = vs.map (·.2) := vals_at (by rw [Array.length_toList]; exact hacc.1) fun j v e => hacc.2 j v (by rw [← Array.getElem?_toList]; exact e)
  refine ⟨.ref _, _, I2.laid (t' := tk) (o := .lst (kvs.map (·.2))) hk (Nat.le_refl _) ⟨by rw [List.length_map]; exact hz, acc.toList, c', by rw [ea]; exact vals_vals kv, by rw [Array.toArray_toList]; exact hD⟩, rfl, q _ (I2.hok.fresh (Nat.le_refl _))⟩
end
end DW
namespace DW
open PySem PySem.Spec PyProof.Rows L2 PySem.W
/-! ### heaps under locks -/
/-- what could be read can be read -/
def Wk (H H' : Hp) : Prop := ∀ c o, Rd H c o → Rd H' c o
theorem Wk.refl {H : Hp} : Wk H H := fun _ _ h => h
theorem Wk.trans {H H1 H2 : Hp} (a : Wk H H1) (b : Wk H1 H2) : Wk H H2 := fun c o h => b c o (a c o h)
theorem Wk.of {H H' : Hp} (s : Same H H') : Wk H H' := fun c o h => by
  rcases h with h | ⟨z, h⟩
  · exact .inl (s _ _ h)
  · exact .inr ⟨z, s _ _ h⟩
theorem Wk.lock {H : Hp} {a : Addr} {od : Obj} {u : HO} (h : H a = some u) (n : ∀ z o, u ≠ .frz z o) : Wk H (upd H a (.frz od u)) := fun c o r => by
  by_cases e : c = a
  · subst e
    rcases r with r | ⟨z, r⟩
    · rw [h] at r
      cases r
      exact .inr ⟨od, upd_same⟩
    · rw [h] at r
      cases r
      exact absurd rfl (n _ _)
  · unfold Rd
    rw [upd_ne e]
    exact r
/-- .. and unlocked: all as it was -/
theorem unlock {H H' : Hp} {a : Addr} {od : Obj} {u : HO} (h : H a = some u) (s : Same (upd H a (.frz od u)) H') : H' a = some (.frz od u) ∧ Same H (upd H' a u) := by
  refine ⟨s _ _ upd_same, fun c o e => ?_⟩
  by_cases ca : c = a
  · subst ca
    rw [h] at e
    rw [upd_same]
    exact e
  · rw [upd_ne ca]
    exact s _ _ (by rw [upd_ne ca]; exact e)
/-- what was new stays what it is behind the unlocking -/
theorem unlock_at {H H' : Hp} {a b : Addr} {od : Obj} {u o : HO} (h : H a = some u) (n : H b = none) (e : H' b = some o) : upd H' a u b = some o := by
  rw [upd_ne (ne_of_none h n).symm]
  exact e
theorem sqT_wk {K : PySem.W.Frag} {H H' : Hp} {a : Addr} {xs : List V} (s : Wk H H') (h : SqT K H a xs) : SqT K H' a xs := by
  rcases h with h | h
  · exact .inl (s _ _ h)
  · exact .inr h
theorem sqL_wk {K : PySem.W.Frag} {H H' : Hp} {a : Addr} {xs : List V} (s : Wk H H') (h : SqL K H a xs) : SqL K H' a xs := by
  rcases h with h | h
  · exact .inl (s _ _ h)
  · exact .inr h
mutual
theorem Dp.wk {K : PySem.W.Frag} {H H' : Hp} (s : Wk H H') : ∀ {v : V} {d : PyData}, Dp K H v d → Dp K H' v d
  | _, _, .non => .non
  | _, _, .bl b => .bl b
  | _, _, .int i => .int i
  | _, _, .str x => .str x
  | _, _, .lst h a => .lst (sqL_wk s h) (DpAll.wk s a)
  | _, _, .tup h a => .tup (sqT_wk s h) (DpAll.wk s a)
theorem DpAll.wk {K : PySem.W.Frag} {H H' : Hp} (s : Wk H H') : ∀ {vs : List V} {ds : List PyData}, DpAll K H vs ds → DpAll K H' vs ds
  | _, _, .nil => .nil
  | _, _, .cons a b => .cons (Dp.wk s a) (DpAll.wk s b)
end
/-! ### dicts from texts to data, in their order -/
section
variable {α : Type} {enc : α → PyData} {K : PySem.W.Frag} {H H' : Hp} {a : Addr} {rs : List (Str × α)} {kvs : List (Key × V)}
def Tx (enc : α → PyData) (K : PySem.W.Frag) (H : Hp) (kvs : List (Key × V)) (rs : List (Str × α)) : Prop := Paired (fun (q : Key × V) (p : Str × α) => q.1 = .inr p.1 ∧ Dp K H q.2 (enc p.2)) kvs rs
/-- to be read -/
def TR (enc : α → PyData) (K : PySem.W.Frag) (H : Hp) (a : Addr) (rs : List (Str × α)) : Prop := ∃ kvs, Rd H a (.dK kvs) ∧ Tx enc K H kvs rs
/-- .. and not locked -/
def TD (enc : α → PyData) (K : PySem.W.Frag) (H : Hp) (a : Addr) (rs : List (Str × α)) : Prop := ∃ kvs, H a = some (.dK kvs) ∧ Tx enc K H kvs rs
theorem Tx.wk (s : Wk H H') (h : Tx enc K H kvs rs) : Tx enc K H' kvs rs := pairedMono (fun _ _ z => ⟨z.1, Dp.wk s z.2⟩) h
theorem TR.wk (s : Wk H H') (h : TR enc K H a rs) : TR enc K H' a rs := by
  obtain ⟨kvs, e, t⟩ := h
  exact ⟨kvs, s _ _ e, t.wk s⟩
theorem TD.tr (h : TD enc K H a rs) : TR enc K H a rs := by
  obtain ⟨kvs, e, t⟩ := h
  exact ⟨kvs, .inl e, t⟩
theorem TD.same (s : Same H H') (h : TD enc K H a rs) : TD enc K H' a rs := by
  obtain ⟨kvs, e, t⟩ := h
  exact ⟨kvs, s _ _ e, t.wk (Wk.of s)⟩
/-- the value by its name -/
def look : List (Str × α) → Str → Option α
  | [], _ => none
  | p :: r, s => if p.1 = s then some p.2 else look r s
theorem look_mem : ∀ {rs : List (Str × α)} {s : Str} {x : α}, look rs s = some x → (s, x) ∈ rs
  | p :: r, s, x, h => by
    unfold look at h
    by_cases e : p.1 = s
    · rw [if_pos e] at h
      cases h
      rw [← e]
      exact List.mem_cons_self ..
    · rw [if_neg e] at h
      exact List.mem_cons_of_mem _ (look_mem h)
theorem look_of : ∀ {rs : List (Str × α)} {s : Str} {x : α}, (rs.map (·.1)).Nodup → (s, x) ∈ rs → look rs s = some x
  | p :: r, s, x, nd, h => by
    rw [List.map_cons, List.nodup_cons] at nd
    unfold look
    rcases List.mem_cons.mp h with e | h
    · rw [← e, if_pos rfl]
    · rw [if_neg, look_of nd.2 h]
      intro e
      exact nd.1 (List.mem_map.mpr ⟨_, h, e.symm⟩)
theorem look_none : ∀ {rs : List (Str × α)} {s : Str}, look rs s = none ↔ s ∉ rs.map (·.1)
  | [], s => by simp [look]
  | p :: r, s => by
    unfold look
    rw [List.map_cons, List.mem_cons]
    by_cases e : p.1 = s
    · rw [if_pos e]
      simp [e]
    · rw [if_neg e, look_none]
      simp [Ne.symm e]
theorem look_some {rs : List (Str × α)} {s : Str} : (look rs s).isSome = true ↔ s ∈ rs.map (·.1) := by
  cases e : look rs s with
  | none => simpa using look_none.mp e
  | some x => simpa using ⟨x, look_mem e⟩
theorem look_perm {rs rs' : List (Str × α)} (p : rs.Perm rs') (nd : (rs.map (·.1)).Nodup) (s : Str) : look rs s = look rs' s := by
  cases e : look rs s with
  | some x => exact (look_of ((p.map _).nodup_iff.mp nd) (p.mem_iff.mp (look_mem e))).symm
  | none => exact (look_none.mpr fun m => look_none.mp e ((p.map _).mem_iff.mpr m)).symm
theorem Tx.get (h : Tx enc K H kvs rs) (s : Str) : (look rs s = none ∧ valV kvs (.inr s) = none) ∨ ∃ x v, look rs s = some x ∧ valV kvs (.inr s) = some v ∧ Dp K H v (enc x) := by
  induction h with
  | nil => exact .inl ⟨rfl, rfl⟩
  | cons q t ih =>
    rename_i p r l l'
    unfold look
    by_cases e : r.1 = s
    · have e1 : p.1 = .inr s := by rw [q.1, e]
      rw [if_pos e, valV_pos e1]
      exact .inr ⟨_, _, rfl, rfl, q.2⟩
    · have e1 : ¬ p.1 = .inr s := by rw [q.1]; exact fun z => e (Sum.inr.inj z)
      rw [if_neg e, valV_neg e1]
      exact ih
theorem Tx.keys (h : Tx enc K H kvs rs) : kvs.map (·.1) = (rs.map (·.1)).map Sum.inr := by
  induction h with
  | nil => rfl
  | cons q t ih => rw [List.map_cons, List.map_cons, List.map_cons, ih, q.1]
theorem Tx.at (h : Tx enc K H kvs rs) {i : Nat} {p : Key × V} (e : kvs[i]? = some p) : ∃ r, rs[i]? = some r ∧ p.1 = .inr r.1 ∧ Dp K H p.2 (enc r.2) := by
  induction h generalizing i with
  | nil => cases e
  | cons q t ih =>
    cases i with
    | zero => cases e; exact ⟨_, rfl, q⟩
    | succ i => exact ih e
theorem Tx.put (h : Tx enc K H kvs rs) {s : Str} {v : V} {x : α} (n : s ∉ rs.map (·.1)) (d : Dp K H v (enc x)) : Tx enc K H (putK kvs (.inr s) v) (rs ++ [(s, x)]) := by
  have no : (kvs.any fun kv => decide (kv.1 = .inr s)) = false := by
    rw [valV_any]
    rcases h.get s with ⟨_, e⟩ | ⟨x, v, e, _⟩
    · rw [e]; rfl
    · exact absurd (look_some.mp (by rw [e]; rfl)) n
  unfold putK
  rw [no]
  have : ∀ {ks : List (Key × V)} {qs : List (Str × α)}, Tx enc K H ks qs → Tx enc K H (ks ++ [(.inr s, v)]) (qs ++ [(s, x)]) := by
    intro ks qs t
    induction t with
    | nil => exact .cons ⟨rfl, d⟩ .nil
    | cons q t ih => exact .cons q ih
  exact this h
theorem TR.get (h : TR enc K H a rs) {s : Str} {x : α} (e : look rs s = some x) : ∃ v, DGet H a (.str s) (some v) ∧ Dp K H v (enc x) := by
  obtain ⟨kvs, hr, t⟩ := h
  rcases t.get s with ⟨e1, _⟩ | ⟨x', v, e1, e2, d⟩
  · rw [e] at e1; cases e1
  · rw [e] at e1
    cases e1
    exact ⟨v, .inl ⟨kvs, .inr s, hr, rfl, e2.symm⟩, d⟩
theorem TR.has (h : TR enc K H a rs) (s : Str) : ∃ o, DGet H a (.str s) o ∧ o.isSome = decide (s ∈ rs.map (·.1)) := by
  obtain ⟨kvs, hr, t⟩ := h
  rcases t.get s with ⟨e1, e2⟩ | ⟨x, v, e1, e2, d⟩
  · exact ⟨none, .inl ⟨kvs, .inr s, hr, rfl, e2.symm⟩, (decide_eq_false (look_none.mp e1)).symm⟩
  · exact ⟨some v, .inl ⟨kvs, .inr s, hr, rfl, e2.symm⟩, (decide_eq_true (look_some.mp (by rw [e1]; rfl))).symm⟩
theorem TD.len (h : TD enc K H a rs) : ∃ kvs, H a = some (.dK kvs) ∧ kvs.length = rs.length := by
  obtain ⟨kvs, e, t⟩ := h
  exact ⟨kvs, e, Paired.length t⟩
theorem TD.nil (e : H a = some (.dK [])) : TD enc K H a [] := ⟨[], e, .nil⟩
/-- the rows ascending by their names -/
def srtR (rs : List (Str × α)) : List (Str × α) := (srt (rs.map (·.1))).filterMap fun s => (look rs s).map fun x => (s, x)
theorem fm_names : ∀ {ss : List Str}, (∀ s ∈ ss, s ∈ rs.map (·.1)) → (ss.filterMap fun s => (look rs s).map fun x => (s, x)).map (·.1) = ss
  | [], _ => rfl
  | s :: ss, h => by
    obtain ⟨x, e⟩ := Option.isSome_iff_exists.mp (look_some.mpr (h s (List.mem_cons_self ..)))
    rw [List.filterMap_cons_some (b := (s, x)) (by rw [e]; rfl), List.map_cons, fm_names fun t m => h t (List.mem_cons_of_mem _ m)]
theorem srtR_names (rs : List (Str × α)) : (srtR rs).map (·.1) = srt (rs.map (·.1)) := fm_names fun s m => srt_mem.mp m
theorem srtR_len (rs : List (Str × α)) : (srtR rs).length = rs.length := by rw [← List.length_map (f := (·.1)), srtR_names, srt_len, List.length_map]
theorem srtR_nodup (nd : (rs.map (·.1)).Nodup) : ((srtR rs).map (·.1)).Nodup := by rw [srtR_names]; exact (srt_perm _).nodup_iff.mpr nd
theorem srtR_look (nd : (rs.map (·.1)).Nodup) (s : Str) : look (srtR rs) s = look rs s := by
  cases e : look rs s with
  | some x =>
    refine look_of (srtR_nodup nd) (List.mem_filterMap.mpr ⟨s, srt_mem.mpr (look_some.mp (by rw [e]; rfl)), by rw [e]; rfl⟩)
  | none =>
    refine look_none.mpr fun m => look_none.mp e ?_
    rw [srtR_names] at m
    exact srt_mem.mp m
theorem srtR_mem (nd : (rs.map (·.1)).Nodup) {p : Str × α} : p ∈ srtR rs ↔ p ∈ rs := by
  constructor
  · intro m
    have := look_of (srtR_nodup nd) (show (p.1, p.2) ∈ srtR rs from m)
    rw [srtR_look nd] at this
    exact look_mem this
  · intro m
    have := look_of nd (show (p.1, p.2) ∈ rs from m)
    rw [← srtR_look nd] at this
    exact look_mem this
theorem srtR_congr {rs rs' : List (Str × α)} (p : rs.Perm rs') (nd : (rs.map (·.1)).Nodup) : srtR rs = srtR rs' := by
  unfold srtR
  rw [srt_congr (p.map (·.1))]
  congr 1
  funext s
  rw [look_perm p nd s]
theorem nodup_of {β γ : Type} {f : β → γ} : ∀ {l : List β}, (l.map f).Nodup → l.Nodup
  | [], _ => .nil
  | x :: l, h => by
    rw [List.map_cons, List.nodup_cons] at h
    exact List.nodup_cons.mpr ⟨fun m => h.1 (List.mem_map.mpr ⟨x, m, rfl⟩), nodup_of h.2⟩
theorem perm_of_mem {β : Type} [DecidableEq β] : ∀ {l m : List β}, l.Nodup → m.Nodup → (∀ x, x ∈ l ↔ x ∈ m) → l.Perm m
  | [], m, _, _, h => by
    cases m with
    | nil => exact .nil
    | cons y m => exact absurd ((h y).mpr (List.mem_cons_self ..)) (by simp)
  | x :: l, m, hl, hm, h => by
    rw [List.nodup_cons] at hl
    have xm : x ∈ m := (h x).mp (List.mem_cons_self ..)
    refine .trans (.cons x (perm_of_mem hl.2 (hm.erase x) fun y => ?_)) (List.perm_cons_erase xm).symm
    rw [hm.mem_erase_iff]
    constructor
    · intro my
      exact ⟨fun e => hl.1 (e ▸ my), (h y).mp (List.mem_cons_of_mem _ my)⟩
    · rintro ⟨n, my⟩
      exact (List.mem_cons.mp ((h y).mpr my)).resolve_left n
end
end DW
namespace DW
open PySem PySem.Spec PyProof.Rows L2 PySem.W
section
variable {X : Cx}
/-- sorted(tuple of texts) -/
def rSrtT (K : PySem.W.Frag) : List V → Hp → VK → Prop := fun vs H Q => ∃ (a : Addr) (xs : List Str), vs = [.ref a] ∧ SqT K H a (xs.map V.str) ∧ xs.length ≤ 1000 ∧ ∀ p, H p = none → Q (.ref p) (upd H p (.lst ((srt xs).map V.str)))
theorem cr_srtT (hu : X.A.units + 64 < cLine) : CallR X (.builtin "sorted") (rSrtT X.K) := by
  intro pins s σ H vs us Q I r h
  obtain ⟨a, xs, rfl, hs, hl, q⟩ := h
  obtain ⟨its, rv, ⟨o, ho, hc, n, hd⟩, hz⟩ := I.tuple hs
  obtain ⟨u, rfl, ru⟩ := vals1 r
  obtain rfl : u = Value.ref a := ru
  have hal : its.length = xs.length := by have := rv.length; simpa using this.symm
  refine Calls.call_function_entry PyProof.Rows.kind_sorted PyProof.Rows.plain_sorted PyProof.Rows.entry_sorted (PyProof.Rows.args_sorted1 _) ?_
  unfold Builtin.«sorted»
  refine wpAny_bind (m := checkCount "sorted" 1 1 _) (wpAny_pure ?_)
  refine wpAny_bind (wpAny_collect_seq a (.inr rfl) ho hc hd (fun h' hk => ?_) (by rw [List.size_toArray, hal, sizeLine_eq]; omega))
  have I1 : Inv X pins σ H { s with heap := h' } := I.kept (t' := s.toks) hk
  refine wpAny_bind (wpAny_newList ?_ (by rw [List.toList_toArray, hal, sizeLine_eq]; omega))
  have hoL : (h'.push (seqObj "list" its.toArray.toList.toArray 0)).get? h'.objs.size = some (seqObj "list" its.toArray.toList.toArray 0) := Heap.get?_push_size _ rfl
  have e := each_str rv
  have free : H h'.objs.size = none := I1.hok.fresh (Nat.le_refl _)
  refine (show wpAny _ _ _ _ _ { s with heap := h'.push (seqObj "list" its.toArray.toList.toArray 0) } from wpAny_bind (wpAny_holding ?_))
  refine list_sort_data (vs := its.toArray.toList) (bs := xs) (enc := fun b : Str => PyData.str b) (R := fun (v : Value) (b : Str) => RelV (.str b) v) hoL e (each_read e) (alike_strs xs) (sortable_strs xs) (by rw [sizeLine_eq]; omega)
    (fun b _ => by simp [PyData.depth]; omega) fun out lo eo => ?_
  rw [dataLe_srt] at eo
  obtain ⟨e', atE⟩ := PyProof.Rows.sortedHeap_at (vs := its.toArray.toList) (out := out.toArray) hoL
  refine wpAny_pure ⟨_, rfl, .ref h'.objs.size, upd H h'.objs.size (.lst ((srt xs).map V.str)), I1.laid (t' := s.toks) (fun b u e => ?_) (Nat.le_refl _) ⟨?_, out, e', vals_str eo, atE⟩, rfl, q _ free⟩
  · have lt : b < h'.objs.size := Heap.lt_size e
    rw [PyProof.Rows.sortedHeap_old (Nat.ne_of_lt lt) (by rw [size_push']; exact Nat.lt_succ_of_lt lt)]
    exact Heap.get?_push_of_some _ e
  · rw [List.length_map, srt_len, sizeLine_eq]; omega
/-- sorted of a dict with texts as keys, or of () -/
def LotN (K : PySem.W.Frag) (H : Hp) (v : V) (ns : List Str) : Prop := (∃ a kvs, v = .ref a ∧ H a = some (.dK kvs) ∧ kvs.map (·.1) = ns.map Sum.inr) ∨ (ns = [] ∧ ∃ t, v = .ref t ∧ SqT K H t [])
def rSrtL (K : PySem.W.Frag) : List V → Hp → VK → Prop := fun vs H Q => ∃ (v : V) (ns : List Str), vs = [v] ∧ LotN K H v ns ∧ ns.length ≤ 1000 ∧ ∀ p, H p = none → Q (.ref p) (upd H p (.lst ((srt ns).map V.str)))
theorem cr_srtL (hcalm : X.calm = true) (hu : X.A.units + 64 < cLine) : CallR X (.builtin "sorted") (rSrtL X.K) := by
  intro pins s σ H vs us Q I r h
  obtain ⟨v, ns, rfl, lot, hl, q⟩ := h
  rcases lot with ⟨a, kvs, rfl, ha, hk⟩ | ⟨rfl, t, rfl, ht⟩
  · exact cr_srtD hcalm hu pins s σ H _ us Q I r ⟨a, kvs, ns, rfl, .inl ha, hk, hl, q⟩
  · exact cr_srtT hu pins s σ H _ us Q I r ⟨t, [], rfl, ht, hl, q⟩
end
/-- a lot: a dict from texts to data, or () -/
def Lot {α : Type} (enc : α → PyData) (K : PySem.W.Frag) (H : Hp) (v : V) (rs : List (Str × α)) : Prop := (∃ a, v = .ref a ∧ TD enc K H a rs) ∨ (rs = [] ∧ ∃ t, v = .ref t ∧ SqT K H t [])
section
variable {α : Type} {enc : α → PyData} {K : PySem.W.Frag} {H H' : Hp} {v : V} {rs : List (Str × α)}
theorem Lot.names (h : Lot enc K H v rs) : LotN K H v (rs.map (·.1)) := by
  rcases h with ⟨a, rfl, kvs, e, t⟩ | ⟨rfl, t, rfl, ht⟩
  · exact .inl ⟨a, kvs, rfl, e, t.keys⟩
  · exact .inr ⟨rfl, t, rfl, ht⟩
theorem Lot.same (s : Same H H') (h : Lot enc K H v rs) : Lot enc K H' v rs := by
  rcases h with ⟨a, rfl, t⟩ | ⟨rfl, t, rfl, ht⟩
  · exact .inl ⟨a, rfl, t.same s⟩
  · exact .inr ⟨rfl, t, rfl, sqT_wk (Wk.of s) ht⟩
theorem LotN.same {ns : List Str} (s : Same H H') (h : LotN K H v ns) : LotN K H' v ns := by
  rcases h with ⟨a, kvs, rfl, e, t⟩ | ⟨rfl, t, rfl, ht⟩
  · exact .inl ⟨a, kvs, rfl, s _ _ e, t⟩
  · exact .inr ⟨rfl, t, rfl, sqT_wk (Wk.of s) ht⟩
theorem Lot.get (h : Lot enc K H v rs) {s : Str} {x : α} (e : look rs s = some x) : ∃ a u, v = .ref a ∧ DGet H a (.str s) (some u) ∧ Dp K H u (enc x) := by
  rcases h with ⟨a, rfl, t⟩ | ⟨rfl, t, rfl, ht⟩
  · obtain ⟨u, g, d⟩ := t.tr.get e
    exact ⟨a, u, rfl, g, d⟩
  · cases e
end
end DW
namespace LW
open PySem PySem.Spec PyProof.Rows L2 DW
section
variable {X : Cx} {CX : CXT} {E : XK} {k m : Nat} {f : Addr} {fd : FuncData} {ps : List Str} {sp : Sp} {x : Str} {e : Expr} {es : List Expr} {p pos : Pos} {t : TA}
/-- a def that may be called by its name -/
structure Cal (P : Program) (w : World) (K : PySem.W.Frag) (mg : Str → Option Value) (base : Heap) (k : Nat) (x : Str) (ps : List Str) (sp : Sp) (f : Addr) (fd : FuncData) : Prop where
  G : FnOk P w K mg base CX0 k f fd ps sp
  kp : PySem.W.keepIn K (.ref f) = true
  b : Binds K fd ps []
  g : mg x = some (.ref f)
theorem pe_cal (C : Cal X.prog X.w X.K X.mg X.base k x ps sp f fd) (hr : Room m X.A) (hg : Gl X x) (ha : PA X (e :: es) t) (hk : k ≤ m := by decide) (hdb : (x == ("__debug__" : Str)) = false := by decide) (he : starEach (e :: es) X.env = (false, eval e X.env) :: starEach es X.env := by rfl) (hpl : (backTo pos (starEach es X.env)).any (·.1) = false := by rfl) :
    PE X (.Call (.Name x p) (e :: es) [] pos) (tCall sp [] E t) := pe_call C.G (hr.mono hk) hg C.g C.kp C.b .nil (fun _ _ _ _ _ _ _ h => h.elim) ha hdb he hpl
/-- .. one that may raise -/
structure CalR (P : Program) (w : World) (K : PySem.W.Frag) (mg : Str → Option Value) (base : Heap) (k : Nat) (x : Str) (ps : List Str) (sp : Sp) (f : Addr) (fd : FuncData) : Prop where
  G : FnOk P w K mg base (L2.CX P w) k f fd ps sp
  kp : PySem.W.keepIn K (.ref f) = true
  b : Binds K fd ps []
  g : mg x = some (.ref f)
/-- .. one that asks that no repr is under way -/
structure CalG (P : Program) (w : World) (K : PySem.W.Frag) (mg : Str → Option Value) (base : Heap) (k : Nat) (x : Str) (ps : List Str) (sp : Sp) (f : Addr) (fd : FuncData) : Prop where
  G : FnG P w K mg base k f fd ps sp
  kp : PySem.W.keepIn K (.ref f) = true
  b : Binds K fd ps []
  g : mg x = some (.ref f)
end
theorem tyx_tup {K : PySem.W.Frag} {H : Hp} {a : Addr} {xs : List V} (h : SqT K H a xs) : TyX K H (.ref a) (.type "tuple") := by
  rcases h with (e | ⟨o, e⟩) | ⟨o, its, n, e, c, _⟩
  · exact .base (.tup e)
  · exact .fTuple e
  · exact .kTuple e c
section
variable {K : PySem.W.Frag} {σ : L2.St} {H : Hp} {i : Nat} {Q : VK}
/-- isinstance of what is at hand -/
theorem isi_str {z : Str} {T : String} {b : Bool} (hv : σ[i]? = some (some (.str z))) (hk : kitB "str" T = some b) (q : Q (.bl b) H) : tCB (rIsi K) (tCons (tVar i) (tCons (tC (.ty T)) tNil)) σ H Q :=
  rd_isi (d := .str z) hv (.base (.str z) rfl) hk q
theorem isi_tup {a : Addr} {xs : List V} {T : String} {b : Bool} (hv : σ[i]? = some (some (.ref a))) (h : SqT K H a xs) (hk : kitB "tuple" T = some b) (q : Q (.bl b) H) : tCB (rIsi K) (tCons (tVar i) (tCons (tC (.ty T)) tNil)) σ H Q :=
  rd_isiT hv (tyx_tup h) hk q
theorem isi_dK {a : Addr} {kvs : List (Key × V)} {T : String} {b : Bool} (hv : σ[i]? = some (some (.ref a))) (h : H a = some (.dK kvs)) (hk : kitB "dict" T = some b) (q : Q (.bl b) H) : tCB (rIsi K) (tCons (tVar i) (tCons (tC (.ty T)) tNil)) σ H Q :=
  rd_isiT hv (.base (.dK h)) hk q
end
theorem ite0 {b : Bool} {A B : Prop} (h : b = false) (p : B) : if b = true then A else B := by
  rw [h]
  exact iteF p
theorem ite1 {b : Bool} {A B : Prop} (h : b = true) (p : A) : if b = true then A else B := by
  rw [h]
  exact iteT p
theorem kDD : kitB "dict" "dict" = some true := by decide +kernel
theorem kDT : kitB "dict" "tuple" = some false := by decide +kernel
theorem kTT : kitB "tuple" "tuple" = some true := by decide +kernel
theorem kTD : kitB "tuple" "dict" = some false := by decide +kernel
theorem kSS : kitB "str" "str" = some true := by decide +kernel
section
variable {J : It} {n : Nat} {G : Hp → Prop} {Y : Nat → Hp → V → Hp → Prop}
/-- all([true for x in ..]) -/
theorem all_it {K : PySem.W.Frag} (w : Walk J n G Y) (hn : n ≤ 1000000) {g : TG} {te : TE} {vs : List Nat} {σ : L2.St} {H : Hp} {D : Addr} {Qd : Hp → Prop} (hD : H D = none) (hG : ∀ H', Same H H' → G H')
    (hs : ∀ i x H1 H2 (R : VK), i < n → Same H H1 → Y i H1 x H2 → (∀ H5, Same H1 H5 → R (.bl true) H5) → g x (wipe σ vs) H2 fun σ2 H3 => wipe σ2 vs = wipe σ vs ∧ te σ2 H3 R) (k : ∀ H', Same H H' → (∃ bs : List Bool, SqL K H' D (bs.map V.bl) ∧ bs.all id = true) → Qd H') :
    ∃ W : Nat → Nat → Hp → Prop, (∃ m, W 0 m (upd H D (.lst []))) ∧ ∀ i m H, W i m H →
      (J.stop i H ∧ Qd H) ∨ (J.go i H ∧ ∃ Nx : Hp → Prop, (∀ H', Nx H' → ∃ m', m' < m ∧ W (i + 1) m' H') ∧ ∀ x H', J.yld i H x H' → g x (wipe σ vs) H' fun σ2 H2 => wipe σ2 vs = wipe σ vs ∧ tYes σ2 H2 fun b H3 =>
        if b = true then te σ2 H3 fun y H4 => ∃ acc, H4 D = some (.lst acc) ∧ acc.length < sizeLine ∧ Nx (upd H4 D (.lst (acc ++ [y]))) else Nx H3) := by
  refine lc_it w (fun i H' => Same H H' ∧ H' D = some (.lst ((List.replicate i true).map V.bl))) ⟨same_new hD, upd_same⟩ (fun i H' _ p => hG H' p.1) (fun i x H1 H2 hi p y => ?_) (fun H' p => ?_)
  · obtain ⟨s1, e⟩ := p
    have z := hs i x H1 H2 (fun y H4 => ∃ acc, H4 D = some (.lst acc) ∧ acc.length < sizeLine ∧ (Same H (upd H4 D (.lst (acc ++ [y]))) ∧ upd H4 D (.lst (acc ++ [y])) D = some (.lst ((List.replicate (i + 1) true).map V.bl)))) hi s1 y fun H5 s5 =>
      ⟨_, s5 _ _ e, by rw [List.length_map, List.length_replicate, sizeLine_eq]; omega, same_mut (s1.trans s5) hD, by rw [upd_same, List.replicate_succ', List.map_append]; rfl⟩
    exact z
  · obtain ⟨s1, e⟩ := p
    exact k H' s1 ⟨List.replicate n true, SqL.of e, by simp⟩
end
end LW
namespace LW
open PySem PySem.Spec PyProof.Rows L2 DW
/-! ### nets as data -/
abbrev WkT := Str × Str × Int × Int × Int
abbrev BdT := Str × Str × Int
def wkD (w : WkT) : PyData := .tuple [.str w.1, .str w.2.1, .int w.2.2.1, .int w.2.2.2.1, .int w.2.2.2.2]
def bdD (b : BdT) : PyData := .tuple [.str b.1, .str b.2.1, .int b.2.2]
def inD (i : Int) : PyData := .int i
abbrev Ls := List (Str × Int)
abbrev Ws := List (Str × WkT)
abbrev Bs := List (Str × BdT)
def knownB (L : Ls) (z : Str) : Bool := decide (z = ("dawn" : Str)) || decide (z ∈ L.map (·.1))
structure OkL (L : Ls) : Prop where
  nd : (L.map (·.1)).Nodup
  len : 1 ≤ L.length ∧ L.length ≤ 200
  name : ∀ p ∈ L, nameS p.1 = true
  tick : ∀ p ∈ L, 0 ≤ p.2 ∧ p.2 ≤ 10 ^ 30
structure OkWk (L : Ls) (w : WkT) : Prop where
  b : knownB L w.1 = true
  e : knownB L w.2.1 = true
  ne : w.2.1 ≠ ("dawn" : Str)
  be : w.1 ≠ w.2.1
  l : 1 ≤ w.2.2.1
  lm : w.2.2.1 ≤ w.2.2.2.1
  m : w.2.2.2.1 ≤ 10 ^ 30
  k : 0 ≤ w.2.2.2.2 ∧ w.2.2.2.2 ≤ 20
structure OkBd (L : Ls) (b : BdT) : Prop where
  f : knownB L b.1 = true
  s : knownB L b.2.1 = true
  ne : b.1 ≠ b.2.1
  m : 1 - 10 ^ 40 ≤ b.2.2 ∧ b.2.2 ≤ 10 ^ 40 - 1
structure OkW (L : Ls) (W : Ws) : Prop where
  nd : (W.map (·.1)).Nodup
  len : W.length ≤ 60
  name : ∀ p ∈ W, nameS p.1 = true
  wk : ∀ p ∈ W, OkWk L p.2
  ends : (W.map fun p => p.2.2.1).Nodup
  rank : ∃ r : Str → Nat, ∀ p ∈ W, r p.2.1 < r p.2.2.1
  look : ∀ p ∈ W, ∀ q ∈ W, p.2.1 = q.2.2.1 → q.2.2.2.2.2 = 0
structure OkB (L : Ls) (B : Bs) : Prop where
  nd : (B.map (·.1)).Nodup
  len : B.length ≤ 400
  name : ∀ p ∈ B, nameS p.1 = true
  bd : ∀ p ∈ B, OkBd L p.2
theorem name_len {z : Str} (h : nameS z = true) : z.length ≤ 1000 := by
  simp only [nameS, Bool.and_eq_true, decide_eq_true_eq] at h
  omega
theorem fit_str {z : Str} (h : nameS z = true) : Fit (.str z) := fun y e => by cases e; exact name_len h
theorem wk_at {K : PySem.W.Frag} {H : Hp} {v : V} {w : WkT} (h : Dp K H v (wkD w)) : ∃ t, v = .ref t ∧ SqT K H t [.str w.1, .str w.2.1, .int w.2.2.1, .int w.2.2.2.1, .int w.2.2.2.2] := by
  cases h with
  | tup hs ha =>
    cases ha with
    | cons a1 r =>
      cases r with
      | cons a2 r =>
        cases r with
        | cons a3 r =>
          cases r with
          | cons a4 r =>
            cases r with
            | cons a5 r =>
              cases r
              cases a1
              cases a2
              cases a3
              cases a4
              cases a5
              exact ⟨_, rfl, hs⟩
theorem bd_at {K : PySem.W.Frag} {H : Hp} {v : V} {b : BdT} (h : Dp K H v (bdD b)) : ∃ t, v = .ref t ∧ SqT K H t [.str b.1, .str b.2.1, .int b.2.2] := by
  cases h with
  | tup hs ha =>
    cases ha with
    | cons a1 r =>
      cases r with
      | cons a2 r =>
        cases r with
        | cons a3 r =>
          cases r
          cases a1
          cases a2
          cases a3
          exact ⟨_, rfl, hs⟩
theorem in_at {K : PySem.W.Frag} {H : Hp} {v : V} {i : Int} (h : Dp K H v (inD i)) : v = .int i := by
  cases h
  rfl
section
variable {P : Program} {w : World} {K : PySem.W.Frag} {mg : Str → Option Value} {base : Heap}
theorem scLasts : FnScope ["value", "limit", "name"] ["value", "limit"] (defScope s_are_lasts) := ⟨rfl, rfl, rfl, by decide +kernel, rfl, by decide +kernel, by decide +kernel⟩
def spLasts (K : PySem.W.Frag) : Sp := fun vs H Q _ => ∃ (a : Addr) (lim : Int) (L : Ls), vs = [.ref a, .int lim] ∧ TD inD K H a L ∧ OkL L ∧ (L.length : Int) ≤ lim ∧ ∀ H', Same H H' → Q (.bl true) H'
theorem ok_lasts {f fN fB : Addr} {fd dN dB : FuncData} (F : Fun K "are_lasts" "are_lasts" s_are_lasts f fd) (CN : Cal P w K mg base 1 "is_name" ["value"] (spJ K isNameD) fN dN) (CB : Cal P w K mg base 1 "is_between" ["value", "least", "most"] (spBet K) fB dB)
    {tL : Addr} (gL : mg "MAX_LENGTH" = some (.int (10 ^ 30) tL)) (zI : mg "isinstance" = none) (zD : mg "dict" = none) (zL : mg "len" = none) (zA : mg "all" = none) : FnOk P w K mg base CX0 2 f fd ["value", "limit"] (spLasts K) := by
  refine F.ok scLasts (fun vs H Q E h => ?_) (fun cdv A outer s H vs Q E hr h => ?_)
  · obtain ⟨a, lim, L, rfl, _⟩ := h
    rfl
  obtain ⟨a, lim, L, rfl, ⟨kvs, ha, tx⟩, ok, hl, k⟩ := h
  have ek : kvs.length = L.length := Paired.length tx
  refine ⟨_, pss_cons (ps_if (PW.pt (pw_or (pt_not (pt_val (pe_callB call_isi (by rfl) zI (by rfl) (pa_cons (pv 0) (pa_cons (pe_bltn rfl zD (by rfl) (show RelV (.ty "dict") (.type "dict") from rfl)) pa_nil)))))
        (pw_or1 (pt_not (pt_chain op_le op_le pe_int (pe_callB call_lenD (by rfl) zL PySem.boot_len (pa_cons (pv 0) pa_nil)) (pv 1))))))
      (pss_one (ps_ret pe_bl)) pss_nil)
    (pss_one (ps_ret (pe_lock (pe_callB (cr_all rfl) (by rfl) zA (by decide +kernel) (pa_cons (pe_lc (own := [("name", 2)]) (g := gName 2) (tt := tYes) rfl scLasts.nd (pi_keys (pv 0)) (blkOk_by (own := [("name", 2)]) (N := ["value", "limit", "name"]) (sc := defScope s_are_lasts) (by decide +kernel))
      (fun _ _ _ _ _ => pg_name (i := 2) scLasts.nd rfl (Or.inl rfl)) (fun _ _ _ _ _ => pts_nil) (fun _ _ _ _ _ => pe_and (pe_cal (E := E0) CN hr rfl (pa_cons (pv 2) pa_nil))
        (pe_one (pe_cal (E := E0) CB hr rfl (pa_cons (pe_dget (hu_of hr) (pv 0) (pv 2) (fun _ _ => rfl)) (pa_cons pe_int (pa_cons (pe_glob rfl gL (show RelV (.int (10 ^ 30)) (.int (10 ^ 30) tL) from ⟨tL, rfl⟩)) pa_nil))))))) pa_nil))))), ?_⟩
  refine isi_dK rfl ha kDD ⟨_, rfl, iteF ⟨_, rfl, a, kvs, rfl, ha, _, _, rfl, rfl, _, rfl, ?_⟩⟩
  have l1 := ok.len.1
  have l2 := ok.len.2
  rw [decide_eq_true (by omega : (1 : Int) ≤ (kvs.length : Nat))]
  refine iteT ⟨_, rfl, _, _, rfl, rfl, _, rfl, ?_⟩
  rw [decide_eq_true (by omega : ((kvs.length : Nat) : Int) ≤ lim)]
  refine iteF ⟨a, _, ha, mut_dK, fun od => ⟨_, rfl, a, od, rfl, .inl ⟨kvs, upd_same, fun D hD => all_it (K := K) (walk_keys (kvs := kvs)) (by omega) hD (fun H' s => s _ _ upd_same) (fun i x H1 H2 R hi s y r => ?_) fun H' s q => ?_⟩⟩⟩
  · obtain ⟨rfl, key, v, hk, rfl⟩ := y
    obtain ⟨p, hp, e, dv⟩ := tx.at hk
    have e : key = .inr p.1 := e
    subst e
    have pm := List.mem_of_getElem? hp
    have nm := ok.name p pm
    have wk1 : Wk H H2 := (Wk.lock ha (fun _ _ z => nomatch z)).trans (Wk.of s)
    refine ⟨rfl, _, rfl, .str p.1, .str p.1, rfl, .base (.str p.1) rfl, fit_str nm, fun H3 s3 => ⟨_, rfl, ?_⟩⟩
    rw [show isNameD (.str p.1) = true from nm]
    have wk2 := wk1.trans (Wk.of s3)
    obtain ⟨u, g, du⟩ := (TR.wk wk2 ⟨kvs, .inl ha, tx⟩).get (look_of ok.nd pm)
    cases in_at du
    have tk := ok.tick p pm
    refine iteT ⟨_, rfl, _, rfl, a, _, rfl, g, .int p.2, .int p.2, _, _, rfl, .base (.int p.2) rfl, ?_⟩
    rw [show betD 0 (10 ^ 30) (.int p.2) = true by simp only [betD, decide_eq_true tk.1, decide_eq_true tk.2, Bool.and_self]]
    exact r H3 s3
  · obtain ⟨z1, z2⟩ := unlock ha s
    obtain ⟨bs, hb, e⟩ := q
    refine ⟨D, bs, rfl, hb, z1, ?_⟩
    rw [e]
    exact k _ z2
end
end LW
namespace LW
open PySem PySem.Spec PyProof.Rows L2 DW
section
variable {P : Program} {w : World} {K : PySem.W.Frag} {mg : Str → Option Value} {base : Heap}
theorem scLot : FnScope ["value", "limit", "name"] ["value", "limit"] (defScope s_u_is_lot) := ⟨rfl, rfl, rfl, by decide +kernel, rfl, by decide +kernel, by decide +kernel⟩
def spLot (K : PySem.W.Frag) : Sp := fun vs H Q _ => ∃ (v : V) (lim : Int) (ns : List Str), vs = [v, .int lim] ∧ LotN K H v ns ∧ (∀ n ∈ ns, nameS n = true) ∧ (ns.length : Int) ≤ lim ∧ ns.length ≤ 1000 ∧ ∀ H', Same H H' → Q (.bl true) H'
theorem ok_lot {f fN : Addr} {fd dN : FuncData} (F : Fun K "_is_lot" "_is_lot" s_u_is_lot f fd) (CN : Cal P w K mg base 1 "is_name" ["value"] (spJ K isNameD) fN dN)
    (zI : mg "isinstance" = none) (zT : mg "tuple" = none) (zD : mg "dict" = none) (zL : mg "len" = none) (zA : mg "all" = none) : FnOk P w K mg base CX0 2 f fd ["value", "limit"] (spLot K) := by
  refine F.ok scLot (fun vs H Q E h => ?_) (fun cdv A outer s H vs Q E hr h => ?_)
  · obtain ⟨a, lim, L, rfl, _⟩ := h
    rfl
  obtain ⟨v, lim, ns, rfl, lot, nm, hl, h1000, k⟩ := h
  refine ⟨_, pss_cons (ps_if (pt_val (pe_callB call_isi (by rfl) zI (by rfl) (pa_cons (pv 0) (pa_cons (pe_bltn rfl zT (by rfl) (show RelV (.ty "tuple") (.type "tuple") from rfl)) pa_nil))))
      (pss_one (ps_ret (pe_cmpR op_eq (pe_callB call_len_seq (by rfl) zL PySem.boot_len (pa_cons (pv 0) pa_nil)) pe_int (nomark _)))) pss_nil)
    (pss_one (ps_ret (pe_and (pe_callB call_isi (by rfl) zI (by rfl) (pa_cons (pv 0) (pa_cons (pe_bltn rfl zD (by rfl) (show RelV (.ty "dict") (.type "dict") from rfl)) pa_nil)))
      (pe_and (pe_cmpR op_le (pe_callB call_lenD (by rfl) zL PySem.boot_len (pa_cons (pv 0) pa_nil)) (pv 1) (nomark _))
      (pe_one (pe_lock (pe_callB (cr_all rfl) (by rfl) zA (by decide +kernel) (pa_cons (pe_lc (own := [("name", 2)]) (g := gName 2) (tt := tYes) rfl scLot.nd (pi_keys (pv 0)) (blkOk_by (own := [("name", 2)]) (N := ["value", "limit", "name"]) (sc := defScope s_u_is_lot) (by decide +kernel))
      (fun _ _ _ _ _ => pg_name (i := 2) scLot.nd rfl (Or.inl rfl)) (fun _ _ _ _ _ => pts_nil) (fun _ _ _ _ _ => pe_cal (E := E0) CN hr rfl (pa_cons (pv 2) pa_nil))) pa_nil)))))))), ?_⟩
  rcases lot with ⟨a, kvs, rfl, ha, hk⟩ | ⟨rfl, t, rfl, ht⟩
  · have el : kvs.length = ns.length := by have := congrArg List.length hk; simpa using this
    refine isi_dK rfl ha kDT ⟨_, rfl, iteF (isi_dK rfl ha kDD ⟨_, rfl, iteT ⟨_, rfl, a, kvs, rfl, ha, _, rfl, _, _, rfl, rfl, _, rfl, ?_⟩⟩)⟩
    rw [decide_eq_true (by omega : ((kvs.length : Nat) : Int) ≤ lim)]
    refine iteT ⟨a, _, ha, mut_dK, fun od => ⟨_, rfl, a, od, rfl, .inl ⟨kvs, upd_same, fun D hD => all_it (K := K) (walk_keys (kvs := kvs)) (by omega) hD (fun H' s => s _ _ upd_same) (fun i x H1 H2 R hi s y r => ?_) fun H' s q => ?_⟩⟩⟩
    · obtain ⟨rfl, key, v, hk1, rfl⟩ := y
      have e1 : (kvs.map (·.1))[i]? = some key := by rw [List.getElem?_map, hk1]; rfl
      rw [hk, List.getElem?_map] at e1
      obtain ⟨n, hn, e⟩ := Option.map_eq_some_iff.mp e1
      subst e
      have nn := nm n (List.mem_of_getElem? hn)
      refine ⟨rfl, _, rfl, .str n, .str n, rfl, .base (.str n) rfl, fit_str nn, fun H3 s3 => ?_⟩
      rw [show isNameD (.str n) = true from nn]
      exact r H3 s3
    · obtain ⟨z1, z2⟩ := unlock ha s
      obtain ⟨bs, hb, e⟩ := q
      refine ⟨D, bs, rfl, hb, z1, ?_⟩
      rw [e]
      exact k _ z2
  · exact isi_tup rfl ht kTT ⟨_, rfl, iteT ⟨_, rfl, t, [], rfl, .inr ht, rfl, k H (Same.refl H)⟩⟩
theorem scKnown : FnScope ["lasts", "value"] ["lasts", "value"] (defScope s_u_is_known) := ⟨rfl, rfl, rfl, by decide +kernel, rfl, by decide +kernel, by decide +kernel⟩
def spKnown (K : PySem.W.Frag) : Sp := fun vs H Q _ => ∃ (a : Addr) (z : Str) (L : Ls), vs = [.ref a, .str z] ∧ TR inD K H a L ∧ Q (.bl (knownB L z)) H
theorem ok_known {f : Addr} {fd : FuncData} (F : Fun K "_is_known" "_is_known" s_u_is_known f fd) {tW : Tok} (gW : mg "DAWN" = some (.str "dawn" tW)) (zI : mg "isinstance" = none) (zS : mg "str" = none) : FnOk P w K mg base CX0 1 f fd ["lasts", "value"] (spKnown K) := by
  refine F.ok scKnown (fun vs H Q E h => ?_) (fun cdv A outer s H vs Q E hr h => ?_)
  · obtain ⟨a, z, L, rfl, _⟩ := h
    rfl
  obtain ⟨a, z, L, rfl, tr, k⟩ := h
  refine ⟨_, pss_one (ps_ret (pe_and (pe_callB call_isi (by rfl) zI (by rfl) (pa_cons (pv 1) (pa_cons (pe_bltn rfl zS (by rfl) (show RelV (.ty "str") (.type "str") from rfl)) pa_nil)))
      (pe_one (pe_or (pe_cmpR op_eq (pv 1) (pe_glob rfl gW (show RelV (.str "dawn") (.str "dawn" tW) from ⟨tW, rfl⟩)) (nomark _)) (pe_one (pe_cmp (pc_din (hu_of hr) (pv 1) (pv 0)))))))), ?_⟩
  refine isi_str rfl kSS ⟨_, rfl, iteT ⟨_, rfl, rfl, _, rfl, ?_⟩⟩
  rw [dec_strV]
  unfold knownB at k
  by_cases e : z = ("dawn" : Str)
  · rw [decide_eq_true e] at k ⊢
    exact iteT k
  · rw [decide_eq_false e] at k ⊢
    obtain ⟨o, g, eo⟩ := tr.has z
    exact iteF ⟨_, rfl, _, rfl, a, o, rfl, g, by rw [eo]; exact k⟩
end
end LW
namespace LW
open PySem PySem.Spec PyProof.Rows L2 DW
section
variable {P : Program} {w : World} {K : PySem.W.Frag} {mg : Str → Option Value} {base : Heap}
theorem bet_true {lo hi i : Int} (h : lo ≤ i ∧ i ≤ hi) : betD lo hi (.int i) = true := by simp only [betD, decide_eq_true h.1, decide_eq_true h.2, Bool.and_self]
theorem scWork : FnScope ["lasts", "value", "begin", "end", "least", "most", "look"] ["lasts", "value"] (defScope s_u_is_work) := ⟨rfl, rfl, rfl, by decide +kernel, rfl, by decide +kernel, by decide +kernel⟩
def spWork (K : PySem.W.Frag) : Sp := fun vs H Q _ => ∃ (a t : Addr) (x : WkT) (L : Ls), vs = [.ref a, .ref t] ∧ TR inD K H a L ∧ SqT K H t [.str x.1, .str x.2.1, .int x.2.2.1, .int x.2.2.2.1, .int x.2.2.2.2] ∧ OkWk L x ∧ Q (.bl true) H
theorem ok_work {f fK fB : Addr} {fd dK dB : FuncData} (F : Fun K "_is_work" "_is_work" s_u_is_work f fd) (CK : Cal P w K mg base 1 "_is_known" ["lasts", "value"] (spKnown K) fK dK) (CB : Cal P w K mg base 1 "is_between" ["value", "least", "most"] (spBet K) fB dB)
    {tW tL tO : Tok} (gW : mg "DAWN" = some (.str "dawn" tW)) (gL : mg "MAX_LENGTH" = some (.int (10 ^ 30) tL)) (gO : mg "MAX_LOOK" = some (.int 20 tO)) (zI : mg "isinstance" = none) (zT : mg "tuple" = none) (zL : mg "len" = none) : FnOk P w K mg base CX0 2 f fd ["lasts", "value"] (spWork K) := by
  refine F.ok scWork (fun vs H Q E h => ?_) (fun cdv A outer s H vs Q E hr h => ?_)
  · obtain ⟨a, t, x, L, rfl, _⟩ := h
    rfl
  obtain ⟨a, t, ⟨b, e, l, m, k⟩, L, rfl, tr, ht, ok, q⟩ := h
  refine ⟨_, pss_cons (ps_if (PW.pt (pw_or (pt_not (pt_val (pe_callB call_isi (by rfl) zI (by rfl) (pa_cons (pv 1) (pa_cons (pe_bltn rfl zT (by rfl) (show RelV (.ty "tuple") (.type "tuple") from rfl)) pa_nil)))))
        (pw_or1 (pt_cmpR op_ne (pe_callB call_len_seq (by rfl) zL PySem.boot_len (pa_cons (pv 1) pa_nil)) pe_int (nomark _)))))
      (pss_one (ps_ret pe_bl)) pss_nil)
    (pss_cons (ps_asg (pv 1) (pg_tup rfl (pgs_cons (pg_name (i := 2) scWork.nd rfl (Or.inl rfl)) (pgs_cons (pg_name (i := 3) scWork.nd rfl (Or.inl rfl)) (pgs_cons (pg_name (i := 4) scWork.nd rfl (Or.inl rfl)) (pgs_cons (pg_name (i := 5) scWork.nd rfl (Or.inl rfl)) (pgs_cons (pg_name (i := 6) scWork.nd rfl (Or.inl rfl)) pgs_nil)))))))
    (pss_cons (ps_if (PW.pt (pw_or (pt_not (pt_val (pe_cal (E := E0) CK hr rfl (pa_cons (pv 0) (pa_cons (pv 2) pa_nil))))) (pw_or (pt_not (pt_val (pe_cal (E := E0) CK hr rfl (pa_cons (pv 0) (pa_cons (pv 3) pa_nil)))))
        (pw_or (pt_cmpR op_eq (pv 3) (pe_glob rfl gW (show RelV (.str "dawn") (.str "dawn" tW) from ⟨tW, rfl⟩)) (nomark _)) (pw_or1 (pt_cmpR op_eq (pv 2) (pv 3) (nomark _)))))))
      (pss_one (ps_ret pe_bl)) pss_nil)
    (pss_cons (ps_if (PW.pt (pw_or (pt_not (pt_val (pe_cal (E := E0) CB hr rfl (pa_cons (pv 4) (pa_cons pe_int (pa_cons (pe_glob rfl gL (show RelV (.int (10 ^ 30)) (.int (10 ^ 30) tL) from ⟨tL, rfl⟩)) pa_nil))))))
        (pw_or1 (pt_not (pt_val (pe_cal (E := E0) CB hr rfl (pa_cons (pv 5) (pa_cons pe_int (pa_cons (pe_glob rfl gL (show RelV (.int (10 ^ 30)) (.int (10 ^ 30) tL) from ⟨tL, rfl⟩)) pa_nil)))))))))
      (pss_one (ps_ret pe_bl)) pss_nil)
    (pss_one (ps_ret (pe_and (pe_cmpR op_le (pv 4) (pv 5) (nomark _)) (pe_one (pe_cal (E := E0) CB hr rfl (pa_cons (pv 6) (pa_cons pe_int (pa_cons (pe_glob rfl gO (show RelV (.int 20) (.int 20 tO) from ⟨tO, rfl⟩)) pa_nil))))))))))), ?_⟩
  have o1 : knownB L b = true := ok.b
  have o2 : knownB L e = true := ok.e
  have o3 : e ≠ ("dawn" : Str) := ok.ne
  have o4 : b ≠ e := ok.be
  have o5 : 1 ≤ l := ok.l
  have o6 : l ≤ m := ok.lm
  have o7 : m ≤ 10 ^ 30 := ok.m
  have o8 : 0 ≤ k ∧ k ≤ 20 := ok.k
  refine isi_tup rfl ht kTT ⟨_, rfl, iteF ⟨_, rfl, t, _, rfl, .inr ht, rfl, _, rfl, iteF ?_⟩⟩
  refine ⟨_, rfl, t, _, rfl, ht, rfl, _, _, rfl, _, _, rfl, _, _, rfl, _, _, rfl, _, _, rfl, rfl, ?_⟩
  refine ⟨_, rfl, _, rfl, a, b, L, rfl, tr, ?_⟩
  rw [o1]
  refine ⟨_, rfl, iteF ⟨_, rfl, _, rfl, a, e, L, rfl, tr, ?_⟩⟩
  rw [o2]
  refine ⟨_, rfl, iteF ⟨_, rfl, rfl, _, rfl, ?_⟩⟩
  rw [dec_strV, decide_eq_false o3]
  refine iteF ⟨_, rfl, _, rfl, rfl, _, rfl, ?_⟩
  rw [dec_strV, decide_eq_false o4]
  refine iteF ⟨_, rfl, .int l, .int l, _, _, rfl, .base (.int l) rfl, ?_⟩
  rw [bet_true (by omega : 1 ≤ l ∧ l ≤ 10 ^ 30)]
  refine ⟨_, rfl, iteF ⟨_, rfl, .int m, .int m, _, _, rfl, .base (.int m) rfl, ?_⟩⟩
  rw [bet_true (by omega : 1 ≤ m ∧ m ≤ 10 ^ 30)]
  refine ⟨_, rfl, iteF ⟨_, rfl, _, rfl, _, _, rfl, rfl, _, rfl, ?_⟩⟩
  rw [decide_eq_true o6]
  refine iteT ⟨_, rfl, .int k, .int k, _, _, rfl, .base (.int k) rfl, ?_⟩
  rw [bet_true o8]
  exact q
theorem scBound : FnScope ["lasts", "value", "first", "second", "most"] ["lasts", "value"] (defScope s_u_is_bound) := ⟨rfl, rfl, rfl, by decide +kernel, rfl, by decide +kernel, by decide +kernel⟩
def spBound (K : PySem.W.Frag) : Sp := fun vs H Q _ => ∃ (a t : Addr) (x : BdT) (L : Ls), vs = [.ref a, .ref t] ∧ TR inD K H a L ∧ SqT K H t [.str x.1, .str x.2.1, .int x.2.2] ∧ OkBd L x ∧ ∀ H', Same H H' → Q (.bl true) H'
theorem ok_bound {f fK fI : Addr} {fd dK dI : FuncData} (F : Fun K "_is_bound" "_is_bound" s_u_is_bound f fd) (CK : Cal P w K mg base 1 "_is_known" ["lasts", "value"] (spKnown K) fK dK) (CI : Cal P w K mg base 2 "is_integer" ["value"] (spJ K (betD (1 - 10 ^ 40) (10 ^ 40 - 1))) fI dI)
    (zI : mg "isinstance" = none) (zT : mg "tuple" = none) (zL : mg "len" = none) : FnOk P w K mg base CX0 3 f fd ["lasts", "value"] (spBound K) := by
  refine F.ok scBound (fun vs H Q E h => ?_) (fun cdv A outer s H vs Q E hr h => ?_)
  · obtain ⟨a, t, x, L, rfl, _⟩ := h
    rfl
  obtain ⟨a, t, ⟨b, e, m⟩, L, rfl, tr, ht, ok, q⟩ := h
  refine ⟨_, pss_cons (ps_if (PW.pt (pw_or (pt_not (pt_val (pe_callB call_isi (by rfl) zI (by rfl) (pa_cons (pv 1) (pa_cons (pe_bltn rfl zT (by rfl) (show RelV (.ty "tuple") (.type "tuple") from rfl)) pa_nil)))))
        (pw_or1 (pt_cmpR op_ne (pe_callB call_len_seq (by rfl) zL PySem.boot_len (pa_cons (pv 1) pa_nil)) pe_int (nomark _)))))
      (pss_one (ps_ret pe_bl)) pss_nil)
    (pss_cons (ps_asg (pv 1) (pg_tup rfl (pgs_cons (pg_name (i := 2) scBound.nd rfl (Or.inl rfl)) (pgs_cons (pg_name (i := 3) scBound.nd rfl (Or.inl rfl)) (pgs_cons (pg_name (i := 4) scBound.nd rfl (Or.inl rfl)) pgs_nil)))))
    (pss_one (ps_ret (pe_and (pe_cal (E := E0) CK (Room.mono hr (by decide)) rfl (pa_cons (pv 0) (pa_cons (pv 2) pa_nil)) (Nat.le_refl _)) (pe_and (pe_cal (E := E0) CK (Room.mono hr (by decide)) rfl (pa_cons (pv 0) (pa_cons (pv 3) pa_nil)) (Nat.le_refl _))
      (pe_and (pe_cmpR op_ne (pv 2) (pv 3) (nomark _)) (pe_one (pe_cal (E := E0) CI (Room.mono hr (by decide)) rfl (pa_cons (pv 4) pa_nil) (Nat.le_refl _))))))))), ?_⟩
  have o1 : knownB L b = true := ok.f
  have o2 : knownB L e = true := ok.s
  have o4 : b ≠ e := ok.ne
  have o8 : 1 - 10 ^ 40 ≤ m ∧ m ≤ 10 ^ 40 - 1 := ok.m
  refine isi_tup rfl ht kTT ⟨_, rfl, iteF ⟨_, rfl, t, _, rfl, .inr ht, rfl, _, rfl, iteF ?_⟩⟩
  refine ⟨_, rfl, t, _, rfl, ht, rfl, _, _, rfl, _, _, rfl, _, _, rfl, rfl, ?_⟩
  refine ⟨_, rfl, _, rfl, a, b, L, rfl, tr, ?_⟩
  rw [o1]
  refine ⟨_, rfl, iteT ⟨_, rfl, _, rfl, a, e, L, rfl, tr, ?_⟩⟩
  rw [o2]
  refine ⟨_, rfl, iteT ⟨_, rfl, _, rfl, rfl, _, rfl, ?_⟩⟩
  rw [dec_strV, decide_eq_false o4]
  refine iteT ⟨_, rfl, .int m, .int m, rfl, .base (.int m) rfl, (fun z e => by cases e), fun H' s => ?_⟩
  rw [bet_true o8]
  exact q H' s
end
end LW
namespace LW
open PySem PySem.Spec PyProof.Rows L2 DW
def stD (s : Str) : PyData := .str s
abbrev Es := List (Str × Str)
/-- which work ends at an event: ascending by the works -/
def endR (W : Ws) : Es := (srtR W).map fun p => (p.2.2.1, p.1)
theorem st_at {K : PySem.W.Frag} {H : Hp} {v : V} {s : Str} (h : Dp K H v (stD s)) : v = .str s := by
  cases h
  rfl
/-- what a dict of ends tells is so -/
def EndOk (W : Ws) (E : Es) : Prop := ∀ s n, look E s = some n → ∃ x, look W n = some x ∧ x.2.1 = s
theorem endR_ok {L : Ls} {W : Ws} (ok : OkW L W) : EndOk W (endR W) := fun s n h => by
  obtain ⟨p, hp, e⟩ := List.mem_map.mp (look_mem h)
  cases e
  exact ⟨p.2, look_of ok.nd ((srtR_mem ok.nd).mp hp), rfl⟩
theorem endR_nodup {L : Ls} {W : Ws} (ok : OkW L W) : ((endR W).map (·.1)).Nodup := by
  unfold endR
  rw [List.map_map]
  have pm : (srtR W).Perm W := by
    have := ok.nd
    refine List.perm_iff_count.mpr fun p => ?_
    have n1 := nodup_of (srtR_nodup ok.nd)
    have n2 := nodup_of ok.nd
    by_cases m : p ∈ W
    · rw [n1.count, n2.count, if_pos ((srtR_mem ok.nd).mpr m), if_pos m]
    · rw [n1.count, n2.count, if_neg (fun z => m ((srtR_mem ok.nd).mp z)), if_neg m]
  exact ((pm.map fun p => p.2.2.1).nodup_iff).mpr ok.ends
section
variable {P : Program} {w : World} {K : PySem.W.Frag} {mg : Str → Option Value} {base : Heap}
theorem scRound : FnScope ["works", "ended", "name", "event", "_"] ["works", "ended", "name"] (defScope s_u_goes_round) := ⟨rfl, rfl, rfl, by decide +kernel, rfl, by decide +kernel, by decide +kernel⟩
def spRound (K : PySem.W.Frag) : Sp := fun vs H Q _ => ∃ (a d : Addr) (n : Str) (W : Ws) (E : Es) (L : Ls), vs = [.ref a, .ref d, .str n] ∧ TD wkD K H a W ∧ TR stD K H d E ∧ OkW L W ∧ EndOk W E ∧ n ∈ W.map (·.1) ∧ ∀ H', Same H H' → Q (.bl false) H'
theorem ok_round {f : Addr} {fd : FuncData} (F : Fun K "_goes_round" "_goes_round" s_u_goes_round f fd) (zR : mg "range" = none) (zL : mg "len" = none) : FnOk P w K mg base CX0 1 f fd ["works", "ended", "name"] (spRound K) := by
  refine F.ok scRound (fun vs H Q E h => ?_) (fun cdv A outer s H vs Q E hr h => ?_)
  · obtain ⟨a, d, n, W, E', L, rfl, _⟩ := h
    rfl
  obtain ⟨a, d, n, W, E', L, rfl, td, te, ok, eo, hn, k⟩ := h
  refine ⟨_, pss_cons (ps_set (i := 3) scRound.nd rfl (Or.inl rfl) (pe_ix (r := rIxT K) ix_tup (pe_dget (hu_of hr) (pv 0) (pv 2) (fun _ _ => rfl)) pe_int (fun _ _ => rfl)))
    (pss_cons (ps_for PassesOwn.never rfl (pi_range1 rfl zR (pa_cons (pe_callB call_lenD (by rfl) zL PySem.boot_len (pa_cons (pv 0) pa_nil)) pa_nil)) (pg_name (i := 4) scRound.nd rfl (.inl rfl))
      (pss_cons (ps_if (pt_cmpR op_eq (pv 3) (pe_ix (r := rIxT K) ix_tup (pe_dget (hu_of hr) (pv 0) (pv 2) (fun _ _ => rfl)) pe_int (fun _ _ => rfl)) (nomark _)) dead pss_nil)
      (pss_cons (ps_if (pt_cmp (pc_dnotin (hu_of hr) (pv 3) (pv 1))) (pss_one (ps_ret pe_bl)) pss_nil)
      (pss_one (ps_set (i := 3) scRound.nd rfl (Or.inl rfl) (pe_ix (r := rIxT K) ix_tup (pe_dget (hu_of hr) (pv 0) (pe_dget (hu_of hr) (pv 1) (pv 3) (fun _ _ => rfl)) (fun _ _ => rfl)) pe_int (fun _ _ => rfl)))))))
    (pss_one (ps_ret pe_bl))), ?_⟩
  obtain ⟨x, ex⟩ := Option.isSome_iff_exists.mp (look_some.mpr hn)
  obtain ⟨u, g, du⟩ := td.tr.get ex
  obtain ⟨t, rfl, ht⟩ := wk_at du
  obtain ⟨kvs, ha, el⟩ := td.len
  obtain ⟨r, hrk⟩ := ok.rank
  have xm := look_mem ex
  refine ⟨_, rfl, _, rfl, a, _, rfl, g, t, _, 0, .str x.1, rfl, rfl, ht, atI_nat (j := 0) rfl, ?_⟩
  have l60 := ok.len
  refine ⟨_, rfl, a, kvs, rfl, ha, _, rfl, by omega, by omega, ?_⟩
  refine for_range (fun i σ H' => ∃ (ev : Str) (x4 : Option V), σ = [some (.ref a), some (.ref d), some (.str n), some (.str ev), x4] ∧ H' = H ∧ r ev < r x.2.1) ⟨x.1, none, rfl, rfl, hrk _ xm⟩ (fun i σ H' hi p => ?_) (fun σ H' p => ?_)
  · obtain ⟨ev, x4, rfl, rfl, lt⟩ := p
    have ne : ¬ ev = x.2.1 := fun e => by rw [e] at lt; exact Nat.lt_irrefl _ lt
    refine ⟨_, rfl, _, rfl, _, rfl, a, _, rfl, g, t, _, 1, .str x.2.1, rfl, rfl, ht, atI_nat (j := 1) rfl, rfl, _, rfl, ?_⟩
    rw [dec_strV, decide_eq_false ne]
    obtain ⟨o, go, eo'⟩ := te.has ev
    refine iteF ⟨_, rfl, _, rfl, d, o, rfl, go, _, rfl, ?_⟩
    rw [eo']
    by_cases m : ev ∈ E'.map (·.1)
    · rw [decide_eq_true m]
      obtain ⟨n2, e2⟩ := Option.isSome_iff_exists.mp (look_some.mpr m)
      obtain ⟨x2, l2, z2⟩ := eo ev n2 e2
      obtain ⟨v2, g2, d2⟩ := te.get e2
      cases st_at d2
      obtain ⟨u3, g3, d3⟩ := td.tr.get l2
      obtain ⟨t3, rfl, ht3⟩ := wk_at d3
      refine iteF ⟨_, rfl, _, rfl, _, rfl, d, _, rfl, g2, a, _, rfl, g3, t3, _, 0, .str x2.1, rfl, rfl, ht3, atI_nat (j := 0) rfl, ?_⟩
      refine ⟨x2.1, _, rfl, rfl, Nat.lt_trans (hrk _ (look_mem l2)) ?_⟩
      rw [z2]
      exact lt
    · rw [decide_eq_false m]
      exact iteT (k H' (Same.refl H'))
  · obtain ⟨ev, x4, rfl, rfl, lt⟩ := p
    exact k H' (Same.refl H')
end
end LW
namespace LW
open PySem PySem.Spec PyProof.Rows L2 DW
theorem _root_.DW.Lot.td {α : Type} {enc : α → PyData} {K : PySem.W.Frag} {H : Hp} {v : V} {rs : List (Str × α)} (h : Lot enc K H v rs) {n : Str} (m : n ∈ rs.map (·.1)) : ∃ a, v = .ref a ∧ TD enc K H a rs := by
  rcases h with ⟨a, e, t⟩ | ⟨rfl, _⟩
  · exact ⟨a, e, t⟩
  · cases m
/-- the n-th of the sorted names -/
theorem srt_at {α : Type} {rs : List (Str × α)} {i : Nat} {v : V} (h : ((srt (rs.map (·.1))).map V.str)[i]? = some v) : ∃ p, (srtR rs)[i]? = some p ∧ v = .str p.1 ∧ look rs p.1 = some p.2 ∧ p.1 ∈ rs.map (·.1) := by
  rw [← srtR_names, List.map_map, List.getElem?_map] at h
  obtain ⟨p, hp, e⟩ := Option.map_eq_some_iff.mp h
  obtain ⟨s, hs, e2⟩ := List.mem_filterMap.mp (List.mem_of_getElem? hp)
  obtain ⟨x, ex, e3⟩ := Option.map_eq_some_iff.mp e2
  subst e3
  exact ⟨_, hp, e.symm, ex, look_some.mp (by rw [ex]; rfl)⟩
section
variable {P : Program} {w : World} {K : PySem.W.Frag} {mg : Str → Option Value} {base : Heap}
theorem scChain : FnScope ["works", "ended", "name", "ahead"] ["works", "ended"] (defScope s_u_chain_fault) := ⟨rfl, rfl, rfl, by decide +kernel, rfl, by decide +kernel, by decide +kernel⟩
def spChain (K : PySem.W.Frag) : Sp := fun vs H Q _ => ∃ (v : V) (d : Addr) (W : Ws) (E : Es) (L : Ls), vs = [v, .ref d] ∧ Lot wkD K H v W ∧ TR stD K H d E ∧ OkW L W ∧ EndOk W E ∧ ∀ H', Same H H' → Q .non H'
theorem ok_chain {f fR : Addr} {fd dR : FuncData} (F : Fun K "_chain_fault" "_chain_fault" s_u_chain_fault f fd) (CR : Cal P w K mg base 1 "_goes_round" ["works", "ended", "name"] (spRound K) fR dR) (zS : mg "sorted" = none) :
    FnOk P w K mg base CX0 2 f fd ["works", "ended"] (spChain K) := by
  refine F.ok scChain (fun vs H Q E h => ?_) (fun cdv A outer s H vs Q E hr h => ?_)
  · obtain ⟨v, d, W, E', L, rfl, _⟩ := h
    rfl
  obtain ⟨v, d, W, E', L, rfl, lot, te, ok, eo, k⟩ := h
  refine ⟨_, pss_cons (ps_for PassesOwn.never rfl (pi_list (pe_callB (cr_srtL rfl hr.units) (by rfl) zS (by decide +kernel) (pa_cons (pv 0) pa_nil))) (pg_name (i := 2) scChain.nd rfl (.inl rfl))
      (pss_one (ps_if (pt_val (pe_cal (E := E0) CR hr rfl (pa_cons (pv 0) (pa_cons (pv 1) (pa_cons (pv 2) pa_nil))))) dead pss_nil)))
    (pss_cons (ps_for PassesOwn.never rfl (pi_list (pe_callB (cr_srtL rfl hr.units) (by rfl) zS (by decide +kernel) (pa_cons (pv 0) pa_nil))) (pg_name (i := 2) scChain.nd rfl (.inl rfl))
      (pss_cons (ps_set (i := 3) scChain.nd rfl (Or.inl rfl) (pe_dget1 (hu_of hr) (pv 1) (pe_ix (r := rIxT K) ix_tup (pe_dget (hu_of hr) (pv 0) (pv 2) (fun _ _ => rfl)) pe_int (fun _ _ => rfl)) ⟨rfl, rfl, rfl, rfl⟩))
      (pss_one (ps_if (PW.pt (pw_and (pt_cmp (pc_notN (pv 3))) (pw_and1 (pt_cmpR op_gt (pe_ix (r := rIxT K) ix_tup (pe_dget (hu_of hr) (pv 0) (pv 3) (fun _ _ => rfl)) pe_int (fun _ _ => rfl)) pe_int (nomark _))))) dead pss_nil))))
    (pss_one (ps_ret pe_non))), ?_⟩
  have l60 := ok.len
  refine ⟨v, rfl, v, _, rfl, lot.names, by rw [List.length_map]; omega, fun p np => ⟨p, rfl, ⟨_, SqL.of upd_same⟩, ?_⟩⟩
  refine for_list (K := K) (xs := (srt (W.map (·.1))).map V.str) (fun i σ H' => ∃ x2, σ = [some v, some (.ref d), x2, none] ∧ Same (upd H p (.lst ((srt (W.map (·.1))).map V.str))) H') ⟨none, rfl, Same.refl _⟩ (fun i σ H' _ q => by obtain ⟨_, _, s⟩ := q; exact SqL.of (s _ _ upd_same)) (fun i y σ H' hy q => ?_) (fun σ H' q => ?_)
  · obtain ⟨x2, rfl, s⟩ := q
    obtain ⟨r, hr1, rfl, lk, mem⟩ := srt_at hy
    have s0 := (same_new np).trans s
    obtain ⟨a, rfl, td⟩ := (lot.same s0).td mem
    refine ⟨_, rfl, _, rfl, _, rfl, a, d, r.1, W, E', L, rfl, td, te.wk (Wk.of s0), ok, eo, mem, fun H2 s2 => ⟨_, rfl, iteF ⟨_, rfl, s.trans s2⟩⟩⟩
  · obtain ⟨x2, rfl, s⟩ := q
    have s0 := (same_new np).trans s
    refine ⟨v, rfl, v, _, rfl, (lot.same s0).names, by rw [List.length_map]; omega, fun p2 np2 => ⟨p2, rfl, ⟨_, SqL.of upd_same⟩, ?_⟩⟩
    refine for_list (K := K) (xs := (srt (W.map (·.1))).map V.str) (fun i σ H'' => ∃ x2 x3, σ = [some v, some (.ref d), x2, x3] ∧ Same (upd H' p2 (.lst ((srt (W.map (·.1))).map V.str))) H'') ⟨x2, none, rfl, Same.refl _⟩ (fun i σ H' _ q => by obtain ⟨_, _, _, s⟩ := q; exact SqL.of (s _ _ upd_same)) (fun i y σ H'' hy q => ?_) (fun σ H'' q => ?_)
    · obtain ⟨x2, x3, rfl, s2⟩ := q
      obtain ⟨r, hr1, rfl, lk, mem⟩ := srt_at hy
      have s3 := s0.trans ((same_new np2).trans s2)
      obtain ⟨a, rfl, td⟩ := (lot.same s3).td mem
      have te3 := te.wk (Wk.of s3)
      obtain ⟨u, g, du⟩ := td.tr.get lk
      obtain ⟨t, rfl, ht⟩ := wk_at du
      obtain ⟨o, go, eo2⟩ := te3.has r.2.1
      obtain ⟨kvs, re, tx⟩ := te3
      refine ⟨_, rfl, d, rfl, .inl ⟨kvs, re⟩, _, rfl, _, rfl, a, _, rfl, g, t, _, 0, .str r.2.1, rfl, rfl, ht, atI_nat (j := 0) rfl, ?_⟩
      rcases tx.get r.2.1 with ⟨l1, v1⟩ | ⟨n2, v2, l1, v1, d2⟩
      · exact ⟨none, .inl ⟨kvs, .inr r.2.1, re, rfl, v1.symm⟩, _, rfl, _, rfl, ite0 (by simp) ⟨_, _, rfl, s2⟩⟩
      · cases st_at d2
        obtain ⟨x', l2, e2⟩ := eo _ _ l1
        obtain ⟨u3, g3, d3⟩ := td.tr.get l2
        obtain ⟨t3, rfl, ht3⟩ := wk_at d3
        have z0 : x'.2.2.2.2 = 0 := ok.look _ (look_mem lk) _ (look_mem l2) e2.symm
        refine ⟨some (.str n2), .inl ⟨kvs, .inr r.2.1, re, rfl, v1.symm⟩, _, rfl, _, rfl, ite1 (by simp) ⟨_, rfl, _, rfl, a, _, rfl, g3, t3, _, 4, .int x'.2.2.2.2, rfl, rfl, ht3, atI_nat (j := 4) rfl, _, _, rfl, rfl, _, rfl, ?_⟩⟩
        rw [z0]
        exact iteF ⟨_, _, rfl, s2⟩
    · obtain ⟨x2, x3, rfl, s2⟩ := q
      exact k _ (s0.trans ((same_new np2).trans s2))
end
end LW
namespace LW
open PySem PySem.Spec PyProof.Rows L2 DW
theorem take_succ_map {α β : Type} {f : α → β} {l : List α} {i : Nat} {x : α} (h : l[i]? = some x) : (l.take (i + 1)).map f = (l.take i).map f ++ [f x] := by
  rw [List.take_add_one, h, List.map_append]
  rfl
theorem tx_st {K : PySem.W.Frag} {H H' : Hp} {kvs : List (Key × V)} {rs : Es} (h : Tx stD K H kvs rs) : Tx stD K H' kvs rs := pairedMono (fun q p z => ⟨z.1, by rw [st_at z.2]; exact .str _⟩) h
section
variable {P : Program} {w : World} {K : PySem.W.Frag} {mg : Str → Option Value} {base : Heap}
theorem scWF : FnScope ["lasts", "works", "limit", "name", "ended"] ["lasts", "works", "limit"] (defScope s_works_fault) := ⟨rfl, rfl, rfl, by decide +kernel, rfl, by decide +kernel, by decide +kernel⟩
def spWF (K : PySem.W.Frag) : Sp := fun vs H Q _ => ∃ (a : Addr) (v : V) (lim : Int) (L : Ls) (W : Ws), vs = [.ref a, v, .int lim] ∧ TD inD K H a L ∧ Lot wkD K H v W ∧ OkW L W ∧ (W.length : Int) ≤ lim ∧ ∀ H', Same H H' → Q .non H'
theorem ok_wf {f fL fW fC : Addr} {fd dL dW dC : FuncData} (F : Fun K "works_fault" "works_fault" s_works_fault f fd) (CL : Cal P w K mg base 2 "_is_lot" ["value", "limit"] (spLot K) fL dL) (CW : Cal P w K mg base 2 "_is_work" ["lasts", "value"] (spWork K) fW dW)
    (CC : Cal P w K mg base 2 "_chain_fault" ["works", "ended"] (spChain K) fC dC) (zS : mg "sorted" = none) : FnOk P w K mg base CX0 3 f fd ["lasts", "works", "limit"] (spWF K) := by
  refine F.ok scWF (fun vs H Q E h => ?_) (fun cdv A outer s H vs Q E hr h => ?_)
  · obtain ⟨a, v, lim, L, W, rfl, _⟩ := h
    rfl
  obtain ⟨a, v, lim, L, W, rfl, td, lot, ok, hl, k⟩ := h
  refine ⟨_, pss_cons (ps_if (pt_not (pt_val (pe_cal (E := E0) CL hr rfl (pa_cons (pv 1) (pa_cons (pv 2) pa_nil))))) dead pss_nil)
    (pss_cons (ps_for PassesOwn.never rfl (pi_list (pe_callB (cr_srtL rfl hr.units) (by rfl) zS (by decide +kernel) (pa_cons (pv 1) pa_nil))) (pg_name (i := 3) scWF.nd rfl (.inl rfl))
      (pss_one (ps_if (pt_not (pt_val (pe_cal (E := E0) CW hr rfl (pa_cons (pv 0) (pa_cons (pe_dget (hu_of hr) (pv 1) (pv 3) (fun _ _ => rfl)) pa_nil))))) dead pss_nil)))
    (pss_cons (ps_set (i := 4) scWF.nd rfl (Or.inl rfl) pe_dnewK)
    (pss_cons (ps_for PassesOwn.never rfl (pi_list (pe_callB (cr_srtL rfl hr.units) (by rfl) zS (by decide +kernel) (pa_cons (pv 1) pa_nil))) (pg_name (i := 3) scWF.nd rfl (.inl rfl))
      (pss_cons (ps_if (pt_cmp (pc_din (hu_of hr) (pe_ix (r := rIxT K) ix_tup (pe_dget (hu_of hr) (pv 1) (pv 3) (fun _ _ => rfl)) pe_int (fun _ _ => rfl)) (pv 4))) dead pss_nil)
      (pss_one (ps_dput (hu_of hr) (pv 4) (pe_ix (r := rIxT K) ix_tup (pe_dget (hu_of hr) (pv 1) (pv 3) (fun _ _ => rfl)) pe_int (fun _ _ => rfl)) (pv 3) rfl))))
    (pss_one (ps_ret (pe_cal (E := E0) CC hr rfl (pa_cons (pv 1) (pa_cons (pv 4) pa_nil)))))))), ?_⟩
  have l60 := ok.len
  have en := endR_nodup ok
  refine ⟨v, rfl, _, rfl, v, _, _, rfl, lot.names, (fun n m => by obtain ⟨p, hp, rfl⟩ := List.mem_map.mp m; exact ok.name p hp), by rw [List.length_map]; exact hl, by rw [List.length_map]; omega, fun H1 s1 => ⟨_, rfl, iteF ?_⟩⟩
  refine ⟨v, rfl, v, _, rfl, (lot.same s1).names, by rw [List.length_map]; omega, fun p np => ⟨p, rfl, ⟨_, SqL.of upd_same⟩, ?_⟩⟩
  refine for_list (K := K) (xs := (srt (W.map (·.1))).map V.str) (fun i σ H' => ∃ x3, σ = [some (.ref a), some v, some (.int lim), x3, none] ∧ Same (upd H1 p (.lst ((srt (W.map (·.1))).map V.str))) H') ⟨none, rfl, Same.refl _⟩ (fun i σ H' _ q => by obtain ⟨_, _, s⟩ := q; exact SqL.of (s _ _ upd_same)) (fun i y σ H' hy q => ?_) (fun σ H' q => ?_)
  · obtain ⟨x2, rfl, s⟩ := q
    obtain ⟨r, hr1, rfl, lk, mem⟩ := srt_at hy
    have s0 := s1.trans ((same_new np).trans s)
    obtain ⟨b, rfl, tw⟩ := (lot.same s0).td mem
    obtain ⟨u, g, du⟩ := tw.tr.get lk
    obtain ⟨t, rfl, ht⟩ := wk_at du
    exact ⟨_, rfl, _, rfl, _, rfl, b, _, rfl, g, a, t, r.2, L, rfl, (td.same s0).tr, ht, ok.wk _ (look_mem lk), _, rfl, iteF ⟨_, rfl, s⟩⟩
  · obtain ⟨x2, rfl, s⟩ := q
    have s0 := s1.trans ((same_new np).trans s)
    intro D hD
    have s2 := s0.trans (same_new (o := .dK []) hD)
    refine ⟨v, rfl, v, _, rfl, (lot.same s2).names, by rw [List.length_map]; omega, fun p2 np2 => ⟨p2, rfl, ⟨_, SqL.of upd_same⟩, ?_⟩⟩
    have nDp : D ≠ p2 := ne_of_none (upd_same (H := H') (a := D) (o := .dK [])) np2
    refine for_list (K := K) (xs := (srt (W.map (·.1))).map V.str) (fun i σ H'' => ∃ x3, σ = [some (.ref a), some v, some (.int lim), x3, some (.ref D)] ∧ Same H H'' ∧ H'' p2 = some (.lst ((srt (W.map (·.1))).map V.str)) ∧ TD stD K H'' D ((endR W).take i)) ⟨x2, rfl, s2.trans (same_new np2), upd_same, TD.nil (by rw [upd_ne nDp, upd_same])⟩
      (fun i σ H' _ q => by obtain ⟨_, _, _, s, _⟩ := q; exact SqL.of s) (fun i y σ H'' hy q => ?_) (fun σ H'' q => ?_)
    · obtain ⟨x3, rfl, s3, hp2, te⟩ := q
      obtain ⟨r, hr1, rfl, lk, mem⟩ := srt_at hy
      obtain ⟨b, rfl, tw⟩ := (lot.same s3).td mem
      obtain ⟨u, g, du⟩ := tw.tr.get lk
      obtain ⟨t, rfl, ht⟩ := wk_at du
      have ei : (endR W)[i]? = some (r.2.2.1, r.1) := by
        unfold endR
        rw [List.getElem?_map, hr1]
        rfl
      have hE : ((endR W).take (i + 1)).map (·.1) = ((endR W).take i).map (·.1) ++ [r.2.2.1] := take_succ_map ei
      have nin : r.2.2.1 ∉ ((endR W).take i).map (·.1) := by
        have := (List.Sublist.map (·.1) (List.take_sublist (i + 1) (endR W))).nodup en
        rw [hE] at this
        have := List.nodup_append.mp this
        exact fun m => this.2.2 _ m _ (List.mem_singleton.mpr rfl) rfl
      obtain ⟨o, go, eo⟩ := te.tr.has r.2.2.1
      refine ⟨_, rfl, _, rfl, b, _, rfl, g, t, _, 1, .str r.2.2.1, rfl, rfl, ht, atI_nat (j := 1) rfl, _, rfl, D, o, rfl, go, _, rfl, ite0 (by rw [eo]; exact decide_eq_false nin) ?_⟩
      obtain ⟨kvs, hk, tx⟩ := te
      have ll : kvs.length ≤ 60 := by
        have h1 : kvs.length = ((endR W).take i).length := Paired.length tx
        have h2 : ((endR W).take i).length ≤ (endR W).length := by rw [List.length_take]; exact Nat.min_le_right _ _
        have h3 : (endR W).length = W.length := by unfold endR; rw [List.length_map, srtR_len]
        omega
      refine ⟨_, rfl, _, rfl, _, rfl, _, rfl, b, _, rfl, g, t, _, 1, .str r.2.2.1, rfl, rfl, ht, atI_nat (j := 1) rfl, D, _, rfl, DPut.k (k := .inr r.2.2.1) hk (by rw [sizeLine_eq]; omega), _, rfl, ?_, ?_, ?_⟩
      · exact same_mut s3 (none_of s0 hD)
      · rw [upd_ne nDp.symm]
        exact hp2
      · refine ⟨_, upd_same, ?_⟩
        rw [List.take_add_one, ei]
        exact tx_st (tx.put nin (.str r.1))
    · obtain ⟨x3, rfl, s3, hp2, te⟩ := q
      rw [List.length_map, srt_len, List.length_map] at te
      have e3 : (endR W).take W.length = endR W := List.take_of_length_le (by unfold endR; rw [List.length_map, srtR_len]; exact Nat.le_refl _)
      rw [e3] at te
      exact ⟨v, rfl, _, rfl, v, D, W, endR W, L, rfl, lot.same s3, te.tr, ok, endR_ok ok, fun H' s4 => k _ (s3.trans s4)⟩
end
end LW
namespace LW
open PySem PySem.Spec PyProof.Rows L2 DW
section
variable {P : Program} {w : World} {K : PySem.W.Frag} {mg : Str → Option Value} {base : Heap}
theorem scBF : FnScope ["lasts", "bounds", "limit", "name"] ["lasts", "bounds", "limit"] (defScope s_bounds_fault) := ⟨rfl, rfl, rfl, by decide +kernel, rfl, by decide +kernel, by decide +kernel⟩
def spBF (K : PySem.W.Frag) : Sp := fun vs H Q _ => ∃ (a : Addr) (v : V) (lim : Int) (L : Ls) (B : Bs), vs = [.ref a, v, .int lim] ∧ TD inD K H a L ∧ Lot bdD K H v B ∧ OkB L B ∧ (B.length : Int) ≤ lim ∧ ∀ H', Same H H' → Q .non H'
theorem ok_bf {f fL fB : Addr} {fd dL dB : FuncData} (F : Fun K "bounds_fault" "bounds_fault" s_bounds_fault f fd) (CL : Cal P w K mg base 2 "_is_lot" ["value", "limit"] (spLot K) fL dL) (CB : Cal P w K mg base 3 "_is_bound" ["lasts", "value"] (spBound K) fB dB)
    (zS : mg "sorted" = none) : FnOk P w K mg base CX0 4 f fd ["lasts", "bounds", "limit"] (spBF K) := by
  refine F.ok scBF (fun vs H Q E h => ?_) (fun cdv A outer s H vs Q E hr h => ?_)
  · obtain ⟨a, v, lim, L, B, rfl, _⟩ := h
    rfl
  obtain ⟨a, v, lim, L, B, rfl, td, lot, ok, hl, k⟩ := h
  refine ⟨_, pss_cons (ps_if (pt_not (pt_val (pe_cal (E := E0) CL hr rfl (pa_cons (pv 1) (pa_cons (pv 2) pa_nil))))) dead pss_nil)
    (pss_cons (ps_for PassesOwn.never rfl (pi_list (pe_callB (cr_srtL rfl hr.units) (by rfl) zS (by decide +kernel) (pa_cons (pv 1) pa_nil))) (pg_name (i := 3) scBF.nd rfl (.inl rfl))
      (pss_one (ps_if (pt_not (pt_val (pe_cal (E := E0) CB hr rfl (pa_cons (pv 0) (pa_cons (pe_dget (hu_of hr) (pv 1) (pv 3) (fun _ _ => rfl)) pa_nil))))) dead pss_nil)))
    (pss_one (ps_ret pe_non))), ?_⟩
  have l60 := ok.len
  refine ⟨v, rfl, _, rfl, v, _, _, rfl, lot.names, (fun n m => by obtain ⟨p, hp, rfl⟩ := List.mem_map.mp m; exact ok.name p hp), by rw [List.length_map]; exact hl, by rw [List.length_map]; omega, fun H1 s1 => ⟨_, rfl, iteF ?_⟩⟩
  refine ⟨v, rfl, v, _, rfl, (lot.same s1).names, by rw [List.length_map]; omega, fun p np => ⟨p, rfl, ⟨_, SqL.of upd_same⟩, ?_⟩⟩
  refine for_list (K := K) (xs := (srt (B.map (·.1))).map V.str) (fun i σ H' => ∃ x3, σ = [some (.ref a), some v, some (.int lim), x3] ∧ Same (upd H1 p (.lst ((srt (B.map (·.1))).map V.str))) H') ⟨none, rfl, Same.refl _⟩ (fun i σ H' _ q => by obtain ⟨_, _, s⟩ := q; exact SqL.of (s _ _ upd_same)) (fun i y σ H' hy q => ?_) (fun σ H' q => ?_)
  · obtain ⟨x2, rfl, s⟩ := q
    obtain ⟨r, hr1, rfl, lk, mem⟩ := srt_at hy
    have s0 := s1.trans ((same_new np).trans s)
    obtain ⟨b, rfl, tw⟩ := (lot.same s0).td mem
    obtain ⟨u, g, du⟩ := tw.tr.get lk
    obtain ⟨t, rfl, ht⟩ := bd_at du
    exact ⟨_, rfl, _, rfl, _, rfl, b, _, rfl, g, a, t, r.2, L, rfl, (td.same s0).tr, ht, ok.bd _ (look_mem lk), fun H2 s2 => ⟨_, rfl, iteF ⟨_, rfl, s.trans s2⟩⟩⟩
  · obtain ⟨x2, rfl, s⟩ := q
    exact k _ (s1.trans ((same_new np).trans s))
/-- a net's data -/
structure PlainD where
  L : Ls
  W : Ws
  B : Bs
structure OkN (D : PlainD) : Prop where
  l : OkL D.L
  w : OkW D.L D.W
  b : OkB D.L D.B
theorem scNF : FnScope ["lasts", "works", "bounds", "fault"] ["lasts", "works", "bounds"] (defScope s_net_fault) := ⟨rfl, rfl, rfl, by decide +kernel, rfl, by decide +kernel, by decide +kernel⟩
def spNF (K : PySem.W.Frag) : Sp := fun vs H Q _ => ∃ (a : Addr) (v u : V) (D : PlainD), vs = [.ref a, v, u] ∧ TD inD K H a D.L ∧ Lot wkD K H v D.W ∧ Lot bdD K H u D.B ∧ OkN D ∧ ∀ H', Same H H' → Q .non H'
theorem ok_nf {f fL fW fB : Addr} {fd dL dW dB : FuncData} (F : Fun K "net_fault" "net_fault" s_net_fault f fd) (CL : Cal P w K mg base 2 "are_lasts" ["value", "limit"] (spLasts K) fL dL) (CW : Cal P w K mg base 3 "works_fault" ["lasts", "works", "limit"] (spWF K) fW dW)
    (CB : Cal P w K mg base 4 "bounds_fault" ["lasts", "bounds", "limit"] (spBF K) fB dB) {tE tW tB : Tok} (gE : mg "MAX_EVENTS" = some (.int 200 tE)) (gW : mg "MAX_WORKS" = some (.int 60 tW)) (gB : mg "MAX_BOUNDS" = some (.int 400 tB)) :
    FnOk P w K mg base CX0 5 f fd ["lasts", "works", "bounds"] (spNF K) := by
  refine F.ok scNF (fun vs H Q E h => ?_) (fun cdv A outer s H vs Q E hr h => ?_)
  · obtain ⟨a, v, u, D, rfl, _⟩ := h
    rfl
  obtain ⟨a, v, u, D, rfl, td, tw, tb, ok, k⟩ := h
  refine ⟨_, pss_cons (ps_if (pt_not (pt_val (pe_cal (E := E0) CL hr rfl (pa_cons (pv 0) (pa_cons (pe_glob rfl gE (show RelV (.int 200) (.int 200 tE) from ⟨tE, rfl⟩)) pa_nil))))) dead pss_nil)
    (pss_cons (ps_set (i := 3) scNF.nd rfl (Or.inl rfl) (pe_cal (E := E0) CW hr rfl (pa_cons (pv 0) (pa_cons (pv 1) (pa_cons (pe_glob rfl gW (show RelV (.int 60) (.int 60 tW) from ⟨tW, rfl⟩)) pa_nil)))))
    (pss_cons (ps_if (pt_cmp (pc_isN (pv 3))) (pss_one (ps_set (i := 3) scNF.nd rfl (Or.inl rfl) (pe_cal (E := E0) CB hr rfl (pa_cons (pv 0) (pa_cons (pv 2) (pa_cons (pe_glob rfl gB (show RelV (.int 400) (.int 400 tB) from ⟨tB, rfl⟩)) pa_nil)))))) pss_nil)
    (pss_one (ps_ret (pv 3))))), ?_⟩
  refine ⟨_, rfl, a, 200, D.L, rfl, td, ok.l, by have := ok.l.len.2; omega, fun H1 s1 => ⟨_, rfl, iteF ⟨_, rfl, v, rfl, a, v, 60, D.L, D.W, rfl, td.same s1, tw.same s1, ok.w, by have := ok.w.len; omega, fun H2 s2 => ⟨_, rfl, _, rfl, ite1 (by simp) ?_⟩⟩⟩⟩
  have s12 := s1.trans s2
  exact ⟨_, rfl, u, rfl, a, u, 400, D.L, D.B, rfl, td.same s12, tb.same s12, ok.b, by have := ok.b.len; omega, fun H3 s3 => ⟨_, rfl, k _ (s12.trans s3)⟩⟩
end
end LW
namespace LW
open PySem PySem.Spec PyProof.Rows L2 DW
/-! ### the told rows -/
abbrev RwT := Str × Str × Int
def rwD (r : RwT) : PyData := .tuple [.str "bound", .str r.1, .str r.2.1, .int r.2.2]
abbrev RowP := (Str × Str) × RwT
abbrev mkR (k n f s : Str) (m : Int) : RowP := ((k, n), (f, s, m))
def told1 (B : Bs) : List RowP := B.map fun p => mkR "bound" p.1 p.2.1 p.2.2.1 p.2.2.2
def told2 (L : Ls) : List RowP := L.map fun p => mkR "last" p.1 "dawn" p.1 p.2
def told3 (L : Ls) : List RowP := L.map fun p => mkR "begin" p.1 p.1 "dawn" 0
def told4 (W : Ws) : List RowP := W.map fun p => mkR "most" p.1 p.2.1 p.2.2.1 p.2.2.2.2.1
def told5 (W : Ws) : List RowP := W.map fun p => mkR "least" p.1 p.2.2.1 p.2.1 (-p.2.2.2.1)
def toldR (D : PlainD) : List RowP := told1 D.B ++ (told2 D.L ++ (told3 D.L ++ (told4 D.W ++ told5 D.W)))
theorem nd_tag {α β : Type} {l : List (Str × α)} {w : Str} {f : Str × α → RowP} (hf : ∀ p, (f p).1 = (w, p.1)) (h : (l.map (·.1)).Nodup) : ((l.map f).map (·.1)).Nodup := by
  rw [List.map_map]
  have e : ((fun x : RowP => x.1) ∘ f) = (fun n : Str => (w, n)) ∘ (fun p : Str × α => p.1) := by
    funext p
    exact hf p
  rw [e, ← List.map_map]
  exact h.map (f := fun n : Str => (w, n)) (fun a b n z => n (Prod.mk.inj z).2)
theorem tag_of {α : Type} {l : List (Str × α)} {w : Str} {f : Str × α → RowP} (hf : ∀ p, (f p).1 = (w, p.1)) {k : Str × Str} (h : k ∈ (l.map f).map (·.1)) : k.1 = w := by
  rw [List.map_map] at h
  obtain ⟨p, _, e⟩ := List.mem_map.mp h
  rw [← e]
  show (f p).1.1 = w
  rw [hf]
theorem told_nodup {D : PlainD} (ok : OkN D) : ((toldR D).map (·.1)).Nodup := by
  unfold toldR
  simp only [List.map_append]
  have f1 : ∀ k ∈ (told1 D.B).map (·.1), k.1 = ("bound" : Str) := fun k h => tag_of (fun _ => rfl) h
  have f2 : ∀ k ∈ (told2 D.L).map (·.1), k.1 = ("last" : Str) := fun k h => tag_of (fun _ => rfl) h
  have f3 : ∀ k ∈ (told3 D.L).map (·.1), k.1 = ("begin" : Str) := fun k h => tag_of (fun _ => rfl) h
  have f4 : ∀ k ∈ (told4 D.W).map (·.1), k.1 = ("most" : Str) := fun k h => tag_of (fun _ => rfl) h
  have f5 : ∀ k ∈ (told5 D.W).map (·.1), k.1 = ("least" : Str) := fun k h => tag_of (fun _ => rfl) h
  refine List.nodup_append.mpr ⟨nd_tag (β := Unit) (fun _ => rfl) ok.b.nd, List.nodup_append.mpr ⟨nd_tag (β := Unit) (fun _ => rfl) ok.l.nd, List.nodup_append.mpr ⟨nd_tag (β := Unit) (fun _ => rfl) ok.l.nd, List.nodup_append.mpr ⟨nd_tag (β := Unit) (fun _ => rfl) ok.w.nd, nd_tag (β := Unit) (fun _ => rfl) ok.w.nd, ?_⟩, ?_⟩, ?_⟩, ?_⟩
  · intro a ha b hb e
    subst e
    have := (f4 a ha).symm.trans (f5 a hb)
    revert this
    decide
  · intro a ha b hb e
    subst e
    simp only [List.mem_append] at hb
    have e1 := f3 a ha
    rcases hb with hb | hb
    · have := e1.symm.trans (f4 a hb)
      revert this
      decide
    · have := e1.symm.trans (f5 a hb)
      revert this
      decide
  · intro a ha b hb e
    subst e
    simp only [List.mem_append] at hb
    have e1 := f2 a ha
    rcases hb with hb | hb | hb
    · have := e1.symm.trans (f3 a hb)
      revert this
      decide
    · have := e1.symm.trans (f4 a hb)
      revert this
      decide
    · have := e1.symm.trans (f5 a hb)
      revert this
      decide
  · intro a ha b hb e
    subst e
    simp only [List.mem_append] at hb
    have e1 := f1 a ha
    rcases hb with hb | hb | hb | hb
    · have := e1.symm.trans (f2 a hb)
      revert this
      decide
    · have := e1.symm.trans (f3 a hb)
      revert this
      decide
    · have := e1.symm.trans (f4 a hb)
      revert this
      decide
    · have := e1.symm.trans (f5 a hb)
      revert this
      decide
theorem app_at {α : Type} {A X C : List α} {i : Nat} {x : α} (h : X[i]? = some x) : (A ++ (X ++ C))[A.length + i]? = some x := by
  rw [List.getElem?_append_right (Nat.le_add_right _ _), Nat.add_sub_cancel_left, List.getElem?_append_left, h]
  rcases Nat.lt_or_ge i X.length with q | q
  · exact q
  · rw [List.getElem?_eq_none q] at h; cases h
theorem told_at1 {D : PlainD} {i : Nat} {p : Str × BdT} (h : D.B[i]? = some p) : (toldR D)[i]? = some (mkR "bound" p.1 p.2.1 p.2.2.1 p.2.2.2) := by
  have := app_at (A := []) (X := told1 D.B) (C := told2 D.L ++ (told3 D.L ++ (told4 D.W ++ told5 D.W))) (i := i) (x := mkR "bound" p.1 p.2.1 p.2.2.1 p.2.2.2) (by unfold told1; rw [List.getElem?_map, h]; rfl)
  simpa [toldR] using this
theorem told_at2 {D : PlainD} {i : Nat} {p : Str × Int} (h : D.L[i]? = some p) : (toldR D)[D.B.length + i]? = some (mkR "last" p.1 "dawn" p.1 p.2) := by
  have := app_at (A := told1 D.B) (X := told2 D.L) (C := told3 D.L ++ (told4 D.W ++ told5 D.W)) (i := i) (x := mkR "last" p.1 "dawn" p.1 p.2) (by unfold told2; rw [List.getElem?_map, h]; rfl)
  rw [show (told1 D.B).length = D.B.length by unfold told1; exact List.length_map _] at this
  exact this
theorem told_at3 {D : PlainD} {i : Nat} {p : Str × Int} (h : D.L[i]? = some p) : (toldR D)[D.B.length + D.L.length + i]? = some (mkR "begin" p.1 p.1 "dawn" 0) := by
  have := app_at (A := told1 D.B ++ told2 D.L) (X := told3 D.L) (C := told4 D.W ++ told5 D.W) (i := i) (x := mkR "begin" p.1 p.1 "dawn" 0) (by unfold told3; rw [List.getElem?_map, h]; rfl)
  rw [show (told1 D.B ++ told2 D.L).length = D.B.length + D.L.length by unfold told1 told2; rw [List.length_append, List.length_map, List.length_map], List.append_assoc] at this
  exact this
theorem told_at4 {D : PlainD} {i : Nat} {p : Str × WkT} (h : D.W[i]? = some p) : (toldR D)[D.B.length + D.L.length + D.L.length + i]? = some (mkR "most" p.1 p.2.1 p.2.2.1 p.2.2.2.2.1) := by
  have := app_at (A := told1 D.B ++ (told2 D.L ++ told3 D.L)) (X := told4 D.W) (C := told5 D.W) (i := i) (x := mkR "most" p.1 p.2.1 p.2.2.1 p.2.2.2.2.1) (by unfold told4; rw [List.getElem?_map, h]; rfl)
  rw [show (told1 D.B ++ (told2 D.L ++ told3 D.L)).length = D.B.length + D.L.length + D.L.length by unfold told1 told2 told3; simp only [List.length_append, List.length_map]; omega, List.append_assoc, List.append_assoc] at this
  exact this
theorem told_at5 {D : PlainD} {i : Nat} {p : Str × WkT} (h : D.W[i]? = some p) : (toldR D)[D.B.length + D.L.length + D.L.length + D.W.length + i]? = some (mkR "least" p.1 p.2.2.1 p.2.1 (-p.2.2.2.1)) := by
  have := app_at (A := told1 D.B ++ (told2 D.L ++ (told3 D.L ++ told4 D.W))) (X := told5 D.W) (C := []) (i := i) (x := mkR "least" p.1 p.2.2.1 p.2.1 (-p.2.2.2.1)) (by unfold told5; rw [List.getElem?_map, h]; rfl)
  rw [show (told1 D.B ++ (told2 D.L ++ (told3 D.L ++ told4 D.W))).length = D.B.length + D.L.length + D.L.length + D.W.length by unfold told1 told2 told3 told4; simp only [List.length_append, List.length_map]; omega, List.append_nil, List.append_assoc, List.append_assoc, List.append_assoc] at this
  exact this
theorem told_len {D : PlainD} : (toldR D).length = D.B.length + D.L.length + D.L.length + D.W.length + D.W.length := by
  unfold toldR told1 told2 told3 told4 told5
  simp only [List.length_append, List.length_map]
  omega
/-! ### .. in the heap -/
section
variable {K : PySem.W.Frag} {H H' : Hp} {d : Addr} {kt : List (List Key × V)} {rs : List RowP}
def TTv (K : PySem.W.Frag) (H : Hp) (v : V) (r : RwT) : Prop := ∃ t, v = .ref t ∧ SqT K H t [.str "bound", .str r.1, .str r.2.1, .int r.2.2]
def Ty (K : PySem.W.Frag) (H : Hp) (kt : List (List Key × V)) (rs : List RowP) : Prop := Paired (fun (q : List Key × V) (p : RowP) => q.1 = kP p.1.1 p.1.2 ∧ TTv K H q.2 p.2) kt rs
def TT (K : PySem.W.Frag) (H : Hp) (d : Addr) (rs : List RowP) : Prop := ∃ kt, H d = some (.dT kt) ∧ Ty K H kt rs
/-- tuples stay -/
def Tk (H H' : Hp) : Prop := ∀ t xs, Rd H t (.tup xs) → Rd H' t (.tup xs)
theorem Tk.of (s : Same H H') : Tk H H' := fun t xs h => Wk.of s t _ h
theorem Tk.wk (s : Wk H H') : Tk H H' := fun t xs h => s t _ h
theorem Tk.trans {H2 : Hp} (a : Tk H H') (b : Tk H' H2) : Tk H H2 := fun t xs h => b t xs (a t xs h)
theorem Tk.put {o : HO} (h : H d = some (.dT kt)) : Tk H (upd H d o) := fun t xs r => by
  have n : t ≠ d := fun e => by
    subst e
    rcases r with r | ⟨z, r⟩ <;> rw [h] at r <;> cases r
  unfold Rd
  rw [upd_ne n]
  exact r
theorem TTv.tk {v : V} {r : RwT} (s : Tk H H') (h : TTv K H v r) : TTv K H' v r := by
  obtain ⟨t, rfl, q⟩ := h
  exact ⟨t, rfl, q.elim (fun q => .inl (s _ _ q)) .inr⟩
theorem Ty.tk (s : Tk H H') (h : Ty K H kt rs) : Ty K H' kt rs := pairedMono (fun _ _ z => ⟨z.1, z.2.tk s⟩) h
theorem TT.same (s : Same H H') (h : TT K H d rs) : TT K H' d rs := by
  obtain ⟨kt, e, y⟩ := h
  exact ⟨kt, s _ _ e, y.tk (Tk.of s)⟩
theorem kP_inj {a b x y : Str} (h : kP a b = kP x y) : (a, b) = (x, y) := by
  have h1 := (List.cons.inj h).1
  have h2 := (List.cons.inj (List.cons.inj h).2).1
  rw [Sum.inr.inj h1, Sum.inr.inj h2]
theorem Ty.none (h : Ty K H kt rs) {a b : Str} (n : (a, b) ∉ rs.map (·.1)) : valV kt (kP a b) = none := by
  induction h with
  | nil => rfl
  | cons q t ih =>
    rename_i p r l l'
    rw [List.map_cons, List.mem_cons, not_or] at n
    rw [valV_neg (fun e => n.1 (kP_inj (e.symm.trans q.1)))]
    exact ih n.2
theorem Ty.get (h : Ty K H kt rs) (nd : (rs.map (·.1)).Nodup) {a b : Str} {r : RwT} (m : ((a, b), r) ∈ rs) : ∃ v, valV kt (kP a b) = some v ∧ TTv K H v r := by
  induction h with
  | nil => cases m
  | cons q t ih =>
    rename_i p s l l'
    rw [List.map_cons, List.nodup_cons] at nd
    rcases List.mem_cons.mp m with e | m
    · subst e
      exact ⟨_, valV_pos q.1, q.2⟩
    · rw [valV_neg]
      · exact ih nd.2 m
      · intro e
        have e2 := kP_inj (e.symm.trans q.1)
        exact nd.1 (List.mem_map.mpr ⟨_, m, e2⟩)
theorem Ty.put (h : Ty K H kt rs) {a b : Str} {r : RwT} {v : V} (n : (a, b) ∉ rs.map (·.1)) (hv : TTv K H v r) : Ty K H (putK kt (kP a b) v) (rs ++ [((a, b), r)]) := by
  have no : (kt.any fun kv => decide (kv.1 = kP a b)) = false := by rw [valV_any, h.none n]; rfl
  unfold putK
  rw [no]
  have : ∀ {ks : List (List Key × V)} {qs : List RowP}, Ty K H ks qs → Ty K H (ks ++ [(kP a b, v)]) (qs ++ [((a, b), r)]) := by
    intro ks qs t
    induction t with
    | nil => exact .cons ⟨rfl, hv⟩ .nil
    | cons q t ih => exact .cons q ih
  exact this h
/-- one row more -/
theorem Ty.next {a b : Str} {r : RwT} {v : V} {j : Nat} (nd : (rs.map (·.1)).Nodup) (e : rs[j]? = some ((a, b), r)) (h : Ty K H kt (rs.take j)) (hv : TTv K H v r) : Ty K H (putK kt (kP a b) v) (rs.take (j + 1)) := by
  have hE : (rs.take (j + 1)).map (·.1) = (rs.take j).map (·.1) ++ [(a, b)] := take_succ_map e
  rw [List.take_add_one, e]
  refine h.put (fun m => ?_) hv
  have := (List.Sublist.map (·.1) (List.take_sublist (j + 1) rs)).nodup nd
  rw [hE] at this
  exact (List.nodup_append.mp this).2.2 _ m _ (List.mem_singleton.mpr rfl) rfl
theorem TT.nil (h : H d = some (.dT [])) : TT K H d [] := ⟨[], h, .nil⟩
theorem TT.step {a b : Str} {r : RwT} {v : V} {j : Nat} (nd : (rs.map (·.1)).Nodup) (e : rs[j]? = some ((a, b), r)) (h : H d = some (.dT kt)) (y : Ty K H kt (rs.take j)) (hv : TTv K H v r) : TT K (upd H d (.dT (putK kt (kP a b) v))) d (rs.take (j + 1)) :=
  ⟨_, upd_same, (Ty.next nd e y hv).tk (Tk.put h)⟩
theorem Tk.unlock {a : Addr} {od : Obj} {ka : List (Key × V)} (h : H a = some (.frz od (.dK ka))) : Tk H (upd H a (.dK ka)) := fun t xs r => by
  have n : t ≠ a := fun e => by
    subst e
    rcases r with r | ⟨z, r⟩ <;> rw [h] at r <;> cases r
  unfold Rd
  rw [upd_ne n]
  exact r
/-- a dict is locked -/
theorem told_in {Hx : Hp} {a : Addr} {od : Obj} {ka : List (Key × V)} (s : Same H Hx) (ha : H a = some (.dK ka)) (n : H d = none) (t : TT K Hx d rs) : Same (upd H a (.frz od (.dK ka))) (upd Hx a (.frz od (.dK ka))) ∧ TT K (upd Hx a (.frz od (.dK ka))) d rs := by
  have ad : d ≠ a := (ne_of_none ha n).symm
  refine ⟨fun c o e => ?_, ?_⟩
  · by_cases ca : c = a
    · subst ca
      rw [upd_same] at e ⊢
      exact e
    · rw [upd_ne ca] at e ⊢
      exact s _ _ e
  · obtain ⟨kt, h1, h2⟩ := t
    exact ⟨kt, by rw [upd_ne ad]; exact h1, h2.tk (Tk.wk (Wk.lock (s _ _ ha) (fun _ _ z => nomatch z)))⟩
/-- .. and unlocked -/
theorem told_out {a : Addr} {od : Obj} {ka : List (Key × V)} (s : Same (upd H a (.frz od (.dK ka))) H') (ha : H a = some (.dK ka)) (n : H d = none) (t : TT K H' d rs) : H' a = some (.frz od (.dK ka)) ∧ Same H (upd H' a (.dK ka)) ∧ TT K (upd H' a (.dK ka)) d rs := by
  have ad : d ≠ a := (ne_of_none ha n).symm
  obtain ⟨z1, z2⟩ := unlock ha s
  refine ⟨z1, z2, ?_⟩
  obtain ⟨kt, h1, h2⟩ := t
  exact ⟨kt, by rw [upd_ne ad]; exact h1, h2.tk (Tk.unlock z1)⟩
end
end LW
namespace DW
open PySem PySem.Spec PyProof.Rows L2
/-! ### name = {..: .. for ..} on one line, the name a local -/
section
variable {X : Cx}
theorem dcT_core {pins : List (Addr × Obj)} {s : Shared} {σ : L2.St} {H : Hp} {Q : VK} {kx vx tg iter : Expr} {ifs : List Expr} {scope : Scope} {own : List (Str × Nat)} {pos pos' : Pos} {wi : TI} {g : TG} {tt : TT} {tk tv : TE} {use : Option (Value → Sem Unit)} {Qf : Value → Shared → Prop}
    (hu : X.A.units + 1 < cLine) (hc : X.calm = true) (hN : X.N.Nodup) (I : Inv X pins σ H s) (hi : PI X tg iter wi) (ok : BlkOk X.N X.env.scope scope own)
    (hg : ∀ (s : Shared) (H : Hp) (C : Addr) (cl : List (Str × Addr)) (fp : List Addr), PG (X.blk s H scope (compEnvC scope cl C X.env) fp) tg g) (ht : ∀ (s : Shared) (H : Hp) (C : Addr) (cl : List (Str × Addr)) (fp : List Addr), PTs (X.blk s H scope (compEnvC scope cl C X.env) fp) ifs tt)
    (hk : ∀ (s : Shared) (H : Hp) (C : Addr) (cl : List (Str × Addr)) (fp : List Addr), PE (X.blk s H scope (compEnvC scope cl C X.env) fp) kx tk) (he : ∀ (s : Shared) (H : Hp) (C : Addr) (cl : List (Str × Addr)) (fp : List Addr), PE (X.blk s H scope (compEnvC scope cl C X.env) fp) vx tv)
    (plain : ∀ x, foldedSetIterable iter X.env x = pure x)
    (h : tDcT wi g tt tk tv (own.map (·.2)) σ H Q)
    (hRR : ∀ D C s' m H', Inv X pins σ H' s' → Q (.ref D) H' → s'.heap.Ns C m → FpOk X pins H' C → compPost (model X.prog X.w) X.A X.xe use Qf (.ref D) C (.ok .next) s') :
    wpAny (model X.prog X.w) X.A (comprehension (.DictComp kx vx [⟨tg, iter, ifs, 0⟩] scope pos) scope X.env pos' newDict false (eval iter X.env) use) Qf X.xe s := by
  have frees : ∀ y ∈ scope.names, y.2 = .free → ∃ c, X.env.cells.lookup y.1 = some c := fun y hy e => by
    rcases ok.free y hy e with k | k
    · exact I.ok.has _ (.inl k)
    · exact I.ok.has _ (.inr k)
  refine wpAny_comprehension_free (use := use) rfl plain (closure_ok frees) ok.kind (fun y hy e => by rw [ok.uniq y hy, e]) (thn (hi.run pins s σ H _ I h) fun src sa first => thn first fun itv sb z => ?_)
  obtain ⟨it, fp, tn, J, Hb, rfl, Ib, Tn, at0, apart, want⟩ := z
  refine wpAny_newObj_type (newEnv_comp ?_)
  -- D: the new dict's address
  obtain ⟨D, eD⟩ : ∃ D, sb.heap.objs.size = D := ⟨_, rfl⟩
  rw [eD]
  have freeD : Hb D = none := Ib.hok.fresh (Nat.le_of_eq eD)
  obtain ⟨W, ⟨m0, w0⟩, turn⟩ := want D freeD
  obtain ⟨sc, esc⟩ : ∃ sc : Shared, ({ sb with heap := sb.heap.push { cls := .type "dict", data := .dict #[] } } : Shared) = sc := ⟨_, rfl⟩
  have Ic : Inv X pins σ (upd Hb D (.dT [])) sc := by
    rw [← esc]
    refine Ib.laid (t' := sb.toks) (fun b o e => Heap.get?_push_of_some _ e) (Nat.le_of_eq eD) ?_
    rw [← eD]
    exact dt_empty sb.heap Ib.big
  have esh : sc.heap = sb.heap.push { cls := .type "dict", data := .dict #[] } := by rw [← esc]
  have low : ∀ b ∈ fp, b < sb.heap.objs.size := fun b hb => by
    obtain ⟨o, e, _⟩ := Tn.obj _ _ at0 b hb
    exact Heap.lt_size e
  have apartC : ∀ b ∈ fp, FpOk X pins (upd Hb D (.dT [])) b ∧ b < sc.heap.objs.size := fun b hb => by
    have lt := low b hb
    refine ⟨⟨?_, (apart b hb).2⟩, by rw [esh, Heap.size_push]; exact Nat.lt_succ_of_lt lt⟩
    rw [upd_ne (by rw [← eD]; exact Nat.ne_of_lt lt)]
    exact (apart b hb).1
  have atC : tn 0 sc.heap := Tn.keep _ _ _ at0 fun b _ o e => by rw [esh]; exact Heap.get?_push_of_some _ e
  have Id := block_start Ic ok hN apartC
  have pg := hg sc (upd Hb D (.dT [])) sc.heap.objs.size (cellsFrom (sc.heap.objs.size + 1) scope.names (cloFrom X.env.cells scope.names [])) fp
  have pt := ht sc (upd Hb D (.dT [])) sc.heap.objs.size (cellsFrom (sc.heap.objs.size + 1) scope.names (cloFrom X.env.cells scope.names [])) fp
  have pk := hk sc (upd Hb D (.dT [])) sc.heap.objs.size (cellsFrom (sc.heap.objs.size + 1) scope.names (cloFrom X.env.cells scope.names [])) fp
  have pw := he sc (upd Hb D (.dT [])) sc.heap.objs.size (cellsFrom (sc.heap.objs.size + 1) scope.names (cloFrom X.env.cells scope.names [])) fp
  rw [show ({ sb with heap := sb.heap.push { cls := .type "dict", data := .dict #[] } } : Shared) = sc from esc]
  have nofp : ∀ b ∈ fp, (upd Hb D (.dT [])) b = none := fun b hb => (apartC b hb).1.1
  show codeAny _ _ (.compStart (.DictComp kx vx [⟨tg, iter, ifs, 0⟩] scope pos) 0 (.ref it) (.ref D) (compEnvC scope (cellsFrom (sc.heap.objs.size + 1) scope.names (cloFrom X.env.cells scope.names [])) sc.heap.objs.size X.env)) (compPost (model X.prog X.w) X.A X.xe use Qf (.ref D) sc.heap.objs.size) { sc with heap := pushCells (sc.heap.push { cls := .type "dict", data := .dict #[] }) scope.names }
  generalize ece : compEnvC scope (cellsFrom (sc.heap.objs.size + 1) scope.names (cloFrom X.env.cells scope.names [])) sc.heap.objs.size X.env = ce at Id pg pt pk pw ⊢
  have locs : ce.locals = sc.heap.objs.size := by subst ece; rfl
  generalize eHc : upd Hb D (.dT []) = Hc at Ic Id pg pt pk pw w0 nofp apartC
  obtain ⟨sd, esd⟩ : ∃ sd : Shared, ({ sc with heap := pushCells (sc.heap.push { cls := .type "dict", data := .dict #[] }) scope.names } : Shared) = sd := ⟨_, rfl⟩
  rw [esd] at Id ⊢
  have atD : tn 0 sd.heap := Tn.keep _ _ _ atC fun b _ o e => by rw [← esd]; exact pushCells_keeps _ _ _ _ (Heap.get?_push_of_some _ e)
  have still : ∀ {σ' : L2.St} {H' : Hp} {s' : Shared}, Inv (X.blk sc Hc scope ce fp) [] σ' H' s' → (∀ b ∈ fp, H' b = none) → ∀ b ∈ fp, FpOk (X.blk sc Hc scope ce fp) [] H' b := fun {σ' H' s'} J' n b hb =>
    ⟨n b hb, (J'.ok.exf b hb).1, J'.ok.exfs b hb, .inl hb, fun x c e => (J'.ok.exf b hb).2 x c e, fun p hp => absurd (show p ∈ ([] : List (Addr × Obj)) ++ [] from hp) (by simp)⟩
  have loop : codeAny (model X.prog X.w) X.A (.compLoop (.DictComp kx vx [⟨tg, iter, ifs, 0⟩] scope pos) 0 (.ref it) (.ref D) ce) (compPost (model X.prog X.w) X.A X.xe use Qf (.ref D) sc.heap.objs.size) sd := by
    refine compLoop_anyD (fun n s' => ∃ i H', Inv (X.blk sc Hc scope ce fp) [] (wipe σ (own.map (·.2))) H' s' ∧ tn i s'.heap ∧ (∀ b ∈ fp, H' b = none) ∧ W i n H') ?_ m0 ⟨0, Hc, Id, atD, nofp, w0⟩
    rintro n se ⟨i, He, Ie, atE, nE, wE⟩
    rcases turn i n He wE with ⟨stop, fin⟩ | ⟨go, Nx, less, step⟩
    · refine thnF (Tn.done (X.blk sc Hc scope ce fp) rfl rfl rfl hc i [] se _ He (fun _ _ => False) Ie (still Ie nE) atE stop) fun r sf z => ?_
      obtain ⟨rfl, If⟩ := z
      have Ig : Inv X pins σ He sf := Ic.call' (ch := fp) If.os If.base If.hok If.bare fun b hb => ⟨(apartC b hb).1.2.2.2.1, (apartC b hb).1.2.1, (apartC b hb).1.2.2.2.2.1, (apartC b hb).1.2.2.2.2.2⟩
      have freeC : He sc.heap.objs.size = none := by
        have z : He ce.locals = none := If.free
        rw [locs] at z
        exact z
      obtain ⟨m, ns, _⟩ := If.loc
      have ns : sf.heap.Ns ce.locals m := ns
      rw [locs] at ns
      exact hRR D _ sf m He Ig fin ns (Ic.fpOk (H' := He) (Nat.le_refl _) freeC)
    · refine thnF (Tn.item (X.blk sc Hc scope ce fp) rfl rfl rfl hc i [] se _ He (fun _ _ => False) Ie (still Ie nE) atE go) fun r sf z => ?_
      obtain ⟨u, rfl, next⟩ := z
      refine thnF next fun _ sg z => ?_
      obtain ⟨x, Hg, Ig, rg, yg, atG, nG⟩ := z
      have Ih := Ig.pinned (still Ig nG) (Tn.obj _ _ atG)
      refine thnF (pg.run _ sg _ Hg x u _ Ih rg (step x Hg yg)) fun _ si z => ?_
      obtain ⟨σi, Hi, Ii, wi', qi⟩ := z
      refine thnF (pt.run _ si σi Hi _ Ii qi) fun b sj z => ?_
      obtain ⟨Hj, Ij, qj⟩ := z
      have fin : ∀ {s' : Shared} {H' : Hp}, Inv (X.blk sc Hc scope ce fp) ([] ++ pinsAt fp sg.heap) σi H' s' → Nx H' → ∃ m, m < n ∧ ∃ i H', Inv (X.blk sc Hc scope ce fp) [] (wipe σ (own.map (·.2))) H' s' ∧ tn i s'.heap ∧ (∀ b ∈ fp, H' b = none) ∧ W i m H' := fun {s' H'} J' nx => by
        obtain ⟨m', lt, w'⟩ := less H' nx
        have pinned : ∀ b ∈ fp, ∀ o, sg.heap.get? b = some o → s'.heap.get? b = some o ∧ H' b = none := fun b hb o e =>
          let z := J'.pin (b, o) (List.mem_append_right _ (List.mem_append_right _ (mem_pinsAt hb e)))
          ⟨z.1, z.2.1⟩
        have len : (wipe σ (own.map (·.2))).length = σi.length := by rw [← wi', wipe_length]
        refine ⟨m', lt, i + 1, H', (J'.unpinned (pins := [])).weak len (fun j v e => ?_), Tn.keep _ _ _ atG fun b hb o e => (pinned b hb o e).1, fun b hb => ?_, w'⟩
        · rw [← wi'] at e
          exact (wipe_some e).1
        · obtain ⟨o, e, _⟩ := Tn.obj _ _ atG b hb
          exact (pinned b hb o e).2
      cases b with
      | false => exact fin Ij qj
      | true =>
        refine thnF (pk.run _ sj σi Hj _ Ij qj) fun z1 sk z => ?_
        obtain ⟨yk, Hk, Ik, rk, qk⟩ := z
        refine thnF (pw.run _ sk σi Hk _ Ik qk) fun z2 sl z => ?_
        obtain ⟨yv, Hl, Il, rl, kvs, k, c, rfl, atKey, atDict, room, nx⟩ := z
        cases (show z1 = Value.ref c from rk)
        exact dt_dictSet (X := X.blk sc Hc scope ce fp) hu Il atDict atKey room rl fun sm Im => fin Im nx
  exact codeAny_compStart_dict loop (Tn.self X.A 0 _ _ _ atD loop)
theorem ps_setDcT {i : Nat} {y : Str} {py : Pos} {kx vx tg iter : Expr} {ifs : List Expr} {scope : Scope} {own : List (Str × Nat)} {pos spos : Pos} {wi : TI} {g : TG} {tt : TT} {tk tv : TE} (hu : X.A.units + 1 < cLine) (hc : X.calm = true) (hN : X.N.Nodup) (hy : X.N[i]? = some y) (hyl : X.env.scope.names.lookup y = some .local)
    (hsw : swapsWith (.DictComp kx vx [⟨tg, iter, ifs, 0⟩] scope pos) (some (.Name y py)) spos.line X.env = pure true) (hi : PI X tg iter wi) (ok : BlkOk X.N X.env.scope scope own)
    (hg : ∀ (s : Shared) (H : Hp) (C : Addr) (cl : List (Str × Addr)) (fp : List Addr), PG (X.blk s H scope (compEnvC scope cl C X.env) fp) tg g) (ht : ∀ (s : Shared) (H : Hp) (C : Addr) (cl : List (Str × Addr)) (fp : List Addr), PTs (X.blk s H scope (compEnvC scope cl C X.env) fp) ifs tt)
    (hk : ∀ (s : Shared) (H : Hp) (C : Addr) (cl : List (Str × Addr)) (fp : List Addr), PE (X.blk s H scope (compEnvC scope cl C X.env) fp) kx tk) (he : ∀ (s : Shared) (H : Hp) (C : Addr) (cl : List (Str × Addr)) (fp : List Addr), PE (X.blk s H scope (compEnvC scope cl C X.env) fp) vx tv)
    (hs : ∀ x, foldedSetIterable iter X.env x = pure x := by intro _; rfl) :
    PS X (.Assign [.Name y py] (.DictComp kx vx [⟨tg, iter, ifs, 0⟩] scope pos) spos) (tAsg (tDcT wi g tt tk tv (own.map (·.2))) (gName i)) := by
  refine ⟨fun pins s σ H D I h => ?_⟩
  rw [exec_Assign_Name_used _ _ _ _ hsw]
  refine wpAny_bind (wpAny_standAt (wpAny_bind ?_))
  show wpAny _ X.A (do let _ ← comprehension (.DictComp kx vx [⟨tg, iter, ifs, 0⟩] scope pos) scope X.env (firstIterPos [⟨tg, iter, ifs, 0⟩] pos) newDict false (eval iter X.env) (some (assign (.Name y py) X.env))) _ _ s
  have h : tDcT wi g tt tk tv (own.map (·.2)) σ H (fun x H1 => gName i x σ H1 D.nx) := h
  refine wpAny_bind (thn (dcT_core (Qf := fun _ s' => SP X pins D .next s') hu hc hN I hi ok hg ht hk he hs h fun L C s' m H' I' q hn f => ?_) fun _ s' hq => wpAny_pure (wpAny_pure hq))
  show wpAny _ _ (assign (.Name y py) X.env (.ref L)) _ _ _
  refine wpAny_assign_Name (store_ok2 (v := V.ref L) I' hN hy (.inl hyl) rfl (fun s2 I2 ⟨a, sb, ha⟩ => ?_) (.inr hyl))
  obtain ⟨f0, f1, f2, f3, f4, f5⟩ := f
  have haC : C ≠ a := by
    rcases ha with z | z
    · rw [z]; exact f1
    · exact fun e => f4 y a z e.symm
  refine ⟨m, hn.sameBut sb haC, fun h3 sb3 => ?_⟩
  exact ⟨_, H', I2.turned (t' := s2.toks) (fun b o hb e => (sb3.2 b hb).trans e) f0 f1 f3 f4 f5, q⟩
theorem ps_setDc {i : Nat} {y : Str} {py : Pos} {kx vx tg iter : Expr} {ifs : List Expr} {scope : Scope} {own : List (Str × Nat)} {pos spos : Pos} {wi : TI} {g : TG} {tt : TT} {tk tv : TE} (hc : X.calm = true) (hN : X.N.Nodup) (hy : X.N[i]? = some y) (hyl : X.env.scope.names.lookup y = some .local)
    (hsw : swapsWith (.DictComp kx vx [⟨tg, iter, ifs, 0⟩] scope pos) (some (.Name y py)) spos.line X.env = pure true) (hi : PI X tg iter wi) (ok : BlkOk X.N X.env.scope scope own)
    (hg : ∀ (s : Shared) (H : Hp) (C : Addr) (cl : List (Str × Addr)) (fp : List Addr), PG (X.blk s H scope (compEnvC scope cl C X.env) fp) tg g) (ht : ∀ (s : Shared) (H : Hp) (C : Addr) (cl : List (Str × Addr)) (fp : List Addr), PTs (X.blk s H scope (compEnvC scope cl C X.env) fp) ifs tt)
    (hk : ∀ (s : Shared) (H : Hp) (C : Addr) (cl : List (Str × Addr)) (fp : List Addr), PE (X.blk s H scope (compEnvC scope cl C X.env) fp) kx tk) (he : ∀ (s : Shared) (H : Hp) (C : Addr) (cl : List (Str × Addr)) (fp : List Addr), PE (X.blk s H scope (compEnvC scope cl C X.env) fp) vx tv)
    (hs : ∀ x, foldedSetIterable iter X.env x = pure x := by intro _; rfl) :
    PS X (.Assign [.Name y py] (.DictComp kx vx [⟨tg, iter, ifs, 0⟩] scope pos) spos) (tAsg (tDc wi g tt tk tv (own.map (·.2))) (gName i)) := by
  refine ⟨fun pins s σ H D I h => ?_⟩
  rw [exec_Assign_Name_used _ _ _ _ hsw]
  refine wpAny_bind (wpAny_standAt (wpAny_bind ?_))
  show wpAny _ X.A (do let _ ← comprehension (.DictComp kx vx [⟨tg, iter, ifs, 0⟩] scope pos) scope X.env (firstIterPos [⟨tg, iter, ifs, 0⟩] pos) newDict false (eval iter X.env) (some (assign (.Name y py) X.env))) _ _ s
  have h : tDc wi g tt tk tv (own.map (·.2)) σ H (fun x H1 => gName i x σ H1 D.nx) := h
  refine wpAny_bind (thn (dc_core (Qf := fun _ s' => SP X pins D .next s') hc hN I hi ok hg ht hk he hs h fun L C s' m H' I' q hn f => ?_) fun _ s' hq => wpAny_pure (wpAny_pure hq))
  show wpAny _ _ (assign (.Name y py) X.env (.ref L)) _ _ _
  refine wpAny_assign_Name (store_ok2 (v := V.ref L) I' hN hy (.inl hyl) rfl (fun s2 I2 ⟨a, sb, ha⟩ => ?_) (.inr hyl))
  obtain ⟨f0, f1, f2, f3, f4, f5⟩ := f
  have haC : C ≠ a := by
    rcases ha with z | z
    · rw [z]; exact f1
    · exact fun e => f4 y a z e.symm
  refine ⟨m, hn.sameBut sb haC, fun h3 sb3 => ?_⟩
  exact ⟨_, H', I2.turned (t' := s2.toks) (fun b o hb e => (sb3.2 b hb).trans e) f0 f1 f3 f4 f5, q⟩
theorem sw_trueD {kx vx : Expr} {gs : List Comprehension} {scope : Scope} {pos py : Pos} {y : Str} {l : Nat} {env : Env} (hk : env.scope.kind = .function) (hy : env.scope.names.lookup y = some .local) (hl : (py.line == pos.line) = true)
    (ha : (scope.names.any fun (n, k) => n == y && (k == .local || k == .cell)) = false) : swapsWith (.DictComp kx vx gs scope pos) (some (.Name y py)) l env = pure true := by
  have ky : env.kindOf y = some .local := hy
  have hb : env.blockKind = .function := by unfold Env.blockKind; rw [hk]; rfl
  unfold swapsWith
  simp only [hb, ky, ha, Expr.pos, hl]
  rfl
end
end DW
namespace LW
open PySem PySem.Spec PyProof.Rows L2 DW
section
variable {P : Program} {w : World} {K : PySem.W.Frag} {mg : Str → Option Value} {base : Heap}
theorem pe_tupS {X : Cx} {e : Expr} {te : TE} {z : Str} {k kk : Nat} {p1 p2 pos : Pos} (he : PE X e te) : PE X (.Tuple [.Constant (.str z) k p1, .Starred e p2] kk pos) (tTup (tCons (tC (.str z)) (StX.tStar X.K te tNil))) := pe_tup (pa_cons pe_str (StX.pa_star he pa_nil))
theorem scTold : FnScope ["lasts", "works", "bounds", "name", "rows", "event", "begin", "end", "_", "most", "least"] ["lasts", "works", "bounds"] (defScope s_u_told_rows) := ⟨rfl, rfl, rfl, by decide +kernel, rfl, by decide +kernel, by decide +kernel⟩
def spTold (K : PySem.W.Frag) : Sp := fun vs H Q _ => ∃ (a b c : Addr) (D : PlainD), vs = [.ref a, .ref b, .ref c] ∧ TD inD K H a D.L ∧ TD wkD K H b D.W ∧ TD bdD K H c D.B ∧ OkN D ∧ ∀ d H', Same H H' → H d = none → TT K H' d (toldR D) → Q (.ref d) H'
theorem ok_told {f : Addr} {fd : FuncData} (F : Fun K "_told_rows" "_told_rows" s_u_told_rows f fd) {tW : Tok} (gW : mg "DAWN" = some (.str "dawn" tW)) : FnOk P w K mg base CX0 1 f fd ["lasts", "works", "bounds"] (spTold K) := by
  refine F.ok scTold (fun vs H Q E h => ?_) (fun cdv A outer s H vs Q E hr h => ?_)
  · obtain ⟨a, b, c, D, rfl, _⟩ := h
    rfl
  obtain ⟨a, b, c, D, rfl, ta, tb, tc, ok, k⟩ := h
  have pd : ∀ {pos}, PE (cxOf CX0 P w K mg base ["lasts", "works", "bounds", "name", "rows", "event", "begin", "end", "_", "most", "least"] "_told_rows" (defScope s_u_told_rows) f cdv A outer s H E).nox (.Name "DAWN" pos) (tC (.str "dawn")) := pe_glob rfl gW ⟨tW, rfl⟩
  refine ⟨_, pss_cons (ps_lock (ps_setDcT (i := 4) (tv := tTup (tCons (tC (.str "bound")) (StX.tStar K (tDGet (tVar 2) (tVar 3)) tNil))) (own := [("name", 3)]) (g := gName 3) (tt := tYes) (hu_of hr) rfl scTold.nd rfl rfl (sw_trueD rfl rfl rfl (by decide +kernel)) (pi_keys (pv 2)) (blkOk_by (own := [("name", 3)]) (N := ["lasts", "works", "bounds", "name", "rows", "event", "begin", "end", "_", "most", "least"]) (sc := defScope s_u_told_rows) (by decide +kernel))
        (fun _ _ _ _ _ => pg_name (i := 3) scTold.nd rfl (Or.inl rfl)) (fun _ _ _ _ _ => pts_nil) (fun _ _ _ _ _ => pe_tup (pa_cons pe_str (pa_cons (pv 3) pa_nil))) (fun _ _ _ _ _ => pe_tupS (pe_dget (hu_of hr) (pv 2) (pv 3) (fun _ _ => rfl)))))
    (pss_cons (ps_lock (ps_for PassesOwn.never rfl (pi_keys (pv 0)) (pg_name (i := 5) scTold.nd rfl (.inl rfl))
      (pss_one (ps_dput (hu_of hr) (pv 4) (pe_tup (pa_cons pe_str (pa_cons (pv 5) pa_nil))) (pe_tup (pa_cons pe_str (pa_cons pd (pa_cons (pv 5) (pa_cons (pe_dget (hu_of hr) (pv 0) (pv 5) (fun _ _ => rfl)) pa_nil))))) rfl))))
    (pss_cons (ps_lock (ps_for PassesOwn.never rfl (pi_keys (pv 0)) (pg_name (i := 5) scTold.nd rfl (.inl rfl))
      (pss_one (ps_dput (hu_of hr) (pv 4) (pe_tup (pa_cons pe_str (pa_cons (pv 5) pa_nil))) (pe_tup (pa_cons pe_str (pa_cons (pv 5) (pa_cons pd (pa_cons pe_int pa_nil))))) rfl))))
    (pss_cons (ps_lock (ps_for PassesOwn.never rfl (pi_keys (pv 1)) (pg_name (i := 3) scTold.nd rfl (.inl rfl))
      (pss_cons (ps_asg (pe_dget (hu_of hr) (pv 1) (pv 3) (fun _ _ => rfl)) (pg_tup rfl (pgs_cons (pg_name (i := 6) scTold.nd rfl (Or.inl rfl)) (pgs_cons (pg_name (i := 7) scTold.nd rfl (Or.inl rfl)) (pgs_cons (pg_name (i := 8) scTold.nd rfl (Or.inl rfl)) (pgs_cons (pg_name (i := 9) scTold.nd rfl (Or.inl rfl)) (pgs_cons (pg_name (i := 8) scTold.nd rfl (Or.inl rfl)) pgs_nil)))))))
      (pss_one (ps_dput (hu_of hr) (pv 4) (pe_tup (pa_cons pe_str (pa_cons (pv 3) pa_nil))) (pe_tup (pa_cons pe_str (pa_cons (pv 6) (pa_cons (pv 7) (pa_cons (pv 9) pa_nil))))) rfl)))))
    (pss_cons (ps_lock (ps_for PassesOwn.never rfl (pi_keys (pv 1)) (pg_name (i := 3) scTold.nd rfl (.inl rfl))
      (pss_cons (ps_asg (pe_dget (hu_of hr) (pv 1) (pv 3) (fun _ _ => rfl)) (pg_tup rfl (pgs_cons (pg_name (i := 6) scTold.nd rfl (Or.inl rfl)) (pgs_cons (pg_name (i := 7) scTold.nd rfl (Or.inl rfl)) (pgs_cons (pg_name (i := 10) scTold.nd rfl (Or.inl rfl)) (pgs_cons (pg_name (i := 8) scTold.nd rfl (Or.inl rfl)) (pgs_cons (pg_name (i := 8) scTold.nd rfl (Or.inl rfl)) pgs_nil)))))))
      (pss_one (ps_dput (hu_of hr) (pv 4) (pe_tup (pa_cons pe_str (pa_cons (pv 3) pa_nil))) (pe_tup (pa_cons pe_str (pa_cons (pv 7) (pa_cons (pv 6) (pa_cons (pe_un un_neg (pv 10)) pa_nil))))) rfl)))))
    (pss_one (ps_ret (pv 4))))))), ?_⟩
  obtain ⟨ka, ha, txa⟩ := ta
  obtain ⟨kb, hb, txb⟩ := tb
  obtain ⟨kc, hc, txc⟩ := tc
  have la : ka.length = D.L.length := Paired.length txa
  have lb : kb.length = D.W.length := Paired.length txb
  have lc : kc.length = D.B.length := Paired.length txc
  have n1 := ok.l.len.2
  have n2 := ok.w.len
  have n3 := ok.b.len
  have nd := told_nodup ok
  have small : ∀ {j : Nat} {H : Hp} {kt : List (List Key × V)}, Ty K H kt ((toldR D).take j) → kt.length < sizeLine := fun {j H kt} y => by
    have h1 : kt.length = ((toldR D).take j).length := Paired.length y
    have h2 : ((toldR D).take j).length ≤ (toldR D).length := by rw [List.length_take]; exact Nat.min_le_right _ _
    have h3 := told_len (D := D)
    rw [sizeLine_eq]
    omega
  refine ⟨c, _, hc, mut_dK, fun od => ⟨_, rfl, c, od, rfl, .inl ⟨kc, upd_same, fun d hd => dcT_it (walk_keys (kvs := kc)) (fun i H' => Same (upd H c (.frz od (.dK kc))) H' ∧ TT K H' d ((toldR D).take i)) ⟨same_new hd, TT.nil upd_same⟩ (fun i H' _ q => q.1 _ _ upd_same) (fun i x H1 H2 hi q y => ?_) (fun H' q => ?_)⟩⟩⟩
  · obtain ⟨rfl, key, v, hk, rfl⟩ := y
    obtain ⟨p, hp, e, dv⟩ := txc.at hk
    have e : key = .inr p.1 := e
    subst e
    obtain ⟨s1, kt, hkt, yt⟩ := q
    refine ⟨by simp [gName, wipe], tyes ⟨_, by simp [gName, wipe]; rfl, by show 2 ≤ sizeLine; decide, fun p1 np1 => ?_⟩⟩
    have w1 : Wk H (upd H2 p1 (.tup [.str "bound", .str p.1])) := (Wk.lock hc (fun _ _ z => nomatch z)).trans (Wk.of (s1.trans (same_new np1)))
    obtain ⟨u, g, du⟩ := (TR.wk w1 ⟨kc, .inl hc, txc⟩).get (look_of ok.b.nd (List.mem_of_getElem? hp))
    obtain ⟨t, rfl, ht⟩ := bd_at du
    refine ⟨_, by simp [gName, wipe]; rfl, _, by simp [gName, wipe]; rfl, c, _, rfl, g, t, _, rfl, .inl ht, by show 4 ≤ sizeLine; decide, fun p2 np2 => ?_⟩
    have s2 := (same_new (o := .tup [.str "bound", .str p.1]) np1).trans (same_new (o := .tup [.str "bound", .str p.2.1, .str p.2.2.1, .int p.2.2.2]) np2)
    refine ⟨kt, kP "bound" p.1, p1, rfl, ?_, s2 _ _ hkt, small yt, same_mut (s1.trans s2) hd, TT.step nd (told_at1 hp) (s2 _ _ hkt) (yt.tk (Tk.of s2)) ⟨p2, rfl, SqT.of upd_same⟩⟩
    exact same_new np2 _ _ upd_same
  · obtain ⟨s1, tt⟩ := q
    rw [lc] at tt
    have dc : d ≠ c := fun e => by rw [e, upd_same] at hd; cases hd
    have nd0 : H d = none := by rw [upd_ne dc] at hd; exact hd
    obtain ⟨z1, s2, t2⟩ := told_out s1 hc nd0 tt
    refine ⟨z1, a, _, s2 _ _ ha, mut_dK, fun od1 => ⟨_, rfl, a, od1, rfl, .inl ⟨ka, upd_same, ?_⟩⟩⟩
    obtain ⟨e1, e2⟩ := told_in (od := od1) s2 ha nd0 t2
    refine for_it (walk_keys (kvs := ka)) (fun i σ H' => ∃ x5, σ = [some (.ref a), some (.ref b), some (.ref c), none, some (.ref d), x5, none, none, none, none, none] ∧ Same (upd H a (.frz od1 (.dK ka))) H' ∧ TT K H' d ((toldR D).take (D.B.length + i))) ⟨none, rfl, e1, e2⟩ (fun i σ H' _ q => by obtain ⟨_, _, s, _⟩ := q; exact s _ _ upd_same) (fun i x σ H1 H2 hi q y => ?_) (fun σ H3 q => ?_)
    · obtain ⟨rfl, key, v, hk, rfl⟩ := y
      obtain ⟨x5, rfl, s3, kt, hkt, yt⟩ := q
      obtain ⟨p, hp, e, dv⟩ := txa.at hk
      have e : key = .inr p.1 := e
      subst e
      have w1 : Wk H H2 := (Wk.lock ha (fun _ _ z => nomatch z)).trans (Wk.of s3)
      obtain ⟨u, g, du⟩ := (TR.wk w1 ⟨ka, .inl ha, txa⟩).get (look_of ok.l.nd (List.mem_of_getElem? hp))
      cases in_at du
      refine ⟨_, rfl, _, rfl, _, rfl, a, _, rfl, g, by show 4 ≤ sizeLine; decide, fun p2 np2 => ⟨_, rfl, _, rfl, by show 2 ≤ sizeLine; decide, fun p1 np1 => ?_⟩⟩
      have s4 := (same_new (o := .tup [.str "bound", .str "dawn", .str p.1, .int p.2]) np2).trans (same_new (o := .tup [.str "last", .str p.1]) np1)
      refine ⟨d, _, rfl, DPut.t (k := kP "last" p.1) (s4 _ _ hkt) upd_same (small yt), _, rfl, same_mut (s3.trans s4) (by rw [upd_ne (ne_of_none ha nd0).symm]; exact nd0), ?_⟩
      exact TT.step nd (told_at2 hp) (s4 _ _ hkt) (yt.tk (Tk.of s4)) ⟨p2, rfl, SqT.of (same_new np1 _ _ upd_same)⟩
    · obtain ⟨x5, rfl, s3, t3⟩ := q
      rw [la] at t3
      obtain ⟨z1, s4, t4⟩ := told_out s3 ha nd0 t3
      refine ⟨z1, a, _, s4 _ _ ha, mut_dK, fun od1 => ⟨_, rfl, a, od1, rfl, .inl ⟨ka, upd_same, ?_⟩⟩⟩
      obtain ⟨e1, e2⟩ := told_in (od := od1) s4 ha nd0 t4
      refine for_it (walk_keys (kvs := ka)) (fun i σ H' => ∃ x5, σ = [some (.ref a), some (.ref b), some (.ref c), none, some (.ref d), x5, none, none, none, none, none] ∧ Same (upd H a (.frz od1 (.dK ka))) H' ∧ TT K H' d ((toldR D).take (D.B.length + D.L.length + i))) ⟨x5, rfl, e1, e2⟩ (fun i σ H' _ q => by obtain ⟨_, _, s, _⟩ := q; exact s _ _ upd_same) (fun i x σ H1 H2 hi q y => ?_) (fun σ H3 q => ?_)
      · obtain ⟨rfl, key, v, hk, rfl⟩ := y
        obtain ⟨x5, rfl, s3, kt, hkt, yt⟩ := q
        obtain ⟨p, hp, e, dv⟩ := txa.at hk
        have e : key = .inr p.1 := e
        subst e
        refine ⟨_, rfl, by show 4 ≤ sizeLine; decide, fun p2 np2 => ⟨_, rfl, _, rfl, by show 2 ≤ sizeLine; decide, fun p1 np1 => ?_⟩⟩
        have s4 := (same_new (o := .tup [.str "bound", .str p.1, .str "dawn", .int 0]) np2).trans (same_new (o := .tup [.str "begin", .str p.1]) np1)
        refine ⟨d, _, rfl, DPut.t (k := kP "begin" p.1) (s4 _ _ hkt) upd_same (small yt), _, rfl, same_mut (s3.trans s4) (by rw [upd_ne (ne_of_none ha nd0).symm]; exact nd0), ?_⟩
        exact TT.step nd (told_at3 hp) (s4 _ _ hkt) (yt.tk (Tk.of s4)) ⟨p2, rfl, SqT.of (same_new np1 _ _ upd_same)⟩
      · obtain ⟨x5, rfl, s3, t3⟩ := q
        rw [la] at t3
        obtain ⟨z1, s4, t4⟩ := told_out s3 ha nd0 t3
        refine ⟨z1, b, _, s4 _ _ hb, mut_dK, fun od1 => ⟨_, rfl, b, od1, rfl, .inl ⟨kb, upd_same, ?_⟩⟩⟩
        obtain ⟨e1, e2⟩ := told_in (od := od1) s4 hb nd0 t4
        refine for_it (walk_keys (kvs := kb)) (fun i σ H' => ∃ x3 x6 x7 x8 x9, σ = [some (.ref a), some (.ref b), some (.ref c), x3, some (.ref d), x5, x6, x7, x8, x9, none] ∧ Same (upd H b (.frz od1 (.dK kb))) H' ∧ TT K H' d ((toldR D).take (D.B.length + D.L.length + D.L.length + i))) ⟨none, none, none, none, none, rfl, e1, e2⟩ (fun i σ H' _ q => by obtain ⟨_, _, _, _, _, _, s, _⟩ := q; exact s _ _ upd_same) (fun i x σ H1 H2 hi q y => ?_) (fun σ H3 q => ?_)
        · obtain ⟨rfl, key, v, hk, rfl⟩ := y
          obtain ⟨x3, x6, x7, x8, x9, rfl, s3, kt, hkt, yt⟩ := q
          obtain ⟨p, hp, e, dv⟩ := txb.at hk
          have e : key = .inr p.1 := e
          subst e
          have w1 : Wk H H2 := (Wk.lock hb (fun _ _ z => nomatch z)).trans (Wk.of s3)
          obtain ⟨u, g, du⟩ := (TR.wk w1 ⟨kb, .inl hb, txb⟩).get (look_of ok.w.nd (List.mem_of_getElem? hp))
          obtain ⟨t, rfl, ht⟩ := wk_at du
          refine ⟨_, rfl, _, rfl, b, _, rfl, g, t, _, rfl, ht, rfl, _, _, rfl, _, _, rfl, _, _, rfl, _, _, rfl, _, _, rfl, rfl, ?_⟩
          refine ⟨_, rfl, _, rfl, _, rfl, by show 4 ≤ sizeLine; decide, fun p2 np2 => ⟨_, rfl, _, rfl, by show 2 ≤ sizeLine; decide, fun p1 np1 => ?_⟩⟩
          have s4 := (same_new (o := .tup [.str "bound", .str p.2.1, .str p.2.2.1, .int p.2.2.2.2.1]) np2).trans (same_new (o := .tup [.str "most", .str p.1]) np1)
          refine ⟨d, _, rfl, DPut.t (k := kP "most" p.1) (s4 _ _ hkt) upd_same (small yt), _, _, _, _, _, rfl, same_mut (s3.trans s4) (by rw [upd_ne (ne_of_none hb nd0).symm]; exact nd0), ?_⟩
          exact TT.step nd (told_at4 hp) (s4 _ _ hkt) (yt.tk (Tk.of s4)) ⟨p2, rfl, SqT.of (same_new np1 _ _ upd_same)⟩
        · obtain ⟨x3, x6, x7, x8, x9, rfl, s3, t3⟩ := q
          rw [lb] at t3
          obtain ⟨z1, s4, t4⟩ := told_out s3 hb nd0 t3
          refine ⟨z1, b, _, s4 _ _ hb, mut_dK, fun od1 => ⟨_, rfl, b, od1, rfl, .inl ⟨kb, upd_same, ?_⟩⟩⟩
          obtain ⟨e1, e2⟩ := told_in (od := od1) s4 hb nd0 t4
          refine for_it (walk_keys (kvs := kb)) (fun i σ H' => ∃ x3 x6 x7 x8 x10, σ = [some (.ref a), some (.ref b), some (.ref c), x3, some (.ref d), x5, x6, x7, x8, x9, x10] ∧ Same (upd H b (.frz od1 (.dK kb))) H' ∧ TT K H' d ((toldR D).take (D.B.length + D.L.length + D.L.length + D.W.length + i))) ⟨x3, x6, x7, x8, none, rfl, e1, e2⟩ (fun i σ H' _ q => by obtain ⟨_, _, _, _, _, _, s, _⟩ := q; exact s _ _ upd_same) (fun i x σ H1 H2 hi q y => ?_) (fun σ H3 q => ?_)
          · obtain ⟨rfl, key, v, hk, rfl⟩ := y
            obtain ⟨x3, x6, x7, x8, x10, rfl, s3, kt, hkt, yt⟩ := q
            obtain ⟨p, hp, e, dv⟩ := txb.at hk
            have e : key = .inr p.1 := e
            subst e
            have w1 : Wk H H2 := (Wk.lock hb (fun _ _ z => nomatch z)).trans (Wk.of s3)
            obtain ⟨u, g, du⟩ := (TR.wk w1 ⟨kb, .inl hb, txb⟩).get (look_of ok.w.nd (List.mem_of_getElem? hp))
            obtain ⟨t, rfl, ht⟩ := wk_at du
            refine ⟨_, rfl, _, rfl, b, _, rfl, g, t, _, rfl, ht, rfl, _, _, rfl, _, _, rfl, _, _, rfl, _, _, rfl, _, _, rfl, rfl, ?_⟩
            refine ⟨_, rfl, _, rfl, _, rfl, _, rfl, by show 4 ≤ sizeLine; decide, fun p2 np2 => ⟨_, rfl, _, rfl, by show 2 ≤ sizeLine; decide, fun p1 np1 => ?_⟩⟩
            have s4 := (same_new (o := .tup [.str "bound", .str p.2.2.1, .str p.2.1, .int (-p.2.2.2.1)]) np2).trans (same_new (o := .tup [.str "least", .str p.1]) np1)
            refine ⟨d, _, rfl, DPut.t (k := kP "least" p.1) (s4 _ _ hkt) upd_same (small yt), _, _, _, _, _, rfl, same_mut (s3.trans s4) (by rw [upd_ne (ne_of_none hb nd0).symm]; exact nd0), ?_⟩
            exact TT.step nd (told_at5 hp) (s4 _ _ hkt) (yt.tk (Tk.of s4)) ⟨p2, rfl, SqT.of (same_new np1 _ _ upd_same)⟩
          · obtain ⟨x3, x6, x7, x8, x10, rfl, s3, t3⟩ := q
            rw [lb] at t3
            obtain ⟨z1, s4, t4⟩ := told_out s3 hb nd0 t3
            rw [show D.B.length + D.L.length + D.L.length + D.W.length + D.W.length = (toldR D).length from told_len.symm, List.take_length] at t4
            exact ⟨z1, _, rfl, k d _ s4 nd0 t4⟩
end
end LW
namespace DW
open PySem PySem.Spec PyProof.Rows L2
/-- lists and tuples stay -/
def Sk (H H' : Hp) : Prop := (∀ c xs, Rd H c (.lst xs) → Rd H' c (.lst xs)) ∧ ∀ c xs, Rd H c (.tup xs) → Rd H' c (.tup xs)
theorem Sk.wk {H H' : Hp} (s : Wk H H') : Sk H H' := ⟨fun c xs h => s c _ h, fun c xs h => s c _ h⟩
theorem Sk.of {H H' : Hp} (s : Same H H') : Sk H H' := Sk.wk (Wk.of s)
theorem Sk.trans {H H1 H2 : Hp} (a : Sk H H1) (b : Sk H1 H2) : Sk H H2 := ⟨fun c xs h => b.1 c xs (a.1 c xs h), fun c xs h => b.2 c xs (a.2 c xs h)⟩
/-- what is neither list nor tuple changes -/
theorem sk_put {H : Hp} {D : Addr} {u o : HO} (h : H D = some u) (n : ∀ xs, u ≠ .lst xs ∧ u ≠ .tup xs ∧ (∀ z, u ≠ .frz z (.lst xs)) ∧ ∀ z, u ≠ .frz z (.tup xs)) : Sk H (upd H D o) := by
  refine ⟨fun c xs r => ?_, fun c xs r => ?_⟩
  · have ne : c ≠ D := fun e => by
      subst e
      rcases r with r | ⟨z, r⟩
      · rw [h] at r; cases r; exact (n xs).1 rfl
      · rw [h] at r; cases r; exact (n xs).2.2.1 z rfl
    unfold Rd
    rw [upd_ne ne]
    exact r
  · have ne : c ≠ D := fun e => by
      subst e
      rcases r with r | ⟨z, r⟩
      · rw [h] at r; cases r; exact (n xs).2.1 rfl
      · rw [h] at r; cases r; exact (n xs).2.2.2 z rfl
    unfold Rd
    rw [upd_ne ne]
    exact r
theorem sk_dK {H : Hp} {D : Addr} {kvs : List (Key × V)} {o : HO} (h : H D = some (.dK kvs)) : Sk H (upd H D o) := sk_put h fun xs => ⟨(fun z => nomatch z), (fun z => nomatch z), (fun _ z => nomatch z), (fun _ z => nomatch z)⟩
theorem sk_ins {H : Hp} {D C dx : Addr} {fs : List (Str × V)} {o : HO} (h : H D = some (.ins C dx fs)) : Sk H (upd H D o) := sk_put h fun xs => ⟨(fun z => nomatch z), (fun z => nomatch z), (fun _ z => nomatch z), (fun _ z => nomatch z)⟩
theorem sqT_sk {K : PySem.W.Frag} {H H' : Hp} {a : Addr} {xs : List V} (s : Sk H H') (h : SqT K H a xs) : SqT K H' a xs := h.elim (fun h => .inl (s.2 _ _ h)) .inr
theorem sqL_sk {K : PySem.W.Frag} {H H' : Hp} {a : Addr} {xs : List V} (s : Sk H H') (h : SqL K H a xs) : SqL K H' a xs := h.elim (fun h => .inl (s.1 _ _ h)) .inr
mutual
theorem Dp.sk {K : PySem.W.Frag} {H H' : Hp} (s : Sk H H') : ∀ {v : V} {d : PyData}, Dp K H v d → Dp K H' v d
  | _, _, .non => .non
  | _, _, .bl b => .bl b
  | _, _, .int i => .int i
  | _, _, .str x => .str x
  | _, _, .lst h a => .lst (sqL_sk s h) (DpAll.sk s a)
  | _, _, .tup h a => .tup (sqT_sk s h) (DpAll.sk s a)
theorem DpAll.sk {K : PySem.W.Frag} {H H' : Hp} (s : Sk H H') : ∀ {vs : List V} {ds : List PyData}, DpAll K H vs ds → DpAll K H' vs ds
  | _, _, .nil => .nil
  | _, _, .cons a b => .cons (Dp.sk s a) (DpAll.sk s b)
end
theorem Tx.sk {α : Type} {enc : α → PyData} {K : PySem.W.Frag} {H H' : Hp} {kvs : List (Key × V)} {rs : List (Str × α)} (s : Sk H H') (h : Tx enc K H kvs rs) : Tx enc K H' kvs rs := pairedMono (fun _ _ z => ⟨z.1, Dp.sk s z.2⟩) h
end DW
namespace LW
open PySem PySem.Spec PyProof.Rows L2 DW
/-- {name: d[name] for name in sorted(d)} -/
theorem sc_it {α : Type} {enc : α → PyData} {K : PySem.W.Frag} {v : V} {rs : List (Str × α)} {σ : L2.St} {H : Hp} {p D : Addr} {i j : Nat} {Qd : Hp → Prop} (hi : i < σ.length) (hji : i ≠ j) (hj : σ[j]? = some (some v)) (lot : Lot enc K H v rs) (nd : (rs.map (·.1)).Nodup) (hl : rs.length ≤ 1000)
    (hp : H p = some (.lst ((srt (rs.map (·.1))).map V.str))) (hD : H D = none) (k : ∀ H', Same H H' → TD enc K H' D (srtR rs) → Qd H') :
    ∃ W : Nat → Nat → Hp → Prop, (∃ m, W 0 m (upd H D (.dK []))) ∧ ∀ n m H, W n m H →
      ((Itl K p).stop n H ∧ Qd H) ∨ ((Itl K p).go n H ∧ ∃ Nx : Hp → Prop, (∀ H', Nx H' → ∃ m', m' < m ∧ W (n + 1) m' H') ∧ ∀ x H', (Itl K p).yld n H x H' → gName i x (wipe σ [i]) H' fun σ2 H2 => wipe σ2 [i] = wipe σ [i] ∧ tYes σ2 H2 fun b H3 =>
        if b = true then tVar i σ2 H3 fun y H4 => tDGet (tVar j) (tVar i) σ2 H4 fun z H5 => ∃ kvs k, y = kV k ∧ H5 D = some (.dK kvs) ∧ kvs.length < sizeLine ∧ Nx (upd H5 D (.dK (putK kvs k z))) else Nx H3) := by
  have ll : ((srt (rs.map (·.1))).map V.str).length = (srtR rs).length := by rw [List.length_map, srt_len, List.length_map, srtR_len]
  refine dc_it (walk_list (K := K) (a := p) (xs := (srt (rs.map (·.1))).map V.str)) (fun n H' => Same H H' ∧ TD enc K H' D ((srtR rs).take n)) ⟨same_new hD, TD.nil upd_same⟩ (fun n H' _ q => SqL.of (q.1 _ _ hp)) (fun n x H1 H2 hn q y => ?_) (fun H' q => ?_)
  · obtain ⟨e, hx⟩ := y
    subst e
    obtain ⟨s1, kvs, hk, tx⟩ := q
    obtain ⟨r, hr1, rfl, lk, mem⟩ := srt_at hx
    obtain ⟨a, u, rfl, g, du⟩ := (lot.same s1).get lk
    have len : kvs.length ≤ 1000 := by
      have h1 : kvs.length = ((srtR rs).take n).length := Paired.length tx
      have h2 : ((srtR rs).take n).length ≤ (srtR rs).length := by rw [List.length_take]; exact Nat.min_le_right _ _
      have h3 := srtR_len rs
      omega
    have sj : ((wipe σ [i]).set i (some (V.str r.1)))[j]? = some (some (.ref a)) := by simp [wipe, hji, hj]
    have si : ((wipe σ [i]).set i (some (V.str r.1)))[i]? = some (some (.str r.1)) := by simp [wipe, hi]
    refine ⟨by simp [gName, wipe], tyes ⟨_, si, _, sj, _, si, a, u, rfl, g, kvs, .inr r.1, rfl, hk, by rw [sizeLine_eq]; omega, same_mut s1 hD, _, upd_same, ?_⟩⟩
    have hE : ((srtR rs).take (n + 1)).map (·.1) = ((srtR rs).take n).map (·.1) ++ [r.1] := take_succ_map hr1
    have nin : r.1 ∉ ((srtR rs).take n).map (·.1) := by
      have := (List.Sublist.map (·.1) (List.take_sublist (n + 1) (srtR rs))).nodup (srtR_nodup nd)
      rw [hE] at this
      exact fun m => (List.nodup_append.mp this).2.2 _ m _ (List.mem_singleton.mpr rfl) rfl
    rw [List.take_add_one, hr1]
    exact (tx.put nin du).sk (sk_dK hk)
  · obtain ⟨s1, td⟩ := q
    rw [ll, List.take_length] at td
    exact k H' s1 td
/-- {d[name][1]: name for name in d}, d locked -/
theorem ed_it {K : PySem.W.Frag} {a : Addr} {L : Ls} {W : Ws} {kvs : List (Key × V)} {od : Obj} {σ : L2.St} {H : Hp} {D : Addr} {i : Nat} {tv : TE} {Qd : Hp → Prop} (hi : i < σ.length) (ha : H a = some (.frz od (.dK kvs))) (tx : Tx wkD K H kvs (srtR W)) (ok : OkW L W) (hD : H D = none)
    (htv : ∀ {σ' : L2.St} {H' : Hp} {R : VK} {n : Str} {u : V}, σ'[i]? = some (some (.str n)) → (∀ j z, i ≠ j → σ[j]? = some (some z) → σ'[j]? = some (some z)) → DGet H' a (.str n) (some u) → Same H H' → R u H' → tv σ' H' R)
    (k : ∀ H', Same H H' → TD stD K H' D (endR W) → Qd H') :
    ∃ Wf : Nat → Nat → Hp → Prop, (∃ m, Wf 0 m (upd H D (.dK []))) ∧ ∀ n m H, Wf n m H →
      ((Itk a od kvs).stop n H ∧ Qd H) ∨ ((Itk a od kvs).go n H ∧ ∃ Nx : Hp → Prop, (∀ H', Nx H' → ∃ m', m' < m ∧ Wf (n + 1) m' H') ∧ ∀ x H', (Itk a od kvs).yld n H x H' → gName i x (wipe σ [i]) H' fun σ2 H2 => wipe σ2 [i] = wipe σ [i] ∧ tYes σ2 H2 fun b H3 =>
        if b = true then tOp (rIxT K) tv (tC (.int 1)) σ2 H3 fun y H4 => tVar i σ2 H4 fun z H5 => ∃ kvs k, y = kV k ∧ H5 D = some (.dK kvs) ∧ kvs.length < sizeLine ∧ Nx (upd H5 D (.dK (putK kvs k z))) else Nx H3) := by
  have en := endR_nodup ok
  have ll : kvs.length = (endR W).length := by unfold endR; rw [List.length_map]; exact Paired.length tx
  have l60 := ok.len
  refine dc_it (walk_keys (d := a) (o := od) (kvs := kvs)) (fun n H' => Same H H' ∧ TD stD K H' D ((endR W).take n)) ⟨same_new hD, TD.nil upd_same⟩ (fun n H' _ q => q.1 _ _ ha) (fun n x H1 H2 hn q y => ?_) (fun H' q => ?_)
  · obtain ⟨rfl, key, v, hk, rfl⟩ := y
    obtain ⟨s1, ks, hks, te⟩ := q
    obtain ⟨p, hp, e, dv⟩ := tx.at hk
    have e : key = .inr p.1 := e
    subst e
    have tr : TR wkD K H2 a (srtR W) := TR.wk (Wk.of s1) ⟨kvs, .inr ⟨od, ha⟩, tx⟩
    obtain ⟨u, g, du⟩ := tr.get (look_of (srtR_nodup ok.nd) (List.mem_of_getElem? hp))
    obtain ⟨t, rfl, ht⟩ := wk_at du
    have len : ks.length ≤ 1000 := by
      have h1 : ks.length = ((endR W).take n).length := Paired.length te
      have h2 : ((endR W).take n).length ≤ (endR W).length := by rw [List.length_take]; exact Nat.min_le_right _ _
      have h3 : (endR W).length = W.length := by unfold endR; rw [List.length_map, srtR_len]
      omega
    have si : ((wipe σ [i]).set i (some (V.str p.1)))[i]? = some (some (.str p.1)) := by simp [wipe, hi]
    refine ⟨by simp [gName, wipe], tyes (htv si (fun j z hj e => by simp [wipe, hj, e]) g s1 ⟨t, _, 1, .str p.2.2.1, rfl, rfl, ht, atI_nat (j := 1) rfl, _, si, ks, .inr p.2.2.1, rfl, hks, by rw [sizeLine_eq]; omega, same_mut s1 hD, _, upd_same, ?_⟩)⟩
    have ei : (endR W)[n]? = some (p.2.2.1, p.1) := by
      unfold endR
      rw [List.getElem?_map, hp]
      rfl
    have hE : ((endR W).take (n + 1)).map (·.1) = ((endR W).take n).map (·.1) ++ [p.2.2.1] := take_succ_map ei
    have nin : p.2.2.1 ∉ ((endR W).take n).map (·.1) := by
      have := (List.Sublist.map (·.1) (List.take_sublist (n + 1) (endR W))).nodup en
      rw [hE] at this
      exact fun m => (List.nodup_append.mp this).2.2 _ m _ (List.mem_singleton.mpr rfl) rfl
    rw [List.take_add_one, ei]
    exact tx_st (te.put nin (.str p.1))
  · obtain ⟨s1, td⟩ := q
    rw [ll, List.take_length] at td
    exact k H' s1 td
end LW
namespace LW
open PySem PySem.Spec PyProof.Rows L2 DW
section
variable {P : Program} {w : World} {K : PySem.W.Frag} {mg : Str → Option Value} {base : Heap}
/-! ### draws -/
def spRoll : Sp := fun vs H Q _ => ∃ (a : Addr) (d0 d1 d2 t : Int), vs = [.ref a, .int t] ∧ H a = some (.lst [.int d0, .int d1, .int d2]) ∧ 0 < t ∧ t < 1073741824 ∧
  ∀ r e0 e2 : Int, 0 ≤ r → r < t → Q (.int r) (upd H a (.lst [.int e0, .int d1, .int e2]))
theorem scRoll : FnScope ["dice", "total", "found", "one", "two"] ["dice", "total"] (defScope s_law_roll) := ⟨rfl, rfl, rfl, by decide +kernel, rfl, by decide +kernel, by decide +kernel⟩
theorem fm0 {i j : Int} (h : 0 < j) : 0 ≤ i.fmod j := Int.fmod_nonneg_of_pos i h
theorem fm1 {i j : Int} (h : 0 < j) : i.fmod j < j := Int.fmod_lt_of_pos i h
theorem ok_roll {f : Addr} {fd : FuncData} (F : Fun K "_law_roll" "_law_roll" s_law_roll f fd) : FnOk P w K mg base CX0 1 f fd ["dice", "total"] spRoll := by
  refine F.ok scRoll (fun vs H Q E h => ?_) (fun cdv A outer s H vs Q E hr h => ?_)
  · obtain ⟨a, d0, d1, d2, t, rfl, _⟩ := h
    rfl
  · obtain ⟨a, d0, d1, d2, t, rfl, hA, ht, ht2, k⟩ := h
    refine ⟨_, pss_cons (ps_if (pt_cmpR op_gt (pe_ix ix_list (pv 0) pe_int (fun _ _ => rfl)) pe_int (nomark _))
        (pss_cons (ps_set (i := 2) scRoll.nd rfl (Or.inl rfl) (pe_op op_modN (pe_ix ix_list (pv 0) pe_int (fun _ _ => rfl)) (pv 1)))
        (pss_cons (ps_asg (pe_op op_fdivN (pe_ix ix_list (pv 0) pe_int (fun _ _ => rfl)) (pv 1)) (pg_sub (pv 0) pe_int set_list))
        (pss_one (ps_ret (pv 2))))) pss_nil)
      (pss_cons (ps_asg (pe_op op_add (pe_ix ix_list (pv 0) pe_int (fun _ _ => rfl)) pe_int) (pg_sub (pv 0) pe_int set_list))
      (pss_cons (ps_set (i := 3) scRoll.nd rfl (Or.inl rfl) (pe_op op_modN (pe_op op_add (pe_ix ix_list (pv 0) pe_int (fun _ _ => rfl)) (pe_op op_mul pe_int (pe_ix ix_list (pv 0) pe_int (fun _ _ => rfl)))) pe_int))
      (pss_cons (ps_set (i := 4) scRoll.nd rfl (Or.inl rfl) (pe_op op_add (pe_op op_mul (pe_op op_modN (pe_op op_mul (pv 3) (pv 3)) pe_int) (pv 3)) (pe_op op_mul pe_int (pe_ix ix_list (pv 0) pe_int (fun _ _ => rfl)))))
      (pss_one (ps_ret (pe_op op_modN (pe_op op_fdivN (pe_op op_modN (pe_op op_add (pv 4) (pe_ix ix_list (pv 0) pe_int (fun _ _ => rfl))) pe_int) pe_int) (pv 1))))))), ?_⟩
    have h0 : t ≠ 0 := by omega
    refine ⟨_, rfl, a, _, _, _, rfl, rfl, SqL.of hA, rfl, _, _, rfl, rfl, _, rfl, ite2 (fun _ => ?_) (fun _ => ?_)⟩
    · refine ⟨_, rfl, a, _, _, _, rfl, rfl, SqL.of hA, rfl, _, rfl, _, _, rfl, rfl, h0, ?_⟩
      refine ⟨_, rfl, a, _, _, _, rfl, rfl, SqL.of hA, rfl, _, rfl, _, _, rfl, rfl, ⟨h0, by omega⟩, ?_⟩
      refine ⟨_, rfl, a, _, _, _, rfl, rfl, hA, rfl, ?_⟩
      exact ⟨_, rfl, k _ _ _ (fm0 ht) (fm1 ht)⟩
    · refine ⟨_, rfl, a, _, _, _, rfl, rfl, SqL.of hA, rfl, _, _, rfl, rfl, ?_⟩
      refine ⟨_, rfl, a, _, _, _, rfl, rfl, hA, rfl, ?_⟩
      have hB : upd H a (.lst [.int d0, .int d1, .int (d2 + 1)]) a = some (.lst [.int d0, .int d1, .int (d2 + 1)]) := upd_same
      refine ⟨_, rfl, a, _, _, _, rfl, rfl, SqL.of hB, rfl, _, rfl, a, _, _, _, rfl, rfl, SqL.of hB, rfl, _, _, rfl, rfl, .inl ⟨by decide, by decide⟩, _, _, rfl, rfl, _, _, rfl, rfl, (show (2305843009213693907 : Int) ≠ 0 by decide), ?_⟩
      have b1 := fm0 (i := d1 + 654188429 * (d2 + 1)) (j := 2305843009213693907) (by decide)
      have b2 := fm1 (i := d1 + 654188429 * (d2 + 1)) (j := 2305843009213693907) (by decide)
      have c1 := fm0 (i := (d1 + 654188429 * (d2 + 1)).fmod 2305843009213693907 * (d1 + 654188429 * (d2 + 1)).fmod 2305843009213693907) (j := 1152921504606846871) (by decide)
      have c2 := fm1 (i := (d1 + 654188429 * (d2 + 1)).fmod 2305843009213693907 * (d1 + 654188429 * (d2 + 1)).fmod 2305843009213693907) (j := 1152921504606846871) (by decide)
      refine ⟨_, rfl, _, rfl, _, _, rfl, rfl, .inl ⟨by omega, by omega⟩, _, _, rfl, rfl, (show (1152921504606846871 : Int) ≠ 0 by decide), _, rfl, _, _, rfl, rfl, .inl ⟨by omega, by omega⟩, _, rfl, a, _, _, _, rfl, rfl, SqL.of hB, rfl, _, _, rfl, rfl, .inl ⟨by decide, by decide⟩, _, _, rfl, rfl, ?_⟩
      refine ⟨_, rfl, _, rfl, a, _, _, _, rfl, rfl, SqL.of hB, rfl, _, _, rfl, rfl, _, _, rfl, rfl, (show (8796093022151 : Int) ≠ 0 by decide), _, _, rfl, rfl, ⟨by decide, by decide⟩, _, rfl, _, _, rfl, rfl, h0, ?_⟩
      exact k _ _ _ (fm0 ht) (fm1 ht)
end
local macro_rules | `(tactic| walk_at "k1dice") => `(tactic| (
  refine ⟨_, rfl, _, rfl, _, _, rfl, rfl, ⟨by decide, by decide +kernel⟩, _, _, rfl, rfl, ⟨by decide, by decide +kernel⟩, _, _, rfl, rfl, (show ((10 ^ Int.toNat 60) ^ Int.toNat 10 : Int) ≠ 0 by decide +kernel), ?_⟩
  refine ⟨_, rfl, _, _, rfl, rfl, .inr ⟨by decide, by decide⟩, _, rfl, _, _, rfl, rfl, .inl ⟨by decide, by decide⟩, _, _, rfl, rfl, _, rfl, _, _, rfl, rfl, .inr ⟨_, rfl, _, _, rfl, rfl, .inl ⟨by decide, by decide⟩, _, _, rfl, rfl, _, _, rfl, rfl, ?_⟩⟩
  refine ⟨_, rfl, _, _, rfl, rfl, ⟨by decide, by decide +kernel⟩, _, _, rfl, rfl, _, _, rfl, _, rfl, _, _, rfl, rfl, (show (1152921504606846883 : Int) ≠ 0 by decide), ?_⟩))
section
variable {P : Program} {w : World} {K : PySem.W.Frag} {mg : Str → Option Value} {base : Heap}
def spDice (K : PySem.W.Frag) : Sp := fun vs H Q _ => ∃ (a : Addr) (ns : List Int) (s : Int), vs = [.ref a, .int s] ∧ SqL K H a (ns.map V.int) ∧ 0 ≤ s ∧ s < 1000 ∧
  ∀ (p : Addr) (d0 d1 : Int), H p = none → Q (.ref p) (upd H p (.lst [.int d0, .int d1, .int 0]))
theorem scDice : FnScope ["script", "spot", "cell", "whole", "mixed"] ["script", "spot"] (defScope s_law_dice) := ⟨rfl, rfl, rfl, by decide +kernel, rfl, by decide +kernel, by decide +kernel⟩
theorem ok_dice {f : Addr} {fd : FuncData} (F : Fun K "_law_dice" "_law_dice" s_law_dice f fd) (zL : mg "len" = none) (zI : mg "int" = none) (zA : mg "abs" = none) (zM : mg "max" = none) :
    FnOk P w K mg base CX0 1 f fd ["script", "spot"] (spDice K) := by
  refine F.ok scDice (fun vs H Q E h => ?_) (fun cdv A outer s H vs Q E hr h => ?_)
  · obtain ⟨a, ns, s, rfl, _⟩ := h
    rfl
  · obtain ⟨a, ns, s, rfl, hS, s0, s1, k⟩ := h
    refine ⟨_, pss_cons (ps_set (i := 2) scDice.nd rfl (Or.inl rfl) (pe_ifExp (pt_cmpR op_lt (pv 1) (pe_callB call_len_seq (by rfl) zL PySem.boot_len (pa_cons (pv 0) pa_nil)) (nomark _))
          (pe_callTy call_int1 (by rfl) zI (by decide +kernel) (pa_cons (pe_ix ix_list (pv 0) (pv 1) (fun _ _ => rfl)) pa_nil)) (pe_op op_add (pe_op op_mul pe_int (pv 1)) pe_int)))
      (pss_cons (ps_set (i := 3) scDice.nd rfl (Or.inl rfl) (pe_op op_modN (pe_callB call_abs (by rfl) zA (by decide +kernel) (pa_cons (pv 2) pa_nil)) (pe_op op_powW (pe_op op_powW pe_int pe_int) pe_int)))
      (pss_cons (ps_set (i := 4) scDice.nd rfl (Or.inl rfl) (pe_op op_add (pe_op op_add (pe_op op_add (pe_op op_mul (pv 3) pe_int) (pe_op op_mul pe_int (pv 1))) (pe_op op_mul pe_int (pe_callTy call_int1 (by rfl) zI (by decide +kernel) (pa_cons (pe_cmpR op_lt (pv 2) pe_int (nomark _)) pa_nil)))) pe_int))
      (pss_one (ps_ret (pe_lst (pa_cons (pe_callB (call_max2 rfl) (by rfl) zM (by decide +kernel) (pa_cons pe_int (pa_cons (pe_op op_sub (pv 3) (pe_op op_powW pe_int pe_int)) pa_nil))) (pa_cons (pe_op op_modN (pv 4) pe_int) (pa_cons pe_int pa_nil)))))))), ?_⟩
    refine ⟨_, rfl, _, rfl, a, _, rfl, .inl hS, _, _, rfl, rfl, _, rfl, ite2 (fun h => ?_) (fun h => ?_)⟩
    · obtain ⟨n, rfl⟩ : ∃ n : Nat, s = n := ⟨s.toNat, by omega⟩
      have h : (n : Int) < ((ns.map V.int).length : Nat) := by simpa using h
      have hn : n < ns.length := by rw [List.length_map] at h; omega
      have hg : (ns.map V.int)[n]? = some (V.int ns[n]) := by simp [hn]
      refine ⟨_, rfl, _, rfl, a, _, _, _, rfl, rfl, hS, atI_nat hg, .inl ⟨_, rfl, ?_⟩⟩
      walk_at "k1dice"
      exact ⟨by show 3 ≤ sizeLine; decide, fun p hp => k p _ _ hp⟩
    · refine ⟨_, rfl, _, _, rfl, rfl, .inl ⟨by decide, by decide⟩, _, _, rfl, rfl, ?_⟩
      walk_at "k1dice"
      exact ⟨by show 3 ≤ sizeLine; decide, fun p hp => k p _ _ hp⟩
end
end LW
namespace LW
open PySem PySem.Spec PyProof.Rows L2 DW
/-- all but the dice stays -/
def But (D : Addr) (H H' : Hp) : Prop := ∀ b o, b ≠ D → H b = some o → H' b = some o
def Dc (H : Hp) (D : Addr) : Prop := ∃ d0 d1 d2 : Int, H D = some (.lst [.int d0, .int d1, .int d2])
theorem Same.but {D : Addr} {H H' : Hp} (s : Same H H') : But D H H' := fun b o _ e => s b o e
theorem But.refl {D : Addr} {H : Hp} : But D H H := fun _ _ _ e => e
theorem But.trans {D : Addr} {H H1 H2 : Hp} (x : But D H H1) (y : But D H1 H2) : But D H H2 := fun b o n e => y b o n (x b o n e)
theorem But.upd {D : Addr} {H : Hp} {o : HO} : But D H (upd H D o) := fun b u n e => by rw [upd_ne n]; exact e
theorem Dc.same {D : Addr} {H H' : Hp} (s : Same H H') (h : Dc H D) : Dc H' D := by
  obtain ⟨a, b, c, e⟩ := h
  exact ⟨a, b, c, s _ _ e⟩
theorem new_ne {H : Hp} {D p : Addr} (hD : Dc H D) (hp : H p = none) : p ≠ D := by
  obtain ⟨d0, d1, d2, e⟩ := hD
  rintro rfl
  rw [hp] at e
  cases e
section
variable {P : Program} {w : World} {K : PySem.W.Frag} {mg : Str → Option Value} {base : Heap}
def spPick (K : PySem.W.Frag) : Sp := fun vs H Q _ => ∃ (D : Addr) (v : V), vs = [.ref D, v] ∧ Dc H D ∧
  ((∃ p xs, v = .ref p ∧ p ≠ D ∧ H p = some (.lst xs) ∧ 0 < xs.length ∧ xs.length < 1000 ∧ ∀ u H', u ∈ xs → But D H H' → Dc H' D → Q u H') ∨
   (∃ z : Str, v = .str z ∧ 0 < z.length ∧ z.length < 1000 ∧ ∀ c H', c ∈ z.cps.toList → But D H H' → Dc H' D → Q (.str ⟨#[c]⟩) H'))
theorem scPick : FnScope ["dice", "items"] ["dice", "items"] (defScope s_law_pick) := ⟨rfl, rfl, rfl, by decide +kernel, rfl, by decide +kernel, by decide +kernel⟩
theorem ok_pick {f fR : Addr} {fd fdR : FuncData} (F : Fun K "_law_pick" "_law_pick" s_law_pick f fd) (FR : Fun K "_law_roll" "_law_roll" s_law_roll fR fdR) (bR : Binds K fdR ["dice", "total"] []) (gR : mg "_law_roll" = some (.ref fR)) (zL : mg "len" = none) :
    FnOk P w K mg base CX0 2 f fd ["dice", "items"] (spPick K) := by
  have GR : FnOk P w K mg base CX0 1 fR fdR ["dice", "total"] spRoll := ok_roll FR
  refine F.ok scPick (fun vs H Q E h => ?_) (fun cdv A outer s H vs Q E hr h => ?_)
  · obtain ⟨D, v, rfl, _⟩ := h
    rfl
  · obtain ⟨D, v, rfl, ⟨d0, d1, d2, eD⟩, h⟩ := h
    refine ⟨_, pss_one (ps_ret (pe_ix ix_seq (pv 1) (pe_call GR hr rfl gR FR.kp bR .nil pass0 (pa_cons (pv 0) (pa_cons (pe_callB call_len (by rfl) zL PySem.boot_len (pa_cons (pv 1) pa_nil)) pa_nil))) (fun _ _ => rfl))), ?_⟩
    rcases h with ⟨p, xs, rfl, ne, hp, l0, l1, k⟩ | ⟨z, rfl, l0, l1, k⟩
    · refine ⟨_, rfl, _, rfl, _, rfl, _, xs.length, rfl, .inl ⟨xs, SqL.of hp, rfl⟩, D, d0, d1, d2, _, rfl, eD, by omega, by omega, fun r e0 e2 r0 r1 => .inl ?_⟩
      obtain ⟨n, rfl⟩ : ∃ n : Nat, r = n := ⟨r.toNat, by omega⟩
      have hn : n < xs.length := by omega
      have hg : xs[n]? = some xs[n] := List.getElem?_eq_getElem hn
      exact ⟨p, xs, _, _, rfl, rfl, SqL.of (by rw [upd_ne ne]; exact hp), atI_nat hg, k _ _ (List.mem_of_getElem? hg) But.upd ⟨e0, d1, e2, upd_same⟩⟩
    · have hzs : z.length ≤ sizeLine := by rw [sizeLine_eq]; omega
      refine ⟨_, rfl, _, rfl, _, rfl, _, z.length, rfl, ⟨hzs, rfl⟩, D, d0, d1, d2, _, rfl, eD, by omega, by omega, fun r e0 e2 r0 r1 => .inr (.inr ?_)⟩
      obtain ⟨n, rfl⟩ : ∃ n : Nat, r = n := ⟨r.toNat, by omega⟩
      have hl : z.cps.toList.length = z.length := by simp [Str.length]
      have hn : n < z.cps.toList.length := by omega
      have hg : z.cps.toList[n]? = some z.cps.toList[n] := List.getElem?_eq_getElem hn
      exact ⟨z, _, _, rfl, rfl, hzs, atI_nat hg, k _ _ (List.mem_of_getElem? hg) But.upd ⟨e0, d1, e2, upd_same⟩⟩
/-- a roll, by the dice alone -/
theorem sp_roll {H : Hp} {D : Addr} {t : Int} {Q : VK} {E : XK} (hD : Dc H D) (h0 : 0 < t) (h1 : t < 1000) (k : ∀ (r : Int) H', 0 ≤ r → r < t → But D H H' → Dc H' D → Q (.int r) H') : spRoll [.ref D, .int t] H Q E := by
  obtain ⟨d0, d1, d2, e⟩ := hD
  exact ⟨D, d0, d1, d2, t, rfl, e, h0, by omega, fun r e0 e2 r0 r1 => k r _ r0 r1 But.upd ⟨e0, d1, e2, upd_same⟩⟩
/-- a text that may be drawn -/
def Gt (n : Nat) (z : Str) : Prop := z.length ≤ n ∧ ∀ c ∈ z.cps.toList, c < 0x110000
end
end LW
namespace LW
open PySem PySem.Spec PyProof.Rows L2 DW
section
variable {P : Program} {w : World} {K : PySem.W.Frag} {mg : Str → Option Value} {base : Heap}
theorem scShuf : FnScope ["dice", "items", "heap", "turn"] ["dice", "items"] (defScope s_law_shuffled) := ⟨rfl, rfl, rfl, by decide +kernel, rfl, by decide +kernel, by decide +kernel⟩
def spShuf : Sp := fun vs H Q _ => ∃ (D p : Addr) (ys : List V), vs = [.ref D, .ref p] ∧ Dc H D ∧ p ≠ D ∧ H p = some (.lst ys) ∧ ys.length ≤ 1000 ∧
  ∀ (L : Addr) (zs : List V) H', L ≠ D → H' L = some (.lst zs) → zs.Perm ys → But D H H' → Dc H' D → Q (.ref L) H'
abbrev tPopR (K : PySem.W.Frag) : TE := tBM K "list" rPopAt (tVar 2) (tCons (tCall spRoll [] E0 (tCons (tVar 0) (tCons (tCB (fun xs H Q => ∃ p ys, xs = [.ref p] ∧ (SqL K H p ys ∨ SqT K H p ys) ∧ Q (.int ys.length) H) (tCons (tVar 2) tNil)) tNil))) tNil)
theorem perm_erase {α : Type} : ∀ (l : List α) (i : Nat) (h : i < l.length), (l[i] :: l.eraseIdx i).Perm l
  | [], _, h => absurd h (by simp)
  | _ :: _, 0, _ => List.Perm.refl _
  | a :: l, i + 1, h => by
    show (l[i]'_ :: a :: l.eraseIdx i).Perm (a :: l)
    exact (List.Perm.swap a _ _).trans ((perm_erase l i (by simpa using h)).cons a)
theorem seq_at {r : Int} {n : Nat} (h0 : 0 ≤ r) (h1 : r < n) : seqIndex? r n = some r.toNat := by
  unfold seqIndex?
  have e : ¬ r < 0 := by omega
  simp only [e, if_false]
  rw [if_pos (by rw [Bool.and_eq_true, decide_eq_true_eq, decide_eq_true_eq]; exact ⟨h0, h1⟩)]
theorem rd_shuf {H0 H : Hp} {D p h : Addr} {ys : List V} {x3 : Option V} {Q : VK} (b0 : But D H0 H) (nh : H0 h = none) (hD : Dc H D) (neh : h ≠ D) (hp : H p = some (.lst ys)) (hh : H h = some (.lst ys)) (hl : ys.length ≤ 1000)
    (k : ∀ (L : Addr) (zs : List V) H', L ≠ D → H' L = some (.lst zs) → zs.Perm ys → But D H0 H' → Dc H' D → Q (.ref L) H') :
    tLc (iRng1 (tCons (tCB (fun xs H Q => ∃ p ys, xs = [.ref p] ∧ (SqL K H p ys ∨ SqT K H p ys) ∧ Q (.int ys.length) H) (tCons (tVar 1) tNil)) tNil)) (gName 3) tYes (tPopR K) [3] [some (.ref D), some (.ref p), some (.ref h), x3] H Q := by
  refine ⟨_, rfl, p, _, rfl, .inl (SqL.of hp), _, rfl, by omega, by omega, fun L nL => ?_⟩
  have neD := new_ne hD nL
  have neh2 : L ≠ h := fun e => by rw [e, hh] at nL; cases nL
  have en : ((ys.length : Nat) : Int).toNat = ys.length := by omega
  rw [en]
  have nL0 : ∀ q o, q ≠ D → H0 q = some o → q ≠ L := fun q o hq e z => by
    have w := b0 q o hq e
    rw [z, nL] at w
    cases w
  refine lc_range (lo := 0) (n := ys.length) (fun i H' => But D H0 H' ∧ Dc H' D ∧ ∃ hs zs : List V, H' h = some (.lst hs) ∧ hs.length + i = ys.length ∧ (hs ++ zs).Perm ys ∧ H' L = some (.lst zs) ∧ zs.length = i)
    ⟨b0.trans (Same.but (same_new nL)), hD.same (same_new nL), ys, [], by rw [upd_ne (Ne.symm neh2)]; exact hh, rfl, by simp, upd_same, rfl⟩ (fun i H' hi q => ⟨rfl, tyes ?_⟩) (fun H' q => ?_)
  · obtain ⟨b, ⟨d0, d1, d2, eD⟩, hs, zs, e1, e2, e3, e4, e5⟩ := q
    have pos : 0 < hs.length := by omega
    refine ⟨_, rfl, .inl ⟨rfl, _, SqL.of e1⟩, _, rfl, _, rfl, h, _, rfl, .inl (SqL.of e1), D, d0, d1, d2, _, rfl, eD, by omega, by omega, fun r f0 f2 r0 r1 => ?_⟩
    have hk : r.toNat < hs.length := by omega
    have e1' : upd H' D (.lst [.int f0, .int d1, .int f2]) h = some (.lst hs) := by rw [upd_ne neh]; exact e1
    refine ⟨h, hs, r, r.toNat, hs[r.toNat], rfl, rfl, e1', by omega, by omega, seq_at r0 r1, List.getElem?_eq_getElem hk, ?_⟩
    refine ⟨zs, by rw [upd_ne neh2, upd_ne neD]; exact e4, by rw [sizeLine_eq]; omega, ?_, ?_, hs.eraseIdx r.toNat, zs ++ [hs[r.toNat]], ?_, ?_, ?_, ?_, ?_⟩
    · intro q o hq e
      rw [upd_ne (nL0 q o hq e), upd_ne (ne_of_none e nh), upd_ne hq]
      exact b q o hq e
    · exact ⟨f0, d1, f2, by rw [upd_ne (Ne.symm neD), upd_ne (Ne.symm neh), upd_same]⟩
    · rw [upd_ne (Ne.symm neh2), upd_same]
    · rw [List.length_eraseIdx_of_lt hk]
      omega
    · refine List.Perm.trans ?_ e3
      rw [← List.append_assoc]
      refine (List.perm_append_comm (l₁ := hs.eraseIdx r.toNat ++ zs)).trans ?_
      show (hs[r.toNat] :: (hs.eraseIdx r.toNat ++ zs)).Perm _
      exact (perm_erase hs _ hk).append_right zs
    · exact upd_same
    · rw [List.length_append, e5]
      rfl
  · obtain ⟨b, d, hs, zs, _, e2, e3, e4, e5⟩ := q
    have z : hs = [] := List.length_eq_zero_iff.mp (by omega)
    subst z
    exact k L zs H' neD e4 e3 b d
theorem ok_shuf {f fR : Addr} {fd dR : FuncData} (F : Fun K "_law_shuffled" "_law_shuffled" s_law_shuffled f fd) (GR : FnOk P w K mg base CX0 1 fR dR ["dice", "total"] spRoll) (kR : PySem.W.keepIn K (.ref fR) = true) (bR : Binds K dR ["dice", "total"] []) (gR : mg "_law_roll" = some (.ref fR))
    (zL : mg "list" = none) (zR : mg "range" = none) (zN : mg "len" = none) : FnOk P w K mg base CX0 2 f fd ["dice", "items"] spShuf := by
  refine F.ok scShuf (fun vs H Q E h => ?_) (fun cdv A outer s H vs Q E hr h => ?_)
  · obtain ⟨D, p, ys, rfl, _⟩ := h
    rfl
  · obtain ⟨D, p, ys, rfl, hD, np, hp, hl, k⟩ := h
    refine ⟨_, pss_cons (ps_set (i := 2) scShuf.nd rfl (Or.inr rfl) (pe_callTy call_list_of (by rfl) zL (by decide +kernel) (pa_cons (pv 1) pa_nil)))
      (pss_one (ps_ret (pe_lc (own := [("turn", 3)]) (g := gName 3) (tt := tYes) rfl scShuf.nd (pi_range1 rfl zR (pa_cons (pe_callB call_len_seq (by rfl) zN PySem.boot_len (pa_cons (pv 1) pa_nil)) pa_nil))
          (blkOk_by (own := [("turn", 3)]) (N := ["dice", "items", "heap", "turn"]) (sc := defScope s_law_shuffled) (by decide +kernel)) (fun _ _ _ _ _ => pg_name (i := 3) scShuf.nd rfl (Or.inl rfl)) (fun _ _ _ _ _ => pts_nil)
          (te := tPopR K)
          (fun _ _ _ _ _ => pe_bm PySem.F.plainAttrs_list PySem.F.slot_list_pop PySem.F.type_list_pop mt_popAt (pv 2) (pa_cons (pe_call GR hr rfl gR kR bR .nil pass0 (pa_cons (pv 0) (pa_cons (pe_callB call_len_seq (by rfl) zN PySem.boot_len (pa_cons (pv 2) pa_nil)) pa_nil))) pa_nil))))), ?_⟩
    refine ⟨_, rfl, p, _, rfl, .inl (SqL.of hp), fun h nh => ?_⟩
    have s1 := same_new (o := .lst ys) nh
    exact rd_shuf (K := K) (Same.but s1) nh (hD.same s1) (new_ne hD nh) (s1 _ _ hp) upd_same hl k
end
end LW
namespace DW
open PySem PySem.Spec PyProof.Rows L2 PySem.W
/-! ### tuple(d), the keys -/
section
variable {prog : Program} {w : World} {A : Around} {E : Value → Shared → Prop} {s : Shared} {r d : Addr} {n : Nat} {Pv : Nat → Value → Prop} {OK : Heap → Prop}
theorem code_tuple_dict {Q₁ : Value → Shared → Prop} (S : KdlSrc prog w "dict" r d n Pv OK) (hh : A.handled = none) (hok : OK s.heap) (hn : n ≤ sizeLine)
    (h : ∀ (h' : Heap) (tk : Nat) (acc : Array Value), (∀ b o, s.heap.get? b = some o → h'.get? b = some o) → ItemsOf Pv acc n →
      Q₁ (.ref h'.objs.size) { s with heap := h'.push { cls := .type "tuple", data := .seq acc }, toks := tk }) :
    codeAny (model prog w) A (.call (.builtin "tuple.__new__") ⟨[.type "tuple", .ref r], []⟩) (wants Q₁ E) s := by
  refine codeAny_of_tree ?_
  show wpAny _ A.in1 (do checkBuiltinCall "tuple.__new__" ⟨[.type "tuple", .ref r], []⟩; again (.builtin "tuple.__new__" ⟨[.type "tuple", .ref r], []⟩)) _ _ s
  refine wpAny_bind (wpAny_of_eq (F.newCall_tuple_1 _) (wpAny_pure ⟨plainId_quiet F.plain_tuple_new _, codeAny_builtin F.entry_tuple_new ?_⟩))
  rw [Around.under_plainId F.plain_tuple_new _]
  have hsub := sub_tuple_self
  have hinit := init_tuple_lookup
  have hmh := madeHere_tuple
  have hTI : s.TypeIs (.ref r) "dict" := S.type _ hok
  have hh1 : A.in1.handled = none := hh
  wp_walk using wpAny_typeOf hTI, kdu_collect (A := A.in1) S hh1 hok hn
  intro h' tk acc hk hacc
  show wpAny _ _ (Builtin.Tuple.tupleExact acc.toList.toArray >>= fun v => ret v) _ _ _
  unfold Builtin.Tuple.tupleExact
  refine wpAny_bind (wpAny_newObj_type ?_ (by show acc.toList.toArray.size ≤ sizeLine; simp only [Array.toArray_toList]; rw [hacc.1]; exact hn))
  refine wpAny_pure ?_
  have e : acc.toList.toArray = acc := by simp
  rw [e]
  exact h h' tk acc hk hacc
theorem call_tuple_dict {Q : Value → Shared → Prop} (S : KdlSrc prog w "dict" r d n Pv OK) (hh : A.handled = none) (hok : OK s.heap) (hn : n ≤ sizeLine)
    (hQ : ∀ (h' : Heap) (tk : Nat) (acc : Array Value), (∀ b o, s.heap.get? b = some o → h'.get? b = some o) → ItemsOf Pv acc n →
      Q (.ref h'.objs.size) { s with heap := h'.push { cls := .type "tuple", data := .seq acc }, toks := tk }) :
    wpAny (model prog w) A (call (.type "tuple") [.ref r]) Q E s := by
  refine callType_codes (Q₁ := fun obj s₁ => s₁.TypeIs obj "tuple" ∧ Q obj s₁) F.called_tuple (F.typeCall_tuple_1 _) F.entry_object_init
    (code_tuple_dict (A := A.in1) S hh hok hn fun h' tk acc hk hacc => ⟨⟨_, Heap.get?_push_size _ rfl, rfl⟩, hQ h' tk acc hk hacc⟩) fun obj s₁ h₁ => ?_
  exact ⟨h₁.1, F.args_object_init_2 obj _, object_init_meets F.called_tuple.init.lookup F.called_tuple.made (by decide) prog w A.in1 _ s₁ ⟨h₁.1, rfl, h₁.2⟩⟩
end
section
variable {X : Cx}
theorem call_tupD (hc : X.calm = true) : CallR X (.type "tuple") (fun xs H Q => ∃ (a : Addr) (kvs : List (Key × V)), xs = [.ref a] ∧ Rd H a (.dK kvs) ∧ ∀ p, H p = none → Q (.ref p) (upd H p (.tup (kvs.map fun kv => kV kv.1)))) := by
  intro pins s σ H xs us Q I r q
  obtain ⟨a, kvs, ex, hd, q⟩ := q
  subst ex
  obtain ⟨u, eu, rx⟩ := vals1 r
  subst eu
  cases rx
  obtain ⟨z, lo, vs, rel, dd⟩ := dk_rd I.hok hd
  obtain ⟨ep, hat⟩ := dd.dictAt
  have ek : (kvs.map fun kv => kV kv.1) = vs.map fun p => kV p.1 := by
    have e := congrArg (List.map kV) rel.keys
    rw [List.map_map, List.map_map] at e
    exact e
  refine call_tuple_dict (kdl_dict (knd := mixKind X.prog X.w) (kvs := vs) (ep := ep) lo) (I.ok.hd hc) hat (by rw [← rel.length]; exact z) fun h' tk acc hk hacc => ?_
  have hv : Vals (vs.map fun p => kV p.1) acc.toList := keys_at (by rw [Array.length_toList]; exact hacc.1) fun j v e => hacc.2 j v (by rw [← Array.getElem?_toList]; exact e)
  have I1 : Inv X pins σ H { s with heap := h', toks := tk } := I.kept hk
  refine ⟨.ref h'.objs.size, upd H h'.objs.size (.tup (kvs.map fun kv => kV kv.1)), I1.laid (t' := tk) (fun b o e => Heap.get?_push_of_some _ e) (Nat.le_refl _) ?_, rfl, q _ (I1.hok.fresh (Nat.le_refl _))⟩
  exact ⟨by rw [List.length_map]; exact z, acc.toList, by rw [ek]; exact hv, by rw [Array.toArray_toList]; exact IsTup.new _ _⟩
theorem kt_addrs {H : Hp} {kvs : List (List Key × V)} {ys : List (List Key × Addr × Value)} (rel : KT H kvs ys) : Paired (fun (b : Addr) (kv : List Key × V) => H b = some (.tup (kv.1.map kV))) (ys.map fun y => y.2.1) kvs := by
  induction rel with
  | nil => exact .nil
  | cons h t ih =>
    obtain ⟨e1, e2, _⟩ := h
    exact .cons e2 ih
/-- .. the keys tuples -/
theorem call_tupDT (hc : X.calm = true) : CallR X (.type "tuple") (fun xs H Q => ∃ (a : Addr) (kvs : List (List Key × V)), xs = [.ref a] ∧ Rd H a (.dT kvs) ∧ ∀ (bs : List Addr) (p : Addr), Paired (fun (b : Addr) (kv : List Key × V) => H b = some (.tup (kv.1.map kV))) bs kvs → H p = none → Q (.ref p) (upd H p (.tup (bs.map V.ref)))) := by
  intro pins s σ H xs us Q I r q
  obtain ⟨a, kvs, ex, hd, q⟩ := q
  subst ex
  obtain ⟨u, eu, rx⟩ := vals1 r
  subst eu
  cases rx
  obtain ⟨z, notSys, ys, rel, o, es, ep, ho, hx, hdat, ents, nd⟩ := (show ObjOk X.prog X.w H s.heap a (.dT kvs) from hd.ok I.hok)
  have l1 : es.size = ys.length := by rw [← Array.length_toList, ents, List.length_map]
  have l2 : kvs.length = ys.length := Paired.length rel
  refine call_tuple_dict (kdl_raw notSys hx hdat) (I.ok.hd hc) ho (by rw [l1, ← l2]; exact z) fun h' tk acc old its => ?_
  have ea : acc.toList = (ys.map fun y => y.2.1).map Value.ref := by
    have len : acc.toList.length = ys.length := by rw [Array.length_toList, its.1]; exact l1
    rw [List.map_map]
    apply List.ext_getElem?
    intro j
    rw [List.getElem?_map]
    cases hj : acc.toList[j]? with
    | none =>
      have h1 := List.getElem?_eq_none_iff.mp hj
      rw [List.getElem?_eq_none (by omega)]
      rfl
    | some v =>
      obtain ⟨en, hen, hv⟩ := its.2 j v (by rw [← Array.getElem?_toList]; exact hj)
      have qe : es.toList[j]? = some en := by rw [Array.getElem?_toList]; exact hen
      rw [ents, List.getElem?_map] at qe
      cases hb : ys[j]? with
      | none => rw [hb] at qe; cases qe
      | some b =>
        rw [hb] at qe
        have e2 : entryOfKey (tupleKind (mixKind X.prog X.w)) b = en := Option.some.inj qe
        rw [hv, ← e2]
        rfl
  have I1 : Inv X pins σ H { s with heap := h', toks := tk } := I.kept old
  have pr := kt_addrs rel
  refine ⟨.ref h'.objs.size, upd H h'.objs.size (.tup ((ys.map fun y => y.2.1).map V.ref)), I1.laid (t' := tk) (fun b o e => Heap.get?_push_of_some _ e) (Nat.le_refl _) ?_, rfl, q _ _ pr (I1.hok.fresh (Nat.le_refl _))⟩
  refine ⟨by rw [List.length_map, List.length_map, ← l2]; exact z, acc.toList, by rw [ea]; exact vals_refs _, by rw [Array.toArray_toList]; exact IsTup.new _ _⟩
end
end DW
namespace LW
open PySem PySem.Spec PyProof.Rows L2 DW
def sortN (D : PlainD) : PlainD := ⟨srtR D.L, srtR D.W, srtR D.B⟩
abbrev netF (la wa ba ea ra : Addr) : List (Str × V) := [("_lasts", .ref la), ("_works", .ref wa), ("_bounds", .ref ba), ("_ended", .ref ea), ("_rows", .ref ra)]
def endW (W : Ws) : Es := W.map fun p => (p.2.2.1, p.1)
/-- a net at x -/
def NetAt (K : PySem.W.Frag) (C : Addr) (H : Hp) (x : Addr) (D : PlainD) : Prop := ∃ (dx la wa ba ea ra : Addr), H x = some (.ins C dx (netF la wa ba ea ra)) ∧ TD inD K H la D.L ∧ TD wkD K H wa D.W ∧ TD bdD K H ba D.B ∧ TD stD K H ea (endW D.W) ∧ TT K H ra (toldR D)
theorem NetAt.same {K : PySem.W.Frag} {C : Addr} {H H' : Hp} {x : Addr} {D : PlainD} (s : Same H H') (h : NetAt K C H x D) : NetAt K C H' x D := by
  obtain ⟨dx, la, wa, ba, ea, ra, h1, h2, h3, h4, h5, h6⟩ := h
  exact ⟨dx, la, wa, ba, ea, ra, s _ _ h1, h2.same s, h3.same s, h4.same s, h5.same s, h6.same s⟩
theorem srtR_perm {α : Type} {rs : List (Str × α)} (nd : (rs.map (·.1)).Nodup) : (srtR rs).Perm rs := by
  have key : ∀ {l m : List (Str × α)}, (l.map (·.1)).Nodup → (m.map (·.1)).Nodup → (∀ p, p ∈ l ↔ p ∈ m) → l.Perm m := by
    intro l
    induction l with
    | nil =>
      intro m _ _ h
      cases m with
      | nil => exact .nil
      | cons y m => exact absurd ((h y).mpr (List.mem_cons_self ..)) (by simp)
    | cons x l ih =>
      intro m hl hm h
      obtain ⟨m1, m2, rfl⟩ := List.append_of_mem ((h x).mp (List.mem_cons_self ..))
      have p1 : (m1 ++ x :: m2).Perm (x :: (m1 ++ m2)) := List.perm_middle
      refine .trans (.cons x ?_) p1.symm
      have hm2 := (p1.map (·.1)).nodup_iff.mp hm
      rw [List.map_cons, List.nodup_cons] at hm2 hl
      refine ih hl.2 hm2.2 fun p => ?_
      constructor
      · intro q
        have z := p1.mem_iff.mp ((h p).mp (List.mem_cons_of_mem _ q))
        refine (List.mem_cons.mp z).resolve_left fun e => hl.1 ?_
        subst e
        exact List.mem_map.mpr ⟨_, q, rfl⟩
      · intro q
        have z := (h p).mpr (p1.mem_iff.mpr (List.mem_cons_of_mem _ q))
        refine (List.mem_cons.mp z).resolve_left fun e => hm2.1 ?_
        subst e
        exact List.mem_map.mpr ⟨_, q, rfl⟩
  exact key (srtR_nodup nd) nd fun p => srtR_mem nd
theorem knownB_sort {L : Ls} (nd : (L.map (·.1)).Nodup) (z : Str) : knownB (srtR L) z = knownB L z := by
  unfold knownB
  rw [srtR_names]
  congr 1
  by_cases m : z ∈ L.map (·.1)
  · rw [decide_eq_true m, decide_eq_true (srt_mem.mpr m)]
  · rw [decide_eq_false m, decide_eq_false fun q => m (srt_mem.mp q)]
theorem OkN.sort {D : PlainD} (ok : OkN D) : OkN (sortN D) where
  l := ⟨srtR_nodup ok.l.nd, by rw [show (sortN D).L = srtR D.L from rfl, srtR_len]; exact ok.l.len, fun p m => ok.l.name p ((srtR_mem ok.l.nd).mp m), fun p m => ok.l.tick p ((srtR_mem ok.l.nd).mp m)⟩
  w := by
    refine ⟨srtR_nodup ok.w.nd, by rw [show (sortN D).W = srtR D.W from rfl, srtR_len]; exact ok.w.len, fun p m => ok.w.name p ((srtR_mem ok.w.nd).mp m), fun p m => ?_, ?_, ?_, fun p m q n => ok.w.look p ((srtR_mem ok.w.nd).mp m) q ((srtR_mem ok.w.nd).mp n)⟩
    · have z := ok.w.wk p ((srtR_mem ok.w.nd).mp m)
      exact ⟨(knownB_sort ok.l.nd _).trans z.b, (knownB_sort ok.l.nd _).trans z.e, z.ne, z.be, z.l, z.lm, z.m, z.k⟩
    · exact ((srtR_perm ok.w.nd).map fun p => p.2.2.1).nodup_iff.mpr ok.w.ends
    · obtain ⟨r, hr⟩ := ok.w.rank
      exact ⟨r, fun p m => hr p ((srtR_mem ok.w.nd).mp m)⟩
  b := by
    refine ⟨srtR_nodup ok.b.nd, by rw [show (sortN D).B = srtR D.B from rfl, srtR_len]; exact ok.b.len, fun p m => ok.b.name p ((srtR_mem ok.b.nd).mp m), fun p m => ?_⟩
    have z := ok.b.bd p ((srtR_mem ok.b.nd).mp m)
    exact ⟨(knownB_sort ok.l.nd _).trans z.f, (knownB_sort ok.l.nd _).trans z.s, z.ne, z.m⟩
section
variable {α : Type} {enc : α → PyData} {K : PySem.W.Frag} {H H' : Hp} {x C dx a : Addr} {fs : List (Str × V)} {rs : List (Str × α)} {v : V}
theorem sk_but (hx : H x = some (.ins C dx fs)) (b : But x H H') : Sk H H' := by
  have ne : ∀ c o, Rd H c o → (∀ y, o ≠ .ins C dx y) → c ≠ x := fun c o r n e => by
    subst e
    rcases r with r | ⟨z, r⟩
    · rw [hx] at r; cases r; exact n _ rfl
    · rw [hx] at r; cases r
  refine ⟨fun c xs r => ?_, fun c xs r => ?_⟩
  · have nc := ne c _ r fun y z => nomatch z
    exact r.elim (fun r => .inl (b _ _ nc r)) fun ⟨z, r⟩ => .inr ⟨z, b _ _ nc r⟩
  · have nc := ne c _ r fun y z => nomatch z
    exact r.elim (fun r => .inl (b _ _ nc r)) fun ⟨z, r⟩ => .inr ⟨z, b _ _ nc r⟩
theorem td_but (hx : H x = some (.ins C dx fs)) (b : But x H H') (h : TD enc K H a rs) : TD enc K H' a rs := by
  obtain ⟨kvs, e, t⟩ := h
  exact ⟨kvs, b _ _ (ne_of e hx (fun z => nomatch z)) e, t.sk (sk_but hx b)⟩
theorem lot_but (hx : H x = some (.ins C dx fs)) (b : But x H H') (h : Lot enc K H v rs) : Lot enc K H' v rs := by
  rcases h with ⟨a, rfl, t⟩ | ⟨rfl, t, rfl, ht⟩
  · exact .inl ⟨a, rfl, td_but hx b t⟩
  · exact .inr ⟨rfl, t, rfl, sqT_sk (sk_but hx b) ht⟩
theorem tt_but {d : Addr} {rows : List RowP} (hx : H x = some (.ins C dx fs)) (b : But x H H') (h : TT K H d rows) : TT K H' d rows := by
  obtain ⟨kt, e, t⟩ := h
  exact ⟨kt, b _ _ (ne_of e hx (fun z => nomatch z)) e, t.tk (sk_but hx b).2⟩
end
section
variable {P : Program} {w : World} {K : PySem.W.Frag} {mg : Str → Option Value} {base : Heap}
abbrev iniN : List Str := ["self", "lasts", "works", "bounds", "fault", "name"]
theorem scIni : FnScope iniN ["self", "lasts", "works", "bounds"] (defScope m_Net_init) := ⟨rfl, rfl, rfl, by decide +kernel, rfl, by decide +kernel, by decide +kernel⟩
def spNet (K : PySem.W.Frag) (C : Addr) : Sp := fun vs H Q _ => ∃ (x dx a : Addr) (v u : V) (D : PlainD), vs = [.ref x, .ref a, v, u] ∧ H x = some (.ins C dx []) ∧ TD inD K H a D.L ∧ Lot wkD K H v D.W ∧ Lot bdD K H u D.B ∧ OkN D ∧ ∀ H', But x H H' → NetAt K C H' x (sortN D) → Q .non H'
structure NetK (K : PySem.W.Frag) (C : Addr) : Prop where
  c : Cls K C
  l : NoAttr K C "_lasts"
  w : NoAttr K C "_works"
  b : NoAttr K C "_bounds"
  e : NoAttr K C "_ended"
  r : NoAttr K C "_rows"
theorem ok_init {f fN fT C : Addr} {fd dN dT : FuncData} {dvs : List V} {kws : List (Str × V)} (F : FunD K "__init__" "Net.__init__" (defArgs m_Net_init) (defBody m_Net_init) (defScope m_Net_init) dvs kws f fd) (CN : Cal P w K mg base 5 "net_fault" ["lasts", "works", "bounds"] (spNF K) fN dN)
    (CT : Cal P w K mg base 1 "_told_rows" ["lasts", "works", "bounds"] (spTold K) fT dT) (N : NetK K C) (zS : mg "sorted" = none) : FnOk P w K mg base CX0 6 f fd ["self", "lasts", "works", "bounds"] (spNet K C) := by
  refine F.ok scIni (fun vs H Q E h => ?_) (fun cdv A outer s H vs Q E hr h => ?_)
  · obtain ⟨x, dx, a, v, u, D, rfl, _⟩ := h
    rfl
  obtain ⟨x, dx, a, v, u, D, rfl, hx, td, tw, tb, ok, k⟩ := h
  refine ⟨_, pss_cons (ps_set (i := 4) scIni.nd rfl (Or.inl rfl) (pe_cal (E := E0) CN hr rfl (pa_cons (pv 1) (pa_cons (pv 2) (pa_cons (pv 3) pa_nil)))))
    (pss_cons (ps_if (pt_cmp (pc_notN (pv 4))) dead pss_nil)
    (pss_cons (ps_fld (pv 0) (pe_dc (own := [("name", 5)]) (g := gName 5) (tt := tYes) rfl scIni.nd (pi_list (pe_callB (cr_srtL rfl hr.units) (by rfl) zS (by decide +kernel) (pa_cons (pv 1) pa_nil))) (blkOk_by (own := [("name", 5)]) (N := iniN) (sc := defScope m_Net_init) (by decide +kernel))
        (fun _ _ _ _ _ => pg_name (i := 5) scIni.nd rfl (Or.inl rfl)) (fun _ _ _ _ _ => pts_nil) (fun _ _ _ _ _ => pv 5) (fun _ _ _ _ _ => pe_dget (hu_of hr) (pv 1) (pv 5) (fun _ _ => rfl))) rfl)
    (pss_cons (ps_fld (pv 0) (pe_dc (own := [("name", 5)]) (g := gName 5) (tt := tYes) rfl scIni.nd (pi_list (pe_callB (cr_srtL rfl hr.units) (by rfl) zS (by decide +kernel) (pa_cons (pv 2) pa_nil))) (blkOk_by (own := [("name", 5)]) (N := iniN) (sc := defScope m_Net_init) (by decide +kernel))
        (fun _ _ _ _ _ => pg_name (i := 5) scIni.nd rfl (Or.inl rfl)) (fun _ _ _ _ _ => pts_nil) (fun _ _ _ _ _ => pv 5) (fun _ _ _ _ _ => pe_dget (hu_of hr) (pv 2) (pv 5) (fun _ _ => rfl))) rfl)
    (pss_cons (ps_fld (pv 0) (pe_dc (own := [("name", 5)]) (g := gName 5) (tt := tYes) rfl scIni.nd (pi_list (pe_callB (cr_srtL rfl hr.units) (by rfl) zS (by decide +kernel) (pa_cons (pv 3) pa_nil))) (blkOk_by (own := [("name", 5)]) (N := iniN) (sc := defScope m_Net_init) (by decide +kernel))
        (fun _ _ _ _ _ => pg_name (i := 5) scIni.nd rfl (Or.inl rfl)) (fun _ _ _ _ _ => pts_nil) (fun _ _ _ _ _ => pv 5) (fun _ _ _ _ _ => pe_dget (hu_of hr) (pv 3) (pv 5) (fun _ _ => rfl))) rfl)
    (pss_cons (ps_fld (pv 0) (pe_lock (pe_dc (own := [("name", 5)]) (g := gName 5) (tt := tYes) (tk := tOp (rIxT K) (tDGet (tFld K (tVar 0) "_works") (tVar 5)) (tC (.int 1))) rfl scIni.nd (pi_keys (pe_fld (pv 0) rfl)) (blkOk_by (own := [("name", 5)]) (N := iniN) (sc := defScope m_Net_init) (by decide +kernel))
        (fun _ _ _ _ _ => pg_name (i := 5) scIni.nd rfl (Or.inl rfl)) (fun _ _ _ _ _ => pts_nil) (fun _ _ _ _ _ => pe_ix (r := rIxT K) ix_tup (pe_dget (hu_of hr) (pe_fld (pv 0) rfl) (pv 5) (fun _ _ => rfl)) pe_int (fun _ _ => rfl)) (fun _ _ _ _ _ => pv 5))) rfl)
    (PSs.nox (pss_one (ps_fld (pv 0) (pe_cal (E := E0) CT (Room.mono hr (by decide)) rfl (pa_cons (pe_fld (pv 0) rfl) (pa_cons (pe_fld (pv 0) rfl) (pa_cons (pe_fld (pv 0) rfl) pa_nil))) (Nat.le_refl _)) rfl)))))))), ?_⟩
  have nl := ok.l.nd
  have nw := ok.w.nd
  have nb := ok.b.nd
  have l1 := ok.l.len.2
  have l2 := ok.w.len
  have l3 := ok.b.len
  refine ⟨_, rfl, _, rfl, _, rfl, a, v, u, D, rfl, td, tw, tb, ok, fun H1 s1 => ⟨_, rfl, _, rfl, ite0 (by simp) ?_⟩⟩
  have hx1 := s1 _ _ hx
  -- lasts
  refine ⟨_, rfl, _, _, rfl, Lot.names (.inl ⟨a, rfl, td.same s1⟩), by rw [List.length_map]; omega, fun p np => ⟨p, rfl, ⟨_, SqL.of upd_same⟩, fun d1 nd1 => sc_it (enc := inD) (K := K) (i := 5) (j := 1) (by show 5 < 6; decide) (by decide) rfl (.inl ⟨a, rfl, td.same (s1.trans (same_new np))⟩) nl (by omega) upd_same nd1 fun H2 s2 t1 => ?_⟩⟩
  have s12 := s1.trans ((same_new np).trans s2)
  have hx2 := s12 _ _ hx
  refine ⟨_, rfl, x, C, dx, _, rfl, hx2, N.c, N.l, by show 0 < 1000; decide, ?_⟩
  generalize hG1 : upd H2 x (HO.ins C dx (putF "_lasts" (V.ref d1) [])) = G1
  have xG1 : G1 x = some (.ins C dx [("_lasts", .ref d1)]) := by rw [← hG1]; exact upd_same
  have c1 : But x H2 G1 := by rw [← hG1]; exact But.upd
  have b1 : But x H G1 := (Same.but s12).trans c1
  have t1 := td_but hx2 c1 t1
  -- works
  refine ⟨_, rfl, _, _, rfl, (lot_but hx b1 tw).names, by rw [List.length_map]; omega, fun p np => ⟨p, rfl, ⟨_, SqL.of upd_same⟩, fun d2 nd2 => sc_it (enc := wkD) (K := K) (i := 5) (j := 2) (by show 5 < 6; decide) (by decide) rfl ((lot_but hx b1 tw).same (same_new np)) nw (by omega) upd_same nd2 fun H3 s3 t2 => ?_⟩⟩
  have s3 := (same_new np).trans s3
  have hx3 := s3 _ _ xG1
  refine ⟨_, rfl, x, C, dx, _, rfl, hx3, N.c, N.w, by show 1 < 1000; decide, ?_⟩
  generalize hG2 : upd H3 x (HO.ins C dx (putF "_works" (V.ref d2) [("_lasts", .ref d1)])) = G2
  have xG2 : G2 x = some (.ins C dx [("_lasts", .ref d1), ("_works", .ref d2)]) := by rw [← hG2]; exact upd_same
  have c2 : But x H3 G2 := by rw [← hG2]; exact But.upd
  have b2 : But x H G2 := (b1.trans (Same.but s3)).trans c2
  have t1 := td_but hx3 c2 (t1.same s3)
  have t2 := td_but hx3 c2 t2
  -- bounds
  refine ⟨_, rfl, _, _, rfl, (lot_but hx b2 tb).names, by rw [List.length_map]; omega, fun p np => ⟨p, rfl, ⟨_, SqL.of upd_same⟩, fun d3 nd3 => sc_it (enc := bdD) (K := K) (i := 5) (j := 3) (by show 5 < 6; decide) (by decide) rfl ((lot_but hx b2 tb).same (same_new np)) nb (by omega) upd_same nd3 fun H4 s4 t3 => ?_⟩⟩
  have s4 := (same_new np).trans s4
  have hx4 := s4 _ _ xG2
  refine ⟨_, rfl, x, C, dx, _, rfl, hx4, N.c, N.b, by show 2 < 1000; decide, ?_⟩
  generalize hG3 : upd H4 x (HO.ins C dx (putF "_bounds" (V.ref d3) [("_lasts", .ref d1), ("_works", .ref d2)])) = G3
  have xG3 : G3 x = some (.ins C dx [("_lasts", .ref d1), ("_works", .ref d2), ("_bounds", .ref d3)]) := by rw [← hG3]; exact upd_same
  have c3 : But x H4 G3 := by rw [← hG3]; exact But.upd
  have b3 : But x H G3 := (b2.trans (Same.but s4)).trans c3
  have t1 := td_but hx4 c3 (t1.same s4)
  have t2 := td_but hx4 c3 (t2.same s4)
  have t3 := td_but hx4 c3 t3
  -- ended
  obtain ⟨k2, e2, x2⟩ := t2
  have xd2 : x ≠ d2 := ne_of xG3 e2 (fun z => nomatch z)
  refine ⟨d2, _, e2, mut_dK, fun od => ⟨_, rfl, x, C, dx, _, .ref d2, rfl, by rw [upd_ne xd2]; exact xG3, N.c, N.w, rfl, d2, od, rfl, .inl ⟨k2, upd_same, fun d4 nd4 => ed_it (K := K) (i := 5) (L := D.L) (by show 5 < 6; decide) upd_same (x2.wk (Wk.lock e2 (fun _ _ z => nomatch z))) ok.w nd4 ?_ fun H5 s5 t4 => ?_⟩⟩⟩
  · intro σ' H' R n u hn hσ g s5 r
    exact ⟨_, hσ 0 _ (by decide) rfl, x, C, dx, _, .ref d2, rfl, s5 _ _ (by rw [upd_ne xd2]; exact xG3), N.c, N.w, rfl, _, hn, d2, u, rfl, g, r⟩
  · have n4 : G3 d4 = none := by
      by_cases e : d4 = d2
      · rw [e, upd_same] at nd4; cases nd4
      · rw [upd_ne e] at nd4; exact nd4
    obtain ⟨z1, s6⟩ := unlock e2 s5
    have t4 : TD stD K (upd H5 d2 (.dK k2)) d4 (endR D.W) := by
      obtain ⟨k4, e4, x4⟩ := t4
      exact ⟨k4, unlock_at (od := od) e2 n4 e4, tx_st x4⟩
    have hx6 := s6 _ _ xG3
    refine ⟨z1, _, rfl, x, C, dx, _, rfl, hx6, N.c, N.e, by show 3 < 1000; decide, ?_⟩
    generalize hG4 : upd (upd H5 d2 (.dK k2)) x (HO.ins C dx (putF "_ended" (V.ref d4) [("_lasts", .ref d1), ("_works", .ref d2), ("_bounds", .ref d3)])) = G4
    have xG4 : G4 x = some (.ins C dx [("_lasts", .ref d1), ("_works", .ref d2), ("_bounds", .ref d3), ("_ended", .ref d4)]) := by rw [← hG4]; exact upd_same
    have c4 : But x (upd H5 d2 (.dK k2)) G4 := by rw [← hG4]; exact But.upd
    have b4 : But x H G4 := (b3.trans (Same.but s6)).trans c4
    have t1 := td_but hx6 c4 (t1.same s6)
    have t2 : TD wkD K G4 d2 (srtR D.W) := td_but hx6 c4 (TD.same s6 ⟨k2, e2, x2⟩)
    have t3 := td_but hx6 c4 (t3.same s6)
    have t4 := td_but hx6 c4 t4
    refine ⟨_, rfl, x, C, dx, _, .ref d1, rfl, xG4, N.c, N.l, rfl, _, rfl, x, C, dx, _, .ref d2, rfl, xG4, N.c, N.w, rfl, _, rfl, x, C, dx, _, .ref d3, rfl, xG4, N.c, N.b, rfl, d1, d2, d3, sortN D, rfl, t1, t2, t3, ok.sort, fun d5 H6 s7 nd5 t5 => ?_⟩
    have hx7 := s7 _ _ xG4
    refine ⟨_, rfl, x, C, dx, _, rfl, hx7, N.c, N.r, by show 4 < 1000; decide, ?_⟩
    have c5 : But x H6 (upd H6 x (HO.ins C dx (putF "_rows" (V.ref d5) [("_lasts", .ref d1), ("_works", .ref d2), ("_bounds", .ref d3), ("_ended", .ref d4)]))) := But.upd
    exact k _ ((b4.trans (Same.but s7)).trans c5) ⟨dx, d1, d2, d3, d4, d5, upd_same, td_but hx7 c5 (t1.same s7), td_but hx7 c5 (t2.same s7), td_but hx7 c5 (t3.same s7), td_but hx7 c5 (t4.same s7), tt_but hx7 c5 t5⟩
end
end LW
namespace LW
open PySem PySem.Spec PyProof.Rows L2 DW
section
variable {P : Program} {w : World} {K : PySem.W.Frag} {mg : Str → Option Value} {base : Heap}
def spGet (K : PySem.W.Frag) (C : Addr) (R : PlainD → V → Hp → Hp → Prop) : Sp := fun vs H Q _ => ∃ (x : Addr) (D : PlainD), vs = [.ref x] ∧ NetAt K C H x D ∧ OkN D ∧ ∀ v H', Same H H' → R D v H H' → Q v H'
theorem scLa : FnScope ["self"] ["self"] (defScope m_Net_lasts) := ⟨rfl, rfl, rfl, by decide +kernel, rfl, by decide +kernel, by decide +kernel⟩
theorem scWo : FnScope ["self"] ["self"] (defScope m_Net_works) := ⟨rfl, rfl, rfl, by decide +kernel, rfl, by decide +kernel, by decide +kernel⟩
theorem scBo : FnScope ["self"] ["self"] (defScope m_Net_bounds) := ⟨rfl, rfl, rfl, by decide +kernel, rfl, by decide +kernel, by decide +kernel⟩
def rLasts (K : PySem.W.Frag) (D : PlainD) (v : V) (H H' : Hp) : Prop := ∃ d, v = .ref d ∧ H d = none ∧ TD inD K H' d D.L
def rWorks (K : PySem.W.Frag) (D : PlainD) (v : V) (H H' : Hp) : Prop := ∃ d, v = .ref d ∧ H d = none ∧ TD wkD K H' d D.W
def rBounds (K : PySem.W.Frag) (D : PlainD) (v : V) (H H' : Hp) : Prop := ∃ d, v = .ref d ∧ H d = none ∧ TD bdD K H' d D.B
theorem td_copy {α : Type} {enc : α → PyData} {H : Hp} {a p : Addr} {rs : List (Str × α)} {kvs : List (Key × V)} (t : Tx enc K H kvs rs) (n : H p = none) : TD enc K (upd H p (.dK kvs)) p rs := ⟨kvs, upd_same, t.wk (Wk.of (same_new n))⟩
theorem ok_pl {f C : Addr} {fd : FuncData} (F : Fun K "lasts" "Net.lasts" m_Net_lasts f fd) (N : NetK K C) (zD : mg "dict" = none) : FnOk P w K mg base CX0 1 f fd ["self"] (spGet K C (rLasts K)) := by
  refine F.ok scLa (fun vs H Q E h => ?_) (fun cdv A outer s H vs Q E hr h => ?_)
  · obtain ⟨x, D, rfl, _⟩ := h
    rfl
  obtain ⟨x, D, rfl, ⟨dx, la, wa, ba, ea, ra, h1, ⟨kl, e2, t2⟩, h3, h4, h5, h6⟩, ok, k⟩ := h
  refine ⟨_, pss_one (ps_ret (pe_callTy call_dictD (by rfl) zD (by decide +kernel) (pa_cons (pe_fld (pv 0) rfl) pa_nil))), ?_⟩
  exact ⟨_, rfl, x, C, dx, _, .ref la, rfl, h1, N.c, N.l, rfl, la, kl, rfl, .inl e2, fun p np => k _ _ (same_new np) ⟨p, rfl, np, td_copy (a := la) t2 np⟩⟩
theorem ok_pw {f C : Addr} {fd : FuncData} (F : Fun K "works" "Net.works" m_Net_works f fd) (N : NetK K C) (zD : mg "dict" = none) : FnOk P w K mg base CX0 1 f fd ["self"] (spGet K C (rWorks K)) := by
  refine F.ok scWo (fun vs H Q E h => ?_) (fun cdv A outer s H vs Q E hr h => ?_)
  · obtain ⟨x, D, rfl, _⟩ := h
    rfl
  obtain ⟨x, D, rfl, ⟨dx, la, wa, ba, ea, ra, h1, h2, ⟨kl, e2, t2⟩, h4, h5, h6⟩, ok, k⟩ := h
  refine ⟨_, pss_one (ps_ret (pe_callTy call_dictD (by rfl) zD (by decide +kernel) (pa_cons (pe_fld (pv 0) rfl) pa_nil))), ?_⟩
  exact ⟨_, rfl, x, C, dx, _, .ref wa, rfl, h1, N.c, N.w, rfl, wa, kl, rfl, .inl e2, fun p np => k _ _ (same_new np) ⟨p, rfl, np, td_copy (a := la) t2 np⟩⟩
theorem ok_pb {f C : Addr} {fd : FuncData} (F : Fun K "bounds" "Net.bounds" m_Net_bounds f fd) (N : NetK K C) (zD : mg "dict" = none) : FnOk P w K mg base CX0 1 f fd ["self"] (spGet K C (rBounds K)) := by
  refine F.ok scBo (fun vs H Q E h => ?_) (fun cdv A outer s H vs Q E hr h => ?_)
  · obtain ⟨x, D, rfl, _⟩ := h
    rfl
  obtain ⟨x, D, rfl, ⟨dx, la, wa, ba, ea, ra, h1, h2, h3, ⟨kl, e2, t2⟩, h5, h6⟩, ok, k⟩ := h
  refine ⟨_, pss_one (ps_ret (pe_callTy call_dictD (by rfl) zD (by decide +kernel) (pa_cons (pe_fld (pv 0) rfl) pa_nil))), ?_⟩
  exact ⟨_, rfl, x, C, dx, _, .ref ba, rfl, h1, N.c, N.b, rfl, ba, kl, rfl, .inl e2, fun p np => k _ _ (same_new np) ⟨p, rfl, np, td_copy (a := la) t2 np⟩⟩
/-- a tuple of texts -/
def rStrs (K : PySem.W.Frag) (g : PlainD → List Str) (D : PlainD) (v : V) (H H' : Hp) : Prop := ∃ t, v = .ref t ∧ H t = none ∧ H' t = some (.tup ((g D).map V.str))
theorem scEv : FnScope ["self"] ["self"] (defScope m_Net_events) := ⟨rfl, rfl, rfl, by decide +kernel, rfl, by decide +kernel, by decide +kernel⟩
theorem Tx.kv {α : Type} {enc : α → PyData} {H : Hp} {rs : List (Str × α)} {kvs : List (Key × V)} (h : Tx enc K H kvs rs) : (kvs.map fun kv => kV kv.1) = (rs.map (·.1)).map V.str := by
  have := congrArg (List.map kV) h.keys
  rw [List.map_map, List.map_map] at this
  exact this
theorem ok_ev {f C : Addr} {fd : FuncData} (F : Fun K "events" "Net.events" m_Net_events f fd) (N : NetK K C) (zT : mg "tuple" = none) : FnOk P w K mg base CX0 1 f fd ["self"] (spGet K C (rStrs K fun D => D.L.map (·.1))) := by
  refine F.ok scEv (fun vs H Q E h => ?_) (fun cdv A outer s H vs Q E hr h => ?_)
  · obtain ⟨x, D, rfl, _⟩ := h
    rfl
  obtain ⟨x, D, rfl, ⟨dx, la, wa, ba, ea, ra, h1, ⟨kl, e2, t2⟩, h3, h4, h5, h6⟩, ok, k⟩ := h
  refine ⟨_, pss_one (ps_ret (pe_callTy (call_tupD rfl) (by rfl) zT (by decide +kernel) (pa_cons (pe_fld (pv 0) rfl) pa_nil))), ?_⟩
  exact ⟨_, rfl, x, C, dx, _, .ref la, rfl, h1, N.c, N.l, rfl, la, kl, rfl, .inl e2, fun p np => k _ _ (same_new np) ⟨p, rfl, np, by rw [upd_same, Tx.kv t2]⟩⟩
/-- the keys of the rows -/
def rTold (K : PySem.W.Frag) (D : PlainD) (v : V) (H H' : Hp) : Prop := ∃ (t : Addr) (bs : List Addr), v = .ref t ∧ H t = none ∧ H' t = some (.tup (bs.map V.ref)) ∧ Paired (fun (b : Addr) (r : RowP) => H b = some (.tup [.str r.1.1, .str r.1.2])) bs (toldR D)
theorem ty_addrs {H : Hp} : ∀ {bs : List Addr} {kt : List (List Key × V)} {rs : List RowP}, Paired (fun (b : Addr) (kv : List Key × V) => H b = some (.tup (kv.1.map kV))) bs kt → Ty K H kt rs → Paired (fun (b : Addr) (r : RowP) => H b = some (.tup [.str r.1.1, .str r.1.2])) bs rs
  | _, _, _, .nil, y => by
    cases y
    exact .nil
  | _, _, _, .cons h t, y => by
    cases y with
    | cons q y =>
      refine .cons ?_ (ty_addrs t y)
      rw [q.1] at h
      exact h
theorem scTo : FnScope ["self"] ["self"] (defScope m_Net_told) := ⟨rfl, rfl, rfl, by decide +kernel, rfl, by decide +kernel, by decide +kernel⟩
theorem ok_pt {f C : Addr} {fd : FuncData} (F : Fun K "told" "Net.told" m_Net_told f fd) (N : NetK K C) (zT : mg "tuple" = none) : FnOk P w K mg base CX0 1 f fd ["self"] (spGet K C (rTold K)) := by
  refine F.ok scTo (fun vs H Q E h => ?_) (fun cdv A outer s H vs Q E hr h => ?_)
  · obtain ⟨x, D, rfl, _⟩ := h
    rfl
  obtain ⟨x, D, rfl, ⟨dx, la, wa, ba, ea, ra, h1, h2, h3, h4, h5, ⟨kt, e6, t6⟩⟩, ok, k⟩ := h
  refine ⟨_, pss_one (ps_ret (pe_callTy (call_tupDT rfl) (by rfl) zT (by decide +kernel) (pa_cons (pe_fld (pv 0) rfl) pa_nil))), ?_⟩
  exact ⟨_, rfl, x, C, dx, _, .ref ra, rfl, h1, N.c, N.r, rfl, ra, kt, rfl, .inl e6, fun bs p pr np => k _ _ (same_new np) ⟨p, bs, rfl, np, upd_same, ty_addrs pr t6⟩⟩
def deedsL (D : PlainD) : List Str := (D.L.map (·.1)).filter fun n => !decide (n ∈ (endW D.W).map (·.1))
def endsL (D : PlainD) : List Str := (D.L.map (·.1)).filter fun n => decide (n ∈ (endW D.W).map (·.1))
theorem scDe : FnScope ["self", "event"] ["self"] (defScope m_Net_deeds) := ⟨rfl, rfl, rfl, by decide +kernel, rfl, by decide +kernel, by decide +kernel⟩
theorem scEn : FnScope ["self", "event"] ["self"] (defScope m_Net_ends) := ⟨rfl, rfl, rfl, by decide +kernel, rfl, by decide +kernel, by decide +kernel⟩
theorem filt_succ {g : Str → Bool} {L : Ls} {i : Nat} {p : Str × Int} (h : L[i]? = some p) : (((L.take (i + 1)).map (·.1)).filter g) = (((L.take i).map (·.1)).filter g) ++ (if g p.1 = true then [p.1] else []) := by
  rw [take_succ_map h, List.filter_append]
  congr 1
  by_cases e : g p.1 = true
  · rw [if_pos e]; simp [e]
  · rw [if_neg e]; simp [e]
theorem none_lock {H H' : Hp} {a l : Addr} {o : HO} (s : Same (upd H a o) H') (n : H' l = none) : H l = none := by
  have z := none_of s n
  by_cases e : l = a
  · rw [e, upd_same] at z; cases z
  · rw [upd_ne e] at z; exact z
/-- [event for event in lasts if ..] -/
theorem fl_it {g : Str → Bool} {a : Addr} {L : Ls} {kvs : List (Key × V)} {od : Obj} {σ : L2.St} {H : Hp} {D : Addr} {i : Nat} {tt : L2.TT} {Qd : Hp → Prop} (hi : i < σ.length) (ha : H a = some (.frz od (.dK kvs))) (tx : Tx inD K H kvs L) (hl : L.length ≤ 1000) (hD : H D = none)
    (htt : ∀ {σ' : L2.St} {H' : Hp} {R : Bool → Hp → Prop} {n : Str}, σ'[i]? = some (some (.str n)) → (∀ j z, i ≠ j → σ[j]? = some (some z) → σ'[j]? = some (some z)) → Same H H' → R (g n) H' → tt σ' H' R)
    (k : ∀ H', Same H H' → H' D = some (.lst (((L.map (·.1)).filter g).map V.str)) → Qd H') :
    ∃ Wf : Nat → Nat → Hp → Prop, (∃ m, Wf 0 m (upd H D (.lst []))) ∧ ∀ n m H, Wf n m H →
      ((Itk a od kvs).stop n H ∧ Qd H) ∨ ((Itk a od kvs).go n H ∧ ∃ Nx : Hp → Prop, (∀ H', Nx H' → ∃ m', m' < m ∧ Wf (n + 1) m' H') ∧ ∀ x H', (Itk a od kvs).yld n H x H' → gName i x (wipe σ [i]) H' fun σ2 H2 => wipe σ2 [i] = wipe σ [i] ∧ tt σ2 H2 fun b H3 =>
        if b = true then tVar i σ2 H3 fun y H4 => ∃ acc, H4 D = some (.lst acc) ∧ acc.length < sizeLine ∧ Nx (upd H4 D (.lst (acc ++ [y]))) else Nx H3) := by
  have ll : kvs.length = L.length := Paired.length tx
  refine lc_it (walk_keys (d := a) (o := od) (kvs := kvs)) (fun n H' => Same H H' ∧ H' D = some (.lst ((((L.take n).map (·.1)).filter g).map V.str))) ⟨same_new hD, upd_same⟩ (fun n H' q => fun z => z.1 _ _ ha) (fun n x H1 H2 hn q y => ?_) (fun H' q => ?_)
  · obtain ⟨rfl, key, v, hk, rfl⟩ := y
    obtain ⟨s1, e1⟩ := q
    obtain ⟨p, hp, e, dv⟩ := tx.at hk
    have e : key = .inr p.1 := e
    subst e
    have si : ((wipe σ [i]).set i (some (V.str p.1)))[i]? = some (some (.str p.1)) := by simp [wipe, hi]
    refine ⟨by simp [gName, wipe], htt si (fun j z hj e => by simp [wipe, hj, e]) s1 ?_⟩
    by_cases gp : g p.1 = true
    · refine ite1 gp ⟨_, si, _, e1, ?_, same_mut s1 hD, ?_⟩
      · have h1 : (((L.take n).map (·.1)).filter g).length ≤ ((L.take n).map (·.1)).length := List.length_filter_le _ _
        rw [List.length_map, List.length_take] at h1
        rw [List.length_map, sizeLine_eq]
        omega
      · rw [upd_same, filt_succ hp, if_pos gp, List.map_append]
        rfl
    · refine ite0 (by simpa using gp) ⟨s1, ?_⟩
      rw [filt_succ hp, if_neg gp, List.append_nil]
      exact e1
  · obtain ⟨s1, e1⟩ := q
    rw [ll, List.take_length] at e1
    exact k H' s1 e1
theorem ok_de {f C : Addr} {fd : FuncData} (F : Fun K "deeds" "Net.deeds" m_Net_deeds f fd) (N : NetK K C) (zT : mg "tuple" = none) : FnOk P w K mg base CX0 1 f fd ["self"] (spGet K C (rStrs K deedsL)) := by
  refine F.ok scDe (fun vs H Q E h => ?_) (fun cdv A outer s H vs Q E hr h => ?_)
  · obtain ⟨x, D, rfl, _⟩ := h
    rfl
  obtain ⟨x, D, rfl, ⟨dx, la, wa, ba, ea, ra, h1, ⟨kl, e2, t2⟩, h3, h4, h5, h6⟩, ok, k⟩ := h
  refine ⟨_, pss_one (ps_ret (pe_lock (pe_callTy call_tuple_of (by rfl) zT (by decide +kernel) (pa_cons (pe_lc (own := [("event", 1)]) (g := gName 1) (tt := tB (tDNotIn (tVar 1) (tFld K (tVar 0) "_ended"))) rfl scDe.nd (pi_keys (pe_fld (pv 0) rfl)) (blkOk_by (own := [("event", 1)]) (N := ["self", "event"]) (sc := defScope m_Net_deeds) (by decide +kernel))
    (fun _ _ _ _ _ => pg_name (i := 1) scDe.nd rfl (Or.inl rfl)) (fun _ _ _ _ _ => pts_one (pt_cmp (pc_dnotin (hu_of hr) (pv 1) (pe_fld (pv 0) rfl)))) (fun _ _ _ _ _ => pv 1)) pa_nil)))), ?_⟩
  have xl : x ≠ la := ne_of h1 e2 (fun z => nomatch z)
  refine ⟨la, _, e2, mut_dK, fun od => ⟨_, rfl, x, C, dx, _, .ref la, rfl, by rw [upd_ne xl]; exact h1, N.c, N.l, rfl, la, od, rfl, .inl ⟨kl, upd_same, fun d nd => fl_it (K := K) (g := fun n => !decide (n ∈ (endW D.W).map (·.1))) (i := 1) (L := D.L) (by show 1 < 2; decide) upd_same (t2.wk (Wk.lock e2 (fun _ _ z => nomatch z))) (by have := ok.l.len.2; omega) nd ?_ fun H' s e => ?_⟩⟩⟩
  · intro σ' H' R n hn hσ s r
    have tr : TR stD K H' ea (endW D.W) := h5.tr.wk ((Wk.lock e2 (fun _ _ z => nomatch z)).trans (Wk.of s))
    obtain ⟨o, g, eo⟩ := tr.has n
    refine ⟨_, hn, _, hσ 0 _ (by decide) rfl, x, C, dx, _, .ref ea, rfl, s _ _ (by rw [upd_ne xl]; exact h1), N.c, N.e, rfl, ea, o, rfl, g, _, rfl, ?_⟩
    rw [eo]
    exact r
  · refine ⟨d, _, rfl, .inl ⟨SqL.of e, fun l nl => ?_⟩⟩
    obtain ⟨z1, z2⟩ := unlock e2 (s.trans (same_new nl))
    exact ⟨z1, k _ _ z2 ⟨l, rfl, none_lock s nl, unlock_at (od := od) e2 (none_lock s nl) upd_same⟩⟩
theorem ok_en {f C : Addr} {fd : FuncData} (F : Fun K "ends" "Net.ends" m_Net_ends f fd) (N : NetK K C) (zT : mg "tuple" = none) : FnOk P w K mg base CX0 1 f fd ["self"] (spGet K C (rStrs K endsL)) := by
  refine F.ok scEn (fun vs H Q E h => ?_) (fun cdv A outer s H vs Q E hr h => ?_)
  · obtain ⟨x, D, rfl, _⟩ := h
    rfl
  obtain ⟨x, D, rfl, ⟨dx, la, wa, ba, ea, ra, h1, ⟨kl, e2, t2⟩, h3, h4, h5, h6⟩, ok, k⟩ := h
  refine ⟨_, pss_one (ps_ret (pe_lock (pe_callTy call_tuple_of (by rfl) zT (by decide +kernel) (pa_cons (pe_lc (own := [("event", 1)]) (g := gName 1) (tt := tB (tDIn (tVar 1) (tFld K (tVar 0) "_ended"))) rfl scEn.nd (pi_keys (pe_fld (pv 0) rfl)) (blkOk_by (own := [("event", 1)]) (N := ["self", "event"]) (sc := defScope m_Net_ends) (by decide +kernel))
    (fun _ _ _ _ _ => pg_name (i := 1) scEn.nd rfl (Or.inl rfl)) (fun _ _ _ _ _ => pts_one (pt_cmp (pc_din (hu_of hr) (pv 1) (pe_fld (pv 0) rfl)))) (fun _ _ _ _ _ => pv 1)) pa_nil)))), ?_⟩
  have xl : x ≠ la := ne_of h1 e2 (fun z => nomatch z)
  refine ⟨la, _, e2, mut_dK, fun od => ⟨_, rfl, x, C, dx, _, .ref la, rfl, by rw [upd_ne xl]; exact h1, N.c, N.l, rfl, la, od, rfl, .inl ⟨kl, upd_same, fun d nd => fl_it (K := K) (g := fun n => decide (n ∈ (endW D.W).map (·.1))) (i := 1) (L := D.L) (by show 1 < 2; decide) upd_same (t2.wk (Wk.lock e2 (fun _ _ z => nomatch z))) (by have := ok.l.len.2; omega) nd ?_ fun H' s e => ?_⟩⟩⟩
  · intro σ' H' R n hn hσ s r
    have tr : TR stD K H' ea (endW D.W) := h5.tr.wk ((Wk.lock e2 (fun _ _ z => nomatch z)).trans (Wk.of s))
    obtain ⟨o, g, eo⟩ := tr.has n
    refine ⟨_, hn, _, hσ 0 _ (by decide) rfl, x, C, dx, _, .ref ea, rfl, s _ _ (by rw [upd_ne xl]; exact h1), N.c, N.e, rfl, ea, o, rfl, g, _, rfl, ?_⟩
    rw [eo]
    exact r
  · refine ⟨d, _, rfl, .inl ⟨SqL.of e, fun l nl => ?_⟩⟩
    obtain ⟨z1, z2⟩ := unlock e2 (s.trans (same_new nl))
    exact ⟨z1, k _ _ z2 ⟨l, rfl, none_lock s nl, unlock_at (od := od) e2 (none_lock s nl) upd_same⟩⟩
/-- the greatest of the last ticks -/
def rHor (D : PlainD) (v : V) (H H' : Hp) : Prop := ∃ m : Int, v = .int m ∧ m ∈ D.L.map (·.2) ∧ ∀ y ∈ D.L.map (·.2), y ≤ m
theorem scHo : FnScope ["self", "event"] ["self"] (defScope m_Net_horizon) := ⟨rfl, rfl, rfl, by decide +kernel, rfl, by decide +kernel, by decide +kernel⟩
theorem ok_ho {f C : Addr} {fd : FuncData} (F : Fun K "horizon" "Net.horizon" m_Net_horizon f fd) (N : NetK K C) (zM : mg "max" = none) : FnOk P w K mg base CX0 1 f fd ["self"] (spGet K C rHor) := by
  refine F.ok scHo (fun vs H Q E h => ?_) (fun cdv A outer s H vs Q E hr h => ?_)
  · obtain ⟨x, D, rfl, _⟩ := h
    rfl
  obtain ⟨x, D, rfl, ⟨dx, la, wa, ba, ea, ra, h1, ⟨kl, e2, t2⟩, h3, h4, h5, h6⟩, ok, k⟩ := h
  refine ⟨_, pss_one (ps_ret (pe_lock (pe_callB (cr_max rfl) (by rfl) zM (by decide +kernel) (pa_cons (pe_lc (own := [("event", 1)]) (g := gName 1) (tt := tYes) (te := tDGet (tFld K (tVar 0) "_lasts") (tVar 1)) rfl scHo.nd (pi_keys (pe_fld (pv 0) rfl)) (blkOk_by (own := [("event", 1)]) (N := ["self", "event"]) (sc := defScope m_Net_horizon) (by decide +kernel))
    (fun _ _ _ _ _ => pg_name (i := 1) scHo.nd rfl (Or.inl rfl)) (fun _ _ _ _ _ => pts_nil) (fun _ _ _ _ _ => pe_dget (hu_of hr) (pe_fld (pv 0) rfl) (pv 1) (fun _ _ => rfl))) pa_nil)))), ?_⟩
  have xl : x ≠ la := ne_of h1 e2 (fun z => nomatch z)
  have ll : kl.length = D.L.length := Paired.length t2
  have l2 := ok.l.len
  refine ⟨la, _, e2, mut_dK, fun od => ⟨_, rfl, x, C, dx, _, .ref la, rfl, by rw [upd_ne xl]; exact h1, N.c, N.l, rfl, la, od, rfl, .inl ⟨kl, upd_same, fun d nd => lc_it (walk_keys (d := la) (o := od) (kvs := kl)) (fun n H' => Same (upd H la (.frz od (.dK kl))) H' ∧ H' d = some (.lst (((D.L.take n).map (·.2)).map V.int))) ⟨same_new nd, upd_same⟩ (fun n H' q => fun z => z.1 _ _ upd_same) (fun n y H1 H2 hn q yy => ?_) (fun H' q => ?_)⟩⟩⟩
  · obtain ⟨rfl, key, v, hk, rfl⟩ := yy
    obtain ⟨s1, e1⟩ := q
    obtain ⟨p, hp, e, dv⟩ := t2.at hk
    have e : key = .inr p.1 := e
    subst e
    have tr : TR inD K H2 la D.L := TR.wk ((Wk.lock e2 (fun _ _ z => nomatch z)).trans (Wk.of s1)) ⟨kl, .inl e2, t2⟩
    obtain ⟨u, g, du⟩ := tr.get (look_of ok.l.nd (List.mem_of_getElem? hp))
    cases in_at du
    refine ⟨by simp [gName, wipe], tyes ⟨_, by simp [gName, wipe]; rfl, x, C, dx, _, .ref la, rfl, s1 _ _ (by rw [upd_ne xl]; exact h1), N.c, N.l, rfl, _, by simp [gName, wipe]; rfl, la, _, rfl, g, _, e1, ?_, same_mut s1 nd, ?_⟩⟩
    · rw [List.length_map, List.length_map, List.length_take, sizeLine_eq]
      omega
    · rw [upd_same, take_succ_map hp, List.map_append]
      rfl
  · obtain ⟨s1, e1⟩ := q
    rw [ll, List.take_length] at e1
    obtain ⟨z1, z2⟩ := unlock e2 s1
    refine ⟨d, _, rfl, SqL.of e1, by rw [List.length_map]; omega, fun m hm hall => ⟨z1, k _ _ z2 ⟨m, rfl, hm, hall⟩⟩⟩
theorem scLe : FnScope ["self"] ["self"] (defScope m_Net_len) := ⟨rfl, rfl, rfl, by decide +kernel, rfl, by decide +kernel, by decide +kernel⟩
theorem ok_le {f C : Addr} {fd : FuncData} (F : Fun K "__len__" "Net.__len__" m_Net_len f fd) (N : NetK K C) (zL : mg "len" = none) : FnOk P w K mg base CX0 1 f fd ["self"] (spGet K C fun D v H H' => v = .int (D.L.length : Nat)) := by
  refine F.ok scLe (fun vs H Q E h => ?_) (fun cdv A outer s H vs Q E hr h => ?_)
  · obtain ⟨x, D, rfl, _⟩ := h
    rfl
  obtain ⟨x, D, rfl, ⟨dx, la, wa, ba, ea, ra, h1, ⟨kl, e2, t2⟩, h3, h4, h5, h6⟩, ok, k⟩ := h
  refine ⟨_, pss_one (ps_ret (pe_callB call_lenD (by rfl) zL PySem.boot_len (pa_cons (pe_fld (pv 0) rfl) pa_nil))), ?_⟩
  have ll : kl.length = D.L.length := Paired.length t2
  exact ⟨_, rfl, x, C, dx, _, .ref la, rfl, h1, N.c, N.l, rfl, la, kl, rfl, e2, k _ _ (Same.refl H) (by rw [ll])⟩
end
end LW
namespace LW
open PySem PySem.Spec PyProof.Rows L2 DW
/-- which work ends at an event, as a value -/
def wkV : Option Str → V
  | some n => .str n
  | none => .non
/-- from an event to dawn or a deed, the works in order -/
inductive Road (W : Ws) : Str → Str → List Str → Prop
  | stop {z : Str} : look (endW W) z = none → Road W z z []
  | step {z n root : Str} {x : WkT} {ch : List Str} : look (endW W) z = some n → look W n = some x → Road W x.1 root ch → Road W z root (ch ++ [n])
theorem Road.det {W : Ws} {z r1 : Str} {c1 : List Str} (h : Road W z r1 c1) : ∀ {r2 : Str} {c2 : List Str}, Road W z r2 c2 → r1 = r2 ∧ c1 = c2 := by
  induction h with
  | stop e =>
    intro r2 c2 h2
    cases h2 with
    | stop _ => exact ⟨rfl, rfl⟩
    | step e2 _ _ => rw [e] at e2; cases e2
  | step e lx _ ih =>
    intro r2 c2 h2
    cases h2 with
    | stop e2 => rw [e] at e2; cases e2
    | step e2 lx2 h3 =>
      rw [e] at e2
      cases e2
      rw [lx] at lx2
      cases lx2
      obtain ⟨h4, h5⟩ := ih h3
      exact ⟨h4, by rw [h5]⟩
theorem endW_ok {L : Ls} {W : Ws} (ok : OkW L W) : EndOk W (endW W) := fun s n h => by
  obtain ⟨p, hp, e⟩ := List.mem_map.mp (look_mem h)
  cases e
  exact ⟨p.2, look_of ok.nd hp, rfl⟩
theorem endW_nodup {L : Ls} {W : Ws} (ok : OkW L W) : ((endW W).map (·.1)).Nodup := by
  unfold endW
  rw [List.map_map]
  exact ok.ends
theorem Road.ex {L : Ls} {W : Ws} (ok : OkW L W) (z : Str) : ∃ r c, Road W z r c := by
  obtain ⟨rk, hr⟩ := ok.rank
  have key : ∀ n z, rk z < n → ∃ r c, Road W z r c := by
    intro n
    induction n with
    | zero => intro z h; exact absurd h (Nat.not_lt_zero _)
    | succ n ih =>
      intro z h
      cases e : look (endW W) z with
      | none => exact ⟨z, [], .stop e⟩
      | some m =>
        obtain ⟨x, lx, ex⟩ := endW_ok ok _ _ e
        have lt := hr _ (look_mem lx)
        have lt2 : rk x.1 < rk z := by rw [← ex]; exact lt
        obtain ⟨r, c, h2⟩ := ih x.1 (by omega)
        exact ⟨r, c ++ [m], .step e lx h2⟩
  exact key _ z (Nat.lt_succ_self _)
theorem Road.len {L : Ls} {W : Ws} (ok : OkW L W) {z r : Str} {c : List Str} (h : Road W z r c) : c.length ≤ W.length := by
  obtain ⟨rk, hr⟩ := ok.rank
  have sub : ∀ {z r c}, Road W z r c → (∀ m ∈ c, ∃ x, look W m = some x ∧ rk x.2.1 ≤ rk z) ∧ c.Nodup := by
    intro z r c h
    induction h with
    | stop _ => exact ⟨fun m hm => (by cases hm), .nil⟩
    | step e lx h2 ih =>
      rename_i z n root x ch
      obtain ⟨x', lx', ex⟩ := endW_ok ok _ _ e
      rw [lx] at lx'
      cases lx'
      have lt := hr _ (look_mem lx)
      refine ⟨fun m hm => ?_, ?_⟩
      · rcases List.mem_append.mp hm with hm | hm
        · obtain ⟨y, ly, hy⟩ := ih.1 m hm
          exact ⟨y, ly, by rw [← ex]; exact Nat.le_trans hy (Nat.le_of_lt lt)⟩
        · rw [List.mem_singleton] at hm
          subst hm
          exact ⟨x, lx, by rw [ex]; exact Nat.le_refl _⟩
      · refine List.nodup_append.mpr ⟨ih.2, List.nodup_cons.mpr ⟨fun q => (by cases q), .nil⟩, fun a ha b hb eab => ?_⟩
        rw [List.mem_singleton] at hb
        subst hb
        subst eab
        obtain ⟨y, ly, hy⟩ := ih.1 _ ha
        rw [lx] at ly
        cases ly
        exact absurd (Nat.lt_of_le_of_lt hy lt) (Nat.lt_irrefl _)
  obtain ⟨h1, h2⟩ := sub h
  have h3 : c ⊆ W.map (·.1) := fun m hm => by
    obtain ⟨x, lx, _⟩ := h1 m hm
    exact look_some.mp (by rw [lx]; rfl)
  have : ∀ {l m : List Str}, l.Nodup → l ⊆ m → l.length ≤ m.length := by
    intro l
    induction l with
    | nil => intro m _ _; exact Nat.zero_le _
    | cons a l ih =>
      intro m hl hs
      rw [List.nodup_cons] at hl
      have am := hs (List.mem_cons_self ..)
      have := ih (m := m.erase a) hl.2 fun b hb => (List.mem_erase_of_ne (fun e => hl.1 (by rw [← e]; exact hb))).mpr (hs (List.mem_cons_of_mem _ hb))
      have e := List.length_erase_of_mem am
      have pos : 0 < m.length := List.length_pos_of_mem am
      rw [List.length_cons]
      omega
  have := this h2 h3
  rw [List.length_map] at this
  exact this
section
variable {P : Program} {w : World} {K : PySem.W.Frag} {mg : Str → Option Value} {base : Heap}
theorem scNe : FnScope ["self", "event"] ["self", "event"] (defScope m_Net_u_need_event) := ⟨rfl, rfl, rfl, by decide +kernel, rfl, by decide +kernel, by decide +kernel⟩
def spEvt (K : PySem.W.Frag) (C : Addr) (R : PlainD → Str → V → Hp → Hp → Prop) : Sp := fun vs H Q _ => ∃ (x : Addr) (z : Str) (D : PlainD), vs = [.ref x, .str z] ∧ NetAt K C H x D ∧ OkN D ∧ knownB D.L z = true ∧ ∀ v H', Same H H' → R D z v H H' → Q v H'
theorem ok_ne {f C : Addr} {fd : FuncData} (F : Fun K "_need_event" "Net._need_event" m_Net_u_need_event f fd) (N : NetK K C) {tW : Tok} (gW : mg "DAWN" = some (.str "dawn" tW)) (zI : mg "isinstance" = none) (zS : mg "str" = none) : FnOk P w K mg base CX0 1 f fd ["self", "event"] (spEvt K C fun _ _ v _ _ => v = .non) := by
  refine F.ok scNe (fun vs H Q E h => ?_) (fun cdv A outer s H vs Q E hr h => ?_)
  · obtain ⟨x, z, D, rfl, _⟩ := h
    rfl
  obtain ⟨x, z, D, rfl, ⟨dx, la, wa, ba, ea, ra, h1, h2, h3, h4, h5, h6⟩, ok, kn, k⟩ := h
  refine ⟨_, pss_one (ps_if (PW.pt (pw_or (pt_not (pt_val (pe_callB call_isi (by rfl) zI (by rfl) (pa_cons (pv 1) (pa_cons (pe_bltn rfl zS (by rfl) (show RelV (.ty "str") (.type "str") from rfl)) pa_nil)))))
      (pw_or1 (PW.pt (pw_and (pt_cmpR op_ne (pv 1) (pe_glob rfl gW (show RelV (.str "dawn") (.str "dawn" tW) from ⟨tW, rfl⟩)) (nomark _)) (pw_and1 (pt_cmp (pc_dnotin (hu_of hr) (pv 1) (pe_fld (pv 0) rfl)))))))))
    dead pss_nil), ?_⟩
  refine isi_str rfl kSS ⟨_, rfl, iteF ⟨_, rfl, rfl, _, rfl, ?_⟩⟩
  rw [dec_strV]
  unfold knownB at kn
  by_cases e : z = ("dawn" : Str)
  · rw [decide_eq_true e]
    exact iteF (iteF (k _ _ (Same.refl H) rfl))
  · rw [decide_eq_false e, Bool.false_or] at kn
    rw [decide_eq_false e]
    obtain ⟨o, g, eo⟩ := h2.tr.has z
    exact iteT ⟨_, rfl, _, rfl, x, C, dx, _, .ref la, rfl, h1, N.c, N.l, rfl, la, o, rfl, g, _, rfl, ite0 (by rw [eo, kn]; rfl) (k _ _ (Same.refl H) rfl)⟩
end
end LW
namespace LW
open PySem PySem.Spec PyProof.Rows L2 DW
section
variable {P : Program} {w : World} {K : PySem.W.Frag} {mg : Str → Option Value} {base : Heap}
theorem scWk : FnScope ["self", "event"] ["self", "event"] (defScope m_Net_work_of) := ⟨rfl, rfl, rfl, by decide +kernel, rfl, by decide +kernel, by decide +kernel⟩
theorem ok_wk {f fE C : Addr} {fd dE : FuncData} (F : Fun K "work_of" "Net.work_of" m_Net_work_of f fd) (N : NetK K C) (mE : Meth K C "_need_event" fE) (GE : FnOk P w K mg base CX0 1 fE dE ["self", "event"] (spEvt K C fun _ _ v _ _ => v = .non)) (bE : Binds K dE ["self", "event"] []) :
    FnOk P w K mg base CX0 2 f fd ["self", "event"] (spEvt K C fun D z v _ _ => v = wkV (look (endW D.W) z)) := by
  refine F.ok scWk (fun vs H Q E h => ?_) (fun cdv A outer s H vs Q E hr h => ?_)
  · obtain ⟨x, z, D, rfl, _⟩ := h
    rfl
  obtain ⟨x, z, D, rfl, net, ok, kn, k⟩ := h
  refine ⟨_, pss_cons (ps_expr (pe_meth (E := E0) (pv 0) N.c mE GE (Room.mono hr (by decide)) bE .nil pass0 (pa_cons (pv 1) pa_nil)))
    (pss_one (ps_ret (pe_dget1 (hu_of hr) (pe_fld (pv 0) rfl) (pv 1) ⟨rfl, rfl, rfl, rfl⟩))), ?_⟩
  obtain ⟨dx, la, wa, ba, ea, ra, h1, _⟩ := id net
  refine ⟨_, rfl, x, dx, _, rfl, h1, rfl, _, rfl, x, z, D, rfl, net, ok, kn, fun v H1 s1 _ => ?_⟩
  obtain ⟨dx, la, wa, ba, ea, ra, h1, h2, h3, h4, ⟨ke, e5, t5⟩, h6⟩ := net.same s1
  refine ⟨_, rfl, x, C, dx, _, .ref ea, rfl, h1, N.c, N.e, rfl, ea, rfl, .inl ⟨ke, .inl e5⟩, _, rfl, ?_⟩
  rcases t5.get z with ⟨l1, v1⟩ | ⟨n2, v2, l1, v1, d2⟩
  · exact ⟨none, .inl ⟨ke, .inr z, .inl e5, rfl, v1.symm⟩, k _ _ s1 (by show _ = wkV (look _ _); rw [l1]; rfl)⟩
  · cases st_at d2
    exact ⟨some (.str n2), .inl ⟨ke, .inr z, .inl e5, rfl, v1.symm⟩, k _ _ s1 (by show _ = wkV (look _ _); rw [l1]; rfl)⟩
end
end LW
namespace LW
open PySem PySem.Spec PyProof.Rows L2 DW
def nS (n : Nat) : Str := toString ((n : Nat) : Int)
def strN (a b c : Nat) : Str := ((((((("net of " : Str) ++ nS a) ++ (" events, " : Str)) ++ nS b) ++ (" works, " : Str)) ++ nS c) ++ (" bounds" : Str))
theorem nS_len {n : Nat} (h : n ≤ 400) : (nS n).length ≤ 100 := by
  have key : ∀ m : Fin 401, (nS m.val).length ≤ 100 := by decide +kernel
  exact key ⟨n, by omega⟩
theorem n_log {n : Nat} (h : n ≤ 400) : ((n : Nat) : Int).natAbs.log2 < 1920 := by
  have key : ∀ m : Fin 401, m.val.log2 < 1920 := by decide +kernel
  exact key ⟨n, by omega⟩
section
variable {P : Program} {w : World} {K : PySem.W.Frag} {mg : Str → Option Value} {base : Heap}
theorem scCo : FnScope ["self", "value"] ["self", "value"] (defScope m_Net_contains) := ⟨rfl, rfl, rfl, by decide +kernel, rfl, by decide +kernel, by decide +kernel⟩
def inNetB (D : PlainD) : PyData → Bool
  | .str z => decide (z ∈ D.L.map (·.1)) | _ => false
def spCon (K : PySem.W.Frag) (C : Addr) : Sp := fun vs H Q _ => ∃ (x : Addr) (v : V) (d : PyData) (D : PlainD), vs = [.ref x, v] ∧ NetAt K C H x D ∧ Dd K H v d ∧ Q (.bl (inNetB D d)) H
theorem ok_co {f C : Addr} {fd : FuncData} (F : Fun K "__contains__" "Net.__contains__" m_Net_contains f fd) (N : NetK K C) (zI : mg "isinstance" = none) (zS : mg "str" = none) : FnOk P w K mg base CX0 1 f fd ["self", "value"] (spCon K C) := by
  refine F.ok scCo (fun vs H Q E h => ?_) (fun cdv A outer s H vs Q E hr h => ?_)
  · obtain ⟨x, v, d, D, rfl, _⟩ := h
    rfl
  obtain ⟨x, v, d, D, rfl, ⟨dx, la, wa, ba, ea, ra, h1, h2, h3, h4, h5, h6⟩, hd, k⟩ := h
  refine ⟨_, pss_one (ps_ret (pe_and (pe_callB call_isi (by rfl) zI (by rfl) (pa_cons (pv 1) (pa_cons (pe_bltn rfl zS (by rfl) (show RelV (.ty "str") (.type "str") from rfl)) pa_nil)))
    (pe_one (pe_cmp (pc_din (hu_of hr) (pv 1) (pe_fld (pv 0) rfl)))))), ?_⟩
  refine rd_isi rfl hd (kit_str d) ⟨_, rfl, ?_⟩
  match d, hd, k with
  | .str z, hd, k =>
    have e : v = .str z := by cases hd with | base h _ => cases h; rfl
    subst e
    obtain ⟨o, g, eo⟩ := h2.tr.has z
    exact iteT ⟨_, rfl, _, rfl, x, C, dx, _, .ref la, rfl, h1, N.c, N.l, rfl, la, o, rfl, g, by rw [eo]; exact k⟩
  | .none, _, k => exact iteF k
  | .bool _, _, k => exact iteF k
  | .int _, _, k => exact iteF k
  | .tuple _, _, k => exact iteF k
  | .list _, _, k => exact iteF k
  | .dict _, _, k => exact iteF k
theorem scSt : FnScope ["self"] ["self"] (defScope m_Net_str) := ⟨rfl, rfl, rfl, by decide +kernel, rfl, by decide +kernel, by decide +kernel⟩
theorem ok_st {f C : Addr} {fd : FuncData} (F : Fun K "__str__" "Net.__str__" m_Net_str f fd) (N : NetK K C) (zL : mg "len" = none) : FnOk P w K mg base CX0 1 f fd ["self"] (spGet K C fun D v _ _ => v = .str (strN D.L.length D.W.length D.B.length)) := by
  refine F.ok scSt (fun vs H Q E h => ?_) (fun cdv A outer s H vs Q E hr h => ?_)
  · obtain ⟨x, D, rfl, _⟩ := h
    rfl
  obtain ⟨x, D, rfl, ⟨dx, la, wa, ba, ea, ra, h1, ⟨ka, e2, t2⟩, ⟨kb, e3, t3⟩, ⟨kc, e4, t4⟩, h5, h6⟩, ok, k⟩ := h
  refine ⟨_, pss_one (ps_ret (pe_joined (.cons pe_str (.cons (pe_fmt (pe_callB call_lenD (by rfl) zL PySem.boot_len (pa_cons (pe_fld (pv 0) rfl) pa_nil))) (.cons pe_str (.cons (pe_fmt (pe_callB call_lenD (by rfl) zL PySem.boot_len (pa_cons (pe_fld (pv 0) rfl) pa_nil)))
    (.cons pe_str (.cons (pe_fmt (pe_callB call_lenD (by rfl) zL PySem.boot_len (pa_cons (pe_fld (pv 0) rfl) pa_nil))) (.cons pe_str .nil))))))))), ?_⟩
  have la' : ka.length = D.L.length := Paired.length t2
  have lb : kb.length = D.W.length := Paired.length t3
  have lc : kc.length = D.B.length := Paired.length t4
  have n1 := ok.l.len.2
  have n2 := ok.w.len
  have n3 := ok.b.len
  have g1 := nS_len (n := ka.length) (by omega)
  have g2 := nS_len (n := kb.length) (by omega)
  have g3 := nS_len (n := kc.length) (by omega)
  have fin := k (.str (strN D.L.length D.W.length D.B.length)) H (Same.refl H) rfl
  rw [← la', ← lb, ← lc] at fin
  have z0 : Str.empty ++ ("net of " : Str) = ("net of " : Str) := Str.append_left_empty (by rfl)
  refine ⟨_, rfl, by decide, _, rfl, x, C, dx, _, .ref la, rfl, h1, N.c, N.l, rfl, la, ka, rfl, e2, .inr ⟨_, rfl, n_log (by omega), nS ka.length, rfl, ?_, _, rfl, ?_, _, rfl, x, C, dx, _, .ref wa, rfl, h1, N.c, N.w, rfl, wa, kb, rfl, e3, .inr ⟨_, rfl, n_log (by omega), nS kb.length, rfl, ?_, _, rfl, ?_, _, rfl, x, C, dx, _, .ref ba, rfl, h1, N.c, N.b, rfl, ba, kc, rfl, e4, .inr ⟨_, rfl, n_log (by omega), nS kc.length, rfl, ?_, _, rfl, ?_, ?_⟩⟩⟩⟩
  · simp only [PySem.Str.length_append]
    have e1 : (Str.empty).length = 0 := by decide
    have e2 : ("net of " : Str).length = 7 := by decide
    rw [sizeLine_eq]
    omega
  · simp only [PySem.Str.length_append]
    have e1 : (Str.empty).length = 0 := by decide
    have e2 : ("net of " : Str).length = 7 := by decide
    have e3 : (" events, " : Str).length = 9 := by decide
    rw [sizeLine_eq]
    omega
  · simp only [PySem.Str.length_append]
    have e1 : (Str.empty).length = 0 := by decide
    have e2 : ("net of " : Str).length = 7 := by decide
    have e3 : (" events, " : Str).length = 9 := by decide
    rw [sizeLine_eq]
    omega
  · simp only [PySem.Str.length_append]
    have e1 : (Str.empty).length = 0 := by decide
    have e2 : ("net of " : Str).length = 7 := by decide
    have e3 : (" events, " : Str).length = 9 := by decide
    have e4 : (" works, " : Str).length = 8 := by decide
    rw [sizeLine_eq]
    omega
  · simp only [PySem.Str.length_append]
    have e1 : (Str.empty).length = 0 := by decide
    have e2 : ("net of " : Str).length = 7 := by decide
    have e3 : (" events, " : Str).length = 9 := by decide
    have e4 : (" works, " : Str).length = 8 := by decide
    rw [sizeLine_eq]
    omega
  · simp only [PySem.Str.length_append]
    have e1 : (Str.empty).length = 0 := by decide
    have e2 : ("net of " : Str).length = 7 := by decide
    have e3 : (" events, " : Str).length = 9 := by decide
    have e4 : (" works, " : Str).length = 8 := by decide
    have e5 : (" bounds" : Str).length = 7 := by decide
    rw [sizeLine_eq]
    omega
  · show Q (.str (Str.empty ++ ("net of " : Str) ++ nS ka.length ++ (" events, " : Str) ++ nS kb.length ++ (" works, " : Str) ++ nS kc.length ++ (" bounds" : Str))) H
    rw [z0]
    exact fin
end
end LW
namespace LW
open PySem PySem.Spec PyProof.Rows L2 DW
/-- a pair of texts -/
def pairS : PyData → Bool
  | .tuple [.str _, .str _] => true | _ => false
section
variable {P : Program} {w : World} {K : PySem.W.Frag} {mg : Str → Option Value} {base : Heap}
theorem scRw : FnScope ["self", "word", "part"] ["self", "word"] (defScope m_Net_row) := ⟨rfl, rfl, rfl, by decide +kernel, rfl, by decide +kernel, by decide +kernel⟩
def spRow (K : PySem.W.Frag) (C CO : Addr) : Sp := fun vs H Q E => ∃ (x : Addr) (v : V) (D : PlainD), vs = [.ref x, v] ∧ NetAt K C H x D ∧ OkN D ∧
  ((∃ (t : Addr) (a b : Str), v = .ref t ∧ H t = some (.tup [.str a, .str b]) ∧ (∀ r, ((a, b), r) ∈ toldR D → ∀ u H', Same H H' → TTv K H' u r → Q u H') ∧ ((a, b) ∉ (toldR D).map (·.1) → ∀ H', Same H H' → E (.ref CO) none H')) ∨
   (∃ d, Dd K H v d ∧ Fit d ∧ pairS d = false ∧ ∀ H', Same H H' → E (.ref CO) none H'))
/-- all([isinstance(x, str) for x in t]) -/
theorem rd_strs {a : Addr} {xs : List V} {ds : List PyData} {H : Hp} {σ : L2.St} {i j : Nat} {Q : VK} (hi : σ[i]? = some (some (.ref a))) (hj : j < σ.length) (ha : SqT K H a xs) (hp : DpAll K H xs ds) (hn : ∀ x ∈ ds, x.hasDict = false) (hl : ds.length ≤ 1000) (k : ∀ H', Same H H' → Q (.bl (ds.all isStrT)) H') :
    tCB (rAll K) (tCons (tLc (iTup K (tVar i)) (gName j) tYes (tCB (rIsi K) (tCons (tVar j) (tCons (tC (.ty "str")) tNil))) [j]) tNil) σ H Q := by
  refine ⟨_, hi, a, rfl, ⟨xs, ha⟩, fun D hD => lc_tup (K := K) (xs := xs) (fun n H' => Same H H' ∧ H' D = some (.lst (((ds.take n).map isStrT).map V.bl))) ⟨same_new hD, upd_same⟩ (fun n H' _ p => sqT_wk (Wk.of p.1) ha) (fun n x H' hx p => ?_) (fun H' p => ?_)⟩
  · obtain ⟨s1, hy⟩ := p
    obtain ⟨d, hd, hr⟩ := DpAll.at hp hx
    have m : d ∈ ds := List.mem_of_getElem? hd
    refine ⟨by simp [gName, wipe], tyes ?_⟩
    refine rd_isi (d := d) (by simp [wipe, hj]) (.base (Dp.wk (Wk.of s1) hr) (hn d m)) (kit_str d) ⟨_, hy, ?_, same_mut s1 hD, ?_⟩
    · rw [List.length_map, List.length_map, List.length_take, sizeLine_eq]
      omega
    · rw [upd_same, take_succ_map hd, List.map_append]
      rfl
  · obtain ⟨s1, hy⟩ := p
    rw [DpAll.length hp, List.take_length] at hy
    refine fin_all hy ?_
    rw [List.all_map]
    exact k H' s1
theorem ok_rw {f fP C CO : Addr} {fd dP : FuncData} (F : Fun K "row" "Net.row" m_Net_row f fd) (N : NetK K C) (CP : Cal P w K mg base 1 "is_pair" ["value"] (spJn K 0 pairD) fP dP) (o : Pl K mg "InvalidOperation" CO)
    (zI : mg "isinstance" = none) (zS : mg "str" = none) (zA : mg "all" = none) : FnOk P w K mg base (L2.CX P w) 2 f fd ["self", "word"] (spRow K C CO) := by
  refine F.okX scRw (fun vs H Q E h => ?_) (fun cdv A outer s H vs Q E hr h => ?_)
  · obtain ⟨x, v, D, rfl, _⟩ := h
    rfl
  obtain ⟨x, v, D, rfl, net, ok, h⟩ := h
  refine ⟨_, pss_cons (ps_if (PW.pt (pw_or (pt_not (pt_val (pe_cal (E := E0) CP hr rfl (pa_cons (pv 1) pa_nil))))
        (pw_or (pt_not (pt_val (pe_callB (cr_all rfl) (by rfl) zA (by decide +kernel) (pa_cons (pe_lc (own := [("part", 2)]) (g := gName 2) (tt := tYes) (te := tCB (rIsi K) (tCons (tVar 2) (tCons (tC (.ty "str")) tNil))) rfl scRw.nd (pi_tup (pv 1)) (blkOk_by (own := [("part", 2)]) (N := ["self", "word", "part"]) (sc := defScope m_Net_row) (by decide +kernel))
          (fun _ _ _ _ _ => pg_name (i := 2) scRw.nd rfl (Or.inl rfl)) (fun _ _ _ _ _ => pts_nil) (fun _ _ _ _ _ => pe_callB call_isi (by rfl) zI (by rfl) (pa_cons (pv 2) (pa_cons (pe_bltn rfl zS (by rfl) (show RelV (.ty "str") (.type "str") from rfl)) pa_nil)))) pa_nil))))
        (pw_or1 (pt_cmp (pc_dnotin (hu_of hr) (pv 1) (pe_fld (pv 0) rfl)))))))
      (pss_one (ps_raise rfl (takes_of rfl rfl rfl rfl) (pmk_exq0 rfl (pe_exP PySem.F.excBase_ValueError o.q o.hi o.ex.kC o.g rfl pe_str)))) pss_nil)
    (pss_one (ps_ret (pe_dget (hu_of hr) (pe_fld (pv 0) rfl) (pv 1) (fun _ _ => rfl)))), ?_⟩
  have bad : ∀ H', Same H H' → (∀ H2, Same H H2 → E (.ref CO) none H2) → ∀ {σ : L2.St} {m : Str}, tExP CO (tC (.str m)) σ H' fun x H1 => ∃ (a C t : Addr), x = .ref a ∧ H1 a = some (exq a C none t) ∧ Fr0 (cxOf (L2.CX P w) P w K mg base ["self", "word", "part"] "Net.row" (defScope m_Net_row) f cdv A outer s H E).H_0 a ∧
      Raises (cxOf (L2.CX P w) P w K mg base ["self", "word", "part"] "Net.row" (defScope m_Net_row) f cdv A outer s H E) (.ref C) ∧ E (.ref C) none (delH H1 a) := fun H' s1 kE {σ m} =>
    rd_pl (raises_own o.ex.ex o.ty) (fun a n => none_of s1 n) fun H2 s2 => kE _ (Same.trans s1 s2)
  rcases h with ⟨t, a, b, rfl, ht, kQ, kE⟩ | ⟨d, hd, hf, hp, kE⟩
  · have hd : Dd K H (.ref t) (.tuple [.str a, .str b]) := .base (.tup (SqT.of ht) (.cons (.str a) (.cons (.str b) .nil))) rfl
    refine ⟨_, rfl, .ref t, _, rfl, hd, (fun z e => nomatch e), fun H1 s1 => ⟨_, rfl, iteF ?_⟩⟩
    refine rd_strs (K := K) (ds := [.str a, .str b]) rfl (by show 2 < 3; decide) (SqT.of (s1 _ _ ht)) (.cons (.str a) (.cons (.str b) .nil)) (by intro y hy; simp at hy; rcases hy with rfl | rfl <;> rfl) (by show 2 ≤ 1000; decide) fun H2 s2 => ⟨_, rfl, iteF ?_⟩
    have s12 := s1.trans s2
    obtain ⟨dx, la, wa, ba, ea, ra, h1, h2, h3, h4, h5, ⟨kt, e6, t6⟩⟩ := net.same s12
    have ht2 := s12 _ _ ht
    refine ⟨_, rfl, _, rfl, x, C, dx, _, .ref ra, rfl, h1, N.c, N.r, rfl, ra, _, rfl, DGet.t (k := kP a b) e6 ht2, _, rfl, ?_⟩
    by_cases m : (a, b) ∈ (toldR D).map (·.1)
    · obtain ⟨⟨k2, r⟩, hr, e⟩ := List.mem_map.mp m
      obtain rfl : k2 = (a, b) := e
      obtain ⟨u, hu, tu⟩ := t6.get (told_nodup ok) hr
      refine ite0 (by rw [hu]; rfl) ⟨_, rfl, x, C, dx, _, .ref ra, rfl, h1, N.c, N.r, rfl, _, rfl, ra, u, rfl, ?_, kQ r hr u _ s12 tu⟩
      rw [← hu]
      exact DGet.t (k := kP a b) e6 ht2
    · exact ite1 (by rw [t6.none m]; rfl) (bad H2 s12 (kE m))
  · refine ⟨_, rfl, v, d, rfl, hd, hf, fun H1 s1 => ⟨_, rfl, ?_⟩⟩
    by_cases pd : pairD d = true
    · rw [pd]
      match d, hd, hp, pd with
      | .tuple ds, hd, hp, pd =>
        obtain ⟨p, xs, rfl, hs, ha, hn⟩ := hd.tup_inv
        have l2 : ds.length = 2 := of_decide_eq_true pd
        refine iteF (rd_strs (K := K) (ds := ds) rfl (by show 2 < 3; decide) (sqT_wk (Wk.of s1) hs) (DpAll.wk (Wk.of s1) ha) hn (by omega) fun H2 s2 => ⟨_, rfl, ?_⟩)
        have no : ds.all isStrT = false := by
          match ds, l2, hp with
          | [x, y], _, hp =>
            cases x <;> cases y <;> first | rfl | (cases hp)
        rw [no]
        exact iteT (bad H2 (s1.trans s2) kE)
    · rw [Bool.not_eq_true] at pd
      rw [pd]
      exact iteT (bad H1 s1 kE)
end
end LW
namespace DW
open PySem PySem.Spec PyProof.Rows L2 PySem.W
/-! ### dicts of data compared -/
section
variable {α : Type} (enc : α → PyData)
def eqX (la lb : List (Str × α)) : Bool := la.all fun p => match look lb p.1 with
  | none => false
  | some y => PyData.eqv (enc p.2) (enc y)
def eqTab (la lb : List (Str × α)) : Bool := (la.length == lb.length) && eqX enc la lb
end
/-- values that can be compared at once -/
def Alk {α : Type} (enc : α → PyData) : Prop := ∀ x y, PySem.W.alike (enc x) (enc y) = true ∧ (enc x).depth ≤ 50
section
variable {X : Cx} {pins : List (Addr × Obj)} {σ : L2.St} {H : Hp} {s : Shared} {α : Type} {enc : α → PyData} {A : Around}
theorem hits_tx (I : Inv X pins σ H s) (ak : Alk enc) (hu : A.units + 64 < cLine) {kb : List (Key × V)} {lb : List (Str × α)} {vb : List (Key × Value)} (tb : Tx enc X.K H kb lb) (rb : KV kb vb) :
    ∀ {ka : List (Key × V)} {la : List (Str × α)} {va : List (Key × Value)}, Tx enc X.K H ka la → KV ka va → KeqHits A s vb va (eqX enc la lb)
  | [], la, va, ta, ra => by
    cases ta
    cases ra
    exact .nil
  | p :: ka, la, va, ta, ra => by
    cases ta with
    | cons h1 t1 =>
      cases ra with
      | cons h2 t2 =>
        rename_i l la' q va'
        obtain ⟨k, v⟩ := q
        have ih := hits_tx I ak hu tb rb t1 t2
        have ek : k = .inr l.1 := by
          have e1 : p.1 = k := h2.1
          rw [← e1]
          exact h1.1
        subst ek
        have rv := rb.val (.inr l.1)
        rcases tb.get l.1 with ⟨e1, e2⟩ | ⟨y, u, e1, e2, du⟩
        · rw [e2] at rv
          have hn : valueAt vb (.inr l.1) = none := RelO.none_of rv
          have e : eqX enc (l :: la') lb = false := by
            unfold eqX
            rw [List.all_cons, e1]
            rfl
          rw [e]
          exact .miss hn
        · rw [e2] at rv
          obtain ⟨z, hz, rz⟩ := rv.some_of
          have e : eqX enc (l :: la') lb = (PyData.eqv (enc l.2) (enc y) && eqX enc la' lb) := by
            unfold eqX
            rw [List.all_cons, e1]
          rw [e]
          obtain ⟨as, r1⟩ := Dp.reads I _ _ _ h1.2 h2.2
          obtain ⟨bs, r2⟩ := Dp.reads I _ _ _ du rz
          have dl := (ak l.2 y).2
          exact .hit hz (eqAt_alike _ _ _ _ _ _ _ _ r1 r2 (ak l.2 y).1 (by have := Nat.min_le_left (enc l.2).depth (enc y).depth; omega)) ih
def rEqT (K : PySem.W.Frag) (enc : α → PyData) : R2 := fun x y H Q => ∃ a b la lb, x = .ref a ∧ y = .ref b ∧ TR enc K H a la ∧ TR enc K H b lb ∧ Q (.bl (eqTab enc la lb)) H
def rNeT (K : PySem.W.Frag) (enc : α → PyData) : R2 := fun x y H Q => ∃ a b la lb, x = .ref a ∧ y = .ref b ∧ TR enc K H a la ∧ TR enc K H b lb ∧ Q (.bl (!eqTab enc la lb)) H
end
section
variable {X : Cx} {α : Type} {enc : α → PyData}
theorem op_eqT (ak : Alk enc) (hu : X.A.units + 70 < cLine) : OpR X (compareOp .Eq) (rEqT X.K enc) := by
  intro pins s σ H x y v u Q I rx ry h
  obtain ⟨a, b, la, lb, rfl, rfl, ⟨ka, ea, ta⟩, ⟨kb, eb, tb⟩, q⟩ := h
  obtain rfl : v = Value.ref a := rx
  obtain rfl : u = Value.ref b := ry
  obtain ⟨_, ya, va, ra, da⟩ := dk_rd I.hok ea
  obtain ⟨_, yb, vb, rb, db⟩ := dk_rd I.hok eb
  have l1 : va.length = la.length := by rw [← ra.length]; exact Paired.length ta
  have l2 : vb.length = lb.length := by rw [← rb.length]; exact Paired.length tb
  refine keq_eq (knd := mixKind X.prog X.w) (r := eqX enc la lb) ya yb da db (by omega) (fun _ => hits_tx I ak (by show X.A.units + 1 + 64 < cLine; omega) tb rb ta ra) (fin_bl I q ?_)
  rw [l1, l2]
  rfl
theorem op_neT (ak : Alk enc) (hu : X.A.units + 70 < cLine) : OpR X (compareOp .NotEq) (rNeT X.K enc) := by
  intro pins s σ H x y v u Q I rx ry h
  obtain ⟨a, b, la, lb, rfl, rfl, ⟨ka, ea, ta⟩, ⟨kb, eb, tb⟩, q⟩ := h
  obtain rfl : v = Value.ref a := rx
  obtain rfl : u = Value.ref b := ry
  obtain ⟨_, ya, va, ra, da⟩ := dk_rd I.hok ea
  obtain ⟨_, yb, vb, rb, db⟩ := dk_rd I.hok eb
  have l1 : va.length = la.length := by rw [← ra.length]; exact Paired.length ta
  have l2 : vb.length = lb.length := by rw [← rb.length]; exact Paired.length tb
  refine keq_ne (knd := mixKind X.prog X.w) (r := eqX enc la lb) ya yb da db (by omega) (fun _ => hits_tx I ak (by show X.A.units + 1 + 64 < cLine; omega) tb rb ta ra) (fin_bl I q ?_)
  rw [l1, l2]
  rfl
end
end DW
namespace LW
open PySem PySem.Spec PyProof.Rows L2 DW
theorem u70 {k : Nat} {A : Around} (r : Room k A) : A.units + 70 < cLine := by
  have := r.un
  omega
theorem alk_in : Alk inD := fun x y => ⟨by simp [inD, PySem.W.alike], by simp [inD, PyData.depth]⟩
theorem alk_wk : Alk wkD := fun x y => ⟨by simp [wkD, PySem.W.alike, PySem.W.alikeAll], by simp [wkD, PyData.depth, PyData.depthAll]⟩
theorem alk_bd : Alk bdD := fun x y => ⟨by simp [bdD, PySem.W.alike, PySem.W.alikeAll], by simp [bdD, PyData.depth, PyData.depthAll]⟩
def eqN (D D' : PlainD) : Bool := eqTab inD D.L D'.L && (eqTab wkD D.W D'.W && eqTab bdD D.B D'.B)
section
variable {P : Program} {w : World} {K : PySem.W.Frag} {mg : Str → Option Value} {base : Heap}
theorem scEq : FnScope ["self", "other"] ["self", "other"] (defScope m_Net_eq) := ⟨rfl, rfl, rfl, by decide +kernel, rfl, by decide +kernel, by decide +kernel⟩
def spEq (K : PySem.W.Frag) (C : Addr) : Sp := fun vs H Q _ => ∃ (x : Addr) (v : V) (D : PlainD), vs = [.ref x, v] ∧ NetAt K C H x D ∧
  ((∃ (y : Addr) (D' : PlainD), v = .ref y ∧ NetAt K C H y D' ∧ Q (.bl (eqN D D')) H) ∨ (∃ t, TyX K H v (.type t) ∧ PySem.W.kitOne K (.type t) (.ref C) = some false ∧ Q (.bl false) H))
theorem ok_eq {f C : Addr} {fd : FuncData} (F : Fun K "__eq__" "Net.__eq__" m_Net_eq f fd) (N : NetK K C) (g : mg "Net" = some (.ref C)) (IC : C8.InsC K C) (zI : mg "isinstance" = none) : FnOk P w K mg base CX0 1 f fd ["self", "other"] (spEq K C) := by
  refine F.ok scEq (fun vs H Q E h => ?_) (fun cdv A outer s H vs Q E hr h => ?_)
  · obtain ⟨x, v, D, rfl, _⟩ := h
    rfl
  obtain ⟨x, v, D, rfl, ⟨dx, la, wa, ba, ea, ra, h1, h2, h3, h4, h5, h6⟩, h⟩ := h
  refine ⟨_, pss_cons (ps_if (pt_not (pt_val (pe_callB call_isi (by rfl) zI (by rfl) (pa_cons (pv 1) (pa_cons (pe_glob rfl g (show RelV (.ref C) (.ref C) from rfl)) pa_nil))))) (pss_one (ps_ret pe_bl)) pss_nil)
    (pss_one (ps_ret (pe_and (pe_cmpR (op_eqT alk_in (u70 hr)) (pe_fld (pv 0) rfl) (pe_fld (pv 1) rfl) (nomark _)) (pe_and (pe_cmpR (op_eqT alk_wk (u70 hr)) (pe_fld (pv 0) rfl) (pe_fld (pv 1) rfl) (nomark _)) (pe_one (pe_cmpR (op_eqT alk_bd (u70 hr)) (pe_fld (pv 0) rfl) (pe_fld (pv 1) rfl) (nomark _))))))), ?_⟩
  rcases h with ⟨y, D', rfl, ⟨dy, lb, wb, bb, eb, rb, g1, g2, g3, g4, g5, g6⟩, k⟩ | ⟨t, ty, kt, k⟩
  · refine ⟨_, rfl, _, .ref C, _, _, _, rfl, .own _, .base (.ins g1 IC.cl IC.ha IC.hn IC.htk IC.hm), IC.me, _, rfl, iteF ?_⟩
    refine ⟨_, rfl, x, C, dx, _, .ref la, rfl, h1, N.c, N.l, rfl, _, rfl, y, C, dy, _, .ref lb, rfl, g1, N.c, N.l, rfl, la, lb, D.L, D'.L, rfl, rfl, h2.tr, g2.tr, _, rfl, ?_⟩
    unfold eqN at k
    cases e1 : eqTab inD D.L D'.L with
    | false => rw [e1] at k; exact iteF k
    | true =>
      rw [e1] at k
      refine iteT ⟨_, rfl, x, C, dx, _, .ref wa, rfl, h1, N.c, N.w, rfl, _, rfl, y, C, dy, _, .ref wb, rfl, g1, N.c, N.w, rfl, wa, wb, D.W, D'.W, rfl, rfl, h3.tr, g3.tr, _, rfl, ?_⟩
      cases e2 : eqTab wkD D.W D'.W with
      | false => rw [e2] at k; exact iteF k
      | true =>
        rw [e2] at k
        exact iteT ⟨_, rfl, x, C, dx, _, .ref ba, rfl, h1, N.c, N.b, rfl, _, rfl, y, C, dy, _, .ref bb, rfl, g1, N.c, N.b, rfl, ba, bb, D.B, D'.B, rfl, rfl, h4.tr, g4.tr, k⟩
  · exact ⟨_, rfl, _, .ref C, _, _, _, rfl, .own _, ty, kt, _, rfl, iteT k⟩
end
end LW
namespace DW
open PySem PySem.Spec PyProof.Rows L2 PySem.W
theorem merge_nodup : ∀ (more kvs : List (Key × V)), ((kvs ++ more).map (·.1)).Nodup → mergeK kvs more = kvs ++ more
  | [], kvs, _ => (List.append_nil kvs).symm
  | p :: r, kvs, h => by
    have h2 : ((kvs ++ [p] ++ r).map (·.1)).Nodup := by rw [List.append_assoc]; exact h
    have e : putK kvs p.1 p.2 = kvs ++ [p] := by
      have no : (kvs.any fun kv => decide (kv.1 = p.1)) = false := by
        rw [List.any_eq_false]
        intro q hq z
        rw [List.map_append] at h
        exact (List.nodup_append.mp h).2.2 q.1 (List.mem_map.mpr ⟨q, hq, rfl⟩) p.1 (List.mem_map.mpr ⟨p, List.mem_cons_self .., rfl⟩) (of_decide_eq_true z)
      unfold putK
      rw [no]
      rfl
    show mergeK (putK kvs p.1 p.2) r = _
    rw [e, merge_nodup r _ h2, List.append_assoc]
    rfl
theorem merge_nil {kvs : List (Key × V)} (h : (kvs.map (·.1)).Nodup) : mergeK [] kvs = kvs := merge_nodup kvs [] h
theorem paired_perm {α β : Type} {R : α → β → Prop} {l l' : List α} (p : l'.Perm l) : ∀ {m : List β}, Paired R l m → ∃ m', m'.Perm m ∧ Paired R l' m' := by
  induction p with
  | nil => intro m h; exact ⟨m, .refl _, h⟩
  | cons x _ ih =>
    intro m h
    cases h with
    | cons h t =>
      obtain ⟨m', p', h'⟩ := ih t
      exact ⟨_ :: m', p'.cons _, .cons h h'⟩
  | swap x y l =>
    intro m h
    cases h with
    | cons h t =>
      cases t with
      | cons h2 t =>
        exact ⟨_, .swap _ _ _, .cons h2 (.cons h t)⟩
  | trans _ _ ih1 ih2 =>
    intro m h
    obtain ⟨m1, p1, h1⟩ := ih2 h
    obtain ⟨m2, p2, h2⟩ := ih1 h1
    exact ⟨m2, p2.trans p1, h2⟩
def refA : V → Addr
  | .ref a => a
  | _ => 0
theorem refs_perm {ts : List Addr} {zs : List V} (p : zs.Perm (ts.map V.ref)) : ∃ ps : List Addr, zs = ps.map V.ref ∧ ps.Perm ts := by
  refine ⟨zs.map refA, ?_, ?_⟩
  · rw [List.map_map]
    have : ∀ z ∈ zs, z = (V.ref ∘ refA) z := fun z hz => by
      obtain ⟨a, _, rfl⟩ := List.mem_map.mp (p.mem_iff.mp hz)
      rfl
    conv => lhs; rw [← List.map_id zs]
    exact List.map_congr_left this
  · have := p.map refA
    rw [List.map_map] at this
    have e : ts.map (refA ∘ V.ref) = ts := by
      conv => rhs; rw [← List.map_id ts]
      rfl
    rw [e] at this
    exact this
/-- data without lists: it stays while the tuples stay -/
structure GE {α : Type} (enc : α → PyData) : Prop where
  alk : Alk enc
  stay : ∀ {K : PySem.W.Frag} {H H' : Hp} {v : V} {x : α}, (∀ c xs, Rd H c (.tup xs) → Rd H' c (.tup xs)) → Dp K H v (enc x) → Dp K H' v (enc x)
theorem Tx.stay {α : Type} {enc : α → PyData} {K : PySem.W.Frag} {H H' : Hp} {kvs : List (Key × V)} {rs : List (Str × α)} (g : GE enc) (s : ∀ c xs, Rd H c (.tup xs) → Rd H' c (.tup xs)) (h : Tx enc K H kvs rs) : Tx enc K H' kvs rs := pairedMono (fun _ _ z => ⟨z.1, g.stay s z.2⟩) h
end DW
namespace LW
open PySem PySem.Spec PyProof.Rows L2 DW
theorem ge_in : GE inD := ⟨alk_in, fun _ h => by rw [in_at h]; exact .int _⟩
theorem ge_wk : GE wkD := ⟨alk_wk, fun {K H H' v x} s h => by
  obtain ⟨t, rfl, ht⟩ := wk_at h
  exact .tup (ht.elim (fun q => .inl (s _ _ q)) .inr) (.cons (.str _) (.cons (.str _) (.cons (.int _) (.cons (.int _) (.cons (.int _) .nil)))))⟩
theorem ge_bd : GE bdD := ⟨alk_bd, fun {K H H' v x} s h => by
  obtain ⟨t, rfl, ht⟩ := bd_at h
  exact .tup (ht.elim (fun q => .inl (s _ _ q)) .inr) (.cons (.str _) (.cons (.str _) (.cons (.int _) .nil)))⟩
/-- the tuples stay while the dice is rolled -/
theorem tk_but {H H' : Hp} {D : Addr} (hD : Dc H D) (b : But D H H') : ∀ c xs, Rd H c (.tup xs) → Rd H' c (.tup xs) := fun c xs r => by
  obtain ⟨d0, d1, d2, e⟩ := hD
  have n : c ≠ D := fun z => by
    subst z
    rcases r with r | ⟨z, r⟩ <;> rw [e] at r <;> cases r
  exact r.elim (fun r => .inl (b _ _ n r)) fun ⟨z, r⟩ => .inr ⟨z, b _ _ n r⟩
theorem td_roll {α : Type} {enc : α → PyData} {K : PySem.W.Frag} {H H' : Hp} {D a : Addr} {rs : List (Str × α)} (g : GE enc) (hD : Dc H D) (b : But D H H') (h : TD enc K H a rs) : TD enc K H' a rs := by
  obtain ⟨kvs, e, t⟩ := h
  obtain ⟨d0, d1, d2, eD⟩ := id hD
  exact ⟨kvs, b _ _ (ne_of e eD (fun z => nomatch z)) e, t.stay g (tk_but hD b)⟩
theorem lot_roll {α : Type} {enc : α → PyData} {K : PySem.W.Frag} {H H' : Hp} {D : Addr} {v : V} {rs : List (Str × α)} (g : GE enc) (hD : Dc H D) (b : But D H H') (h : Lot enc K H v rs) : Lot enc K H' v rs := by
  rcases h with ⟨a, e, t⟩ | ⟨e, t, ev, ht⟩
  · exact .inl ⟨a, e, td_roll g hD b t⟩
  · exact .inr ⟨e, t, ev, ht.elim (fun q => .inl (tk_but hD b _ _ q)) .inr⟩
theorem paired_snoc {β γ : Type} {R : β → γ → Prop} {l : List β} {m : List γ} {x : β} {y : γ} (h : Paired R l m) (r : R x y) : Paired R (l ++ [x]) (m ++ [y]) := by
  induction h with
  | nil => exact .cons r .nil
  | cons q t ih => exact .cons q ih
/-- the pairs of a dict, at addresses -/
def PA2 (K : PySem.W.Frag) (H : Hp) (ps : List Addr) (kvs : List (Key × V)) : Prop := Paired (fun (t : Addr) (q : Key × V) => SqT K H t [kV q.1, q.2]) ps kvs
theorem PA2.tk {K : PySem.W.Frag} {H H' : Hp} {ps : List Addr} {kvs : List (Key × V)} (s : ∀ c xs, Rd H c (.tup xs) → Rd H' c (.tup xs)) (h : PA2 K H ps kvs) : PA2 K H' ps kvs := pairedMono (fun _ _ z => z.elim (fun q => .inl (s _ _ q)) .inr) h
theorem PA2.snoc {K : PySem.W.Frag} {H : Hp} {ps : List Addr} {kvs : List (Key × V)} {t : Addr} {s : Str} {v : V} (h : PA2 K H ps kvs) (ht : SqT K H t [.str s, v]) : PA2 K H (ps ++ [t]) (kvs ++ [(.inr s, v)]) := paired_snoc h ht
theorem Tx.snoc {α : Type} {enc : α → PyData} {K : PySem.W.Frag} {H : Hp} {kvs : List (Key × V)} {rs : List (Str × α)} {p : Str × α} {v : V} (h : Tx enc K H kvs rs) (d : Dp K H v (enc p.2)) : Tx enc K H (kvs ++ [(.inr p.1, v)]) (rs ++ [p]) := paired_snoc h ⟨rfl, d⟩
/-- a list grows: the tuples stay -/
theorem tk_lst {H : Hp} {D : Addr} {xs : List V} {o : HO} (h : H D = some (.lst xs)) : ∀ c ys, Rd H c (.tup ys) → Rd (upd H D o) c (.tup ys) := fun c ys r => by
  have n : c ≠ D := fun z => by
    subst z
    rcases r with r | ⟨z, r⟩ <;> rw [h] at r <;> cases r
  unfold Rd
  rw [upd_ne n]
  exact r
/-- a plain net: a list of three dicts -/
def PlainAt (K : PySem.W.Frag) (H : Hp) (pl : Addr) (D : PlainD) : Prop := ∃ a b c : Addr, H pl = some (.lst [.ref a, .ref b, .ref c]) ∧ TD inD K H a D.L ∧ TD wkD K H b D.W ∧ TD bdD K H c D.B
theorem PlainAt.same {K : PySem.W.Frag} {H H' : Hp} {pl : Addr} {D : PlainD} (s : Same H H') (h : PlainAt K H pl D) : PlainAt K H' pl D := by
  obtain ⟨a, b, c, h1, h2, h3, h4⟩ := h
  exact ⟨a, b, c, s _ _ h1, h2.same s, h3.same s, h4.same s⟩
theorem Road.congr {W W' : Ws} (h1 : ∀ s, look (endW W) s = look (endW W') s) (h2 : ∀ n, look W n = look W' n) {z r : Str} {c : List Str} (h : Road W z r c) : Road W' z r c := by
  induction h with
  | stop e => exact .stop ((h1 _).symm.trans e)
  | step e lx _ ih => exact .step ((h1 _).symm.trans e) ((h2 _).symm.trans lx) ih
theorem endW_sort {L : Ls} {W : Ws} (ok : OkW L W) (s : Str) : look (endW (srtR W)) s = look (endW W) s :=
  (look_perm (rs := endW W) (rs' := endW (srtR W)) ((srtR_perm ok.nd).symm.map fun p : Str × WkT => (p.2.2.1, p.1)) (endW_nodup ok) s).symm
/-- made tuples stay -/
def Tp (H H' : Hp) : Prop := ∀ c xs, H c = some (.tup xs) → H' c = some (.tup xs)
theorem Tp.of {H H' : Hp} (s : Same H H') : Tp H H' := fun c xs e => s _ _ e
theorem Tp.trans {H H1 H2 : Hp} (a : Tp H H1) (b : Tp H1 H2) : Tp H H2 := fun c xs e => b _ _ (a _ _ e)
theorem Tp.lst {H : Hp} {D : Addr} {xs : List V} {o : HO} (h : H D = some (.lst xs)) : Tp H (upd H D o) := fun c ys e => by
  rw [upd_ne (ne_of e h (fun z => nomatch z))]
  exact e
theorem Tp.but {H H' : Hp} {D : Addr} (hD : Dc H D) (b : But D H H') : Tp H H' := fun c ys e => by
  obtain ⟨d0, d1, d2, eD⟩ := hD
  exact b _ _ (ne_of e eD (fun z => nomatch z)) e
end LW
namespace LW
open PySem PySem.Spec PyProof.Rows L2 DW
/-! ### the drawn nets, as data -/
def eN (i : Nat) : Str := ("e" : Str) ++ nS i
def baseN (m : Nat) : List Str := (List.range m).map eN ++ [("a" : Str), ("b.1" : Str), ("z9" : Str), ("go.go" : Str)]
theorem base_ok : ∀ m ∈ [1, 3, 7, 20, 40], (baseN m).Nodup ∧ ((baseN m).all nameS) = true ∧ (baseN m).length = m + 4 := by decide +kernel
theorem sub_perm : ∀ {xs ys : List Str}, xs.Nodup → (∀ x ∈ xs, x ∈ ys) → ys.length ≤ xs.length → ys.Perm xs
  | [], ys, _, _, h => by
    rw [List.length_eq_zero_iff.mp (Nat.le_zero.mp h)]
  | x :: xs, ys, nd, s, h => by
    rw [List.nodup_cons] at nd
    have xm := s x (List.mem_cons_self ..)
    have e := List.length_erase_of_mem xm
    have pos : 0 < ys.length := List.length_pos_of_mem xm
    have ih := sub_perm (xs := xs) (ys := ys.erase x) nd.2 (fun z hz => (List.mem_erase_of_ne (fun e => nd.1 (by rw [← e]; exact hz))).mpr (s z (List.mem_cons_of_mem _ hz))) (by rw [List.length_cons] at h; omega)
    exact (List.perm_cons_erase xm).trans (ih.cons x)
theorem strs_perm {ts : List Str} {zs : List V} (p : zs.Perm (ts.map V.str)) : ∃ ps : List Str, zs = ps.map V.str ∧ ps.Perm ts := by
  let g : V → Str := fun v => match v with | .str s => s | _ => Str.empty
  refine ⟨zs.map g, ?_, ?_⟩
  · rw [List.map_map]
    have : ∀ z ∈ zs, z = (V.str ∘ g) z := fun z hz => by
      obtain ⟨a, _, rfl⟩ := List.mem_map.mp (p.mem_iff.mp hz)
      rfl
    conv => lhs; rw [← List.map_id zs]
    exact List.map_congr_left this
  · have := p.map g
    rw [List.map_map] at this
    have e : ts.map (g ∘ V.str) = ts := by
      conv => rhs; rw [← List.map_id ts]
      rfl
    rw [e] at this
    exact this
theorem cut_take (xs : List V) (m : Nat) : cutV xs none (some (m : Int)) = xs.take m := by
  unfold cutV
  have e1 : HT.sIx xs.length 0 none = 0 := rfl
  have e2 : HT.sIx xs.length xs.length (some (m : Int)) = min m xs.length := by
    show (if (m : Int) < 0 then ((m : Int) + (xs.length : Int)).toNat else min (m : Int).toNat xs.length) = _
    rw [if_neg (by omega), Int.toNat_natCast]
  rw [e1, e2, List.drop_zero, Nat.sub_zero]
  rw [List.take_eq_take_iff]
  omega
/-- every second, from the first or the second one -/
theorem pick_even {α : Type} {xs : List α} {x : α} (h : x ∈ pickL xs none none (some 2)) : ∃ i, xs[2 * i]? = some x := by
  obtain ⟨j, hj, e⟩ := pick_mem.mp h
  unfold pickIx sliceRange sliceBounds at hj
  simp only [Option.getD_some] at hj
  obtain ⟨k, _, ek⟩ := List.mem_map.mp hj
  refine ⟨k, ?_⟩
  have : j = 2 * k := by
    rw [← ek]
    simp
    omega
  rw [← this]
  exact e
theorem pick_odd {α : Type} {xs : List α} {x : α} (h : x ∈ pickL xs (some 1) none (some 2)) : ∃ i, xs[2 * i + 1]? = some x := by
  obtain ⟨j, hj, e⟩ := pick_mem.mp h
  have pos : 0 < xs.length := by
    rcases Nat.eq_zero_or_pos xs.length with z | z
    · rw [List.length_eq_zero_iff.mp z] at e
      simp at e
    · exact z
  unfold pickIx sliceRange sliceBounds at hj
  simp only [Option.getD_some] at hj
  obtain ⟨k, _, ek⟩ := List.mem_map.mp hj
  refine ⟨k, ?_⟩
  have : j = 2 * k + 1 := by
    rw [← ek]
    have e1 : max (0 : Int) (min 1 (xs.length : Int)) = 1 := by omega
    simp [e1]
    omega
  rw [← this]
  exact e
theorem range_len (a b c : Int) : (sliceRange a b c).length = (if c > 0 then (if a < b then (b - a + c - 1) / c else 0) else (if a > b then (a - b - c - 1) / (-c) else 0)).toNat := by
  unfold sliceRange
  simp only [List.length_map, List.length_range]
theorem pick_len {α : Type} {xs : List α} {lo hi st : Option Int} : (pickL xs lo hi st).length ≤ (pickIx lo hi st xs.length).length := fm_len _ _
/-- the picked ones are no more than all -/
theorem pick_le2 {α : Type} {xs : List α} (nd : xs.Nodup) (lo : Option Int) (hlo : lo = none ∨ lo = some 1) : (pickL xs lo none (some 2)).Nodup := by
  unfold pickL
  have ix : (pickIx lo none (some 2) xs.length).Pairwise (· < ·) := by
    unfold pickIx sliceRange sliceBounds
    simp only [Option.getD_some]
    rw [List.pairwise_map]
    refine List.Pairwise.imp (fun {a b} h => ?_) List.pairwise_lt_range
    rcases hlo with rfl | rfl
    · simp
      omega
    · simp
      omega
  refine List.Pairwise.filterMap (R := (· < ·)) _ (fun a b lt x hx y hy => ?_) ix
  intro e
  subst e
  obtain ⟨ha, ea⟩ := List.getElem?_eq_some_iff.mp hx
  obtain ⟨hb, eb⟩ := List.getElem?_eq_some_iff.mp hy
  have := (List.pairwise_iff_getElem.mp nd) a b ha hb lt
  exact this (ea.trans eb.symm)
theorem pick_map {α β : Type} (f : α → β) (xs : List α) (lo hi st : Option Int) : pickL (xs.map f) lo hi st = (pickL xs lo hi st).map f := by
  unfold pickL
  rw [List.length_map]
  have : ∀ l : List Nat, l.filterMap ((xs.map f)[·]?) = (l.filterMap (xs[·]?)).map f := by
    intro l
    induction l with
    | nil => rfl
    | cons i l ih =>
      cases e : xs[i]? with
      | none => rw [List.filterMap_cons_none e, List.filterMap_cons_none (by rw [List.getElem?_map, e]; rfl), ih]
      | some x => rw [List.filterMap_cons_some e, List.filterMap_cons_some (b := f x) (by rw [List.getElem?_map, e]; rfl), ih, List.map_cons]
  exact this _
theorem pick_sub {α : Type} {xs : List α} {lo hi st : Option Int} {x : α} (h : x ∈ pickL xs lo hi st) : x ∈ xs := by
  obtain ⟨i, _, e⟩ := pick_mem.mp h
  exact List.mem_of_getElem? e
theorem nodup_len : ∀ {xs ys : List Str}, xs.Nodup → (∀ x ∈ xs, x ∈ ys) → xs.length ≤ ys.length
  | [], _, _, _ => Nat.zero_le _
  | x :: xs, ys, nd, s => by
    rw [List.nodup_cons] at nd
    have xm := s x (List.mem_cons_self ..)
    have e := List.length_erase_of_mem xm
    have pos : 0 < ys.length := List.length_pos_of_mem xm
    have ih := nodup_len (xs := xs) (ys := ys.erase x) nd.2 (fun z hz => (List.mem_erase_of_ne (fun e => nd.1 (by rw [← e]; exact hz))).mpr (s z (List.mem_cons_of_mem _ hz)))
    rw [List.length_cons]
    omega
theorem none_but {H H' : Hp} {D a : Addr} (b : But D H H') (hD : Dc H' D) (n : H' a = none) : H a = none := by
  cases e : H a with
  | none => rfl
  | some o =>
    by_cases z : a = D
    · obtain ⟨d0, d1, d2, eD⟩ := hD
      rw [z, eD] at n
      cases n
    · rw [b _ _ z e] at n
      cases n
theorem but_mut {H H' : Hp} {D a : Addr} {o : HO} (b : But D H H') (n : H a = none) : But D H (upd H' a o) := fun c u nc e => by
  rw [upd_ne (ne_of_none e n)]
  exact b c u nc e
theorem dc_upd {H : Hp} {D a : Addr} {o : HO} (hD : Dc H D) (n : a ≠ D) : Dc (upd H a o) D := by
  obtain ⟨d0, d1, d2, e⟩ := hD
  exact ⟨d0, d1, d2, by rw [upd_ne (Ne.symm n)]; exact e⟩
end LW
namespace LW
open PySem PySem.Spec PyProof.Rows L2 DW
section
variable {X : Cx} {f C : Addr} {fd : FuncData} {n : Nat} {ps : List Str} {sp : Sp} {A : Around} {pins : List (Addr × Obj)} {s : Shared} {σ : L2.St} {H : Hp} {us : List Value} {ws : List V} {Q : VK}
/-- a def called below the running body, whatever the nesting -/
theorem call_at (F : FnOk X.prog X.w X.K X.mg X.base CX0 n f fd ps sp) (hb : Binds X.K fd ps []) (hr : Room n A) (hfr : A.frames = X.A.frames) (I : Inv X pins σ H s) (r : Vals ws us) (h : sp ws H Q E0) : wpAny (model X.prog X.w) A (call (.ref f) us) (EP X pins σ Q) X.xe s := by
  have e0 : Env0 X.prog X.w X.K X.mg X.base A X.stack s H := by
    have e := I.env0
    exact ⟨by rw [hfr]; exact e.frames, e.mod, e.bs, e.bsz, e.funs, e.frf, e.hok, e.bare⟩
  have hl := F.len _ _ _ _ h
  have hu : us.length = ps.length := by rw [← r.length]; exact hl
  refine wpAny_call (codeAny_mono (F.run A X.stack s H ⟨us, []⟩ us ws _ E0 hr e0 (by
    have := hb s us I.kIn (by simpa using hu)
    simpa using this) r h) fun r s' hq => ?_)
  rcases r with er | fl
  · exact hq.elim
  · cases fl with
    | ret w => exact I.after hq
    | _ => exact False.elim hq
/-- an instance of the class at C -/
def InsAt (H : Hp) (C a : Addr) : Prop := ∃ dx fs, H a = some (.ins C dx fs)
theorem NetAt.ins {K : PySem.W.Frag} {a : Addr} {D : PlainD} (h : NetAt K C H a D) : InsAt H C a := by
  obtain ⟨dx, _, _, _, _, _, g1, _⟩ := h
  exact ⟨dx, _, g1⟩
/-- len(x) of an instance with a def for it -/
def rLenI (C : Addr) (sp : Sp) : List V → Hp → VK → Prop := fun xs H Q => ∃ a, xs = [.ref a] ∧ InsAt H C a ∧ sp [.ref a] H (fun z H' => ∃ m : Nat, z = .int m ∧ m < 2 ^ 63 ∧ Q z H') E0
theorem call_lenI (F : FnOk X.prog X.w X.K X.mg X.base CX0 n f fd ps sp) (hb : Binds X.K fd ps []) (hr : Room (n + 1) X.A) (hs : PySem.W.findIn X.K (.ref C) "__len__" = some (some (.ref f))) (hf : PySem.W.isFn X.K (.ref f) = true) : CallR X (.builtin "len") (rLenI C sp) := by
  intro pins s σ H xs us Q I r h
  obtain ⟨a, rfl, ⟨dx, fs, g1⟩, q⟩ := h
  obtain ⟨u, rfl, ru⟩ := r.one
  cases (show u = Value.ref a from ru)
  obtain ⟨mA, J, _⟩ := ins_get I.hok g1
  obtain ⟨od, J, _⟩ := J.look
  obtain ⟨m, hF⟩ := I.fr
  refine PySem.W.len_K hF I.ok.mod.kin J hs hf (wpAny_mono (call_at (us := [.ref a]) (ws := [.ref a]) F hb hr.in1 rfl I (.cons rfl .nil) q) (fun w s' z => ?_) fun _ _ x => x)
  obtain ⟨z', H', I', rz, m, em, hm, qz⟩ := z
  subst em
  obtain ⟨t, e⟩ := (show ∃ t, w = Value.int (m : Nat) t from rz)
  cases e
  exact ⟨⟨by omega, by omega⟩, .int (m : Nat), H', I'.tok _, ⟨_, rfl⟩, qz⟩
/-- str(x) of an instance with a def for it -/
def rStrI (C : Addr) (sp : Sp) : List V → Hp → VK → Prop := fun xs H Q => ∃ a, xs = [.ref a] ∧ InsAt H C a ∧ sp [.ref a] H (fun z H' => ∃ y, z = .str y ∧ Q z H') E0
theorem call_strI (F : FnOk X.prog X.w X.K X.mg X.base CX0 n f fd ps sp) (hb : Binds X.K fd ps []) (hr : Room (n + 2) X.A) (hs : PySem.W.findIn X.K (.ref C) "__str__" = some (some (.ref f))) (hf : PySem.W.isFn X.K (.ref f) = true) : CallR X (.type "str") (rStrI C sp) := by
  intro pins s σ H xs us Q I r h
  obtain ⟨a, rfl, ⟨dx, fs, g1⟩, q⟩ := h
  obtain ⟨u, rfl, ru⟩ := r.one
  cases (show u = Value.ref a from ru)
  obtain ⟨mA, J, _⟩ := ins_get I.hok g1
  obtain ⟨od, J, _⟩ := J.look
  have hr2 : Room n X.A.in1.in1 := (show Room (n + 1) X.A.in1 from Room.in1 hr).in1
  refine PySem.W.kso_call hr2.units0 I.kIn J hs hf (wpAny_mono (call_at (us := [.ref a]) (ws := [.ref a]) F hb hr2 rfl I (.cons rfl .nil) q) (fun w s' z => ?_) fun _ _ x => x)
  obtain ⟨z', H', I', rz, y, ey, qz⟩ := z
  subst ey
  obtain ⟨t, e⟩ := (show ∃ t, w = Value.str y t from rz)
  cases e
  exact ⟨.str y, H', I', ⟨_, rfl⟩, qz⟩
/-- x in y, y an instance with a def for it -/
def rInI (C : Addr) (sp : Sp) : R2 := fun x y H Q => ∃ a, y = .ref a ∧ InsAt H C a ∧ sp [.ref a, x] H (fun z H' => ∃ b, z = .bl b ∧ Q z H') E0
theorem op_inI (F : FnOk X.prog X.w X.K X.mg X.base CX0 n f fd ps sp) (hb : Binds X.K fd ps []) (hr : Room n X.A) (hs : PySem.W.findIn X.K (.ref C) "__contains__" = some (some (.ref f))) (hf : PySem.W.isFn X.K (.ref f) = true) : OpR X (compareOp .In) (rInI C sp) := by
  intro pins s σ H x y v u Q I rx ry h
  obtain ⟨a, rfl, ⟨dx, fs, g1⟩, q⟩ := h
  cases ry
  obtain ⟨mA, J, _⟩ := ins_get I.hok g1
  obtain ⟨od, J, _⟩ := J.look
  obtain ⟨m, hF⟩ := I.fr
  refine PySem.W.in_K hF I.ok.mod.kin J hs hf (wpAny_mono (call_at (us := [.ref a, v]) (ws := [.ref a, x]) F hb hr rfl I (.cons rfl (.cons rx .nil)) q) (fun w s' z => ?_) fun _ _ x => x)
  obtain ⟨z', H', I', rz, b, eb, qz⟩ := z
  subst eb
  cases rz
  exact wpAny_truthy_bool ⟨.bl b, H', I', rfl, qz⟩
end
end LW
namespace LW
open PySem PySem.Spec PyProof.Rows L2 DW
theorem knownB_perm {L L' : Ls} (p : L'.Perm L) (z : Str) : knownB L' z = knownB L z := by
  unfold knownB
  congr 1
  by_cases m : z ∈ L.map (·.1)
  · rw [decide_eq_true m, decide_eq_true ((p.map (·.1)).mem_iff.mpr m)]
  · rw [decide_eq_false m, decide_eq_false fun q => m ((p.map (·.1)).mem_iff.mp q)]
/-- a net in another sequence is a net -/
theorem OkN.perm {D D' : PlainD} (pl : D'.L.Perm D.L) (pw : D'.W.Perm D.W) (pb : D'.B.Perm D.B) (ok : OkN D) : OkN D' where
  l := ⟨(pl.map (·.1)).nodup_iff.mpr ok.l.nd, by rw [pl.length_eq]; exact ok.l.len, fun p m => ok.l.name p (pl.mem_iff.mp m), fun p m => ok.l.tick p (pl.mem_iff.mp m)⟩
  w := by
    refine ⟨(pw.map (·.1)).nodup_iff.mpr ok.w.nd, by rw [pw.length_eq]; exact ok.w.len, fun p m => ok.w.name p (pw.mem_iff.mp m), fun p m => ?_, ?_, ?_, fun p m q n => ok.w.look p (pw.mem_iff.mp m) q (pw.mem_iff.mp n)⟩
    · have z := ok.w.wk p (pw.mem_iff.mp m)
      exact ⟨(knownB_perm pl _).trans z.b, (knownB_perm pl _).trans z.e, z.ne, z.be, z.l, z.lm, z.m, z.k⟩
    · exact (pw.map fun p => p.2.2.1).nodup_iff.mpr ok.w.ends
    · obtain ⟨r, hr⟩ := ok.w.rank
      exact ⟨r, fun p m => hr p (pw.mem_iff.mp m)⟩
  b := by
    refine ⟨(pb.map (·.1)).nodup_iff.mpr ok.b.nd, by rw [pb.length_eq]; exact ok.b.len, fun p m => ok.b.name p (pb.mem_iff.mp m), fun p m => ?_⟩
    have z := ok.b.bd p (pb.mem_iff.mp m)
    exact ⟨(knownB_perm pl _).trans z.f, (knownB_perm pl _).trans z.s, z.ne, z.m⟩
theorem sortN_perm {D D' : PlainD} (pl : D'.L.Perm D.L) (pw : D'.W.Perm D.W) (pb : D'.B.Perm D.B) (ok : OkN D) : sortN D' = sortN D := by
  unfold sortN
  rw [srtR_congr pl ((pl.map (·.1)).nodup_iff.mpr ok.l.nd), srtR_congr pw ((pw.map (·.1)).nodup_iff.mpr ok.w.nd), srtR_congr pb ((pb.map (·.1)).nodup_iff.mpr ok.b.nd)]
end LW
namespace LW
open PySem PySem.Spec PyProof.Rows L2 DW
structure PropK (P : Program) (w : World) (K : PySem.W.Frag) (mg : Str → Option Value) (base : Heap) (C : Addr) (nm : Str) (R : PlainD → V → Hp → Hp → Prop) (p g : Addr) (fd : FuncData) : Prop where
  o : PropOf K C nm p g
  G : FnOk P w K mg base CX0 1 g fd ["self"] (spGet K C R)
  b : Binds K fd ["self"] []
structure MethE (P : Program) (w : World) (K : PySem.W.Frag) (mg : Str → Option Value) (base : Heap) (C : Addr) (nm : Str) (R : PlainD → Str → V → Hp → Hp → Prop) (f : Addr) (fd : FuncData) : Prop where
  m : Meth K C nm f
  G : FnOk P w K mg base CX0 2 f fd ["self", "event"] (spEvt K C R)
  b : Binds K fd ["self", "event"] []
structure InK (P : Program) (w : World) (K : PySem.W.Frag) (mg : Str → Option Value) (base : Heap) (C f : Addr) (fd : FuncData) : Prop where
  G : FnOk P w K mg base CX0 1 f fd ["self", "value"] (spCon K C)
  s : PySem.W.findIn K (.ref C) "__contains__" = some (some (.ref f))
  fn : PySem.W.isFn K (.ref f) = true
  b : Binds K fd ["self", "value"] []
section
variable {X : Cx} {C p g : Addr} {fd : FuncData} {nm : Str} {R : PlainD → V → Hp → Hp → Prop} {o : Expr} {pos : Pos} {ta : TE}
theorem pe_pr (T : PropK X.prog X.w X.K X.mg X.base C nm R p g fd) (c : Cls X.K C) (hr : Room 2 X.A) (he : PE X o ta) (hab : attributeBase o nm X.env (eval o X.env) = eval o X.env := by rfl) : PE X (.Attribute o nm pos) (tProp C (spGet X.K C R) [] E0 ta) :=
  pe_prop (E := E0) (dvs := []) he c T.o T.G hr T.b .nil pass0 hab
end
/-- what work_of tells -/
abbrev rWkN : PlainD → Str → V → Hp → Hp → Prop := fun D z v _ _ => v = wkV (look (endW D.W) z)
/-- a row: its kind, its two names, its number -/
abbrev R4 := Str × Str × Str × Int
def r4V (r : R4) : List V := [.str r.1, .str r.2.1, .str r.2.2.1, .int r.2.2.2]
def r4D (r : R4) : PyData := .tuple [.str r.1, .str r.2.1, .str r.2.2.1, .int r.2.2.2]
def wkO (D : PlainD) (z : Str) : Option Str := look (endW D.W) z
/-- a row of the net -/
structure RowOk (D : PlainD) (r : R4) : Prop where
  one : knownB D.L r.2.1 = true
  num : 1 - 10 ^ 40 ≤ r.2.2.2 ∧ r.2.2.2 ≤ 10 ^ 40 - 1
  two : (r.1 = ("bound" : Str) ∧ knownB D.L r.2.2.1 = true) ∨ (r.1 = ("wait" : Str) ∧ (∃ x, look D.W r.2.2.1 = some x) ∧ wkO D r.2.1 ≠ some r.2.2.1)
section
variable {P : Program} {w : World} {K : PySem.W.Frag} {mg : Str → Option Value} {base : Heap}
/-- a net is a net -/
theorem scNN : FnScope ["value"] ["value"] (defScope s_need_net) := ⟨rfl, rfl, rfl, by decide +kernel, rfl, by decide +kernel, by decide +kernel⟩
def spNN (K : PySem.W.Frag) (C : Addr) : Sp := fun vs H Q E => ∃ x, vs = [.ref x] ∧ InsAt H C x ∧ Q .non H
theorem ok_nn {f C : Addr} {fd : FuncData} (F : Fun K "need_net" "need_net" s_need_net f fd) (g : mg "Net" = some (.ref C)) (IC : C8.InsC K C) (zI : mg "isinstance" = none) : FnOk P w K mg base CX0 1 f fd ["value"] (spNN K C) := by
  refine F.ok scNN (fun vs H Q E h => ?_) (fun cdv A outer s H vs Q E hr h => ?_)
  · obtain ⟨x, rfl, _⟩ := h
    rfl
  obtain ⟨x, rfl, ⟨dx, fs, g1⟩, q⟩ := h
  refine ⟨_, pss_one (ps_if (pt_not (pt_val (pe_callB call_isi (by rfl) zI (by rfl) (pa_cons (pv 0) (pa_cons (pe_glob rfl g (show RelV (.ref C) (.ref C) from rfl)) pa_nil))))) dead pss_nil), ?_⟩
  exact ⟨_, rfl, _, .ref C, _, _, _, rfl, .own _, .base (.ins g1 IC.cl IC.ha IC.hn IC.htk IC.hm), IC.me, _, rfl, iteF q⟩
/-- a place: dawn or an event -/
theorem scPl : FnScope ["net", "value"] ["net", "value"] (defScope s_is_place) := ⟨rfl, rfl, rfl, by decide +kernel, rfl, by decide +kernel, by decide +kernel⟩
def spPl (K : PySem.W.Frag) (C : Addr) : Sp := fun vs H Q _ => ∃ (x : Addr) (z : Str) (D : PlainD), vs = [.ref x, .str z] ∧ NetAt K C H x D ∧ Q (.bl (knownB D.L z)) H
theorem ok_place {f fI C : Addr} {fd dI : FuncData} (F : Fun K "is_place" "is_place" s_is_place f fd) (IN : InK P w K mg base C fI dI) {tW : Tok} (gW : mg "DAWN" = some (.str "dawn" tW)) : FnOk P w K mg base CX0 2 f fd ["net", "value"] (spPl K C) := by
  refine F.ok scPl (fun vs H Q E h => ?_) (fun cdv A outer s H vs Q E hr h => ?_)
  · obtain ⟨x, z, D, rfl, _⟩ := h
    rfl
  obtain ⟨x, z, D, rfl, net, k⟩ := h
  refine ⟨_, pss_one (ps_ret (pe_or (pe_cmpR op_eq (pv 1) (pe_glob rfl gW (show RelV (.str "dawn") (.str "dawn" tW) from ⟨tW, rfl⟩)) (nomark _)) (pe_one (pe_cmpR (op_inI IN.G IN.b (hr.mono (by decide)) IN.s IN.fn) (pv 1) (pv 0) (by rfl))))), ?_⟩
  refine ⟨_, rfl, rfl, _, rfl, ?_⟩
  have e : decide (V.str z = V.str "dawn") = decide (z = ("dawn" : Str)) := dec_strV
  rw [e]
  unfold knownB at k
  cases c : decide (z = ("dawn" : Str)) with
  | true =>
    rw [c] at k
    exact iteT k
  | false =>
    rw [c, Bool.false_or] at k
    exact iteF ⟨_, rfl, _, rfl, x, rfl, net.ins, x, .str z, .str z, D, rfl, net, .base (.str z) rfl, _, rfl, k⟩
/-- a work -/
theorem scIw : FnScope ["net", "value"] ["net", "value"] (defScope s_is_work) := ⟨rfl, rfl, rfl, by decide +kernel, rfl, by decide +kernel, by decide +kernel⟩
def spIw (K : PySem.W.Frag) (C : Addr) : Sp := fun vs H Q _ => ∃ (x : Addr) (z : Str) (D : PlainD), vs = [.ref x, .str z] ∧ NetAt K C H x D ∧ OkN D ∧ (∃ y, look D.W z = some y) ∧ ∀ H', Same H H' → Q (.bl true) H'
theorem ok_iw {f pW gW C : Addr} {fd dW : FuncData} (F : Fun K "is_work" "is_work" s_is_work f fd) (PW : PropK P w K mg base C "works" (rWorks K) pW gW dW) (N : NetK K C) (zI : mg "isinstance" = none) (zS : mg "str" = none) : FnOk P w K mg base CX0 3 f fd ["net", "value"] (spIw K C) := by
  refine F.ok scIw (fun vs H Q E h => ?_) (fun cdv A outer s H vs Q E hr h => ?_)
  · obtain ⟨x, z, D, rfl, _⟩ := h
    rfl
  obtain ⟨x, z, D, rfl, net, ok, ⟨y, ly⟩, k⟩ := h
  refine ⟨_, pss_one (ps_ret (pe_and (pe_callB call_isi (by rfl) zI (by rfl) (pa_cons (pv 1) (pa_cons (pe_bltn rfl zS (by rfl) (show RelV (.ty "str") (.type "str") from rfl)) pa_nil)))
    (pe_one (pe_cmp (pc_din (hu_of hr) (pv 1) (pe_pr PW N.c (Room.mono hr (by decide)) (pv 0))))))), ?_⟩
  refine rd_isi (d := .str z) rfl (.base (.str z) rfl) (kit_str (.str z)) ⟨_, rfl, iteT ⟨_, rfl, ?_⟩⟩
  obtain ⟨dx, la, wa, ba, ea, ra, h1, _⟩ := id net
  refine ⟨_, rfl, x, dx, _, rfl, h1, x, D, rfl, net, ok, fun v H1 s1 r => ?_⟩
  obtain ⟨d, rfl, nd, td⟩ := r
  obtain ⟨o, g, eo⟩ := td.tr.has z
  refine ⟨d, o, rfl, g, ?_⟩
  rw [eo, decide_eq_true (List.mem_map.mpr ⟨_, look_mem ly, rfl⟩)]
  exact k H1 s1
end
end LW
namespace LW
open PySem PySem.Spec PyProof.Rows L2 DW
/-- te gives v, whatever was made besides -/
def Giv (σ : L2.St) (H0 : Hp) (te : TE) (v : V) : Prop := ∀ (H : Hp) (Q : VK), Same H0 H → (∀ H', Same H H' → Q v H') → te σ H Q
/-- t tells b -/
def Tst (σ : L2.St) (H0 : Hp) (t : L2.TT) (b : Bool) : Prop := ∀ (H : Hp) (R : Bool → Hp → Prop), Same H0 H → (∀ H', Same H H' → R b H') → t σ H R
section
variable {K : PySem.W.Frag} {σ : L2.St} {H0 : Hp}
theorem gv_c {v : V} : Giv σ H0 (tC v) v := fun H Q _ k => k H (Same.refl H)
theorem gv_v {i : Nat} {v : V} (h : σ[i]? = some (some v)) : Giv σ H0 (tVar i) v := fun H Q _ k => ⟨_, h, k H (Same.refl H)⟩
theorem gv_ix {i t : Nat} {xs : List V} {v : V} (hi : σ[i]? = some (some (.ref t))) (ht : H0 t = some (.tup xs)) (j : Nat) (hj : xs[j]? = some v) : Giv σ H0 (tOp (rIxT K) (tVar i) (tC (.int (j : Nat)))) v := fun H Q s k =>
  ⟨_, hi, t, xs, (j : Nat), v, rfl, rfl, SqT.of (s _ _ ht), atI_nat (j := j) hj, k H (Same.refl H)⟩
theorem ts_ne {ta tb : TE} {a b : V} (ha : Giv σ H0 ta a) (hb : Giv σ H0 tb b) (sc : scal a b = true) : Tst σ H0 (tTest (tOp rNe ta tb)) (!decide (a = b)) := fun H R s k =>
  ha H _ s fun H1 s1 => hb H1 _ (s.trans s1) fun H2 s2 => ⟨sc, _, rfl, k H2 (s1.trans s2)⟩
theorem ts_eq {ta tb : TE} {a b : V} (ha : Giv σ H0 ta a) (hb : Giv σ H0 tb b) (sc : scal a b = true) : Tst σ H0 (tTest (tOp rEq ta tb)) (decide (a = b)) := fun H R s k =>
  ha H _ s fun H1 s1 => hb H1 _ (s.trans s1) fun H2 s2 => ⟨sc, _, rfl, k H2 (s1.trans s2)⟩
theorem ts_non {ta : TE} {a : V} (ha : Giv σ H0 ta a) : Tst σ H0 (tB (tIsN ta)) (decide (a = .non)) := fun H R s k =>
  ha H _ s fun H1 s1 => ⟨_, rfl, k H1 s1⟩
theorem ts_lt {ta tb : TE} {a b : Int} (ha : Giv σ H0 ta (.int a)) (hb : Giv σ H0 tb (.int b)) : Tst σ H0 (tTest (tOp (rI0 fun i j => .bl (decide (i < j))) ta tb)) (decide (a < b)) := fun H R s k =>
  ha H _ s fun H1 s1 => hb H1 _ (s.trans s1) fun H2 s2 => ⟨_, _, rfl, rfl, _, rfl, k H2 (s1.trans s2)⟩
theorem ts_gt {ta tb : TE} {a b : Int} (ha : Giv σ H0 ta (.int a)) (hb : Giv σ H0 tb (.int b)) : Tst σ H0 (tTest (tOp (rI0 fun i j => .bl (decide (j < i))) ta tb)) (decide (b < a)) := fun H R s k =>
  ha H _ s fun H1 s1 => hb H1 _ (s.trans s1) fun H2 s2 => ⟨_, _, rfl, rfl, _, rfl, k H2 (s1.trans s2)⟩
theorem ts_not {t : L2.TT} {a : Bool} (ha : Tst σ H0 t a) : Tst σ H0 (tNot t) (!a) := fun H R s k => ha H _ s k
theorem ts_or {t u : L2.TT} {a b : Bool} (ha : Tst σ H0 t a) (hb : a = false → Tst σ H0 u b) : Tst σ H0 (tOr t u) (a || b) := fun H R s k => ha H _ s fun H1 s1 => by
  cases a with
  | true => exact iteT (k H1 s1)
  | false => exact iteF (hb rfl H1 _ (s.trans s1) fun H2 s2 => k H2 (s1.trans s2))
theorem ts_and {t u : L2.TT} {a b : Bool} (ha : Tst σ H0 t a) (hb : a = true → Tst σ H0 u b) : Tst σ H0 (tAnd t u) (a && b) := fun H R s k => ha H _ s fun H1 s1 => by
  cases a with
  | true => exact iteT (hb rfl H1 _ (s.trans s1) fun H2 s2 => k H2 (s1.trans s2))
  | false => exact iteF (k H1 s1)
theorem dec_S {a b : Str} : decide (V.str a = V.str b) = decide (a = b) := by
  by_cases c : a = b
  · rw [decide_eq_true c, decide_eq_true (by rw [c])]
  · rw [decide_eq_false c, decide_eq_false fun z => c (by injection z)]
theorem ts_neS {ta tb : TE} {a b : Str} (ha : Giv σ H0 ta (.str a)) (hb : Giv σ H0 tb (.str b)) : Tst σ H0 (tTest (tOp rNe ta tb)) (!decide (a = b)) := by
  rw [← dec_S]
  exact ts_ne ha hb rfl
theorem ts_eqS {ta tb : TE} {a b : Str} (ha : Giv σ H0 ta (.str a)) (hb : Giv σ H0 tb (.str b)) : Tst σ H0 (tTest (tOp rEq ta tb)) (decide (a = b)) := by
  rw [← dec_S]
  exact ts_eq ha hb rfl
theorem ts_wkN {ta : TE} {o : Option Str} (ha : Giv σ H0 ta (wkV o)) : Tst σ H0 (tB (tIsN ta)) o.isNone := by
  have e : o.isNone = decide (wkV o = .non) := by cases o <;> rfl
  rw [e]
  exact ts_non ha
theorem ts_wkE {ta tb : TE} {o : Option Str} {n : Str} (ha : Giv σ H0 ta (wkV o)) (hb : Giv σ H0 tb (.str n)) : Tst σ H0 (tTest (tOp rEq ta tb)) (decide (o = some n)) := by
  have e : decide (o = some n) = decide (wkV o = .str n) := by
    cases o with
    | none => rfl
    | some m =>
      show decide (some m = some n) = decide (V.str m = V.str n)
      rw [dec_S]
      by_cases c : m = n
      · rw [decide_eq_true c, decide_eq_true (by rw [c])]
      · rw [decide_eq_false c, decide_eq_false fun z => c (Option.some.inj z)]
  rw [e]
  exact ts_eq ha hb (by cases o <;> rfl)
theorem ts_wkF {ta tb : TE} {o : Option Str} {n : Str} (ha : Giv σ H0 ta (wkV o)) (hb : Giv σ H0 tb (.str n)) : Tst σ H0 (tTest (tOp rNe ta tb)) (!decide (o = some n)) := fun H R s k =>
  ts_wkE ha hb H (fun b H' => R (!b) H') s (fun H' s' => k H' s') |> fun q => (by
    have e : decide (wkV o = .str n) = decide (o = some n) := by
      cases o with
      | none => rfl
      | some m =>
        show decide (V.str m = V.str n) = decide (some m = some n)
        rw [dec_S]
        by_cases c : m = n
        · rw [decide_eq_true c, decide_eq_true (by rw [c])]
        · rw [decide_eq_false c, decide_eq_false fun z => c (Option.some.inj z)]
    refine ts_ne ha hb (by cases o <;> rfl) H R s fun H' s' => ?_
    rw [e]
    exact k H' s')
/-- if t: a, else b -/
theorem rd_if {t : L2.TT} {ta tb : L2.TS} {b : Bool} {D : Ends} {H : Hp} (s : Same H0 H) (ht : Tst σ H0 t b) (h1 : b = true → ∀ H', Same H H' → ta D σ H') (h0 : b = false → ∀ H', Same H H' → tb D σ H') : tIfS t ta tb D σ H := ht H _ s fun H1 s1 => by
  cases b with
  | true => exact iteT (h1 rfl H1 s1)
  | false => exact iteF (h0 rfl H1 s1)
theorem rd_ret {te : TE} {v : V} {D : Ends} {H : Hp} (s : Same H0 H) (h : Giv σ H0 te v) (k : ∀ H', Same H H' → D.rt v H') : tRet te D σ H := h H _ s k
/-- what a row is, or nothing -/
def RowV (H : Hp) (v : V) : Option R4 → Prop
  | none => v = .non
  | some r => ∃ t, v = .ref t ∧ H t = some (.tup (r4V r))
theorem RowV.same {H H' : Hp} {v : V} {o : Option R4} (s : Same H H') (h : RowV H v o) : RowV H' v o := by
  cases o with
  | none => exact h
  | some r => obtain ⟨t, e, g⟩ := h; exact ⟨t, e, s _ _ g⟩
/-- return (kind, one, other, number) -/
theorem rd_row {a b c d : TE} {r : R4} {D : Ends} {H : Hp} (s : Same H0 H) (ha : Giv σ H0 a (.str r.1)) (hb : Giv σ H0 b (.str r.2.1)) (hc : Giv σ H0 c (.str r.2.2.1)) (hd : Giv σ H0 d (.int r.2.2.2)) (k : ∀ v H', Same H H' → RowV H' v (some r) → D.rt v H') :
    tRet (tTup (tCons a (tCons b (tCons c (tCons d tNil))))) D σ H :=
  ha H _ s fun H1 s1 => hb H1 _ (s.trans s1) fun H2 s2 => hc H2 _ (s.trans (s1.trans s2)) fun H3 s3 => hd H3 _ (s.trans (s1.trans (s2.trans s3))) fun H4 s4 => ⟨by show 4 ≤ sizeLine; decide, fun t nt =>
    k (.ref t) _ (s1.trans (s2.trans (s3.trans (s4.trans (same_new nt))))) ⟨t, rfl, upd_same⟩⟩
/-- net.work_of(z) -/
theorem gv_wk {C x : Addr} {te : TE} {i : Nat} {D : PlainD} {z : Str} (hi : σ[i]? = some (some (.ref x))) (net : NetAt K C H0 x D) (ok : OkN D) (kn : knownB D.L z = true) (h : Giv σ H0 te (.str z)) : Giv σ H0 (tMeth C "work_of" (spEvt K C rWkN) [] E0 (tVar i) (tCons te tNil)) (wkV (wkO D z)) := fun H Q s k => by
  obtain ⟨dx, la, wa, ba, ea, ra, h1, _⟩ := net.same s
  refine ⟨_, hi, x, dx, _, rfl, h1, rfl, ?_⟩
  show te σ H _
  refine h H _ s fun H1 s1 => ⟨x, z, D, rfl, net.same (s.trans s1), ok, kn, fun v H2 s2 e => ?_⟩
  rw [e]
  exact k H2 (s1.trans s2)
/-- net.works[n], a tuple of five -/
theorem rd_wk {C x : Addr} {te : TE} {i : Nat} {D : PlainD} {n : Str} {wk : WkT} {H : Hp} {Q : VK} (s : Same H0 H) (hi : σ[i]? = some (some (.ref x))) (net : NetAt K C H0 x D) (ok : OkN D) (h : Giv σ H0 te (.str n)) (lk : look D.W n = some wk)
    (k : ∀ t H', Same H H' → SqT K H' t [.str wk.1, .str wk.2.1, .int wk.2.2.1, .int wk.2.2.2.1, .int wk.2.2.2.2] → Q (.ref t) H') : tDGet (tProp C (spGet K C (rWorks K)) [] E0 (tVar i)) te σ H Q := by
  obtain ⟨dx, la, wa, ba, ea, ra, h1, _⟩ := net.same s
  refine ⟨_, hi, x, dx, _, rfl, h1, x, D, rfl, net.same s, ok, fun v H1 s1 r => ?_⟩
  obtain ⟨d, rfl, nd, td⟩ := r
  refine h H1 _ (s.trans s1) fun H2 s2 => ?_
  obtain ⟨u, gu, du⟩ := (td.same s2).tr.get lk
  obtain ⟨t, rfl, ht⟩ := wk_at du
  exact ⟨d, _, rfl, gu, k t H2 (s1.trans s2) ht⟩
end
end LW
namespace LW
open PySem PySem.Spec PyProof.Rows L2 DW
abbrev kBound : Str := "bound"
abbrev kWait : Str := "wait"
/-- what the rules make of rows -/
def joinR (r o : R4) : Option R4 := if (!decide (r.1 = kBound) || (!decide (o.1 = kBound) || !decide (r.2.2.1 = o.2.1))) = true then none else some (kBound, r.2.1, o.2.2.1, r.2.2.2 + o.2.2.2)
def earlyR (D : PlainD) (r : R4) : Option R4 := if (!decide (r.1 = kBound) || (decide (r.2.1 = r.2.2.1) || (wkO D r.2.1).isNone)) = true then none else
  match (wkO D r.2.1).bind (look D.W) with
  | none => none
  | some w => if decide (w.2.2.2.2 - 1 < r.2.2.2) = true then none else some (kBound, w.1, r.2.2.1, w.2.2.1 + r.2.2.2)
def firstR (D : PlainD) (r : R4) : Option R4 := if (!decide (r.1 = kBound) || (decide (r.2.1 = r.2.2.1) || (wkO D r.2.2.1).isNone)) = true then none else
  match wkO D r.2.2.1 with
  | none => none
  | some n => match look D.W n with
    | none => none
    | some w => some (kWait, r.2.1, n, w.2.2.2.1 - r.2.2.2)
def lateR (D : PlainD) (r o : R4) : Option R4 := if (!decide (r.1 = kBound) || (!decide (o.1 = kWait) || (!decide (r.2.2.1 = o.2.1) || decide (wkO D r.2.1 = some o.2.2.1)))) = true then none else some (kWait, r.2.1, o.2.2.1, o.2.2.2 - r.2.2.2)
def bothR (D : PlainD) (r : R4) : Option R4 := if (!decide (r.1 = kWait) || (decide (r.2.2.2 < 1) || (wkO D r.2.1).isNone)) = true then none else
  match (wkO D r.2.1).bind (look D.W) with
  | none => none
  | some w => if decide (wkO D w.1 = some r.2.2.1) = true then none else some (kWait, w.1, r.2.2.1, r.2.2.2 - w.2.2.1)
def sureR (D : PlainD) (r : R4) : Option R4 := if (!decide (r.1 = kWait)) = true then none else
  match look D.W r.2.2.1 with
  | none => none
  | some w => some (kBound, r.2.1, w.1, -(if w.2.2.1 + w.2.2.2.2 < r.2.2.2 then w.2.2.1 + w.2.2.2.2 else r.2.2.2))
theorem wkO_look {D : PlainD} (ok : OkN D) {z n : Str} (h : wkO D z = some n) : ∃ w, look D.W n = some w ∧ w.2.1 = z ∧ OkWk D.L w := by
  have m := look_mem h
  obtain ⟨p, hp, e⟩ := List.mem_map.mp m
  injection e with e1 e2
  refine ⟨p.2, ?_, e1, ok.w.wk p hp⟩
  rw [← e2]
  exact DW.look_of ok.w.nd hp
section
variable {P : Program} {w : World} {K : PySem.W.Frag} {mg : Str → Option Value} {base : Heap}
theorem scJo : FnScope ["row", "other"] ["row", "other"] (defScope s_u_joined) := ⟨rfl, rfl, rfl, by decide +kernel, rfl, by decide +kernel, by decide +kernel⟩
def spJo (K : PySem.W.Frag) : Sp := fun vs H Q _ => ∃ (t u : Addr) (r o : R4), vs = [.ref t, .ref u] ∧ H t = some (.tup (r4V r)) ∧ H u = some (.tup (r4V o)) ∧ ∀ v H', Same H H' → RowV H' v (joinR r o) → Q v H'
theorem ok_jo {f : Addr} {fd : FuncData} (F : Fun K "_joined" "_joined" s_u_joined f fd) : FnOk P w K mg base CX0 1 f fd ["row", "other"] (spJo K) := by
  refine F.ok scJo (fun vs H Q E h => ?_) (fun cdv A outer s H vs Q E hr h => ?_)
  · obtain ⟨t, u, r, o, rfl, _⟩ := h
    rfl
  obtain ⟨t, u, r, o, rfl, ht, hu, k⟩ := h
  refine ⟨_, pss_cons (ps_if (PW.pt (pw_or (pt_cmpR op_ne (pe_ix (r := rIxT K) ix_tup (pv 0) pe_int (fun _ _ => rfl)) pe_str (nomark _)) (pw_or (pt_cmpR op_ne (pe_ix (r := rIxT K) ix_tup (pv 1) pe_int (fun _ _ => rfl)) pe_str (nomark _))
        (pw_or1 (pt_cmpR op_ne (pe_ix (r := rIxT K) ix_tup (pv 0) pe_int (fun _ _ => rfl)) (pe_ix (r := rIxT K) ix_tup (pv 1) pe_int (fun _ _ => rfl)) (nomark _)))))) (pss_one (ps_ret pe_non)) pss_nil)
    (pss_one (ps_ret (pe_tup (pa_cons pe_str (pa_cons (pe_ix (r := rIxT K) ix_tup (pv 0) pe_int (fun _ _ => rfl)) (pa_cons (pe_ix (r := rIxT K) ix_tup (pv 1) pe_int (fun _ _ => rfl))
      (pa_cons (pe_op op_add (pe_ix (r := rIxT K) ix_tup (pv 0) pe_int (fun _ _ => rfl)) (pe_ix (r := rIxT K) ix_tup (pv 1) pe_int (fun _ _ => rfl))) pa_nil))))))), ?_⟩
  refine rd_if (H0 := H) (Same.refl H) (ts_or (ts_neS (gv_ix rfl ht 0 rfl) gv_c) fun _ => ts_or (ts_neS (gv_ix rfl hu 0 rfl) gv_c) fun _ => ts_neS (gv_ix rfl ht 2 rfl) (gv_ix rfl hu 1 rfl)) (fun c H1 s1 => ?_) (fun c H1 s1 => ?_)
  · exact k .non H1 s1 (by unfold joinR; rw [if_pos c]; rfl)
  · refine rd_row (H0 := H) (r := (kBound, r.2.1, o.2.2.1, r.2.2.2 + o.2.2.2)) s1 gv_c (gv_ix rfl ht 1 rfl) (gv_ix rfl hu 2 rfl) ?_ fun v H2 s2 rv => k v H2 (s1.trans s2) ?_
    · exact fun G R sg kk => gv_ix rfl ht 3 rfl G _ sg fun G1 s3 => gv_ix rfl hu 3 rfl G1 _ (sg.trans s3) fun G2 s4 => ⟨_, _, rfl, rfl, kk G2 (s3.trans s4)⟩
    · unfold joinR
      rw [c, if_neg (by simp)]
      exact rv
end
end LW
namespace LW
open PySem PySem.Spec PyProof.Rows L2 DW
section
variable {P : Program} {w : World} {K : PySem.W.Frag} {mg : Str → Option Value} {base : Heap}
abbrev tW (C : Addr) (i j : Nat) (K : PySem.W.Frag) : TE := tMeth C "work_of" (spEvt K C rWkN) [] E0 (tVar 0) (tCons (tOp (rIxT K) (tVar i) (tC (.int (j : Nat)))) tNil)
/-- one row of the net -/
def spOne (K : PySem.W.Frag) (C : Addr) (g : PlainD → R4 → Option R4) : Sp := fun vs H Q _ => ∃ (x t : Addr) (r : R4) (D : PlainD), vs = [.ref x, .ref t] ∧ NetAt K C H x D ∧ OkN D ∧ H t = some (.tup (r4V r)) ∧ RowOk D r ∧ ∀ v H', Same H H' → RowV H' v (g D r) → Q v H'
theorem scEa : FnScope ["net", "row", "begin", "_", "least", "look"] ["net", "row"] (defScope s_u_early) := ⟨rfl, rfl, rfl, by decide +kernel, rfl, by decide +kernel, by decide +kernel⟩
theorem or3 {a b c : Bool} (h : (a || (b || c)) = false) : a = false ∧ b = false ∧ c = false := by
  cases a <;> cases b <;> cases c <;> simp_all
theorem ok_ea {f fW C pW gW : Addr} {fd dW dWo : FuncData} (F : Fun K "_early" "_early" s_u_early f fd) (WO : MethE P w K mg base C "work_of" rWkN fW dWo) (PWk : PropK P w K mg base C "works" (rWorks K) pW gW dW) (N : NetK K C) : FnOk P w K mg base CX0 3 f fd ["net", "row"] (spOne K C earlyR) := by
  refine F.ok scEa (fun vs H Q E h => ?_) (fun cdv A outer s H vs Q E hr h => ?_)
  · obtain ⟨x, t, r, D, rfl, _⟩ := h
    rfl
  obtain ⟨x, t, r, D, rfl, net, ok, ht, ro, k⟩ := h
  refine ⟨_, pss_cons (ps_if (PW.pt (pw_or (pt_cmpR op_ne (pe_ix (r := rIxT K) ix_tup (pv 1) pe_int (fun _ _ => rfl)) pe_str (nomark _)) (pw_or (pt_cmpR op_eq (pe_ix (r := rIxT K) ix_tup (pv 1) pe_int (fun _ _ => rfl)) (pe_ix (r := rIxT K) ix_tup (pv 1) pe_int (fun _ _ => rfl)) (nomark _))
        (pw_or1 (pt_cmp (pc_isN (pe_meth (E := E0) (pv 0) N.c WO.m WO.G (Room.mono hr (by decide)) WO.b .nil pass0 (pa_cons (pe_ix (r := rIxT K) ix_tup (pv 1) pe_int (fun _ _ => rfl)) pa_nil)))))))) (pss_one (ps_ret pe_non)) pss_nil)
    (pss_cons (ps_asg (pe_dget (hu_of hr) (pe_pr PWk N.c (Room.mono hr (by decide)) (pv 0)) (pe_meth (E := E0) (pv 0) N.c WO.m WO.G (Room.mono hr (by decide)) WO.b .nil pass0 (pa_cons (pe_ix (r := rIxT K) ix_tup (pv 1) pe_int (fun _ _ => rfl)) pa_nil)) (fun _ _ => rfl))
      (pg_tup rfl (pgs_cons (pg_name (i := 2) scEa.nd rfl (Or.inl rfl)) (pgs_cons (pg_name (i := 3) scEa.nd rfl (Or.inl rfl)) (pgs_cons (pg_name (i := 4) scEa.nd rfl (Or.inl rfl)) (pgs_cons (pg_name (i := 3) scEa.nd rfl (Or.inl rfl)) (pgs_cons (pg_name (i := 5) scEa.nd rfl (Or.inl rfl)) pgs_nil)))))))
    (pss_cons (ps_if (pt_cmpR op_gt (pe_ix (r := rIxT K) ix_tup (pv 1) pe_int (fun _ _ => rfl)) (pe_op op_sub (pv 5) pe_int) (nomark _)) (pss_one (ps_ret pe_non)) pss_nil)
    (pss_one (ps_ret (pe_tup (pa_cons pe_str (pa_cons (pv 2) (pa_cons (pe_ix (r := rIxT K) ix_tup (pv 1) pe_int (fun _ _ => rfl)) (pa_cons (pe_op op_add (pv 4) (pe_ix (r := rIxT K) ix_tup (pv 1) pe_int (fun _ _ => rfl))) pa_nil))))))))), ?_⟩
  refine rd_if (H0 := H) (Same.refl H) (ts_or (ts_neS (gv_ix rfl ht 0 rfl) gv_c) fun _ => ts_or (ts_eqS (gv_ix rfl ht 1 rfl) (gv_ix rfl ht 2 rfl)) fun _ => ts_wkN (gv_wk rfl net ok ro.one (gv_ix rfl ht 1 rfl))) (fun c H1 s1 => ?_) (fun c H1 s1 => ?_)
  · exact k .non H1 s1 (by unfold earlyR; rw [if_pos c]; rfl)
  obtain ⟨c1, c2, c3⟩ := or3 c
  obtain ⟨n, hn⟩ : ∃ n, wkO D r.2.1 = some n := by
    cases e : wkO D r.2.1 with
    | none => rw [e] at c3; cases c3
    | some n => exact ⟨n, rfl⟩
  obtain ⟨y, ly, ey, oy⟩ := wkO_look ok hn
  have eR : earlyR D r = if decide (y.2.2.2.2 - 1 < r.2.2.2) = true then none else some (kBound, y.1, r.2.2.1, y.2.2.1 + r.2.2.2) := by
    unfold earlyR
    rw [c, if_neg (by simp), hn]
    show (match look D.W n with | none => none | some w => _) = _
    rw [ly]
  rw [eR] at k
  have net1 := net.same s1
  have ht1 := s1 _ _ ht
  refine rd_wk (H0 := H1) (n := n) (Same.refl H1) rfl net1 ok ?_ ly fun u H2 s2 hu => ⟨u, _, rfl, hu, rfl, _, _, rfl, _, _, rfl, _, _, rfl, _, _, rfl, _, _, rfl, rfl, ?_⟩
  · have g := gv_wk (σ := [some (.ref x), some (.ref t), none, none, none, none]) (i := 0) rfl net1 ok ro.one (gv_ix (K := K) (i := 1) rfl ht1 1 rfl)
    rw [hn] at g
    exact g
  refine rd_if (H0 := H1) s2 (ts_gt (gv_ix rfl ht1 3 rfl) (fun G R sg kk => ⟨_, rfl, _, _, rfl, rfl, kk G (Same.refl G)⟩)) (fun d H3 s3 => ?_) (fun d H3 s3 => ?_)
  · exact k .non H3 (s1.trans (s2.trans s3)) (by rw [if_pos d]; rfl)
  · refine rd_row (H0 := H1) (r := (kBound, y.1, r.2.2.1, y.2.2.1 + r.2.2.2)) (s2.trans s3) gv_c (gv_v rfl) (gv_ix rfl ht1 2 rfl) (fun G R sg kk => ⟨_, rfl, gv_ix rfl ht1 3 rfl G _ sg fun G1 s4 => ⟨_, _, rfl, rfl, kk G1 s4⟩⟩) fun v H4 s4 rv => k v H4 (s1.trans (s2.trans (s3.trans s4))) ?_
    rw [d, if_neg (by simp)]
    exact rv
end
end LW
namespace LW
open PySem PySem.Spec PyProof.Rows L2 DW
section
variable {P : Program} {w : World} {K : PySem.W.Frag} {mg : Str → Option Value} {base : Heap}
theorem or4 {a b c d : Bool} (h : (a || (b || (c || d))) = false) : a = false ∧ b = false ∧ c = false ∧ d = false := by
  cases a <;> cases b <;> cases c <;> cases d <;> simp_all
theorem not_f {p : Prop} [Decidable p] (h : (!decide p) = false) : p := by
  cases e : decide p with
  | true => exact of_decide_eq_true e
  | false => rw [e] at h; cases h
/-- a bound's second name is known -/
theorem RowOk.bnd {D : PlainD} {r : R4} (h : RowOk D r) (e : r.1 = kBound) : knownB D.L r.2.2.1 = true := by
  rcases h.two with ⟨_, k⟩ | ⟨e2, _⟩
  · exact k
  · rw [e] at e2
    exact absurd e2 (by decide +kernel)
theorem RowOk.wt {D : PlainD} {r : R4} (h : RowOk D r) (e : r.1 = kWait) : (∃ x, look D.W r.2.2.1 = some x) ∧ wkO D r.2.1 ≠ some r.2.2.1 := by
  rcases h.two with ⟨e2, _⟩ | ⟨_, k⟩
  · rw [e] at e2
    exact absurd e2 (by decide +kernel)
  · exact k
theorem scFi : FnScope ["net", "row", "work"] ["net", "row"] (defScope s_u_first) := ⟨rfl, rfl, rfl, by decide +kernel, rfl, by decide +kernel, by decide +kernel⟩
theorem ok_fi {f fW C pW gW : Addr} {fd dW dWo : FuncData} (F : Fun K "_first" "_first" s_u_first f fd) (WO : MethE P w K mg base C "work_of" rWkN fW dWo) (PWk : PropK P w K mg base C "works" (rWorks K) pW gW dW) (N : NetK K C) : FnOk P w K mg base CX0 3 f fd ["net", "row"] (spOne K C firstR) := by
  refine F.ok scFi (fun vs H Q E h => ?_) (fun cdv A outer s H vs Q E hr h => ?_)
  · obtain ⟨x, t, r, D, rfl, _⟩ := h
    rfl
  obtain ⟨x, t, r, D, rfl, net, ok, ht, ro, k⟩ := h
  refine ⟨_, pss_cons (ps_if (PW.pt (pw_or (pt_cmpR op_ne (pe_ix (r := rIxT K) ix_tup (pv 1) pe_int (fun _ _ => rfl)) pe_str (nomark _)) (pw_or (pt_cmpR op_eq (pe_ix (r := rIxT K) ix_tup (pv 1) pe_int (fun _ _ => rfl)) (pe_ix (r := rIxT K) ix_tup (pv 1) pe_int (fun _ _ => rfl)) (nomark _))
        (pw_or1 (pt_cmp (pc_isN (pe_meth (E := E0) (pv 0) N.c WO.m WO.G (Room.mono hr (by decide)) WO.b .nil pass0 (pa_cons (pe_ix (r := rIxT K) ix_tup (pv 1) pe_int (fun _ _ => rfl)) pa_nil)))))))) (pss_one (ps_ret pe_non)) pss_nil)
    (pss_cons (ps_set (i := 2) scFi.nd rfl (Or.inl rfl) (pe_meth (E := E0) (pv 0) N.c WO.m WO.G (Room.mono hr (by decide)) WO.b .nil pass0 (pa_cons (pe_ix (r := rIxT K) ix_tup (pv 1) pe_int (fun _ _ => rfl)) pa_nil)))
    (pss_one (ps_ret (pe_tup (pa_cons pe_str (pa_cons (pe_ix (r := rIxT K) ix_tup (pv 1) pe_int (fun _ _ => rfl)) (pa_cons (pv 2) (pa_cons (pe_op op_sub (pe_ix (r := rIxT K) ix_tup (pe_dget (hu_of hr) (pe_pr PWk N.c (Room.mono hr (by decide)) (pv 0)) (pv 2) (fun _ _ => rfl)) pe_int (fun _ _ => rfl)) (pe_ix (r := rIxT K) ix_tup (pv 1) pe_int (fun _ _ => rfl))) pa_nil)))))))), ?_⟩
  refine rd_if (H0 := H) (Same.refl H) (ts_or (a := !decide (r.1 = kBound)) (ts_neS (gv_ix rfl ht 0 rfl) gv_c) fun b1 => ts_or (ts_eqS (gv_ix rfl ht 1 rfl) (gv_ix rfl ht 2 rfl)) fun _ => ts_wkN (gv_wk rfl net ok (ro.bnd (not_f b1)) (gv_ix rfl ht 2 rfl))) (fun c H1 s1 => ?_) (fun c H1 s1 => ?_)
  · exact k .non H1 s1 (by unfold firstR; rw [if_pos c]; rfl)
  obtain ⟨c1, c2, c3⟩ := or3 c
  have kn := ro.bnd (not_f c1)
  obtain ⟨n, hn⟩ : ∃ n, wkO D r.2.2.1 = some n := by
    cases e : wkO D r.2.2.1 with
    | none => rw [e] at c3; cases c3
    | some n => exact ⟨n, rfl⟩
  obtain ⟨y, ly, ey, oy⟩ := wkO_look ok hn
  have eR : firstR D r = some (kWait, r.2.1, n, y.2.2.2.1 - r.2.2.2) := by
    unfold firstR
    rw [c, if_neg (by simp), hn]
    show (match look D.W n with | none => none | some w => _) = _
    rw [ly]
  rw [eR] at k
  have net1 := net.same s1
  have ht1 := s1 _ _ ht
  have g := gv_wk (σ := [some (.ref x), some (.ref t), none]) (i := 0) rfl net1 ok kn (gv_ix (K := K) (i := 1) rfl ht1 2 rfl)
  rw [hn] at g
  refine g H1 _ (Same.refl H1) fun H2 s2 => ?_
  refine rd_row (H0 := H1) (r := (kWait, r.2.1, n, y.2.2.2.1 - r.2.2.2)) s2 gv_c (gv_ix rfl ht1 1 rfl) (gv_v rfl) (fun G R sg kk => ?_) fun v H4 s4 rv => k v H4 (s1.trans (s2.trans s4)) rv
  refine rd_wk (H0 := H1) (n := n) (σ := [some (.ref x), some (.ref t), some (.str n)]) sg rfl net1 ok (gv_v rfl) ly fun u G2 s5 hu => ⟨u, _, 3, _, rfl, rfl, hu, atI_nat (j := 3) rfl, gv_ix rfl ht1 3 rfl G2 _ (sg.trans s5) fun G3 s6 => ⟨_, _, rfl, rfl, kk G3 (s5.trans s6)⟩⟩
theorem scLt : FnScope ["net", "row", "other"] ["net", "row", "other"] (defScope s_u_late) := ⟨rfl, rfl, rfl, by decide +kernel, rfl, by decide +kernel, by decide +kernel⟩
def spLt (K : PySem.W.Frag) (C : Addr) : Sp := fun vs H Q _ => ∃ (x t u : Addr) (r o : R4) (D : PlainD), vs = [.ref x, .ref t, .ref u] ∧ NetAt K C H x D ∧ OkN D ∧ H t = some (.tup (r4V r)) ∧ RowOk D r ∧ H u = some (.tup (r4V o)) ∧ ∀ v H', Same H H' → RowV H' v (lateR D r o) → Q v H'
theorem ok_lt {f fW C : Addr} {fd dWo : FuncData} (F : Fun K "_late" "_late" s_u_late f fd) (WO : MethE P w K mg base C "work_of" rWkN fW dWo) (N : NetK K C) : FnOk P w K mg base CX0 3 f fd ["net", "row", "other"] (spLt K C) := by
  refine F.ok scLt (fun vs H Q E h => ?_) (fun cdv A outer s H vs Q E hr h => ?_)
  · obtain ⟨x, t, u, r, o, D, rfl, _⟩ := h
    rfl
  obtain ⟨x, t, u, r, o, D, rfl, net, ok, ht, ro, hu, k⟩ := h
  refine ⟨_, pss_cons (ps_if (PW.pt (pw_or (pt_cmpR op_ne (pe_ix (r := rIxT K) ix_tup (pv 1) pe_int (fun _ _ => rfl)) pe_str (nomark _)) (pw_or (pt_cmpR op_ne (pe_ix (r := rIxT K) ix_tup (pv 2) pe_int (fun _ _ => rfl)) pe_str (nomark _))
        (pw_or (pt_cmpR op_ne (pe_ix (r := rIxT K) ix_tup (pv 1) pe_int (fun _ _ => rfl)) (pe_ix (r := rIxT K) ix_tup (pv 2) pe_int (fun _ _ => rfl)) (nomark _))
        (pw_or1 (pt_cmpR op_eq (pe_meth (E := E0) (pv 0) N.c WO.m WO.G (Room.mono hr (by decide)) WO.b .nil pass0 (pa_cons (pe_ix (r := rIxT K) ix_tup (pv 1) pe_int (fun _ _ => rfl)) pa_nil)) (pe_ix (r := rIxT K) ix_tup (pv 2) pe_int (fun _ _ => rfl)) (nomark _))))))) (pss_one (ps_ret pe_non)) pss_nil)
    (pss_one (ps_ret (pe_tup (pa_cons pe_str (pa_cons (pe_ix (r := rIxT K) ix_tup (pv 1) pe_int (fun _ _ => rfl)) (pa_cons (pe_ix (r := rIxT K) ix_tup (pv 2) pe_int (fun _ _ => rfl))
      (pa_cons (pe_op op_sub (pe_ix (r := rIxT K) ix_tup (pv 2) pe_int (fun _ _ => rfl)) (pe_ix (r := rIxT K) ix_tup (pv 1) pe_int (fun _ _ => rfl))) pa_nil))))))), ?_⟩
  refine rd_if (H0 := H) (Same.refl H) (ts_or (ts_neS (gv_ix rfl ht 0 rfl) gv_c) fun _ => ts_or (ts_neS (gv_ix rfl hu 0 rfl) gv_c) fun _ => ts_or (ts_neS (gv_ix rfl ht 2 rfl) (gv_ix rfl hu 1 rfl)) fun _ => ts_wkE (gv_wk rfl net ok ro.one (gv_ix rfl ht 1 rfl)) (gv_ix rfl hu 2 rfl)) (fun c H1 s1 => ?_) (fun c H1 s1 => ?_)
  · exact k .non H1 s1 (by unfold lateR; rw [if_pos c]; rfl)
  · refine rd_row (H0 := H) (r := (kWait, r.2.1, o.2.2.1, o.2.2.2 - r.2.2.2)) s1 gv_c (gv_ix rfl ht 1 rfl) (gv_ix rfl hu 2 rfl) ?_ fun v H2 s2 rv => k v H2 (s1.trans s2) ?_
    · exact fun G R sg kk => gv_ix rfl hu 3 rfl G _ sg fun G1 s3 => gv_ix rfl ht 3 rfl G1 _ (sg.trans s3) fun G2 s4 => ⟨_, _, rfl, rfl, kk G2 (s3.trans s4)⟩
    · unfold lateR
      rw [c, if_neg (by simp)]
      exact rv
theorem scBt : FnScope ["net", "row", "begin", "_", "least"] ["net", "row"] (defScope s_u_both) := ⟨rfl, rfl, rfl, by decide +kernel, rfl, by decide +kernel, by decide +kernel⟩
theorem ok_bt {f fW C pW gW : Addr} {fd dW dWo : FuncData} (F : Fun K "_both" "_both" s_u_both f fd) (WO : MethE P w K mg base C "work_of" rWkN fW dWo) (PWk : PropK P w K mg base C "works" (rWorks K) pW gW dW) (N : NetK K C) : FnOk P w K mg base CX0 3 f fd ["net", "row"] (spOne K C bothR) := by
  refine F.ok scBt (fun vs H Q E h => ?_) (fun cdv A outer s H vs Q E hr h => ?_)
  · obtain ⟨x, t, r, D, rfl, _⟩ := h
    rfl
  obtain ⟨x, t, r, D, rfl, net, ok, ht, ro, k⟩ := h
  refine ⟨_, pss_cons (ps_if (PW.pt (pw_or (pt_cmpR op_ne (pe_ix (r := rIxT K) ix_tup (pv 1) pe_int (fun _ _ => rfl)) pe_str (nomark _)) (pw_or (pt_cmpR op_lt (pe_ix (r := rIxT K) ix_tup (pv 1) pe_int (fun _ _ => rfl)) pe_int (nomark _))
        (pw_or1 (pt_cmp (pc_isN (pe_meth (E := E0) (pv 0) N.c WO.m WO.G (Room.mono hr (by decide)) WO.b .nil pass0 (pa_cons (pe_ix (r := rIxT K) ix_tup (pv 1) pe_int (fun _ _ => rfl)) pa_nil)))))))) (pss_one (ps_ret pe_non)) pss_nil)
    (pss_cons (ps_asg (pe_dget (hu_of hr) (pe_pr PWk N.c (Room.mono hr (by decide)) (pv 0)) (pe_meth (E := E0) (pv 0) N.c WO.m WO.G (Room.mono hr (by decide)) WO.b .nil pass0 (pa_cons (pe_ix (r := rIxT K) ix_tup (pv 1) pe_int (fun _ _ => rfl)) pa_nil)) (fun _ _ => rfl))
      (pg_tup rfl (pgs_cons (pg_name (i := 2) scBt.nd rfl (Or.inl rfl)) (pgs_cons (pg_name (i := 3) scBt.nd rfl (Or.inl rfl)) (pgs_cons (pg_name (i := 4) scBt.nd rfl (Or.inl rfl)) (pgs_cons (pg_name (i := 3) scBt.nd rfl (Or.inl rfl)) (pgs_cons (pg_name (i := 3) scBt.nd rfl (Or.inl rfl)) pgs_nil)))))))
    (pss_cons (ps_if (pt_cmpR op_eq (pe_meth (E := E0) (pv 0) N.c WO.m WO.G (Room.mono hr (by decide)) WO.b .nil pass0 (pa_cons (pv 2) pa_nil)) (pe_ix (r := rIxT K) ix_tup (pv 1) pe_int (fun _ _ => rfl)) (nomark _)) (pss_one (ps_ret pe_non)) pss_nil)
    (pss_one (ps_ret (pe_tup (pa_cons pe_str (pa_cons (pv 2) (pa_cons (pe_ix (r := rIxT K) ix_tup (pv 1) pe_int (fun _ _ => rfl)) (pa_cons (pe_op op_sub (pe_ix (r := rIxT K) ix_tup (pv 1) pe_int (fun _ _ => rfl)) (pv 4)) pa_nil))))))))), ?_⟩
  refine rd_if (H0 := H) (Same.refl H) (ts_or (ts_neS (gv_ix rfl ht 0 rfl) gv_c) fun _ => ts_or (ts_lt (gv_ix rfl ht 3 rfl) gv_c) fun _ => ts_wkN (gv_wk rfl net ok ro.one (gv_ix rfl ht 1 rfl))) (fun c H1 s1 => ?_) (fun c H1 s1 => ?_)
  · exact k .non H1 s1 (by unfold bothR; rw [if_pos c]; rfl)
  obtain ⟨c1, c2, c3⟩ := or3 c
  obtain ⟨n, hn⟩ : ∃ n, wkO D r.2.1 = some n := by
    cases e : wkO D r.2.1 with
    | none => rw [e] at c3; cases c3
    | some n => exact ⟨n, rfl⟩
  obtain ⟨y, ly, ey, oy⟩ := wkO_look ok hn
  have eR : bothR D r = if decide (wkO D y.1 = some r.2.2.1) = true then none else some (kWait, y.1, r.2.2.1, r.2.2.2 - y.2.2.1) := by
    unfold bothR
    rw [c, if_neg (by simp), hn]
    show (match look D.W n with | none => none | some w => _) = _
    rw [ly]
  rw [eR] at k
  have net1 := net.same s1
  have ht1 := s1 _ _ ht
  refine rd_wk (H0 := H1) (n := n) (Same.refl H1) rfl net1 ok ?_ ly fun u H2 s2 hu => ⟨u, _, rfl, hu, rfl, _, _, rfl, _, _, rfl, _, _, rfl, _, _, rfl, _, _, rfl, rfl, ?_⟩
  · have g := gv_wk (σ := [some (.ref x), some (.ref t), none, none, none]) (i := 0) rfl net1 ok ro.one (gv_ix (K := K) (i := 1) rfl ht1 1 rfl)
    rw [hn] at g
    exact g
  refine rd_if (H0 := H1) s2 (ts_wkE (gv_wk rfl net1 ok oy.b (gv_v rfl)) (gv_ix rfl ht1 2 rfl)) (fun d H3 s3 => ?_) (fun d H3 s3 => ?_)
  · exact k .non H3 (s1.trans (s2.trans s3)) (by rw [if_pos d]; rfl)
  · refine rd_row (H0 := H1) (r := (kWait, y.1, r.2.2.1, r.2.2.2 - y.2.2.1)) (s2.trans s3) gv_c (gv_v rfl) (gv_ix rfl ht1 2 rfl) (fun G R sg kk => gv_ix rfl ht1 3 rfl G _ sg fun G1 s4 => ⟨_, rfl, _, _, rfl, rfl, kk G1 s4⟩) fun v H4 s4 rv => k v H4 (s1.trans (s2.trans (s3.trans s4))) ?_
    rw [d, if_neg (by simp)]
    exact rv
theorem scSu : FnScope ["net", "row", "begin", "_", "least", "look"] ["net", "row"] (defScope s_u_sure) := ⟨rfl, rfl, rfl, by decide +kernel, rfl, by decide +kernel, by decide +kernel⟩
theorem ok_su {f C pW gW : Addr} {fd dW : FuncData} (F : Fun K "_sure" "_sure" s_u_sure f fd) (PWk : PropK P w K mg base C "works" (rWorks K) pW gW dW) (N : NetK K C) (zM : mg "min" = none) : FnOk P w K mg base CX0 3 f fd ["net", "row"] (spOne K C sureR) := by
  refine F.ok scSu (fun vs H Q E h => ?_) (fun cdv A outer s H vs Q E hr h => ?_)
  · obtain ⟨x, t, r, D, rfl, _⟩ := h
    rfl
  obtain ⟨x, t, r, D, rfl, net, ok, ht, ro, k⟩ := h
  refine ⟨_, pss_cons (ps_if (pt_cmpR op_ne (pe_ix (r := rIxT K) ix_tup (pv 1) pe_int (fun _ _ => rfl)) pe_str (nomark _)) (pss_one (ps_ret pe_non)) pss_nil)
    (pss_cons (ps_asg (pe_dget (hu_of hr) (pe_pr PWk N.c (Room.mono hr (by decide)) (pv 0)) (pe_ix (r := rIxT K) ix_tup (pv 1) pe_int (fun _ _ => rfl)) (fun _ _ => rfl))
      (pg_tup rfl (pgs_cons (pg_name (i := 2) scSu.nd rfl (Or.inl rfl)) (pgs_cons (pg_name (i := 3) scSu.nd rfl (Or.inl rfl)) (pgs_cons (pg_name (i := 4) scSu.nd rfl (Or.inl rfl)) (pgs_cons (pg_name (i := 3) scSu.nd rfl (Or.inl rfl)) (pgs_cons (pg_name (i := 5) scSu.nd rfl (Or.inl rfl)) pgs_nil)))))))
    (pss_one (ps_ret (pe_tup (pa_cons pe_str (pa_cons (pe_ix (r := rIxT K) ix_tup (pv 1) pe_int (fun _ _ => rfl)) (pa_cons (pv 2) (pa_cons (pe_un un_neg (pe_callB (call_min2 rfl) (by rfl) zM (by decide +kernel) (pa_cons (pe_ix (r := rIxT K) ix_tup (pv 1) pe_int (fun _ _ => rfl)) (pa_cons (pe_op op_add (pv 4) (pv 5)) pa_nil)))) pa_nil)))))))), ?_⟩
  refine rd_if (H0 := H) (Same.refl H) (ts_neS (gv_ix rfl ht 0 rfl) gv_c) (fun c H1 s1 => ?_) (fun c H1 s1 => ?_)
  · exact k .non H1 s1 (by unfold sureR; rw [if_pos c]; rfl)
  obtain ⟨y, ly⟩ := (ro.wt (not_f c)).1
  have eR : sureR D r = some (kBound, r.2.1, y.1, -(if y.2.2.1 + y.2.2.2.2 < r.2.2.2 then y.2.2.1 + y.2.2.2.2 else r.2.2.2)) := by
    unfold sureR
    rw [c, if_neg (by simp), ly]
  rw [eR] at k
  have net1 := net.same s1
  have ht1 := s1 _ _ ht
  refine rd_wk (H0 := H1) (n := r.2.2.1) (Same.refl H1) rfl net1 ok (gv_ix rfl ht1 2 rfl) ly fun u H2 s2 hu => ⟨u, _, rfl, hu, rfl, _, _, rfl, _, _, rfl, _, _, rfl, _, _, rfl, _, _, rfl, rfl, ?_⟩
  refine rd_row (H0 := H1) (r := (kBound, r.2.1, y.1, -(if y.2.2.1 + y.2.2.2.2 < r.2.2.2 then y.2.2.1 + y.2.2.2.2 else r.2.2.2))) s2 gv_c (gv_ix rfl ht1 1 rfl) (gv_v rfl) (fun G R sg kk => gv_ix rfl ht1 3 rfl G _ sg fun G1 s4 => ⟨_, rfl, _, rfl, _, _, rfl, rfl, ?_⟩) fun v H4 s4 rv => k v H4 (s1.trans (s2.trans s4)) rv
  exact ⟨_, _, rfl, _, rfl, kk G1 s4⟩
end
end LW
namespace LW
open PySem PySem.Spec PyProof.Rows L2 DW
/-- the six rules -/
inductive Rl | joined | early | first | late | both | sure
  deriving DecidableEq
def Rl.s : Rl → Str
  | .joined => "joined" | .early => "early" | .first => "first" | .late => "late" | .both => "both" | .sure => "sure"
/-- two rows, or one -/
def Rl.two : Rl → Bool
  | .joined => true | .late => true | _ => false
/-- what a rule makes of one row, or of two -/
def makeR (D : PlainD) (r : R4) (o : Option R4) : Rl → Option R4
  | .joined => match o with | some o => joinR r o | none => none
  | .late => match o with | some o => lateR D r o | none => none
  | .early => earlyR D r
  | .first => firstR D r
  | .both => bothR D r
  | .sure => sureR D r
/-- .. but no greater than numbers are -/
def madeR (D : PlainD) (r : R4) (o : Option R4) (l : Rl) : Option R4 := match makeR D r o l with
  | none => none
  | some n => if betD (1 - 10 ^ 40) (10 ^ 40 - 1) (.int n.2.2.2) = true then some n else none
/-- a second row, or None -/
def OthV (H : Hp) (D : PlainD) (v : V) : Option R4 → Prop
  | none => v = .non
  | some o => ∃ u, v = .ref u ∧ H u = some (.tup (r4V o)) ∧ RowOk D o
theorem OthV.same {H H' : Hp} {D : PlainD} {v : V} {o : Option R4} (s : Same H H') (h : OthV H D v o) : OthV H' D v o := by
  cases o with
  | none => exact h
  | some o => obtain ⟨u, e, g, k⟩ := h; exact ⟨u, e, s _ _ g, k⟩
theorem dec_wk {o : Option Str} {n : Str} : decide (wkV o = V.str n) = decide (o = some n) := by
  cases o with
  | none => rfl
  | some m =>
    show decide (V.str m = V.str n) = decide (some m = some n)
    rw [dec_S]
    by_cases c : m = n
    · rw [decide_eq_true c, decide_eq_true (by rw [c])]
    · rw [decide_eq_false c, decide_eq_false fun z => c (Option.some.inj z)]
section
variable {P : Program} {w : World} {K : PySem.W.Frag} {mg : Str → Option Value} {base : Heap}
theorem scIr : FnScope ["net", "value", "kind", "one", "other", "number"] ["net", "value"] (defScope s_is_row) := ⟨rfl, rfl, rfl, by decide +kernel, rfl, by decide +kernel, by decide +kernel⟩
def spIr (K : PySem.W.Frag) (C : Addr) : Sp := fun vs H Q _ => ∃ (x t : Addr) (r : R4) (D : PlainD), vs = [.ref x, .ref t] ∧ NetAt K C H x D ∧ OkN D ∧ H t = some (.tup (r4V r)) ∧ RowOk D r ∧ ∀ H', Same H H' → Q (.bl true) H'
theorem ok_ir {f fN fP fI fW fO C : Addr} {fd dN dP dI dW dO : FuncData} (F : Fun K "is_row" "is_row" s_is_row f fd) (CN : Cal P w K mg base 1 "need_net" ["value"] (spNN K C) fN dN) (CP : Cal P w K mg base 2 "is_place" ["net", "value"] (spPl K C) fP dP) (CI : Cal P w K mg base 2 "is_integer" ["value"] (spJ K (betD (1 - 10 ^ 40) (10 ^ 40 - 1))) fI dI)
    (CW : Cal P w K mg base 3 "is_work" ["net", "value"] (spIw K C) fW dW) (WO : MethE P w K mg base C "work_of" rWkN fO dO) (N : NetK K C) (zI : mg "isinstance" = none) (zT : mg "tuple" = none) (zL : mg "len" = none) : FnOk P w K mg base CX0 4 f fd ["net", "value"] (spIr K C) := by
  refine F.ok scIr (fun vs H Q E h => ?_) (fun cdv A outer s H vs Q E hr h => ?_)
  · obtain ⟨x, t, r, D, rfl, _⟩ := h
    rfl
  obtain ⟨x, t, r, D, rfl, net, ok, ht, ro, k⟩ := h
  refine ⟨_, pss_cons (ps_expr (pe_cal (E := E0) CN hr rfl (pa_cons (pv 0) pa_nil)))
    (pss_cons (ps_if (PW.pt (pw_or (pt_not (pt_val (pe_callB call_isi (by rfl) zI (by rfl) (pa_cons (pv 1) (pa_cons (pe_bltn rfl zT (by rfl) (show RelV (.ty "tuple") (.type "tuple") from rfl)) pa_nil))))) (pw_or1 (pt_cmpR op_ne (pe_callB call_len_seq (by rfl) zL PySem.boot_len (pa_cons (pv 1) pa_nil)) pe_int (nomark _))))) (pss_one (ps_ret pe_bl)) pss_nil)
    (pss_cons (ps_asg (pv 1) (pg_tup rfl (pgs_cons (pg_name (i := 2) scIr.nd rfl (Or.inl rfl)) (pgs_cons (pg_name (i := 3) scIr.nd rfl (Or.inl rfl)) (pgs_cons (pg_name (i := 4) scIr.nd rfl (Or.inl rfl)) (pgs_cons (pg_name (i := 5) scIr.nd rfl (Or.inl rfl)) pgs_nil))))))
    (pss_cons (ps_if (PW.pt (pw_or (pt_not (pt_val (pe_cal (E := E0) CP hr rfl (pa_cons (pv 0) (pa_cons (pv 3) pa_nil))))) (pw_or1 (pt_not (pt_val (pe_cal (E := E0) CI hr rfl (pa_cons (pv 5) pa_nil))))))) (pss_one (ps_ret pe_bl)) pss_nil)
    (pss_cons (ps_if (pt_cmpR op_eq (pv 2) pe_str (nomark _)) (pss_one (ps_ret (pe_cal (E := E0) CP hr rfl (pa_cons (pv 0) (pa_cons (pv 4) pa_nil))))) pss_nil)
    (pss_one (ps_ret (pe_and (pe_cmpR op_eq (pv 2) pe_str (nomark _)) (pe_and (pe_cal (E := E0) CW hr rfl (pa_cons (pv 0) (pa_cons (pv 4) pa_nil))) (pe_one (pe_cmpR op_ne (pe_meth (E := E0) (pv 0) N.c WO.m WO.G (Room.mono hr (by decide)) WO.b .nil pass0 (pa_cons (pv 3) pa_nil)) (pv 4) (nomark _))))))))))), ?_⟩
  refine ⟨_, rfl, x, rfl, net.ins, ?_⟩
  refine isi_tup rfl (SqT.of ht) kTT ⟨_, rfl, iteF ⟨_, rfl, t, _, rfl, .inr (SqT.of ht), rfl, _, rfl, iteF ?_⟩⟩
  refine ⟨_, rfl, t, _, rfl, SqT.of ht, rfl, _, _, rfl, _, _, rfl, _, _, rfl, _, _, rfl, rfl, ?_⟩
  refine ⟨_, rfl, _, rfl, x, r.2.1, D, rfl, net, _, rfl, ?_⟩
  rw [ro.one]
  refine iteF ⟨_, rfl, .int r.2.2.2, .int r.2.2.2, rfl, .base (.int _) rfl, (fun z e => by cases e), fun H1 s1 => ⟨_, rfl, ?_⟩⟩
  have eb : betD (1 - 10 ^ 40) (10 ^ 40 - 1) (.int r.2.2.2) = true := by
    show (decide (1 - 10 ^ 40 ≤ r.2.2.2) && decide (r.2.2.2 ≤ 10 ^ 40 - 1)) = true
    rw [decide_eq_true ro.num.1, decide_eq_true ro.num.2]
    rfl
  rw [eb]
  have net1 := net.same s1
  refine iteF ⟨_, rfl, rfl, _, rfl, ?_⟩
  rw [show decide (V.str r.1 = V.str "bound") = decide (r.1 = kBound) from dec_S]
  rcases ro.two with ⟨e, kn⟩ | ⟨e, ⟨y, ly⟩, ne⟩
  · rw [decide_eq_true e]
    refine iteT ⟨_, rfl, _, rfl, x, r.2.2.1, D, rfl, net1, ?_⟩
    rw [kn]
    exact k H1 s1
  · have e2 : r.1 ≠ kBound := fun z => by rw [e] at z; exact absurd z (by decide +kernel)
    rw [decide_eq_false e2]
    refine iteF ⟨_, rfl, rfl, _, rfl, ?_⟩
    rw [show decide (V.str r.1 = V.str "wait") = decide (r.1 = kWait) from dec_S, decide_eq_true e]
    refine iteT ⟨_, rfl, _, rfl, x, r.2.2.1, D, rfl, net1, ok, ⟨y, ly⟩, fun H2 s2 => ⟨true, rfl, iteT ?_⟩⟩
    have net2 := net1.same s2
    refine gv_wk (i := 0) (H0 := H2) rfl net2 ok ro.one (gv_v rfl) H2 _ (Same.refl H2) fun H3 s3 => ⟨_, rfl, by cases wkO D r.2.1 <;> rfl, ?_⟩
    rw [dec_wk, decide_eq_false ne]
    exact k H3 (s1.trans (s2.trans s3))
theorem scNr : FnScope ["net", "value"] ["net", "value"] (defScope s_u_need_row) := ⟨rfl, rfl, rfl, by decide +kernel, rfl, by decide +kernel, by decide +kernel⟩
def spNr (K : PySem.W.Frag) (C : Addr) : Sp := fun vs H Q _ => ∃ (x t : Addr) (r : R4) (D : PlainD), vs = [.ref x, .ref t] ∧ NetAt K C H x D ∧ OkN D ∧ H t = some (.tup (r4V r)) ∧ RowOk D r ∧ ∀ H', Same H H' → Q .non H'
theorem ok_nr {f fI C : Addr} {fd dI : FuncData} (F : Fun K "_need_row" "_need_row" s_u_need_row f fd) (CI : Cal P w K mg base 4 "is_row" ["net", "value"] (spIr K C) fI dI) : FnOk P w K mg base CX0 5 f fd ["net", "value"] (spNr K C) := by
  refine F.ok scNr (fun vs H Q E h => ?_) (fun cdv A outer s H vs Q E hr h => ?_)
  · obtain ⟨x, t, r, D, rfl, _⟩ := h
    rfl
  obtain ⟨x, t, r, D, rfl, net, ok, ht, ro, k⟩ := h
  refine ⟨_, pss_one (ps_if (pt_not (pt_val (pe_cal (E := E0) CI hr rfl (pa_cons (pv 0) (pa_cons (pv 1) pa_nil))))) dead pss_nil), ?_⟩
  exact ⟨_, rfl, _, rfl, x, t, r, D, rfl, net, ok, ht, ro, fun H1 s1 => ⟨true, rfl, iteF (k H1 s1)⟩⟩
theorem scTb : FnScope ["rule"] ["rule"] (defScope s_taken_by) := ⟨rfl, rfl, rfl, by decide +kernel, rfl, by decide +kernel, by decide +kernel⟩
def spTb : Sp := fun vs H Q _ => ∃ (l : Rl), vs = [.str l.s] ∧ ∀ H', Same H H' → Q (.int (if l.two = true then 2 else 1)) H'
theorem ok_tb {f : Addr} {fd : FuncData} (F : Fun K "taken_by" "taken_by" s_taken_by f fd) : FnOk P w K mg base CX0 1 f fd ["rule"] spTb := by
  refine F.ok scTb (fun vs H Q E h => ?_) (fun cdv A outer s H vs Q E hr h => ?_)
  · obtain ⟨l, rfl, _⟩ := h
    rfl
  obtain ⟨l, rfl, k⟩ := h
  refine ⟨_, pss_one (ps_ret (pe_ifExp (pt_cmpR op_in_seq (pv 0) (pe_tup (pa_cons pe_str (pa_cons pe_str pa_nil))) (by rfl)) pe_int pe_int)), ?_⟩
  refine ⟨_, rfl, by show 2 ≤ sizeLine; decide, fun t nt => ?_⟩
  have st := same_new (o := .tup [.str "joined", .str "late"]) nt
  refine ⟨t, _, rfl, .inr (SqT.of upd_same), rfl, by decide, _, rfl, ?_⟩
  have k := k _ st
  cases l <;> exact (by first | exact ite1 (by decide +kernel) k | exact ite0 (by decide +kernel) k)
theorem scMr : FnScope ["net", "rule", "rows"] ["net", "rule", "rows"] (defScope s_make_row) := ⟨rfl, rfl, rfl, by decide +kernel, rfl, by decide +kernel, by decide +kernel⟩
def spMr (K : PySem.W.Frag) (C : Addr) : Sp := fun vs H Q _ => ∃ (x tt t : Addr) (v : V) (l : Rl) (r : R4) (o : Option R4) (D : PlainD), vs = [.ref x, .str l.s, .ref tt] ∧ NetAt K C H x D ∧ OkN D ∧ H tt = some (.tup [.ref t, v]) ∧ H t = some (.tup (r4V r)) ∧ RowOk D r ∧ OthV H D v o ∧ o.isSome = l.two ∧ ∀ u H', Same H H' → RowV H' u (makeR D r o l) → Q u H'
theorem ok_mr {f f1 f2 f3 f4 f5 f6 C : Addr} {fd d1 d2 d3 d4 d5 d6 : FuncData} (F : Fun K "make_row" "make_row" s_make_row f fd) (CJ : Cal P w K mg base 1 "_joined" ["row", "other"] (spJo K) f1 d1) (CL : Cal P w K mg base 3 "_late" ["net", "row", "other"] (spLt K C) f2 d2) (CE : Cal P w K mg base 3 "_early" ["net", "row"] (spOne K C earlyR) f3 d3)
    (CF : Cal P w K mg base 3 "_first" ["net", "row"] (spOne K C firstR) f4 d4) (CB : Cal P w K mg base 3 "_both" ["net", "row"] (spOne K C bothR) f5 d5) (CS : Cal P w K mg base 3 "_sure" ["net", "row"] (spOne K C sureR) f6 d6) : FnOk P w K mg base CX0 4 f fd ["net", "rule", "rows"] (spMr K C) := by
  refine F.ok scMr (fun vs H Q E h => ?_) (fun cdv A outer s H vs Q E hr h => ?_)
  · obtain ⟨x, tt, t, v, l, r, o, D, rfl, _⟩ := h
    rfl
  obtain ⟨x, tt, t, v, l, r, o, D, rfl, net, ok, htt, ht, ro, ot, tw, k⟩ := h
  refine ⟨_, pss_cons (ps_if (pt_cmpR op_eq (pv 1) pe_str (nomark _)) (pss_one (ps_ret (pe_cal (E := E0) CJ hr rfl (pa_cons (pe_ix (r := rIxT K) ix_tup (pv 2) pe_int (fun _ _ => rfl)) (pa_cons (pe_ix (r := rIxT K) ix_tup (pv 2) pe_int (fun _ _ => rfl)) pa_nil))))) pss_nil)
    (pss_cons (ps_if (pt_cmpR op_eq (pv 1) pe_str (nomark _)) (pss_one (ps_ret (pe_cal (E := E0) CL hr rfl (pa_cons (pv 0) (pa_cons (pe_ix (r := rIxT K) ix_tup (pv 2) pe_int (fun _ _ => rfl)) (pa_cons (pe_ix (r := rIxT K) ix_tup (pv 2) pe_int (fun _ _ => rfl)) pa_nil)))))) pss_nil)
    (pss_cons (ps_if (pt_cmpR op_eq (pv 1) pe_str (nomark _)) (pss_one (ps_ret (pe_cal (E := E0) CE hr rfl (pa_cons (pv 0) (pa_cons (pe_ix (r := rIxT K) ix_tup (pv 2) pe_int (fun _ _ => rfl)) pa_nil))))) pss_nil)
    (pss_cons (ps_if (pt_cmpR op_eq (pv 1) pe_str (nomark _)) (pss_one (ps_ret (pe_cal (E := E0) CF hr rfl (pa_cons (pv 0) (pa_cons (pe_ix (r := rIxT K) ix_tup (pv 2) pe_int (fun _ _ => rfl)) pa_nil))))) pss_nil)
    (pss_cons (ps_if (pt_cmpR op_eq (pv 1) pe_str (nomark _)) (pss_one (ps_ret (pe_cal (E := E0) CB hr rfl (pa_cons (pv 0) (pa_cons (pe_ix (r := rIxT K) ix_tup (pv 2) pe_int (fun _ _ => rfl)) pa_nil))))) pss_nil)
    (pss_one (ps_ret (pe_cal (E := E0) CS hr rfl (pa_cons (pv 0) (pa_cons (pe_ix (r := rIxT K) ix_tup (pv 2) pe_int (fun _ _ => rfl)) pa_nil))))))))), ?_⟩
  have one : ∀ {g : PlainD → R4 → Option R4}, (∀ u H', Same H H' → RowV H' u (g D r) → Q u H') → spOne K C g [.ref x, .ref t] H Q E0 := fun kk => ⟨x, t, r, D, rfl, net, ok, ht, ro, kk⟩
  cases l with
  | joined =>
    cases o with
    | none => cases tw
    | some o =>
      obtain ⟨u, rfl, hu, oo⟩ := ot
      exact ⟨_, rfl, rfl, _, rfl, ite1 (by decide +kernel) ⟨_, rfl, tt, _, 0, _, rfl, rfl, SqT.of htt, atI_nat (j := 0) rfl, _, rfl, tt, _, 1, _, rfl, rfl, SqT.of htt, atI_nat (j := 1) rfl, t, u, r, o, rfl, ht, hu, k⟩⟩
  | late =>
    cases o with
    | none => cases tw
    | some o =>
      obtain ⟨u, rfl, hu, oo⟩ := ot
      exact ⟨_, rfl, rfl, _, rfl, ite0 (by decide +kernel) ⟨_, rfl, rfl, _, rfl, ite1 (by decide +kernel) ⟨_, rfl, _, rfl, tt, _, 0, _, rfl, rfl, SqT.of htt, atI_nat (j := 0) rfl, _, rfl, tt, _, 1, _, rfl, rfl, SqT.of htt, atI_nat (j := 1) rfl, x, t, u, r, o, D, rfl, net, ok, ht, ro, hu, k⟩⟩⟩
  | early => exact ⟨_, rfl, rfl, _, rfl, ite0 (by decide +kernel) ⟨_, rfl, rfl, _, rfl, ite0 (by decide +kernel) ⟨_, rfl, rfl, _, rfl, ite1 (by decide +kernel) ⟨_, rfl, _, rfl, tt, _, 0, _, rfl, rfl, SqT.of htt, atI_nat (j := 0) rfl, one k⟩⟩⟩⟩
  | first => exact ⟨_, rfl, rfl, _, rfl, ite0 (by decide +kernel) ⟨_, rfl, rfl, _, rfl, ite0 (by decide +kernel) ⟨_, rfl, rfl, _, rfl, ite0 (by decide +kernel) ⟨_, rfl, rfl, _, rfl, ite1 (by decide +kernel) ⟨_, rfl, _, rfl, tt, _, 0, _, rfl, rfl, SqT.of htt, atI_nat (j := 0) rfl, one k⟩⟩⟩⟩⟩
  | both => exact ⟨_, rfl, rfl, _, rfl, ite0 (by decide +kernel) ⟨_, rfl, rfl, _, rfl, ite0 (by decide +kernel) ⟨_, rfl, rfl, _, rfl, ite0 (by decide +kernel) ⟨_, rfl, rfl, _, rfl, ite0 (by decide +kernel) ⟨_, rfl, rfl, _, rfl, ite1 (by decide +kernel) ⟨_, rfl, _, rfl, tt, _, 0, _, rfl, rfl, SqT.of htt, atI_nat (j := 0) rfl, one k⟩⟩⟩⟩⟩⟩
  | sure => exact ⟨_, rfl, rfl, _, rfl, ite0 (by decide +kernel) ⟨_, rfl, rfl, _, rfl, ite0 (by decide +kernel) ⟨_, rfl, rfl, _, rfl, ite0 (by decide +kernel) ⟨_, rfl, rfl, _, rfl, ite0 (by decide +kernel) ⟨_, rfl, rfl, _, rfl, ite0 (by decide +kernel) ⟨_, rfl, _, rfl, tt, _, 0, _, rfl, rfl, SqT.of htt, atI_nat (j := 0) rfl, one k⟩⟩⟩⟩⟩⟩
end
end LW
namespace LW
open PySem PySem.Spec PyProof.Rows L2 DW
structure NetM (P : Program) (w : World) (K : PySem.W.Frag) (mg : Str → Option Value) (base : Heap) (C fI : Addr) (dI : FuncData) : Prop where
  M : Mk K C fI
  G : FnOk P w K mg base CX0 6 fI dI ["self", "lasts", "works", "bounds"] (spNet K C)
  g : mg "Net" = some (.ref C)
  b : Binds K dI ["self", "lasts", "works", "bounds"] []
theorem net_roll {K : PySem.W.Frag} {C : Addr} {H H' : Hp} {D x : Addr} {N : PlainD} (hD : Dc H D) (b : But D H H') (h : NetAt K C H x N) : NetAt K C H' x N := by
  obtain ⟨dx, la, wa, ba, ea, ra, h1, h2, h3, h4, ⟨ke, e5, t5⟩, ⟨kt, e6, t6⟩⟩ := h
  obtain ⟨d0, d1, d2, eD⟩ := id hD
  exact ⟨dx, la, wa, ba, ea, ra, b _ _ (ne_of h1 eD (fun z => nomatch z)) h1, td_roll ge_in hD b h2, td_roll ge_wk hD b h3, td_roll ge_bd hD b h4, ⟨ke, b _ _ (ne_of e5 eD (fun z => nomatch z)) e5, tx_st t5⟩, ⟨kt, b _ _ (ne_of e6 eD (fun z => nomatch z)) e6, t6.tk (tk_but hD b)⟩⟩
end LW
namespace LW
open PySem PySem.Spec PyProof.Rows L2 DW
theorem passE {X : Cx} {E : XK} (tk : Takes X (fun cls d _ H => E cls d H)) : Passes (L2.CX X.prog X.w) X E := fun pins σ H s e s' I c => passAt tk σ pins H s e s' I c
section
theorem pe_calR {X : Cx} {E : XK} {k m : Nat} {f : Addr} {fd : FuncData} {ps : List Str} {sp : Sp} {x : Str} {e : Expr} {es : List Expr} {p pos : Pos} {t : TA} (C : CalR X.prog X.w X.K X.mg X.base k x ps sp f fd) (hr : Room m X.A) (tk : Takes X (fun cls d _ H => E cls d H)) (hg : Gl X x) (ha : PA X (e :: es) t) (hk : k ≤ m := by decide) (hdb : (x == ("__debug__" : Str)) = false := by decide) (he : starEach (e :: es) X.env = (false, eval e X.env) :: starEach es X.env := by rfl) (hpl : (backTo pos (starEach es X.env)).any (·.1) = false := by rfl) :
    PE X (.Call (.Name x p) (e :: es) [] pos) (tCall sp [] E t) := pe_call C.G (hr.mono hk) hg C.g C.kp C.b .nil (passE tk) ha hdb he hpl
end
/-! ### data in a tuple of data -/
section
variable {X : Cx}
def rInT (K : PySem.W.Frag) (neg : Bool) : R2 := fun x y H Q => ∃ d ds, Dd K H x d ∧ Dp K H y (.tuple ds) ∧ SeqAt.shaped d = true ∧ SeqAt.shaped (.tuple ds) = true ∧ Q (.bl (if neg then !ds.any (fun z => PyData.eqv z d) else ds.any fun z => PyData.eqv z d)) H
theorem op_inT (hu : X.A.units + 65 < cLine) : OpR X (compareOp .In) (rInT X.K false) := by
  intro pins s σ H x y v u Q I rx ry h
  obtain ⟨d, ds, hd, he, sd, se, q⟩ := h
  obtain ⟨as, r1, _⟩ := Dd.reads I hd rx
  obtain ⟨bs, r2⟩ := Dp.reads I (.tuple ds) y u he ry
  exact SeqAt.in_tuple_reads r2 r1 (SeqAt.canLay_of_shaped se) (SeqAt.canLay_of_shaped sd) (room_in_shaped sd hu) ⟨.bl _, H, I, rfl, q⟩
theorem op_notInT (hu : X.A.units + 65 < cLine) : OpR X (compareOp .NotIn) (rInT X.K true) := by
  intro pins s σ H x y v u Q I rx ry h
  obtain ⟨d, ds, hd, he, sd, se, q⟩ := h
  obtain ⟨as, r1, _⟩ := Dd.reads I hd rx
  obtain ⟨bs, r2⟩ := Dp.reads I (.tuple ds) y u he ry
  exact SeqAt.notIn_tuple_reads r2 r1 (SeqAt.canLay_of_shaped se) (SeqAt.canLay_of_shaped sd) (room_in_shaped sd hu) ⟨.bl _, H, I, rfl, q⟩
end
/-! ### what is no tuple, no net -/
def NotNet (K : PySem.W.Frag) (C : Addr) (H : Hp) (v : V) : Prop := ∃ t, TyX K H v (.type t) ∧ PySem.W.kitOne K (.type t) (.ref C) = some false
def NotTup (K : PySem.W.Frag) (H : Hp) (v : V) : Prop := ∃ c, TyX K H v c ∧ PySem.W.kitOne K c (.type "tuple") = some false
theorem rd_nt {K : PySem.W.Frag} {σ : L2.St} {H : Hp} {v : V} {Q : VK} {i : Nat} (hv : σ[i]? = some (some v)) (h : NotTup K H v) (q : Q (.bl false) H) : tCB (rIsi K) (tCons (tVar i) (tCons (tC (.ty "tuple")) tNil)) σ H Q := by
  obtain ⟨c, ty, hk⟩ := h
  exact ⟨_, hv, _, .ty "tuple", _, _, _, rfl, .ty _, ty, hk, q⟩
/-! ### rows, as data -/
def plD (D : PlainD) : PyData → Bool
  | .str z => knownB D.L z | _ => false
def wkD' (D : PlainD) : PyData → Bool
  | .str z => (look D.W z).isSome | _ => false
def isS (s : Str) : PyData → Bool
  | .str z => decide (z = s) | _ => false
def ownD (D : PlainD) : PyData → PyData → Bool
  | .str z, .str y => decide (wkO D z = some y) | _, _ => false
def numD : PyData → Bool := betD (1 - 10 ^ 40) (10 ^ 40 - 1)
def rowD (D : PlainD) : PyData → Bool
  | .tuple [k, a, o, n] => plD D a && (numD n && (if isS kBound k = true then plD D o else isS kWait k && (wkD' D o && !ownD D a o)))
  | _ => false
theorem rowD_len (D : PlainD) {ds : List PyData} (h : ds.length ≠ 4) : rowD D (.tuple ds) = false := by
  match ds, h with
  | [], _ => rfl
  | [_], _ => rfl
  | [_, _], _ => rfl
  | [_, _, _], _ => rfl
  | [_, _, _, _], h => exact absurd rfl h
  | _ :: _ :: _ :: _ :: _ :: _, _ => rfl
/-- texts or None -/
def flD : PyData → Bool
  | .none => true | .str _ => true | _ => false
def fitR : PyData → Prop
  | .tuple [k, a, o, n] => flD k = true ∧ flD a = true ∧ Fit n ∧ (isS kBound k = true → flD o = true)
  | _ => True
theorem RowOk.d {D : PlainD} {r : R4} (h : RowOk D r) : rowD D (r4D r) = true := by
  have e : numD (.int r.2.2.2) = true := by
    show (decide (1 - 10 ^ 40 ≤ r.2.2.2) && decide (r.2.2.2 ≤ 10 ^ 40 - 1)) = true
    rw [decide_eq_true h.num.1, decide_eq_true h.num.2]
    rfl
  show (plD D (.str r.2.1) && (numD (.int r.2.2.2) && (if isS kBound (.str r.1) = true then plD D (.str r.2.2.1) else isS kWait (.str r.1) && (wkD' D (.str r.2.2.1) && !ownD D (.str r.2.1) (.str r.2.2.1))))) = true
  rw [e, show plD D (.str r.2.1) = true from h.one, Bool.true_and, Bool.true_and]
  rcases h.two with ⟨e, k⟩ | ⟨e, ⟨x, lx⟩, ne⟩
  · rw [show isS kBound (.str r.1) = true from decide_eq_true e, if_pos rfl]
    exact k
  · rw [if_neg (by show ¬ decide (r.1 = kBound) = true; rw [e]; decide +kernel)]
    show (decide (r.1 = kWait) && ((look D.W r.2.2.1).isSome && !decide (wkO D r.2.1 = some r.2.2.1))) = true
    rw [decide_eq_true e, lx, decide_eq_false ne]
    rfl
theorem fit_r4 (r : R4) : fitR (r4D r) := ⟨rfl, rfl, (fun z e => by cases e), fun _ => rfl⟩
theorem dd_r4 {K : PySem.W.Frag} {H : Hp} {t : Addr} {r : R4} (h : H t = some (.tup (r4V r))) : Dd K H (.ref t) (r4D r) := .base (.tup (SqT.of h) (.cons (.str _) (.cons (.str _) (.cons (.str _) (.cons (.int _) .nil))))) rfl
theorem row4 {D : PlainD} {d : PyData} (h : rowD D d = true) : ∃ r, d = r4D r ∧ RowOk D r := by
  match d, h with
  | .tuple [k, a, o, n], h =>
    simp only [rowD, Bool.and_eq_true] at h
    obtain ⟨ha, hn, h⟩ := h
    match a, ha with
    | .str z, ha =>
      match n, hn with
      | .int i, hn =>
        have hn : (decide (1 - 10 ^ 40 ≤ i) && decide (i ≤ 10 ^ 40 - 1)) = true := hn
        rw [Bool.and_eq_true, decide_eq_true_iff, decide_eq_true_iff] at hn
        by_cases c : isS kBound k = true
        · rw [if_pos c] at h
          match k, c with
          | .str s, c =>
            match o, h with
            | .str y, h => exact ⟨(s, z, y, i), rfl, ha, hn, .inl ⟨of_decide_eq_true c, h⟩⟩
        · rw [if_neg c, Bool.and_eq_true, Bool.and_eq_true] at h
          obtain ⟨h1, h2, h3⟩ := h
          match k, h1 with
          | .str s, h1 =>
            match o, h2, h3 with
            | .str y, h2, h3 =>
              refine ⟨(s, z, y, i), rfl, ha, hn, .inr ⟨of_decide_eq_true h1, Option.isSome_iff_exists.mp h2, ?_⟩⟩
              have h3 : (!decide (wkO D z = some y)) = true := h3
              simpa using h3
/-- a value that may be a row -/
def ValB (K : PySem.W.Frag) (H : Hp) (D : PlainD) (v : V) (b : Bool) : Prop := (NotTup K H v ∧ b = false) ∨ (∃ d, Dd K H v d ∧ fitR d ∧ b = rowD D d) ∨ ∃ a xs, v = .ref a ∧ SqT K H a xs ∧ xs.length ≠ 4 ∧ b = false
section
variable {P : Program} {w : World} {K : PySem.W.Frag} {mg : Str → Option Value} {base : Heap}
def spNNE (K : PySem.W.Frag) (C CE : Addr) : Sp := fun vs H Q E => ∃ v, vs = [v] ∧ ((∃ x, v = .ref x ∧ InsAt H C x ∧ Q .non H) ∨ (NotNet K C H v ∧ ∀ H', Same H H' → E (.ref CE) none H'))
theorem ok_nnE {f C CE : Addr} {fd : FuncData} (F : Fun K "need_net" "need_net" s_need_net f fd) (g : mg "Net" = some (.ref C)) (IC : C8.InsC K C) (o : Pl K mg "InvalidNet" CE) (zI : mg "isinstance" = none) : FnOk P w K mg base (L2.CX P w) 1 f fd ["value"] (spNNE K C CE) := by
  refine F.okX scNN (fun vs H Q E h => ?_) (fun cdv A outer s H vs Q E hr h => ?_)
  · obtain ⟨v, rfl, _⟩ := h
    rfl
  obtain ⟨v, rfl, h⟩ := h
  refine ⟨_, pss_one (ps_if (pt_not (pt_val (pe_callB call_isi (by rfl) zI (by rfl) (pa_cons (pv 0) (pa_cons (pe_glob rfl g (show RelV (.ref C) (.ref C) from rfl)) pa_nil)))))
      (pss_one (ps_raise rfl (takes_of rfl rfl rfl rfl) (pmk_exq0 rfl (pe_exP PySem.F.excBase_ValueError o.q o.hi o.ex.kC o.g rfl pe_str)))) pss_nil), ?_⟩
  rcases h with ⟨x, rfl, ⟨dx, fs, g1⟩, q⟩ | ⟨⟨t, ty, kt⟩, kE⟩
  · exact ⟨_, rfl, _, .ref C, _, _, _, rfl, .own _, .base (.ins g1 IC.cl IC.ha IC.hn IC.htk IC.hm), IC.me, _, rfl, iteF q⟩
  · exact ⟨_, rfl, _, .ref C, _, _, _, rfl, .own _, ty, kt, _, rfl, iteT (rd_pl (raises_own o.ex.ex o.ty) (fun a n => n) fun H2 s2 => kE _ s2)⟩
/-- a place, of a text or None -/
def spPl2 (K : PySem.W.Frag) (C : Addr) : Sp := fun vs H Q _ => ∃ (x : Addr) (v : V) (d : PyData) (D : PlainD), vs = [.ref x, v] ∧ Dp K H v d ∧ flD d = true ∧ NetAt K C H x D ∧ Q (.bl (plD D d)) H
theorem ok_place2 {f fI C : Addr} {fd dI : FuncData} (F : Fun K "is_place" "is_place" s_is_place f fd) (IN : InK P w K mg base C fI dI) {tW : Tok} (gW : mg "DAWN" = some (.str "dawn" tW)) : FnOk P w K mg base CX0 2 f fd ["net", "value"] (spPl2 K C) := by
  refine F.ok scPl (fun vs H Q E h => ?_) (fun cdv A outer s H vs Q E hr h => ?_)
  · obtain ⟨x, v, d, D, rfl, _⟩ := h
    rfl
  obtain ⟨x, v, d, D, rfl, hd, fl, net, k⟩ := h
  refine ⟨_, pss_one (ps_ret (pe_or (pe_cmpR op_eq (pv 1) (pe_glob rfl gW (show RelV (.str "dawn") (.str "dawn" tW) from ⟨tW, rfl⟩)) (nomark _)) (pe_one (pe_cmpR (op_inI IN.G IN.b (hr.mono (by decide)) IN.s IN.fn) (pv 1) (pv 0) (by rfl))))), ?_⟩
  match d, hd, fl, k with
  | .none, hd, _, k =>
    cases hd
    exact ⟨_, rfl, rfl, _, rfl, iteF ⟨_, rfl, _, rfl, x, rfl, net.ins, x, .non, .none, D, rfl, net, .base .non rfl, _, rfl, k⟩⟩
  | .str z, hd, _, k =>
    cases hd
    refine ⟨_, rfl, rfl, _, rfl, ?_⟩
    have e : decide (V.str z = V.str "dawn") = decide (z = ("dawn" : Str)) := dec_strV
    rw [e]
    have k : Q (.bl (knownB D.L z)) H := k
    unfold knownB at k
    cases c : decide (z = ("dawn" : Str)) with
    | true =>
      rw [c] at k
      exact iteT k
    | false =>
      rw [c, Bool.false_or] at k
      exact iteF ⟨_, rfl, _, rfl, x, rfl, net.ins, x, .str z, .str z, D, rfl, net, .base (.str z) rfl, _, rfl, k⟩
/-- a work, of anything -/
def spIw2 (K : PySem.W.Frag) (C : Addr) : Sp := fun vs H Q _ => ∃ (x : Addr) (v : V) (d : PyData) (D : PlainD), vs = [.ref x, v] ∧ Dd K H v d ∧ NetAt K C H x D ∧ OkN D ∧ ∀ H', Same H H' → Q (.bl (wkD' D d)) H'
theorem ok_iw2 {f pW gW C : Addr} {fd dW : FuncData} (F : Fun K "is_work" "is_work" s_is_work f fd) (PW : PropK P w K mg base C "works" (rWorks K) pW gW dW) (N : NetK K C) (zI : mg "isinstance" = none) (zS : mg "str" = none) : FnOk P w K mg base CX0 3 f fd ["net", "value"] (spIw2 K C) := by
  refine F.ok scIw (fun vs H Q E h => ?_) (fun cdv A outer s H vs Q E hr h => ?_)
  · obtain ⟨x, v, d, D, rfl, _⟩ := h
    rfl
  obtain ⟨x, v, d, D, rfl, hd, net, ok, k⟩ := h
  refine ⟨_, pss_one (ps_ret (pe_and (pe_callB call_isi (by rfl) zI (by rfl) (pa_cons (pv 1) (pa_cons (pe_bltn rfl zS (by rfl) (show RelV (.ty "str") (.type "str") from rfl)) pa_nil)))
    (pe_one (pe_cmp (pc_din (hu_of hr) (pv 1) (pe_pr PW N.c (Room.mono hr (by decide)) (pv 0))))))), ?_⟩
  refine rd_isi rfl hd (kit_str d) ⟨_, rfl, ?_⟩
  match d, hd, k with
  | .str z, hd, k =>
    have e : v = .str z := by cases hd with | base h _ => cases h; rfl
    subst e
    refine iteT ⟨_, rfl, ?_⟩
    obtain ⟨dx, la, wa, ba, ea, ra, h1, _⟩ := id net
    refine ⟨_, rfl, x, dx, _, rfl, h1, x, D, rfl, net, ok, fun v H1 s1 r => ?_⟩
    obtain ⟨d, rfl, nd, td⟩ := r
    obtain ⟨o, g, eo⟩ := td.tr.has z
    refine ⟨d, o, rfl, g, ?_⟩
    have e2 : decide (z ∈ D.W.map (·.1)) = (look D.W z).isSome := by
      cases c : look D.W z with
      | some y => exact decide_eq_true (List.mem_map.mpr ⟨_, look_mem c, rfl⟩)
      | none =>
        refine decide_eq_false fun m => ?_
        obtain ⟨p, hp, e⟩ := List.mem_map.mp m
        have z2 := DW.look_of ok.w.nd hp
        rw [e, c] at z2
        cases z2
    rw [eo, e2]
    exact k H1 s1
  | .none, _, k => exact iteF (k H (Same.refl H))
  | .bool _, _, k => exact iteF (k H (Same.refl H))
  | .int _, _, k => exact iteF (k H (Same.refl H))
  | .tuple _, _, k => exact iteF (k H (Same.refl H))
  | .list _, _, k => exact iteF (k H (Same.refl H))
  | .dict _, _, k => exact iteF (k H (Same.refl H))
end
end LW
namespace LW
open PySem PySem.Spec PyProof.Rows L2 DW
section
variable {P : Program} {w : World} {K : PySem.W.Frag} {mg : Str → Option Value} {base : Heap}
theorem scal_fl {K : PySem.W.Frag} {H : Hp} {v : V} {d : PyData} {s : Str} (h : Dp K H v d) (f : flD d = true) : scal v (.str s) = true ∧ decide (v = .str s) = isS s d := by
  match d, h, f with
  | .none, h, _ =>
    cases h
    exact ⟨rfl, decide_eq_false (fun z => by cases z)⟩
  | .str z, h, _ =>
    cases h
    exact ⟨rfl, dec_strV⟩
def spIrE (K : PySem.W.Frag) (C CE : Addr) : Sp := fun vs H Q E => ∃ n v, vs = [n, v] ∧ ((NotNet K C H n ∧ ∀ H', Same H H' → E (.ref CE) none H') ∨ (∃ x D b, n = .ref x ∧ NetAt K C H x D ∧ OkN D ∧ ValB K H D v b ∧ ∀ H', Same H H' → Q (.bl b) H'))
theorem ok_irE {f fN fP fI fW fO C CE : Addr} {fd dN dP dI dW dO : FuncData} (F : Fun K "is_row" "is_row" s_is_row f fd) (CN : CalR P w K mg base 1 "need_net" ["value"] (spNNE K C CE) fN dN) (CP : Cal P w K mg base 2 "is_place" ["net", "value"] (spPl2 K C) fP dP) (CI : Cal P w K mg base 2 "is_integer" ["value"] (spJ K (betD (1 - 10 ^ 40) (10 ^ 40 - 1))) fI dI)
    (CW : Cal P w K mg base 3 "is_work" ["net", "value"] (spIw2 K C) fW dW) (WO : MethE P w K mg base C "work_of" rWkN fO dO) (N : NetK K C) (zI : mg "isinstance" = none) (zT : mg "tuple" = none) (zL : mg "len" = none) : FnOk P w K mg base (L2.CX P w) 4 f fd ["net", "value"] (spIrE K C CE) := by
  refine F.okX scIr (fun vs H Q E h => ?_) (fun cdv A outer s H vs Q E hr h => ?_)
  · obtain ⟨n, v, rfl, _⟩ := h
    rfl
  obtain ⟨n, v, rfl, h⟩ := h
  refine ⟨_, pss_cons (ps_expr (pe_calR (E := E) CN hr (takes_of rfl rfl rfl rfl) rfl (pa_cons (pv 0) pa_nil)))
    (pss_cons (ps_if (PW.pt (pw_or (pt_not (pt_val (pe_callB call_isi (by rfl) zI (by rfl) (pa_cons (pv 1) (pa_cons (pe_bltn rfl zT (by rfl) (show RelV (.ty "tuple") (.type "tuple") from rfl)) pa_nil))))) (pw_or1 (pt_cmpR op_ne (pe_callB call_len_seq (by rfl) zL PySem.boot_len (pa_cons (pv 1) pa_nil)) pe_int (nomark _))))) (pss_one (ps_ret pe_bl)) pss_nil)
    (pss_cons (ps_asg (pv 1) (pg_tup rfl (pgs_cons (pg_name (i := 2) scIr.nd rfl (Or.inl rfl)) (pgs_cons (pg_name (i := 3) scIr.nd rfl (Or.inl rfl)) (pgs_cons (pg_name (i := 4) scIr.nd rfl (Or.inl rfl)) (pgs_cons (pg_name (i := 5) scIr.nd rfl (Or.inl rfl)) pgs_nil))))))
    (pss_cons (ps_if (PW.pt (pw_or (pt_not (pt_val (pe_cal (E := E0) CP hr rfl (pa_cons (pv 0) (pa_cons (pv 3) pa_nil))))) (pw_or1 (pt_not (pt_val (pe_cal (E := E0) CI hr rfl (pa_cons (pv 5) pa_nil))))))) (pss_one (ps_ret pe_bl)) pss_nil)
    (pss_cons (ps_if (pt_cmpR op_eq (pv 2) pe_str (nomark _)) (pss_one (ps_ret (pe_cal (E := E0) CP hr rfl (pa_cons (pv 0) (pa_cons (pv 4) pa_nil))))) pss_nil)
    (pss_one (ps_ret (pe_and (pe_cmpR op_eq (pv 2) pe_str (nomark _)) (pe_and (pe_cal (E := E0) CW hr rfl (pa_cons (pv 0) (pa_cons (pv 4) pa_nil))) (pe_one (pe_cmpR op_ne (pe_meth (E := E0) (pv 0) N.c WO.m WO.G (Room.mono hr (by decide)) WO.b .nil pass0 (pa_cons (pv 3) pa_nil)) (pv 4) (nomark _))))))))))), ?_⟩
  refine ⟨_, rfl, n, rfl, ?_⟩
  rcases h with ⟨nn, kE⟩ | ⟨x, D, b, rfl, net, ok, vb, k⟩
  · exact .inr ⟨nn, kE⟩
  refine .inl ⟨x, rfl, net.ins, ?_⟩
  rcases vb with ⟨nt, rfl⟩ | ⟨d, hd, fr, rfl⟩ | ⟨a, xs, rfl, hs, l4, rfl⟩
  · exact rd_nt rfl nt ⟨_, rfl, iteT (k H (Same.refl H))⟩
  rotate_left
  · refine isi_tup rfl hs kTT ⟨_, rfl, iteF ⟨_, rfl, a, _, rfl, .inr hs, rfl, _, rfl, ?_⟩⟩
    rw [show V.int 4 = V.int ((4 : Nat) : Int) from rfl]
    refine ite1 ?_ (k H (Same.refl H))
    rw [decide_eq_false]
    · rfl
    · intro z
      injection z with z
      exact l4 (by omega)
  refine rd_isi rfl hd (kit_tup d) ⟨_, rfl, ?_⟩
  match d, hd, fr, k with
  | .none, _, _, k => exact iteT (k H (Same.refl H))
  | .bool _, _, _, k => exact iteT (k H (Same.refl H))
  | .int _, _, _, k => exact iteT (k H (Same.refl H))
  | .str _, _, _, k => exact iteT (k H (Same.refl H))
  | .list _, _, _, k => exact iteT (k H (Same.refl H))
  | .dict _, _, _, k => exact iteT (k H (Same.refl H))
  | .tuple ds, hd, fr, k =>
    obtain ⟨a, xs, rfl, hs, ha, hn⟩ := hd.tup_inv
    have lx : xs.length = ds.length := DpAll.length ha
    refine iteF ⟨_, rfl, a, _, rfl, .inr hs, rfl, _, rfl, ?_⟩
    rw [lx, show V.int 4 = V.int ((4 : Nat) : Int) from rfl]
    by_cases c4 : ds.length = 4
    case neg =>
      rw [rowD_len D c4] at k
      refine ite1 ?_ (k H (Same.refl H))
      rw [decide_eq_false]
      · rfl
      · intro z
        injection z with z
        exact c4 (by omega)
    rw [c4]
    refine ite0 (by rw [decide_eq_true rfl]; rfl) ?_
    match ds, ha, hn, fr, k, lx with
    | [dk, da, dc, dn], ha, hn, fr, k, lx =>
      cases ha with
      | cons hk ha => cases ha with
        | cons hA ha => cases ha with
          | cons hO ha => cases ha with
            | cons hN ha =>
              cases ha
              obtain ⟨fk, fa, fn, fo⟩ := fr
              refine ⟨_, rfl, a, _, rfl, hs, rfl, _, _, rfl, _, _, rfl, _, _, rfl, _, _, rfl, rfl, ?_⟩
              refine ⟨_, rfl, _, rfl, x, _, da, D, rfl, hA, fa, net, _, rfl, ?_⟩
              have k : ∀ H', Same H H' → Q (.bl (plD D da && (numD dn && (if isS kBound dk = true then plD D dc else isS kWait dk && (wkD' D dc && !ownD D da dc))))) H' := k
              cases ca : plD D da with
              | false =>
                rw [ca] at k
                exact iteT (k H (Same.refl H))
              | true =>
                rw [ca, Bool.true_and] at k
                refine iteF ⟨_, rfl, _, dn, rfl, .base hN (hn dn (by simp)), fn, fun H1 s1 => ⟨_, rfl, ?_⟩⟩
                show if (!numD dn) = true then _ else _
                cases cn : numD dn with
                | false =>
                  rw [cn] at k
                  exact iteT (k H1 s1)
                | true =>
                  rw [cn, Bool.true_and] at k
                  have net1 := net.same s1
                  obtain ⟨sc1, e1⟩ := scal_fl (s := kBound) hk fk
                  refine iteF ⟨_, rfl, sc1, _, rfl, ?_⟩
                  show if decide (_ = V.str kBound) = true then _ else _
                  rw [e1]
                  cases cb : isS kBound dk with
                  | true =>
                    rw [cb] at k
                    exact iteT ⟨_, rfl, _, rfl, x, _, dc, D, rfl, Dp.same s1 hO, fo cb, net1, k H1 s1⟩
                  | false =>
                    rw [cb] at k
                    have k : ∀ H', Same H H' → Q (.bl (isS kWait dk && (wkD' D dc && !ownD D da dc))) H' := k
                    obtain ⟨sc2, e2⟩ := scal_fl (s := kWait) hk fk
                    refine iteF ⟨_, rfl, sc2, _, rfl, ?_⟩
                    show if decide (_ = V.str kWait) = true then _ else _
                    rw [e2]
                    cases cw : isS kWait dk with
                    | false =>
                      rw [cw] at k
                      exact iteF (k H1 s1)
                    | true =>
                      rw [cw, Bool.true_and] at k
                      refine iteT ⟨_, rfl, _, rfl, x, _, dc, D, rfl, .base (Dp.same s1 hO) (hn dc (by simp)), net1, ok, fun H2 s2 => ⟨_, rfl, ?_⟩⟩
                      cases cwk : wkD' D dc with
                      | false =>
                        rw [cwk] at k
                        exact iteF (k H2 (s1.trans s2))
                      | true =>
                        rw [cwk, Bool.true_and] at k
                        have net2 := net1.same s2
                        match da, hA, ca, dc, hO, cwk, k with
                        | .str z, hA, ca, .str y, hO, cwk, k =>
                          cases hA
                          cases hO
                          refine iteT ?_
                          refine gv_wk (i := 0) (H0 := H2) rfl net2 ok ca (gv_v rfl) H2 _ (Same.refl H2) fun H3 s3 => ⟨_, rfl, by cases wkO D z <;> rfl, ?_⟩
                          rw [dec_wk]
                          exact k H3 (s1.trans (s2.trans s3))
def spNrE (K : PySem.W.Frag) (C CW : Addr) : Sp := fun vs H Q E => ∃ (x : Addr) (v : V) (D : PlainD) (b : Bool), vs = [.ref x, v] ∧ NetAt K C H x D ∧ OkN D ∧ ValB K H D v b ∧ (b = true → ∀ H', Same H H' → Q .non H') ∧ (b = false → ∀ H', Same H H' → E (.ref CW) none H')
theorem ok_nrE {f fI C CE CW : Addr} {fd dI : FuncData} (F : Fun K "_need_row" "_need_row" s_u_need_row f fd) (CI : CalR P w K mg base 4 "is_row" ["net", "value"] (spIrE K C CE) fI dI) (o : Pl K mg "InvalidRow" CW) : FnOk P w K mg base (L2.CX P w) 5 f fd ["net", "value"] (spNrE K C CW) := by
  refine F.okX scNr (fun vs H Q E h => ?_) (fun cdv A outer s H vs Q E hr h => ?_)
  · obtain ⟨x, v, D, b, rfl, _⟩ := h
    rfl
  obtain ⟨x, v, D, b, rfl, net, ok, vb, k1, k0⟩ := h
  refine ⟨_, pss_one (ps_if (pt_not (pt_val (pe_calR (E := E) CI hr (takes_of rfl rfl rfl rfl) rfl (pa_cons (pv 0) (pa_cons (pv 1) pa_nil)))))
    (pss_one (ps_raise rfl (takes_of rfl rfl rfl rfl) (pmk_exq0 rfl (pe_exP PySem.F.excBase_ValueError o.q o.hi o.ex.kC o.g rfl pe_str)))) pss_nil), ?_⟩
  refine ⟨_, rfl, _, rfl, _, v, rfl, .inr ⟨x, D, b, rfl, net, ok, vb, fun H1 s1 => ⟨b, rfl, ?_⟩⟩⟩
  cases b with
  | true => exact iteF (k1 rfl H1 s1)
  | false => exact iteT (rd_pl (raises_own o.ex.ex o.ty) (fun a n => none_of s1 n) fun H2 s2 => k0 rfl _ (s1.trans s2))
end
end LW
namespace LW
open PySem PySem.Spec PyProof.Rows L2 DW
def rulesL : List Str := ["joined", "early", "first", "late", "both", "sure"]
section
variable {P : Program} {w : World} {K : PySem.W.Frag} {mg : Str → Option Value} {base : Heap}
abbrev mdN : List Str := ["net", "rule", "row", "other", "new"]
theorem scMd : FnScope mdN ["net", "rule", "row", "other"] (defScope s_made) := ⟨rfl, rfl, rfl, by decide +kernel, rfl, by decide +kernel, by decide +kernel⟩
def spMd (K : PySem.W.Frag) (C : Addr) : Sp := fun vs H Q _ => ∃ (x t : Addr) (v : V) (l : Rl) (r : R4) (o : Option R4) (D : PlainD), vs = [.ref x, .str l.s, .ref t, v] ∧ NetAt K C H x D ∧ OkN D ∧ H t = some (.tup (r4V r)) ∧ RowOk D r ∧ OthV H D v o ∧ o.isSome = l.two ∧ ∀ u H', Same H H' → RowV H' u (madeR D r o l) → Q u H'
theorem ok_md {f fN fR fT fM fI C tR : Addr} {fd dN dR dT dM dI : FuncData} {dvs : List V} {kws : List (Str × V)} (F : FunD K "made" "made" (defArgs s_made) (defBody s_made) (defScope s_made) dvs kws f fd) (CN : Cal P w K mg base 1 "need_net" ["value"] (spNN K C) fN dN) (CR : Cal P w K mg base 5 "_need_row" ["net", "value"] (spNr K C) fR dR)
    (CT : Cal P w K mg base 1 "taken_by" ["rule"] spTb fT dT) (CM : Cal P w K mg base 4 "make_row" ["net", "rule", "rows"] (spMr K C) fM dM) (CI : Cal P w K mg base 2 "is_integer" ["value"] (spJ K (betD (1 - 10 ^ 40) (10 ^ 40 - 1))) fI dI) (gR : mg "RULES" = some (.ref tR)) (hR : ∀ H, SqT K H tR (rulesL.map V.str)) :
    FnOk P w K mg base CX0 6 f fd ["net", "rule", "row", "other"] (spMd K C) := by
  refine F.ok scMd (fun vs H Q E h => ?_) (fun cdv A outer s H vs Q E hr h => ?_)
  · obtain ⟨x, t, v, l, r, o, D, rfl, _⟩ := h
    rfl
  obtain ⟨x, t, v, l, r, o, D, rfl, net, ok, ht, ro, ot, tw, k⟩ := h
  refine ⟨_, pss_cons (ps_expr (pe_cal (E := E0) CN hr rfl (pa_cons (pv 0) pa_nil)))
    (pss_cons (ps_if (pt_cmpR op_notIn_seq (pv 1) (pe_glob rfl gR (show RelV (.ref tR) (.ref tR) from rfl)) (by rfl)) dead pss_nil)
    (pss_cons (ps_expr (pe_cal (E := E0) CR hr rfl (pa_cons (pv 0) (pa_cons (pv 2) pa_nil))))
    (C8.pss_cut (ps_if (pt_cmpR op_eq (pe_cal (E := E0) CT hr rfl (pa_cons (pv 1) pa_nil)) pe_int (nomark _)) (pss_one (ps_expr (pe_cal (E := E0) CR hr rfl (pa_cons (pv 0) (pa_cons (pv 3) pa_nil))))) (pss_one (ps_if (pt_cmp (pc_notN (pv 3))) dead pss_nil)))
    (pss_cons (ps_set (i := 4) scMd.nd rfl (Or.inl rfl) (pe_cal (E := E0) CM hr rfl (pa_cons (pv 0) (pa_cons (pv 1) (pa_cons (pe_tup (pa_cons (pv 2) (pa_cons (pv 3) pa_nil))) pa_nil)))))
    (pss_one (ps_ret (pe_ifExp (PW.pt (pw_and (pt_cmp (pc_notN (pv 4))) (pw_and1 (pt_val (pe_cal (E := E0) CI hr rfl (pa_cons (pe_ix (r := rIxT K) ix_tup (pv 4) pe_int (fun _ _ => rfl)) pa_nil)))))) (pv 4) pe_non))))))), ?_⟩
  refine ⟨_, rfl, x, rfl, net.ins, _, rfl, tR, _, rfl, .inr (hR H), rfl, by decide, _, rfl, ?_⟩
  have e1 : (!inV (.str l.s) (rulesL.map V.str)) = false := by cases l <;> decide +kernel
  refine ite0 e1 ⟨_, rfl, _, rfl, x, t, r, D, rfl, net, ok, ht, ro, fun H1 s1 => ⟨fun σ' H' => σ' = [some (.ref x), some (.str l.s), some (.ref t), some v, none] ∧ Same H H', ?_, ?_⟩⟩
  · refine ⟨_, rfl, l, rfl, fun H2 s2 => ⟨rfl, _, rfl, ?_⟩⟩
    have s12 := s1.trans s2
    cases o with
    | none =>
      have e2 : l.two = false := tw.symm
      rw [e2]
      have ev : v = .non := ot
      subst ev
      exact ite0 (by decide +kernel) ⟨_, rfl, _, rfl, ite0 (by decide) ⟨rfl, s12⟩⟩
    | some o =>
      have e2 : l.two = true := tw.symm
      rw [e2]
      obtain ⟨u, rfl, hu, oo⟩ := ot
      exact ite1 (by decide +kernel) ⟨_, rfl, _, rfl, x, u, o, D, rfl, net.same s12, ok, s12 _ _ hu, oo, fun H3 s3 => ⟨rfl, s12.trans s3⟩⟩
  rintro _ H3 ⟨rfl, s3⟩
  refine ⟨_, rfl, _, rfl, _, rfl, _, rfl, by show 2 ≤ sizeLine; decide, fun p np => ?_⟩
  have s4 := s3.trans (same_new (o := .tup [.ref t, v]) np)
  refine ⟨x, p, t, v, l, r, o, D, rfl, net.same s4, ok, upd_same, s4 _ _ ht, ro, ot.same s4, tw, fun u H5 s5 rv => ?_⟩
  have s45 := s4.trans s5
  cases em : makeR D r o l with
  | none =>
    rw [em] at rv
    have rv : u = .non := rv
    subst rv
    refine ⟨_, rfl, _, rfl, ite0 (by decide) (k .non H5 s45 ?_)⟩
    unfold madeR
    rw [em]
    rfl
  | some n =>
    rw [em] at rv
    obtain ⟨q, rfl, hq⟩ := rv
    refine ⟨_, rfl, _, rfl, ite1 rfl ⟨_, rfl, q, _, 3, .int n.2.2.2, rfl, rfl, SqT.of hq, atI_nat (j := 3) rfl, .int n.2.2.2, .int n.2.2.2, rfl, .base (.int _) rfl, (fun z e => by cases e), fun H6 s6 => ⟨_, rfl, ?_⟩⟩⟩
    cases eb : betD (1 - 10 ^ 40) (10 ^ 40 - 1) (.int n.2.2.2) with
    | true =>
      refine iteT ⟨_, rfl, k _ H6 (s45.trans s6) ?_⟩
      unfold madeR
      rw [em]
      show RowV H6 _ (if betD _ _ (.int n.2.2.2) = true then some n else none)
      rw [eb]
      exact ⟨q, rfl, s6 _ _ hq⟩
    | false =>
      refine iteF (k .non H6 (s45.trans s6) ?_)
      unfold madeR
      rw [em]
      show RowV H6 _ (if betD _ _ (.int n.2.2.2) = true then some n else none)
      rw [eb]
      rfl
end
end LW
namespace LW
open PySem PySem.Spec PyProof.Rows L2 DW
/-- a right row, or a value that is none -/
def RowV2 (K : PySem.W.Frag) (H : Hp) (D : PlainD) (v : V) : Option R4 → Prop
  | some r => ∃ t, v = .ref t ∧ H t = some (.tup (r4V r)) ∧ RowOk D r
  | none => ValB K H D v false
theorem u65 {k : Nat} {A : Around} (r : Room k A) : A.units + 65 < cLine := by
  have := u70 r
  omega
theorem tyof_same {K : PySem.W.Frag} {H H' : Hp} {v : V} {c : Value} (s : Same H H') (h : TyOf K H v c) : TyOf K H' v c := by
  cases h with
  | non => exact .non
  | bl x => exact .bl x
  | int i => exact .int i
  | str x => exact .str x
  | flt x => exact .flt x
  | lst e => exact .lst (s _ _ e)
  | frz e => exact .frz (s _ _ e)
  | tup e => exact .tup (s _ _ e)
  | dK e => exact .dK (s _ _ e)
  | dT e => exact .dT (s _ _ e)
  | ins e a b c d f => exact .ins (s _ _ e) a b c d f
theorem tyx_same {K : PySem.W.Frag} {H H' : Hp} {v : V} {c : Value} (s : Same H H') (h : TyX K H v c) : TyX K H' v c := by
  cases h with
  | base h => exact .base (tyof_same s h)
  | byt b => exact .byt b
  | set e => exact .set (s _ _ e)
  | kList e c => exact .kList e c
  | kTuple e c => exact .kTuple e c
  | kDict e c => exact .kDict e c
  | fTuple e => exact .fTuple (s _ _ e)
  | fDict e => exact .fDict (s _ _ e)
theorem dd_same {K : PySem.W.Frag} {H H' : Hp} {v : V} {d : PyData} (s : Same H H') (h : Dd K H v d) : Dd K H' v d := by
  cases h with
  | base h n => exact .base (Dp.same s h) n
  | dct e => exact .dct (s _ _ e)
theorem NotNet.same {K : PySem.W.Frag} {C : Addr} {H H' : Hp} {v : V} (s : Same H H') (h : NotNet K C H v) : NotNet K C H' v := by
  obtain ⟨c, ty, k⟩ := h
  exact ⟨c, tyx_same s ty, k⟩
theorem NotTup.same {K : PySem.W.Frag} {H H' : Hp} {v : V} (s : Same H H') (h : NotTup K H v) : NotTup K H' v := by
  obtain ⟨c, ty, k⟩ := h
  exact ⟨c, tyx_same s ty, k⟩
theorem ValB.same {K : PySem.W.Frag} {H H' : Hp} {D : PlainD} {v : V} {b : Bool} (s : Same H H') (h : ValB K H D v b) : ValB K H' D v b := by
  rcases h with ⟨n, e⟩ | ⟨d, hd, f, e⟩ | ⟨a, xs, e1, hs, l4, e⟩
  · exact .inl ⟨n.same s, e⟩
  · exact .inr (.inl ⟨d, dd_same s hd, f, e⟩)
  · exact .inr (.inr ⟨a, xs, e1, sqT_same s hs, l4, e⟩)
theorem RowV2.same {K : PySem.W.Frag} {H H' : Hp} {D : PlainD} {v : V} {o : Option R4} (s : Same H H') (h : RowV2 K H D v o) : RowV2 K H' D v o := by
  cases o with
  | none => exact ValB.same s h
  | some r => obtain ⟨t, e, g, k⟩ := h; exact ⟨t, e, s _ _ g, k⟩
theorem RowV2.val {K : PySem.W.Frag} {H : Hp} {D : PlainD} {v : V} {o : Option R4} (h : RowV2 K H D v o) : ValB K H D v o.isSome := by
  cases o with
  | none => exact h
  | some r =>
    obtain ⟨t, rfl, g, k⟩ := h
    exact .inr (.inl ⟨r4D r, dd_r4 g, fit_r4 r, by rw [k.d]; rfl⟩)
/-- no rule -/
def NoRl (K : PySem.W.Frag) (H : Hp) (v : V) : Prop := ∃ d, Dd K H v d ∧ SeqAt.shaped d = true ∧ (rulesL.map PyData.str).any (fun z => PyData.eqv z d) = false
theorem dp_strs {K : PySem.W.Frag} {H : Hp} : ∀ l : List Str, DpAll K H (l.map V.str) (l.map PyData.str)
  | [] => .nil
  | s :: l => .cons (.str s) (dp_strs l)
theorem rules_sh : SeqAt.shaped (.tuple (rulesL.map PyData.str)) = true := by decide +kernel
theorem rule_in (l : Rl) : ((rulesL.map PyData.str).any fun z => PyData.eqv z (.str l.s)) = true := by cases l <;> decide +kernel
section
variable {P : Program} {w : World} {K : PySem.W.Frag} {mg : Str → Option Value} {base : Heap}
def spMdE (K : PySem.W.Frag) (C CE CO CW : Addr) : Sp := fun vs H Q E => ∃ n rl v o : V, vs = [n, rl, v, o] ∧
  ((NotNet K C H n ∧ ∀ H', Same H H' → E (.ref CE) none H') ∨
   ∃ (x : Addr) (D : PlainD), n = .ref x ∧ NetAt K C H x D ∧ OkN D ∧
    ((NoRl K H rl ∧ ∀ H', Same H H' → E (.ref CO) none H') ∨
     ∃ (l : Rl) (r : Option R4), rl = .str l.s ∧ RowV2 K H D v r ∧
      ((r = none ∧ ∀ H', Same H H' → E (.ref CW) none H') ∨
       (r.isSome = true ∧ ∃ g : Bool, (l.two = true → ∃ q, RowV2 K H D o q ∧ q.isSome = g) ∧ (l.two = false → g = decide (o = .non)) ∧
         (g = true → ∀ u H', Same H H' → Q u H') ∧ (g = false → ∀ H', Same H H' → E (.ref CW) none H')))))
theorem ok_mdE {f fN fR fT fM fI C CE CO CW tR : Addr} {fd dN dR dT dM dI : FuncData} {dvs : List V} {kws : List (Str × V)} (F : FunD K "made" "made" (defArgs s_made) (defBody s_made) (defScope s_made) dvs kws f fd) (CN : CalR P w K mg base 1 "need_net" ["value"] (spNNE K C CE) fN dN) (CR : CalR P w K mg base 5 "_need_row" ["net", "value"] (spNrE K C CW) fR dR)
    (CT : Cal P w K mg base 1 "taken_by" ["rule"] spTb fT dT) (CM : Cal P w K mg base 4 "make_row" ["net", "rule", "rows"] (spMr K C) fM dM) (CI : Cal P w K mg base 2 "is_integer" ["value"] (spJ K (betD (1 - 10 ^ 40) (10 ^ 40 - 1))) fI dI) (o : Pl K mg "InvalidOperation" CO) (o2 : Pl K mg "InvalidRow" CW) (gR : mg "RULES" = some (.ref tR)) (hR : ∀ H, SqT K H tR (rulesL.map V.str)) :
    FnOk P w K mg base (L2.CX P w) 6 f fd ["net", "rule", "row", "other"] (spMdE K C CE CO CW) := by
  refine F.ok scMd (fun vs H Q E h => ?_) (fun cdv A outer s H vs Q E hr h => ?_)
  · obtain ⟨n, rl, v, o, rfl, _⟩ := h
    rfl
  obtain ⟨n, rl, v, ov, rfl, h⟩ := h
  refine ⟨_, pss_cons (ps_expr (pe_calR (E := E) CN hr (takes_of rfl rfl rfl rfl) rfl (pa_cons (pv 0) pa_nil)))
    (pss_cons (ps_if (pt_cmpR (op_notInT (u65 hr)) (pv 1) (pe_glob rfl gR (show RelV (.ref tR) (.ref tR) from rfl)) (by rfl))
      (pss_one (ps_raise rfl (takes_of rfl rfl rfl rfl) (pmk_exq0 rfl (pe_exP PySem.F.excBase_ValueError o.q o.hi o.ex.kC o.g rfl pe_str)))) pss_nil)
    (pss_cons (ps_expr (pe_calR (E := E) CR hr (takes_of rfl rfl rfl rfl) rfl (pa_cons (pv 0) (pa_cons (pv 2) pa_nil))))
    (C8.pss_cut (ps_if (pt_cmpR op_eq (pe_cal (E := E0) CT hr rfl (pa_cons (pv 1) pa_nil)) pe_int (nomark _)) (pss_one (ps_expr (pe_calR (E := E) CR hr (takes_of rfl rfl rfl rfl) rfl (pa_cons (pv 0) (pa_cons (pv 3) pa_nil)))))
      (pss_one (ps_if (pt_cmp (pc_notN (pv 3))) (pss_one (ps_raise rfl (takes_of rfl rfl rfl rfl) (pmk_exq0 rfl (pe_exP PySem.F.excBase_ValueError o2.q o2.hi o2.ex.kC o2.g rfl pe_str)))) pss_nil)))
    (pss_cons (ps_set (i := 4) scMd.nd rfl (Or.inl rfl) (pe_cal (E := E0) CM hr rfl (pa_cons (pv 0) (pa_cons (pv 1) (pa_cons (pe_tup (pa_cons (pv 2) (pa_cons (pv 3) pa_nil))) pa_nil)))))
    (pss_one (ps_ret (pe_ifExp (PW.pt (pw_and (pt_cmp (pc_notN (pv 4))) (pw_and1 (pt_val (pe_cal (E := E0) CI hr rfl (pa_cons (pe_ix (r := rIxT K) ix_tup (pv 4) pe_int (fun _ _ => rfl)) pa_nil)))))) (pv 4) pe_non))))))), ?_⟩
  refine ⟨_, rfl, n, rfl, ?_⟩
  rcases h with ⟨nn, kE⟩ | ⟨x, D, rfl, net, ok, h⟩
  · exact .inr ⟨nn, kE⟩
  refine .inl ⟨x, rfl, net.ins, ?_⟩
  have hRD : Dp K H (.ref tR) (.tuple (rulesL.map PyData.str)) := .tup (hR H) (dp_strs rulesL)
  rcases h with ⟨⟨d, hd, sh, e⟩, kE⟩ | ⟨l, r, rfl, rv, h⟩
  · refine ⟨_, rfl, d, _, hd, hRD, sh, rules_sh, _, rfl, ite1 (by rw [if_pos rfl, e]; rfl) ?_⟩
    exact rd_pl (raises_own o.ex.ex o.ty) (fun a n => n) fun H2 s2 => kE _ s2
  refine ⟨_, rfl, .str l.s, _, .base (.str _) rfl, hRD, by cases l <;> decide +kernel, rules_sh, _, rfl, ite0 (by rw [if_pos rfl, rule_in]; rfl) ?_⟩
  refine ⟨_, rfl, _, rfl, x, v, D, r.isSome, rfl, net, ok, rv.val, fun er H1 s1 => ?_, fun er H1 s1 => ?_⟩
  rotate_left
  · rcases h with ⟨_, kE⟩ | ⟨z, _⟩
    · exact kE _ s1
    · rw [er] at z
      cases z
  rcases h with ⟨z, _⟩ | ⟨_, g, h2, h1, kQ, kE⟩
  · rw [z] at er
    cases er
  cases r with
  | none => cases er
  | some r =>
  obtain ⟨t, rfl, ht, ro⟩ := rv
  refine ⟨fun σ' H' => σ' = [some (.ref x), some (.str l.s), some (.ref t), some ov, none] ∧ Same H H' ∧ g = true ∧ ∃ q, OthV H' D ov q ∧ q.isSome = l.two, ?_, ?_⟩
  · refine ⟨_, rfl, l, rfl, fun H2 s2 => ⟨rfl, _, rfl, ?_⟩⟩
    have s12 := s1.trans s2
    cases tw : l.two with
    | true =>
      obtain ⟨q, qv, eg⟩ := h2 tw
      refine ite1 (by decide +kernel) ⟨_, rfl, _, rfl, x, ov, D, q.isSome, rfl, net.same s12, ok, (qv.same s12).val, fun eq H3 s3 => ⟨rfl, s12.trans s3, eg.symm.trans eq, q, ?_, eq⟩, fun eq H3 s3 => kE (eg.symm.trans eq) _ (s12.trans s3)⟩
      cases q with
      | none => cases eq
      | some q =>
        obtain ⟨u, rfl, hu, oo⟩ := qv
        exact ⟨u, rfl, (s12.trans s3) _ _ hu, oo⟩
    | false =>
      have eg := h1 tw
      refine ite0 (by decide +kernel) ⟨_, rfl, _, rfl, ?_⟩
      by_cases c : ov = .non
      · rw [decide_eq_true c] at eg
        refine ite0 (by rw [decide_eq_true c]; rfl) ⟨rfl, s12, eg, none, c, rfl⟩
      · rw [decide_eq_false c] at eg
        refine ite1 (by rw [decide_eq_false c]; rfl) ?_
        exact rd_pl (raises_own o2.ex.ex o2.ty) (fun a n => none_of s12 n) fun H3 s3 => kE eg _ (s12.trans s3)
  rintro _ H3 ⟨rfl, s3, eg, q, oq, tw⟩
  have k := kQ eg
  refine ⟨_, rfl, _, rfl, _, rfl, _, rfl, by show 2 ≤ sizeLine; decide, fun p np => ?_⟩
  have sp := same_new (o := .tup [.ref t, ov]) np
  have s4 := s3.trans sp
  refine ⟨x, p, t, ov, l, r, q, D, rfl, net.same s4, ok, upd_same, s4 _ _ ht, ro, oq.same sp, tw, fun u H5 s5 rv => ?_⟩
  have s45 := s4.trans s5
  cases em : makeR D r q l with
  | none =>
    rw [em] at rv
    have rv : u = .non := rv
    subst rv
    exact ⟨_, rfl, _, rfl, ite0 (by decide) (k .non H5 s45)⟩
  | some n =>
    rw [em] at rv
    obtain ⟨q, rfl, hq⟩ := rv
    refine ⟨_, rfl, _, rfl, ite1 rfl ⟨_, rfl, q, _, 3, .int n.2.2.2, rfl, rfl, SqT.of hq, atI_nat (j := 3) rfl, .int n.2.2.2, .int n.2.2.2, rfl, .base (.int _) rfl, (fun z e => by cases e), fun H6 s6 => ⟨_, rfl, ?_⟩⟩⟩
    cases eb : betD (1 - 10 ^ 40) (10 ^ 40 - 1) (.int n.2.2.2) with
    | true => exact iteT ⟨_, rfl, k _ H6 (s45.trans s6)⟩
    | false => exact iteF (k .non H6 (s45.trans s6))
end
end LW
namespace DW
open PySem PySem.Spec PyProof.Rows L2 PySem.W
/-! ### data small enough to be shown, dicts among it -/
structure Shw (w k : Nat) (d : PyData) : Prop where
  sho : d.showable = true
  short : d.leavesShort 50 = true
  wt : d.weight ≤ w
  dep : d.depth ≤ k
theorem Shw.mono {w k w' k' : Nat} {d : PyData} (h : Shw w k d) (hw : w ≤ w') (hk : k ≤ k') : Shw w' k' d := ⟨h.sho, h.short, Nat.le_trans h.wt hw, Nat.le_trans h.dep hk⟩
theorem Shw.len {w k : Nat} {d : PyData} (h : Shw w k d) (hw : w ≤ 310000) : d.shown.length ≤ sizeLine := by
  have a := PyData.shown_le 50 (by decide) d h.short
  have b : (50 + 2) * d.weight ≤ 52 * 310000 := Nat.mul_le_mul (Nat.le_refl _) (Nat.le_trans h.wt hw)
  rw [sizeLine_eq]
  omega
theorem Shw.non : Shw 0 0 .none := ⟨rfl, rfl, by simp [PyData.weight], by simp [PyData.depth]⟩
theorem Shw.bl (b : Bool) : Shw 0 0 (.bool b) := ⟨rfl, rfl, by simp [PyData.weight], by simp [PyData.depth]⟩
theorem Shw.int {i : Int} (h : i.natAbs < 10 ^ 41) : Shw 140 0 (.int i) := by
  have l1 : i.natAbs.log2 < 137 := by
    by_cases z : i.natAbs = 0
    · rw [z]
      decide
    · rw [Nat.log2_lt z]
      exact Nat.lt_of_lt_of_le h (by decide +kernel)
  refine ⟨?_, ?_, ?_, by simp [PyData.depth]⟩
  · simp only [PyData.showable, decide_eq_true_eq]
    omega
  · simp only [PyData.leavesShort, decide_eq_true_eq]
    have := int_text_length_le10 (a := i) (k := 41) (by decide) h
    have e : (PyData.shown (.int i)).length = (toString i).length := by
      show (Str.ofString (toString i)).length = _
      rw [PySem.ofString_length]
    omega
  · simp only [PyData.weight]
    split
    · omega
    · omega
theorem Shw.str {z : Str} {n : Nat} (h : z.length ≤ n) (c : ∀ x ∈ z.cps.toList, x < 16 ^ 8) : Shw n 0 (.str z) := by
  refine ⟨rfl, ?_, ?_, by simp [PyData.depth]⟩
  · simp only [PyData.leavesShort, List.all_eq_true, decide_eq_true_eq]
    exact c
  · simp only [PyData.weight]
    exact h
theorem shw_all {w k : Nat} : ∀ {ds : List PyData}, (∀ d ∈ ds, Shw w k d) → PyData.showableAll ds = true ∧ PyData.leavesShortAll 50 ds = true ∧ PyData.weightAll ds ≤ (w + 1) * ds.length ∧ PyData.depthAll ds ≤ k
  | [], _ => ⟨rfl, rfl, by simp [PyData.weightAll], by simp [PyData.depthAll]⟩
  | d :: r, h => by
    obtain ⟨h1, h2, h3, h4⟩ := h d (List.mem_cons_self ..)
    obtain ⟨g1, g2, g3, g4⟩ := shw_all fun e m => h e (List.mem_cons_of_mem _ m)
    refine ⟨?_, ?_, ?_, ?_⟩
    · simp only [PyData.showableAll, h1, g1, Bool.and_self]
    · simp only [PyData.leavesShortAll, h2, g2, Bool.and_self]
    · simp only [PyData.weightAll, List.length_cons, Nat.mul_add, Nat.mul_one]
      omega
    · simp only [PyData.depthAll]
      omega
theorem Shw.list {w k n : Nat} {ds : List PyData} (h : ∀ d ∈ ds, Shw w k d) (l : ds.length ≤ n) : Shw ((w + 1) * n) (k + 1) (.list ds) := by
  obtain ⟨g1, g2, g3, g4⟩ := shw_all h
  refine ⟨by simp only [PyData.showable]; exact g1, by simp only [PyData.leavesShort]; exact g2, ?_, ?_⟩
  · simp only [PyData.weight]
    exact Nat.le_trans g3 (Nat.mul_le_mul (Nat.le_refl _) l)
  · simp only [PyData.depth]
    omega
theorem Shw.tuple {w k n : Nat} {ds : List PyData} (h : ∀ d ∈ ds, Shw w k d) (l : ds.length ≤ n) : Shw ((w + 1) * n) (k + 1) (.tuple ds) := by
  obtain ⟨g1, g2, g3, g4⟩ := shw_all h
  refine ⟨by simp only [PyData.showable]; exact g1, by simp only [PyData.leavesShort]; exact g2, ?_, ?_⟩
  · simp only [PyData.weight]
    exact Nat.le_trans g3 (Nat.mul_le_mul (Nat.le_refl _) l)
  · simp only [PyData.depth]
    omega
theorem shw_kv {w k : Nat} : ∀ {ds : List (PyData × PyData)}, (∀ d ∈ ds, Shw w k d.1 ∧ Shw w k d.2) → PyData.showableKv ds = true ∧ PyData.leavesShortKv 50 ds = true ∧ PyData.weightKv ds ≤ (2 * w + 2) * ds.length ∧ PyData.depthKv ds ≤ k
  | [], _ => ⟨rfl, rfl, by simp [PyData.weightKv], by simp [PyData.depthKv]⟩
  | (a, b) :: r, h => by
    obtain ⟨⟨h1, h2, h3, h4⟩, ⟨h5, h6, h7, h8⟩⟩ : Shw w k a ∧ Shw w k b := h (a, b) (List.mem_cons_self ..)
    obtain ⟨g1, g2, g3, g4⟩ := shw_kv fun e m => h e (List.mem_cons_of_mem _ m)
    refine ⟨?_, ?_, ?_, ?_⟩
    · simp only [PyData.showableKv, h1, h5, g1, Bool.and_self]
    · simp only [PyData.leavesShortKv, h2, h6, g2, Bool.and_self]
    · simp only [PyData.weightKv, List.length_cons, Nat.mul_add, Nat.mul_one]
      omega
    · simp only [PyData.depthKv]
      omega
theorem Shw.dict {w k n : Nat} {ds : List (PyData × PyData)} (h : ∀ d ∈ ds, Shw w k d.1 ∧ Shw w k d.2) (l : ds.length ≤ n) : Shw ((2 * w + 2) * n) (k + 1) (.dict ds) := by
  obtain ⟨g1, g2, g3, g4⟩ := shw_kv h
  refine ⟨by simp only [PyData.showable]; exact g1, by simp only [PyData.leavesShort]; exact g2, ?_, ?_⟩
  · simp only [PyData.weight]
    exact Nat.le_trans g3 (Nat.mul_le_mul (Nat.le_refl _) l)
  · simp only [PyData.depth]
    omega
end DW
namespace LW
open PySem PySem.Spec PyProof.Rows L2 DW
/-! ### small rows -/
def SokS (z : Str) : Prop := Shw 12 0 (.str z) ∧ PyData.strOk z = true
theorem lett_small : ∀ c ∈ lettL.cps.toList, c < 16 ^ 8 := by decide +kernel
theorem sok_lett {z : Str} (hl : z.length ≤ 12) (h : ∀ c ∈ z.cps.toList, c ∈ lettL.cps.toList) : SokS z := by
  refine ⟨Shw.str hl fun c hc => lett_small c (h c hc), ?_⟩
  show z.cps.all _ = true
  rw [Array.all_eq_true_iff_forall_mem]
  intro c hc
  have : ∀ c ∈ lettL.cps.toList, c < 0x110000 := by decide +kernel
  exact decide_eq_true (this c (h c (Array.mem_toList_iff.mpr hc)))
theorem sok_name {z : Str} (h : nameS z = true) : SokS z := by
  simp only [nameS, Bool.and_eq_true, decide_eq_true_eq, List.all_eq_true] at h
  exact sok_lett h.2.1 fun c hc => h.2.2.2.2 c hc
theorem sok_dawn : SokS ("dawn" : Str) := sok_lett (by decide) (by decide +kernel)
theorem sok_known {L : Ls} (ok : OkL L) {z : Str} (h : knownB L z = true) : SokS z := by
  unfold knownB at h
  by_cases e : z = ("dawn" : Str)
  · rw [e]
    exact sok_dawn
  · rw [decide_eq_false e, Bool.false_or] at h
    obtain ⟨p, hp, rfl⟩ := List.mem_map.mp (of_decide_eq_true h)
    exact sok_name (ok.name p hp)
structure RowSm (r : R4) : Prop where
  k : SokS r.1
  a : SokS r.2.1
  b : SokS r.2.2.1
theorem sok_bound : SokS kBound := sok_lett (by decide) (by decide +kernel)
theorem sok_wait : SokS kWait := sok_lett (by decide) (by decide +kernel)
theorem sok_wk {D : PlainD} (ok : OkN D) {n : Str} {x : WkT} (h : look D.W n = some x) : SokS n := sok_name (ok.w.name _ (look_mem h))
theorem RowOk.sm {D : PlainD} (ok : OkN D) {r : R4} (h : RowOk D r) : RowSm r := by
  refine ⟨?_, sok_known ok.l h.one, ?_⟩
  · rcases h.two with ⟨e, _⟩ | ⟨e, _⟩ <;> rw [e]
    · exact sok_bound
    · exact sok_wait
  · rcases h.two with ⟨_, k⟩ | ⟨_, ⟨x, lx⟩, _⟩
    · exact sok_known ok.l k
    · exact sok_wk ok lx
theorem shw_r4 {r : R4} (h : RowSm r) (n : r.2.2.2.natAbs < 10 ^ 41) : Shw 564 1 (r4D r) := (Shw.tuple (ds := [.str r.1, .str r.2.1, .str r.2.2.1, .int r.2.2.2]) (w := 140) (k := 0) (n := 4) (fun z hz => by
  simp only [List.mem_cons, List.not_mem_nil, or_false] at hz
  rcases hz with rfl | rfl | rfl | rfl
  · exact h.k.1.mono (by decide) (by decide)
  · exact h.a.1.mono (by decide) (by decide)
  · exact h.b.1.mono (by decide) (by decide)
  · exact Shw.int n) (Nat.le_refl 4)).mono (by decide) (by decide)
theorem next_ {σ : L2.St} {D : Ends} {H : Hp} (h : D.nx σ H) : tNext D σ H := h
/-! ### words, as data -/
def wrdD (k : Str × Str) : PyData := .tuple [.str k.1, .str k.2]
theorem eqv_wrd {a b : Str} {d : PyData} (h : pairS d = false) : PyData.eqv (wrdD (a, b)) d = false := by
  unfold wrdD
  match d, h with
  | .none, _ => simp [PyData.eqv]
  | .bool _, _ => simp [PyData.eqv]
  | .int _, _ => simp [PyData.eqv]
  | .str _, _ => simp [PyData.eqv]
  | .list _, _ => simp [PyData.eqv]
  | .dict _, _ => simp [PyData.eqv]
  | .tuple [], _ => simp [PyData.eqv, PyData.eqvAll]
  | .tuple [x], _ => exact Bool.and_false _
  | .tuple (x :: y :: z :: r), _ => exact (by intro p q; cases p <;> cases q <;> rfl : ∀ p q : Bool, (p && (q && false)) = false) _ _
  | .tuple [x, y], h =>
    cases x <;> cases y <;> first | (exact absurd (show true = false from h) (by decide)) | simp [PyData.eqv, PyData.eqvAll]
theorem dp_wrd {K : PySem.W.Frag} {H : Hp} {t : Addr} {k : Str × Str} (h : H t = some (.tup [.str k.1, .str k.2])) : Dp K H (.ref t) (wrdD k) := .tup (SqT.of h) (.cons (.str _) (.cons (.str _) .nil))
theorem dp_words {K : PySem.W.Frag} {H : Hp} {bs : List Addr} {rs : List RowP} (h : Paired (fun (b : Addr) (r : RowP) => H b = some (.tup [.str r.1.1, .str r.1.2])) bs rs) : DpAll K H (bs.map V.ref) (rs.map fun r => wrdD r.1) := by
  induction h with
  | nil => exact .nil
  | cons q t ih => exact .cons (dp_wrd q) ih
theorem words_sok {D : PlainD} (ok : OkN D) : ∀ r ∈ toldR D, PyData.strOk r.1.1 = true ∧ PyData.strOk r.1.2 = true := by
  intro r hr
  unfold toldR at hr
  simp only [List.mem_append] at hr
  rcases hr with hr | hr | hr | hr | hr
  · obtain ⟨p, hp, rfl⟩ := List.mem_map.mp hr
    exact ⟨(by show PyData.strOk ("bound" : Str) = true; decide +kernel), (sok_name (ok.b.name p hp)).2⟩
  · obtain ⟨p, hp, rfl⟩ := List.mem_map.mp hr
    exact ⟨(by show PyData.strOk ("last" : Str) = true; decide +kernel), (sok_name (ok.l.name p hp)).2⟩
  · obtain ⟨p, hp, rfl⟩ := List.mem_map.mp hr
    exact ⟨(by show PyData.strOk ("begin" : Str) = true; decide +kernel), (sok_name (ok.l.name p hp)).2⟩
  · obtain ⟨p, hp, rfl⟩ := List.mem_map.mp hr
    exact ⟨(by show PyData.strOk ("most" : Str) = true; decide +kernel), (sok_name (ok.w.name p hp)).2⟩
  · obtain ⟨p, hp, rfl⟩ := List.mem_map.mp hr
    exact ⟨(by show PyData.strOk ("least" : Str) = true; decide +kernel), (sok_name (ok.w.name p hp)).2⟩
theorem words_sh (rs : List RowP) (h : ∀ r ∈ rs, PyData.strOk r.1.1 = true ∧ PyData.strOk r.1.2 = true) : SeqAt.shaped (.tuple (rs.map fun r => wrdD r.1)) = true := by
  have h1 : ∀ rs : List RowP, (∀ r ∈ rs, PyData.strOk r.1.1 = true ∧ PyData.strOk r.1.2 = true) → PyData.canLayAll0 (rs.map fun r => wrdD r.1) = true := fun rs h => by
    induction rs with
    | nil => rfl
    | cons r rs ih =>
      have q := h r (List.mem_cons_self ..)
      have w : (wrdD r.1).canLay0 = true := by simp [PyData.canLayAll0, PyData.canLay0, wrdD, q.1, q.2]
      show ((wrdD r.1).canLay0 && PyData.canLayAll0 (rs.map fun r => wrdD r.1)) = true
      rw [w, ih fun x m => h x (List.mem_cons_of_mem _ m)]
      rfl
  have h2 : ∀ rs : List RowP, PyData.depthAll (rs.map fun r => wrdD r.1) ≤ 3 := fun rs => by
    induction rs with
    | nil => simp [PyData.depthAll]
    | cons r rs ih =>
      have w : (wrdD r.1).depth ≤ 3 := by simp [wrdD, PyData.depth, PyData.depthAll]
      rw [List.map_cons]
      unfold PyData.depthAll
      omega
  unfold SeqAt.shaped
  rw [Bool.and_eq_true]
  refine ⟨by simp [PyData.canLay0, h1 rs h], decide_eq_true ?_⟩
  have := h2 rs
  simp only [PyData.depth]
  omega
section
variable {P : Program} {w : World} {K : PySem.W.Frag} {mg : Str → Option Value} {base : Heap}
theorem scIc : FnScope ["row", "other"] ["row", "other"] (defScope s_is_covered) := ⟨rfl, rfl, rfl, by decide +kernel, rfl, by decide +kernel, by decide +kernel⟩
/-- covers of two rows: True or False -/
def spIc : Sp := fun vs H Q _ => ∃ (t u : Addr) (r o : R4), vs = [.ref t, .ref u] ∧ H t = some (.tup (r4V r)) ∧ H u = some (.tup (r4V o)) ∧ RowSm r ∧ RowSm o ∧ ∀ b H', Same H H' → Q (.bl b) H'
def cutD (r : R4) : PyData := .tuple [.str r.1, .str r.2.1, .str r.2.2.1]
theorem cut_sh {r : R4} (h : RowSm r) : SeqAt.shaped (cutD r) = true := by
  simp [SeqAt.shaped, cutD, PyData.canLay0, PyData.canLayAll0, PyData.depth, PyData.depthAll, h.k.2, h.a.2, h.b.2]
theorem ok_ic {f : Addr} {fd : FuncData} (F : Fun K "is_covered" "is_covered" s_is_covered f fd) : FnOk P w K mg base CX0 1 f fd ["row", "other"] spIc := by
  refine F.ok scIc (fun vs H Q E h => ?_) (fun cdv A outer s H vs Q E hr h => ?_)
  · obtain ⟨t, u, r, o, rfl, _⟩ := h
    rfl
  obtain ⟨t, u, r, o, rfl, ht, hu, sr, so, k⟩ := h
  refine ⟨_, pss_cons (ps_if (pt_cmpR (op_neD hr.units) (pe_slice (r := rSlT K) sl_tup (pv 0) po_none (po_some pe_int)) (pe_slice (r := rSlT K) sl_tup (pv 1) po_none (po_some pe_int)) (nomark _)) (pss_one (ps_ret pe_bl)) pss_nil)
    (pss_one (ps_ret (pe_ifExp (pt_cmpR op_eq (pe_ix (r := rIxT K) ix_tup (pv 0) pe_int (fun _ _ => rfl)) pe_str (nomark _))
      (pe_cmpR op_le (pe_ix (r := rIxT K) ix_tup (pv 0) pe_int (fun _ _ => rfl)) (pe_ix (r := rIxT K) ix_tup (pv 1) pe_int (fun _ _ => rfl)) (nomark _))
      (pe_cmpR op_ge (pe_ix (r := rIxT K) ix_tup (pv 0) pe_int (fun _ _ => rfl)) (pe_ix (r := rIxT K) ix_tup (pv 1) pe_int (fun _ _ => rfl)) (nomark _))))), ?_⟩
  refine ⟨_, rfl, _, rfl, t, _, rfl, SqT.of ht, (fun y => absurd (show HT.sIx 4 4 (some 3) = 4 from y.2) (by decide)), fun p np => ⟨_, rfl, _, rfl, u, _, rfl, SqT.of ((same_new np) _ _ hu), (fun y => absurd (show HT.sIx 4 4 (some 3) = 4 from y.2) (by decide)), fun q nq => ?_⟩⟩
  have s1 : Same H (upd H p (.tup (cutV (r4V r) none (some 3)))) := same_new np
  have s2 := s1.trans (same_new (o := .tup (cutV (r4V o) none (some 3))) nq)
  refine ⟨cutD r, cutD o, .tup (SqT.of ((same_new nq) _ _ upd_same)) (.cons (.str _) (.cons (.str _) (.cons (.str _) .nil))), .tup (SqT.of upd_same) (.cons (.str _) (.cons (.str _) (.cons (.str _) .nil))), cut_sh sr, cut_sh so, _, rfl, ?_⟩
  refine ite2 (fun _ => k false _ s2) (fun _ => ?_)
  refine next_ ?_
  dsimp only
  have ht2 := s2 _ _ ht
  have hu2 := s2 _ _ hu
  refine ⟨_, rfl, t, _, 0, _, rfl, rfl, SqT.of ht2, atI_nat (j := 0) rfl, rfl, _, rfl, ?_⟩
  refine ite2 (fun _ => ?_) (fun _ => ?_)
  · exact ⟨_, rfl, t, _, 3, .int r.2.2.2, rfl, rfl, SqT.of ht2, atI_nat (j := 3) rfl, _, rfl, u, _, 3, .int o.2.2.2, rfl, rfl, SqT.of hu2, atI_nat (j := 3) rfl, _, _, rfl, rfl, k _ _ s2⟩
  · exact ⟨_, rfl, t, _, 3, .int r.2.2.2, rfl, rfl, SqT.of ht2, atI_nat (j := 3) rfl, _, rfl, u, _, 3, .int o.2.2.2, rfl, rfl, SqT.of hu2, atI_nat (j := 3) rfl, _, _, rfl, rfl, k _ _ s2⟩
theorem scCv : FnScope ["net", "row", "other"] ["net", "row", "other"] (defScope s_covers) := ⟨rfl, rfl, rfl, by decide +kernel, rfl, by decide +kernel, by decide +kernel⟩
def spCvE (K : PySem.W.Frag) (C CE CW : Addr) : Sp := fun vs H Q E => ∃ n v u : V, vs = [n, v, u] ∧ ((NotNet K C H n ∧ ∀ H', Same H H' → E (.ref CE) none H') ∨
  ∃ (x : Addr) (D : PlainD) (r o : Option R4), n = .ref x ∧ NetAt K C H x D ∧ OkN D ∧ RowV2 K H D v r ∧ RowV2 K H D u o ∧ ((r.isSome && o.isSome) = true → ∀ b H', Same H H' → Q (.bl b) H') ∧ ((r.isSome && o.isSome) = false → ∀ H', Same H H' → E (.ref CW) none H'))
theorem ok_cvE {f fN fR fC C CE CW : Addr} {fd dN dR dC : FuncData} (F : Fun K "covers" "covers" s_covers f fd) (CN : CalR P w K mg base 1 "need_net" ["value"] (spNNE K C CE) fN dN) (CR : CalR P w K mg base 5 "_need_row" ["net", "value"] (spNrE K C CW) fR dR) (IC : Cal P w K mg base 1 "is_covered" ["row", "other"] spIc fC dC) :
    FnOk P w K mg base (L2.CX P w) 6 f fd ["net", "row", "other"] (spCvE K C CE CW) := by
  refine F.okX scCv (fun vs H Q E h => ?_) (fun cdv A outer s H vs Q E hr h => ?_)
  · obtain ⟨n, v, u, rfl, _⟩ := h
    rfl
  obtain ⟨n, v, u, rfl, h⟩ := h
  refine ⟨_, pss_cons (ps_expr (pe_calR (E := E) CN hr (takes_of rfl rfl rfl rfl) rfl (pa_cons (pv 0) pa_nil)))
    (pss_cons (ps_expr (pe_calR (E := E) CR hr (takes_of rfl rfl rfl rfl) rfl (pa_cons (pv 0) (pa_cons (pv 1) pa_nil))))
    (pss_cons (ps_expr (pe_calR (E := E) CR hr (takes_of rfl rfl rfl rfl) rfl (pa_cons (pv 0) (pa_cons (pv 2) pa_nil))))
    (pss_one (ps_ret (pe_cal (E := E0) IC hr rfl (pa_cons (pv 1) (pa_cons (pv 2) pa_nil))))))), ?_⟩
  refine ⟨_, rfl, n, rfl, ?_⟩
  rcases h with ⟨nn, kE⟩ | ⟨x, D, r, o, rfl, net, ok, rv, ov, k1, k0⟩
  · exact .inr ⟨nn, kE⟩
  refine .inl ⟨x, rfl, net.ins, _, rfl, _, rfl, x, v, D, r.isSome, rfl, net, ok, rv.val, fun er H1 s1 => ?_, fun er H1 s1 => k0 (by rw [er]; rfl) _ s1⟩
  refine ⟨_, rfl, _, rfl, x, u, D, o.isSome, rfl, net.same s1, ok, (ov.same s1).val, fun eo H2 s2 => ?_, fun eo H2 s2 => k0 (by rw [er, eo]; rfl) _ (s1.trans s2)⟩
  have s12 := s1.trans s2
  cases r with
  | none => cases er
  | some r =>
  cases o with
  | none => cases eo
  | some o =>
  obtain ⟨t, rfl, ht, ro⟩ := rv
  obtain ⟨y, rfl, hy, oo⟩ := ov
  exact ⟨_, rfl, _, rfl, t, y, r, o, rfl, s12 _ _ ht, s12 _ _ hy, ro.sm ok, oo.sm ok, fun b H3 s3 => k1 rfl b _ (s12.trans s3)⟩
end
end LW
namespace PySem
open Sem (wp)
open AutoSeq1 (wpAny_loadPart')
theorem meets_enumerate_newT (l : Addr) (items : Array Value) (n : Nat) (dct : Option Addr) (sl : Array (Option Value)) :
    Meets (Builtin.«enumerate.__new__» ⟨[.type "enumerate", .ref l], []⟩) (fun _ R s => s.heap.get? l = some { cls := .type "tuple", dict := dct, data := .seq items n, slots := sl } ∧
      R (.ok (.ret (.ref (s.heap.push { cls := .type "tuple_iterator", data := .fields #[.ref l, .int 0 0] }).objs.size)))
        { s with heap := (s.heap.push { cls := .type "tuple_iterator", data := .fields #[.ref l, .int 0 0] }).push { cls := .type "enumerate", data := .fields #[.none, .bool false, .ref s.heap.objs.size, rawInt 0, .none, .none] } }) :=
  .of_wp fun prog w A R s h => by
    obtain ⟨hp, g, d, tk, os⟩ := s; obtain ⟨hl, h⟩ := h
    have hsub := sub_enumerate
    have hL : Heap.IsTuple (Shared.heap ⟨hp, g, d, tk, os⟩) l items := ⟨_, hl, rfl, n, rfl⟩
    wp_walk using wpAny_loadPart' hl
    refine wpAny_stack_any fun st => wpAny_pure ?_
    split
    · rename_i c _ _ _ _ _
      cases (c == Value.type "enumerate")
      · wp_walk using wpAny_loadPart' hl, wpAny_pyIter_tuple hL
        exact ⟨_, rfl, h⟩
      · wp_walk using wpAny_loadPart' hl, wpAny_pyIter_tuple hL
        exact ⟨_, rfl, h⟩
    · wp_walk using wpAny_loadPart' hl, wpAny_pyIter_tuple hL
      exact ⟨_, rfl, h⟩
theorem call_enumerate_tuple {prog : Program} {w : World} {A : Around} {E : Value → Shared → Prop} {s : Shared} {l : Addr} {items : Array Value} {Q : Value → Shared → Prop} (hL : s.heap.IsTuple l items)
    (h : ∀ h', IsEnum h' (s.heap.objs.size + 1) s.heap.objs.size 0 .none → h'.IsTupleIter s.heap.objs.size l 0 → h'.objs.size = s.heap.objs.size + 2 →
      (∀ b o, s.heap.get? b = some o → h'.get? b = some o) → Q (.ref (s.heap.objs.size + 1)) { s with heap := h' }) :
    wpAny (model prog w) A (call (.type "enumerate") [.ref l]) Q E s := by
  obtain ⟨⟨c, dct, dt, sl⟩, hl, hc, n, hd⟩ := hL
  replace hc : c = .type "tuple" := hc
  replace hd : dt = .seq items n := hd
  subst hc hd
  refine callType_new F.called_enumerate (by decide) (F.typeCall_enumerate_1 _) (F.newCall_enumerate_1 _) (fun obj => F.args_object_init_2 obj _) F.entry_enumerate_new
    (meets_enumerate_newT l items n dct sl) ⟨hl, ?_⟩
  have hz : (s.heap.push { cls := .type "tuple_iterator", data := .fields #[.ref l, .int 0 0] }).objs.size = s.heap.objs.size + 1 := Heap.size_push ..
  show _ ∧ _
  rw [hz]
  have he : IsEnum ((s.heap.push { cls := .type "tuple_iterator", data := .fields #[.ref l, .int 0 0] }).push
      { cls := .type "enumerate", data := .fields #[.none, .bool false, .ref s.heap.objs.size, rawInt 0, .none, .none] }) (s.heap.objs.size + 1) s.heap.objs.size 0 .none := by
    have := Heap.get?_push_size (s.heap.push { cls := .type "tuple_iterator", data := .fields #[.ref l, .int 0 0] })
      (o := { cls := .type "enumerate", data := .fields #[.none, .bool false, .ref s.heap.objs.size, rawInt 0, .none, .none] }) rfl
    rw [hz] at this; exact this
  refine ⟨⟨_, he, rfl⟩, h _ he ⟨_, Heap.get?_push_of_some _ (Heap.get?_push_size _ rfl), rfl, rfl⟩ (by rw [Heap.size_push, hz]) fun b o x => Heap.get?_push_of_some _ (Heap.get?_push_of_some _ x)⟩
theorem wpAny_pyNext_enum_endT {prog : Program} {w : World} {A : Around} {E : Value → Shared → Prop} {s : Shared} {e it l : Addr} {i : Nat} {items : Array Value} {old : Value} {Q : Option Value → Shared → Prop} (hh : A.handled = none)
    (he : IsEnum s.heap e it i old) (hit : s.heap.IsTupleIter it l i) (hl : s.heap.IsTuple l items) (hx : items[i]? = none)
    (hQ : ∀ h', Heap.ExtBut it s.heap h' → Q none { s with heap := h' }) : wpAny (model prog w) A (pyNext (.ref e)) Q E s := by
  have hT : s.TypeIs (.ref e) "enumerate" := ⟨_, he, rfl⟩
  unfold pyNext
  refine wpAny_bind (wpAny_attempt (wpAny_callSpecial?_slot (name := Str.ofString "__next__") hT F.slot_enumerate_next
    (wpAny_call_entry F.slot_enumerate_next hT F.entry_enumerate_next ?_ (F.args_enumerate_next_1 _))))
  show wpAny _ _ (field (.ref e) 2 >>= _) _ _ _
  refine wpAny_bind (wpAny_field he rfl (x := .ref it) rfl ?_)
  refine wpAny_bind (wpAny_nextOf_tuple_end (A := A.in1) (show A.in1.handled = none from hh) hit hl hx fun h' x he' hx' => ?_)
  obtain ⟨o, ho, hc⟩ := hx'
  refine wpAny_bind (wpAny_isInstance (T := "StopIteration") (b := true) ⟨o, ho, hc⟩ isSubtype_stop ?_)
  exact wpAny_pure (hQ _ he')
end PySem
namespace LW
open PySem PySem.Spec PyProof.Rows L2 DW
/-- the tuple at a as it stands at each turn, each item in a new pair -/
def IteT (K : PySem.W.Frag) (a : Addr) : It :=
  ⟨fun i H => ∃ (xs : List V) (x : V), SqT K H a xs ∧ xs[i]? = some x, fun i H v H' => ∃ T x, v = .ref T ∧ H T = none ∧ H' = upd H T (.tup [.int (i : Nat), x]) ∧ ∀ xs, SqT K H a xs → xs[i]? = some x, fun i H => ∃ xs : List V, SqT K H a xs ∧ xs.length ≤ i⟩
theorem turn_enumT {P : Program} {w : World} {K : PySem.W.Frag} {elts : List Expr} {kk : Nat} {tpos : Pos} (a e it : Addr) :
    Turn P w K (.Tuple elts kk tpos) (IteT K a) [e, it] e (fun i h => (∃ old, IsEnum h e it ((i : Nat) : Int) old) ∧ h.IsTupleIter it a i ∧ e ≠ it ∧ a ≠ it ∧ e ≠ a) where
  mem := by simp
  obj := fun i h st b hb => by
    obtain ⟨⟨old, he⟩, ⟨o, ho, hc, hd⟩, _⟩ := st
    have e' : b = e ∨ b = it := by simpa using hb
    rcases e' with z | z
    · rw [z]; exact ⟨_, he, fun v q => nomatch q⟩
    · rw [z]; exact ⟨o, ho, fun v q => by rw [hd] at q; cases q⟩
  keep := fun i h h' st k => let ⟨⟨old, he⟩, hi, hne⟩ := st; ⟨⟨old, k e (by simp) _ he⟩, hi.at fun o q => k it (by simp) o q, hne⟩
  item := by
    intro X hP hw hK hc i pins s σ H E I hf st hg
    subst hP hw hK
    obtain ⟨⟨old, he⟩, hit, hne, hai, hea⟩ := st
    obtain ⟨xs, x, hq, hx⟩ := hg
    obtain ⟨its, rv, p, hz⟩ := I.tuple hq
    obtain ⟨u, hu, ru⟩ := rv.get hx
    have hel : e < s.heap.objs.size := Heap.lt_size he
    have hil : it < s.heap.objs.size := by obtain ⟨_, q, _⟩ := hit; exact Heap.lt_size q
    have hlt : i < its.toArray.size := by
      have := (List.getElem?_eq_some_iff.mp hu).1
      simpa using this
    refine wpAny_pyNext_enum_itemD (Draws.tuple (A := X.A.in1) (show X.A.in1.handled = none from I.ok.hd hc) it a hai its.toArray) he ⟨hit, p⟩ hlt hne (by simp [hne, hea]) fun y h' tk hy ho st' hT hsz hk => ?_
    obtain ⟨hit', _⟩ := st'
    have ey : y = u := by
      have z : its.toArray[i]? = some y := hy
      have z2 : its.toArray[i]? = some u := by simpa using hu
      rw [z] at z2
      exact Option.some.inj z2
    subst ey
    refine ⟨_, rfl, wpAny_letOwnedTupleGo_enum (s := { s with heap := h', toks := tk + 1 }) ho fun h'' he' sb => ?_⟩
    have hT2 : h''.get? s.heap.objs.size = some { cls := .type "tuple", data := .seq #[.int i tk, y] } := (sb.2 _ (Nat.ne_of_gt hel)).trans hT
    have new : ObjOk X.prog X.w (upd H s.heap.objs.size (.tup [.int (i : Nat), x])) h'' s.heap.objs.size (.tup [.int (i : Nat), x]) :=
      ⟨by show 2 ≤ sizeLine; decide, [.int i tk, y], .cons ⟨_, rfl⟩ (.cons ru .nil), ⟨_, hT2, rfl, _, rfl⟩⟩
    have I1 : Inv X pins σ (upd H s.heap.objs.size (.tup [.int (i : Nat), x])) { s with heap := h'', toks := tk + 1 } :=
      I.turnedNew (ch := [e, it]) (fun b ob hb q => (sb.2 b (fun z => hb (by simp [z]))).trans (hk b ob (fun z => hb (by simp [z])) (fun z => hb (by simp [z])) q)) hf (Nat.le_refl _) new
    refine ⟨.ref s.heap.objs.size, _, I1, rfl, ⟨_, x, rfl, I.hok.fresh (Nat.le_refl _), rfl, fun ys hy => by rw [I.tuple_inj hy hq]; exact hx⟩, ⟨⟨y, ?_⟩, hit'.at fun o q => (sb.2 it (Ne.symm hne)).trans q, hne, hai, hea⟩, fun b hb => ?_⟩
    · have e1 : ((i + 1 : Nat) : Int) = (i : Int) + 1 := by omega
      rw [e1]; exact he'
    · have hb' : b < s.heap.objs.size := by
        have e' : b = e ∨ b = it := by simpa using hb
        rcases e' with z | z
        · rw [z]; exact hel
        · rw [z]; exact hil
      rw [upd_ne (Nat.ne_of_lt hb')]
      exact (hf b hb).1
  done := by
    intro X hP hw hK hc i pins s σ H E I hf st hg
    subst hP hw hK
    obtain ⟨⟨old, he⟩, hit, hne, hai, hea⟩ := st
    obtain ⟨xs, hq, hx⟩ := hg
    obtain ⟨its, rv, p, hz⟩ := I.tuple hq
    obtain ⟨f0, f1, f2, f3, f4, f5⟩ := hf it (by simp)
    have hl := rv.length
    exact wpAny_pyNext_enum_endT (I.ok.hd hc) he hit p (by simp; omega) fun h' eb => ⟨rfl, I.turned (t' := s.toks) (fun b o hb q => eb b o hb q) f0 f1 f3 f4 f5⟩
  self := fun A i s Q E st h => let ⟨⟨_, he⟩, _⟩ := st; wpAny_pyIter_enum he h
theorem walk_enumT {K : PySem.W.Frag} {a : Addr} {xs : List V} : Walk (IteT K a) xs.length (fun H => SqT K H a xs) (YPair (fun i => some (.int (i : Nat))) (fun i => xs[i]?)) :=
  ⟨fun i _ hi q => ⟨xs, xs[i], q, by simp [hi]⟩, fun _ q => ⟨xs, q, Nat.le_refl _⟩, fun _ _ _ _ _ q y => by
    obtain ⟨T, x, e, n, e2, hx⟩ := y
    exact ⟨T, _, x, e, n, e2, rfl, hx xs q⟩⟩
def iEnumT (K : PySem.W.Frag) (ta : TA) : TI := fun σ H R => ta σ H fun vs H1 => ∃ a xs, vs = [.ref a] ∧ SqT K H1 a xs ∧ R (IteT K a) H1
theorem pi_enumT {X : Cx} {e : Expr} {ta : TA} {p pos tpos : Pos} {elts : List Expr} {kk : Nat} (hg : Gl X "enumerate") (hm : X.mg "enumerate" = none) (ha : PA X [e] ta) (hs : starEach [e] X.env = [(false, eval e X.env)] := by rfl) :
    PI X (.Tuple elts kk tpos) (.Call (.Name "enumerate" p) [e] [] pos) (iEnumT X.K ta) := by
  refine ⟨fun pins s σ H R I h => ?_⟩
  refine Call_ (ld_blt I hg hm boot_enumerate (PyProof.Rows.callWith_type1 (thn (ha.run pos pins s σ H _ I h) fun us s1 ⟨vs, H1, I1, r1, q1⟩ => ?_) hs rfl))
  obtain ⟨a, xs, ex, hq, q⟩ := q1
  subst ex
  cases r1 with
  | cons r rr =>
    cases rr
    cases r
    obtain ⟨its, rv, p', hz⟩ := I1.tuple hq
    have ha : a < s1.heap.objs.size := by obtain ⟨o, ho, _⟩ := p'; exact Heap.lt_size ho
    refine call_enumerate_tuple p' fun h' he hit hsz hk => wpAny_pyIter_enum he ?_
    have I2 : Inv X pins σ H1 { s1 with heap := h' } := I1.kept (t' := s1.toks) hk
    refine ⟨s1.heap.objs.size + 1, [s1.heap.objs.size + 1, s1.heap.objs.size], _, _, H1, rfl, I2, turn_enumT a (s1.heap.objs.size + 1) s1.heap.objs.size, ⟨⟨.none, he⟩, hit, Nat.succ_ne_self _, Nat.ne_of_lt ha, Ne.symm (Nat.ne_of_lt (Nat.lt_succ_of_lt ha))⟩, fun b hb => ?_, q⟩
    have e' : b = s1.heap.objs.size + 1 ∨ b = s1.heap.objs.size := by simpa using hb
    have hle : s1.heap.objs.size ≤ b := by
      rcases e' with z | z
      · rw [z]; exact Nat.le_add_right _ _
      · rw [z]; exact Nat.le_refl _
    exact I1.fpOk hle (I1.hok.fresh hle)
end LW
namespace LW
open PySem PySem.Spec PyProof.Rows L2 DW
/-- a value that is no reason for a line -/
def WhyN (K : PySem.W.Frag) (H : Hp) (v : V) : Prop := NotTup K H v ∨ ∃ a xs, v = .ref a ∧ SqT K H a xs ∧
  (xs.length < 2 ∨ (∃ ys, xs = .non :: ys) ∨ (∃ x y z ys, xs = .str x :: .str y :: z :: ys) ∨ ∃ x ys, xs = .str x :: .non :: ys ∧ inV (.str x) (rulesL.map V.str) = false)
/-- no pair -/
def NotPr (K : PySem.W.Frag) (H : Hp) (v : V) : Prop := NotTup K H v ∨ ∃ a xs, v = .ref a ∧ SqT K H a xs ∧ xs.length ≠ 2
/-- a line that is none -/
def LineN (K : PySem.W.Frag) (H : Hp) (D : PlainD) (v : V) : Prop := NotPr K H v ∨ ∃ a x y b, v = .ref a ∧ SqT K H a [x, y] ∧ ValB K H D x b ∧ (b = true → WhyN K H y)
/-- a value that is no list -/
def ListN (K : PySem.W.Frag) (H : Hp) (D : PlainD) (v : V) : Prop := NotTup K H v ∨ ∃ a xs, v = .ref a ∧ SqT K H a xs ∧ ∀ x ys, xs = x :: ys → LineN K H D x
theorem sqt_same {K : PySem.W.Frag} {H H' : Hp} {a : Addr} {xs : List V} (s : Same H H') (h : SqT K H a xs) : SqT K H' a xs := sqT_same s h
theorem WhyN.same {K : PySem.W.Frag} {H H' : Hp} {v : V} (s : Same H H') (h : WhyN K H v) : WhyN K H' v := by
  rcases h with h | ⟨a, xs, e, h, c⟩
  · exact .inl (h.same s)
  · exact .inr ⟨a, xs, e, sqt_same s h, c⟩
theorem NotPr.same {K : PySem.W.Frag} {H H' : Hp} {v : V} (s : Same H H') (h : NotPr K H v) : NotPr K H' v := by
  rcases h with h | ⟨a, xs, e, h, c⟩
  · exact .inl (h.same s)
  · exact .inr ⟨a, xs, e, sqt_same s h, c⟩
theorem LineN.same {K : PySem.W.Frag} {H H' : Hp} {D : PlainD} {v : V} (s : Same H H') (h : LineN K H D v) : LineN K H' D v := by
  rcases h with h | ⟨a, x, y, b, e, h, c, d⟩
  · exact .inl (h.same s)
  · exact .inr ⟨a, x, y, b, e, sqt_same s h, c.same s, fun z => (d z).same s⟩
theorem ListN.same {K : PySem.W.Frag} {H H' : Hp} {D : PlainD} {v : V} (s : Same H H') (h : ListN K H D v) : ListN K H' D v := by
  rcases h with h | ⟨a, xs, e, h, c⟩
  · exact .inl (h.same s)
  · exact .inr ⟨a, xs, e, sqt_same s h, fun x ys e => (c x ys e).same s⟩
section
variable {P : Program} {w : World} {K : PySem.W.Frag} {mg : Str → Option Value} {base : Heap}
theorem isi_t {σ : L2.St} {i : Nat} {a : Addr} {xs : List V} {H : Hp} {Q : VK} (hv : σ[i]? = some (some (.ref a))) (h : SqT K H a xs) (q : Q (.bl true) H) : tCB (rIsi K) (tCons (tVar i) (tCons (tC (.ty "tuple")) tNil)) σ H Q := isi_tup hv h kTT q
theorem dec_len2 {n m : Nat} : decide (V.int (n : Int) = V.int (m : Int)) = decide (n = m) := by
  rw [dec_int]
  by_cases q : n = m
  · rw [q]; simp
  · rw [decide_eq_false q, beq_eq_false_iff_ne]; omega
/-- is_pair of what is none, or is one -/
def spPr2 (K : PySem.W.Frag) : Sp := fun vs H Q _ => ∃ v, vs = [v] ∧ ((NotPr K H v ∧ Q (.bl false) H) ∨ ∃ a x y, v = .ref a ∧ SqT K H a [x, y] ∧ Q (.bl true) H)
theorem ok_pr2 {f : Addr} {fd : FuncData} (F : Fun K "is_pair" "is_pair" s_is_pair f fd) (zI : mg "isinstance" = none) (zT : mg "tuple" = none) (zL : mg "len" = none) : FnOk P w K mg base CX0 1 f fd ["value"] (spPr2 K) := by
  refine F.ok scPair (fun vs H Q E h => ?_) (fun cdv A outer s H vs Q E hr h => ?_)
  · obtain ⟨v, rfl, _⟩ := h
    rfl
  obtain ⟨v, rfl, h⟩ := h
  refine ⟨_, pss_one (ps_ret (pe_and (pe_callB call_isi (by rfl) zI (by rfl) (pa_cons (pv 0) (pa_cons (pe_bltn rfl zT (by rfl) (show RelV (.ty "tuple") (.type "tuple") from rfl)) pa_nil)))
    (pe_one (pe_cmpR op_eq (pe_callB call_len_seq (by rfl) zL PySem.boot_len (pa_cons (pv 0) pa_nil)) pe_int (nomark _))))), ?_⟩
  rcases h with ⟨np, k⟩ | ⟨a, x, y, rfl, hs, k⟩
  · rcases np with nt | ⟨a, xs, rfl, hs, ne⟩
    · exact rd_nt rfl nt ⟨_, rfl, iteF k⟩
    · refine isi_t rfl hs ⟨_, rfl, iteT ⟨_, rfl, a, _, rfl, .inr hs, rfl, ?_⟩⟩
      rw [show V.int 2 = V.int ((2 : Nat) : Int) from rfl, dec_len2, decide_eq_false ne]
      exact k
  · exact isi_t rfl hs ⟨_, rfl, iteT ⟨_, rfl, a, _, rfl, .inr hs, rfl, k⟩⟩
/-- no reason: None -/
theorem scRr : FnScope ["net", "words", "rows", "why", "index"] ["net", "words", "rows", "why"] (defScope s_u_reason_row) := ⟨rfl, rfl, rfl, by decide +kernel, rfl, by decide +kernel, by decide +kernel⟩
def spRr (K : PySem.W.Frag) : Sp := fun vs H Q _ => ∃ n ww rr v : V, vs = [n, ww, rr, v] ∧ WhyN K H v ∧ Q .non H
theorem ok_rr {f fP tR : Addr} {fd dP : FuncData} (F : Fun K "_reason_row" "_reason_row" s_u_reason_row f fd) (CP : Cal P w K mg base 1 "is_pair" ["value"] (spPr2 K) fP dP) (gR : mg "RULES" = some (.ref tR)) (hR : ∀ H, SqT K H tR (rulesL.map V.str)) (zI : mg "isinstance" = none) (zT : mg "tuple" = none) (zS : mg "str" = none) (zL : mg "len" = none) : FnOk P w K mg base CX0 2 f fd ["net", "words", "rows", "why"] (spRr K) := by
  refine F.ok scRr (fun vs H Q E h => ?_) (fun cdv A outer s H vs Q E hr h => ?_)
  · obtain ⟨n, ww, rr, v, rfl, _⟩ := h
    rfl
  obtain ⟨n, ww, rr, v, rfl, hv, k⟩ := h
  refine ⟨_, pss_cons (ps_if (PW.pt (pw_or (pt_not (pt_val (pe_callB call_isi (by rfl) zI (by rfl) (pa_cons (pv 3) (pa_cons (pe_bltn rfl zT (by rfl) (show RelV (.ty "tuple") (.type "tuple") from rfl)) pa_nil))))) (pw_or (pt_cmpR op_lt (pe_callB call_len_seq (by rfl) zL PySem.boot_len (pa_cons (pv 3) pa_nil)) pe_int (nomark _))
      (pw_or1 (pt_not (pt_val (pe_callB call_isi (by rfl) zI (by rfl) (pa_cons (pe_ix (r := rIxT K) ix_tup (pv 3) pe_int (fun _ _ => rfl)) (pa_cons (pe_bltn rfl zS (by rfl) (show RelV (.ty "str") (.type "str") from rfl)) pa_nil))))))))) (pss_one (ps_ret pe_non)) pss_nil)
    (pss_cons (ps_if (pt_val (pe_callB call_isi (by rfl) zI (by rfl) (pa_cons (pe_ix (r := rIxT K) ix_tup (pv 3) pe_int (fun _ _ => rfl)) (pa_cons (pe_bltn rfl zS (by rfl) (show RelV (.ty "str") (.type "str") from rfl)) pa_nil))))
      (pss_one (ps_ret (pe_ifExp (PW.pt (pw_and (pt_val (pe_cal (E := E0) CP hr rfl (pa_cons (pv 3) pa_nil))) (pw_and1 deadT))) deadE pe_non))) pss_nil)
    (pss_cons (ps_if (PW.pt (pw_or (pt_cmpR op_notIn_seq (pe_ix (r := rIxT K) ix_tup (pv 3) pe_int (fun _ _ => rfl)) (pe_glob rfl gR (show RelV (.ref tR) (.ref tR) from rfl)) (by rfl)) (pw_or1 deadT))) (pss_one (ps_ret pe_non)) pss_nil) dead)), ?_⟩
  have isi : ∀ {i : Nat} {x : Str} {a : Addr} {xs : List V} {R : VK}, SqT K H a xs → xs[i]? = some (.str x) → R (.bl true) H → tCB (rIsi K) (tCons (tOp (rIxT K) (tVar 3) (tC (.int (i : Nat)))) (tCons (tC (.ty "str")) tNil)) (start ["net", "words", "rows", "why", "index"] [n, ww, rr, .ref a]) H R := fun hs hx q =>
    ⟨_, rfl, _, _, _, _, rfl, rfl, hs, atI_nat hx, _, .ty "str", _, _, _, rfl, .ty _, (DW.Dd.base (.str _) rfl : Dd K H _ (.str _)).tyx, kit_ty (kit_str (.str _)), q⟩
  have isn : ∀ {i : Nat} {a : Addr} {xs : List V} {R : VK}, SqT K H a xs → xs[i]? = some .non → R (.bl false) H → tCB (rIsi K) (tCons (tOp (rIxT K) (tVar 3) (tC (.int (i : Nat)))) (tCons (tC (.ty "str")) tNil)) (start ["net", "words", "rows", "why", "index"] [n, ww, rr, .ref a]) H R := fun hs hx q =>
    ⟨_, rfl, _, _, _, _, rfl, rfl, hs, atI_nat hx, _, .ty "str", _, _, _, rfl, .ty _, (DW.Dd.base .non rfl : Dd K H _ .none).tyx, kit_ty (kit_str .none), q⟩
  rcases hv with nt | ⟨a, xs, rfl, hs, c⟩
  · exact rd_nt rfl nt ⟨_, rfl, iteT k⟩
  refine isi_t rfl hs ⟨_, rfl, iteF ⟨_, rfl, a, _, rfl, .inr hs, _, _, rfl, rfl, _, rfl, ?_⟩⟩
  by_cases l2 : xs.length < 2
  · refine ite1 (decide_eq_true (by omega)) k
  refine ite0 (decide_eq_false (by omega)) ?_
  rcases c with c | ⟨ys, rfl⟩ | ⟨x, y, z, ys, rfl⟩ | ⟨x, ys, rfl, e⟩
  · exact absurd c l2
  · exact isn (i := 0) hs rfl ⟨_, rfl, iteT k⟩
  · refine isi (i := 0) hs rfl ⟨_, rfl, iteF ?_⟩
    refine isi (i := 1) hs rfl ⟨_, rfl, iteT ?_⟩
    refine ⟨_, rfl, _, rfl, .inl ⟨.inr ⟨a, _, rfl, hs, by simp⟩, _, rfl, iteF k⟩⟩
  · refine isi (i := 0) hs rfl ⟨_, rfl, iteF ?_⟩
    refine isn (i := 1) hs rfl ⟨_, rfl, iteF ?_⟩
    refine ⟨_, rfl, _, _, _, _, rfl, rfl, hs, atI_nat (j := 0) rfl, tR, _, rfl, .inr (hR H), rfl, by decide, _, rfl, ?_⟩
    refine ite1 ?_ k
    show (!inV (.str x) (rulesL.map V.str)) = true
    rw [e]
    rfl
end
end LW
namespace LW
open PySem PySem.Spec PyProof.Rows L2 DW
section
variable {P : Program} {w : World} {K : PySem.W.Frag} {mg : Str → Option Value} {base : Heap}
theorem scLf : FnScope ["net", "words", "rows", "line", "reason"] ["net", "words", "rows", "line"] (defScope s_u_line_fault) := ⟨rfl, rfl, rfl, by decide +kernel, rfl, by decide +kernel, by decide +kernel⟩
def spLf (K : PySem.W.Frag) (C : Addr) : Sp := fun vs H Q _ => ∃ (x : Addr) (ww rr v : V) (D : PlainD), vs = [.ref x, ww, rr, v] ∧ NetAt K C H x D ∧ OkN D ∧ LineN K H D v ∧ ∀ z H', Same H H' → Q (.str z) H'
theorem ok_lf {f fP fI fR C CE : Addr} {fd dP dI dR : FuncData} (F : Fun K "_line_fault" "_line_fault" s_u_line_fault f fd) (CP : Cal P w K mg base 1 "is_pair" ["value"] (spPr2 K) fP dP) (CI : CalR P w K mg base 4 "is_row" ["net", "value"] (spIrE K C CE) fI dI) (CR : Cal P w K mg base 2 "_reason_row" ["net", "words", "rows", "why"] (spRr K) fR dR) :
    FnOk P w K mg base (L2.CX P w) 5 f fd ["net", "words", "rows", "line"] (spLf K C) := by
  refine F.okX scLf (fun vs H Q E h => ?_) (fun cdv A outer s H vs Q E hr h => ?_)
  · obtain ⟨x, ww, rr, v, D, rfl, _⟩ := h
    rfl
  obtain ⟨x, ww, rr, v, D, rfl, net, ok, ln, k⟩ := h
  refine ⟨_, pss_cons (ps_if (pt_not (pt_val (pe_cal (E := E0) CP hr rfl (pa_cons (pv 3) pa_nil)))) (pss_one (ps_ret pe_str)) pss_nil)
    (pss_cons (ps_if (pt_not (pt_val (pe_calR (E := E) CI hr (takes_of rfl rfl rfl rfl) rfl (pa_cons (pv 0) (pa_cons (pe_ix (r := rIxT K) ix_tup (pv 3) pe_int (fun _ _ => rfl)) pa_nil))))) (pss_one (ps_ret pe_str)) pss_nil)
    (pss_cons (ps_set (i := 4) scLf.nd rfl (Or.inl rfl) (pe_cal (E := E0) CR hr rfl (pa_cons (pv 0) (pa_cons (pv 1) (pa_cons (pv 2) (pa_cons (pe_ix (r := rIxT K) ix_tup (pv 3) pe_int (fun _ _ => rfl)) pa_nil))))))
    (pss_cons (ps_if (pt_cmp (pc_isN (pv 4))) (pss_one (ps_ret pe_str)) pss_nil) dead))), ?_⟩
  rcases ln with np | ⟨a, y, z, b, rfl, hs, vb, wn⟩
  · exact ⟨_, rfl, v, rfl, .inl ⟨np, _, rfl, iteT (k _ H (Same.refl H))⟩⟩
  refine ⟨_, rfl, _, rfl, .inr ⟨a, y, z, rfl, hs, _, rfl, iteF ?_⟩⟩
  refine ⟨_, rfl, _, rfl, a, _, 0, y, rfl, rfl, hs, atI_nat (j := 0) rfl, _, y, rfl, .inr ⟨x, D, b, rfl, net, ok, vb, fun H1 s1 => ⟨b, rfl, ?_⟩⟩⟩
  cases b with
  | false => exact iteT (k _ H1 s1)
  | true =>
    refine iteF ⟨_, rfl, _, rfl, _, rfl, _, rfl, a, _, 1, z, rfl, rfl, sqt_same s1 hs, atI_nat (j := 1) rfl, _, _, _, z, rfl, (wn rfl).same s1, ?_⟩
    exact ⟨_, rfl, _, rfl, ite1 (by decide) (k _ H1 s1)⟩
abbrev lfN : List Str := ["net", "value", "words", "rows", "index", "line", "fault", "word"]
theorem scLs : FnScope lfN ["net", "value"] (defScope s_list_fault) := ⟨rfl, rfl, rfl, by decide +kernel, rfl, by decide +kernel, by decide +kernel⟩
def spLsE (K : PySem.W.Frag) (C CE : Addr) : Sp := fun vs H Q E => ∃ n v, vs = [n, v] ∧ ((NotNet K C H n ∧ ∀ H', Same H H' → E (.ref CE) none H') ∨ (∃ x D, n = .ref x ∧ NetAt K C H x D ∧ OkN D ∧ ListN K H D v ∧ ∀ p H', Same H H' → Q (.ref p) H'))
theorem ok_lsE {f fN fL pT gT C CE : Addr} {fd dN dL dT : FuncData} (F : Fun K "list_fault" "list_fault" s_list_fault f fd) (CN : CalR P w K mg base 1 "need_net" ["value"] (spNNE K C CE) fN dN) (PT : PropK P w K mg base C "told" (rTold K) pT gT dT) (CL : CalR P w K mg base 5 "_line_fault" ["net", "words", "rows", "line"] (spLf K C) fL dL) (N : NetK K C) (zI : mg "isinstance" = none) (zT : mg "tuple" = none) (zN : mg "enumerate" = none) :
    FnOk P w K mg base (L2.CX P w) 6 f fd ["net", "value"] (spLsE K C CE) := by
  refine F.okX scLs (fun vs H Q E h => ?_) (fun cdv A outer s H vs Q E hr h => ?_)
  · obtain ⟨n, v, rfl, _⟩ := h
    rfl
  obtain ⟨n, v, rfl, h⟩ := h
  refine ⟨_, pss_cons (ps_expr (pe_calR (E := E) CN hr (takes_of rfl rfl rfl rfl) rfl (pa_cons (pv 0) pa_nil)))
    (pss_cons (ps_if (pt_not (pt_val (pe_callB call_isi (by rfl) zI (by rfl) (pa_cons (pv 1) (pa_cons (pe_bltn rfl zT (by rfl) (show RelV (.ty "tuple") (.type "tuple") from rfl)) pa_nil))))) (pss_one (ps_ret (pe_tup (pa_cons pe_str (pa_cons pe_non pa_nil))))) pss_nil)
    (C8.pss_cut (ps_setDcT (i := 2) (own := [("word", 7)]) (g := gName 7) (tt := tYes) (tk := tVar 7) (tv := tC (.bl true)) (hu_of hr) rfl scLs.nd rfl rfl (sw_trueD rfl rfl rfl (by decide +kernel)) (pi_tup (pe_pr PT N.c (Room.mono hr (by decide)) (pv 0))) (blkOk_by (own := [("word", 7)]) (N := lfN) (sc := defScope s_list_fault) (by decide +kernel))
        (fun _ _ _ _ _ => pg_name (i := 7) scLs.nd rfl (Or.inl rfl)) (fun _ _ _ _ _ => pts_nil) (fun _ _ _ _ _ => pv 7) (fun _ _ _ _ _ => pe_bl))
    (pss_cons (ps_set (i := 3) scLs.nd rfl (Or.inl rfl) (pe_lst pa_nil))
    (pss_cons (ps_for (passes_of rfl) rfl (pi_enumT rfl zN (pa_cons (pv 1) pa_nil)) (pg_tup rfl (pgs_cons (pg_name (i := 4) scLs.nd rfl (Or.inl rfl)) (pgs_cons (pg_name (i := 5) scLs.nd rfl (Or.inl rfl)) pgs_nil)))
      (pss_cons (ps_set (i := 6) scLs.nd rfl (Or.inl rfl) (pe_calR (E := E) CL hr (takes_of rfl rfl rfl rfl) rfl (pa_cons (pv 0) (pa_cons (pv 2) (pa_cons (pv 3) (pa_cons (pv 5) pa_nil))))))
      (pss_cons (ps_if (pt_cmp (pc_notN (pv 6))) (pss_one (ps_ret (pe_tup (pa_cons (pv 4) (pa_cons (pv 6) pa_nil))))) pss_nil) dead)))
    (pss_cons (ps_if (PW.pt (pw_or (pt_cmpR (op_eqD hr.units) (pv 3) (pe_lst pa_nil) (nomark _)) (pw_or1 deadT))) (pss_one (ps_ret (pe_tup (pa_cons pe_str (pa_cons pe_non pa_nil))))) pss_nil) dead))))), ?_⟩
  refine ⟨_, rfl, n, rfl, ?_⟩
  rcases h with ⟨nn, kE⟩ | ⟨x, D, rfl, net, ok, ln, k⟩
  · exact .inr ⟨nn, kE⟩
  refine .inl ⟨x, rfl, net.ins, ?_⟩
  rcases ln with nt | ⟨a, xs, rfl, hs, hx⟩
  · exact rd_nt rfl nt ⟨_, rfl, iteT ⟨by show 2 ≤ sizeLine; decide, fun p np => k p _ (same_new np)⟩⟩
  refine isi_t rfl hs ⟨_, rfl, iteF ?_⟩
  refine next_ ?_
  dsimp only
  -- words
  refine ⟨fun σ' H' => ∃ d : Addr, σ' = [some (.ref x), some (.ref a), some (.ref d), none, none, none, none, none] ∧ Same H H', ?_, ?_⟩
  · obtain ⟨dx, la, wa, ba, ea, ra, h1, _⟩ := id net
    refine ⟨_, rfl, x, dx, _, rfl, h1, x, D, rfl, net, ok, fun v H1 s1 r => ?_⟩
    obtain ⟨t, bs, rfl, nt, ht, pr⟩ := r
    have lb : bs.length = (toldR D).length := Paired.length pr
    have tlen : (toldR D).length ≤ 100000 := by
      have q1 := ok.l.len
      have q2 := ok.w.len
      have q3 := ok.b.len
      unfold toldR told1 told2 told3 told4 told5
      simp only [List.length_append, List.length_map]
      omega
    refine ⟨t, rfl, ⟨_, SqT.of ht⟩, fun d hd => dcT_it (walk_tup (K := K) (a := t) (xs := bs.map V.ref)) (fun i G => Same H1 G ∧ ∃ kvs, G d = some (.dT kvs) ∧ kvs.length ≤ i) ⟨same_new hd, [], upd_same, Nat.le_refl _⟩ (fun i G _ q => SqT.of (q.1 _ _ ht)) (fun i v G1 G2 hi q y => ?_) (fun G q => ?_)⟩
    · obtain ⟨rfl, hv⟩ := y
      obtain ⟨s2, kvs, hk, lk⟩ := q
      rw [List.getElem?_map] at hv
      obtain ⟨b, hb, rfl⟩ := Option.map_eq_some_iff.mp hv
      obtain ⟨r, hr', e⟩ := pairedAt pr hb
      have hi' : i < bs.length := by simpa using hi
      refine ⟨by simp [gName, wipe], tyes ⟨_, by simp [gName, wipe]; rfl, kvs, [.inr r.1.1, .inr r.1.2], b, rfl, s2 _ _ (s1 _ _ e), hk, by rw [sizeLine_eq]; omega, same_mut s2 hd, _, upd_same, ?_⟩⟩
      have := putK_len kvs [.inr r.1.1, .inr r.1.2] (.bl true)
      omega
    · exact ⟨d, rfl, s1.trans q.1⟩
  rintro _ H1 ⟨d, rfl, s1⟩
  refine ⟨by show 0 ≤ sizeLine; decide, fun rw nrw => ?_⟩
  have s2 := s1.trans (same_new (o := .lst []) nrw)
  have net2 := net.same s2
  have hs2 := sqt_same s2 hs
  have hrw : upd H1 rw (.lst []) rw = some (.lst []) := upd_same
  generalize upd H1 rw (.lst []) = H2 at s2 net2 hs2 hrw ⊢
  refine ⟨_, rfl, a, xs, rfl, hs2, for_it (walk_enumT (K := K) (a := a) (xs := xs)) (fun i σ G => i = 0 ∧ σ = [some (.ref x), some (.ref a), some (.ref d), some (.ref rw), none, none, none, none] ∧ G = H2) ⟨rfl, rfl, rfl⟩ (fun i σ G _ q => by rw [q.2.2]; exact hs2) (fun i v σ G G2 hi q y => ?_) (fun σ G q => ?_)⟩
  · obtain ⟨rfl, rfl, rfl⟩ := q
    obtain ⟨T, u, y, rfl, nT, rfl, eu, ey⟩ := y
    have s3 := same_new (o := .tup [u, y]) nT
    have e2 : xs = y :: xs.tail := by
      cases xs with
      | nil => cases ey
      | cons z zs => cases ey; rfl
    refine ⟨T, _, rfl, SqT.of upd_same, rfl, _, _, rfl, _, _, rfl, rfl, ?_⟩
    refine ⟨_, rfl, _, rfl, _, rfl, _, rfl, x, _, _, y, D, rfl, net2.same s3, ok, (hx y xs.tail e2).same (s2.trans s3), fun z G3 s4 => ⟨_, rfl, _, rfl, ite1 rfl ⟨_, rfl, _, rfl, by show 2 ≤ sizeLine; decide, fun p np => k p _ (s2.trans (s3.trans (s4.trans (same_new np))))⟩⟩⟩
  · obtain ⟨e0, rfl, rfl⟩ := q
    refine ⟨_, rfl, by show 0 ≤ sizeLine; decide, fun q nq => ⟨.list [], .list [], .lst (SqL.of ((same_new nq) _ _ hrw)) .nil, .lst (SqL.of upd_same) .nil, by decide, by decide, _, rfl, ?_⟩⟩
    exact iteT ⟨by show 2 ≤ sizeLine; decide, fun p np => k p _ (s2.trans ((same_new nq).trans (same_new np)))⟩
theorem scIl : FnScope ["net", "value"] ["net", "value"] (defScope s_is_list) := ⟨rfl, rfl, rfl, by decide +kernel, rfl, by decide +kernel, by decide +kernel⟩
/-- is_list of what is none: False -/
def spIlE (K : PySem.W.Frag) (C CE : Addr) : Sp := fun vs H Q E => ∃ n v, vs = [n, v] ∧ ((NotNet K C H n ∧ ∀ H', Same H H' → E (.ref CE) none H') ∨ (∃ x D, n = .ref x ∧ NetAt K C H x D ∧ OkN D ∧ ListN K H D v ∧ ∀ H', Same H H' → Q (.bl false) H'))
theorem ok_ilE {f fL C CE : Addr} {fd dL : FuncData} (F : Fun K "is_list" "is_list" s_is_list f fd) (CL : CalR P w K mg base 6 "list_fault" ["net", "value"] (spLsE K C CE) fL dL) : FnOk P w K mg base (L2.CX P w) 7 f fd ["net", "value"] (spIlE K C CE) := by
  refine F.okX scIl (fun vs H Q E h => ?_) (fun cdv A outer s H vs Q E hr h => ?_)
  · obtain ⟨n, v, rfl, _⟩ := h
    rfl
  obtain ⟨n, v, rfl, h⟩ := h
  refine ⟨_, pss_one (ps_ret (pe_cmp (pc_isN (pe_calR (E := E) CL hr (takes_of rfl rfl rfl rfl) rfl (pa_cons (pv 0) (pa_cons (pv 1) pa_nil)))))), ?_⟩
  refine ⟨_, rfl, _, rfl, n, v, rfl, ?_⟩
  rcases h with ⟨nn, kE⟩ | ⟨x, D, rfl, net, ok, ln, k⟩
  · exact .inl ⟨nn, kE⟩
  · exact .inr ⟨x, D, rfl, net, ok, ln, fun p H1 s1 => k H1 s1⟩
theorem scUl : FnScope ["net", "lines"] ["net", "lines"] (defScope s_used_lines) := ⟨rfl, rfl, rfl, by decide +kernel, rfl, by decide +kernel, by decide +kernel⟩
/-- used_lines of what is no list: an InvalidOperation -/
def spUlE (K : PySem.W.Frag) (C CE CO : Addr) : Sp := fun vs H Q E => ∃ n v, vs = [n, v] ∧ ((NotNet K C H n ∧ ∀ H', Same H H' → E (.ref CE) none H') ∨ (∃ x D, n = .ref x ∧ NetAt K C H x D ∧ OkN D ∧ ListN K H D v ∧ ∀ H', Same H H' → E (.ref CO) none H'))
theorem ok_ulE {f fL C CE CO : Addr} {fd dL : FuncData} (F : Fun K "used_lines" "used_lines" s_used_lines f fd) (CL : CalR P w K mg base 7 "is_list" ["net", "value"] (spIlE K C CE) fL dL) (o : Pl K mg "InvalidOperation" CO) : FnOk P w K mg base (L2.CX P w) 8 f fd ["net", "lines"] (spUlE K C CE CO) := by
  refine F.okX scUl (fun vs H Q E h => ?_) (fun cdv A outer s H vs Q E hr h => ?_)
  · obtain ⟨n, v, rfl, _⟩ := h
    rfl
  obtain ⟨n, v, rfl, h⟩ := h
  refine ⟨_, pss_cons (ps_if (pt_not (pt_val (pe_calR (E := E) CL hr (takes_of rfl rfl rfl rfl) rfl (pa_cons (pv 0) (pa_cons (pv 1) pa_nil)))))
    (pss_one (ps_raise rfl (takes_of rfl rfl rfl rfl) (pmk_exq0 rfl (pe_exP PySem.F.excBase_ValueError o.q o.hi o.ex.kC o.g rfl pe_str)))) pss_nil) dead, ?_⟩
  refine ⟨_, rfl, _, rfl, n, v, rfl, ?_⟩
  rcases h with ⟨nn, kE⟩ | ⟨x, D, rfl, net, ok, ln, k⟩
  · exact .inl ⟨nn, kE⟩
  · exact .inr ⟨x, D, rfl, net, ok, ln, fun H1 s1 => ⟨false, rfl, iteT (rd_pl (raises_own o.ex.ex o.ty) (fun a n => none_of s1 n) fun H2 s2 => k _ (s1.trans s2))⟩⟩
end
end LW
namespace HNC
open PySem PySem.Spec PyProof.Rows PySem.SeqAt
open AutoSeq1 (wpAny_loadPart')
open MeetsSeq MeetsSeq2 MeetsSeq3 SeqRoads2
section
variable {prog : Program} {w : World} {A : Around} {E : Value → Shared → Prop} {s : Shared} {K : PySem.W.Frag} {x C f : Addr} {ox : Obj} {od : Option Obj}
theorem isInst_ins {A : Around} {E : Value → Shared → Prop} {Q : Bool → Shared → Prop} (X : K.In s.heap) (I : PySem.W.InstAt s.heap x ox C od) (e : PySem.W.subIn K (.ref C) (.type "tuple") = some false) (hQ : Q false s) : wpAny (model prog w) A (isInstance (.ref x) (.type "tuple")) Q E s := by
  simp only [isInstance]
  exact wpAny_bind (I.type.here ((PySem.W.looks_subIn X e).here hQ))
/-- tuple.__eq__ with an instance: NotImplemented -/
theorem tup_eq_ins {R : Result → Shared → Prop} {l : Addr} {items : Array Value} {n : Nat} {dd : Option Addr} {sl : Array (Option Value)} (X : K.In s.heap) (I : PySem.W.InstAt s.heap x ox C od) (e : PySem.W.subIn K (.ref C) (.type "tuple") = some false)
    (hl : s.heap.get? l = some { cls := .type "tuple", dict := dd, data := .seq items n, slots := sl }) (h : R (.ok (.ret .notImplemented)) s) :
    wpAny (model prog w) A.in1 (Builtin.«tuple.__eq__» ⟨[.ref l, .ref x], []⟩) (GQ.FinOf prog w A R) (fun e s' => R (.error e) s') s := by
  have hi : ∀ {A : Around} {E : Value → Shared → Prop} {Q : Bool → Shared → Prop}, Q false s → wpAny (model prog w) A (isInstance (.ref x) (.type "tuple")) Q E s := fun {A E Q} q => isInst_ins X I e q
  obtain ⟨hp, g, d, tk, os⟩ := s
  wp_walk using hi
  exact h
/-- a tuple == an instance with an own __eq__ -/
theorem rc_tupIns {l : Addr} {items : Array Value} {Q : Value → Shared → Prop} (hu : A.units + 1 < cLine) (X : K.In s.heap) (hl : s.heap.IsTuple l items) (I : PySem.W.InstAt s.heap x ox C od) (e : PySem.W.subIn K (.ref C) (.type "tuple") = some false)
    (he : PySem.W.findIn K (.ref C) "__eq__" = some (some (.ref f))) (hf : PySem.W.isFn K (.ref f) = true) (hcall : wpAny (model prog w) A (call (.ref f) [.ref x, .ref l]) (fun v s' => v = .bool false ∧ Q (.bool false) s') E s) :
    wpAny (model prog w) A (richCompare .Eq (.ref l) (.ref x)) Q E s := by
  obtain ⟨⟨cls, dd, data, sl⟩, ho, hc, n, hd⟩ := id hl
  simp only at hc hd
  subst hc hd
  have hT : s.TypeIs (.ref l) "tuple" := ⟨_, ho, rfl⟩
  have one : wpAny (model prog w) A (tryCompare (.ref x) "__eq__" (.ref l)) (fun r s' => r = some (.bool false) ∧ Q (.bool false) s') E s := by
    unfold tryCompare
    refine wpAny_bind (PySem.W.ifBound_K X I he hf (wpAny_mono hcall (fun v s' hv => ?_) fun _ _ e => e))
    obtain ⟨rfl, hq⟩ := hv
    exact wpAny_pure ⟨rfl, hq⟩
  rcases hi : cmpInfo CmpOp.Eq with ⟨sym, nf, nr⟩
  have h1 := F.slot_tuple_eq
  rw [hi] at h1
  have e2 : nr = "__eq__" := by
    have := congrArg (fun z => z.2.2) hi
    exact this.symm
  simp only [richCompare, hi, oneThing_ref]
  refine wpAny_holding (wpAny_bind (wpAny_cRoomFor (Nat.lt_of_succ_lt hu) ?_))
  refine wpAny_bind (wpAny_typeOf hT (wpAny_bind (I.type.here ?_)))
  have hne : (Value.type "tuple" != Value.ref C) = true := rfl
  simp only [hne, if_true]
  refine wpAny_bind ((PySem.W.looks_subIn X e).here ?_)
  simp only [Bool.false_eq_true, if_false, Bool.not_false, if_true]
  refine wpAny_bind (m := tryCompare (.ref l) _ (.ref x)) (wpAny_tryCompare_declines hT h1 (GQ.call_here h1 hT F.entry_tuple_eq (F.args_tuple_eq_2 _ _) (tup_eq_ins (R := wants _ E) X I e ho ⟨rfl, ?_⟩)))
  subst e2
  refine wpAny_bind (m := tryCompare (.ref x) _ (.ref l)) (wpAny_mono one (fun r s1 z => ?_) fun _ _ e => e)
  obtain ⟨rfl, hq⟩ := z
  exact wpAny_pure hq
/-- x in a tuple none of whose items is equal to it, whatever the comparing makes -/
theorem contains_noneG {R : Result → Shared → Prop} {l : Addr} {items : Array Value} {n : Nat} {dd : Option Addr} {sl : Array (Option Value)} {v : Value} (Iv : Shared → Prop)
    (hl : s.heap.get? l = some { cls := .type "tuple", dict := dd, data := .seq items n, slots := sl }) (h0 : Iv s)
    (turn : ∀ y, y ∈ items → ∀ s', Iv s' → wpAny (model prog w) A.in1 (eqBool y v) (fun r s'' => r = false ∧ Iv s'') (fun e s' => R (.error e) s') s')
    (fin : ∀ s', Iv s' → R (.ok (.ret (.bool false))) s') :
    wpAny (model prog w) A.in1 (Builtin.«tuple.__contains__» ⟨[.ref l, v], []⟩) (GQ.FinOf prog w A R) (fun e s' => R (.error e) s') s := by
  have h := h0
  obtain ⟨hp, g, d, tk, os⟩ := s
  wp_walk using wpAny_loadPart' hl, wpAny_forIn_array _ (fun rest b s' => b.1 = none ∧ Iv s' ∧ ∀ y, y ∈ rest → y ∈ items) _
  case turn =>
    rintro y rest b s' ⟨hb, hI, hmem⟩
    refine wpAny_bind (wpAny_mono (turn y (hmem y (List.mem_cons_self ..)) s' hI) (fun r s2 q2 => ?_) fun _ _ x => x)
    obtain ⟨rfl, q2⟩ := q2
    wp_walk
    exact ⟨rfl, q2, fun z hz => hmem z (List.mem_cons_of_mem _ hz)⟩
  case fin =>
    rintro ⟨b1, b2⟩ s' ⟨hb, hI, -⟩
    simp only at hb
    subst hb
    wp_walk
    exact fin s' hI
  case h =>
    exact ⟨rfl, h, fun y hy => by simpa using hy⟩
theorem in_noneG {l : Addr} {items : Array Value} {v : Value} {Q : Value → Shared → Prop} (Iv : Shared → Prop) (hl : s.heap.IsTuple l items) (h0 : Iv s)
    (turn : ∀ y, y ∈ items → ∀ s', Iv s' → wpAny (model prog w) A.in1 (eqBool y v) (fun r s'' => r = false ∧ Iv s'') E s') (fin : ∀ s', Iv s' → Q (.bool false) s') :
    wpAny (model prog w) A (compareOp .In v (.ref l)) Q E s := by
  obtain ⟨⟨cls, dd, data, sl⟩, ho, hc, n, hd⟩ := id hl
  simp only at hc hd
  subst hc hd
  show wpAny _ A (do return .bool (← contains (.ref l) v)) Q E s
  refine wpAny_bind (wpAny_contains_slot ⟨_, ho, rfl⟩ F.slot_tuple_contains (wpAny_mono (GQ.call_here F.slot_tuple_contains ⟨_, ho, rfl⟩ F.entry_tuple_contains (F.args_tuple_contains_2 _ _) (contains_noneG (R := wants (fun v s' => v = .bool false ∧ Q (.bool false) s') E) Iv ho h0 turn fun s' q => ⟨rfl, fin s' q⟩)) (fun u s' hv => ?_) fun _ _ e => e))
  obtain ⟨rfl, hq⟩ := hv
  exact wpAny_truthy_bool (wpAny_pure hq)
end
end HNC
namespace LW
open PySem PySem.Spec PyProof.Rows L2 DW
section
variable {X : Cx} {C f : Addr} {fd : FuncData} {n : Nat}
/-- net.__eq__ of a tuple: False -/
theorem call_eqT (F : FnOk X.prog X.w X.K X.mg X.base CX0 n f fd ["self", "other"] (spEq X.K C)) (hb : Binds X.K fd ["self", "other"] []) {A : Around} (hr : Room n A) (hfr : A.frames = X.A.frames) {pins : List (Addr × Obj)} {s : Shared} {σ : L2.St} {H : Hp} {a t : Addr} {xs : List V} {D : PlainD} (I : Inv X pins σ H s) (nd : NetAt X.K C H a D) (ht : SqT X.K H t xs) (hk : PySem.W.kitOne X.K (.type "tuple") (.ref C) = some false) :
    wpAny (model X.prog X.w) A (call (.ref f) [.ref a, .ref t]) (fun v s' => v = .bool false ∧ Inv X pins σ H s') X.xe s := by
  have hsp : spEq X.K C [.ref a, .ref t] H (fun v H' => v = .bl false ∧ H' = H) E0 := ⟨a, .ref t, D, rfl, nd, .inr ⟨"tuple", tyx_tup ht, hk, rfl, rfl⟩⟩
  have e0 : Env0 X.prog X.w X.K X.mg X.base A X.stack s H := by
    have e := I.env0
    exact ⟨by rw [hfr]; exact e.frames, e.mod, e.bs, e.bsz, e.funs, e.frf, e.hok, e.bare⟩
  have r2 : Vals [V.ref a, .ref t] [Value.ref a, .ref t] := .cons rfl (.cons rfl .nil)
  refine wpAny_call (codeAny_mono (F.run A X.stack s H ⟨[.ref a, .ref t], []⟩ [.ref a, .ref t] [.ref a, .ref t] _ E0 hr e0 (by
    have := hb s [.ref a, .ref t] I.kIn rfl
    simpa using this) r2 hsp) fun r s' hq => ?_)
  rcases r with er | fl
  · exact hq.elim
  · cases fl with
    | ret w =>
      obtain ⟨z, H', I', rz, ez, ex⟩ := I.after hq
      subst ez ex
      cases rz
      exact ⟨rfl, I'⟩
    | _ => exact False.elim hq
/-- a net in a tuple of tuples: False -/
def rInN (K : PySem.W.Frag) (C : Addr) : R2 := fun x y H Q => ∃ (a t : Addr) (D : PlainD) (xs : List V), x = .ref a ∧ NetAt K C H a D ∧ y = .ref t ∧ SqT K H t xs ∧ (∀ v ∈ xs, ∃ b ys, v = V.ref b ∧ SqT K H b ys) ∧ Q (.bl false) H
theorem op_inN (F : FnOk X.prog X.w X.K X.mg X.base CX0 n f fd ["self", "other"] (spEq X.K C)) (hr : Room (n + 1) X.A) (he : PySem.W.findIn X.K (.ref C) "__eq__" = some (some (.ref f))) (hf : PySem.W.isFn X.K (.ref f) = true) (hb : Binds X.K fd ["self", "other"] []) (hk : PySem.W.kitOne X.K (.type "tuple") (.ref C) = some false) (hsub : PySem.W.subIn X.K (.ref C) (.type "tuple") = some false) : OpR X (compareOp .In) (rInN X.K C) := by
  intro pins s σ H x y v u Q I rx ry h
  obtain ⟨a, t, D, xs, rfl, nd, rfl, ht, hx, q⟩ := h
  cases rx
  cases ry
  obtain ⟨its, rv, p, hz⟩ := I.tuple ht
  refine HNC.in_noneG (fun s' => Inv X pins σ H s') p I (fun z hzm s' I' => ?_) fun s' I' => ⟨.bl false, H, I', rfl, q⟩
  obtain ⟨i, hi⟩ := List.getElem?_of_mem (by simpa using hzm : z ∈ its)
  have hl := Vals.length rv
  obtain ⟨vx, hvx⟩ : ∃ vx, xs[i]? = some vx := by
    have : i < its.length := (List.getElem?_eq_some_iff.mp hi).1
    exact ⟨xs[i], by simp [hl, this]⟩
  obtain ⟨b, ys, rfl, hys⟩ := hx vx (List.mem_of_getElem? hvx)
  obtain ⟨z', hz', rz⟩ := rv.get hvx
  rw [hi] at hz'
  cases hz'
  cases rz
  obtain ⟨its2, rv2, p2, _⟩ := I'.tuple hys
  obtain ⟨dx, _, _, _, _, _, g1, _⟩ := id nd
  obtain ⟨mA, J, _⟩ := ins_get I'.hok g1
  obtain ⟨od, J, _⟩ := J.look
  have hne : b ≠ a := by
    rintro rfl
    obtain ⟨o, ho, hc, _⟩ := p2
    have z1 := J.at_
    rw [ho] at z1
    cases z1
    have z2 := J.cls
    rw [hc] at z2
    cases z2
  refine GQ.eqBool_refG hne (HNC.rc_tupIns (by have := u70 hr.in1; omega) I'.kIn p2 J hsub he hf ?_)
  refine wpAny_mono (call_eqT F hb hr.in1 rfl I' nd hys hk) (fun v s2 hv => ?_) fun _ _ e => e
  exact ⟨hv.1, false, rfl, rfl, hv.2⟩
/-- in of anything that such a rule serves -/
theorem op_or {op : CmpOp} {r r' : R2} (h : OpR X (compareOp op) r) (h' : OpR X (compareOp op) r') : OpR X (compareOp op) (fun x y H Q => r x y H Q ∨ r' x y H Q) := by
  intro pins s σ H x y v u Q I rx ry hq
  rcases hq with hq | hq
  · exact h pins s σ H x y v u Q I rx ry hq
  · exact h' pins s σ H x y v u Q I rx ry hq
end
end LW
namespace HNC
open PySem PySem.Spec PyProof.Rows PySem.SeqAt
open AutoSeq1 (wpAny_loadPart')
open MeetsSeq MeetsSeq2 MeetsSeq3 SeqRoads2
theorem tuple_eq_declines_dict (l b : Addr) (items : Array Value) (n : Nat) (dd : Option Addr) (sl : Array (Option Value)) (ob : Obj) (hc : ob.cls = .type "dict") :
    Meets (Builtin.«tuple.__eq__» ⟨[.ref l, .ref b], []⟩) (fun _ R s => s.heap.get? l = some { cls := .type "tuple", dict := dd, data := .seq items n, slots := sl } ∧ s.heap.get? b = some ob ∧ R (.ok (.ret .notImplemented)) s) :=
  .of_wp fun prog w A R s h => by
    obtain ⟨hl, hb, h⟩ := h
    have hT : s.TypeIs (.ref b) "dict" := ⟨_, hb, hc⟩
    have hi : ∀ {A : Around} {E : Value → Shared → Prop} {Q : Bool → Shared → Prop}, Q false s → wpAny (model prog w) A (isInstance (.ref b) (.type "tuple")) Q E s := fun {A E Q} q => wpAny_isInstance hT F.sub_dict_tuple q
    obtain ⟨hp, g, d, tk, os⟩ := s
    wp_walk using hi
    exact ⟨_, rfl, h⟩
theorem dict_eq_declines_tuple (b l : Addr) (items : Array Value) (n : Nat) (dd : Option Addr) (sl : Array (Option Value)) (ob : Obj) (hc : ob.cls = .type "dict") :
    Meets (Builtin.«dict.__eq__» ⟨[.ref b, .ref l], []⟩) (fun _ R s => s.heap.get? b = some ob ∧ s.heap.get? l = some { cls := .type "tuple", dict := dd, data := .seq items n, slots := sl } ∧ R (.ok (.ret .notImplemented)) s) :=
  .of_wp fun prog w A R s h => by
    obtain ⟨hb, hl, h⟩ := h
    have hT : s.TypeIs (.ref l) "tuple" := ⟨_, hl, rfl⟩
    have hi : ∀ {A : Around} {E : Value → Shared → Prop} {Q : Bool → Shared → Prop}, Q false s → wpAny (model prog w) A (isInstance (.ref l) (.type "dict")) Q E s := fun {A E Q} q => wpAny_isInstance hT F.sub_tuple_dict q
    obtain ⟨hp, g, d, tk, os⟩ := s
    wp_walk using hi
    exact ⟨_, rfl, h⟩
section
variable {A : Around} {s : Shared}
theorem eqAt_tuple_dict {l b : Addr} {items : Array Value} {ob : Obj} (hl : s.heap.IsTuple l items) (hb : s.heap.get? b = some ob) (hc : ob.cls = .type "dict") (hu : A.units < cLine) : EqAt A s (.ref l) (.ref b) false := by
  have hne : l ≠ b := by
    rintro rfl
    obtain ⟨o, ho, h2, _⟩ := hl
    rw [hb] at ho
    cases ho
    rw [hc] at h2
    exact absurd h2 (by simp)
  refine .of_refs hne fun prog w E Q h => ?_
  obtain ⟨⟨cls, dd, data, sl⟩, ho, hc1, n, hd⟩ := id hl
  simp only at hc1 hd
  subst hc1 hd
  exact (rc_eq_decline_or (k := false) ⟨_, ho, rfl⟩ ⟨_, hb, hc⟩ (by decide) F.sub_dict_tuple F.slot_tuple_eq F.slot_dict_eq_refl
    (fun _ hq => call_meets F.slot_tuple_eq ⟨_, ho, rfl⟩ F.entry_tuple_eq (F.args_tuple_eq_2 _ _) (tuple_eq_declines_dict l b items n dd sl ob hc) ⟨ho, hb, hq⟩)
    (fun _ hq => call_meets F.slot_dict_eq_refl ⟨_, hb, hc⟩ F.entry_dict_eq (F.args_dict_eq_2 _ _) (dict_eq_declines_tuple b l items n dd sl ob hc) ⟨hb, ho, hq⟩)
    (fun _ hq => wpAny_isSame_ref_other' hne ho hb (by rw [hc]; simp) hq) (.inr hu) h)
theorem eqAt_two_one {l b c : Addr} {x y : Str} {t u : Tok} {ci : Array Value} (hl : s.heap.IsTuple l #[.str x t, .str y u]) (hb : s.heap.IsTuple b #[.ref c]) (hc : s.heap.IsTuple c ci) (hu : A.units + 1 < cLine) : EqAt A s (.ref l) (.ref b) false := by
  have hne : l ≠ b := by
    rintro rfl
    obtain ⟨o, ho, _, n, h2⟩ := hl
    obtain ⟨o2, ho2, _, n2, h3⟩ := hb
    rw [ho] at ho2
    cases ho2
    rw [h2] at h3
    simp at h3
  refine .of_refs hne fun prog w E Q h => ?_
  obtain ⟨⟨cls, dd, data, sl⟩, ho, hc1, n, hd⟩ := id hl
  obtain ⟨⟨cls2, dd2, data2, sl2⟩, ho2, hc2, n2, hd2⟩ := id hb
  simp only at hc1 hd hc2 hd2
  subst hc1 hd hc2 hd2
  refine wpAny_richCompare_same_room (op := .Eq) ⟨_, ho, rfl⟩ ⟨_, ho2, rfl⟩ F.slot_tuple_eq (call_meets F.slot_tuple_eq ⟨_, ho, rfl⟩ F.entry_tuple_eq (F.args_tuple_eq_2 _ _) (tuple_eqAt l b _ _ n n2 dd dd2 sl sl2 fun _ => false) ⟨ho, ho2, fun j h1 h2 => ?_, ?_⟩) (Nat.lt_of_succ_lt hu)
  · have e : j = 0 := by simp at h2; omega
    subst e
    exact EqAt.str_tuple x t hc hu
  · exact ⟨(fun z => nomatch z), h⟩
end
end HNC
namespace LW
open PySem PySem.Spec PyProof.Rows L2 DW
section
variable {X : Cx}
/-- a dict, or a tuple of one tuple, in a tuple of pairs of texts: False -/
def rInX (K : PySem.W.Frag) : R2 := fun x y H Q => ∃ t xs, y = .ref t ∧ SqT K H t xs ∧ (∀ v ∈ xs, ∃ b s1 s2, v = V.ref b ∧ SqT K H b [.str s1, .str s2]) ∧ ((∃ a kvs, x = .ref a ∧ H a = some (.dK kvs)) ∨ ∃ a b ys, x = .ref a ∧ SqT K H a [.ref b] ∧ SqT K H b ys) ∧ Q (.bl false) H
theorem op_inX (hu : X.A.units + 70 < cLine) : OpR X (compareOp .In) (rInX X.K) := by
  intro pins s σ H x y v u Q I rx ry h
  obtain ⟨t, xs, rfl, ht, hx, hc, q⟩ := h
  cases ry
  obtain ⟨its, rv, p, hz⟩ := I.tuple ht
  have hl := Vals.length rv
  have hin : X.A.in1.units + 1 < cLine := by
    have : X.A.in1.units ≤ X.A.units + 64 := by
      first | exact Nat.le_refl _ | (show X.A.units + _ ≤ _; omega)
    omega
  refine SeqAt.in_tupleAt (fun _ => false) p (fun z hzm => ?_) ?_
  · obtain ⟨i, hi⟩ := List.getElem?_of_mem (by simpa using hzm : z ∈ its)
    obtain ⟨vx, hvx⟩ : ∃ vx, xs[i]? = some vx := by
      have : i < its.length := (List.getElem?_eq_some_iff.mp hi).1
      exact ⟨xs[i], by simp [hl, this]⟩
    obtain ⟨b, s1, s2, rfl, hys⟩ := hx vx (List.mem_of_getElem? hvx)
    obtain ⟨z', hz', rz⟩ := rv.get hvx
    rw [hi] at hz'
    cases hz'
    cases rz
    obtain ⟨its2, rv2, p2, _⟩ := I.tuple hys
    rcases hc with ⟨a, kvs, rfl, ha⟩ | ⟨a, c, ys, rfl, ha, hcc⟩
    · cases rx
      obtain ⟨_, hs, vs, rel, o, es, ep, ho, hx', hd, _, hp, _⟩ := (show ObjOk X.prog X.w H s.heap a (.dK _) from I.hok a _ ha)
      exact HNC.eqAt_tuple_dict p2 ho hx'.1 (Nat.lt_of_succ_lt hin)
    · cases rx
      obtain ⟨its3, rv3, p3, _⟩ := I.tuple ha
      obtain ⟨its4, rv4, p4, _⟩ := I.tuple hcc
      cases rv2 with
      | cons r1 r2 => cases r2 with
        | cons r2 r3 =>
          cases r3
          obtain ⟨t1, rfl⟩ := r1
          obtain ⟨t2, rfl⟩ := r2
          cases rv3 with
          | cons r4 r5 =>
            cases r5
            cases r4
            exact HNC.eqAt_two_one p2 p3 p4 hin
  · have e : its.toArray.any (fun _ => false) = false := by simp
    rw [e]
    exact ⟨.bl false, H, I, rfl, q⟩
end
end LW
namespace LW
open PySem PySem.Spec PyProof.Rows L2 DW
section
variable {P : Program} {w : World} {K : PySem.W.Frag} {mg : Str → Option Value} {base : Heap}
/-- a value that is no told word -/
def WordN (K : PySem.W.Frag) (C : Addr) (H : Hp) (v : V) : Prop := (∃ d, Dd K H v d ∧ SeqAt.shaped d = true ∧ pairS d = false) ∨ ((∃ a kvs, v = .ref a ∧ H a = some (.dK kvs)) ∨ ∃ a b ys, v = .ref a ∧ SqT K H a [.ref b] ∧ SqT K H b ys) ∨ ∃ a D, v = .ref a ∧ NetAt K C H a D
theorem WordN.same {C : Addr} {H H' : Hp} {v : V} (s : Same H H') (h : WordN K C H v) : WordN K C H' v := by
  rcases h with ⟨d, hd, e⟩ | (⟨a, kvs, e, g⟩ | ⟨a, b, ys, e, g1, g2⟩) | ⟨a, D, e, n⟩
  · exact .inl ⟨d, dd_same s hd, e⟩
  · exact .inr (.inl (.inl ⟨a, kvs, e, s _ _ g⟩))
  · exact .inr (.inl (.inr ⟨a, b, ys, e, sqT_same s g1, sqT_same s g2⟩))
  · exact .inr (.inr ⟨a, D, e, n.same s⟩)
theorem scTd : FnScope ["net", "value"] ["net", "value"] (defScope s_is_told) := ⟨rfl, rfl, rfl, by decide +kernel, rfl, by decide +kernel, by decide +kernel⟩
structure EqK (P : Program) (w : World) (K : PySem.W.Frag) (mg : Str → Option Value) (base : Heap) (C f : Addr) (fd : FuncData) : Prop where
  G : FnOk P w K mg base CX0 1 f fd ["self", "other"] (spEq K C)
  e : PySem.W.findIn K (.ref C) "__eq__" = some (some (.ref f))
  fn : PySem.W.isFn K (.ref f) = true
  b : Binds K fd ["self", "other"] []
  k : PySem.W.kitOne K (.type "tuple") (.ref C) = some false
  s : PySem.W.subIn K (.ref C) (.type "tuple") = some false
def spTdE (K : PySem.W.Frag) (C CE : Addr) : Sp := fun vs H Q E => ∃ n v, vs = [n, v] ∧ ((NotNet K C H n ∧ ∀ H', Same H H' → E (.ref CE) none H') ∨ (∃ x D, n = .ref x ∧ NetAt K C H x D ∧ OkN D ∧ WordN K C H v ∧ ∀ H', Same H H' → Q (.bl false) H'))
theorem ok_tdE {f fN fE pT gT C CE : Addr} {fd dN dE dT : FuncData} (F : Fun K "is_told" "is_told" s_is_told f fd) (CN : CalR P w K mg base 1 "need_net" ["value"] (spNNE K C CE) fN dN) (PT : PropK P w K mg base C "told" (rTold K) pT gT dT) (EQ : EqK P w K mg base C fE dE) (N : NetK K C) :
    FnOk P w K mg base (L2.CX P w) 4 f fd ["net", "value"] (spTdE K C CE) := by
  refine F.okX scTd (fun vs H Q E h => ?_) (fun cdv A outer s H vs Q E hr h => ?_)
  · obtain ⟨n, v, rfl, _⟩ := h
    rfl
  obtain ⟨n, v, rfl, h⟩ := h
  refine ⟨_, pss_cons (ps_expr (pe_calR (E := E) CN hr (takes_of rfl rfl rfl rfl) rfl (pa_cons (pv 0) pa_nil)))
    (pss_one (ps_ret (pe_cmpR (op_or (op_inT (u65 hr)) (op_or (op_inX (u70 hr)) (op_inN EQ.G (Room.mono hr (by decide)) EQ.e EQ.fn EQ.b EQ.k EQ.s))) (pv 1) (pe_pr PT N.c (Room.mono hr (by decide)) (pv 0)) (by rfl)))), ?_⟩
  refine ⟨_, rfl, n, rfl, ?_⟩
  rcases h with ⟨nn, kE⟩ | ⟨x, D, rfl, net, ok, wn, k⟩
  · exact .inr ⟨nn, kE⟩
  obtain ⟨dx, la, wa, ba, ea, ra, h1, _⟩ := id net
  refine .inl ⟨x, rfl, net.ins, _, rfl, _, rfl, x, dx, _, rfl, h1, x, D, rfl, net, ok, fun u H1 s1 r => ?_⟩
  obtain ⟨t, bs, rfl, nt, ht, pr⟩ := r
  have pr1 : Paired (fun (b : Addr) (r : RowP) => H1 b = some (.tup [.str r.1.1, .str r.1.2])) bs (toldR D) := pr.mono fun _ _ e => s1 _ _ e
  have prs : ∀ v ∈ bs.map V.ref, ∃ b s1 s2, v = V.ref b ∧ SqT K H1 b [.str s1, .str s2] := fun v hv => by
    obtain ⟨b, hb, rfl⟩ := List.mem_map.mp hv
    obtain ⟨i, hi⟩ := List.getElem?_of_mem hb
    obtain ⟨r, _, e⟩ := pairedAt pr1 hi
    exact ⟨b, _, _, rfl, SqT.of e⟩
  rcases wn with ⟨d, hd, sh, pf⟩ | wn | ⟨a, D', rfl, nt'⟩
  rotate_left
  · refine .inr (.inl ⟨t, _, rfl, SqT.of ht, prs, ?_, k H1 s1⟩)
    rcases wn with ⟨a, kvs, rfl, g⟩ | ⟨a, b, ys, rfl, g1, g2⟩
    · exact .inl ⟨a, kvs, rfl, s1 _ _ g⟩
    · exact .inr ⟨a, b, ys, rfl, sqT_same s1 g1, sqT_same s1 g2⟩
  rotate_left
  · refine .inl ⟨d, _, dd_same s1 hd, .tup (SqT.of ht) (dp_words pr1), sh, words_sh _ (words_sok ok), ?_⟩
    have e : ((toldR D).map fun r => wrdD r.1).any (fun z => PyData.eqv z d) = false := by
      rw [List.any_eq_false]
      intro z hz
      obtain ⟨r, hr', rfl⟩ := List.mem_map.mp hz
      rw [eqv_wrd (a := r.1.1) (b := r.1.2) pf]
      decide
    rw [if_neg (by decide), e]
    exact k H1 s1
  · refine .inr (.inr ⟨a, t, D', _, rfl, nt'.same s1, rfl, SqT.of ht, fun v hv => ?_, k H1 s1⟩)
    obtain ⟨b, hb, rfl⟩ := List.mem_map.mp hv
    obtain ⟨i, hi⟩ := List.getElem?_of_mem hb
    obtain ⟨r, _, e⟩ := pairedAt pr1 hi
    exact ⟨b, _, rfl, SqT.of e⟩
end
end LW
namespace DW
open PySem PySem.Spec PyProof.Rows L2 LamX
/-! ### all but the dice and the tables stays -/
def ButN (D : Addr) (H H' : Hp) : Prop := ∀ b o, b ≠ D → H b = some o → (∀ ps, o ≠ .tbl ps) → H' b = some o
theorem ButN.refl {D : Addr} {H : Hp} : ButN D H H := fun _ _ _ e _ => e
theorem ButN.trans {D : Addr} {H H1 H2 : Hp} (x : ButN D H H1) (y : ButN D H1 H2) : ButN D H H2 := fun b o n e t => y b o n (x b o n e t) t
theorem ExtN.butN {D : Addr} {H H' : Hp} (x : ExtN H H') : ButN D H H' := fun b o _ e t => x b o e t
theorem sqL_ext {K : PySem.W.Frag} {H H' : Hp} {a : Addr} {xs : List V} (s : ExtN H H') (h : SqL K H a xs) : SqL K H' a xs := by
  rcases h with (e | ⟨o, e⟩) | h
  · exact .inl (.inl (s _ _ e fun _ z => nomatch z))
  · exact .inl (.inr ⟨o, s _ _ e fun _ z => nomatch z⟩)
  · exact .inr h
theorem sqT_ext {K : PySem.W.Frag} {H H' : Hp} {a : Addr} {xs : List V} (s : ExtN H H') (h : SqT K H a xs) : SqT K H' a xs := by
  rcases h with (e | ⟨o, e⟩) | h
  · exact .inl (.inl (s _ _ e fun _ z => nomatch z))
  · exact .inl (.inr ⟨o, s _ _ e fun _ z => nomatch z⟩)
  · exact .inr h
mutual
theorem Dp.ext {K : PySem.W.Frag} {H H' : Hp} (s : ExtN H H') : ∀ {v : V} {d : PyData}, Dp K H v d → Dp K H' v d
  | _, _, .non => .non
  | _, _, .bl b => .bl b
  | _, _, .int i => .int i
  | _, _, .str x => .str x
  | _, _, .lst h a => .lst (sqL_ext s h) (DpAll.ext s a)
  | _, _, .tup h a => .tup (sqT_ext s h) (DpAll.ext s a)
theorem DpAll.ext {K : PySem.W.Frag} {H H' : Hp} (s : ExtN H H') : ∀ {vs : List V} {ds : List PyData}, DpAll K H vs ds → DpAll K H' vs ds
  | _, _, .nil => .nil
  | _, _, .cons a b => .cons (Dp.ext s a) (DpAll.ext s b)
end
theorem Dd.ext {K : PySem.W.Frag} {H H' : Hp} {v : V} {d : PyData} (s : ExtN H H') (h : Dd K H v d) : Dd K H' v d := by
  cases h with
  | base h n => exact .base (Dp.ext s h) n
  | dct h => exact .dct (s _ _ h fun _ z => nomatch z)
theorem Same.extN {H H' : Hp} (s : Same H H') : ExtN H H' := fun b o e _ => s b o e
theorem Tabs.same {T : List (Addr × Str)} {H H' : Hp} (t : Tabs T H) (s : Same H H') : Tabs T H' := t.ext fun b o e => s b o e
end DW
namespace LW
open PySem PySem.Spec PyProof.Rows L2 DW LamX
theorem But.butN {D : Addr} {H H' : Hp} (b : But D H H') : ButN D H H' := fun c o n e _ => b c o n e
theorem tabs_but {T : List (Addr × Str)} {H H' : Hp} {D : Addr} (hD : Dc H D) (b : But D H H') (t : Tabs T H) : Tabs T H' := fun p hp => by
  obtain ⟨d0, d1, d2, eD⟩ := hD
  have ne : ∀ {c : Addr} {o : HO}, H c = some o → (∀ xs, o ≠ .lst xs) → c ≠ D := fun e n z => by rw [z, eD] at e; cases e; exact n _ rfl
  obtain ⟨ps, h1, h2, h3⟩ := t p hp
  refine ⟨ps, b _ _ (ne h1 fun xs z => nomatch z) h1, h2, fun pos cv hc => ?_⟩
  obtain ⟨c, e1, e2⟩ := h3 pos cv hc
  refine ⟨c, e1, b _ _ (ne e2 fun xs z => ?_) e2⟩
  unfold CodeO at z
  cases z
theorem Dc.ext {H H' : Hp} {D : Addr} (s : ExtN H H') (h : Dc H D) : Dc H' D := by
  obtain ⟨a, b, c, e⟩ := h
  exact ⟨a, b, c, s _ _ e fun _ z => nomatch z⟩
end LW
namespace DW
open PySem PySem.Spec PyProof.Rows L2
section
variable {P : Program} {w : World} {K : PySem.W.Frag} {mg : Str → Option Value} {base : Heap}
/-- as fng, and the body is told where its code object stands -/
theorem fngL {x qual : Str} {st : Stmt} {f : Addr} {fd : FuncData} {N ps : List Str} {k : Nat} {sp : Sp} (F : Fun K x qual st f fd) (S : FnScope N ps (defScope st)) (len : ∀ vs H Q, sp vs H Q E0 → vs.length = ps.length)
    (hbody : ∀ (cdv : Value) (A : Around) (outer : List Env) (s : Shared) (H : Hp) (vs : List V) (Q : VK), (∃ oc od kV doc pm an ct osl, K.lookup f = some ⟨oc, od, .func (PySem.W.fnOf x qual (defArgs st) (defBody st) (defScope st) .none kV doc pm an cdv ct), osl⟩) →
      Room k (A.deeper (envOfC qual (defScope st) s.heap.objs.size f cdv)) → A.guards = some [] → sp vs H Q E0 →
      ∃ t, PSs (cxOf CX0 P w K mg base N qual (defScope st) f cdv A outer s H E0).nox (defBody st) t ∧ t { nx := fun _ H' => Q .non H', rt := Q } (start N vs) H) : FnG P w K mg base (k + 1) f fd ps sp := by
  obtain ⟨oc, od, kV, doc, pm, an, cdv, ct, osl, rfl, lk, hcd⟩ := F.ex
  refine ⟨len, fun A outer s H args us vs Q hr hg env0 hb r hsp => ?_⟩
  have inK : K.In s.heap := env0.mod.kin.keeps fun a o q => (env0.bs a o q).1
  have lim : s.heap.NoLimit := env0.mod.nolimit.keeps fun a o q => (env0.bs a o q).1
  have hk : ∀ y ∈ ps.zip us, (defScope st).names.lookup y.1 = some .local ∨ ((defScope st).names.lookup y.1 = some .cell ∧ ((cellsFrom (s.heap.objs.size + 1) (defScope st).names []).lookup y.1).isSome = true) := fun ⟨n, v⟩ hy => by
    rcases S.par n (List.of_mem_zip hy).1 with q | q
    · exact Or.inl q
    · exact Or.inr ⟨q, PySem.W.cellsFrom_some _ _ _ (Or.inl q)⟩
  refine codeAny_call_function hr.depth (inK _ _ lk) rfl S.co S.gen rfl (PySem.W.codeRec_of inK hcd) (hb _ _ _ _ (wpAny_newFunctionEnv_cells S.kind hk fun env he s1 x => ?_))
  subst he
  refine ⟨lim.keeps x.toInCall.keep, codeAny_func ?_⟩
  obtain ⟨t, ht, hq⟩ := hbody cdv A outer s H vs Q ⟨oc, od, kV, doc, pm, an, ct, osl, lk⟩ (hr.deeper _) hg hsp
  have I0 : Inv (cxOf CX0 P w K mg base N qual (defScope st) f cdv A outer s H E0) [] (start N vs) H s1 := inv_start S hr.hd env0 (len _ _ _ hsp) r x
  refine wpAny_mono (ht.nox.run [] s1 (start N vs) H _ I0 hq) (fun fl s' hs => ?_) fun e s' z => z
  cases fl with
  | ret u => obtain ⟨v, σ', H', J, rv, q⟩ := hs; exact ⟨v, H', J.os, J.bare, J.base, J.hok, rv, q⟩
  | next => obtain ⟨σ', H', J, q⟩ := hs; exact ⟨V.non, H', J.os, J.bare, J.base, J.hok, rfl, q⟩
  | brk => obtain ⟨_, _, _, q⟩ := hs; exact q.elim
  | cont => obtain ⟨_, _, _, q⟩ := hs; exact q.elim
end
end DW
namespace LW
open PySem PySem.Spec PyProof.Rows L2 DW LamX
/-- what is known of the table of the def's code object -/
structure TkS (K : PySem.W.Frag) (base : Heap) (mg : Str → Option Value) (T : List (Addr × Str)) (x qual : Str) (st : Stmt) (f c Pt : Addr) : Prop where
  tb : TabB base mg c Pt
  mem : (Pt, qual ++ ".<locals>." ++ "<lambda>") ∈ T
  un : ∀ p ∈ T, p.1 = Pt → p.2 = qual ++ ".<locals>." ++ "<lambda>"
  code : ∀ oc od kV doc pm an cdv ct osl, K.lookup f = some ⟨oc, od, .func (PySem.W.fnOf x qual (defArgs st) (defBody st) (defScope st) .none kV doc pm an cdv ct), osl⟩ → cdv = .ref c
theorem Cp.ext {H H' : Hp} {v : V} {d : PyData} (s : ExtN H H') (h : Cp H v d) : Cp H' v d := h.keep fun b o p e => s b o e fun ps z => by rw [z] at p; cases p
end LW
namespace LW
open PySem PySem.Spec PyProof.Rows L2 DW LamX
/-- the word for an error: net, row, operation -/
def eWd (K : PySem.W.Frag) (CE CW CO : Addr) (Q : VK) : XK := fun cls d H => ∃ b1, PySem.W.exmOne K cls (.ref CE) = some b1 ∧ (b1 = true → Q (.str "net") H) ∧ (b1 = false →
  ∃ b2, PySem.W.exmOne K cls (.ref CW) = some b2 ∧ (b2 = true → Q (.str "row") H) ∧ (b2 = false → PySem.W.exmOne K cls (.ref CO) = some true ∧ Q (.str "operation") H))
def TWd (K : PySem.W.Frag) (CE CW CO : Addr) : (XK → Hp → VK → Prop) → Hp → VK → Prop := fun tl H Q => tl (eWd K CE CW CO Q) H fun _ H1 => Q (.str "none") H1
theorem scWd : FnScope ["call"] ["call"] (defScope s_law_word) := ⟨rfl, rfl, rfl, by decide +kernel, rfl, by decide +kernel, by decide +kernel⟩
abbrev cxWd (X : Cx) (g : Addr) (cdg : Value) (s : Shared) (H : Hp) : Cx := (cxOf C8.CX0 X.prog X.w X.K X.mg X.base ["call"] "_law_word" (defScope s_law_word) g cdg X.A X.stack s H C8.E0).nox
theorem wd_gives {X : Cx} {g CE CW CO CY : Addr} {cdg : Value} {q : Str} (hE : X.mg "InvalidNet" = some (.ref CE)) (hW : X.mg "InvalidRow" = some (.ref CW)) (hO : X.mg "InvalidOperation" = some (.ref CO)) (hY : X.mg "DayError" = some (.ref CY)) :
    GivesTo X ["call"] "_law_word" (defScope s_law_word) g cdg (defBody s_law_word) "call" q (TWd X.K CE CW CO) := by
  intro f c' s H Q tl act hc h
  refine ⟨_, pss_cons (ps_try_mix (X := cxWd X g cdg s H) (Wout := fun _ _ _ _ => False)
      (tb := fun W D σ H => ∃ Ech : XK, (∀ cls d σ' H', Ech cls d H' → W cls d σ' H') ∧ σ[0]? = some (some (.ref f)) ∧ H c' = some (CodeO c' q) ∧ tl Ech H fun _ H1 => D.nx σ H1)
      rfl rfl LamX.takes0 (fun W pn xe tk _ => ?_)
      (.bare (c := .ref CE) ⟨rfl, by decide, .inl hE⟩ (fun a oe cls d pn _ _ => pss_one (ps_ret pe_str))
      (.bare (c := .ref CW) ⟨rfl, by decide, .inl hW⟩ (fun a oe cls d pn _ _ => pss_one (ps_ret pe_str))
      (.bare (c := .ref CO) ⟨rfl, by decide, .inl hO⟩ (fun a oe cls d pn _ _ => pss_one (ps_ret pe_str))
      (.bare (c := .ref CY) ⟨rfl, by decide, .inl hY⟩ (fun a oe cls d pn _ _ => pss_one (ps_ret pe_str)) .nil)))))
    (pss_one (ps_ret pe_str)), ?_⟩
  · refine ⟨fun pins s' σ H' D I h' => ?_⟩
    obtain ⟨Ech, hW, h1, h2, h3⟩ := h'
    exact (pss_one (ps_expr (act W pn xe Ech _ _ tk hW))).run pins s' σ H' D I ⟨h1, h2, h3⟩
  · refine ⟨eWd X.K CE CW CO Q, fun cls d σ' H' hw => ?_, rfl, hc, h⟩
    obtain ⟨b1, e1, y1, n1⟩ := hw
    refine ⟨b1, e1, fun hb a na => y1 hb, fun hb => ?_⟩
    obtain ⟨b2, e2, y2, n2⟩ := n1 hb
    refine ⟨b2, e2, fun hb a na => y2 hb, fun hb => ?_⟩
    obtain ⟨e3, y3⟩ := n2 hb
    exact ⟨true, e3, fun _ a na => y3, fun z => by cases z⟩
/-- how the errors stand to one another -/
structure ExW (K : PySem.W.Frag) (CE CW CO : Addr) : Prop where
  ee : PySem.W.exmOne K (.ref CE) (.ref CE) = some true
  we : PySem.W.exmOne K (.ref CW) (.ref CE) = some false
  ww : PySem.W.exmOne K (.ref CW) (.ref CW) = some true
  oe : PySem.W.exmOne K (.ref CO) (.ref CE) = some false
  ow : PySem.W.exmOne K (.ref CO) (.ref CW) = some false
  oo : PySem.W.exmOne K (.ref CO) (.ref CO) = some true
section
variable {K : PySem.W.Frag} {CE CW CO : Addr} {T : List (Addr × Str)} {σ : L2.St} {H : Hp} {Q : VK}
theorem ExW.e (ex : ExW K CE CW CO) {R : VK} {G : Hp} (q : R (.str "net") G) : eWd K CE CW CO R (.ref CE) none G := ⟨true, ex.ee, (fun _ => q), fun z => by cases z⟩
theorem ExW.w (ex : ExW K CE CW CO) {R : VK} {G : Hp} (q : R (.str "row") G) : eWd K CE CW CO R (.ref CW) none G := ⟨false, ex.we, (fun z => by cases z), fun _ => ⟨true, ex.ww, (fun _ => q), fun z => by cases z⟩⟩
theorem ExW.o (ex : ExW K CE CW CO) {R : VK} {G : Hp} (q : R (.str "operation") G) : eWd K CE CW CO R (.ref CO) none G := ⟨false, ex.oe, (fun z => by cases z), fun _ => ⟨false, ex.ow, (fun z => by cases z), fun _ => ⟨ex.oo, q⟩⟩⟩
end
structure WdK (P : Program) (w : World) (K : PySem.W.Frag) (mg : Str → Option Value) (base : Heap) (CE CW CO f : Addr) (fd : FuncData) : Prop where
  F : Fun K "_law_word" "_law_word" s_law_word f fd
  kp : PySem.W.keepIn K (.ref f) = true
  b : Binds K fd ["call"] []
  g : mg "_law_word" = some (.ref f)
  hE : mg "InvalidNet" = some (.ref CE)
  hW : mg "InvalidRow" = some (.ref CW)
  hO : mg "InvalidOperation" = some (.ref CO)
  hY : ∃ CY : Addr, mg "DayError" = some (.ref CY)
end LW
namespace LW
open PySem PySem.Spec PyProof.Rows L2 DW
theorem wk_sort {N : PlainD} (ok : OkN N) (z : Str) : wkO (sortN N) z = wkO N z := endW_sort ok.w z
theorem look_sort {N : PlainD} (ok : OkN N) (n : Str) : look (sortN N).W n = look N.W n := (srtR_look ok.w.nd n)
theorem pl_roll {K : PySem.W.Frag} {H H' : Hp} {D pl : Addr} {N : PlainD} (hD : Dc H D) (b : But D H H') (n : pl ≠ D) (h : PlainAt K H pl N) : PlainAt K H' pl N := by
  obtain ⟨a, c, e, h1, h2, h3, h4⟩ := h
  exact ⟨a, c, e, b _ _ n h1, td_roll ge_in hD b h2, td_roll ge_wk hD b h3, td_roll ge_bd hD b h4⟩
theorem but_tup {H H' : Hp} {D t : Addr} {xs : List V} (hD : Dc H D) (b : But D H H') (h : H t = some (.tup xs)) : H' t = some (.tup xs) := by
  obtain ⟨d0, d1, d2, e⟩ := hD
  exact b _ _ (ne_of h e (fun z => nomatch z)) h
abbrev nmC (N : PlainD) : List Str := ("dawn" : Str) :: srt (N.L.map (·.1))
abbrev wkC (N : PlainD) : List Str := srt (N.W.map (·.1))
theorem nm_known {N : PlainD} : ∀ z ∈ nmC N, knownB N.L z = true := fun z m => by
  unfold knownB
  rcases List.mem_cons.mp m with rfl | m
  · rfl
  · rw [decide_eq_true (srt_mem.mp m), Bool.or_true]
theorem know_sort {N : PlainD} (ok : OkN N) (z : Str) : knownB (sortN N).L z = knownB N.L z := knownB_sort ok.l.nd z
theorem row_b {N : PlainD} (ok : OkN N) {a b : Str} {n : Int} (ha : knownB N.L a = true) (hb : knownB N.L b = true) (hn : 1 - 10 ^ 40 ≤ n ∧ n ≤ 10 ^ 40 - 1) : RowOk (sortN N) (kBound, a, b, n) := ⟨(know_sort ok a).trans ha, hn, .inl ⟨rfl, (know_sort ok b).trans hb⟩⟩
theorem row_w {N : PlainD} (ok : OkN N) {a n : Str} {y : WkT} {i : Int} (ha : knownB N.L a = true) (ly : look N.W n = some y) (ne : a ≠ y.2.1) (hn : 1 - 10 ^ 40 ≤ i ∧ i ≤ 10 ^ 40 - 1) : RowOk (sortN N) (kWait, a, n, i) := ⟨(know_sort ok a).trans ha, hn, .inr ⟨rfl, ⟨y, by rw [look_sort ok]; exact ly⟩, fun z => by
  rw [wk_sort ok] at z
  obtain ⟨y2, ly2, e2, _⟩ := wkO_look ok z
  have ly : look N.W n = some y := ly
  rw [ly] at ly2
  cases ly2
  exact ne e2.symm⟩⟩
section
variable {P : Program} {w : World} {K : PySem.W.Frag} {mg : Str → Option Value} {base : Heap}
abbrev arN : List Str := ["dice", "plain", "names", "number", "work", "name"]
theorem scAr : FnScope arN ["dice", "plain"] (defScope s_law_a_row) := ⟨rfl, rfl, rfl, by decide +kernel, rfl, by decide +kernel, by decide +kernel⟩
def spAr (K : PySem.W.Frag) : Sp := fun vs H Q _ => ∃ (D pl : Addr) (N : PlainD), vs = [.ref D, .ref pl] ∧ Dc H D ∧ pl ≠ D ∧ PlainAt K H pl N ∧ OkN N ∧ N.W ≠ [] ∧ ∀ t r H', But D H H' → Dc H' D → H' t = some (.tup (r4V r)) → RowOk (sortN N) r → Q (.ref t) H'
theorem ok_ar {f fR fP : Addr} {fd dR dP : FuncData} (F : Fun K "_law_a_row" "_law_a_row" s_law_a_row f fd) (CR : Cal P w K mg base 1 "_law_roll" ["dice", "total"] spRoll fR dR) (CP : Cal P w K mg base 2 "_law_pick" ["dice", "items"] (spPick K) fP dP)
    (zS : mg "sorted" = none) : FnOk P w K mg base CX0 3 f fd ["dice", "plain"] (spAr K) := by
  refine F.ok scAr (fun vs H Q E h => ?_) (fun cdv A outer s H vs Q E hr h => ?_)
  · obtain ⟨D, pl, N, rfl, _⟩ := h
    rfl
  obtain ⟨D, pl, N, rfl, hD, npl, plain, ok, Wne, k⟩ := h
  refine ⟨_, C8.pss_cut (ps_par (i := 2) (j := 3) rfl scAr.nd rfl rfl (by decide) rfl rfl (pa_cons (pe_op op_cat (pe_lst (pa_cons pe_str pa_nil)) (pe_callB (cr_srtL rfl hr.units) (by rfl) zS (by decide +kernel) (pa_cons (pe_ix (r := rIxL K) ix_list (pv 1) pe_int (fun _ _ => rfl)) pa_nil))) (pa_cons (pe_op op_sub (pe_cal (E := E0) CR (Room.mono hr (by decide)) rfl (pa_cons (pv 0) (pa_cons pe_int pa_nil)) (Nat.le_refl _)) pe_int) pa_nil)) (by rfl))
    (C8.pss_cut (ps_set (i := 4) scAr.nd rfl (Or.inr rfl) (pe_cal (E := E0) CP hr rfl (pa_cons (pv 0) (pa_cons (pe_callB (cr_srtL rfl hr.units) (by rfl) zS (by decide +kernel) (pa_cons (pe_ix (r := rIxL K) ix_list (pv 1) pe_int (fun _ _ => rfl)) pa_nil)) pa_nil))))
    (C8.pss_cut (ps_if (pt_cmpR op_eq (pe_cal (E := E0) CR (Room.mono hr (by decide)) rfl (pa_cons (pv 0) (pa_cons pe_int pa_nil)) (Nat.le_refl _)) pe_int (nomark _))
        (pss_one (ps_ret (pe_tup (pa_cons pe_str (pa_cons (pe_cal (E := E0) CP hr rfl (pa_cons (pv 0) (pa_cons (pv 2) pa_nil))) (pa_cons (pe_cal (E := E0) CP hr rfl (pa_cons (pv 0) (pa_cons (pv 2) pa_nil))) (pa_cons (pv 3) pa_nil))))))) pss_nil)
    (pss_one (ps_ret (pe_tup (pa_cons pe_str (pa_cons (pe_cal (E := E0) CP hr rfl (pa_cons (pv 0) (pa_cons (pe_lc (own := [("name", 5)]) (g := gName 5) (tt := tTest (tOp rNe (tVar 5) (tOp (rIxT K) (tDGet (tOp (rIxL K) (tVar 1) (tC (.int 1))) (tVar 4)) (tC (.int 1))))) (te := tVar 5) rfl scAr.nd (pi_list (pv 2)) (blkOk_by (own := [("name", 5)]) (N := arN) (sc := defScope s_law_a_row) (by decide +kernel))
        (fun _ _ _ _ _ => pg_name (i := 5) scAr.nd rfl (Or.inl rfl)) (fun _ _ _ _ _ => pts_one (pt_cmpR op_ne (pv 5) (pe_ix (r := rIxT K) ix_tup (pe_dget (hu_of hr) (pe_ix (r := rIxL K) ix_list (pv 1) pe_int (fun _ _ => rfl)) (pv 4) (fun _ _ => rfl)) pe_int (fun _ _ => rfl)) (nomark _))) (fun _ _ _ _ _ => pv 5)) pa_nil))) (pa_cons (pv 4) (pa_cons (pv 3) pa_nil))))))))), ?_⟩
  have l1 := ok.l.len
  have l2 := ok.w.len
  have lnm : (nmC N).length ≤ 201 := by show (srt _).length + 1 ≤ _; rw [srt_len, List.length_map]; omega
  -- names, number
  refine ⟨fun σ' H' => ∃ (nl : Addr) (i : Int), σ' = [some (.ref D), some (.ref pl), some (.ref nl), some (.int i), none, none] ∧ -4 ≤ i ∧ i ≤ 4 ∧ But D H H' ∧ Dc H' D ∧ nl ≠ D ∧ H' nl = some (.lst ((nmC N).map V.str)), ?_, ?_⟩
  · obtain ⟨a, b, c, hp, ta, tb, tc⟩ := id plain
    refine ⟨by show 1 ≤ sizeLine; decide, fun q nq => ?_⟩
    have sq := same_new (o := .lst [V.str "dawn"]) nq
    refine ⟨_, rfl, pl, _, 0, _, rfl, rfl, SqL.of (sq _ _ hp), atI_nat (j := 0) rfl, .ref a, _, rfl, Lot.names (.inl ⟨a, rfl, ta.same sq⟩), by rw [List.length_map]; omega, fun p np => ?_⟩
    have sp := same_new (o := .lst ((srt (N.L.map (·.1))).map V.str)) np
    refine ⟨q, p, _, _, rfl, rfl, sp _ _ upd_same, upd_same, by rw [List.length_map, srt_len, List.length_map, sizeLine_eq]; show 1 + N.L.length ≤ _; omega, fun nl nnl => ?_⟩
    have sn := same_new (o := .lst ([V.str "dawn"] ++ (srt (N.L.map (·.1))).map V.str)) nnl
    have s3 := sq.trans (sp.trans sn)
    have hD3 := hD.same s3
    have nnD : nl ≠ D := new_ne (hD.same (sq.trans sp)) nnl
    obtain ⟨d0, d1, d2, eD⟩ := id hD3
    refine ⟨_, rfl, D, d0, d1, d2, 9, rfl, eD, by decide, by decide, fun r f0 f2 r0 r1 => ⟨_, _, rfl, rfl, _, _, rfl, nl, r - 4, rfl, by omega, by omega, (Same.but s3).trans But.upd, ⟨_, _, _, upd_same⟩, nnD, ?_⟩⟩
    rw [upd_ne nnD, upd_same]
    rfl
  rintro _ H1 ⟨nl, i, rfl, i0, i1, b1, hD1, nnD, hn1⟩
  have plain1 := pl_roll hD b1 npl plain
  have bi : 1 - 10 ^ 40 ≤ i ∧ i ≤ 10 ^ 40 - 1 := ⟨Int.le_trans (show 1 - 10 ^ 40 ≤ (-4 : Int) by decide +kernel) i0, Int.le_trans i1 (by decide +kernel)⟩
  -- a work
  refine ⟨fun σ' H' => ∃ n, σ' = [some (.ref D), some (.ref pl), some (.ref nl), some (.int i), some (.str n), none] ∧ n ∈ wkC N ∧ But D H H' ∧ Dc H' D ∧ PlainAt K H' pl N ∧ H' nl = some (.lst ((nmC N).map V.str)), ?_, ?_⟩
  · obtain ⟨a, b, c, hp, ta, tb, tc⟩ := id plain1
    refine ⟨_, rfl, _, rfl, pl, _, 1, _, rfl, rfl, SqL.of hp, atI_nat (j := 1) rfl, .ref b, _, rfl, Lot.names (.inl ⟨b, rfl, tb⟩), by rw [List.length_map]; omega, fun wl nwl => ?_⟩
    have sw := same_new (o := .lst ((srt (N.W.map (·.1))).map V.str)) nwl
    refine ⟨D, .ref wl, rfl, hD1.same sw, .inl ⟨wl, _, rfl, new_ne hD1 nwl, upd_same, ?_, ?_, fun u H' hu b' hd => ?_⟩⟩
    · rw [List.length_map, srt_len, List.length_map]
      exact List.length_pos_iff.mpr Wne
    · rw [List.length_map, srt_len, List.length_map]
      omega
    · obtain ⟨n, hn, rfl⟩ := List.mem_map.mp hu
      exact ⟨n, rfl, hn, b1.trans ((Same.but sw).trans b'), hd, pl_roll (hD1.same sw) b' npl (plain1.same sw), b' _ _ nnD (sw _ _ hn1)⟩
  clear b1 hD1 plain1 hn1
  rintro _ H2 ⟨n, rfl, hn, b2, hD2, plain2, hn2⟩
  obtain ⟨p0, hp0, en⟩ := List.mem_map.mp (srt_mem.mp hn)
  have ly : look N.W n = some p0.2 := by rw [← en]; exact DW.look_of ok.w.nd hp0
  generalize p0.2 = y at ly
  have oy := ok.w.wk _ (look_mem ly)
  -- a bound
  refine ⟨fun σ' H' => σ' = [some (.ref D), some (.ref pl), some (.ref nl), some (.int i), some (.str n), none] ∧ But D H H' ∧ Dc H' D ∧ PlainAt K H' pl N ∧ H' nl = some (.lst ((nmC N).map V.str)), ?_, ?_⟩
  · obtain ⟨d0, d1, d2, eD⟩ := id hD2
    refine ⟨_, rfl, D, d0, d1, d2, 2, rfl, eD, by decide, by decide, fun r f0 f2 r0 r1 => ⟨rfl, _, rfl, ?_⟩⟩
    have b3 : But D H2 (upd H2 D (.lst [.int f0, .int d1, .int f2])) := But.upd
    have hD3 : Dc (upd H2 D (.lst [.int f0, .int d1, .int f2])) D := ⟨_, _, _, upd_same⟩
    generalize upd H2 D (.lst [.int f0, .int d1, .int f2]) = G at b3 hD3 ⊢
    have hnG := b3 _ _ nnD hn2
    refine ite2 (fun _ => ?_) (fun _ => ⟨rfl, b2.trans b3, hD3, pl_roll hD2 b3 npl plain2, hnG⟩)
    refine ⟨_, rfl, _, rfl, D, .ref nl, rfl, hD3, .inl ⟨nl, _, rfl, nnD, hnG, by rw [List.length_map]; exact Nat.succ_pos _, by rw [List.length_map]; omega, fun u G2 hu b4 hD4 => ?_⟩⟩
    obtain ⟨a, ha, rfl⟩ := List.mem_map.mp hu
    have hnG2 := b4 _ _ nnD hnG
    refine ⟨_, rfl, _, rfl, D, .ref nl, rfl, hD4, .inl ⟨nl, _, rfl, nnD, hnG2, by rw [List.length_map]; exact Nat.succ_pos _, by rw [List.length_map]; omega, fun u2 G3 hu2 b5 hD5 => ?_⟩⟩
    obtain ⟨b, hb, rfl⟩ := List.mem_map.mp hu2
    refine ⟨_, rfl, by show 4 ≤ sizeLine; decide, fun t nt => ?_⟩
    have st := same_new (o := .tup [V.str "bound", V.str a, V.str b, V.int i]) nt
    exact k t (kBound, a, b, i) _ (b2.trans (b3.trans (b4.trans (b5.trans (Same.but st))))) (hD5.same st) upd_same (row_b ok (nm_known a ha) (nm_known b hb) bi)
  clear b2 hD2 plain2 hn2
  rintro _ H3 ⟨rfl, b3, hD3, plain3, hn3⟩
  obtain ⟨a, b, c, hp, ta, tb, tc⟩ := id plain3
  refine ⟨_, rfl, _, rfl, nl, rfl, ⟨_, SqL.of hn3⟩, fun M nM => ?_⟩
  refine lc_list (K := K) (xs := (nmC N).map V.str) (fun m G => Same H3 G ∧ G M = some (.lst ((((nmC N).take m).filter fun z => !decide (z = y.2.1)).map V.str))) ⟨same_new nM, upd_same⟩ (fun m G _ z => SqL.of (z.1 _ _ hn3)) (fun m v G hv z => ?_) (fun G z => ?_)
  · obtain ⟨s2, hM⟩ := z
    rw [List.getElem?_map] at hv
    obtain ⟨z, hz, rfl⟩ := Option.map_eq_some_iff.mp hv
    obtain ⟨w2, gu, du⟩ := (tb.same s2).tr.get ly
    obtain ⟨t4, rfl, ht4⟩ := wk_at du
    refine ⟨rfl, _, rfl, _, rfl, pl, _, 1, _, rfl, rfl, SqL.of (s2 _ _ hp), atI_nat (j := 1) rfl, _, rfl, b, _, rfl, gu, t4, _, 1, _, rfl, rfl, ht4, atI_nat (j := 1) rfl, rfl, _, rfl, ?_⟩
    have e : decide (V.str z = V.str y.2.1) = decide (z = y.2.1) := dec_strV
    rw [e]
    have et : ((nmC N).take (m + 1)).filter (fun z => !decide (z = y.2.1)) = ((nmC N).take m).filter (fun z => !decide (z = y.2.1)) ++ (if (!decide (z = y.2.1)) = true then [z] else []) := by
      rw [List.take_add_one, hz, List.filter_append, Option.toList_some, List.filter_cons, List.filter_nil]
    have ll : (((nmC N).take m).filter fun z => !decide (z = y.2.1)).length ≤ 300 := by
      have q1 := List.length_filter_le (fun z => !decide (z = y.2.1)) ((nmC N).take m)
      rw [List.length_take] at q1
      omega
    rw [et]
    cases (!decide (z = y.2.1)) with
    | true =>
      refine iteT ⟨_, rfl, _, hM, by rw [List.length_map, sizeLine_eq]; omega, same_mut s2 nM, ?_⟩
      rw [upd_same, List.map_append]
      rfl
    | false =>
      refine iteF ⟨s2, ?_⟩
      rw [hM]
      show _ = some (HO.lst (List.map V.str (_ ++ [])))
      rw [List.append_nil]
  obtain ⟨s2, hM⟩ := z
  rw [List.length_map, List.take_length] at hM
  have lf : ((nmC N).filter fun z => !decide (z = y.2.1)).length < 1000 := by
    have q1 := List.length_filter_le (fun z => !decide (z = y.2.1)) (nmC N)
    omega
  have l0 : 0 < ((nmC N).filter fun z => !decide (z = y.2.1)).length := by
    refine List.length_pos_iff.mpr fun e => ?_
    have m : ("dawn" : Str) ∈ (nmC N).filter fun z => !decide (z = y.2.1) := List.mem_filter.mpr ⟨List.mem_cons_self .., by rw [decide_eq_false fun z => oy.ne z.symm]; rfl⟩
    rw [e] at m
    cases m
  refine ⟨D, .ref M, rfl, hD3.same s2, .inl ⟨M, _, rfl, new_ne hD3 nM, hM, by rw [List.length_map]; exact l0, by rw [List.length_map]; exact lf, fun u G2 hu b4 hD4 => ?_⟩⟩
  obtain ⟨z, hz, rfl⟩ := List.mem_map.mp hu
  obtain ⟨h1, h2⟩ := List.mem_filter.mp hz
  refine ⟨_, rfl, _, rfl, by show 4 ≤ sizeLine; decide, fun t nt => ?_⟩
  have st := same_new (o := .tup [V.str "wait", V.str z, V.str n, V.int i]) nt
  exact k t (kWait, z, n, i) _ (b3.trans ((Same.but s2).trans (b4.trans (Same.but st)))) (hD4.same st) upd_same (row_w ok (nm_known z h1) ly (fun e => by rw [decide_eq_true e] at h2; cases h2) bi)
end
end LW
namespace LW
open PySem PySem.Spec PyProof.Rows L2 DW
/-- no reason for a line, as data -/
def whyD : PyData → Bool
  | .tuple [] => true | .tuple [_] => true
  | .tuple (.none :: _) => true
  | .tuple (.str _ :: .str _ :: _ :: _) => true
  | .tuple (.str x :: .none :: _) => !inV (.str x) (rulesL.map V.str)
  | .tuple _ => false
  | _ => true
/-- no list of lines, as data -/
def fstD : PyData → Bool
  | .tuple (x :: _) => !pairD x | _ => true
/-- no list that begins with a number -/
def hdS : List PyData → Bool
  | [] => true | .str _ :: _ => true | _ => false
mutual
def noI : PyData → Bool
  | .list ds => hdS ds && noIs ds
  | .tuple ds => noIs ds
  | _ => true
def noIs : List PyData → Bool
  | [] => true
  | d :: ds => noI d && noIs ds
end
theorem sqt_butN {K : PySem.W.Frag} {H H' : Hp} {D a : Addr} {xs : List V} (hD : Dc H D) (b : ButN D H H') (h : SqT K H a xs) : SqT K H' a xs := by
  obtain ⟨d0, d1, d2, e⟩ := hD
  rcases h with (h | ⟨o, h⟩) | h
  · exact .inl (.inl (b _ _ (ne_of h e (fun z => nomatch z)) h (fun _ z => nomatch z)))
  · exact .inl (.inr ⟨o, b _ _ (ne_of h e (fun z => nomatch z)) h (fun _ z => nomatch z)⟩)
  · exact .inr h
mutual
theorem Dp.butN {K : PySem.W.Frag} {H H' : Hp} {D : Addr} (hD : Dc H D) (b : ButN D H H') : ∀ {v : V} {d : PyData}, Dp K H v d → noI d = true → Dp K H' v d
  | _, _, .non, _ => .non
  | _, _, .bl x, _ => .bl x
  | _, _, .int i, _ => .int i
  | _, _, .str x, _ => .str x
  | _, _, .lst (a := a) (xs := xs) (ds := ds) h al, n => by
    have n : (hdS ds && noIs ds) = true := n
    rw [Bool.and_eq_true] at n
    refine .lst ?_ (DpAll.butN hD b al n.2)
    obtain ⟨d0, d1, d2, e⟩ := hD
    rcases h with (h | ⟨o, h⟩) | h
    · refine .inl (.inl (b _ _ ?_ h (fun _ z => nomatch z)))
      rintro rfl
      rw [e] at h
      cases h
      cases al with
      | cons h1 _ =>
        cases h1
        cases n.1
    · exact .inl (.inr ⟨o, b _ _ (ne_of h e (fun z => nomatch z)) h (fun _ z => nomatch z)⟩)
    · exact .inr h
  | _, _, .tup h al, n => .tup (sqt_butN hD b h) (DpAll.butN hD b al n)
theorem DpAll.butN {K : PySem.W.Frag} {H H' : Hp} {D : Addr} (hD : Dc H D) (b : ButN D H H') : ∀ {vs : List V} {ds : List PyData}, DpAll K H vs ds → noIs ds = true → DpAll K H' vs ds
  | _, _, .nil, _ => .nil
  | _, _, .cons (d := d) (ds := ds) a al, n => by
    have n : (noI d && noIs ds) = true := n
    rw [Bool.and_eq_true] at n
    exact .cons (Dp.butN hD b a n.1) (DpAll.butN hD b al n.2)
end
theorem dd_butN {K : PySem.W.Frag} {H H' : Hp} {D : Addr} {v : V} {d : PyData} (hD : Dc H D) (b : ButN D H H') (n : noI d = true) (h : Dd K H v d) : Dd K H' v d := by
  cases h with
  | base h z => exact .base (Dp.butN hD b h n) z
  | dct h =>
    obtain ⟨d0, d1, d2, e⟩ := hD
    exact .dct (b _ _ (ne_of h e (fun z => nomatch z)) h (fun _ z => nomatch z))
/-- lists of two at least, or that one -/
def lsH : List PyData → Bool
  | [] => false | [.str z] => decide (z = ("x" : Str)) | [_] => false | _ :: _ :: _ => true
mutual
def lsT : PyData → Bool
  | .list ds => lsH ds && lsTs ds
  | .tuple ds => lsTs ds
  | _ => true
def lsTs : List PyData → Bool
  | [] => true
  | d :: ds => lsT d && lsTs ds
end
def xB : PyData → Bool
  | .str z => decide (z = ("x" : Str)) | _ => false
/-- what is known of a value that is none of the net's rows -/
structure OddD (D : PlainD) (d : PyData) : Prop where
  fit : fitR d
  row : rowD D d = false
  sh : SeqAt.shaped d = true ∨ d = .dict []
  dep : d.depth ≤ 10
  pr : pairS d = false
  why : whyD d = true
  fst : fstD d = true
  ni : noI d = true
  ls : lsT d = true
  nx : xB d = false
section
variable {K : PySem.W.Frag} {H : Hp} {v : V} {d : PyData}
theorem nt_of (h : Dd K H v d) (n : isTupT d = false) : NotTup K H v := ⟨_, h.tyx, by rw [kit_ty (kit_tup d), n]⟩
theorem npr_of (h : Dd K H v d) (n : pairD d = false) : NotPr K H v := by
  match d, h, n with
  | .tuple ds, h, n =>
    obtain ⟨a, xs, rfl, hs, ha, _⟩ := h.tup_inv
    refine .inr ⟨a, xs, rfl, hs, fun e => ?_⟩
    have n : decide (ds.length = 2) = false := n
    rw [decide_eq_false_iff_not] at n
    exact n (by rw [← DpAll.length ha, e])
  | .none, h, _ => exact .inl (nt_of h rfl)
  | .bool _, h, _ => exact .inl (nt_of h rfl)
  | .int _, h, _ => exact .inl (nt_of h rfl)
  | .str _, h, _ => exact .inl (nt_of h rfl)
  | .list _, h, _ => exact .inl (nt_of h rfl)
  | .dict _, h, _ => exact .inl (nt_of h rfl)
theorem why_of (h : Dd K H v d) (n : whyD d = true) : WhyN K H v := by
  match d, h, n with
  | .tuple ds, h, n =>
    obtain ⟨a, xs, rfl, hs, ha, _⟩ := h.tup_inv
    refine .inr ⟨a, xs, rfl, hs, ?_⟩
    match ds, ha, n with
    | [], ha, _ =>
      cases ha
      exact .inl (by show 0 < 2; decide)
    | [_], ha, _ =>
      cases ha with
      | cons _ ha =>
        cases ha
        exact .inl (by show 1 < 2; decide)
    | .none :: _ :: _, ha, _ =>
      cases ha with
      | cons h1 ha =>
        cases h1
        exact .inr (.inl ⟨_, rfl⟩)
    | .str x :: .str y :: z :: r, ha, _ =>
      cases ha with
      | cons h1 ha => cases ha with
        | cons h2 ha => cases ha with
          | cons h3 ha =>
            cases h1
            cases h2
            exact .inr (.inr (.inl ⟨x, y, _, _, rfl⟩))
    | .str x :: .none :: r, ha, n =>
      cases ha with
      | cons h1 ha => cases ha with
        | cons h2 ha =>
          cases h1
          cases h2
          have n : (!inV (.str x) (rulesL.map V.str)) = true := n
          exact .inr (.inr (.inr ⟨x, _, rfl, by simpa using n⟩))
  | .none, h, _ => exact .inl (nt_of h rfl)
  | .bool _, h, _ => exact .inl (nt_of h rfl)
  | .int _, h, _ => exact .inl (nt_of h rfl)
  | .str _, h, _ => exact .inl (nt_of h rfl)
  | .list _, h, _ => exact .inl (nt_of h rfl)
  | .dict _, h, _ => exact .inl (nt_of h rfl)
theorem list_of {D : PlainD} (h : Dd K H v d) (n : fstD d = true) : ListN K H D v := by
  match d, h, n with
  | .tuple ds, h, n =>
    obtain ⟨a, xs, rfl, hs, ha, hn⟩ := h.tup_inv
    refine .inr ⟨a, xs, rfl, hs, fun x ys e => ?_⟩
    subst e
    match ds, ha, n, hn with
    | z :: r, ha, n, hn =>
      cases ha with
      | cons h1 ha =>
        have n : (!pairD z) = true := n
        exact .inl (npr_of (.base h1 (hn z (by simp))) (by simpa using n))
  | .none, h, _ => exact .inl (nt_of h rfl)
  | .bool _, h, _ => exact .inl (nt_of h rfl)
  | .int _, h, _ => exact .inl (nt_of h rfl)
  | .str _, h, _ => exact .inl (nt_of h rfl)
  | .list _, h, _ => exact .inl (nt_of h rfl)
  | .dict _, h, _ => exact .inl (nt_of h rfl)
end
/-- a value with such data -/
def OddR (K : PySem.W.Frag) (H : Hp) (D : PlainD) (v : V) : Prop := ∃ d, Dd K H v d ∧ OddD D d
theorem OddR.butN {K : PySem.W.Frag} {H H' : Hp} {Di : Addr} {D : PlainD} {v : V} (hD : Dc H Di) (b : ButN Di H H') (h : OddR K H D v) : OddR K H' D v := by
  obtain ⟨d, hd, o⟩ := h
  exact ⟨d, dd_butN hD b o.ni hd, o⟩
theorem OddR.same {K : PySem.W.Frag} {H H' : Hp} {D : PlainD} {v : V} (s : Same H H') (h : OddR K H D v) : OddR K H' D v := by
  obtain ⟨d, hd, o⟩ := h
  exact ⟨d, dd_same s hd, o⟩
theorem OddR.word {K : PySem.W.Frag} {C : Addr} {H : Hp} {D : PlainD} {v : V} (h : OddR K H D v) : WordN K C H v := by
  obtain ⟨d, hd, o⟩ := h
  rcases o.sh with s | rfl
  · exact .inl ⟨d, hd, s, o.pr⟩
  · refine .inr (.inl (.inl ?_))
    generalize e : PyData.dict [] = d at hd
    cases hd with
    | base h n => subst e; cases h
    | dct h => exact ⟨_, _, rfl, h⟩
theorem OddR.val {K : PySem.W.Frag} {H : Hp} {D : PlainD} {v : V} (h : OddR K H D v) : ValB K H D v false := by
  obtain ⟨d, hd, o⟩ := h
  exact .inr (.inl ⟨d, hd, o.fit, o.row.symm⟩)
/-! ### the odd rows that the law picks from -/
def oddL (r : R4) (e n : Str) : List PyData := [.none, .int 0, .tuple [], .str "row", .dict [], .list [.str r.1, .str r.2.1, .str r.2.2.1, .int r.2.2.2], .tuple [.str r.1, .str r.2.1, .str r.2.2.1], .tuple [.str r.1, .str r.2.1, .str r.2.2.1, .int r.2.2.2, .int 0],
  .tuple [.none, .str r.2.1, .str r.2.2.1, .int r.2.2.2], .tuple [.str "told", .str r.2.1, .str r.2.2.1, .int r.2.2.2]]
def oddM (r : R4) : List PyData := ([.bool true, .none, .str "2", .int (10 ^ 40), .int (0 - 10 ^ 40), .tuple []] : List PyData).map fun x => .tuple [.str r.1, .str r.2.1, .str r.2.2.1, x]
def oddN (r : R4) : List PyData := [.tuple [.str r.1, .str "zz", .str r.2.2.1, .int r.2.2.2], .tuple [.str r.1, .str r.2.1, .str "zz", .int r.2.2.2], .tuple [.str r.1, .none, .str r.2.2.1, .int r.2.2.2]]
def oddO (r : R4) (e n : Str) : List PyData := [.tuple [.str "wait", .str e, .str n, .int 3], .tuple [.str "wait", .str "dawn", .list [.str "x"], .int 3], .tuple [r4D r]]
theorem kind_rule {D : PlainD} {r : R4} (h : RowOk D r) : (!inV (.str r.1) (rulesL.map V.str)) = true := by
  rcases h.two with ⟨e, _⟩ | ⟨e, _⟩ <;> rw [e] <;> decide +kernel
theorem odd_ok {D : PlainD} (ok : OkN D) {r : R4} {e n : Str} (h : RowOk D r) (z1 : knownB D.L ("zz" : Str) = false) (z2 : look D.W ("zz" : Str) = none) (oe : wkO D e = some n) (se : SokS e) (sn : SokS n) : ∀ d ∈ ((oddL r e n ++ oddM r) ++ oddN r) ++ oddO r e n, OddD D d := by
  have sm := h.sm ok
  have k1 := sm.k.2
  have k2 := sm.a.2
  have k3 := sm.b.2
  have k4 := se.2
  have k5 := sn.2
  have kr := kind_rule h
  have s4 : ∀ {x : PyData}, x.canLay0 = true → x.depth ≤ 2 → SeqAt.shaped (.tuple [.str r.1, .str r.2.1, .str r.2.2.1, x]) = true := fun {x} c d => by
    unfold SeqAt.shaped
    rw [Bool.and_eq_true]
    refine ⟨by simp [PyData.canLay0, PyData.canLayAll0, k1, k2, k3, c], decide_eq_true ?_⟩
    simp only [PyData.depth, PyData.depthAll]
    omega
  have d4 : ∀ {a b c x : PyData}, a.depth = 0 → b.depth = 0 → c.depth = 0 → x.depth ≤ 2 → (PyData.tuple [a, b, c, x]).depth ≤ 10 := fun {a b c x} e1 e2 e3 e4 => by
    simp only [PyData.depth, PyData.depthAll, e1, e2, e3]
    omega
  intro d hd
  simp only [oddL, oddM, oddN, oddO, List.map_cons, List.map_nil, List.mem_append, List.mem_cons, List.not_mem_nil, or_false] at hd
  have num : ∀ {x : PyData}, numD x = false → rowD D (.tuple [.str r.1, .str r.2.1, .str r.2.2.1, x]) = false := fun {x} e => by
    show (plD D _ && (numD x && _)) = false
    rw [e, Bool.false_and, Bool.and_false]
  have fit4 : ∀ {a b c x : PyData}, flD a = true → flD b = true → Fit x → flD c = true → fitR (.tuple [a, b, c, x]) := fun e1 e2 e3 e4 => ⟨e1, e2, e3, fun _ => e4⟩
  have fi : ∀ i : Int, Fit (.int i) := fun i z e => by cases e
  rcases hd with ((((rfl | rfl | rfl | rfl | rfl | rfl | rfl | rfl | rfl | rfl) | (rfl | rfl | rfl | rfl | rfl | rfl)) | (rfl | rfl | rfl)) | (rfl | rfl | rfl))
  · exact ⟨trivial, rfl, .inl rfl, by decide, rfl, rfl, rfl, rfl, rfl, rfl⟩
  · exact ⟨trivial, rfl, .inl rfl, by decide, rfl, rfl, rfl, rfl, rfl, rfl⟩
  · exact ⟨trivial, rfl, .inl rfl, by decide, rfl, rfl, rfl, rfl, rfl, rfl⟩
  · exact ⟨trivial, rfl, .inl (by decide +kernel), by decide, rfl, rfl, rfl, rfl, rfl, by decide +kernel⟩
  · exact ⟨trivial, rfl, .inr rfl, by decide, rfl, rfl, rfl, rfl, rfl, rfl⟩
  · refine ⟨trivial, rfl, .inl ?_, by simp [PyData.depth, PyData.depthAll], rfl, rfl, rfl, rfl, rfl, rfl⟩
    simp [SeqAt.shaped, PyData.canLay0, PyData.canLayAll0, PyData.depth, PyData.depthAll, k1, k2, k3]
  · refine ⟨trivial, rfl, .inl ?_, by simp [PyData.depth, PyData.depthAll], rfl, rfl, rfl, rfl, rfl, rfl⟩
    simp [SeqAt.shaped, PyData.canLay0, PyData.canLayAll0, PyData.depth, PyData.depthAll, k1, k2, k3]
  · refine ⟨trivial, rfl, .inl ?_, by simp [PyData.depth, PyData.depthAll], rfl, rfl, rfl, rfl, rfl, rfl⟩
    simp [SeqAt.shaped, PyData.canLay0, PyData.canLayAll0, PyData.depth, PyData.depthAll, k1, k2, k3]
  · refine ⟨fit4 rfl rfl (fi _) rfl, ?_, .inl ?_, d4 rfl rfl rfl (by simp [PyData.depth]), rfl, rfl, rfl, rfl, rfl, rfl⟩
    · show (plD D _ && (numD _ && false)) = false
      rw [Bool.and_false, Bool.and_false]
    · simp [SeqAt.shaped, PyData.canLay0, PyData.canLayAll0, PyData.depth, PyData.depthAll, k2, k3]
  · refine ⟨fit4 rfl rfl (fi _) rfl, ?_, .inl ?_, d4 rfl rfl rfl (by simp [PyData.depth]), rfl, rfl, rfl, rfl, rfl, rfl⟩
    · show (plD D _ && (numD _ && (if isS kBound (.str "told") = true then _ else (isS kWait (.str "told") && _)))) = false
      rw [if_neg (by decide +kernel), show isS kWait (.str "told") = false by decide +kernel, Bool.false_and, Bool.and_false, Bool.and_false]
    · simp [SeqAt.shaped, PyData.canLay0, PyData.canLayAll0, PyData.depth, PyData.depthAll, k2, k3, show PyData.strOk ("told" : Str) = true by decide +kernel]
  · exact ⟨fit4 rfl rfl (fun z e => by cases e) rfl, num rfl, .inl (s4 rfl (by simp [PyData.depth])), d4 rfl rfl rfl (by simp [PyData.depth]), rfl, rfl, rfl, rfl, rfl, rfl⟩
  · exact ⟨fit4 rfl rfl (fun z e => by cases e) rfl, num rfl, .inl (s4 rfl (by simp [PyData.depth])), d4 rfl rfl rfl (by simp [PyData.depth]), rfl, rfl, rfl, rfl, rfl, rfl⟩
  · exact ⟨fit4 rfl rfl (fun z e => by cases e; decide) rfl, num rfl, .inl (s4 (by show PyData.strOk ("2" : Str) = true; decide +kernel) (by simp [PyData.depth])), d4 rfl rfl rfl (by simp [PyData.depth]), rfl, rfl, rfl, rfl, rfl, rfl⟩
  · exact ⟨fit4 rfl rfl (fi _) rfl, num (by decide +kernel), .inl (s4 rfl (by simp [PyData.depth])), d4 rfl rfl rfl (by simp [PyData.depth]), rfl, rfl, rfl, rfl, rfl, rfl⟩
  · exact ⟨fit4 rfl rfl (fi _) rfl, num (by decide +kernel), .inl (s4 rfl (by simp [PyData.depth])), d4 rfl rfl rfl (by simp [PyData.depth]), rfl, rfl, rfl, rfl, rfl, rfl⟩
  · exact ⟨fit4 rfl rfl (fun z e => by cases e) rfl, num rfl, .inl (s4 rfl (by simp [PyData.depth, PyData.depthAll])), d4 rfl rfl rfl (by simp [PyData.depth, PyData.depthAll]), rfl, rfl, rfl, rfl, rfl, rfl⟩
  · refine ⟨fit4 rfl rfl (fi _) rfl, ?_, .inl ?_, d4 rfl rfl rfl (by simp [PyData.depth]), rfl, rfl, rfl, rfl, rfl, rfl⟩
    · show (knownB D.L ("zz" : Str) && _) = false
      rw [z1, Bool.false_and]
    · simp [SeqAt.shaped, PyData.canLay0, PyData.canLayAll0, PyData.depth, PyData.depthAll, k1, k3, show PyData.strOk ("zz" : Str) = true by decide +kernel]
  · refine ⟨fit4 rfl rfl (fi _) rfl, ?_, .inl ?_, d4 rfl rfl rfl (by simp [PyData.depth]), rfl, rfl, rfl, rfl, rfl, rfl⟩
    · show (plD D _ && (numD _ && (if isS kBound _ = true then knownB D.L ("zz" : Str) else (isS kWait _ && ((look D.W ("zz" : Str)).isSome && _))))) = false
      rw [z1, z2]
      simp
    · simp [SeqAt.shaped, PyData.canLay0, PyData.canLayAll0, PyData.depth, PyData.depthAll, k1, k2, show PyData.strOk ("zz" : Str) = true by decide +kernel]
  · refine ⟨fit4 rfl rfl (fi _) rfl, rfl, .inl ?_, d4 rfl rfl rfl (by simp [PyData.depth]), rfl, kr, rfl, rfl, rfl, rfl⟩
    simp [SeqAt.shaped, PyData.canLay0, PyData.canLayAll0, PyData.depth, PyData.depthAll, k1, k3]
  · refine ⟨fit4 rfl rfl (fi _) rfl, ?_, .inl ?_, d4 rfl rfl rfl (by simp [PyData.depth]), rfl, rfl, rfl, rfl, rfl, rfl⟩
    · show (plD D _ && (numD _ && (if isS kBound (.str "wait") = true then _ else (isS kWait _ && (wkD' D _ && !decide (wkO D e = some n)))))) = false
      rw [if_neg (by decide +kernel), decide_eq_true oe]
      simp
    · simp [SeqAt.shaped, PyData.canLay0, PyData.canLayAll0, PyData.depth, PyData.depthAll, k4, k5, show PyData.strOk ("wait" : Str) = true by decide +kernel]
  · refine ⟨⟨rfl, rfl, fi _, fun z => absurd z (by decide +kernel)⟩, ?_, .inl (by decide +kernel), by decide, rfl, rfl, rfl, rfl, by decide +kernel, rfl⟩
    show (plD D (.str "dawn") && (numD (.int 3) && (if isS kBound (.str "wait") = true then plD D (.list [.str "x"]) else (isS kWait (.str "wait") && (wkD' D (.list [.str "x"]) && !ownD D (.str "dawn") (.list [.str "x"])))))) = false
    rw [if_neg (by decide +kernel), show wkD' D (.list [.str "x"]) = false from rfl]
    simp
  · refine ⟨trivial, rfl, .inl ?_, by simp [r4D, PyData.depth, PyData.depthAll], rfl, rfl, ?_, rfl, rfl, rfl⟩
    · simp [r4D, SeqAt.shaped, PyData.canLay0, PyData.canLayAll0, PyData.depth, PyData.depthAll, k1, k2, k3]
    · show (!pairD (r4D r)) = true
      rfl
end LW
namespace LW
open PySem PySem.Spec PyProof.Rows L2 DW
/-! ### te gives data -/
def Dn (K : PySem.W.Frag) (H : Hp) (v : V) (d : PyData) : Prop := Dp K H v d ∧ d.hasDict = false
def GDn (K : PySem.W.Frag) (σ : L2.St) (H0 : Hp) (te : TE) (d : PyData) : Prop := ∀ (H : Hp) (Q : VK), Same H0 H → (∀ v H', Same H H' → Dn K H' v d → Q v H') → te σ H Q
def GDd (K : PySem.W.Frag) (σ : L2.St) (H0 : Hp) (te : TE) (d : PyData) : Prop := ∀ (H : Hp) (Q : VK), Same H0 H → (∀ v H', Same H H' → Dd K H' v d → Q v H') → te σ H Q
def GNa (K : PySem.W.Frag) (σ : L2.St) (H0 : Hp) (ta : TA) (ds : List PyData) : Prop := ∀ (H : Hp) (Q : List V → Hp → Prop), Same H0 H → (∀ vs H', Same H H' → DpAll K H' vs ds → Q vs H') → ta σ H Q
def GDa (K : PySem.W.Frag) (σ : L2.St) (H0 : Hp) (ta : TA) (ds : List PyData) : Prop := ∀ (H : Hp) (Q : List V → Hp → Prop), Same H0 H → (∀ vs H', Same H H' → Paired (Dd K H') vs ds → Q vs H') → ta σ H Q
def GDl (K : PySem.W.Frag) (σ : L2.St) (H0 : Hp) (te : TE) (ds : List PyData) : Prop := ∀ (H : Hp) (Q : VK), Same H0 H → (∀ p vs H', Same H H' → H' p = some (.lst vs) → Paired (Dd K H') vs ds → Q (.ref p) H') → te σ H Q
/-- te gives a tuple of these -/
def GTp (K : PySem.W.Frag) (σ : L2.St) (H0 : Hp) (te : TE) (xs : List V) : Prop := ∀ (H : Hp) (Q : VK), Same H0 H → (∀ p H', Same H H' → SqT K H' p xs → Q (.ref p) H') → te σ H Q
theorem dds_same {K : PySem.W.Frag} {H H' : Hp} {vs : List V} {ds : List PyData} (s : Same H H') (h : Paired (Dd K H) vs ds) : Paired (Dd K H') vs ds := h.mono fun _ _ q => dd_same s q
theorem Paired.append2 {α β : Type} {F : α → β → Prop} : ∀ {l₁ : List α} {l₂ : List β} {m₁ : List α} {m₂ : List β}, Paired F l₁ l₂ → Paired F m₁ m₂ → Paired F (l₁ ++ m₁) (l₂ ++ m₂)
  | _, _, _, _, .nil, h => h
  | _, _, _, _, .cons a t, h => .cons a (Paired.append2 t h)
section
variable {K : PySem.W.Frag} {σ : L2.St} {H0 : Hp}
theorem gn_v {te : TE} {v : V} {d : PyData} (h : Giv σ H0 te v) (hd : ∀ H, Dp K H v d) (n : d.hasDict = false) : GDn K σ H0 te d := fun H Q s k => h H Q s fun H' s1 => k v H' s1 ⟨hd H', n⟩
theorem gd_n {te : TE} {d : PyData} (h : GDn K σ H0 te d) : GDd K σ H0 te d := fun H Q s k => h H Q s fun v H' s1 q => k v H' s1 (.base q.1 q.2)
theorem gd_dnew : GDd K σ H0 tDNewK (.dict []) := fun H Q s k p np => k (.ref p) _ (same_new np) (.dct (kvs := []) upd_same)
theorem gna_nil : GNa K σ H0 tNil [] := fun H Q _ k => k [] H (Same.refl H) .nil
theorem gna_cons {te : TE} {ta : TA} {d : PyData} {ds : List PyData} (h : GDn K σ H0 te d) (hs : GNa K σ H0 ta ds) : GNa K σ H0 (tCons te ta) (d :: ds) := fun H Q s k =>
  h H _ s fun v H1 s1 r => hs H1 _ (s.trans s1) fun vs H2 s2 rs => k _ _ (s1.trans s2) (.cons (Dp.same s2 r.1) rs)
theorem gn_tup {ta : TA} {ds : List PyData} (h : GNa K σ H0 ta ds) (l : ds.length ≤ 10) (n : PyData.hasDictAll ds = false) : GDn K σ H0 (tTup ta) (.tuple ds) := fun H Q s k =>
  h H _ s fun vs H1 s1 a => ⟨by rw [DpAll.length a, sizeLine_eq]; omega, fun p np => k _ _ (s1.trans (same_new np)) ⟨.tup (SqT.of upd_same) (DpAll.same (same_new np) a), n⟩⟩
theorem gn_lst {ta : TA} {ds : List PyData} (h : GNa K σ H0 ta ds) (l : ds.length ≤ 10) (n : PyData.hasDictAll ds = false) : GDn K σ H0 (tLst ta) (.list ds) := fun H Q s k =>
  h H _ s fun vs H1 s1 a => ⟨by rw [DpAll.length a, sizeLine_eq]; omega, fun p np => k _ _ (s1.trans (same_new np)) ⟨.lst (SqL.of upd_same) (DpAll.same (same_new np) a), n⟩⟩
theorem gda_nil : GDa K σ H0 tNil [] := fun H Q _ k => k [] H (Same.refl H) .nil
theorem gda_cons {te : TE} {ta : TA} {d : PyData} {ds : List PyData} (h : GDd K σ H0 te d) (hs : GDa K σ H0 ta ds) : GDa K σ H0 (tCons te ta) (d :: ds) := fun H Q s k =>
  h H _ s fun v H1 s1 r => hs H1 _ (s.trans s1) fun vs H2 s2 rs => k _ _ (s1.trans s2) (.cons (dd_same s2 r) rs)
theorem gdl_lst {ta : TA} {ds : List PyData} (h : GDa K σ H0 ta ds) (l : ds.length ≤ 20) : GDl K σ H0 (tLst ta) ds := fun H Q s k =>
  h H _ s fun vs H1 s1 pr => ⟨by rw [Paired.length pr, sizeLine_eq]; omega, fun p np => k p vs _ (s1.trans (same_new np)) upd_same (dds_same (same_new np) pr)⟩
theorem gdl_v {i : Nat} {p : Addr} {vs : List V} {ds : List PyData} (hi : σ[i]? = some (some (.ref p))) (hp : H0 p = some (.lst vs)) (pr : Paired (Dd K H0) vs ds) : GDl K σ H0 (tVar i) ds := fun H Q s k => ⟨_, hi, k p vs H (Same.refl H) (s _ _ hp) (dds_same s pr)⟩
theorem gdl_cat {ta tb : TE} {os ps : List PyData} (ha : GDl K σ H0 ta os) (hb : GDl K σ H0 tb ps) (l : os.length + ps.length ≤ 100) : GDl K σ H0 (tOp rCat ta tb) (os ++ ps) := fun H Q s k =>
  ha H _ s fun p vs H1 s1 hp pr => hb H1 _ (s.trans s1) fun q ws H2 s2 hq pw => ⟨p, q, vs, ws, rfl, rfl, s2 _ _ hp, hq, by rw [Paired.length pr, Paired.length pw, sizeLine_eq]; omega, fun c nc => k c _ _ (s1.trans (s2.trans (same_new nc))) upd_same (Paired.append2 (dds_same (s2.trans (same_new nc)) pr) (dds_same (same_new nc) pw))⟩
theorem gt_n {te : TE} {xs : List V} {ds : List PyData} (h : GTp K σ H0 te xs) (a : DpAll K H0 xs ds) (n : PyData.hasDictAll ds = false) : GDn K σ H0 te (.tuple ds) := fun H Q s k => h H Q s fun p H' s1 e => k _ _ s1 ⟨.tup e (DpAll.same (s.trans s1) a), n⟩
theorem gt_tup {ta : TA} {xs : List V} (h : ∀ (H : Hp) (Q : List V → Hp → Prop), Same H0 H → (∀ H', Same H H' → Q xs H') → ta σ H Q) (l : xs.length ≤ 10) : GTp K σ H0 (tTup ta) xs := fun H Q s k => h H _ s fun H1 s1 => ⟨by rw [sizeLine_eq]; omega, fun p np => k p _ (s1.trans (same_new np)) (SqT.of upd_same)⟩
theorem gt_v {i : Nat} {t : Addr} {xs : List V} (hi : σ[i]? = some (some (.ref t))) (ht : SqT K H0 t xs) : GTp K σ H0 (tVar i) xs := fun H Q s k => ⟨_, hi, k t H (Same.refl H) (sqT_same s ht)⟩
theorem gt_cut {te : TE} {xs : List V} {n : Int} (h : GTp K σ H0 te xs) (hn : HT.sIx xs.length xs.length (some n) ≠ xs.length) : GTp K σ H0 (tSl (rSlT K) te tNoPart (tPart (tC (.int n)))) (cutV xs none (some n)) := fun H Q s k =>
  h H _ s fun p H1 s1 e => ⟨_, rfl, p, xs, rfl, e, (fun y => hn y.2), fun q nq => k q _ (s1.trans (same_new nq)) (SqT.of upd_same)⟩
theorem gt_from {te : TE} {xs : List V} {n : Int} (h : GTp K σ H0 te xs) (hn : HT.sIx xs.length 0 (some n) ≠ 0) : GTp K σ H0 (tSl (rSlT K) te (tPart (tC (.int n))) tNoPart) (cutV xs (some n) none) := fun H Q s k =>
  h H _ s fun p H1 s1 e => ⟨_, rfl, p, xs, rfl, e, (fun y => hn y.1), fun q nq => k q _ (s1.trans (same_new nq)) (SqT.of upd_same)⟩
theorem gt_cat {ta tb : TE} {xs ys : List V} (ha : GTp K σ H0 ta xs) (hb : GTp K σ H0 tb ys) (nx : xs ≠ []) (ny : ys ≠ []) (l : xs.length + ys.length ≤ 20) : GTp K σ H0 (tOp (rCatT K) ta tb) (xs ++ ys) := fun H Q s k =>
  ha H _ s fun p H1 s1 e1 => hb H1 _ (s.trans s1) fun q H2 s2 e2 => ⟨p, q, xs, ys, rfl, rfl, sqT_same s2 e1, e2, nx, by rw [sizeLine_eq]; omega, fun z => absurd z ny, fun _ c nc => k c _ (s1.trans (s2.trans (same_new nc))) (SqT.of upd_same)⟩
theorem ga1 {te : TE} {v : V} {ta : TA} {vs : List V} (h : Giv σ H0 te v) (hs : ∀ (H : Hp) (Q : List V → Hp → Prop), Same H0 H → (∀ H', Same H H' → Q vs H') → ta σ H Q) : ∀ (H : Hp) (Q : List V → Hp → Prop), Same H0 H → (∀ H', Same H H' → Q (v :: vs) H') → (tCons te ta) σ H Q := fun H Q s k =>
  h H _ s fun H1 s1 => hs H1 _ (s.trans s1) fun H2 s2 => k _ (s1.trans s2)
theorem ga0 : ∀ (H : Hp) (Q : List V → Hp → Prop), Same H0 H → (∀ H', Same H H' → Q [] H') → tNil σ H Q := fun H Q _ k => k H (Same.refl H)
theorem gv_sub {ta tb : TE} {a b : Int} (ha : Giv σ H0 ta (.int a)) (hb : Giv σ H0 tb (.int b)) : Giv σ H0 (tOp (rI0 fun i j => .int (i - j)) ta tb) (.int (a - b)) := fun H Q s k =>
  ha H _ s fun H1 s1 => hb H1 _ (s.trans s1) fun H2 s2 => ⟨_, _, rfl, rfl, k H2 (s1.trans s2)⟩
theorem gv_p40 : Giv σ H0 (tOp (rI (fun i j => 0 ≤ j ∧ (Builtin.Int.intBits i : Int) * j ≤ 2 ^ 27) fun i j => .int (i ^ j.toNat)) (tC (.int 10)) (tC (.int 40))) (.int (10 ^ 40)) := fun H Q s k =>
  ⟨_, _, rfl, rfl, ⟨by decide, by decide +kernel⟩, k H (Same.refl H)⟩
/-- plain[1][name][1] -/
theorem gv_wkq {i j : Nat} {pl : Addr} {N : PlainD} {n : Str} {y : WkT} (hi : σ[i]? = some (some (.ref pl))) (hj : σ[j]? = some (some (.str n))) (pn : PlainAt K H0 pl N) (ly : look N.W n = some y) : Giv σ H0 (tOp (rIxT K) (tDGet (tOp (rIxL K) (tVar i) (tC (.int 1))) (tVar j)) (tC (.int 1))) (.str y.2.1) := fun H Q s k => by
  obtain ⟨a, b, c, hp, ta, tb, tc⟩ := pn
  obtain ⟨w2, gu, du⟩ := (tb.same s).tr.get ly
  obtain ⟨t4, rfl, ht4⟩ := wk_at du
  exact ⟨_, hi, pl, _, 1, _, rfl, rfl, SqL.of (s _ _ hp), atI_nat (j := 1) rfl, _, hj, b, _, rfl, gu, t4, _, 1, _, rfl, rfl, ht4, atI_nat (j := 1) rfl, k H (Same.refl H)⟩
theorem gv_ixT {i t : Nat} {xs : List V} {v : V} (hi : σ[i]? = some (some (.ref t))) (ht : SqT K H0 t xs) (j : Nat) (hj : xs[j]? = some v) : Giv σ H0 (tOp (rIxT K) (tVar i) (tC (.int (j : Nat)))) v := fun H Q s k =>
  ⟨_, hi, t, _, _, _, rfl, rfl, sqT_same s ht, atI_nat hj, k H (Same.refl H)⟩
theorem gn_list {te : TE} {xs : List V} {ds : List PyData} (h : GTp K σ H0 te xs) (a : DpAll K H0 xs ds) (n : PyData.hasDictAll ds = false) : GDn K σ H0 (tCB (fun xs H Q => ∃ p ys, xs = [V.ref p] ∧ (SqL K H p ys ∨ SqT K H p ys) ∧ ∀ l, H l = none → Q (.ref l) (upd H l (.lst ys))) (tCons te tNil)) (.list ds) := fun H Q s k =>
  h H _ s fun p H1 s1 e => ⟨p, xs, rfl, .inr e, fun l nl => k _ _ (s1.trans (same_new nl)) ⟨.lst (SqL.of upd_same) (DpAll.same (s.trans (s1.trans (same_new nl))) a), n⟩⟩
theorem st_d {i : Nat} {te : TE} {ds : List PyData} {D : Ends} (h : GDl K σ H0 te ds) (k : ∀ p vs H', Same H0 H' → H' p = some (.lst vs) → Paired (Dd K H') vs ds → D.nx (σ.set i (some (.ref p))) H') : tAsg te (gName i) D σ H0 := h H0 _ (Same.refl H0) k
theorem sqt_mut {G : Hp} {M u : Addr} {ws ws' xs : List V} (h : SqT K G u xs) (hM : G M = some (.lst ws)) : SqT K (upd G M (.lst ws')) u xs := by
  rcases h with (h | ⟨o, h⟩) | h
  · exact .inl (.inl (by rw [upd_ne (ne_of h hM (fun z => nomatch z))]; exact h))
  · exact .inl (.inr ⟨o, by rw [upd_ne (ne_of h hM (fun z => nomatch z))]; exact h⟩)
  · exact .inr h
theorem dpall_at {H : Hp} : ∀ {vs : List V} {ds : List PyData} {n : Nat} {v : V}, DpAll K H vs ds → vs[n]? = some v → ∃ d, ds[n]? = some d ∧ Dp K H v d
  | _, _, n, v, .nil, e => by simp at e
  | _, _, 0, v, .cons a _, e => by
    simp only [List.getElem?_cons_zero, Option.some.injEq] at e
    subst e
    exact ⟨_, rfl, a⟩
  | _, _, n + 1, v, .cons _ al, e => by
    simp only [List.getElem?_cons_succ] at e ⊢
    exact dpall_at al e
theorem gdl_lc {i : Nat} {ta : TA} {te : TE} {ds : List PyData} {xf : V → List V} {fd : PyData → List PyData} (ha : GNa K σ H0 ta ds) (la : ds.length ≤ 10) (hw : ∀ v, wipe ((wipe σ [i]).set i (some v)) [i] = wipe σ [i]) (hb : ∀ v, GTp K ((wipe σ [i]).set i (some v)) H0 te (xf v)) (hx : ∀ v d G, Same H0 G → Dp K G v d → DpAll K G (xf v) (fd d)) (hn : ∀ d ∈ ds, PyData.hasDictAll (fd d) = false) : GDl K σ H0 (tLc (iTup K (tTup ta)) (gName i) tYes te [i]) (ds.map fun d => .tuple (fd d)) := fun H Q s k =>
  ha H _ s fun vs H1 s1 a => ⟨by rw [DpAll.length a, sizeLine_eq]; omega, fun p np => ⟨p, rfl, ⟨_, SqT.of upd_same⟩, fun M nM => by
    have sp := same_new (o := .tup vs) np
    have lvd := DpAll.length a
    refine lc_tup (K := K) (xs := vs) (fun n G => Same (upd H1 p (.tup vs)) G ∧ ∃ us : List V, G M = some (.lst us) ∧ Paired (fun u d => ∃ t xs, u = V.ref t ∧ SqT K G t xs ∧ DpAll K (upd H1 p (.tup vs)) xs (fd d)) us (ds.take n)) ⟨same_new nM, [], upd_same, .nil⟩ (fun n G _ z => SqT.of (z.1 _ _ upd_same)) (fun n v G hv z => ?_) (fun G z => ?_)
    · obtain ⟨s2, us, hM, pr⟩ := z
      obtain ⟨d, ed, dv⟩ := dpall_at a hv
      refine ⟨hw _, tyes ?_⟩
      refine hb v G _ (s.trans (s1.trans (sp.trans s2))) fun u G2 s3 eu => ?_
      have hM3 := s3 _ _ hM
      have lv := Paired.length pr
      rw [List.length_take] at lv
      have smut := same_mut (o := .lst (us ++ [.ref u])) (s2.trans s3) nM
      refine ⟨us, hM3, by rw [sizeLine_eq]; omega, smut, us ++ [.ref u], upd_same, ?_⟩
      have tk : ds.take (n + 1) = ds.take n ++ [d] := by rw [List.take_succ, ed]; rfl
      rw [tk]
      refine Paired.append2 (pr.mono fun w e h => ?_) (.cons ⟨u, _, rfl, sqt_mut eu hM3, hx v d _ (s.trans (s1.trans sp)) (Dp.same sp dv)⟩ .nil)
      obtain ⟨t, xs, e1, e2, e3⟩ := h
      exact ⟨t, xs, e1, sqt_mut (sqT_same s3 e2) hM3, e3⟩
    · obtain ⟨s2, us, hM, pr⟩ := z
      rw [lvd, List.take_length] at pr
      refine k M us G (s1.trans (sp.trans s2)) hM ?_
      have go : ∀ {us : List V} {ds' : List PyData}, (∀ d ∈ ds', d ∈ ds) → Paired (fun u d => ∃ t xs, u = V.ref t ∧ SqT K G t xs ∧ DpAll K (upd H1 p (.tup vs)) xs (fd d)) us ds' → Paired (Dd K G) us (ds'.map fun d => .tuple (fd d)) := fun {us ds'} hm pr => by
        induction pr with
        | nil => exact .nil
        | cons h _ ih =>
          obtain ⟨t, xs, rfl, e2, e3⟩ := h
          exact .cons (.base (.tup e2 (DpAll.same s2 e3)) (hn _ (hm _ (by simp)))) (ih fun d hd => hm d (by simp [hd]))
      exact go (fun _ h => h) pr⟩⟩
end
end LW
namespace LW
open PySem PySem.Spec PyProof.Rows L2 DW
section
variable {P : Program} {w : World} {K : PySem.W.Frag} {mg : Str → Option Value} {base : Heap}
/-- no name is zz -/
def NoZ (N : PlainD) : Prop := knownB N.L ("zz" : Str) = false ∧ look N.W ("zz" : Str) = none
abbrev odN : List Str := ["dice", "plain", "row", "work", "some", "one"]
theorem scOd : FnScope odN ["dice", "plain"] (defScope s_law_odd_row) := ⟨rfl, rfl, rfl, by decide +kernel, rfl, by decide +kernel, by decide +kernel⟩
def spOd (K : PySem.W.Frag) : Sp := fun vs H Q _ => ∃ (D pl : Addr) (N : PlainD), vs = [.ref D, .ref pl] ∧ Dc H D ∧ pl ≠ D ∧ PlainAt K H pl N ∧ OkN N ∧ N.W ≠ [] ∧ NoZ N ∧ ∀ v H', But D H H' → Dc H' D → OddR K H' (sortN N) v → Q v H'
theorem dps_row {H : Hp} {r : R4} : DpAll K H (r4V r) [.str r.1, .str r.2.1, .str r.2.2.1, .int r.2.2.2] := .cons (.str _) (.cons (.str _) (.cons (.str _) (.cons (.int _) .nil)))
theorem r4_cut (r : R4) : cutV (r4V r) none (some 3) = [.str r.1, .str r.2.1, .str r.2.2.1] := rfl
theorem r4_one (r : R4) : cutV (r4V r) (some 1) none = [.str r.2.1, .str r.2.2.1, .int r.2.2.2] := rfl
theorem r4_two (r : R4) : cutV (r4V r) (some 2) none = [.str r.2.2.1, .int r.2.2.2] := rfl
theorem gt_c3 {σ : L2.St} {H0 : Hp} {te : TE} {r : R4} (h : GTp K σ H0 te (r4V r)) : GTp K σ H0 (tSl (rSlT K) te tNoPart (tPart (tC (.int 3)))) [.str r.1, .str r.2.1, .str r.2.2.1] := gt_cut (n := 3) h (show HT.sIx 4 4 (some 3) ≠ 4 by decide)
theorem gt_f1 {σ : L2.St} {H0 : Hp} {te : TE} {r : R4} (h : GTp K σ H0 te (r4V r)) : GTp K σ H0 (tSl (rSlT K) te (tPart (tC (.int 1))) tNoPart) [.str r.2.1, .str r.2.2.1, .int r.2.2.2] := gt_from (n := 1) h (show HT.sIx 4 0 (some 1) ≠ 0 by decide)
theorem gt_f2 {σ : L2.St} {H0 : Hp} {te : TE} {r : R4} (h : GTp K σ H0 te (r4V r)) : GTp K σ H0 (tSl (rSlT K) te (tPart (tC (.int 2))) tNoPart) [.str r.2.2.1, .int r.2.2.2] := gt_from (n := 2) h (show HT.sIx 4 0 (some 2) ≠ 0 by decide)
theorem gt_1 {σ : L2.St} {H0 : Hp} {te : TE} {v : V} (h : Giv σ H0 te v) : GTp K σ H0 (tTup (tCons te tNil)) [v] := gt_tup (ga1 h ga0) (by show 1 ≤ 10; decide)
theorem gt_r1 {σ : L2.St} {H0 : Hp} {ta tb : TE} {a b c v : V} (ha : GTp K σ H0 ta [v]) (hb : GTp K σ H0 tb [a, b, c]) : GTp K σ H0 (tOp (rCatT K) ta tb) [v, a, b, c] := gt_cat ha hb (by simp) (by simp) (by simp)
theorem ok_od {f fA fP : Addr} {fd dA dP : FuncData} (F : Fun K "_law_odd_row" "_law_odd_row" s_law_odd_row f fd) (CA : Cal P w K mg base 3 "_law_a_row" ["dice", "plain"] (spAr K) fA dA) (CP : Cal P w K mg base 2 "_law_pick" ["dice", "items"] (spPick K) fP dP)
    (zS : mg "sorted" = none) (zL : mg "list" = none) : FnOk P w K mg base CX0 4 f fd ["dice", "plain"] (spOd K) := by
  refine F.ok scOd (fun vs H Q E h => ?_) (fun cdv A outer s H vs Q E hr h => ?_)
  · obtain ⟨D, pl, N, rfl, _⟩ := h
    rfl
  obtain ⟨D, pl, N, rfl, hD, npl, plain, ok, Wne, nz, k⟩ := h
  refine ⟨_, C8.pss_cut (ps_asg (pe_tup (pa_cons (pe_cal (E := E0) CA hr rfl (pa_cons (pv 0) (pa_cons (pv 1) pa_nil))) (pa_cons (pe_cal (E := E0) CP hr rfl (pa_cons (pv 0) (pa_cons (pe_callB (cr_srtL rfl hr.units) (by rfl) zS (by decide +kernel) (pa_cons (pe_ix (r := rIxL K) ix_list (pv 1) pe_int (fun _ _ => rfl)) pa_nil)) pa_nil))) pa_nil))) (pg_tup rfl (pgs_cons (pg_name (i := 2) scOd.nd rfl (.inr rfl)) (pgs_cons (pg_name (i := 3) scOd.nd rfl (.inl rfl)) pgs_nil))))
    (C8.pss_cut (ps_set (i := 4) scOd.nd rfl (Or.inl rfl) (pe_lst (pa_cons pe_non (pa_cons pe_int (pa_cons (pe_tup pa_nil) (pa_cons pe_str (pa_cons pe_dnewK (pa_cons (pe_callTy call_list_of (by rfl) zL (by decide +kernel) (pa_cons (pv 2) pa_nil)) (pa_cons (pe_slice (r := rSlT K) sl_tup (pv 2) po_none (po_some pe_int)) (pa_cons (pe_op (r := rCatT K) op_catT (pv 2) (pe_tup (pa_cons pe_int pa_nil))) (pa_cons (pe_op (r := rCatT K) op_catT (pe_tup (pa_cons pe_non pa_nil)) (pe_slice (r := rSlT K) sl_tup (pv 2) (po_some pe_int) po_none)) (pa_cons (pe_op (r := rCatT K) op_catT (pe_tup (pa_cons pe_str pa_nil)) (pe_slice (r := rSlT K) sl_tup (pv 2) (po_some pe_int) po_none)) pa_nil))))))))))))
    (C8.pss_cut (ps_set (i := 4) scOd.nd rfl (Or.inl rfl) (pe_op op_cat (pv 4) (pe_lc (own := [("one", 5)]) (g := gName 5) (tt := tYes) (te := tOp (rCatT K) (tSl (rSlT K) (tVar 2) tNoPart (tPart (tC (.int 3)))) (tTup (tCons (tVar 5) tNil))) rfl scOd.nd (pi_tup (pe_tup (pa_cons pe_bl (pa_cons pe_non (pa_cons pe_str (pa_cons (pe_op op_powW pe_int pe_int) (pa_cons (pe_op op_sub pe_int (pe_op op_powW pe_int pe_int)) (pa_cons (pe_tup pa_nil) pa_nil)))))))) (blkOk_by (own := [("one", 5)]) (N := odN) (sc := defScope s_law_odd_row) (by decide +kernel))
        (fun _ _ _ _ _ => pg_name (i := 5) scOd.nd rfl (Or.inl rfl)) (fun _ _ _ _ _ => pts_nil) (fun _ _ _ _ _ => pe_op (r := rCatT K) op_catT (pe_slice (r := rSlT K) sl_tup (pv 2) po_none (po_some pe_int)) (pe_tup (pa_cons (pv 5) pa_nil))))))
    (C8.pss_cut (ps_set (i := 4) scOd.nd rfl (Or.inl rfl) (pe_op op_cat (pv 4) (pe_lst (pa_cons (pe_op (r := rCatT K) op_catT (pe_tup (pa_cons (pe_ix (r := rIxT K) ix_tup (pv 2) pe_int (fun _ _ => rfl)) (pa_cons pe_str pa_nil))) (pe_slice (r := rSlT K) sl_tup (pv 2) (po_some pe_int) po_none)) (pa_cons (pe_tup (pa_cons (pe_ix (r := rIxT K) ix_tup (pv 2) pe_int (fun _ _ => rfl)) (pa_cons (pe_ix (r := rIxT K) ix_tup (pv 2) pe_int (fun _ _ => rfl)) (pa_cons pe_str (pa_cons (pe_ix (r := rIxT K) ix_tup (pv 2) pe_int (fun _ _ => rfl)) pa_nil))))) (pa_cons (pe_op (r := rCatT K) op_catT (pe_tup (pa_cons (pe_ix (r := rIxT K) ix_tup (pv 2) pe_int (fun _ _ => rfl)) (pa_cons pe_non pa_nil))) (pe_slice (r := rSlT K) sl_tup (pv 2) (po_some pe_int) po_none)) pa_nil))))))
    (pss_one (ps_ret (pe_cal (E := E0) CP hr rfl (pa_cons (pv 0) (pa_cons (pe_op op_cat (pv 4) (pe_lst (pa_cons (pe_tup (pa_cons pe_str (pa_cons (pe_ix (r := rIxT K) ix_tup (pe_dget (hu_of hr) (pe_ix (r := rIxL K) ix_list (pv 1) pe_int (fun _ _ => rfl)) (pv 3) (fun _ _ => rfl)) pe_int (fun _ _ => rfl)) (pa_cons (pv 3) (pa_cons pe_int pa_nil))))) (pa_cons (pe_tup (pa_cons pe_str (pa_cons pe_str (pa_cons (pe_lst (pa_cons pe_str pa_nil)) (pa_cons pe_int pa_nil))))) (pa_cons (pe_tup (pa_cons (pv 2) pa_nil)) pa_nil))))) pa_nil)))))))), ?_⟩
  -- row, work
  refine ⟨fun σ' H' => ∃ (t : Addr) (r : R4) (n : Str), σ' = [some (.ref D), some (.ref pl), some (.ref t), some (.str n), none, none] ∧ But D H H' ∧ Dc H' D ∧ PlainAt K H' pl N ∧ H' t = some (.tup (r4V r)) ∧ RowOk (sortN N) r ∧ n ∈ wkC N, ?_, ?_⟩
  · refine ⟨_, rfl, _, rfl, D, pl, N, rfl, hD, npl, plain, ok, Wne, fun t r H1 b1 hD1 ht rok => ?_⟩
    have plain1 := pl_roll hD b1 npl plain
    obtain ⟨a, b, c, hp, ta, tb, tc⟩ := id plain1
    have l2 := ok.w.len
    refine ⟨_, rfl, _, rfl, pl, _, 1, _, rfl, rfl, SqL.of hp, atI_nat (j := 1) rfl, .ref b, _, rfl, Lot.names (.inl ⟨b, rfl, tb⟩), by rw [List.length_map]; omega, fun wl nwl => ?_⟩
    have sw := same_new (o := .lst ((srt (N.W.map (·.1))).map V.str)) nwl
    refine ⟨D, .ref wl, rfl, hD1.same sw, .inl ⟨wl, _, rfl, new_ne hD1 nwl, upd_same, ?_, ?_, fun u H' hu b' hd => ?_⟩⟩
    · rw [List.length_map, srt_len, List.length_map]
      exact List.length_pos_iff.mpr Wne
    · rw [List.length_map, srt_len, List.length_map]
      omega
    · obtain ⟨n, hn, rfl⟩ := List.mem_map.mp hu
      refine ⟨by show 2 ≤ sizeLine; decide, fun q nq => ?_⟩
      have sq := same_new (o := .tup [V.ref t, V.str n]) nq
      exact ⟨q, _, rfl, SqT.of upd_same, rfl, _, _, rfl, _, _, rfl, rfl, t, r, n, rfl, b1.trans ((Same.but sw).trans (b'.trans (Same.but sq))), hd.same sq, (pl_roll (hD1.same sw) b' npl (plain1.same sw)).same sq, sq _ _ (but_tup (hD1.same sw) b' (sw _ _ ht)), rok, hn⟩
  rintro _ H1 ⟨t, r, n, rfl, b1, hD1, plain1, ht, rok, hn⟩
  obtain ⟨p0, hp0, en⟩ := List.mem_map.mp (srt_mem.mp hn)
  have ly : look N.W n = some p0.2 := by rw [← en]; exact DW.look_of ok.w.nd hp0
  generalize p0.2 = y at ly
  have oy := ok.w.wk _ (look_mem ly)
  have we : wkO (sortN N) y.2.1 = some n := by
    rw [wk_sort ok]
    exact DW.look_of (endW_nodup ok.w) (List.mem_map.mpr ⟨(n, y), look_mem ly, rfl⟩)
  have sqr : SqT K H1 t (r4V r) := SqT.of ht
  have dr := dps_row (K := K) (H := H1) (r := r)
  -- some
  refine ⟨fun σ' H' => ∃ (p : Addr) (vs : List V), σ' = [some (.ref D), some (.ref pl), some (.ref t), some (.str n), some (.ref p), none] ∧ Same H1 H' ∧ H' p = some (.lst vs) ∧ Paired (Dd K H') vs (oddL r y.2.1 n), ?_, ?_⟩
  · refine st_d (ds := oddL r y.2.1 n) (gdl_lst (gda_cons (gd_n (gn_v gv_c (fun _ => .non) rfl)) (gda_cons (gd_n (gn_v gv_c (fun _ => .int _) rfl)) (gda_cons (gd_n (gn_tup gna_nil (by decide) rfl)) (gda_cons (gd_n (gn_v gv_c (fun _ => .str _) rfl)) (gda_cons gd_dnew
      (gda_cons (gd_n (gn_list (gt_v rfl sqr) dr rfl)) (gda_cons (gd_n (gt_n (gt_c3 (gt_v rfl sqr)) (.cons (.str _) (.cons (.str _) (.cons (.str _) .nil))) rfl)) (gda_cons (gd_n (gt_n (gt_cat (gt_v rfl sqr) (gt_1 gv_c) (fun z => by cases z) (fun z => by cases z) (by show 4 + 1 ≤ 20; decide)) (.cons (.str _) (.cons (.str _) (.cons (.str _) (.cons (.int _) (.cons (.int _) .nil))))) rfl))
      (gda_cons (gd_n (gt_n (gt_r1 (gt_1 gv_c) (gt_f1 (gt_v rfl sqr))) (.cons .non (.cons (.str _) (.cons (.str _) (.cons (.int _) .nil)))) rfl))
      (gda_cons (gd_n (gt_n (gt_r1 (gt_1 gv_c) (gt_f1 (gt_v rfl sqr))) (.cons (.str _) (.cons (.str _) (.cons (.str _) (.cons (.int _) .nil)))) rfl)) gda_nil)))))))))) (by show 10 ≤ 20; decide)) fun p vs H' s hp pr => ⟨p, vs, rfl, s, hp, pr⟩
  rintro _ H2 ⟨p2, vs2, rfl, s2, hp2, pr2⟩
  -- .. + [row[:3] + (one,) ..]
  refine ⟨fun σ' H' => ∃ (p : Addr) (vs : List V), σ' = [some (.ref D), some (.ref pl), some (.ref t), some (.str n), some (.ref p), none] ∧ Same H1 H' ∧ H' p = some (.lst vs) ∧ Paired (Dd K H') vs (oddL r y.2.1 n ++ oddM r), ?_, ?_⟩
  · have sqr2 : SqT K H2 t (r4V r) := sqT_same s2 sqr
    refine st_d (ds := oddL r y.2.1 n ++ oddM r) (gdl_cat (gdl_v rfl hp2 pr2) (gdl_lc (xf := fun v => [.str r.1, .str r.2.1, .str r.2.2.1, v]) (fd := fun x => [.str r.1, .str r.2.1, .str r.2.2.1, x])
      (gna_cons (gn_v gv_c (fun _ => .bl _) rfl) (gna_cons (gn_v gv_c (fun _ => .non) rfl) (gna_cons (gn_v gv_c (fun _ => .str _) rfl) (gna_cons (gn_v gv_p40 (fun _ => .int _) rfl) (gna_cons (gn_v (gv_sub gv_c gv_p40) (fun _ => .int _) rfl) (gna_cons (gn_tup gna_nil (by decide) rfl) gna_nil)))))) (by show 6 ≤ 10; decide) (fun _ => rfl)
      (fun v => gt_cat (gt_c3 (gt_v rfl sqr2)) (gt_1 (gv_v rfl)) (fun z => by cases z) (fun z => by cases z) (by show 3 + 1 ≤ 20; decide)) (fun v d G _ h => .cons (.str _) (.cons (.str _) (.cons (.str _) (.cons h .nil)))) (by
        intro d hd
        simp only [List.mem_cons, List.not_mem_nil, or_false] at hd
        rcases hd with rfl | rfl | rfl | rfl | rfl | rfl <;> rfl)) (by show 10 + 6 ≤ 100; decide)) fun p vs H' s hp pr => ⟨p, vs, rfl, s2.trans s, hp, pr⟩
  clear hp2 pr2 s2
  rintro _ H3 ⟨p3, vs3, rfl, s3, hp3, pr3⟩
  refine ⟨fun σ' H' => ∃ (p : Addr) (vs : List V), σ' = [some (.ref D), some (.ref pl), some (.ref t), some (.str n), some (.ref p), none] ∧ Same H1 H' ∧ H' p = some (.lst vs) ∧ Paired (Dd K H') vs ((oddL r y.2.1 n ++ oddM r) ++ oddN r), ?_, ?_⟩
  · have sqr3 : SqT K H3 t (r4V r) := sqT_same s3 sqr
    refine st_d (ds := (oddL r y.2.1 n ++ oddM r) ++ oddN r) (gdl_cat (gdl_v rfl hp3 pr3) (gdl_lst
      (gda_cons (gd_n (gt_n (gt_cat (gt_tup (ga1 (gv_ixT rfl sqr3 0 rfl) (ga1 gv_c ga0)) (by show 2 ≤ 10; decide)) (gt_f2 (gt_v rfl sqr3)) (fun z => by cases z) (fun z => by cases z) (by show 2 + 2 ≤ 20; decide)) (.cons (.str _) (.cons (.str _) (.cons (.str _) (.cons (.int _) .nil)))) rfl))
      (gda_cons (gd_n (gt_n (gt_tup (ga1 (gv_ixT rfl sqr3 0 rfl) (ga1 (gv_ixT rfl sqr3 1 rfl) (ga1 gv_c (ga1 (gv_ixT rfl sqr3 3 rfl) ga0)))) (by show 4 ≤ 10; decide)) (.cons (.str _) (.cons (.str _) (.cons (.str _) (.cons (.int _) .nil)))) rfl))
      (gda_cons (gd_n (gt_n (gt_cat (gt_tup (ga1 (gv_ixT rfl sqr3 0 rfl) (ga1 gv_c ga0)) (by show 2 ≤ 10; decide)) (gt_f2 (gt_v rfl sqr3)) (fun z => by cases z) (fun z => by cases z) (by show 2 + 2 ≤ 20; decide)) (.cons (.str _) (.cons .non (.cons (.str _) (.cons (.int _) .nil)))) rfl)) gda_nil))) (by show 3 ≤ 20; decide)) (by show 16 + 3 ≤ 100; decide)) fun p vs H' s hp pr => ⟨p, vs, rfl, s3.trans s, hp, pr⟩
  clear hp3 pr3 s3
  rintro _ H4 ⟨p4, vs4, rfl, s4, hp4, pr4⟩
  have sqr4 : SqT K H4 t (r4V r) := sqT_same s4 sqr
  have plain4 := plain1.same s4
  have hD4 := hD1.same s4
  have sk : RowSm r := rok.sm ok.sort
  refine ⟨_, rfl, gdl_cat (K := K) (σ := [some (.ref D), some (.ref pl), some (.ref t), some (.str n), some (.ref p4), none]) (gdl_v (i := 4) rfl hp4 pr4) (gdl_lst (ds := oddO r y.2.1 n)
      (gda_cons (gd_n (gt_n (gt_tup (ga1 gv_c (ga1 (gv_wkq rfl rfl plain4 ly) (ga1 (gv_v rfl) (ga1 gv_c ga0)))) (by show 4 ≤ 10; decide)) (.cons (.str _) (.cons (.str _) (.cons (.str _) (.cons (.int _) .nil)))) rfl))
      (gda_cons (gd_n (gn_tup (gna_cons (gn_v gv_c (fun _ => .str _) rfl) (gna_cons (gn_v gv_c (fun _ => .str _) rfl) (gna_cons (gn_lst (gna_cons (gn_v gv_c (fun _ => .str _) rfl) gna_nil) (by decide) rfl) (gna_cons (gn_v gv_c (fun _ => .int _) rfl) gna_nil)))) (by decide) rfl))
      (gda_cons (gd_n (gn_tup (gna_cons (gt_n (gt_v rfl sqr4) (dps_row (K := K)) rfl) gna_nil) (by show 1 ≤ 10; decide) rfl)) gda_nil))) (by show 3 ≤ 20; decide)) (by show 19 + 3 ≤ 100; decide) H4 _ (Same.refl H4) fun p vs H5 s5 hp pr => ?_⟩
  have hD5 := hD4.same s5
  have lv : vs.length = 22 := Paired.length pr
  have npD : p ≠ D := by
    rintro rfl
    obtain ⟨d0, d1, d2, e⟩ := hD5
    rw [hp] at e
    cases e
    cases pr with
    | cons h _ => cases h with
      | base h _ => cases h
  refine ⟨D, .ref p, rfl, hD5, .inl ⟨p, vs, rfl, npD, hp, by omega, by omega, fun u G hu b6 hD6 => ?_⟩⟩
  obtain ⟨i, hi⟩ := List.mem_iff_getElem?.mp hu
  obtain ⟨d, hd, dd⟩ := pairedAt pr hi
  have od : OddD (sortN N) d := odd_ok ok.sort rok ((know_sort ok _).trans nz.1) ((look_sort ok _).trans nz.2) we (sok_known ok.l oy.e) (sok_wk ok ly) d (List.mem_of_getElem? hd)
  exact k u G (b1.trans ((Same.but (s4.trans s5)).trans b6)) hD6 (OddR.butN hD5 (But.butN b6) ⟨d, dd, od⟩)
end
end LW
namespace LW
open PySem PySem.Spec PyProof.Rows L2 DW
theorem strs_sh (ks : List Str) (h : ∀ z ∈ ks, PyData.strOk z = true) : SeqAt.shaped (.list (ks.map .str)) = true := by
  have h1 : ∀ ks : List Str, (∀ z ∈ ks, PyData.strOk z = true) → PyData.canLayAll0 (ks.map .str) = true := fun ks h => by
    induction ks with
    | nil => rfl
    | cons k r ih => simp [PyData.canLayAll0, PyData.canLay0, ih fun z m => h z (List.mem_cons_of_mem _ m), h k (List.mem_cons_self ..)]
  have h2 : ∀ ks : List Str, PyData.depthAll (ks.map .str) ≤ 1 := fun ks => by
    induction ks with
    | nil => simp [PyData.depthAll]
    | cons k r ih => simp only [List.map_cons, PyData.depthAll, PyData.depth]; omega
  unfold SeqAt.shaped
  rw [Bool.and_eq_true]
  refine ⟨by simp [PyData.canLay0, h1 ks h], decide_eq_true ?_⟩
  have := h2 ks
  simp only [PyData.depth]
  omega
theorem eqv_strsA : ∀ ks ls : List Str, PyData.eqvAll (ks.map .str) (ls.map .str) = decide (ks = ls)
  | [], [] => by simp [PyData.eqvAll]
  | [], _ :: _ => by simp [PyData.eqvAll]
  | _ :: _, [] => by simp [PyData.eqvAll]
  | k :: ks, l :: ls => by
    show (PyData.eqv (.str k) (.str l) && PyData.eqvAll _ _) = _
    rw [eqv_strsA ks ls]
    show ((k == l) && _) = _
    by_cases e : k = l <;> by_cases e2 : ks = ls <;> simp [e, e2]
theorem dp_strL {K : PySem.W.Frag} {H : Hp} (l : List Str) : DpAll K H (l.map V.str) (l.map PyData.str) := dp_strs l
/-- [..] != [..], texts -/
theorem ne_strs {K : PySem.W.Frag} {H : Hp} {p q : Addr} {ks ls : List Str} {Q : VK} (hp : H p = some (.lst (ks.map V.str))) (hq : H q = some (.lst (ls.map V.str))) (ok : ∀ z ∈ ks, PyData.strOk z = true) (ol : ∀ z ∈ ls, PyData.strOk z = true) (k : Q (.bl (!decide (ks = ls))) H) : rNeD K (.ref p) (.ref q) H Q :=
  ⟨.list (ks.map .str), .list (ls.map .str), .lst (SqL.of hp) (dp_strL ks), .lst (SqL.of hq) (dp_strL ls), strs_sh ks ok, strs_sh ls ol, by rw [show PyData.eqv (.list (ks.map .str)) (.list (ls.map .str)) = decide (ks = ls) from eqv_strsA ks ls]; exact k⟩
theorem eq_strs {K : PySem.W.Frag} {H : Hp} {p q : Addr} {ks ls : List Str} {Q : VK} (hp : H p = some (.lst (ks.map V.str))) (hq : H q = some (.lst (ls.map V.str))) (ok : ∀ z ∈ ks, PyData.strOk z = true) (ol : ∀ z ∈ ls, PyData.strOk z = true) (k : Q (.bl (decide (ks = ls))) H) : rEqD K (.ref p) (.ref q) H Q :=
  ⟨.list (ks.map .str), .list (ls.map .str), .lst (SqL.of hp) (dp_strL ks), .lst (SqL.of hq) (dp_strL ls), strs_sh ks ok, strs_sh ls ol, by rw [show PyData.eqv (.list (ks.map .str)) (.list (ls.map .str)) = decide (ks = ls) from eqv_strsA ks ls]; exact k⟩
/-- the first word that isn't none -/
def firstW : List Str → Str
  | [] => "none"
  | z :: r => if z = ("none" : Str) then firstW r else z
theorem first_fil : ∀ ws : List Str, firstW ws = ((ws.filter fun z => !decide (z = ("none" : Str))).head?).getD "none"
  | [] => rfl
  | z :: r => by
    unfold firstW
    by_cases e : z = ("none" : Str)
    · rw [if_pos e, List.filter_cons_of_neg (by simp [e]), first_fil r]
    · rw [if_neg e, List.filter_cons_of_pos (by simp [e])]
      rfl
theorem fil_nil : ∀ ws : List Str, (ws.filter fun z => !decide (z = ("none" : Str))) = [] → ws = List.replicate ws.length ("none" : Str)
  | [], _ => rfl
  | z :: r, h => by
    by_cases e : z = ("none" : Str)
    · rw [List.filter_cons_of_neg (by simp [e])] at h
      rw [List.length_cons, List.replicate_succ, e, ← fil_nil r h]
    · rw [List.filter_cons_of_pos (by simp [e])] at h
      cases h
theorem first_rep (n : Nat) : firstW (List.replicate n ("none" : Str)) = "none" := by
  induction n with
  | zero => rfl
  | succ n ih => rw [List.replicate_succ]; unfold firstW; rw [if_pos rfl, ih]
section
variable {P : Program} {w : World} {K : PySem.W.Frag} {mg : Str → Option Value} {base : Heap}
abbrev fiN : List Str := ["words", "word"]
theorem scFi2 : FnScope fiN ["words"] (defScope s_law_first) := ⟨rfl, rfl, rfl, by decide +kernel, rfl, by decide +kernel, by decide +kernel⟩
def spFi : Sp := fun vs H Q _ => ∃ (p : Addr) (ws : List Str), vs = [.ref p] ∧ H p = some (.lst (ws.map V.str)) ∧ ws.length ≤ 10 ∧ (∀ z ∈ ws, PyData.strOk z = true) ∧ ∀ H', Same H H' → Q (.str (firstW ws)) H'
theorem ok_first {f : Addr} {fd : FuncData} (F : Fun K "_law_first" "_law_first" s_law_first f fd) (zL : mg "len" = none) : FnOk P w K mg base CX0 1 f fd ["words"] spFi := by
  refine F.ok scFi2 (fun vs H Q E h => ?_) (fun cdv A outer s H vs Q E hr h => ?_)
  · obtain ⟨p, ws, rfl, _⟩ := h
    rfl
  obtain ⟨p, ws, rfl, hp, lw, sw, k⟩ := h
  refine ⟨_, pss_one (ps_ret (pe_ifExp (pt_cmpR (op_neD hr.units) (pv 0) (pe_op op_rep (pe_lst (pa_cons pe_str pa_nil)) (pe_callB call_len_seq (by rfl) zL PySem.boot_len (pa_cons (pv 0) pa_nil))) (nomark _))
    (pe_ix (r := rIxL K) ix_list (pe_lc (own := [("word", 1)]) (g := gName 1) (tt := tTest (tOp rNe (tVar 1) (tC (.str "none")))) (te := tVar 1) rfl scFi2.nd (pi_list (pe_op op_cat (pv 0) (pe_lst (pa_cons pe_str pa_nil)))) (blkOk_by (own := [("word", 1)]) (N := fiN) (sc := defScope s_law_first) (by decide +kernel))
        (fun _ _ _ _ _ => pg_name (i := 1) scFi2.nd rfl (Or.inl rfl)) (fun _ _ _ _ _ => pts_one (pt_cmpR op_ne (pv 1) pe_str (nomark _))) (fun _ _ _ _ _ => pv 1)) pe_int (fun _ _ => rfl)) pe_str)), ?_⟩
  have k' : ∀ H', Same H H' → ∀ {z : Str}, firstW ws = z → Q (.str z) H' := fun H' s z e => e ▸ k H' s
  have none_ok : PyData.strOk ("none" : Str) = true := by decide +kernel
  refine ⟨_, rfl, by show 1 ≤ sizeLine; decide, fun q nq => ?_⟩
  have sq := same_new (o := .lst [V.str "none"]) nq
  have efl : (List.replicate ws.length [V.str "none"]).flatten = (List.replicate ws.length ("none" : Str)).map V.str := by
    generalize ws.length = n
    induction n with
    | zero => rfl
    | succ n ih => rw [List.replicate_succ, List.replicate_succ, List.flatten_cons, ih]; rfl
  refine ⟨_, rfl, p, _, rfl, .inl (SqL.of (sq _ _ hp)), q, _, _, rfl, rfl, upd_same, ?_, ?_, ?_, fun r nr => ?_⟩
  · rw [List.length_map]; omega
  · rw [List.length_map]; omega
  · rw [List.length_map, sizeLine_eq]
    show 1 * ((ws.length : Int)).toNat ≤ _
    omega
  have sr := same_new (o := .lst (List.replicate ((List.map V.str ws).length : Int).toNat [V.str "none"]).flatten) nr
  have s2 := sq.trans sr
  refine ne_strs (ks := ws) (ls := List.replicate ws.length ("none" : Str)) (s2 _ _ hp) ?_ sw (fun z m => by rw [List.eq_of_mem_replicate m]; exact none_ok) ⟨_, rfl, ?_⟩
  · rw [upd_same, ← efl, List.length_map]
    rfl
  by_cases e : ws = List.replicate ws.length ("none" : Str)
  · rw [decide_eq_true e]
    refine iteF ?_
    refine k' _ s2 ?_
    rw [e, first_rep]
  rw [decide_eq_false e]
  refine iteT ?_
  have hp2 := s2 _ _ hp
  generalize upd (upd H q (HO.lst [V.str "none"])) r (.lst (List.replicate ((List.map V.str ws).length : Int).toNat [V.str "none"]).flatten) = G at s2 hp2 ⊢
  refine ⟨_, rfl, by show 1 ≤ sizeLine; decide, fun q2 nq2 => ?_⟩
  have sq2 := same_new (o := .lst [V.str "none"]) nq2
  refine ⟨p, q2, _, _, rfl, rfl, sq2 _ _ hp2, upd_same, by rw [List.length_map, sizeLine_eq]; show ws.length + 1 ≤ _; omega, fun c nc => ⟨c, rfl, ⟨_, SqL.of upd_same⟩, fun M nM => ?_⟩⟩
  have sc := same_new (o := .lst (ws.map V.str ++ [V.str "none"])) nc
  have s3 := s2.trans (sq2.trans sc)
  have hc : (upd (upd G q2 (HO.lst [V.str "none"])) c (.lst (ws.map V.str ++ [V.str "none"]))) c = some (.lst ((ws ++ [("none" : Str)]).map V.str)) := by rw [upd_same, List.map_append]; rfl
  generalize upd (upd G q2 (HO.lst [V.str "none"])) c (.lst (ws.map V.str ++ [V.str "none"])) = G2 at s3 hc nM ⊢
  refine lc_list (K := K) (xs := (ws ++ [("none" : Str)]).map V.str) (fun m G => Same G2 G ∧ G M = some (.lst ((((ws ++ [("none" : Str)]).take m).filter fun z => !decide (z = ("none" : Str))).map V.str))) ⟨same_new nM, upd_same⟩ (fun m G3 _ z => SqL.of (z.1 _ _ hc)) (fun m v G3 hv z => ?_) (fun G3 z => ?_)
  · obtain ⟨s4, hM⟩ := z
    rw [List.getElem?_map] at hv
    obtain ⟨z, hz, rfl⟩ := Option.map_eq_some_iff.mp hv
    refine ⟨rfl, _, rfl, rfl, _, rfl, ?_⟩
    rw [show decide (V.str z = V.str ("none" : Str)) = decide (z = ("none" : Str)) from dec_strV]
    have et : ((ws ++ [("none" : Str)]).take (m + 1)).filter (fun z => !decide (z = ("none" : Str))) = ((ws ++ [("none" : Str)]).take m).filter (fun z => !decide (z = ("none" : Str))) ++ (if (!decide (z = ("none" : Str))) = true then [z] else []) := by
      rw [List.take_add_one, hz, List.filter_append, Option.toList_some, List.filter_cons, List.filter_nil]
    have ll : (((ws ++ [("none" : Str)]).take m).filter fun z => !decide (z = ("none" : Str))).length ≤ 300 := by
      have q1 := List.length_filter_le (fun z => !decide (z = ("none" : Str))) ((ws ++ [("none" : Str)]).take m)
      rw [List.length_take, List.length_append] at q1
      have : ws.length ≤ 10 := lw
      have : [("none" : Str)].length = 1 := rfl
      omega
    rw [et]
    cases (!decide (z = ("none" : Str))) with
    | true =>
      refine iteT ⟨_, rfl, _, hM, by rw [List.length_map, sizeLine_eq]; omega, same_mut s4 nM, ?_⟩
      rw [upd_same, List.map_append]
      rfl
    | false =>
      refine iteF ⟨s4, ?_⟩
      rw [hM]
      show _ = some (HO.lst (List.map V.str (_ ++ [])))
      rw [List.append_nil]
  obtain ⟨s4, hM⟩ := z
  rw [List.length_map, List.take_length] at hM
  have ef : (ws ++ [("none" : Str)]).filter (fun z => !decide (z = ("none" : Str))) = ws.filter fun z => !decide (z = ("none" : Str)) := by
    rw [List.filter_append]
    show _ ++ [] = _
    rw [List.append_nil]
  rw [ef] at hM
  have ew := first_fil ws
  match hf : ws.filter (fun z => !decide (z = ("none" : Str))) with
  | [] => exact absurd (fil_nil ws hf) e
  | z :: rs =>
    rw [hf] at hM ew
    exact ⟨M, _, 0, _, rfl, rfl, SqL.of hM, atI_nat (j := 0) rfl, k' _ (s3.trans s4) ew⟩
end
end LW
namespace LW
open PySem PySem.Spec PyProof.Rows L2 DW LamX
theorem tk_butN {H H' : Hp} {D : Addr} (hD : Dc H D) (b : ButN D H H') : ∀ c xs, Rd H c (.tup xs) → Rd H' c (.tup xs) := fun c xs r => by
  obtain ⟨d0, d1, d2, e⟩ := hD
  have n : c ≠ D := fun z => by
    subst z
    rcases r with r | ⟨z, r⟩ <;> rw [e] at r <;> cases r
  exact r.elim (fun r => .inl (b _ _ n r fun _ z => nomatch z)) fun ⟨z, r⟩ => .inr ⟨z, b _ _ n r fun _ z => nomatch z⟩
theorem ne_D {H : Hp} {D a : Addr} {o : HO} (hD : Dc H D) (h : H a = some o) (n : ∀ xs, o ≠ .lst xs) : a ≠ D := fun z => by
  obtain ⟨d0, d1, d2, e⟩ := hD
  rw [z, e] at h
  cases h
  exact n _ rfl
section
variable {K : PySem.W.Frag}
theorem TD.butN {α : Type} {enc : α → PyData} {H H' : Hp} {D a : Addr} {rs : List (Str × α)} (g : GE enc) (hD : Dc H D) (b : ButN D H H') (h : TD enc K H a rs) : TD enc K H' a rs := by
  obtain ⟨kvs, e, t⟩ := h
  exact ⟨kvs, b _ _ (ne_D hD e fun _ z => nomatch z) e (fun _ z => nomatch z), t.stay g (tk_butN hD b)⟩
theorem NetAt.butN {C : Addr} {H H' : Hp} {D x : Addr} {N : PlainD} (hD : Dc H D) (b : ButN D H H') (h : NetAt K C H x N) : NetAt K C H' x N := by
  obtain ⟨dx, la, wa, ba, ea, ra, h1, h2, h3, h4, ⟨ke, e5, t5⟩, ⟨kt, e6, t6⟩⟩ := h
  exact ⟨dx, la, wa, ba, ea, ra, b _ _ (ne_D hD h1 fun _ z => nomatch z) h1 (fun _ z => nomatch z), TD.butN ge_in hD b h2, TD.butN ge_wk hD b h3, TD.butN ge_bd hD b h4, ⟨ke, b _ _ (ne_D hD e5 fun _ z => nomatch z) e5 (fun _ z => nomatch z), tx_st t5⟩, ⟨kt, b _ _ (ne_D hD e6 fun _ z => nomatch z) e6 (fun _ z => nomatch z), t6.tk (tk_butN hD b)⟩⟩
theorem PlainAt.butN {H H' : Hp} {D pl : Addr} {N : PlainD} (hD : Dc H D) (b : ButN D H H') (n : pl ≠ D) (h : PlainAt K H pl N) : PlainAt K H' pl N := by
  obtain ⟨a, c, e, h1, h2, h3, h4⟩ := h
  exact ⟨a, c, e, b _ _ n h1 (fun _ z => nomatch z), TD.butN ge_in hD b h2, TD.butN ge_wk hD b h3, TD.butN ge_bd hD b h4⟩
end
/-- what is no net -/
inductive NnV (D : Addr) (H : Hp) : V → Prop
  | non : NnV D H .non
  | int (i : Int) : NnV D H (.int i)
  | str (z : Str) : NnV D H (.str z)
  | tup {t : Addr} {xs : List V} (h : H t = some (.tup xs)) : NnV D H (.ref t)
  | lst {t : Addr} {xs : List V} (n : t ≠ D) (h : H t = some (.lst xs)) : NnV D H (.ref t)
  | dct {t : Addr} {kvs : List (Key × V)} (h : H t = some (.dK kvs)) : NnV D H (.ref t)
theorem NnV.butN {D : Addr} {H H' : Hp} {v : V} (hD : Dc H D) (b : ButN D H H') (h : NnV D H v) : NnV D H' v := by
  cases h with
  | non => exact .non
  | int i => exact .int i
  | str z => exact .str z
  | tup h => exact .tup (b _ _ (ne_D hD h fun _ z => nomatch z) h fun _ z => nomatch z)
  | lst n h => exact .lst n (b _ _ n h fun _ z => nomatch z)
  | dct h => exact .dct (b _ _ (ne_D hD h fun _ z => nomatch z) h fun _ z => nomatch z)
theorem NnV.not {K : PySem.W.Frag} {C D : Addr} {H : Hp} {v : V} (KN : ∀ t ∈ (["NoneType", "int", "tuple", "dict", "list", "str"] : List String), PySem.W.kitOne K (.type t) (.ref C) = some false) (h : NnV D H v) : NotNet K C H v := by
  cases h with
  | non => exact ⟨_, .base .non, KN _ (by simp)⟩
  | int i => exact ⟨_, .base (.int i), KN _ (by simp)⟩
  | str z => exact ⟨_, .base (.str z), KN _ (by simp)⟩
  | tup h => exact ⟨_, .base (.tup h), KN _ (by simp)⟩
  | lst n h => exact ⟨_, .base (.lst h), KN _ (by simp)⟩
  | dct h => exact ⟨_, .base (.dK h), KN _ (by simp)⟩
/-- a comprehension over zip of two lists -/
theorem lc_zipL {K : PySem.W.Frag} {a b : Addr} {xs ys : List V} {g : TG} {tt : L2.TT} {te : TE} {vs : List Nat} {σ : L2.St} {H1 : Hp} {D : Addr} {Qd : Hp → Prop} (hl : ys.length ≤ xs.length) (Pv : Nat → Hp → Prop) (h0 : Pv 0 (upd H1 D (.lst [])))
    (hq : ∀ i H, Pv i H → SqL K H a xs ∧ SqL K H b ys)
    (hs : ∀ i x y T H, xs[i]? = some x → ys[i]? = some y → Pv i H → H T = none → g (.ref T) (wipe σ vs) (upd H T (.tup [x, y])) fun σ2 H2 => wipe σ2 vs = wipe σ vs ∧ tt σ2 H2 fun c H3 =>
      if c = true then te σ2 H3 fun z H4 => ∃ acc, H4 D = some (.lst acc) ∧ acc.length < sizeLine ∧ Pv (i + 1) (upd H4 D (.lst (acc ++ [z]))) else Pv (i + 1) H3) (hd : ∀ H, Pv ys.length H → Qd H) :
    ∃ W : Nat → Nat → Hp → Prop, (∃ m, W 0 m (upd H1 D (.lst []))) ∧ ∀ i m H, W i m H →
      ((Itz K a b).stop i H ∧ Qd H) ∨ ((Itz K a b).go i H ∧ ∃ Nx : Hp → Prop, (∀ H', Nx H' → ∃ m', m' < m ∧ W (i + 1) m' H') ∧ ∀ v H', (Itz K a b).yld i H v H' → g v (wipe σ vs) H' fun σ2 H2 => wipe σ2 vs = wipe σ vs ∧ tt σ2 H2 fun c H3 =>
        if c = true then te σ2 H3 fun z H4 => ∃ acc, H4 D = some (.lst acc) ∧ acc.length < sizeLine ∧ Nx (upd H4 D (.lst (acc ++ [z]))) else Nx H3) := by
  refine ⟨fun i m H => m = ys.length - i ∧ i ≤ ys.length ∧ Pv i H, ⟨ys.length, by simp, Nat.zero_le _, h0⟩, ?_⟩
  rintro i m H ⟨rfl, hi, p⟩
  obtain ⟨qx, qy⟩ := hq i H p
  by_cases hlt : i < ys.length
  · have hx : xs[i]? = some xs[i] := List.getElem?_eq_getElem (by omega)
    have hy : ys[i]? = some ys[i] := List.getElem?_eq_getElem hlt
    refine .inr ⟨⟨xs, ys, _, _, qx, qy, hx, hy⟩, Pv (i + 1), fun H' p' => ⟨ys.length - (i + 1), by omega, rfl, hlt, p'⟩, fun v H' z => ?_⟩
    obtain ⟨T, x, y, rfl, nT, rfl, e1, e2⟩ := z
    exact hs i x y T H (e1 xs qx) (e2 ys qy) p nT
  · have e : i = ys.length := by omega
    subst e
    exact .inl ⟨⟨xs, ys, qx, qy, .inr (Nat.le_refl _)⟩, hd H p⟩
/-- the words of what is bad -/
def zipW (ws : List Str) (bs : List Bool) : List Str := List.zipWith (fun w b => if b = true then w else ("none" : Str)) ws bs
section
variable {K : PySem.W.Frag} {σ : L2.St} {H : Hp} {Q : VK}
/-- [word if wrong else "none" for word, wrong in zip([..], bad)] -/
theorem rd_words {i j l : Nat} {ta : TA} {ws : List Str} {bs : List Bool} {b : Addr} (hta : ∀ (G : Hp) (R : List V → Hp → Prop), R (ws.map V.str) G → ta σ G R) (hl : σ[l]? = some (some (.ref b))) (hb : H b = some (.lst (bs.map V.bl))) (lw : ws.length = bs.length) (l10 : ws.length ≤ 10)
    (hw : ∀ v u, wipe (((wipe σ [i, j]).set i (some v)).set j (some u)) [i, j] = wipe σ [i, j]) (hi : ∀ v u, (((wipe σ [i, j]).set i (some v)).set j (some u))[i]? = some (some v)) (hj : ∀ v u, (((wipe σ [i, j]).set i (some v)).set j (some u))[j]? = some (some u))
    (k : ∀ p H', Same H H' → H' p = some (.lst ((zipW ws bs).map V.str)) → Q (.ref p) H') :
    tLc (iZip K (tCons (tLst ta) (tCons (tVar l) tNil))) (gTup K 2 (gCons (gName i) (gCons (gName j) gNil))) tYes (tIf (tB (tVar j)) (tVar i) (tC (.str "none"))) [i, j] σ H Q := by
  refine hta H _ ⟨by rw [List.length_map, sizeLine_eq]; omega, fun q nq => ?_⟩
  have sq := same_new (o := .lst (ws.map V.str)) nq
  refine ⟨_, hl, q, b, _, _, rfl, SqL.of upd_same, SqL.of (sq _ _ hb), fun M nM => ?_⟩
  refine lc_zipL (K := K) (xs := ws.map V.str) (ys := bs.map V.bl) (by rw [List.length_map, List.length_map]; omega) (fun m G => Same (upd H q (.lst (ws.map V.str))) G ∧ G M = some (.lst (((zipW ws bs).take m).map V.str))) ⟨same_new nM, upd_same⟩
    (fun m G z => ⟨SqL.of (z.1 _ _ upd_same), SqL.of (z.1 _ _ (sq _ _ hb))⟩) (fun m x y T G hx hy z nT => ?_) (fun G z => ?_)
  · obtain ⟨s1, hM⟩ := z
    rw [List.getElem?_map] at hx hy
    obtain ⟨w, ew, rfl⟩ := Option.map_eq_some_iff.mp hx
    obtain ⟨c, ec, rfl⟩ := Option.map_eq_some_iff.mp hy
    have sT := same_new (o := .tup [V.str w, V.bl c]) nT
    refine ⟨T, _, rfl, SqT.of upd_same, rfl, _, _, rfl, _, _, rfl, rfl, hw _ _, tyes ⟨_, hj _ _, c, rfl, ?_⟩⟩
    have ez : (zipW ws bs)[m]? = some (if c = true then w else ("none" : Str)) := by
      unfold zipW
      rw [List.getElem?_zipWith, ew, ec]
    have et : (zipW ws bs).take (m + 1) = (zipW ws bs).take m ++ [if c = true then w else ("none" : Str)] := by
      rw [List.take_add_one, ez]
      rfl
    have lz : ((zipW ws bs).take m).length ≤ 10 := by
      rw [List.length_take]
      have : (zipW ws bs).length ≤ ws.length := by unfold zipW; rw [List.length_zipWith]; omega
      omega
    have hM2 := sT _ _ hM
    cases c with
    | true => exact iteT ⟨_, hi _ _, _, hM2, by rw [List.length_map, sizeLine_eq]; omega, same_mut (s1.trans sT) nM, by rw [upd_same, et, List.map_append]; rfl⟩
    | false => exact iteF ⟨_, hM2, by rw [List.length_map, sizeLine_eq]; omega, same_mut (s1.trans sT) nM, by rw [upd_same, et, List.map_append]; rfl⟩
  · obtain ⟨s1, hM⟩ := z
    have lz : (zipW ws bs).length = bs.length := by unfold zipW; rw [List.length_zipWith]; omega
    rw [List.length_map, ← lz, List.take_length] at hM
    exact k M G (sq.trans s1) hM
/-- [_law_roll(dice, 3) == 0 for one in range(n)] -/
theorem rd_bad {i n : Nat} {D : Addr} (ln : n ≤ 10) (hD : Dc H D) (hw : ∀ v, wipe ((wipe σ [i]).set i (some v)) [i] = wipe σ [i]) (h0 : ∀ v, ((wipe σ [i]).set i (some v))[0]? = some (some (.ref D)))
    (k : ∀ (b : Addr) (bs : List Bool) (H' : Hp), H' b = some (.lst (bs.map V.bl)) → bs.length = n → But D H H' → Dc H' D → b ≠ D → Q (.ref b) H') :
    tLc (iRng1 (tCons (tC (.int n)) tNil)) (gName i) tYes (tOp rEq (tCall spRoll [] E0 (tCons (tVar 0) (tCons (tC (.int 3)) tNil))) (tC (.int 0))) [i] σ H Q := by
  refine ⟨(n : Int), rfl, by omega, by omega, fun L nL => ?_⟩
  have LD : L ≠ D := new_ne hD nL
  have sL := same_new (o := .lst []) nL
  rw [Int.toNat_natCast]
  refine lc_range (lo := 0) (n := n) (fun m G => But D H G ∧ Dc G D ∧ ∃ bs : List Bool, G L = some (.lst (bs.map V.bl)) ∧ bs.length = m) ⟨Same.but sL, hD.same sL, [], upd_same, rfl⟩ (fun m G hm z => ?_) (fun G z => ?_)
  · obtain ⟨b3, c3, bs, hL, lb⟩ := z
    obtain ⟨d0, d1, d2, eD⟩ := id c3
    refine ⟨hw _, tyes ⟨_, h0 _, D, d0, d1, d2, 3, rfl, eD, by decide, by decide, fun r f0 f2 r0 r1 => ⟨rfl, ?_⟩⟩⟩
    have b4 : But D G (upd G D (.lst [.int f0, .int d1, .int f2])) := But.upd
    have c4 : Dc (upd G D (.lst [.int f0, .int d1, .int f2])) D := ⟨_, _, _, upd_same⟩
    have hL4 := b4 _ _ LD hL
    refine ⟨_, hL4, by rw [List.length_map, sizeLine_eq]; omega, but_mut (b3.trans b4) nL, dc_upd c4 LD, bs ++ [_], by rw [upd_same, List.map_append]; rfl, by rw [List.length_append, lb]; rfl⟩
  · obtain ⟨b3, c3, bs, hL, lb⟩ := z
    exact k L bs G hL lb b3 c3 LD
end
end LW
namespace LW
open PySem PySem.Spec PyProof.Rows L2 DW LamX
section
variable {K : PySem.W.Frag} {σ : L2.St} {H : Hp}
theorem tb_ix {i : Nat} {b : Addr} {bs : List Bool} {c : Bool} (j : Nat) {R : Bool → Hp → Prop} (hi : σ[i]? = some (some (.ref b))) (hb : H b = some (.lst (bs.map V.bl))) (hj : bs[j]? = some c) (k : R c H) : tB (tOp (rIxL K) (tVar i) (tC (.int (j : Nat)))) σ H R :=
  ⟨_, hi, b, _, _, _, rfl, rfl, SqL.of hb, atI_nat (j := j) (v := V.bl c) (by rw [List.getElem?_map, hj]; rfl), _, rfl, k⟩
end
/-- a row, or none -/
def RowQ (K : PySem.W.Frag) (H : Hp) (N : PlainD) (b : Bool) (v : V) : Prop := (b = true ∧ OddR K H N v) ∨ (b = false ∧ ∃ t r, v = .ref t ∧ H t = some (.tup (r4V r)) ∧ RowOk N r)
section
variable {K : PySem.W.Frag} {H H' : Hp} {N : PlainD} {b : Bool} {v : V} {D : Addr}
theorem RowQ.butN (hD : Dc H D) (bn : ButN D H H') (h : RowQ K H N b v) : RowQ K H' N b v := by
  rcases h with ⟨e, o⟩ | ⟨e, t, r, rfl, ht, ro⟩
  · exact .inl ⟨e, o.butN hD bn⟩
  · exact .inr ⟨e, t, r, rfl, bn _ _ (ne_D hD ht fun _ z => nomatch z) ht (fun _ z => nomatch z), ro⟩
theorem RowQ.v2 (h : RowQ K H N b v) : ∃ o, RowV2 K H N v o ∧ o.isSome = !b := by
  rcases h with ⟨rfl, o⟩ | ⟨rfl, t, r, rfl, ht, ro⟩
  · exact ⟨none, o.val, rfl⟩
  · exact ⟨some r, ⟨t, rfl, ht, ro⟩, rfl⟩
end
/-- what stands while errors are asked for -/
structure TuJ (K : PySem.W.Frag) (C : Addr) (T : List (Addr × Str)) (H0 : Hp) (D pl x : Addr) (N : PlainD) (H : Hp) : Prop where
  bt : ButN D H0 H
  dc : Dc H D
  tb : Tabs T H
  npl : pl ≠ D
  plain : PlainAt K H pl N
  net : NetAt K C H x (sortN N)
section
variable {K : PySem.W.Frag} {C : Addr} {T : List (Addr × Str)} {H0 H H' : Hp} {D pl x : Addr} {N : PlainD}
theorem TuJ.go (j : TuJ K C T H0 D pl x N H) (b : ButN D H H') (dc : Dc H' D) (tb : Tabs T H') : TuJ K C T H0 D pl x N H' :=
  ⟨j.bt.trans b, dc, tb, j.npl, PlainAt.butN j.dc b j.npl j.plain, NetAt.butN j.dc b j.net⟩
theorem TuJ.same (j : TuJ K C T H0 D pl x N H) (s : Same H H') : TuJ K C T H0 D pl x N H' := j.go (DW.ExtN.butN (Same.extN s)) (j.dc.same s) (DW.Tabs.same j.tb s)
theorem TuJ.roll (j : TuJ K C T H0 D pl x N H) (b : But D H H') (dc : Dc H' D) : TuJ K C T H0 D pl x N H' := j.go (But.butN b) dc (tabs_but j.dc b j.tb)
theorem TuJ.ext (j : TuJ K C T H0 D pl x N H) (s : ExtN H H') (tb : Tabs T H') : TuJ K C T H0 D pl x N H' := j.go (DW.ExtN.butN s) (Dc.ext s j.dc) tb
end
section
variable {K : PySem.W.Frag} {σ : L2.St} {H : Hp} {Q : VK}
/-- an odd row or a row -/
theorem rd_rowp {tt : L2.TT} {c : Bool} {C x D pl : Addr} {T : List (Addr × Str)} {H0 : Hp} {N : PlainD} (j : TuJ K C T H0 D pl x N H) (h0 : σ[0]? = some (some (.ref D))) (h1 : σ[1]? = some (some (.ref pl))) (ok : OkN N) (Wne : N.W ≠ []) (nz : NoZ N) (ht : ∀ R : Bool → Hp → Prop, R c H → tt σ H R)
    (k : ∀ v H', But D H H' → Dc H' D → RowQ K H' (sortN N) c v → Q v H') : tIf tt (tCall (spOd K) [] E0 (tCons (tVar 0) (tCons (tVar 1) tNil))) (tCall (spAr K) [] E0 (tCons (tVar 0) (tCons (tVar 1) tNil))) σ H Q := by
  refine ht _ ?_
  cases c with
  | true => exact iteT ⟨_, h0, _, h1, D, pl, N, rfl, j.dc, j.npl, j.plain, ok, Wne, nz, fun v H' b hd o => k v H' b hd (.inl ⟨rfl, o⟩)⟩
  | false => exact iteF ⟨_, h0, _, h1, D, pl, N, rfl, j.dc, j.npl, j.plain, ok, Wne, fun t r H' b hd ht ro => k _ H' b hd (.inr ⟨rfl, t, r, rfl, ht, ro⟩)⟩
/-- one of a list -/
theorem rd_pk {i : Nat} {D p : Addr} {vs : List V} (hD : Dc H D) (h0 : σ[0]? = some (some (.ref D))) (hi : σ[i]? = some (some (.ref p))) (np : p ≠ D) (hp : H p = some (.lst vs)) (l0 : 0 < vs.length) (l1 : vs.length < 1000) (k : ∀ v H', v ∈ vs → But D H H' → Dc H' D → Q v H') :
    tCall (spPick K) [] E0 (tCons (tVar 0) (tCons (tVar i) tNil)) σ H Q := ⟨_, h0, _, hi, D, .ref p, rfl, hD, .inl ⟨p, vs, rfl, np, hp, l0, l1, fun u H' hu b hd => k u H' hu b hd⟩⟩
end
def mdW : List Str := ["net", "operation", "row", "row"]
theorem zw_ok {ws : List Str} (h : ∀ z ∈ ws, PyData.strOk z = true) : ∀ bs : List Bool, ∀ z ∈ zipW ws bs, PyData.strOk z = true := fun bs z m => by
  unfold zipW at m
  obtain ⟨i, hi, e⟩ := List.mem_iff_getElem.mp m
  rw [List.getElem_zipWith] at e
  rw [← e]
  split
  · exact h _ (List.getElem_mem _)
  · decide +kernel
/-- the word of an error of made -/
theorem made_wd {K : PySem.W.Frag} {C CE CO CW : Addr} {H1 : Hp} {x : Addr} {N : PlainD} {b0 b1 b2 b3 : Bool} {v1 v2 v3 v4 : V} {Q : VK} (ex : ExW K CE CW CO) (h1 : (b0 = true ∧ NotNet K C H1 v1) ∨ (b0 = false ∧ v1 = .ref x ∧ NetAt K C H1 x N ∧ OkN N))
    (h2 : (b1 = true ∧ NoRl K H1 v2) ∨ (b1 = false ∧ ∃ l : Rl, v2 = .str l.s ∧ (l.two = true → RowQ K H1 N b3 v4) ∧ (l.two = false → (b3 = false → v4 = .non) ∧ (b3 = true → v4 = .non → b2 = true)))) (h3 : RowQ K H1 N b2 v3)
    (k : ∀ G, Same H1 G → Q (.str (firstW (zipW mdW [b0, b1, b2, b3]))) G) : spMdE K C CE CO CW [v1, v2, v3, v4] H1 (fun _ G => Q (.str "none") G) (eWd K CE CW CO Q) := by
  refine ⟨v1, v2, v3, v4, rfl, ?_⟩
  rcases h1 with ⟨rfl, nn⟩ | ⟨rfl, rfl, net, ok⟩
  · have e : ∀ b1 b2 b3 : Bool, firstW (zipW mdW [true, b1, b2, b3]) = "net" := by decide +kernel
    rw [e] at k
    exact .inl ⟨nn, fun G s => ex.e (k G s)⟩
  refine .inr ⟨x, N, rfl, net, ok, ?_⟩
  rcases h2 with ⟨rfl, nr⟩ | ⟨rfl, l, rfl, o1, o2⟩
  · have e : ∀ b2 b3 : Bool, firstW (zipW mdW [false, true, b2, b3]) = "operation" := by decide +kernel
    rw [e] at k
    exact .inl ⟨nr, fun G s => ex.o (k G s)⟩
  obtain ⟨r, rv, re⟩ := h3.v2
  refine .inr ⟨l, r, rfl, rv, ?_⟩
  have eT : ∀ b3 : Bool, firstW (zipW mdW [false, false, true, b3]) = "row" := by decide +kernel
  have eF : firstW (zipW mdW [false, false, false, true]) = "row" := by decide +kernel
  have eN : firstW (zipW mdW [false, false, false, false]) = "none" := by decide +kernel
  cases b2 with
  | true =>
    rw [eT] at k
    refine .inl ⟨?_, fun G s => ex.w (k G s)⟩
    cases r with
    | none => rfl
    | some _ => cases re
  | false =>
    refine .inr ⟨re, !b3, ?_, ?_, fun h u G s => ?_, fun h G s => ?_⟩
    · intro two
      obtain ⟨q, qv, qe⟩ := (o1 two).v2
      exact ⟨q, qv, qe⟩
    · intro two
      obtain ⟨p1, p2⟩ := o2 two
      cases b3 with
      | true =>
        rw [decide_eq_false]
        · rfl
        · exact fun z => by cases p2 rfl z
      | false => rw [decide_eq_true (p1 rfl)]; rfl
    · cases b3 with
      | true => cases h
      | false => rw [eN] at k; exact k G s
    · cases b3 with
      | true => rw [eF] at k; exact ex.w (k G s)
      | false => cases h
end LW
namespace LW
open PySem PySem.Spec PyProof.Rows L2 DW LamX
structure MdX (P : Program) (w : World) (K : PySem.W.Frag) (mg : Str → Option Value) (base : Heap) (C CE CO CW f : Addr) (fd : FuncData) (ds : List Value) : Prop where
  G : FnOk P w K mg base (L2.CX P w) 6 f fd ["net", "rule", "row", "other"] (spMdE K C CE CO CW)
  kp : PySem.W.keepIn K (.ref f) = true
  g : mg "made" = some (.ref f)
  b : Binds K fd ["net", "rule", "row", "other"] ds
  d : Vals [.non] ds
  kb : KBn K fd ["net", "rule", "row", "other"] 3 ["other"] (fun us ws => us ++ ws) (fun vs zs => vs ++ zs)
abbrev mrN : List Str := ["dice", "plain", "net", "rules", "odd_nets", "odd_rules", "turn", "one", "bad", "needs", "words", "other", "row", "rule", "word", "wrong"]
theorem scMr2 : FnScope mrN ["dice", "plain", "net"] (defScope s_law_made_right) := ⟨rfl, rfl, rfl, by decide +kernel, rfl, by decide +kernel, by decide +kernel⟩
def spMr2 (K : PySem.W.Frag) (C : Addr) (T : List (Addr × Str)) : Sp := fun vs H Q _ => ∃ (D pl x : Addr) (N : PlainD), vs = [.ref D, .ref pl, .ref x] ∧ Dc H D ∧ pl ≠ D ∧ PlainAt K H pl N ∧ OkN N ∧ N.W ≠ [] ∧ NoZ N ∧ NetAt K C H x (sortN N) ∧ Tabs T H ∧ ∀ H', ButN D H H' → Dc H' D → Tabs T H' → Q (.bl true) H'
def oddRl : List PyData := [.none, .str "", .str "Joined", .str "told", .str "bound", .str "wait", .int 0, .bool true, .tuple [.str "joined"], .list [], .str "joined "]
abbrev tBad (K : PySem.W.Frag) (j : Int) : TE := tOp (rIxL K) (tVar 8) (tC (.int j))
abbrev sM (D pl x rl on orl : Addr) (x6 x7 x8 x9 x10 x11 x12 x13 : Option V) : L2.St := [some (.ref D), some (.ref pl), some (.ref x), some (.ref rl), some (.ref on), some (.ref orl), x6, x7, x8, x9, x10, x11, x12, x13, none, none]
/-- the lists that are picked from -/
def MrL (K : PySem.W.Frag) (D rl on orl : Addr) (H : Hp) : Prop := rl ≠ D ∧ H rl = some (.lst (rulesL.map V.str)) ∧ on ≠ D ∧ (∃ vs, H on = some (.lst vs) ∧ vs.length = 8 ∧ ∀ v ∈ vs, NnV D H v) ∧ orl ≠ D ∧ ∃ vs, H orl = some (.lst vs) ∧ Paired (Dd K H) vs oddRl
theorem oddRl_ni : ∀ d ∈ oddRl, noI d = true := by
  intro d hd
  simp only [oddRl, List.mem_cons, List.not_mem_nil, or_false] at hd
  rcases hd with rfl | rfl | rfl | rfl | rfl | rfl | rfl | rfl | rfl | rfl | rfl <;> rfl
theorem oddRl_sh : ∀ d ∈ oddRl, SeqAt.shaped d = true ∧ (rulesL.map PyData.str).any (fun z => PyData.eqv z d) = false := by
  intro d hd
  simp only [oddRl, List.mem_cons, List.not_mem_nil, or_false] at hd
  rcases hd with rfl | rfl | rfl | rfl | rfl | rfl | rfl | rfl | rfl | rfl | rfl <;> exact ⟨by decide +kernel, by decide +kernel⟩
theorem dds_butN {K : PySem.W.Frag} {H H' : Hp} {D : Addr} (hD : Dc H D) (b : ButN D H H') {vs : List V} {ds : List PyData} (h : Paired (Dd K H) vs ds) : (∀ d ∈ ds, noI d = true) → Paired (Dd K H') vs ds := by
  induction h with
  | nil => exact fun _ => .nil
  | cons a _ ih => exact fun n => .cons (dd_butN hD b (n _ (by simp)) a) (ih fun d m => n d (by simp [m]))
theorem MrL.butN {K : PySem.W.Frag} {H H' : Hp} {D rl on orl : Addr} (hD : Dc H D) (b : ButN D H H') (h : MrL K D rl on orl H) : MrL K D rl on orl H' := by
  obtain ⟨h1, h2, h3, ⟨vs, h4, h5, h6⟩, h7, ws, h8, h9⟩ := h
  exact ⟨h1, b _ _ h1 h2 (fun _ z => nomatch z), h3, ⟨vs, b _ _ h3 h4 (fun _ z => nomatch z), h5, fun v m => (h6 v m).butN hD b⟩, h7, ws, b _ _ h7 h8 (fun _ z => nomatch z), dds_butN hD b h9 oddRl_ni⟩
theorem gdl_ne {K : PySem.W.Frag} {H : Hp} {D p : Addr} {vs : List V} {ds : List PyData} (hD : Dc H D) (hp : H p = some (.lst vs)) (pr : Paired (Dd K H) vs (.none :: ds)) : p ≠ D := by
  rintro rfl
  obtain ⟨d0, d1, d2, e⟩ := hD
  rw [hp] at e
  cases e
  cases pr with
  | cons h _ => cases h with
    | base h _ => cases h
/-- the rule, and whether it needs another row -/
def RuleQ (K : PySem.W.Frag) (H : Hp) (b nb : Bool) (v : V) : Prop := (b = true ∧ ∃ d ∈ oddRl, Dd K H v d) ∨ (b = false ∧ ∃ l : Rl, v = .str l.s ∧ nb = l.two)
theorem RuleQ.butN {K : PySem.W.Frag} {H H' : Hp} {D : Addr} {b nb : Bool} {v : V} (hD : Dc H D) (bn : ButN D H H') (h : RuleQ K H b nb v) : RuleQ K H' b nb v := by
  rcases h with ⟨e, d, m, dd⟩ | h
  · exact .inl ⟨e, d, m, dd_butN hD bn (oddRl_ni d m) dd⟩
  · exact .inr h
/-- the other one -/
def OthQ (K : PySem.W.Frag) (H : Hp) (N : PlainD) (nb b2 b3 : Bool) (v : V) : Prop := (nb = true → RowQ K H N b3 v) ∧ (nb = false → (b3 = false → v = .non) ∧ (b3 = true → v = .non → b2 = true))
theorem OthQ.butN {K : PySem.W.Frag} {H H' : Hp} {N : PlainD} {D : Addr} {nb b2 b3 : Bool} {v : V} (hD : Dc H D) (bn : ButN D H H') (h : OthQ K H N nb b2 b3 v) : OthQ K H' N nb b2 b3 v := ⟨fun e => (h.1 e).butN hD bn, h.2⟩
def OneQ (D : Addr) (x : Addr) (H : Hp) (b : Bool) (v : V) : Prop := (b = true ∧ NnV D H v) ∨ (b = false ∧ v = .ref x)
theorem OneQ.butN {H H' : Hp} {D x : Addr} {b : Bool} {v : V} (hD : Dc H D) (bn : ButN D H H') (h : OneQ D x H b v) : OneQ D x H' b v := by
  rcases h with ⟨e, d⟩ | h
  · exact .inl ⟨e, d.butN hD bn⟩
  · exact .inr h
section
variable {P : Program} {w : World} {K : PySem.W.Frag} {mg : Str → Option Value} {base : Heap}
theorem ok_mr2 {T : List (Addr × Str)} {f c Pt fR fP fA fO fF fM fW C CE CO CW : Addr} {fd dR dP dA dO dF dM dW : FuncData} {ds : List Value} (F : Fun K "_law_made_right" "_law_made_right" s_law_made_right f fd) (tk : TkS K base mg T "_law_made_right" "_law_made_right" s_law_made_right f c Pt)
    (CR : Cal P w K mg base 1 "_law_roll" ["dice", "total"] spRoll fR dR) (CP : Cal P w K mg base 2 "_law_pick" ["dice", "items"] (spPick K) fP dP) (AR : Cal P w K mg base 3 "_law_a_row" ["dice", "plain"] (spAr K) fA dA) (OD : Cal P w K mg base 4 "_law_odd_row" ["dice", "plain"] (spOd K) fO dO) (FI : Cal P w K mg base 1 "_law_first" ["words"] spFi fF dF)
    (MD : MdX P w K mg base C CE CO CW fM dM ds) (W : WdK P w K mg base CE CW CO fW dW) (ex : ExW K CE CW CO) (KN : ∀ t ∈ (["NoneType", "int", "tuple", "dict", "list", "str"] : List String), PySem.W.kitOne K (.type t) (.ref C) = some false)
    (zR : mg "range" = none) (zZ : mg "zip" = none) : FnG P w K mg base 9 f fd ["dice", "plain", "net"] (spMr2 K C T) := by
  obtain ⟨ocM, odM, kVM, docM, pmM, anM, cdM, ctM, oslM, edW, lkM, hcdM⟩ := W.F.ex
  obtain ⟨CY, hY⟩ := W.hY
  refine fngL F scMr2 (fun vs H Q h => ?_) (fun cdv A outer s H vs Q hlk hr hgu h => ?_)
  · obtain ⟨D, pl, x, N, rfl, _⟩ := h
    rfl
  obtain ⟨oc, od, kV, doc, pm, an, ct, osl, lk⟩ := hlk
  obtain rfl := tk.code _ _ _ _ _ _ _ _ _ lk
  obtain ⟨D, pl, x, N, rfl, hD, npl, plain, ok, Wne, nz, net, tb, k⟩ := h
  subst edW
  refine ⟨_, C8.pss_cut (ps_set (i := 3) scMr2.nd rfl (Or.inl rfl) (pe_lst (pa_cons pe_str (pa_cons pe_str (pa_cons pe_str (pa_cons pe_str (pa_cons pe_str (pa_cons pe_str pa_nil))))))))
    (C8.pss_cut (ps_set (i := 4) scMr2.nd rfl (Or.inl rfl) (pe_lst (pa_cons pe_non (pa_cons pe_int (pa_cons (pe_tup pa_nil) (pa_cons pe_dnewK (pa_cons pe_str (pa_cons (pe_lst (pa_cons (pv 2) pa_nil)) (pa_cons (pe_tup (pa_cons (pv 2) pa_nil)) (pa_cons (pv 1) pa_nil))))))))))
    (C8.pss_cut (ps_set (i := 5) scMr2.nd rfl (Or.inl rfl) (pe_lst (pa_cons pe_non (pa_cons pe_str (pa_cons pe_str (pa_cons pe_str (pa_cons pe_str (pa_cons pe_str (pa_cons pe_int (pa_cons pe_bl (pa_cons (pe_tup (pa_cons pe_str pa_nil)) (pa_cons (pe_lst pa_nil) (pa_cons pe_str pa_nil)))))))))))))
    (C8.pss_cut (ps_for PassesOwn.never rfl (pi_range1 rfl zR (pa_cons pe_int pa_nil)) (pg_name (i := 6) scMr2.nd rfl (.inl rfl))
      (C8.pss_cut (ps_setLc (i := 8) (own := [("one", 7)]) (g := gName 7) (tt := tYes) (te := tOp rEq (tCall spRoll [] E0 (tCons (tVar 0) (tCons (tC (.int 3)) tNil))) (tC (.int 0))) rfl scMr2.nd rfl rfl (sw_true rfl rfl rfl (by decide +kernel)) (pi_range1 rfl zR (pa_cons pe_int pa_nil)) (blkOk_by (own := [("one", 7)]) (N := mrN) (sc := defScope s_law_made_right) (by decide +kernel))
          (fun _ _ _ _ _ => pg_name (i := 7) scMr2.nd rfl (Or.inl rfl)) (fun _ _ _ _ _ => pts_nil) (fun _ _ _ _ _ => pe_cmpR op_eq (pe_cal (E := E0) (m := 8) CR hr rfl (pa_cons (pv 0) (pa_cons pe_int pa_nil))) pe_int (nomark _)))
      (C8.pss_cut (ps_set (i := 7) scMr2.nd rfl (Or.inr rfl) (pe_ifExp (pt_val (pe_ix (r := rIxL K) ix_list (pv 8) pe_int (fun _ _ => rfl))) (pe_cal (E := E0) CP hr rfl (pa_cons (pv 0) (pa_cons (pv 4) pa_nil))) (pv 2)))
      (C8.pss_cut (ps_set (i := 13) scMr2.nd rfl (Or.inr rfl) (pe_ifExp (pt_val (pe_ix (r := rIxL K) ix_list (pv 8) pe_int (fun _ _ => rfl))) (pe_cal (E := E0) CP hr rfl (pa_cons (pv 0) (pa_cons (pv 5) pa_nil))) (pe_cal (E := E0) CP hr rfl (pa_cons (pv 0) (pa_cons (pv 3) pa_nil)))))
      (C8.pss_cut (ps_set (i := 12) scMr2.nd rfl (Or.inr rfl) (pe_ifExp (pt_val (pe_ix (r := rIxL K) ix_list (pv 8) pe_int (fun _ _ => rfl))) (pe_cal (E := E0) OD hr rfl (pa_cons (pv 0) (pa_cons (pv 1) pa_nil))) (pe_cal (E := E0) AR hr rfl (pa_cons (pv 0) (pa_cons (pv 1) pa_nil)))))
      (C8.pss_cut (ps_set (i := 9) scMr2.nd rfl (Or.inl rfl) (pe_cmpR (op_inT (u65 hr)) (pv 13) (pe_tup (pa_cons pe_str (pa_cons pe_str pa_nil))) (by rfl)))
      (C8.pss_cut (ps_if (pt_val (pv 9)) (pss_one (ps_set (i := 11) scMr2.nd rfl (Or.inr rfl) (pe_ifExp (pt_val (pe_ix (r := rIxL K) ix_list (pv 8) pe_int (fun _ _ => rfl))) (pe_cal (E := E0) OD hr rfl (pa_cons (pv 0) (pa_cons (pv 1) pa_nil))) (pe_cal (E := E0) AR hr rfl (pa_cons (pv 0) (pa_cons (pv 1) pa_nil))))))
        (pss_one (ps_set (i := 11) scMr2.nd rfl (Or.inr rfl) (pe_ifExp (pt_val (pe_ix (r := rIxL K) ix_list (pv 8) pe_int (fun _ _ => rfl))) (pe_cal (E := E0) CP hr rfl (pa_cons (pv 0) (pa_cons (pe_lst (pa_cons pe_int (pa_cons pe_bl (pa_cons (pe_tup pa_nil) (pa_cons (pv 12) (pa_cons (pe_cal (E := E0) AR hr rfl (pa_cons (pv 0) (pa_cons (pv 1) pa_nil))) (pa_cons pe_str pa_nil))))))) pa_nil))) pe_non))))
      (C8.pss_cut (ps_setLc (i := 10) (own := [("word", 14), ("wrong", 15)]) (g := gTup K 2 (gCons (gName 14) (gCons (gName 15) gNil))) (tt := tYes) (te := tIf (tB (tVar 15)) (tVar 14) (tC (.str "none"))) rfl scMr2.nd rfl rfl (sw_true rfl rfl rfl (by decide +kernel)) (pi_zip rfl zZ (pa_cons (pe_lst (pa_cons pe_str (pa_cons pe_str (pa_cons pe_str (pa_cons pe_str pa_nil))))) (pa_cons (pv 8) pa_nil))) (blkOk_by (own := [("word", 14), ("wrong", 15)]) (N := mrN) (sc := defScope s_law_made_right) (by decide +kernel))
          (fun _ _ _ _ _ => pg_tup rfl (pgs_cons (pg_name (i := 14) scMr2.nd rfl (Or.inl rfl)) (pgs_cons (pg_name (i := 15) scMr2.nd rfl (Or.inl rfl)) pgs_nil))) (fun _ _ _ _ _ => pts_nil) (fun _ _ _ _ _ => pe_ifExp (pt_val (pv 15)) (pv 14) pe_str))
      (C8.pss_cut (ps_if (pt_cmpR op_ne (pe_lamcallG (k := 6) (T := T) (Ng := ["call"]) (TT := TWd K CE CW CO) (t := fun E => tCallN 3 (["other"] : List Str).length (spMdE K C CE CO CW) (fun vs zs => vs ++ zs) E (tCons (tVar 7) (tCons (tVar 13) (tCons (tVar 12) tNil))) (tCons (tVar 11) tNil)) rfl W.g W.kp hgu lkM hcdM W.b scWd rfl (.inl rfl) (wd_gives W.hE W.hW W.hO hY) tk.tb rfl tk.mem tk.un (hr.mono (by decide)) (lamS_by (by rfl)) rfl (fun _ _ _ _ _ => rfl)
            (fun A outer s H E f c' hr2 hg2 => pe_callN (E := E) MD.G hr2 rfl MD.g MD.kp MD.kb (passE (takes_of rfl rfl rfl rfl)) (pa_cons (pv 7) (pa_cons (pv 13) (pa_cons (pv 12) pa_nil))) (pk_cons (pv 11) pk_nil)))
          (pe_cal (E := E0) FI hr rfl (pa_cons (pv 10) pa_nil)) (nomark _)) (pss_one (ps_ret pe_bl)) pss_nil)
      (pss_one (ps_if (PW.pt (pw_and (pt_val (pv 9)) (pw_and (pt_not (pt_val (pe_ix (r := rIxL K) ix_list (pv 8) pe_int (fun _ _ => rfl)))) (pw_and (pt_not (pt_val (pe_ix (r := rIxL K) ix_list (pv 8) pe_int (fun _ _ => rfl)))) (pw_and1 (pt_cmpR op_ne
          (pe_lamcallG (k := 6) (T := T) (Ng := ["call"]) (TT := TWd K CE CW CO) (t := fun E => tCall (spMdE K C CE CO CW) [V.non] E (tCons (tVar 2) (tCons (tVar 13) (tCons (tCall (spAr K) [] E0 (tCons (tVar 0) (tCons (tVar 1) tNil))) tNil)))) rfl W.g W.kp hgu lkM hcdM W.b scWd rfl (.inl rfl) (wd_gives W.hE W.hW W.hO hY) tk.tb rfl tk.mem tk.un (hr.mono (by decide)) (lamS_by (by rfl)) rfl (fun _ _ _ _ _ => rfl)
            (fun A outer s H E f c' hr2 hg2 => pe_call (E := E) MD.G hr2 rfl MD.g MD.kp MD.b MD.d (passE (takes_of rfl rfl rfl rfl)) (pa_cons (pv 2) (pa_cons (pv 13) (pa_cons (pe_cal (E := E0) (m := 6) AR hr2 rfl (pa_cons (pv 0) (pa_cons (pv 1) pa_nil))) pa_nil)))))
          pe_str (nomark _))))))) (pss_one (ps_ret pe_bl)) pss_nil)))))))))))
    (pss_one (ps_ret pe_bl))))), ?_⟩
  have j0 : TuJ K C T H D pl x N H := ⟨ButN.refl, hD, tb, npl, plain, net⟩
  clear plain net tb
  -- rules
  refine ⟨fun σ' H' => ∃ rl, σ' = [some (.ref D), some (.ref pl), some (.ref x), some (.ref rl), none, none, none, none, none, none, none, none, none, none, none, none] ∧ Same H H' ∧ H' rl = some (.lst (rulesL.map V.str)) ∧ rl ≠ D, ⟨by show 6 ≤ sizeLine; decide, fun q nq => ⟨q, rfl, same_new nq, upd_same, new_ne hD nq⟩⟩, ?_⟩
  rintro _ H1 ⟨rl, rfl, s1, hrl, nrl⟩
  have j1 := j0.same s1
  clear j0
  -- odd nets
  refine ⟨fun σ' H' => ∃ on vs, σ' = [some (.ref D), some (.ref pl), some (.ref x), some (.ref rl), some (.ref on), none, none, none, none, none, none, none, none, none, none, none] ∧ Same H1 H' ∧ on ≠ D ∧ H' on = some (.lst vs) ∧ vs.length = 8 ∧ ∀ v ∈ vs, NnV D H' v, ?_, ?_⟩
  · refine ⟨by show 0 ≤ sizeLine; decide, fun t1 n1 => fun d1 nd => ⟨_, rfl, by show 1 ≤ sizeLine; decide, fun l1 nl => ⟨_, rfl, by show 1 ≤ sizeLine; decide, fun t2 n2 => ⟨_, rfl, by show 8 ≤ sizeLine; decide, fun p np => ?_⟩⟩⟩⟩
    have a1 := same_new (o := .tup []) n1
    have a2 := same_new (o := .dK []) nd
    have a3 := same_new (o := .lst [V.ref x]) nl
    have a4 := same_new (o := .tup [V.ref x]) n2
    have a5 := same_new (o := .lst [V.non, V.int 0, V.ref t1, V.ref d1, V.str "net", V.ref l1, V.ref t2, V.ref pl]) np
    have aa := a1.trans (a2.trans (a3.trans (a4.trans a5)))
    obtain ⟨ea, ec, ee, hpl, _⟩ := id j1.plain
    refine ⟨p, _, rfl, aa, new_ne (j1.dc.same (a1.trans (a2.trans (a3.trans a4)))) np, upd_same, rfl, fun v m => ?_⟩
    simp only [List.mem_cons, List.not_mem_nil, or_false] at m
    rcases m with rfl | rfl | rfl | rfl | rfl | rfl | rfl | rfl
    · exact .non
    · exact .int _
    · exact .tup ((a2.trans (a3.trans (a4.trans a5))) _ _ upd_same)
    · exact .dct ((a3.trans (a4.trans a5)) _ _ upd_same)
    · exact .str _
    · exact .lst (new_ne (j1.dc.same (a1.trans a2)) nl) ((a4.trans a5) _ _ upd_same)
    · exact .tup (a5 _ _ upd_same)
    · exact .lst npl (aa _ _ hpl)
  rintro _ H2 ⟨on, vs, rfl, s2, non, hon, lon, nns⟩
  have j2 := j1.same s2
  have hrl2 := s2 _ _ hrl
  clear j1 hrl
  -- odd rules
  refine ⟨fun σ' H' => ∃ orl, σ' = sM D pl x rl on orl none none none none none none none none ∧ TuJ K C T H D pl x N H' ∧ MrL K D rl on orl H', ?_, ?_⟩
  · refine st_d (K := K) (ds := oddRl) (gdl_lst (gda_cons (gd_n (gn_v gv_c (fun _ => .non) rfl)) (gda_cons (gd_n (gn_v gv_c (fun _ => .str _) rfl)) (gda_cons (gd_n (gn_v gv_c (fun _ => .str _) rfl)) (gda_cons (gd_n (gn_v gv_c (fun _ => .str _) rfl)) (gda_cons (gd_n (gn_v gv_c (fun _ => .str _) rfl)) (gda_cons (gd_n (gn_v gv_c (fun _ => .str _) rfl)) (gda_cons (gd_n (gn_v gv_c (fun _ => .int _) rfl)) (gda_cons (gd_n (gn_v gv_c (fun _ => .bl _) rfl))
      (gda_cons (gd_n (gn_tup (gna_cons (gn_v gv_c (fun _ => .str _) rfl) gna_nil) (by decide) rfl)) (gda_cons (gd_n (gn_lst gna_nil (by decide) rfl)) (gda_cons (gd_n (gn_v gv_c (fun _ => .str _) rfl)) gda_nil))))))))))) (by decide)) fun p ws H' s hp pr => ?_
    have j3 := j2.same s
    have bs : ButN D H2 H' := DW.ExtN.butN (Same.extN s)
    exact ⟨p, rfl, j3, nrl, s _ _ hrl2, non, ⟨vs, s _ _ hon, lon, fun v m => (nns v m).butN j2.dc bs⟩, gdl_ne j3.dc hp pr, ws, hp, pr⟩
  clear j2 hrl2 hon nns
  rintro _ H3 ⟨orl, rfl, j3, m3⟩
  refine ⟨fun σ' H' => ∃ x6 x7 x8 x9 x10 x11 x12 x13, σ' = sM D pl x rl on orl x6 x7 x8 x9 x10 x11 x12 x13 ∧ TuJ K C T H D pl x N H' ∧ MrL K D rl on orl H', ?_, ?_⟩
  · refine ⟨24, rfl, by decide, by decide, ?_⟩
    refine for_range (lo := 0) (n := 24) (fun i σ G => ∃ x6 x7 x8 x9 x10 x11 x12 x13, σ = sM D pl x rl on orl x6 x7 x8 x9 x10 x11 x12 x13 ∧ TuJ K C T H D pl x N G ∧ MrL K D rl on orl G) ⟨_, _, _, _, _, _, _, _, rfl, j3, m3⟩ (fun i σ G hi z => ?_) (fun σ G z => z)
    clear j3 m3
    obtain ⟨x6, x7, x8, x9, x10, x11, x12, x13, rfl, j3, m3⟩ := z
    -- bad
    refine ⟨fun σ' H' => ∃ x6 b b0 b1 b2 b3, σ' = sM D pl x rl on orl x6 x7 (some (.ref b)) x9 x10 x11 x12 x13 ∧ TuJ K C T H D pl x N H' ∧ MrL K D rl on orl H' ∧ b ≠ D ∧ H' b = some (.lst ([b0, b1, b2, b3].map V.bl)), ?_, ?_⟩
    · refine rd_bad (n := 4) (by decide) j3.dc (fun _ => rfl) (fun _ => rfl) fun b bs H' hb lb bt dc nb => ?_
      match bs, lb with
      | [b0, b1, b2, b3], _ => exact ⟨_, b, b0, b1, b2, b3, rfl, j3.roll bt dc, m3.butN j3.dc (But.butN bt), nb, hb⟩
    clear j3 m3
    rintro _ H4 ⟨y6, b, b0, b1, b2, b3, rfl, j4, m4, nb, hb⟩
    -- one
    refine ⟨fun σ' H' => ∃ v1, σ' = sM D pl x rl on orl y6 (some v1) (some (.ref b)) x9 x10 x11 x12 x13 ∧ TuJ K C T H D pl x N H' ∧ MrL K D rl on orl H' ∧ H' b = some (.lst ([b0, b1, b2, b3].map V.bl)) ∧ OneQ D x H' b0 v1, ?_, ?_⟩
    · refine tb_ix 0 rfl hb rfl ?_
      cases b0 with
      | false => exact iteF ⟨_, rfl, _, rfl, j4, m4, hb, .inr ⟨rfl, rfl⟩⟩
      | true =>
        obtain ⟨q1, q2, q3, ⟨vs4, q4, q5, q6⟩, q7⟩ := id m4
        refine iteT (rd_pk j4.dc rfl rfl q3 q4 (by omega) (by omega) fun v H' hv bt dc => ?_)
        exact ⟨v, rfl, j4.roll bt dc, m4.butN j4.dc (But.butN bt), bt _ _ nb hb, .inl ⟨rfl, (q6 v hv).butN j4.dc (But.butN bt)⟩⟩
    clear j4 m4 hb
    rintro _ H5 ⟨v1, rfl, j5, m5, hb, o1⟩
    -- rule
    refine ⟨fun σ' H' => ∃ v2 nd, σ' = sM D pl x rl on orl y6 (some v1) (some (.ref b)) x9 x10 x11 x12 (some v2) ∧ TuJ K C T H D pl x N H' ∧ MrL K D rl on orl H' ∧ H' b = some (.lst ([b0, b1, b2, b3].map V.bl)) ∧ OneQ D x H' b0 v1 ∧ RuleQ K H' b1 nd v2, ?_, ?_⟩
    · refine tb_ix 1 rfl hb rfl ?_
      obtain ⟨q1, q2, q3, q4, q5, ws, q6, q7⟩ := id m5
      have lw : ws.length = 11 := Paired.length q7
      cases b1 with
      | false =>
        refine iteF (rd_pk j5.dc rfl rfl q1 q2 (by decide) (by decide) fun v H' hv bt dc => ?_)
        obtain ⟨z, hz, rfl⟩ := List.mem_map.mp hv
        obtain ⟨l, rfl⟩ : ∃ l : Rl, z = l.s := by
          unfold rulesL at hz
          simp only [List.mem_cons, List.not_mem_nil, or_false] at hz
          rcases hz with rfl | rfl | rfl | rfl | rfl | rfl
          · exact ⟨.joined, rfl⟩
          · exact ⟨.early, rfl⟩
          · exact ⟨.first, rfl⟩
          · exact ⟨.late, rfl⟩
          · exact ⟨.both, rfl⟩
          · exact ⟨.sure, rfl⟩
        exact ⟨_, l.two, rfl, j5.roll bt dc, m5.butN j5.dc (But.butN bt), bt _ _ nb hb, o1.butN j5.dc (But.butN bt), .inr ⟨rfl, l, rfl, rfl⟩⟩
      | true =>
        refine iteT (rd_pk j5.dc rfl rfl q5 q6 (by omega) (by omega) fun v H' hv bt dc => ?_)
        obtain ⟨i, hi⟩ := List.mem_iff_getElem?.mp hv
        obtain ⟨d, hd, dd⟩ := pairedAt q7 hi
        have md := List.mem_of_getElem? hd
        exact ⟨v, true, rfl, j5.roll bt dc, m5.butN j5.dc (But.butN bt), bt _ _ nb hb, o1.butN j5.dc (But.butN bt), .inl ⟨rfl, d, md, dd_butN j5.dc (But.butN bt) (oddRl_ni d md) dd⟩⟩
    clear j5 m5 hb o1
    rintro _ H6 ⟨v2, nd, rfl, j6, m6, hb, o1, o2⟩
    -- row
    refine ⟨fun σ' H' => ∃ v3, σ' = sM D pl x rl on orl y6 (some v1) (some (.ref b)) x9 x10 x11 (some v3) (some v2) ∧ TuJ K C T H D pl x N H' ∧ MrL K D rl on orl H' ∧ H' b = some (.lst ([b0, b1, b2, b3].map V.bl)) ∧ OneQ D x H' b0 v1 ∧ RuleQ K H' b1 nd v2 ∧ RowQ K H' (sortN N) b2 v3, ?_, ?_⟩
    · refine rd_rowp (c := b2) j6 rfl rfl ok Wne nz (fun R q => tb_ix 2 rfl hb rfl q) fun v H' bt dc rq => ?_
      have bn := But.butN bt
      exact ⟨v, rfl, j6.roll bt dc, m6.butN j6.dc bn, bt _ _ nb hb, o1.butN j6.dc bn, o2.butN j6.dc bn, rq⟩
    clear j6 m6 hb o1 o2
    rintro _ H7 ⟨v3, rfl, j7, m7, hb, o1, o2, o3⟩
    -- needs
    refine ⟨fun σ' H' => ∃ ne, σ' = sM D pl x rl on orl y6 (some v1) (some (.ref b)) (some (.bl ne)) x10 x11 (some v3) (some v2) ∧ TuJ K C T H D pl x N H' ∧ MrL K D rl on orl H' ∧ H' b = some (.lst ([b0, b1, b2, b3].map V.bl)) ∧ OneQ D x H' b0 v1 ∧ RuleQ K H' b1 ne v2 ∧ RowQ K H' (sortN N) b2 v3, ?_, ?_⟩
    · refine ⟨_, rfl, by show 2 ≤ sizeLine; decide, fun q nq => ?_⟩
      have sq := same_new (o := .tup [V.str "joined", V.str "late"]) nq
      have bn : ButN D H7 (upd H7 q (.tup [V.str "joined", V.str "late"])) := DW.ExtN.butN (Same.extN sq)
      have hD7 := j7.dc
      have tl : Dp K (upd H7 q (.tup [V.str "joined", V.str "late"])) (.ref q) (.tuple [.str "joined", .str "late"]) := .tup (SqT.of upd_same) (.cons (.str _) (.cons (.str _) .nil))
      rcases o2 with ⟨rfl, d, m, dd⟩ | ⟨rfl, l, rfl, rfl⟩
      · refine ⟨d, _, dd_butN hD7 bn (oddRl_ni d m) dd, tl, (oddRl_sh d m).1, by decide +kernel, _, rfl, j7.same sq, m7.butN hD7 bn, sq _ _ hb, o1.butN hD7 bn, .inl ⟨rfl, d, m, dd_butN hD7 bn (oddRl_ni d m) dd⟩, o3.butN hD7 bn⟩
      · refine ⟨.str l.s, _, .base (.str _) rfl, tl, ?_, by decide +kernel, _, rfl, j7.same sq, m7.butN hD7 bn, sq _ _ hb, o1.butN hD7 bn, .inr ⟨rfl, l, rfl, ?_⟩, o3.butN hD7 bn⟩
        · cases l <;> decide +kernel
        · cases l <;> decide +kernel
    clear j7 m7 hb o1 o2 o3
    rintro _ H8 ⟨ne, rfl, j8, m8, hb, o1, o2, o3⟩
    -- other
    refine ⟨fun σ' H' => ∃ v4, σ' = sM D pl x rl on orl y6 (some v1) (some (.ref b)) (some (.bl ne)) x10 (some v4) (some v3) (some v2) ∧ TuJ K C T H D pl x N H' ∧ MrL K D rl on orl H' ∧ H' b = some (.lst ([b0, b1, b2, b3].map V.bl)) ∧ OneQ D x H' b0 v1 ∧ RuleQ K H' b1 ne v2 ∧ RowQ K H' (sortN N) b2 v3 ∧ OthQ K H' (sortN N) ne b2 b3 v4, ?_, ?_⟩
    · refine ⟨_, rfl, ne, rfl, ?_⟩
      cases ne with
      | true =>
        refine iteT (rd_rowp (c := b3) j8 rfl rfl ok Wne nz (fun R q => tb_ix 3 rfl hb rfl q) fun v H' bt dc rq => ?_)
        have bn := But.butN bt
        exact ⟨v, rfl, j8.roll bt dc, m8.butN j8.dc bn, bt _ _ nb hb, o1.butN j8.dc bn, o2.butN j8.dc bn, o3.butN j8.dc bn, ⟨fun _ => rq, fun z => by cases z⟩⟩
      | false =>
        refine iteF (tb_ix 3 rfl hb rfl ?_)
        cases b3 with
        | false => exact iteF ⟨_, rfl, j8, m8, hb, o1, o2, o3, ⟨(fun z => by cases z), fun _ => ⟨(fun _ => rfl), fun z => by cases z⟩⟩⟩
        | true =>
          refine iteT ⟨_, rfl, by show 0 ≤ sizeLine; decide, fun t1 n1 => ⟨_, rfl, _, rfl, _, rfl, D, pl, N, rfl, ?_⟩⟩
          have a1 := same_new (o := .tup []) n1
          have j9 := j8.same a1
          refine ⟨j9.dc, j9.npl, j9.plain, ok, Wne, fun u r G b9 hd9 hu ro => ⟨by show 6 ≤ sizeLine; decide, fun p np => ?_⟩⟩
          have a2 := same_new (o := .lst [V.int 0, V.bl false, V.ref t1, v3, V.ref u, V.str "none"]) np
          refine ⟨D, .ref p, rfl, hd9.same a2, .inl ⟨p, _, rfl, new_ne hd9 np, upd_same, by show 0 < 6; decide, by show 6 < 1000; decide, fun w G2 hw b10 hd10 => ?_⟩⟩
          have bt : But D H8 G2 := (Same.but a1).trans (b9.trans ((Same.but a2).trans b10))
          have bn := But.butN bt
          refine ⟨w, rfl, j8.roll bt hd10, m8.butN j8.dc bn, bt _ _ nb hb, o1.butN j8.dc bn, o2.butN j8.dc bn, o3.butN j8.dc bn, ⟨(fun z => by cases z), fun _ => ⟨(fun z => by cases z), fun _ ew => ?_⟩⟩⟩
          subst ew
          simp only [List.mem_cons, List.not_mem_nil, or_false] at hw
          rcases hw with e | e | e | e | e | e
          · cases e
          · cases e
          · cases e
          · rcases o3 with ⟨e2, _⟩ | ⟨_, t', r', e2, _⟩
            · exact e2
            · rw [e2] at e; cases e
          · cases e
          · cases e
    clear j8 m8 hb o1 o2 o3
    rintro _ H9 ⟨v4, rfl, j9, m9, hb, o1, o2, o3, o4⟩
    -- words
    refine ⟨fun σ' H' => ∃ wd, σ' = sM D pl x rl on orl y6 (some v1) (some (.ref b)) (some (.bl ne)) (some (.ref wd)) (some v4) (some v3) (some v2) ∧ Same H9 H' ∧ H' wd = some (.lst ((zipW mdW [b0, b1, b2, b3]).map V.str)), rd_words (ws := mdW) (bs := [b0, b1, b2, b3]) (fun _ _ q => q) rfl hb rfl (by decide) (fun _ _ => rfl) (fun _ _ => rfl) (fun _ _ => rfl) fun p H' s hp => ⟨p, rfl, s, hp⟩, ?_⟩
    rintro _ H10 ⟨wd, rfl, s10, hwd⟩
    have bn10 : ButN D H9 H10 := DW.ExtN.butN (Same.extN s10)
    have j10 := j9.same s10
    replace m9 := m9.butN j9.dc bn10
    replace hb := s10 _ _ hb
    replace o1 := o1.butN j9.dc bn10
    replace o2 := o2.butN j9.dc bn10
    replace o3 := o3.butN j9.dc bn10
    replace o4 := o4.butN j9.dc bn10
    clear j9 s10 bn10
    have oks := ok.sort
    -- made(one, rule, row, other=other)
    refine ⟨fun σ' H' => σ' = sM D pl x rl on orl y6 (some v1) (some (.ref b)) (some (.bl ne)) (some (.ref wd)) (some v4) (some v3) (some v2) ∧ TuJ K C T H D pl x N H' ∧ MrL K D rl on orl H' ∧ H' b = some (.lst ([b0, b1, b2, b3].map V.bl)) ∧ OneQ D x H' b0 v1 ∧ RuleQ K H' b1 ne v2, ?_, ?_⟩
    · refine ⟨j10.tb, fun H11 e11 t11 => ?_⟩
      have bn : ButN D H10 H11 := DW.ExtN.butN e11
      have j11 := j10.ext e11 t11
      have q2 := o2.butN j10.dc bn
      refine ⟨_, rfl, _, rfl, _, rfl, _, rfl, rfl, rfl, made_wd (N := sortN N) (x := x) (b0 := b0) (b1 := b1) (b2 := b2) (b3 := b3) ex ?_ ?_ (o3.butN j10.dc bn) fun G sG => ?_⟩
      · rcases o1.butN j10.dc bn with ⟨e, nn⟩ | ⟨e, rfl⟩
        · exact .inl ⟨e, nn.not KN⟩
        · exact .inr ⟨e, rfl, j11.net, oks⟩
      · rcases q2 with ⟨e, d, m, dd⟩ | ⟨e, l, rfl, rfl⟩
        · exact .inl ⟨e, d, dd, oddRl_sh d m⟩
        · exact .inr ⟨e, l, rfl, o4.butN j10.dc bn⟩
      have j12 := j11.same sG
      have bG : ButN D H10 G := bn.trans (DW.ExtN.butN (Same.extN sG))
      refine ⟨_, rfl, wd, _, rfl, sG _ _ (e11 _ _ hwd fun _ z => nomatch z), by unfold zipW; rw [List.length_zipWith]; show min 4 4 ≤ 10; decide, zw_ok (ws := mdW) (by decide +kernel) _, fun G2 s2 => ?_⟩
      have j13 := j12.same s2
      have bF : ButN D H10 G2 := bG.trans (DW.ExtN.butN (Same.extN s2))
      exact ⟨rfl, _, rfl, ite0 (by rw [decide_eq_true rfl]; rfl) ⟨rfl, j13, m9.butN j10.dc bF, bF _ _ nb hb (fun _ z => nomatch z), o1.butN j10.dc bF, o2.butN j10.dc bF⟩⟩
    clear j10 m9 hb o1 o2 o3 o4 hwd
    rintro _ H11 ⟨rfl, j11, m11, hb, o1, o2⟩
    -- made(net, rule, a row)
    refine ⟨_, rfl, ne, rfl, ?_⟩
    cases ne with
    | false => exact iteF (iteF ⟨_, _, _, _, _, _, _, _, rfl, j11, m11⟩)
    | true =>
      refine iteT (tb_ix 0 rfl hb rfl ?_)
      cases b0 with
      | true => exact iteF (iteF ⟨_, _, _, _, _, _, _, _, rfl, j11, m11⟩)
      | false =>
        refine iteT (tb_ix 1 rfl hb rfl ?_)
        cases b1 with
        | true => exact iteF (iteF ⟨_, _, _, _, _, _, _, _, rfl, j11, m11⟩)
        | false =>
          rcases o2 with ⟨e, _⟩ | ⟨_, l, rfl, two⟩
          · cases e
          refine iteT ⟨j11.tb, fun H12 e12 t12 => ?_⟩
          have j12 := j11.ext e12 t12
          refine ⟨_, rfl, _, rfl, _, rfl, _, rfl, D, pl, N, rfl, j12.dc, npl, j12.plain, ok, Wne, fun t r G bt dc ht ro => ?_⟩
          have j13 := j12.roll bt dc
          refine ⟨.ref x, .str l.s, .ref t, .non, rfl, .inr ⟨x, sortN N, rfl, j13.net, oks, .inr ⟨l, some r, rfl, ⟨t, rfl, ht, ro⟩, .inr ⟨rfl, false, (fun _ => ⟨none, .inr (.inl ⟨.none, .base .non rfl, trivial, rfl⟩), rfl⟩), (fun z => by rw [z] at two; cases two), (fun z => by cases z), fun _ G2 s2 => ex.w ?_⟩⟩⟩⟩
          have bF : ButN D H11 G2 := (DW.ExtN.butN e12).trans ((But.butN bt).trans (DW.ExtN.butN (Same.extN s2)))
          exact ⟨rfl, _, rfl, ite0 (by rw [decide_eq_true rfl]; rfl) ⟨_, _, _, _, _, _, _, _, rfl, j13.same s2, m11.butN j11.dc bF⟩⟩
  rintro _ H4 ⟨x6, x7, x8, x9, x10, x11, x12, x13, rfl, j4, m4⟩
  exact k H4 j4.bt j4.dc j4.tb
end
end LW
namespace LW
open PySem PySem.Spec PyProof.Rows L2 DW LamX
/-! ### a call of a name that holds one of some defs -/
structure HeldX (P : Program) (w : World) (K : PySem.W.Frag) (mg : Str → Option Value) (base : Heap) (m : Nat) (f : Addr) (sp : Sp) : Prop where
  ex : ∃ (k : Nat) (fd : FuncData) (ps : List Str), k ≤ m ∧ FnOk P w K mg base (L2.CX P w) k f fd ps sp ∧ PySem.W.keepIn K (.ref f) = true ∧ Binds K fd ps []
def tCallX (i : Nat) (S : Addr → Sp → Prop) (E : XK) (t : TA) : TE := fun σ H Q => ∃ f sp, σ[i]? = some (some (.ref f)) ∧ S f sp ∧ t σ H fun vs H1 => sp vs H1 Q E
theorem pe_callX {X : Cx} {m i : Nat} {E : XK} {x : Str} {p pos : Pos} {e : Expr} {es : List Expr} {t : TA} {S : Addr → Sp → Prop} (A : ∀ f sp, S f sp → HeldX X.prog X.w X.K X.mg X.base m f sp) (hr : Room m X.A) (hx : Passes (L2.CX X.prog X.w) X E) (ha : PA X (e :: es) t)
    (hN : X.N[i]? = some x := by rfl) (hv : Vis X.env.scope x := by first | exact Or.inl rfl | exact Or.inr (Or.inl rfl) | exact Or.inr (Or.inr rfl))
    (hdb : (x == ("__debug__" : Str)) = false := by decide) (hcd : (x == ("__classdict__" : Str)) = false := by decide)
    (he : starEach (e :: es) X.env = (false, eval e X.env) :: starEach es X.env := by rfl) (hpl : (backTo pos (starEach es X.env)).any (·.1) = false := by rfl) : PE X (.Call (.Name x p) (e :: es) [] pos) (tCallX i S E t) := by
  refine ⟨fun pins s σ H Q I h => ?_⟩
  obtain ⟨f, sp, hs, hS, ht⟩ := h
  obtain ⟨k, fd, ps, km, F, hk, hb⟩ := (A f sp hS).ex
  refine (pe_callL (i := i) (f := f) (sp := sp) (dvs := []) (E := E) F (hr.mono km) hN hv hk hb .nil hx ha hdb hcd he hpl).run pins s σ H Q I ⟨hs, ?_⟩
  have e0 : (fun (vs : List V) (H1 : Hp) => sp (vs ++ []) H1 Q E) = fun vs H1 => sp vs H1 Q E := by
    funext vs H1
    rw [List.append_nil]
  show t σ H (fun vs H1 => sp (vs ++ []) H1 Q E)
  rw [e0]
  exact ht
/-! ### the values that are asked of -/
inductive VaQ (K : PySem.W.Frag) (D x : Addr) (N : PlainD) (H : Hp) : V → Prop
  | row {b : Bool} {v : V} (h : RowQ K H N b v) : VaQ K D x N H v
  | non : VaQ K D x N H .non
  | int (i : Int) : VaQ K D x N H (.int i)
  | bl (b : Bool) : VaQ K D x N H (.bl b)
  | str (z : Str) (h : PyData.strOk z = true) : VaQ K D x N H (.str z)
  | tup {t : Addr} (h : H t = some (.tup [])) : VaQ K D x N H (.ref t)
  | lst {t : Addr} (n : t ≠ D) (h : H t = some (.lst [])) : VaQ K D x N H (.ref t)
  | dct {t : Addr} (h : H t = some (.dK [])) : VaQ K D x N H (.ref t)
  | two {a c : Addr} {b1 b2 : Bool} {u v : V} (h : H a = some (.tup [.ref c])) (h2 : H c = some (.tup [u, v])) (hu : RowQ K H N b1 u) (hv : RowQ K H N b2 v) : VaQ K D x N H (.ref a)
  | one {a : Addr} (h : H a = some (.tup [.non])) : VaQ K D x N H (.ref a)
  | net : VaQ K D x N H (.ref x)
section
variable {K : PySem.W.Frag} {D x C : Addr} {N : PlainD} {H H' : Hp} {v : V}
theorem VaQ.butN (hD : Dc H D) (b : ButN D H H') (h : VaQ K D x N H v) : VaQ K D x N H' v := by
  have tp : ∀ {a : Addr} {xs : List V}, H a = some (.tup xs) → H' a = some (.tup xs) := fun h => b _ _ (ne_D hD h fun _ z => nomatch z) h fun _ z => nomatch z
  cases h with
  | row h => exact .row (h.butN hD b)
  | non => exact .non
  | int i => exact .int i
  | bl c => exact .bl c
  | str z h => exact .str z h
  | tup h => exact .tup (tp h)
  | lst n h => exact .lst n (b _ _ n h fun _ z => nomatch z)
  | dct h => exact .dct (b _ _ (ne_D hD h fun _ z => nomatch z) h fun _ z => nomatch z)
  | two h h2 hu hv => exact .two (tp h) (tp h2) (hu.butN hD b) (hv.butN hD b)
  | one h => exact .one (tp h)
  | net => exact .net
theorem RowQ.why {b : Bool} (h : RowQ K H N b v) : WhyN K H v := by
  rcases h with ⟨_, d, dd, o⟩ | ⟨_, t, r, rfl, ht, _⟩
  · exact why_of dd o.why
  · exact why_of (dd_r4 ht) rfl
theorem RowQ.val {b : Bool} (h : RowQ K H N b v) : ∃ c, ValB K H N v c := by
  obtain ⟨o, h, _⟩ := h.v2
  exact ⟨_, h.val⟩
theorem RowQ.list {b : Bool} (h : RowQ K H N b v) : ListN K H N v := by
  rcases h with ⟨_, d, dd, o⟩ | ⟨_, t, r, rfl, ht, _⟩
  · exact list_of dd o.fst
  · exact list_of (dd_r4 ht) rfl
theorem r4_sh {r : R4} (h : RowSm r) : SeqAt.shaped (r4D r) = true := by
  simp [r4D, SeqAt.shaped, PyData.canLay0, PyData.canLayAll0, PyData.depth, PyData.depthAll, h.k.2, h.a.2, h.b.2]
theorem RowQ.word {b : Bool} (ok : OkN N) (h : RowQ K H N b v) : WordN K C H v := by
  rcases h with ⟨_, o⟩ | ⟨_, t, r, rfl, ht, ro⟩
  · exact o.word
  · exact .inl ⟨r4D r, dd_r4 ht, r4_sh (ro.sm ok), rfl⟩
theorem VaQ.word (ok : OkN N) (net : NetAt K C H x N) (h : VaQ K D x N H v) : WordN K C H v := by
  cases h with
  | row h => exact h.word ok
  | non => exact .inl ⟨.none, .base .non rfl, rfl, rfl⟩
  | int i => exact .inl ⟨.int i, .base (.int i) rfl, rfl, rfl⟩
  | bl c => exact .inl ⟨.bool c, .base (.bl c) rfl, rfl, rfl⟩
  | str z h => exact .inl ⟨.str z, .base (.str z) rfl, by simp [SeqAt.shaped, PyData.canLay0, PyData.depth, h], rfl⟩
  | tup h => exact .inl ⟨.tuple [], .base (.tup (SqT.of h) .nil) rfl, rfl, rfl⟩
  | lst n h => exact .inl ⟨.list [], .base (.lst (SqL.of h) .nil) rfl, rfl, rfl⟩
  | dct h => exact .inr (.inl (.inl ⟨_, _, rfl, h⟩))
  | two h h2 hu hv => exact .inr (.inl (.inr ⟨_, _, _, rfl, SqT.of h, SqT.of h2⟩))
  | one h => exact .inl ⟨.tuple [.none], .base (.tup (SqT.of h) (.cons .non .nil)) rfl, rfl, rfl⟩
  | net => exact .inr (.inr ⟨_, _, rfl, net⟩)
theorem VaQ.list (IC : C8.InsC K C) (kC : PySem.W.kitOne K (.ref C) (.type "tuple") = some false) (net : NetAt K C H x N) (h : VaQ K D x N H v) : ListN K H N v := by
  cases h with
  | row h => exact h.list
  | non => exact list_of (.base .non rfl) rfl
  | int i => exact list_of (.base (.int i) rfl) rfl
  | bl c => exact list_of (.base (.bl c) rfl) rfl
  | str z h => exact list_of (.base (.str z) rfl) rfl
  | tup h => exact list_of (.base (.tup (SqT.of h) .nil) rfl) rfl
  | lst n h => exact list_of (.base (.lst (SqL.of h) .nil) rfl) rfl
  | dct h => exact list_of (.dct (kvs := []) h) rfl
  | two h h2 hu hv =>
    obtain ⟨c, vb⟩ := hu.val
    refine .inr ⟨_, _, rfl, SqT.of h, fun y ys e => ?_⟩
    cases e
    exact .inr ⟨_, _, _, c, rfl, SqT.of h2, vb, fun _ => hv.why⟩
  | one h => exact list_of (.base (.tup (SqT.of h) (.cons .non .nil)) rfl) rfl
  | net =>
    obtain ⟨dx, la, wa, ba, ea, ra, h1, _⟩ := net
    exact .inl ⟨.ref C, .base (.ins h1 IC.cl IC.ha IC.hn IC.htk IC.hm), kC⟩
theorem VaQ.val (IC : C8.InsC K C) (kC : PySem.W.kitOne K (.ref C) (.type "tuple") = some false) (net : NetAt K C H x N) (h : VaQ K D x N H v) : ∃ b, ValB K H N v b := by
  cases h with
  | row h => exact h.val
  | non => exact ⟨_, .inr (.inl ⟨.none, .base .non rfl, trivial, rfl⟩)⟩
  | int i => exact ⟨_, .inr (.inl ⟨.int i, .base (.int i) rfl, trivial, rfl⟩)⟩
  | bl c => exact ⟨_, .inr (.inl ⟨.bool c, .base (.bl c) rfl, trivial, rfl⟩)⟩
  | str z h => exact ⟨_, .inr (.inl ⟨.str z, .base (.str z) rfl, trivial, rfl⟩)⟩
  | tup h => exact ⟨_, .inr (.inr ⟨_, _, rfl, SqT.of h, by decide, rfl⟩)⟩
  | lst n h => exact ⟨_, .inr (.inl ⟨.list [], .base (.lst (SqL.of h) .nil) rfl, trivial, rfl⟩)⟩
  | dct h => exact ⟨_, .inr (.inl ⟨.dict [], .dct (kvs := []) h, trivial, rfl⟩)⟩
  | two h h2 hu hv => exact ⟨_, .inr (.inr ⟨_, _, rfl, SqT.of h, (fun z => by cases z), rfl⟩)⟩
  | one h => exact ⟨_, .inr (.inr ⟨_, _, rfl, SqT.of h, by decide, rfl⟩)⟩
  | net =>
    obtain ⟨dx, la, wa, ba, ea, ra, h1, _⟩ := net
    exact ⟨_, .inl ⟨⟨.ref C, .base (.ins h1 IC.cl IC.ha IC.hn IC.htk IC.hm), kC⟩, rfl⟩⟩
end
def cvW : List Str := ["net", "row", "row"]
/-- the word of an error of covers -/
theorem cov_wd {K : PySem.W.Frag} {C CE CO CW : Addr} {H1 : Hp} {x : Addr} {N : PlainD} {b0 b1 b2 : Bool} {v1 v2 v3 : V} {Q : VK} (ex : ExW K CE CW CO) (h1 : (b0 = true ∧ NotNet K C H1 v1) ∨ (b0 = false ∧ v1 = .ref x ∧ NetAt K C H1 x N ∧ OkN N))
    (h2 : RowQ K H1 N b1 v2) (h3 : RowQ K H1 N b2 v3)
    (k : ∀ G, Same H1 G → Q (.str (firstW (zipW cvW [b0, b1, b2]))) G) : spCvE K C CE CW [v1, v2, v3] H1 (fun _ G => Q (.str "none") G) (eWd K CE CW CO Q) := by
  refine ⟨v1, v2, v3, rfl, ?_⟩
  rcases h1 with ⟨rfl, nn⟩ | ⟨rfl, rfl, net, ok⟩
  · have e : ∀ b1 b2 : Bool, firstW (zipW cvW [true, b1, b2]) = "net" := by decide +kernel
    rw [e] at k
    exact .inl ⟨nn, fun G s => ex.e (k G s)⟩
  obtain ⟨r, rv, re⟩ := h2.v2
  obtain ⟨o, ov, oe⟩ := h3.v2
  have e1 : ∀ b1 b2 : Bool, firstW (zipW cvW [false, b1, b2]) = if (!b1 && !b2) = true then "none" else "row" := by decide +kernel
  rw [e1] at k
  refine .inr ⟨x, N, r, o, rfl, net, ok, rv, ov, fun z b G s => ?_, fun z G s => ?_⟩
  · rw [re, oe] at z
    rw [z] at k
    exact k G s
  · rw [re, oe] at z
    rw [z] at k
    exact ex.w (k G s)
/-- [..] != [..], truths -/
theorem ne_bls {K : PySem.W.Frag} {H : Hp} {p q : Addr} {b c : Bool} {Q : VK} (hp : H p = some (.lst [.bl b, .bl c])) (hq : H q = some (.lst [.bl b, .bl c])) (k : Q (.bl false) H) : rNeD K (.ref p) (.ref q) H Q :=
  ⟨.list [.bool b, .bool c], .list [.bool b, .bool c], .lst (SqL.of hp) (.cons (.bl _) (.cons (.bl _) .nil)), .lst (SqL.of hq) (.cons (.bl _) (.cons (.bl _) .nil)), rfl, rfl, by
    have e : PyData.eqv (.list [.bool b, .bool c]) (.list [.bool b, .bool c]) = true := by cases b <;> cases c <;> decide +kernel
    rw [e]; exact k⟩
theorem passes0 {X : Cx} {P : Program} {w : World} : Passes (L2.CX P w) X E0 := fun _ _ _ _ _ _ _ h => by
  obtain ⟨_, _, _, _, _, _, _, _, _, _, _, _, z⟩ := h
  exact z.elim
/-! ### a list of rows while it grows -/
theorem upd_twice {G : Hp} {M : Addr} {a b : HO} : upd (upd G M a) M b = upd G M b := by
  funext c
  by_cases e : c = M
  · subst e; rw [upd_same, upd_same]
  · rw [upd_ne e, upd_ne e, upd_ne e]
theorem upd_back {G : Hp} {M : Addr} {a : HO} (h : G M = some a) : upd G M a = G := by
  funext c
  by_cases e : c = M
  · subst e; rw [upd_same, h]
  · rw [upd_ne e]
theorem but_upd2 {G G2 : Hp} {D M : Addr} {o : HO} (b : But D G G2) : But D (upd G M o) (upd G2 M o) := fun c u n e => by
  by_cases q : c = M
  · subst q; rw [upd_same] at e ⊢; exact e
  · rw [upd_ne q] at e ⊢; exact b _ _ n e
mutual
theorem Dp.mutM {K : PySem.W.Frag} {G : Hp} {M : Addr} {o : HO} {ws : List V} (hM : G M = some (.lst ws)) (hw : ws = [] ∨ ∃ u, ws = [u] ∧ u ≠ .str "x") : ∀ {v : V} {d : PyData}, Dp K G v d → lsT d = true → Dp K (upd G M o) v d
  | _, _, .non, _ => .non
  | _, _, .bl x, _ => .bl x
  | _, _, .int i, _ => .int i
  | _, _, .str x, _ => .str x
  | _, _, .lst (a := a) (xs := xs) (ds := ds) h al, n => by
    have n : (lsH ds && lsTs ds) = true := n
    rw [Bool.and_eq_true] at n
    refine .lst ?_ (DpAll.mutM hM hw al n.2)
    rcases h with (h | ⟨z, h⟩) | h
    · refine .inl (.inl ?_)
      have ne : a ≠ M := by
        rintro rfl
        rw [hM] at h
        cases h
        rcases hw with rfl | ⟨u, rfl, nu⟩
        · cases al
          cases n.1
        · cases al with
          | cons h1 h2 =>
            cases h2
            cases h1 with
            | str z =>
              have n1 : decide (z = ("x" : Str)) = true := n.1
              rw [decide_eq_true_eq] at n1
              exact nu (by rw [n1])
            | non => cases n.1
            | bl _ => cases n.1
            | int _ => cases n.1
            | lst _ _ => cases n.1
            | tup _ _ => cases n.1
      rw [upd_ne ne]
      exact h
    · exact .inl (.inr ⟨z, by rw [upd_ne (ne_of h hM (fun z => nomatch z))]; exact h⟩)
    · exact .inr h
  | _, _, .tup (a := a) h al, n => by
    refine .tup ?_ (DpAll.mutM hM hw al n)
    rcases h with (h | ⟨z, h⟩) | h
    · exact .inl (.inl (by rw [upd_ne (ne_of h hM (fun z => nomatch z))]; exact h))
    · exact .inl (.inr ⟨z, by rw [upd_ne (ne_of h hM (fun z => nomatch z))]; exact h⟩)
    · exact .inr h
theorem DpAll.mutM {K : PySem.W.Frag} {G : Hp} {M : Addr} {o : HO} {ws : List V} (hM : G M = some (.lst ws)) (hw : ws = [] ∨ ∃ u, ws = [u] ∧ u ≠ .str "x") : ∀ {vs : List V} {ds : List PyData}, DpAll K G vs ds → lsTs ds = true → DpAll K (upd G M o) vs ds
  | _, _, .nil, _ => .nil
  | _, _, .cons (d := d) (ds := ds) a al, n => by
    have n : (lsT d && lsTs ds) = true := n
    rw [Bool.and_eq_true] at n
    exact .cons (Dp.mutM hM hw a n.1) (DpAll.mutM hM hw al n.2)
end
theorem RowQ.mutM {K : PySem.W.Frag} {G : Hp} {M : Addr} {o : HO} {ws : List V} {N : PlainD} {b : Bool} {v : V} (hM : G M = some (.lst ws)) (hw : ws = [] ∨ ∃ u, ws = [u] ∧ u ≠ .str "x") (h : RowQ K G N b v) : RowQ K (upd G M o) N b v := by
  rcases h with ⟨e, d, dd, od⟩ | ⟨e, t, r, rfl, ht, ro⟩
  · refine .inl ⟨e, d, ?_, od⟩
    have l := od.ls
    cases dd with
    | base h z => exact .base (Dp.mutM hM hw h l) z
    | dct h => exact .dct (by rw [upd_ne (ne_of h hM (fun z => nomatch z))]; exact h)
  · exact .inr ⟨e, t, r, rfl, by rw [upd_ne (ne_of ht hM (fun z => nomatch z))]; exact ht, ro⟩
theorem RowQ.nx {K : PySem.W.Frag} {G : Hp} {N : PlainD} {b : Bool} {v : V} (h : RowQ K G N b v) : v ≠ .str "x" := by
  rintro rfl
  rcases h with ⟨_, d, dd, od⟩ | ⟨_, t, r, e, _⟩
  · cases dd with
    | base h z =>
      cases h
      have := od.nx
      have e : decide (("x" : Str) = "x") = false := this
      rw [decide_eq_true rfl] at e
      cases e
  · cases e
/-- row, other = [.. for wrong in bad[1:]] -/
theorem rd_two {K : PySem.W.Frag} {σ : L2.St} {H H0 : Hp} {Q : VK} {C x D pl b : Addr} {T : List (Addr × Str)} {N : PlainD} {b0 b1 b2 : Bool} {i l : Nat} (j : TuJ K C T H0 D pl x N H) (ok : OkN N) (Wne : N.W ≠ []) (nz : NoZ N) (hl : σ[l]? = some (some (.ref b))) (hb : H b = some (.lst ([b0, b1, b2].map V.bl)))
    (hw : ∀ v, wipe ((wipe σ [i]).set i (some v)) [i] = wipe σ [i]) (h0 : ∀ v, ((wipe σ [i]).set i (some v))[0]? = some (some (.ref D))) (h1 : ∀ v, ((wipe σ [i]).set i (some v))[1]? = some (some (.ref pl))) (hi : ∀ v, ((wipe σ [i]).set i (some v))[i]? = some (some v))
    (k : ∀ p v2 v3 H', H' p = some (.lst [v2, v3]) → But D H H' → Dc H' D → RowQ K H' (sortN N) b1 v2 → RowQ K H' (sortN N) b2 v3 → Q (.ref p) H') :
    tLc (iList K (tSl (rSlL K) (tVar l) (tPart (tC (.int 1))) tNoPart)) (gName i) tYes (tIf (tB (tVar i)) (tCall (spOd K) [] E0 (tCons (tVar 0) (tCons (tVar 1) tNil))) (tCall (spAr K) [] E0 (tCons (tVar 0) (tCons (tVar 1) tNil)))) [i] σ H Q := by
  refine ⟨_, hl, _, rfl, b, _, rfl, SqL.of hb, fun c nc => ⟨c, rfl, ⟨_, SqL.of upd_same⟩, fun M nM => ?_⟩⟩
  have sc := same_new (o := .lst (cutV ([b0, b1, b2].map V.bl) (some 1) none)) nc
  have j1 := j.same sc
  have hc : (upd H c (.lst (cutV ([b0, b1, b2].map V.bl) (some 1) none))) c = some (.lst ([b1, b2].map V.bl)) := by rw [upd_same]; rfl
  generalize upd H c (.lst (cutV ([b0, b1, b2].map V.bl) (some 1) none)) = H1 at sc j1 hc nM ⊢
  have ncD : c ≠ D := fun e => by rw [e] at nc; obtain ⟨d0, d1, d2, q⟩ := j.dc; rw [q] at nc; cases nc
  have nMD : M ≠ D := new_ne j1.dc nM
  have sM := same_new (o := .lst []) nM
  refine lc_list (K := K) (xs := [b1, b2].map V.bl) (fun m G => But D H1 G ∧ Dc G D ∧ ∃ vs : List V, G M = some (.lst vs) ∧ vs.length = m ∧ ∀ (n : Nat) (v : V) (z : Bool), vs[n]? = some v → [b1, b2][n]? = some z → ∀ o, RowQ K (upd G M o) (sortN N) z v)
    ⟨Same.but sM, j1.dc.same sM, [], upd_same, rfl, fun n v z h => by simp at h⟩ (fun m G _ z => SqL.of (z.1 _ _ ncD hc)) (fun m v G hv z => ?_) (fun G z => ?_)
  · obtain ⟨bt, dc, vs, hM, lv, al⟩ := z
    have hm : m < 2 := by
      have := (List.getElem?_eq_some_iff.mp hv).1
      simpa using this
    rw [List.getElem?_map] at hv
    obtain ⟨z, hz, rfl⟩ := Option.map_eq_some_iff.mp hv
    refine ⟨hw _, tyes ?_⟩
    refine rd_rowp (c := z) (j1.roll bt dc) (h0 _) (h1 _) ok Wne nz (fun R q => ⟨_, hi _, z, rfl, q⟩) fun v G2 b2' dc2 rq => ?_
    have hM2 := b2' _ _ nMD hM
    have hw2 : vs = [] ∨ ∃ u, vs = [u] ∧ u ≠ .str "x" := by
      match vs, lv, al with
      | [], _, _ => exact .inl rfl
      | [u], lv, al =>
        refine .inr ⟨u, rfl, ?_⟩
        exact (al 0 u b1 rfl rfl (.tup [])).nx
      | _ :: _ :: _, lv, _ => simp at lv; omega
    refine ⟨vs, hM2, by rw [sizeLine_eq]; omega, but_mut (bt.trans b2') nM, dc_upd dc2 nMD, vs ++ [v], upd_same, by rw [List.length_append, lv]; rfl, fun n u y hn hy o => ?_⟩
    rw [upd_twice]
    by_cases e : n < vs.length
    · rw [List.getElem?_append_left e] at hn
      exact (al n u y hn hy o).butN (dc_upd dc nMD) (But.butN (but_upd2 b2'))
    · have en : n = vs.length := by
        have q := (List.getElem?_eq_some_iff.mp hn).1
        rw [List.length_append] at q
        have : ([v] : List V).length = 1 := rfl
        omega
      subst en
      rw [List.getElem?_append_right (Nat.le_refl _), Nat.sub_self] at hn
      cases hn
      rw [lv, hz] at hy
      cases hy
      exact rq.mutM hM2 hw2
  · obtain ⟨bt, dc, vs, hM, lv, al⟩ := z
    match vs, lv, al with
    | [v2, v3], _, al =>
      have e := upd_back hM
      have r2 := al 0 v2 b1 rfl rfl (.lst [v2, v3])
      have r3 := al 1 v3 b2 rfl rfl (.lst [v2, v3])
      rw [e] at r2 r3
      exact k M v2 v3 G hM ((Same.but sc).trans bt) dc r2 r3
end LW
namespace LW
open PySem PySem.Spec PyProof.Rows L2 DW LamX
abbrev orN : List Str := ["dice", "plain", "net", "turn", "one", "bad", "words", "told", "other", "row", "value", "wrong", "word", "call"]
theorem scOr : FnScope orN ["dice", "plain", "net"] (defScope s_law_others_right) := ⟨rfl, rfl, rfl, by decide +kernel, rfl, by decide +kernel, by decide +kernel⟩
def spOr (K : PySem.W.Frag) (C : Addr) (T : List (Addr × Str)) : Sp := fun vs H Q _ => ∃ (D pl x : Addr) (N : PlainD), vs = [.ref D, .ref pl, .ref x] ∧ Dc H D ∧ pl ≠ D ∧ PlainAt K H pl N ∧ OkN N ∧ N.W ≠ [] ∧ NoZ N ∧ NetAt K C H x (sortN N) ∧ Tabs T H ∧ ∀ H', ButN D H H' → Dc H' D → Tabs T H' → Q (.bl true) H'
abbrev sO (D pl x : Addr) (x3 x4 x5 x6 x7 x8 x9 x10 : Option V) : L2.St := [some (.ref D), some (.ref pl), some (.ref x), x3, x4, x5, x6, x7, x8, x9, x10, none, none, none]
def S4 (K : PySem.W.Frag) (C CE fI fT fL fS : Addr) (f : Addr) (sp : Sp) : Prop := (f = fI ∧ sp = spIrE K C CE) ∨ (f = fT ∧ sp = spTdE K C CE) ∨ (f = fL ∧ sp = spIlE K C CE) ∨ (f = fS ∧ sp = spLsE K C CE)
def wd0 (b : Bool) : Str := if b = true then "net" else "none"
def udW (b : Bool) : Str := if b = true then "net" else "operation"
theorem tabs_lst {T : List (Addr × Str)} {G : Hp} {M : Addr} {ws ws' : List V} (hM : G M = some (.lst ws)) (t : Tabs T G) : Tabs T (upd G M (.lst ws')) := fun p hp => by
  have ne : ∀ {c : Addr} {o : HO}, G c = some o → (∀ xs, o ≠ .lst xs) → c ≠ M := fun e n z => by rw [z, hM] at e; cases e; exact n _ rfl
  obtain ⟨ps, h1, h2, h3⟩ := t p hp
  refine ⟨ps, by rw [upd_ne (ne h1 fun xs z => nomatch z)]; exact h1, h2, fun pos cv hc => ?_⟩
  obtain ⟨c, e1, e2⟩ := h3 pos cv hc
  refine ⟨c, e1, ?_⟩
  rw [upd_ne (ne e2 fun xs z => by unfold CodeO at z; cases z)]
  exact e2
theorem butN_mut {H H' : Hp} {D a : Addr} {o : HO} (b : ButN D H H') (n : H a = none) : ButN D H (upd H' a o) := fun c u nc e t => by
  rw [upd_ne (ne_of_none e n)]
  exact b c u nc e t
section
variable {K : PySem.W.Frag} {C CE CO CW fI fT fL fS f D x : Addr} {sp : Sp} {N : PlainD} {H1 : Hp} {Q : VK} {b0 : Bool} {v1 v : V}
theorem s4_wd (ex : ExW K CE CW CO) (IC : C8.InsC K C) (kC : PySem.W.kitOne K (.ref C) (.type "tuple") = some false) (hs : S4 K C CE fI fT fL fS f sp) (h1 : (b0 = true ∧ NotNet K C H1 v1) ∨ (b0 = false ∧ v1 = .ref x)) (net : NetAt K C H1 x N) (ok : OkN N) (va : VaQ K D x N H1 v)
    (k : ∀ G, Same H1 G → Q (.str (wd0 b0)) G) : sp [v1, v] H1 (fun _ G => Q (.str "none") G) (eWd K CE CW CO Q) := by
  rcases h1 with ⟨rfl, nn⟩ | ⟨rfl, rfl⟩
  · have q : ∀ H', Same H1 H' → eWd K CE CW CO Q (.ref CE) none H' := fun H' s => ex.e (k H' s)
    rcases hs with ⟨rfl, rfl⟩ | ⟨rfl, rfl⟩ | ⟨rfl, rfl⟩ | ⟨rfl, rfl⟩
    · exact ⟨_, _, rfl, .inl ⟨nn, q⟩⟩
    · exact ⟨_, _, rfl, .inl ⟨nn, q⟩⟩
    · exact ⟨_, _, rfl, .inl ⟨nn, q⟩⟩
    · exact ⟨_, _, rfl, .inl ⟨nn, q⟩⟩
  · rcases hs with ⟨rfl, rfl⟩ | ⟨rfl, rfl⟩ | ⟨rfl, rfl⟩ | ⟨rfl, rfl⟩
    · obtain ⟨b, vb⟩ := va.val IC kC net
      exact ⟨_, _, rfl, .inr ⟨x, N, b, rfl, net, ok, vb, k⟩⟩
    · exact ⟨_, _, rfl, .inr ⟨x, N, rfl, net, ok, va.word ok net, k⟩⟩
    · exact ⟨_, _, rfl, .inr ⟨x, N, rfl, net, ok, va.list IC kC net, k⟩⟩
    · exact ⟨_, _, rfl, .inr ⟨x, N, rfl, net, ok, va.list IC kC net, fun _ => k⟩⟩
theorem s2_fl (IC : C8.InsC K C) (kC : PySem.W.kitOne K (.ref C) (.type "tuple") = some false) (hs : sp = spTdE K C CE ∨ sp = spIlE K C CE) (net : NetAt K C H1 x N) (ok : OkN N) (va : VaQ K D x N H1 v) (k : ∀ G, Same H1 G → Q (.bl false) G) : sp [.ref x, v] H1 Q E0 := by
  rcases hs with rfl | rfl
  · exact ⟨_, _, rfl, .inr ⟨x, N, rfl, net, ok, va.word ok net, k⟩⟩
  · exact ⟨_, _, rfl, .inr ⟨x, N, rfl, net, ok, va.list IC kC net, k⟩⟩
end
section
variable {P : Program} {w : World} {K : PySem.W.Frag} {mg : Str → Option Value} {base : Heap}
theorem ok_or {T : List (Addr × Str)} {f c Pt fR fP fA fO fF fC fU fI fT fL fS fW C CE CO CW : Addr} {fd dR dP dA dO dF dC dU dI dT dL dS dW : FuncData} (F : Fun K "_law_others_right" "_law_others_right" s_law_others_right f fd) (tk : TkS K base mg T "_law_others_right" "_law_others_right" s_law_others_right f c Pt)
    (CR : Cal P w K mg base 1 "_law_roll" ["dice", "total"] spRoll fR dR) (CP : Cal P w K mg base 2 "_law_pick" ["dice", "items"] (spPick K) fP dP) (AR : Cal P w K mg base 3 "_law_a_row" ["dice", "plain"] (spAr K) fA dA) (OD : Cal P w K mg base 4 "_law_odd_row" ["dice", "plain"] (spOd K) fO dO) (FI : Cal P w K mg base 1 "_law_first" ["words"] spFi fF dF)
    (CV : CalR P w K mg base 6 "covers" ["net", "row", "other"] (spCvE K C CE CW) fC dC) (UL : CalR P w K mg base 8 "used_lines" ["net", "lines"] (spUlE K C CE CO) fU dU) (IR : CalR P w K mg base 4 "is_row" ["net", "value"] (spIrE K C CE) fI dI) (TD : CalR P w K mg base 4 "is_told" ["net", "value"] (spTdE K C CE) fT dT) (IL : CalR P w K mg base 7 "is_list" ["net", "value"] (spIlE K C CE) fL dL) (LS : CalR P w K mg base 6 "list_fault" ["net", "value"] (spLsE K C CE) fS dS)
    (W : WdK P w K mg base CE CW CO fW dW) (ex : ExW K CE CW CO) (IC : C8.InsC K C) (kC : PySem.W.kitOne K (.ref C) (.type "tuple") = some false) (KN : ∀ t ∈ (["NoneType", "int", "tuple", "dict", "list", "str"] : List String), PySem.W.kitOne K (.type t) (.ref C) = some false)
    (zR : mg "range" = none) (zZ : mg "zip" = none) : FnG P w K mg base 11 f fd ["dice", "plain", "net"] (spOr K C T) := by
  obtain ⟨ocM, odM, kVM, docM, pmM, anM, cdM, ctM, oslM, edW, lkM, hcdM⟩ := W.F.ex
  obtain ⟨CY, hY⟩ := W.hY
  have A4 : ∀ f sp, S4 K C CE fI fT fL fS f sp → HeldX P w K mg base 8 f sp := fun f sp h => by
    rcases h with ⟨rfl, rfl⟩ | ⟨rfl, rfl⟩ | ⟨rfl, rfl⟩ | ⟨rfl, rfl⟩
    · exact ⟨4, _, _, by decide, IR.G, IR.kp, IR.b⟩
    · exact ⟨4, _, _, by decide, TD.G, TD.kp, TD.b⟩
    · exact ⟨7, _, _, by decide, IL.G, IL.kp, IL.b⟩
    · exact ⟨6, _, _, by decide, LS.G, LS.kp, LS.b⟩
  refine fngL F scOr (fun vs H Q h => ?_) (fun cdv A outer s H vs Q hlk hr hgu h => ?_)
  · obtain ⟨D, pl, x, N, rfl, _⟩ := h
    rfl
  obtain ⟨oc, od, kV, doc, pm, an, ct, osl, lk⟩ := hlk
  obtain rfl := tk.code _ _ _ _ _ _ _ _ _ lk
  obtain ⟨D, pl, x, N, rfl, hD, npl, plain, ok, Wne, nz, net, tb, k⟩ := h
  subst edW
  refine ⟨_, C8.pss_cut (ps_for PassesOwn.never rfl (pi_range1 rfl zR (pa_cons pe_int pa_nil)) (pg_name (i := 3) scOr.nd rfl (.inl rfl))
      (C8.pss_cut (ps_setLc (i := 5) (own := [("one", 4)]) (g := gName 4) (tt := tYes) (te := tOp rEq (tCall spRoll [] E0 (tCons (tVar 0) (tCons (tC (.int 3)) tNil))) (tC (.int 0))) rfl scOr.nd rfl rfl (sw_true rfl rfl rfl (by decide +kernel)) (pi_range1 rfl zR (pa_cons pe_int pa_nil)) (blkOk_by (own := [("one", 4)]) (N := orN) (sc := defScope s_law_others_right) (by decide +kernel))
          (fun _ _ _ _ _ => pg_name (i := 4) scOr.nd rfl (Or.inl rfl)) (fun _ _ _ _ _ => pts_nil) (fun _ _ _ _ _ => pe_cmpR op_eq (pe_cal (E := E0) (m := 10) CR hr rfl (pa_cons (pv 0) (pa_cons pe_int pa_nil))) pe_int (nomark _)))
      (C8.pss_cut (ps_set (i := 4) scOr.nd rfl (Or.inr rfl) (pe_ifExp (pt_val (pe_ix (r := rIxL K) ix_list (pv 5) pe_int (fun _ _ => rfl))) (pe_cal (E := E0) CP hr rfl (pa_cons (pv 0) (pa_cons (pe_lst (pa_cons pe_non (pa_cons pe_int (pa_cons (pe_tup pa_nil) (pa_cons pe_dnewK (pa_cons pe_str (pa_cons (pv 1) pa_nil))))))) pa_nil))) (pv 2)))
      (C8.pss_cut (ps_asg (pe_lc (own := [("wrong", 11)]) (g := gName 11) (tt := tYes) (te := tIf (tB (tVar 11)) (tCall (spOd K) [] E0 (tCons (tVar 0) (tCons (tVar 1) tNil))) (tCall (spAr K) [] E0 (tCons (tVar 0) (tCons (tVar 1) tNil)))) rfl scOr.nd (pi_list (pe_slice sl_list (pv 5) (po_some pe_int) po_none)) (blkOk_by (own := [("wrong", 11)]) (N := orN) (sc := defScope s_law_others_right) (by decide +kernel))
          (fun _ _ _ _ _ => pg_name (i := 11) scOr.nd rfl (Or.inl rfl)) (fun _ _ _ _ _ => pts_nil) (fun _ _ _ _ _ => pe_ifExp (pt_val (pv 11)) (pe_cal (E := E0) (m := 10) OD hr rfl (pa_cons (pv 0) (pa_cons (pv 1) pa_nil))) (pe_cal (E := E0) (m := 10) AR hr rfl (pa_cons (pv 0) (pa_cons (pv 1) pa_nil)))))
        (pg_lst rfl (pgs_cons (pg_name (i := 9) scOr.nd rfl (.inr rfl)) (pgs_cons (pg_name (i := 8) scOr.nd rfl (.inr rfl)) pgs_nil))))
      (C8.pss_cut (ps_setLc (i := 6) (own := [("word", 12), ("wrong", 11)]) (g := gTup K 2 (gCons (gName 12) (gCons (gName 11) gNil))) (tt := tYes) (te := tIf (tB (tVar 11)) (tVar 12) (tC (.str "none"))) rfl scOr.nd rfl rfl (sw_true rfl rfl rfl (by decide +kernel)) (pi_zip rfl zZ (pa_cons (pe_lst (pa_cons pe_str (pa_cons pe_str (pa_cons pe_str pa_nil)))) (pa_cons (pv 5) pa_nil))) (blkOk_by (own := [("word", 12), ("wrong", 11)]) (N := orN) (sc := defScope s_law_others_right) (by decide +kernel))
          (fun _ _ _ _ _ => pg_tup rfl (pgs_cons (pg_name (i := 12) scOr.nd rfl (Or.inl rfl)) (pgs_cons (pg_name (i := 11) scOr.nd rfl (Or.inl rfl)) pgs_nil))) (fun _ _ _ _ _ => pts_nil) (fun _ _ _ _ _ => pe_ifExp (pt_val (pv 11)) (pv 12) pe_str))
      (C8.pss_cut (ps_if (pt_cmpR op_ne (pe_lamcallG (k := 8) (T := T) (Ng := ["call"]) (TT := TWd K CE CW CO) (t := fun E => tCall (spCvE K C CE CW) [] E (tCons (tVar 4) (tCons (tVar 9) (tCons (tVar 8) tNil)))) rfl W.g W.kp hgu lkM hcdM W.b scWd rfl (.inl rfl) (wd_gives W.hE W.hW W.hO hY) tk.tb rfl tk.mem tk.un hr (lamS_by (by rfl)) rfl (fun _ _ _ _ _ => rfl)
            (fun A outer s H E f c' hr2 hg2 => pe_calR (E := E) CV hr2 (takes_of rfl rfl rfl rfl) rfl (pa_cons (pv 4) (pa_cons (pv 9) (pa_cons (pv 8) pa_nil)))))
          (pe_cal (E := E0) FI hr rfl (pa_cons (pv 6) pa_nil)) (nomark _)) (pss_one (ps_ret pe_bl)) pss_nil)
      (C8.pss_cut (ps_set (i := 10) scOr.nd rfl (Or.inr rfl) (pe_cal (E := E0) CP hr rfl (pa_cons (pv 0) (pa_cons (pe_lst (pa_cons (pv 9) (pa_cons (pv 8) (pa_cons pe_non (pa_cons pe_int (pa_cons (pe_tup pa_nil) (pa_cons (pe_lst pa_nil) (pa_cons pe_dnewK (pa_cons (pe_tup (pa_cons (pe_tup (pa_cons (pv 9) (pa_cons (pv 8) pa_nil))) pa_nil)) (pa_cons (pe_tup (pa_cons pe_non pa_nil)) (pa_cons pe_str (pa_cons pe_bl (pa_cons (pv 2) pa_nil))))))))))))) pa_nil))))
      (C8.pss_cut (ps_setLc (i := 7) (own := [("call", 13)]) (g := gName 13) (tt := tYes) (te := tLam T (TWd K CE CW CO) fun E => tCallX 13 (S4 K C CE fI fT fL fS) E (tCons (tVar 4) (tCons (tVar 10) tNil))) rfl scOr.nd rfl rfl (sw_true rfl rfl rfl (by decide +kernel)) (pi_tup (pe_tup (pa_cons (pe_glob rfl IR.g (show RelV (.ref fI) (.ref fI) from rfl)) (pa_cons (pe_glob rfl TD.g (show RelV (.ref fT) (.ref fT) from rfl)) (pa_cons (pe_glob rfl IL.g (show RelV (.ref fL) (.ref fL) from rfl)) (pa_cons (pe_glob rfl LS.g (show RelV (.ref fS) (.ref fS) from rfl)) pa_nil)))))) (blkOk_by (own := [("call", 13)]) (N := orN) (sc := defScope s_law_others_right) (by decide +kernel))
          (fun _ _ _ _ _ => pg_name (i := 13) scOr.nd rfl (Or.inr rfl)) (fun _ _ _ _ _ => pts_nil)
          (fun _ _ _ _ _ => pe_lamcallG (k := 8) (T := T) (Ng := ["call"]) (TT := TWd K CE CW CO) (t := fun E => tCallX 13 (S4 K C CE fI fT fL fS) E (tCons (tVar 4) (tCons (tVar 10) tNil))) rfl W.g W.kp hgu lkM hcdM W.b scWd rfl (.inl rfl) (wd_gives W.hE W.hW W.hO hY) tk.tb rfl tk.mem tk.un hr (lamS_by (by rfl)) rfl (fun _ _ _ _ _ => rfl)
            (fun A outer s H E f c' hr2 hg2 => pe_callX (i := 13) A4 hr2 (passE (takes_of rfl rfl rfl rfl)) (pa_cons (pv 4) (pa_cons (pv 10) pa_nil)))))
      (C8.pss_cut (ps_if (pt_cmpR (op_neD hr.units) (pv 7) (pe_op op_rep (pe_lst (pa_cons (pe_ix (r := rIxL K) ix_list (pv 6) pe_int (fun _ _ => rfl)) pa_nil)) pe_int) (nomark _)) (pss_one (ps_ret pe_bl)) pss_nil)
      (C8.pss_cut (ps_set (i := 7) scOr.nd rfl (Or.inl rfl) (pe_lamcallG (k := 8) (T := T) (Ng := ["call"]) (TT := TWd K CE CW CO) (t := fun E => tCall (spUlE K C CE CO) [] E (tCons (tVar 4) (tCons (tVar 10) tNil))) rfl W.g W.kp hgu lkM hcdM W.b scWd rfl (.inl rfl) (wd_gives W.hE W.hW W.hO hY) tk.tb rfl tk.mem tk.un hr (lamS_by (by rfl)) rfl (fun _ _ _ _ _ => rfl)
            (fun A outer s H E f c' hr2 hg2 => pe_calR (E := E) UL hr2 (takes_of rfl rfl rfl rfl) rfl (pa_cons (pv 4) (pa_cons (pv 10) pa_nil)))))
      (C8.pss_cut (ps_if (pt_cmpR op_ne (pv 7) (pe_ifExp (pt_val (pe_ix (r := rIxL K) ix_list (pv 5) pe_int (fun _ _ => rfl))) pe_str pe_str) (nomark _)) (pss_one (ps_ret pe_bl)) pss_nil)
      (pss_one (ps_if (PW.pt (pw_and (pt_not (pt_val (pe_ix (r := rIxL K) ix_list (pv 5) pe_int (fun _ _ => rfl)))) (pw_and1 (pt_cmpR (op_neD hr.units)
          (pe_lc (own := [("call", 13)]) (g := gName 13) (tt := tYes) (te := tCallX 13 (S4 K C CE fI fT fL fS) E0 (tCons (tVar 2) (tCons (tVar 10) tNil))) rfl scOr.nd (pi_tup (pe_tup (pa_cons (pe_glob rfl TD.g (show RelV (.ref fT) (.ref fT) from rfl)) (pa_cons (pe_glob rfl IL.g (show RelV (.ref fL) (.ref fL) from rfl)) pa_nil)))) (blkOk_by (own := [("call", 13)]) (N := orN) (sc := defScope s_law_others_right) (by decide +kernel))
            (fun _ _ _ _ _ => pg_name (i := 13) scOr.nd rfl (Or.inl rfl)) (fun _ _ _ _ _ => pts_nil) (fun _ _ _ _ _ => pe_callX (i := 13) A4 (hr.mono (by decide)) passes0 (pa_cons (pv 2) (pa_cons (pv 10) pa_nil))))
          (pe_lst (pa_cons pe_bl (pa_cons pe_bl pa_nil))) (nomark _))))) (pss_one (ps_ret pe_bl)) pss_nil)))))))))))))
    (pss_one (ps_ret pe_bl)), ?_⟩
  have j0 : TuJ K C T H D pl x N H := ⟨ButN.refl, hD, tb, npl, plain, net⟩
  have oks := ok.sort
  clear plain net tb
  refine ⟨fun σ' H' => ∃ x3 x4 x5 x6 x7 x8 x9 x10, σ' = sO D pl x x3 x4 x5 x6 x7 x8 x9 x10 ∧ TuJ K C T H D pl x N H', ?_, ?_⟩
  · refine ⟨12, rfl, by decide, by decide, ?_⟩
    refine for_range (lo := 0) (n := 12) (fun i σ G => ∃ x3 x4 x5 x6 x7 x8 x9 x10, σ = sO D pl x x3 x4 x5 x6 x7 x8 x9 x10 ∧ TuJ K C T H D pl x N G) ⟨_, _, _, _, _, _, _, _, rfl, j0⟩ (fun i σ G hi z => ?_) (fun σ G z => z)
    clear j0
    obtain ⟨x3, x4, x5, x6, x7, x8, x9, x10, rfl, j3⟩ := z
    -- bad
    refine ⟨fun σ' H' => ∃ x3 b b0 b1 b2, σ' = sO D pl x x3 x4 (some (.ref b)) x6 x7 x8 x9 x10 ∧ TuJ K C T H D pl x N H' ∧ b ≠ D ∧ H' b = some (.lst ([b0, b1, b2].map V.bl)), ?_, ?_⟩
    · refine rd_bad (n := 3) (by decide) j3.dc (fun _ => rfl) (fun _ => rfl) fun b bs H' hb lb bt dc nb => ?_
      match bs, lb with
      | [b0, b1, b2], _ => exact ⟨_, b, b0, b1, b2, rfl, j3.roll bt dc, nb, hb⟩
    clear j3
    rintro _ H4 ⟨y3, b, b0, b1, b2, rfl, j4, nb, hb⟩
    -- one
    refine ⟨fun σ' H' => ∃ v1, σ' = sO D pl x y3 (some v1) (some (.ref b)) x6 x7 x8 x9 x10 ∧ TuJ K C T H D pl x N H' ∧ H' b = some (.lst ([b0, b1, b2].map V.bl)) ∧ OneQ D x H' b0 v1, ?_, ?_⟩
    · refine tb_ix 0 rfl hb rfl ?_
      cases b0 with
      | false => exact iteF ⟨_, rfl, _, rfl, j4, hb, .inr ⟨rfl, rfl⟩⟩
      | true =>
        refine iteT ⟨_, rfl, by show 0 ≤ sizeLine; decide, fun t1 n1 => fun d1 nd => ⟨_, rfl, by show 6 ≤ sizeLine; decide, fun p np => ?_⟩⟩
        have a1 := same_new (o := .tup []) n1
        have a2 := same_new (o := .dK []) nd
        have a3 := same_new (o := .lst [V.non, V.int 0, V.ref t1, V.ref d1, V.str "net", V.ref pl]) np
        have aa := a1.trans (a2.trans a3)
        obtain ⟨ea, ec, ee, hpl, _⟩ := id j4.plain
        refine ⟨D, .ref p, rfl, j4.dc.same aa, .inl ⟨p, _, rfl, new_ne (j4.dc.same (a1.trans a2)) np, upd_same, by show 0 < 6; decide, by show 6 < 1000; decide, fun w G hw bt dc => ?_⟩⟩
        have j5 := (j4.same aa).roll bt dc
        have bA : But D H4 G := (Same.but aa).trans bt
        refine ⟨w, rfl, j5, bA _ _ nb hb, .inl ⟨rfl, NnV.butN (j4.dc.same aa) (But.butN bt) ?_⟩⟩
        simp only [List.mem_cons, List.not_mem_nil, or_false] at hw
        rcases hw with rfl | rfl | rfl | rfl | rfl | rfl
        · exact .non
        · exact .int _
        · exact .tup ((a2.trans a3) _ _ upd_same)
        · exact .dct (a3 _ _ upd_same)
        · exact .str _
        · exact .lst npl (aa _ _ hpl)
    clear j4 hb
    rintro _ H5 ⟨v1, rfl, j5, hb, o1⟩
    -- row, other
    refine ⟨fun σ' H' => ∃ v2 v3, σ' = sO D pl x y3 (some v1) (some (.ref b)) x6 x7 (some v3) (some v2) x10 ∧ TuJ K C T H D pl x N H' ∧ H' b = some (.lst ([b0, b1, b2].map V.bl)) ∧ OneQ D x H' b0 v1 ∧ RowQ K H' (sortN N) b1 v2 ∧ RowQ K H' (sortN N) b2 v3, ?_, ?_⟩
    · refine rd_two (K := K) (b0 := b0) (b1 := b1) (b2 := b2) j5 ok Wne nz rfl hb (fun _ => rfl) (fun _ => rfl) (fun _ => rfl) (fun _ => rfl) fun p v2 v3 H' hp bt dc r2 r3 => ?_
      have bn := But.butN bt
      exact ⟨p, _, rfl, SqL.of hp, rfl, _, _, rfl, _, _, rfl, rfl, v2, v3, rfl, j5.roll bt dc, bt _ _ nb hb, o1.butN j5.dc bn, r2, r3⟩
    clear j5 hb o1
    rintro _ H6 ⟨v2, v3, rfl, j6, hb, o1, o2, o3⟩
    -- words
    refine ⟨fun σ' H' => ∃ wd, σ' = sO D pl x y3 (some v1) (some (.ref b)) (some (.ref wd)) x7 (some v3) (some v2) x10 ∧ Same H6 H' ∧ wd ≠ D ∧ H' wd = some (.lst ((zipW cvW [b0, b1, b2]).map V.str)), rd_words (ws := cvW) (bs := [b0, b1, b2]) (fun _ _ q => q) rfl hb rfl (by decide) (fun _ _ => rfl) (fun _ _ => rfl) (fun _ _ => rfl) fun p H' s hp => ⟨p, rfl, s, ?_, hp⟩, ?_⟩
    · rintro rfl
      obtain ⟨d0, d1, d2, e⟩ := j6.dc.same s
      rw [hp] at e
      cases e
    rintro _ H7 ⟨wd, rfl, s7, nwd, hwd⟩
    have bn7 : ButN D H6 H7 := DW.ExtN.butN (Same.extN s7)
    have j7 := j6.same s7
    replace hb := s7 _ _ hb
    replace o1 := o1.butN j6.dc bn7
    replace o2 := o2.butN j6.dc bn7
    replace o3 := o3.butN j6.dc bn7
    clear j6 s7 bn7
    -- covers(one, row, other)
    refine ⟨fun σ' H' => σ' = sO D pl x y3 (some v1) (some (.ref b)) (some (.ref wd)) x7 (some v3) (some v2) x10 ∧ TuJ K C T H D pl x N H' ∧ H' b = some (.lst ([b0, b1, b2].map V.bl)) ∧ OneQ D x H' b0 v1 ∧ RowQ K H' (sortN N) b1 v2 ∧ RowQ K H' (sortN N) b2 v3 ∧ H' wd = some (.lst ((zipW cvW [b0, b1, b2]).map V.str)), ?_, ?_⟩
    · refine ⟨j7.tb, fun H8 e8 t8 => ?_⟩
      have bn : ButN D H7 H8 := DW.ExtN.butN e8
      have j8 := j7.ext e8 t8
      refine ⟨_, rfl, _, rfl, _, rfl, cov_wd (N := sortN N) (x := x) (b0 := b0) (b1 := b1) (b2 := b2) ex ?_ (o2.butN j7.dc bn) (o3.butN j7.dc bn) fun G sG => ?_⟩
      · rcases o1.butN j7.dc bn with ⟨e, nn⟩ | ⟨e, rfl⟩
        · exact .inl ⟨e, nn.not KN⟩
        · exact .inr ⟨e, rfl, j8.net, oks⟩
      have hwG := sG _ _ (e8 _ _ hwd fun _ z => nomatch z)
      refine ⟨_, rfl, wd, _, rfl, hwG, by unfold zipW; rw [List.length_zipWith]; show min 3 3 ≤ 10; decide, zw_ok (ws := cvW) (by decide +kernel) _, fun G2 s2 => ?_⟩
      have bF : ButN D H7 G2 := bn.trans (DW.ExtN.butN (Same.extN (sG.trans s2)))
      exact ⟨rfl, _, rfl, ite0 (by rw [decide_eq_true rfl]; rfl) ⟨rfl, (j8.same sG).same s2, bF _ _ nb hb (fun _ z => nomatch z), o1.butN j7.dc bF, o2.butN j7.dc bF, o3.butN j7.dc bF, s2 _ _ hwG⟩⟩
    clear j7 hb o1 o2 o3 hwd
    rintro _ H8 ⟨rfl, j8, hb, o1, o2, o3, hwd⟩
    -- value
    refine ⟨fun σ' H' => ∃ va, σ' = sO D pl x y3 (some v1) (some (.ref b)) (some (.ref wd)) x7 (some v3) (some v2) (some va) ∧ TuJ K C T H D pl x N H' ∧ H' b = some (.lst ([b0, b1, b2].map V.bl)) ∧ OneQ D x H' b0 v1 ∧ VaQ K D x (sortN N) H' va ∧ H' wd = some (.lst ((zipW cvW [b0, b1, b2]).map V.str)), ?_, ?_⟩
    · refine ⟨_, rfl, _, rfl, _, rfl, by show 0 ≤ sizeLine; decide, fun t1 n1 => ⟨by show 0 ≤ sizeLine; decide, fun l1 nl => fun d1 nd => ⟨_, rfl, _, rfl, by show 2 ≤ sizeLine; decide, fun t2 n2 => ⟨by show 1 ≤ sizeLine; decide, fun t3 n3 => ⟨by show 1 ≤ sizeLine; decide, fun t4 n4 => ⟨_, rfl, by show 12 ≤ sizeLine; decide, fun p np => ?_⟩⟩⟩⟩⟩⟩
      have a1 := same_new (o := .tup []) n1
      have a2 := same_new (o := .lst []) nl
      have a3 := same_new (o := .dK []) nd
      have a4 := same_new (o := .tup [v2, v3]) n2
      have a5 := same_new (o := .tup [V.ref t2]) n3
      have a6 := same_new (o := .tup [V.non]) n4
      have a7 := same_new (o := .lst [v2, v3, V.non, V.int 0, V.ref t1, V.ref l1, V.ref d1, V.ref t3, V.ref t4, V.str "x", V.bl true, V.ref x]) np
      have b6 := a1.trans (a2.trans (a3.trans (a4.trans (a5.trans a6))))
      have aa := b6.trans a7
      refine ⟨D, .ref p, rfl, j8.dc.same aa, .inl ⟨p, _, rfl, new_ne (j8.dc.same b6) np, upd_same, by show 0 < 12; decide, by show 12 < 1000; decide, fun w G hw bt dc => ?_⟩⟩
      have j9 := j8.same aa
      have bA : But D H8 G := (Same.but aa).trans bt
      have bn8 : ButN D H8 _ := DW.ExtN.butN (Same.extN aa)
      have p2 := o2.butN j8.dc bn8
      have p3 := o3.butN j8.dc bn8
      refine ⟨w, rfl, j9.roll bt dc, bA _ _ nb hb, o1.butN j8.dc (But.butN bA), VaQ.butN j9.dc (But.butN bt) ?_, bA _ _ nwd hwd⟩
      simp only [List.mem_cons, List.not_mem_nil, or_false] at hw
      rcases hw with rfl | rfl | rfl | rfl | rfl | rfl | rfl | rfl | rfl | rfl | rfl | rfl
      · exact .row p2
      · exact .row p3
      · exact .non
      · exact .int _
      · exact .tup ((a2.trans (a3.trans (a4.trans (a5.trans (a6.trans a7))))) _ _ upd_same)
      · exact .lst (new_ne (j8.dc.same a1) nl) ((a3.trans (a4.trans (a5.trans (a6.trans a7)))) _ _ upd_same)
      · exact .dct ((a4.trans (a5.trans (a6.trans a7))) _ _ upd_same)
      · exact .two ((a6.trans a7) _ _ upd_same) ((a5.trans (a6.trans a7)) _ _ upd_same) p2 p3
      · exact .one (a7 _ _ upd_same)
      · exact .str _ (by decide +kernel)
      · exact .bl _
      · exact .net
    clear j8 hb o1 o2 o3 hwd
    rintro _ H9 ⟨va, rfl, j9, hb, o1, vq, hwd⟩
    -- told
    refine ⟨fun σ' H' => ∃ m, σ' = sO D pl x y3 (some v1) (some (.ref b)) (some (.ref wd)) (some (.ref m)) (some v3) (some v2) (some va) ∧ TuJ K C T H D pl x N H' ∧ H' b = some (.lst ([b0, b1, b2].map V.bl)) ∧ OneQ D x H' b0 v1 ∧ VaQ K D x (sortN N) H' va ∧ H' wd = some (.lst ((zipW cvW [b0, b1, b2]).map V.str)) ∧ H' m = some (.lst ((List.replicate 4 (wd0 b0)).map V.str)), ?_, ?_⟩
    · refine ⟨by show 4 ≤ sizeLine; decide, fun q nq => ⟨q, rfl, ⟨_, SqT.of upd_same⟩, fun M nM => ?_⟩⟩
      have sq := same_new (o := .tup [V.ref fI, V.ref fT, V.ref fL, V.ref fS]) nq
      have jq := j9.same sq
      have bq : ButN D H9 (upd H9 q (.tup [V.ref fI, V.ref fT, V.ref fL, V.ref fS])) := DW.ExtN.butN (Same.extN sq)
      have hq : (upd H9 q (.tup [V.ref fI, V.ref fT, V.ref fL, V.ref fS])) q = some (.tup [V.ref fI, V.ref fT, V.ref fL, V.ref fS]) := upd_same
      have nqD : q ≠ D := ne_D jq.dc hq fun _ z => nomatch z
      generalize upd H9 q (.tup [V.ref fI, V.ref fT, V.ref fL, V.ref fS]) = Hq at sq jq bq hq nM ⊢
      have MD : M ≠ D := new_ne jq.dc nM
      have sM := same_new (o := .lst []) nM
      refine lc_tup (K := K) (xs := [V.ref fI, V.ref fT, V.ref fL, V.ref fS]) (fun n G => ButN D Hq G ∧ Dc G D ∧ Tabs T G ∧ G M = some (.lst ((List.replicate n (wd0 b0)).map V.str))) ⟨DW.ExtN.butN (Same.extN sM), jq.dc.same sM, DW.Tabs.same jq.tb sM, upd_same⟩ (fun n G _ z => SqT.of (z.1 _ _ nqD hq fun _ z => nomatch z)) (fun n v G hv z => ?_) (fun G z => ?_)
      · obtain ⟨bt, dc, tG, hM⟩ := z
        have jG := jq.go bt dc tG
        have hn : n < 4 := by
          have := (List.getElem?_eq_some_iff.mp hv).1
          simpa using this
        obtain ⟨g, sp, rfl, hs⟩ : ∃ g sp, v = .ref g ∧ S4 K C CE fI fT fL fS g sp := by
          match n, hn with
          | 0, _ => cases hv; exact ⟨_, _, rfl, .inl ⟨rfl, rfl⟩⟩
          | 1, _ => cases hv; exact ⟨_, _, rfl, .inr (.inl ⟨rfl, rfl⟩)⟩
          | 2, _ => cases hv; exact ⟨_, _, rfl, .inr (.inr (.inl ⟨rfl, rfl⟩))⟩
          | 3, _ => cases hv; exact ⟨_, _, rfl, .inr (.inr (.inr ⟨rfl, rfl⟩))⟩
        refine ⟨rfl, tyes ⟨tG, fun H1 e1 t1 => ?_⟩⟩
        have b1' : ButN D H9 H1 := (bq.trans bt).trans (DW.ExtN.butN e1)
        have j1 := jG.ext e1 t1
        refine ⟨g, sp, rfl, hs, _, rfl, _, rfl, s4_wd (D := D) (b0 := b0) ex IC kC hs ?_ j1.net oks (vq.butN j9.dc b1') fun G2 s2 => ?_⟩
        · rcases o1.butN j9.dc b1' with ⟨e, nn⟩ | ⟨e, rfl⟩
          · exact .inl ⟨e, nn.not KN⟩
          · exact .inr ⟨e, rfl⟩
        have j2 := j1.same s2
        have hM2 := s2 _ _ (e1 _ _ hM fun _ z => nomatch z)
        have bF : ButN D Hq G2 := bt.trans ((DW.ExtN.butN e1).trans (DW.ExtN.butN (Same.extN s2)))
        refine ⟨_, hM2, by rw [List.length_map, List.length_replicate, sizeLine_eq]; omega, butN_mut bF nM, dc_upd j2.dc MD, tabs_lst hM2 j2.tb, ?_⟩
        rw [upd_same, List.replicate_succ', List.map_append]
        rfl
      · obtain ⟨bt, dc, tG, hM⟩ := z
        have bF := bq.trans bt
        exact ⟨M, rfl, jq.go bt dc tG, bF _ _ nb hb (fun _ z => nomatch z), o1.butN j9.dc bF, vq.butN j9.dc bF, bF _ _ nwd hwd (fun _ z => nomatch z), hM⟩
    clear j9 hb o1 vq hwd
    rintro _ H10 ⟨m, rfl, j10, hb, o1, vq, hwd, hm⟩
    have wok : PyData.strOk (wd0 b0) = true := by cases b0 <;> decide +kernel
    refine ⟨fun σ' H' => σ' = sO D pl x y3 (some v1) (some (.ref b)) (some (.ref wd)) (some (.ref m)) (some v3) (some v2) (some va) ∧ TuJ K C T H D pl x N H' ∧ H' b = some (.lst ([b0, b1, b2].map V.bl)) ∧ OneQ D x H' b0 v1 ∧ VaQ K D x (sortN N) H' va, ?_, ?_⟩
    · have ez : ((zipW cvW [b0, b1, b2]).map V.str)[0]? = some (V.str (wd0 b0)) := rfl
      refine ⟨_, rfl, _, rfl, wd, _, 0, _, rfl, rfl, SqL.of hwd, atI_nat (j := 0) ez, by show 1 ≤ sizeLine; decide, fun q nq => ⟨q, 4, _, rfl, rfl, upd_same, by decide, by decide, by show 1 * 4 ≤ sizeLine; decide, fun r nr => ?_⟩⟩
      have s1 := same_new (o := .lst [V.str (wd0 b0)]) nq
      have s2 := same_new (o := .lst (List.replicate (4 : Int).toNat [V.str (wd0 b0)]).flatten) nr
      have ss := s1.trans s2
      refine ne_strs (ks := List.replicate 4 (wd0 b0)) (ls := List.replicate 4 (wd0 b0)) (ss _ _ hm) (by rw [upd_same]; rfl) (fun z m => by rw [List.eq_of_mem_replicate m]; exact wok) (fun z m => by rw [List.eq_of_mem_replicate m]; exact wok) ⟨_, rfl, ite0 (by rw [decide_eq_true rfl]; rfl) ?_⟩
      have bn : ButN D H10 _ := DW.ExtN.butN (Same.extN ss)
      exact ⟨rfl, j10.same ss, ss _ _ hb, o1.butN j10.dc bn, vq.butN j10.dc bn⟩
    clear j10 hb o1 vq hwd hm
    rintro _ H11 ⟨rfl, j11, hb, o1, vq⟩
    -- used_lines
    refine ⟨fun σ' H' => σ' = sO D pl x y3 (some v1) (some (.ref b)) (some (.ref wd)) (some (.str (udW b0))) (some v3) (some v2) (some va) ∧ TuJ K C T H D pl x N H' ∧ H' b = some (.lst ([b0, b1, b2].map V.bl)) ∧ VaQ K D x (sortN N) H' va, ?_, ?_⟩
    · refine ⟨j11.tb, fun H12 e12 t12 => ?_⟩
      have bn : ButN D H11 H12 := DW.ExtN.butN e12
      have j12 := j11.ext e12 t12
      have vq2 := vq.butN j11.dc bn
      have fin : ∀ (z : Str) G, z = (udW b0) → Same H12 G → (sO D pl x y3 (some v1) (some (.ref b)) (some (.ref wd)) (some (.str z)) (some v3) (some v2) (some va)) = sO D pl x y3 (some v1) (some (.ref b)) (some (.ref wd)) (some (.str (udW b0))) (some v3) (some v2) (some va) ∧ TuJ K C T H D pl x N G ∧ G b = some (.lst ([b0, b1, b2].map V.bl)) ∧ VaQ K D x (sortN N) G va := fun z G e s => by
        subst e
        have bF : ButN D H11 G := bn.trans (DW.ExtN.butN (Same.extN s))
        exact ⟨rfl, j12.same s, bF _ _ nb hb (fun _ z => nomatch z), vq.butN j11.dc bF⟩
      refine ⟨_, rfl, _, rfl, _, _, rfl, ?_⟩
      rcases o1.butN j11.dc bn with ⟨rfl, nn⟩ | ⟨rfl, rfl⟩
      · exact .inl ⟨nn.not KN, fun G s => ex.e (fin _ G rfl s)⟩
      · exact .inr ⟨x, sortN N, rfl, j12.net, oks, vq2.list IC kC j12.net, fun G s => ex.o (fin _ G rfl s)⟩
    clear j11 hb o1 vq
    rintro _ H12 ⟨rfl, j12, hb, vq⟩
    refine ⟨fun σ' H' => σ' = sO D pl x y3 (some v1) (some (.ref b)) (some (.ref wd)) (some (.str (udW b0))) (some v3) (some v2) (some va) ∧ H' = H12, ?_, ?_⟩
    · refine ⟨_, rfl, tb_ix 0 rfl hb rfl ?_⟩
      cases b0 with
      | true => exact iteT ⟨rfl, _, rfl, ite0 (congrArg not (decide_eq_true rfl)) ⟨rfl, rfl⟩⟩
      | false => exact iteF ⟨rfl, _, rfl, ite0 (congrArg not (decide_eq_true rfl)) ⟨rfl, rfl⟩⟩
    rintro _ H13 ⟨rfl, rfl⟩
    -- [call(net, value) ..]
    refine tb_ix 0 rfl hb rfl ?_
    cases b0 with
    | true => exact iteF (iteF ⟨_, _, _, _, _, _, _, _, rfl, j12⟩)
    | false =>
      refine iteT ⟨by show 2 ≤ sizeLine; decide, fun q nq => ⟨q, rfl, ⟨_, SqT.of upd_same⟩, fun M nM => ?_⟩⟩
      have sq := same_new (o := .tup [V.ref fT, V.ref fL]) nq
      have hq : (upd H13 q (.tup [V.ref fT, V.ref fL])) q = some (.tup [V.ref fT, V.ref fL]) := upd_same
      generalize upd H13 q (.tup [V.ref fT, V.ref fL]) = Hq at sq hq nM ⊢
      refine lc_tup (K := K) (xs := [V.ref fT, V.ref fL]) (fun n G => Same Hq G ∧ G M = some (.lst (List.replicate n (V.bl false)))) ⟨same_new nM, upd_same⟩ (fun n G _ z => SqT.of (z.1 _ _ hq)) (fun n v G hv z => ?_) (fun G z => ?_)
      · obtain ⟨s1, hM⟩ := z
        have hn : n < 2 := by
          have := (List.getElem?_eq_some_iff.mp hv).1
          simpa using this
        obtain ⟨g, sp, rfl, hs, h2⟩ : ∃ g sp, v = .ref g ∧ S4 K C CE fI fT fL fS g sp ∧ (sp = spTdE K C CE ∨ sp = spIlE K C CE) := by
          match n, hn with
          | 0, _ => cases hv; exact ⟨_, _, rfl, .inr (.inl ⟨rfl, rfl⟩), .inl rfl⟩
          | 1, _ => cases hv; exact ⟨_, _, rfl, .inr (.inr (.inl ⟨rfl, rfl⟩)), .inr rfl⟩
        have jG := j12.same (sq.trans s1)
        have vG := vq.butN j12.dc (DW.ExtN.butN (Same.extN (sq.trans s1)))
        refine ⟨rfl, tyes ⟨g, sp, rfl, hs, _, rfl, _, rfl, s2_fl (D := D) IC kC h2 jG.net oks vG fun G2 s2 => ?_⟩⟩
        refine ⟨_, s2 _ _ hM, by rw [List.length_replicate, sizeLine_eq]; omega, same_mut (s1.trans s2) nM, ?_⟩
        rw [upd_same, List.replicate_succ']
      · obtain ⟨s1, hM⟩ := z
        refine ⟨by show 2 ≤ sizeLine; decide, fun r nr => ?_⟩
        have sr := same_new (o := .lst [V.bl false, V.bl false]) nr
        refine ne_bls (sr _ _ hM) upd_same ⟨_, rfl, iteF ⟨_, _, _, _, _, _, _, _, rfl, j12.same (sq.trans (s1.trans sr))⟩⟩
  rintro _ H4 ⟨x3, x4, x5, x6, x7, x8, x9, x10, rfl, j4⟩
  exact k H4 j4.bt j4.dc j4.tb
end
end LW
namespace LW
open PySem PySem.Spec PyProof.Rows L2 DW
/-! ### the drawn works, as data -/
def preW : List Str := [("w" : Str), ("fly." : Str), ("x" : Str)]
def rkS : List Str → Str → Nat
  | [], _ => 0
  | x :: l, s => if x = s then 1 else match rkS l s with
    | 0 => 0
    | n + 1 => n + 2
theorem rk_at : ∀ {sh : List Str} {i : Nat} {e : Str}, sh.Nodup → sh[i]? = some e → rkS sh e = i + 1
  | x :: l, 0, e, _, h => by
    cases h
    unfold rkS
    rw [if_pos rfl]
  | x :: l, i + 1, e, nd, h => by
    rw [List.nodup_cons] at nd
    have h : l[i]? = some e := h
    have ih := rk_at nd.2 h
    unfold rkS
    rw [if_neg (fun z => nd.1 (by rw [z]; exact List.mem_of_getElem? h)), ih]
theorem rk_out : ∀ {sh : List Str} {s : Str}, s ∉ sh → rkS sh s = 0
  | [], _, _ => rfl
  | x :: l, s, h => by
    rw [List.mem_cons, not_or] at h
    unfold rkS
    rw [if_neg (Ne.symm h.1), rk_out h.2]
theorem rk_take {sh : List Str} {i : Nat} {e : Str} (nd : sh.Nodup) (h : e ∈ sh.take i) : rkS sh e ≤ i := by
  obtain ⟨j, hj⟩ := List.mem_iff_getElem?.mp h
  have lt : j < i := by
    rcases Nat.lt_or_ge j i with q | q
    · exact q
    · rw [List.getElem?_eq_none (by rw [List.length_take]; omega)] at hj
      cases hj
  rw [List.getElem?_take_of_lt lt] at hj
  rw [rk_at nd hj]
  exact lt
theorem preW_inj : ∀ p ∈ preW, ∀ q ∈ preW, ∀ i j : Fin 40, p ++ nS i.val = q ++ nS j.val → i = j := by decide +kernel
theorem preW_nm : ∀ p ∈ preW, ∀ i : Fin 40, nameS (p ++ nS i.val) = true := by decide +kernel
structure WI (L : Ls) (sh : List Str) (i : Nat) (W : Ws) (op : List Str) : Prop where
  nm : ∀ q ∈ W, ∃ p ∈ preW, ∃ j, j < i ∧ q.1 = p ++ nS j
  nd : (W.map (·.1)).Nodup
  wk : ∀ q ∈ W, OkWk L q.2
  en : (W.map fun q => q.2.2.1).Sublist (sh.take i)
  rk : ∀ q ∈ W, rkS sh q.2.1 < rkS sh q.2.2.1
  lk : ∀ q ∈ W, ∀ r ∈ W, q.2.1 = r.2.2.1 → r.2.2.2.2.2 = 0
  ok : ∀ s ∈ op, knownB L s = true ∧ rkS sh s ≤ i
  ol : ∀ s ∈ op, ∀ r ∈ W, s = r.2.2.1 → r.2.2.2.2.2 = 0
  len : op.length ≤ 41 + i
  pos : 0 < op.length
theorem WI.skip {L : Ls} {sh : List Str} {i : Nat} {W : Ws} {op : List Str} (h : WI L sh i W op) : WI L sh (i + 1) W op where
  nm := fun q hq => by
    obtain ⟨p, hp, j, hj, e⟩ := h.nm q hq
    exact ⟨p, hp, j, Nat.lt_succ_of_lt hj, e⟩
  nd := h.nd
  wk := h.wk
  en := h.en.trans (List.take_sublist_take_left (Nat.le_succ i))
  rk := h.rk
  lk := h.lk
  ok := fun s hs => ⟨(h.ok s hs).1, Nat.le_succ_of_le (h.ok s hs).2⟩
  ol := h.ol
  len := Nat.le_trans h.len (by omega)
  pos := h.pos
theorem WI.step {L : Ls} {sh : List Str} {i : Nat} {W : Ws} {op : List Str} {e b p : Str} {l m k : Int} (h : WI L sh i W op) (nd : sh.Nodup) (i40 : i < 40) (he : sh[i]? = some e) (ke : knownB L e = true) (ne : e ≠ ("dawn" : Str)) (hb : b ∈ op) (hp : p ∈ preW)
    (l1 : 1 ≤ l) (lm : l ≤ m) (m1 : m ≤ 10 ^ 30) (k1 : 0 ≤ k ∧ k ≤ 20) : (p ++ nS i) ∉ W.map (·.1) ∧ WI L sh (i + 1) (W ++ [(p ++ nS i, (b, e, l, m, k))]) (op ++ (if k = 0 then [e] else [])) := by
  have re := rk_at nd he
  have rb := (h.ok b hb).2
  have be : b ≠ e := fun z => by rw [z, re] at rb; omega
  have tk : sh.take (i + 1) = sh.take i ++ [e] := by
    rw [List.take_add_one, he]
    rfl
  have ein : e ∉ sh.take i := fun z => by
    have := rk_take nd z
    omega
  have endI : ∀ q ∈ W, q.2.2.1 ∈ sh.take i := fun q hq => h.en.subset (List.mem_map.mpr ⟨q, hq, rfl⟩)
  have fresh : (p ++ nS i) ∉ W.map (·.1) := fun z => by
    obtain ⟨q, hq, e1⟩ := List.mem_map.mp z
    obtain ⟨p', hp', j, hj, e2⟩ := h.nm q hq
    have := preW_inj p' hp' p hp ⟨j, by omega⟩ ⟨i, i40⟩ (e2.symm.trans e1)
    have : j = i := congrArg Fin.val this
    omega
  refine ⟨fresh, ?_⟩
  constructor
  · intro q hq
    rcases List.mem_append.mp hq with hq | hq
    · obtain ⟨p', hp', j, hj, e2⟩ := h.nm q hq
      exact ⟨p', hp', j, Nat.lt_succ_of_lt hj, e2⟩
    · rw [List.mem_singleton] at hq
      subst hq
      exact ⟨p, hp, i, Nat.lt_succ_self _, rfl⟩
  · rw [List.map_append]
    refine List.nodup_append.mpr ⟨h.nd, List.nodup_cons.mpr ⟨fun q => (by cases q), .nil⟩, fun a ha c hc z => ?_⟩
    have hc : c = p ++ nS i := List.mem_singleton.mp hc
    rw [hc] at z
    rw [z] at ha
    exact fresh ha
  · intro q hq
    rcases List.mem_append.mp hq with hq | hq
    · exact h.wk q hq
    · rw [List.mem_singleton] at hq
      subst hq
      exact ⟨(h.ok b hb).1, ke, ne, be, l1, lm, m1, k1⟩
  · rw [List.map_append, tk]
    exact h.en.append (List.Sublist.refl _)
  · intro q hq
    rcases List.mem_append.mp hq with hq | hq
    · exact h.rk q hq
    · rw [List.mem_singleton] at hq
      subst hq
      show rkS sh b < rkS sh e
      omega
  · intro q hq r hr z
    rcases List.mem_append.mp hq with hq | hq
    · rcases List.mem_append.mp hr with hr | hr
      · exact h.lk q hq r hr z
      · rw [List.mem_singleton] at hr
        subst hr
        have z : q.2.1 = e := z
        have h1 := h.rk q hq
        have h2 := rk_take nd (endI q hq)
        rw [z, re] at h1
        omega
    · rw [List.mem_singleton] at hq
      subst hq
      rcases List.mem_append.mp hr with hr | hr
      · exact h.ol b hb r hr z
      · rw [List.mem_singleton] at hr
        subst hr
        exact absurd z be
  · intro s hs
    rcases List.mem_append.mp hs with hs | hs
    · exact ⟨(h.ok s hs).1, Nat.le_succ_of_le (h.ok s hs).2⟩
    · by_cases z : k = 0
      · rw [if_pos z, List.mem_singleton] at hs
        subst hs
        exact ⟨ke, by rw [re]; exact Nat.le_refl _⟩
      · rw [if_neg z] at hs
        cases hs
  · intro s hs r hr z
    rcases List.mem_append.mp hs with hs | hs
    · rcases List.mem_append.mp hr with hr | hr
      · exact h.ol s hs r hr z
      · rw [List.mem_singleton] at hr
        subst hr
        have z : s = e := z
        have := (h.ok s hs).2
        rw [z, re] at this
        omega
    · by_cases k0 : k = 0
      · rw [if_pos k0, List.mem_singleton] at hs
        subst hs
        rcases List.mem_append.mp hr with hr | hr
        · exact absurd (z ▸ endI r hr) ein
        · rw [List.mem_singleton] at hr
          subst hr
          exact k0
      · rw [if_neg k0] at hs
        cases hs
  · rw [List.length_append]
    have : (if k = 0 then [e] else []).length ≤ 1 := by split <;> simp
    have := h.len
    omega
  · rw [List.length_append]
    have := h.pos
    omega
theorem WI.init {L : Ls} {sh op : List Str} (h : ∀ s ∈ op, knownB L s = true ∧ s ∉ sh) (l : op.length ≤ 41) (ps : 0 < op.length) : WI L sh 0 [] op where
  nm := fun q hq => (by cases hq)
  nd := List.nodup_nil
  wk := fun q hq => (by cases hq)
  en := List.nil_sublist _
  rk := fun q hq => (by cases hq)
  lk := fun q hq => (by cases hq)
  ok := fun s hs => ⟨(h s hs).1, by rw [rk_out (h s hs).2]; exact Nat.le_refl _⟩
  ol := fun s hs r hr => (by cases hr)
  len := l
  pos := ps
theorem WI.fin {L : Ls} {sh : List Str} {i : Nat} {W : Ws} {op : List Str} (h : WI L sh i W op) (nd : sh.Nodup) (i40 : i ≤ 40) (ls : sh.length ≤ 60) : OkW L W where
  nd := h.nd
  len := by
    have e1 := h.en.length_le
    rw [List.length_map, List.length_take] at e1
    omega
  name := fun q hq => by
    obtain ⟨p, hp, j, hj, e⟩ := h.nm q hq
    rw [e]
    exact preW_nm p hp ⟨j, by omega⟩
  wk := h.wk
  ends := h.en.nodup ((List.take_sublist i sh).nodup nd)
  rank := ⟨rkS sh, h.rk⟩
  look := h.lk
end LW
namespace LW
open PySem PySem.Spec PyProof.Rows L2 DW
/-! ### the drawn bounds, as data -/
def preB : List Str := [("b" : Str), ("k." : Str), ("w" : Str)]
theorem preB_nm : ∀ p ∈ preB, ∀ i : Fin 80, nameS (p ++ nS i.val) = true := by decide +kernel
theorem nS_inj : ∀ i j : Fin 80, nS i.val = nS j.val → i = j := by decide +kernel
theorem preB_fst : ∀ p ∈ preB, ∀ q ∈ preB, p ≠ q → p.cps.toList.getD 0 0 ≠ q.cps.toList.getD 0 0 := by decide +kernel
theorem preB_pos : ∀ p ∈ preB, 0 < p.cps.toList.length := by decide +kernel
theorem cps_app (x y : Str) : (x ++ y).cps.toList = x.cps.toList ++ y.cps.toList := by
  rw [PySem.Str.cps_append]
  simp
theorem preB_inj {p q : Str} (hp : p ∈ preB) (hq : q ∈ preB) {i j : Nat} (hi : i < 80) (hj : j < 80) (e : p ++ nS i = q ++ nS j) : i = j := by
  have e2 : p.cps.toList ++ (nS i).cps.toList = q.cps.toList ++ (nS j).cps.toList := by rw [← cps_app, ← cps_app, e]
  by_cases pq : p = q
  · subst pq
    have e3 := List.append_cancel_left e2
    have := nS_inj ⟨i, hi⟩ ⟨j, hj⟩ (str_cps e3)
    exact congrArg Fin.val this
  · exfalso
    refine preB_fst p hp q hq pq ?_
    have h1 := preB_pos p hp
    have h2 := preB_pos q hq
    have e3 := congrArg (fun l => l.getD 0 0) e2
    simp only [List.getD_eq_getElem?_getD, List.getElem?_append_left h1, List.getElem?_append_left h2] at e3
    simp only [List.getD_eq_getElem?_getD]
    exact e3
structure BI (L : Ls) (i : Nat) (B : Bs) : Prop where
  nm : ∀ q ∈ B, ∃ p ∈ preB, ∃ j, j < i ∧ q.1 = p ++ nS j
  nd : (B.map (·.1)).Nodup
  bd : ∀ q ∈ B, OkBd L q.2
  len : B.length = i
  lo : ∀ q ∈ B, -1 ≤ q.2.2.2
theorem BI.init {L : Ls} : BI L 0 [] := ⟨fun q hq => (by cases hq), List.nodup_nil, fun q hq => (by cases hq), rfl, fun q hq => (by cases hq)⟩
theorem BI.step {L : Ls} {i : Nat} {B : Bs} {p : Str} {b : BdT} (h : BI L i B) (i80 : i < 80) (hp : p ∈ preB) (hb : OkBd L b) (hl : -1 ≤ b.2.2) : (p ++ nS i) ∉ B.map (·.1) ∧ BI L (i + 1) (B ++ [(p ++ nS i, b)]) := by
  have fresh : (p ++ nS i) ∉ B.map (·.1) := fun z => by
    obtain ⟨q, hq, e1⟩ := List.mem_map.mp z
    obtain ⟨p', hp', j, hj, e2⟩ := h.nm q hq
    have := preB_inj hp' hp (by omega) i80 (e2.symm.trans e1)
    omega
  refine ⟨fresh, ?_, ?_, ?_, ?_, ?_⟩
  · intro q hq
    rcases List.mem_append.mp hq with hq | hq
    · obtain ⟨p', hp', j, hj, e2⟩ := h.nm q hq
      exact ⟨p', hp', j, Nat.lt_succ_of_lt hj, e2⟩
    · rw [List.mem_singleton] at hq
      subst hq
      exact ⟨p, hp, i, Nat.lt_succ_self _, rfl⟩
  · rw [List.map_append]
    refine List.nodup_append.mpr ⟨h.nd, List.nodup_cons.mpr ⟨fun q => (by cases q), .nil⟩, fun a ha c hc z => ?_⟩
    have hc : c = p ++ nS i := List.mem_singleton.mp hc
    rw [hc] at z
    rw [z] at ha
    exact fresh ha
  · intro q hq
    rcases List.mem_append.mp hq with hq | hq
    · exact h.bd q hq
    · rw [List.mem_singleton] at hq
      subst hq
      exact hb
  · rw [List.length_append, h.len]
    rfl
  · intro q hq
    rcases List.mem_append.mp hq with hq | hq
    · exact h.lo q hq
    · rw [List.mem_singleton] at hq
      subst hq
      exact hl
theorem BI.fin {L : Ls} {i : Nat} {B : Bs} (h : BI L i B) (i80 : i ≤ 80) : OkB L B where
  nd := h.nd
  len := by have := h.len; omega
  name := fun q hq => by
    obtain ⟨p, hp, j, hj, e⟩ := h.nm q hq
    rw [e]
    exact preB_nm p hp ⟨j, by omega⟩
  bd := h.bd
end LW
namespace LW
open PySem PySem.Spec PyProof.Rows L2 DW
def nm10 : List Str := [("a" : Str), ("b.1" : Str), ("c" : Str), ("d" : Str), ("go" : Str), ("in" : Str), ("off" : Str), ("on" : Str), ("x2" : Str), ("z" : Str)]
def wn4 : List Str := [("fly" : Str), ("hop" : Str), ("load" : Str), ("ice" : Str)]
theorem nm10_ok : nm10.Nodup ∧ nm10.all nameS = true := by decide +kernel
theorem wn4_ok : wn4.Nodup ∧ wn4.all nameS = true := by decide +kernel
/-- the works drawn so far -/
structure DI (hd en wn : List Str) (i : Nat) (W : Ws) : Prop where
  nm : W.map (·.1) = wn.take i
  en : W.map (fun p => p.2.2.1) = en.take i
  sz : ∀ p ∈ W, 1 ≤ p.2.2.2.1 ∧ p.2.2.2.1 ≤ p.2.2.2.2.1 ∧ p.2.2.2.2.1 ≤ 4 ∧ 0 ≤ p.2.2.2.2.2 ∧ p.2.2.2.2.2 ≤ 2
  bg : ∀ (j : Nat) p, W[j]? = some p → p.2.1 = ("dawn" : Str) ∨ p.2.1 ∈ hd ∨ ∃ (m : Nat) (q : Str × WkT), m < j ∧ W[m]? = some q ∧ p.2.1 = q.2.2.1 ∧ q.2.2.2.2.2 = 0
theorem DI.init {hd en wn : List Str} : DI hd en wn 0 [] := ⟨rfl, rfl, fun p h => (by cases h), fun j p h => (by cases j <;> cases h)⟩
theorem DI.len {hd en wn : List Str} {i : Nat} {W : Ws} (h : DI hd en wn i W) (l : i ≤ wn.length) : W.length = i := by
  have e := congrArg List.length h.nm
  rw [List.length_map, List.length_take] at e
  omega
theorem DI.step {hd en wn : List Str} {i : Nat} {W : Ws} {n e b : Str} {l m k : Int} (h : DI hd en wn i W) (nd : wn.Nodup) (hn : wn[i]? = some n) (he : en[i]? = some e) (z1 : 1 ≤ l) (z2 : l ≤ m) (z3 : m ≤ 4) (z4 : 0 ≤ k) (z5 : k ≤ 2)
    (hb : b = ("dawn" : Str) ∨ b ∈ hd ∨ ∃ (m : Nat) (q : Str × WkT), m < i ∧ W[m]? = some q ∧ b = q.2.2.1 ∧ q.2.2.2.2.2 = 0) : n ∉ W.map (·.1) ∧ DI hd en wn (i + 1) (W ++ [(n, (b, e, l, m, k))]) := by
  have li : i < wn.length := by
    rcases Nat.lt_or_ge i wn.length with q | q
    · exact q
    · rw [List.getElem?_eq_none q] at hn; cases hn
  have lw := h.len (Nat.le_of_lt li)
  refine ⟨fun mem => ?_, ?_, ?_, ?_, ?_⟩
  · rw [h.nm] at mem
    have h2 := nd
    rw [← List.take_append_drop i wn] at h2
    have m2 : n ∈ wn.drop i := List.mem_of_getElem? (i := 0) (by rw [List.getElem?_drop]; exact hn)
    exact (List.nodup_append.mp h2).2.2 _ mem _ m2 rfl
  · rw [List.map_append, h.nm, List.take_add_one, hn]
    rfl
  · rw [List.map_append, h.en, List.take_add_one, he]
    rfl
  · intro p hp
    rcases List.mem_append.mp hp with q | q
    · exact h.sz p q
    · rw [List.mem_singleton] at q
      subst q
      exact ⟨z1, z2, z3, z4, z5⟩
  · intro j p hj
    rcases Nat.lt_or_ge j W.length with q | q
    · rw [List.getElem?_append_left q] at hj
      rcases h.bg j p hj with z | z | ⟨m2, q2, z1, z2, z3⟩
      · exact .inl z
      · exact .inr (.inl z)
      · refine .inr (.inr ⟨m2, q2, z1, ?_, z3⟩)
        rw [List.getElem?_append_left (by omega)]
        exact z2
    · have ej : j = W.length := by
        rcases Nat.lt_or_ge j (W ++ [(n, (b, e, l, m, k))]).length with y | y
        · rw [List.length_append] at y
          have : [(n, (b, e, l, m, k))].length = 1 := rfl
          omega
        · rw [List.getElem?_eq_none y] at hj; cases hj
      subst ej
      rw [List.getElem?_append_right (Nat.le_refl _), Nat.sub_self] at hj
      cases hj
      rcases hb with z | z | ⟨m2, q2, z1, z2, z3⟩
      · exact .inl z
      · exact .inr (.inl z)
      · refine .inr (.inr ⟨m2, q2, by omega, ?_, z3⟩)
        rw [List.getElem?_append_left (by omega)]
        exact z2
/-- the drawn names -/
structure NmOk (hd en : List Str) : Prop where
  nd : (hd ++ en).Nodup
  sub : ∀ z ∈ hd ++ en, z ∈ nm10
theorem NmOk.name {hd en : List Str} (h : NmOk hd en) : ∀ z ∈ hd ++ en, nameS z = true := fun z m => List.all_eq_true.mp nm10_ok.2 z (h.sub z m)
theorem NmOk.dawn {hd en : List Str} (h : NmOk hd en) : ("dawn" : Str) ∉ hd ++ en := fun m => absurd (h.name _ m) (by decide +kernel)
theorem DI.fin {hd en wn : List Str} {W : Ws} {L : Ls} (h : DI hd en wn wn.length W) (nmo : NmOk hd en) (l : en.length = wn.length) (wnd : wn.Nodup) (wsub : ∀ z ∈ wn, z ∈ wn4) (kl : L.map (·.1) = hd ++ en) : OkW L W := by
  have lw := h.len (Nat.le_refl _)
  have enm : W.map (·.1) = wn := by rw [h.nm, List.take_length]
  have een : W.map (fun p => p.2.2.1) = en := by rw [h.en, ← l, List.take_length]
  obtain ⟨nd1, nd2, nd3⟩ := List.nodup_append.mp nmo.nd
  have at' : ∀ {j : Nat} {p : Str × WkT}, W[j]? = some p → en[j]? = some p.2.2.1 := fun {j p} hj => by
    rw [← een, List.getElem?_map, hj]
    rfl
  have kn : ∀ z ∈ hd ++ en, knownB L z = true := fun z m => by
    unfold knownB
    rw [kl, decide_eq_true m, Bool.or_true]
  have rank : ∀ p ∈ W, rkS en p.2.1 < rkS en p.2.2.1 := fun p hp => by
    obtain ⟨j, hj⟩ := List.mem_iff_getElem?.mp hp
    rw [rk_at nd2 (at' hj)]
    rcases h.bg j p hj with z | z | ⟨m, q, z1, z2, z3, _⟩
    · rw [rk_out (fun m => nmo.dawn (by rw [← z]; exact List.mem_append_right _ m))]
      omega
    · rw [rk_out (fun m => nd3 _ z _ m rfl)]
      omega
    · rw [z3, rk_at nd2 (at' z2)]
      omega
  refine ⟨by rw [enm]; exact wnd, ?_, fun p hp => ?_, fun p hp => ?_, by rw [een]; exact nd2, ⟨rkS en, rank⟩, fun p hp q hq e => ?_⟩
  · have q1 : wn.length ≤ wn4.length := nodup_len wnd wsub
    have q2 : wn4.length = 4 := rfl
    omega
  · have m : p.1 ∈ wn := by rw [← enm]; exact List.mem_map.mpr ⟨p, hp, rfl⟩
    exact List.all_eq_true.mp wn4_ok.2 _ (wsub _ m)
  · obtain ⟨z1, z2, z3, z4, z5⟩ := h.sz p hp
    obtain ⟨j, hj⟩ := List.mem_iff_getElem?.mp hp
    have me : p.2.2.1 ∈ hd ++ en := List.mem_append_right _ (List.mem_of_getElem? (at' hj))
    refine ⟨?_, kn _ me, fun e => nmo.dawn (by rw [← e]; exact me), fun e => ?_, z1, z2, Int.le_trans z3 (by decide), z4, by omega⟩
    · rcases h.bg j p hj with z | z | ⟨m, q, y1, y2, y3, _⟩
      · unfold knownB
        rw [decide_eq_true z]
        rfl
      · exact kn _ (List.mem_append_left _ z)
      · rw [y3]
        exact kn _ (List.mem_append_right _ (List.mem_of_getElem? (at' y2)))
    · have y := rank p hp
      rw [e] at y
      exact absurd y (Nat.lt_irrefl _)
  · obtain ⟨j, hj⟩ := List.mem_iff_getElem?.mp hp
    obtain ⟨j2, hj2⟩ := List.mem_iff_getElem?.mp hq
    have me : q.2.2.1 ∈ en := List.mem_of_getElem? (at' hj2)
    rcases h.bg j p hj with z | z | ⟨m, q3, y1, y2, y3, y4⟩
    · exact absurd (List.mem_append_right hd (by rw [← e, z] at me; exact me)) nmo.dawn
    · exact absurd rfl (nd3 _ z _ (by rw [e]; exact me))
    · have r1 := rk_at nd2 (at' hj2)
      have r2 := rk_at nd2 (at' y2)
      rw [← y3, e, r1] at r2
      have ej : j2 = m := by omega
      subst ej
      rw [hj2] at y2
      cases y2
      exact y4
end LW
namespace LW
open PySem PySem.Spec PyProof.Rows L2 DW
/-- the bounds drawn so far -/
structure BJ (L : Ls) (i : Nat) (B : Bs) : Prop where
  nm : ∀ q ∈ B, ∃ j, j < i ∧ q.1 = ("b" : Str) ++ nS j
  nd : (B.map (·.1)).Nodup
  len : B.length ≤ i
  bd : ∀ q ∈ B, OkBd L q.2
theorem BJ.init {L : Ls} : BJ L 0 [] := ⟨fun q hq => (by cases hq), List.nodup_nil, Nat.le_refl _, fun q hq => (by cases hq)⟩
theorem BJ.skip {L : Ls} {i : Nat} {B : Bs} (h : BJ L i B) : BJ L (i + 1) B := ⟨fun q hq => by obtain ⟨j, l, e⟩ := h.nm q hq; exact ⟨j, by omega, e⟩, h.nd, Nat.le_succ_of_le h.len, h.bd⟩
theorem BJ.step {L : Ls} {i : Nat} {B : Bs} {b : BdT} (h : BJ L i B) (i80 : i < 80) (hb : OkBd L b) : (("b" : Str) ++ nS i) ∉ B.map (·.1) ∧ BJ L (i + 1) (B ++ [(("b" : Str) ++ nS i, b)]) := by
  have new : (("b" : Str) ++ nS i) ∉ B.map (·.1) := fun m => by
    obtain ⟨q, hq, e⟩ := List.mem_map.mp m
    obtain ⟨j, l, e2⟩ := h.nm q hq
    have e3 : ("b" : Str) ++ nS j = ("b" : Str) ++ nS i := by rw [← e2]; exact e
    have := preB_inj (p := "b") (q := "b") (by decide +kernel) (by decide +kernel) (by omega) i80 e3
    omega
  refine ⟨new, fun q hq => ?_, ?_, ?_, fun q hq => ?_⟩
  · rcases List.mem_append.mp hq with y | y
    · obtain ⟨j, l, e⟩ := h.nm q y
      exact ⟨j, by omega, e⟩
    · rw [List.mem_singleton] at y
      subst y
      exact ⟨i, by omega, rfl⟩
  · rw [List.map_append, List.nodup_append]
    refine ⟨h.nd, by simp, fun a ha y hy e => ?_⟩
    rw [List.map_cons, List.map_nil, List.mem_singleton] at hy
    have hy : y = ("b" : Str) ++ nS i := hy
    exact new (by rw [← hy, ← e]; exact ha)
  · rw [List.length_append]
    exact Nat.succ_le_succ h.len
  · rcases List.mem_append.mp hq with y | y
    · exact h.bd q y
    · rw [List.mem_singleton] at y
      subst y
      exact hb
theorem BJ.fin {L : Ls} {i : Nat} {B : Bs} (h : BJ L i B) (i80 : i ≤ 80) : OkB L B := by
  refine ⟨h.nd, by have := h.len; omega, fun q hq => ?_, h.bd⟩
  obtain ⟨j, l, e⟩ := h.nm q hq
  rw [e]
  exact preB_nm "b" (by decide +kernel) ⟨j, by omega⟩
/-- a drawn net: names, works and bounds -/
structure DrN (N : PlainD) : Prop where
  ok : OkN N
  nl : ∀ p ∈ N.L, p.1 ∈ nm10
  nw : ∀ p ∈ N.W, p.1 ∈ wn4
  nb : ∀ p ∈ N.B, ∃ j, j < 5 ∧ p.1 = ("b" : Str) ++ nS j
  sl : ∀ p ∈ N.L, p.2 ≤ 9
  sw : ∀ p ∈ N.W, p.2.2.2.2.1 ≤ 4
  sb : ∀ p ∈ N.B, -2 ≤ p.2.2.2 ∧ p.2.2.2 ≤ 4
  lw : N.W.length ≤ 3
  de : deedsL N ≠ []
end LW
namespace LW
open PySem PySem.Spec PyProof.Rows L2 DW
section
variable {P : Program} {w : World} {K : PySem.W.Frag} {mg : Str → Option Value} {base : Heap}
/-- picked of a written list of numbers -/
theorem pick_int {K : PySem.W.Frag} {H : Hp} {D q : Addr} {xs : List V} {R : VK} {E : XK} (hD : Dc H D) (nq : H q = none) (l0 : 0 < xs.length) (l1 : xs.length < 1000) (k : ∀ u H', u ∈ xs → But D H H' → Dc H' D → R u H') : spPick K [.ref D, .ref q] (upd H q (.lst xs)) R E :=
  ⟨D, .ref q, rfl, hD.same (same_new nq), .inl ⟨q, xs, rfl, new_ne hD nq, upd_same, l0, l1, fun u H' hu b hd => k u H' hu ((Same.but (same_new nq)).trans b) hd⟩⟩
/-- the look of a drawn work -/
theorem rd_look {lk : Bool} {D : Addr} {σ : L2.St} {H : Hp} {Q : VK} (h0 : σ[0]? = some (some (.ref D))) (h5 : σ[5]? = some (some (.bl lk))) (hD : Dc H D) (k : ∀ v H', 0 ≤ v → v ≤ 2 → But D H H' → Dc H' D → Q (.int v) H') :
    tIf (tB (tVar 5)) (tCall (spPick K) [] E0 (tCons (tVar 0) (tCons (tLst (tCons (tC (.int 0)) (tCons (tC (.int 0)) (tCons (tC (.int 1)) (tCons (tC (.int 2)) tNil))))) tNil))) (tC (.int 0)) σ H Q := by
  refine ⟨_, h5, lk, rfl, ?_⟩
  cases lk with
  | false => exact iteF (k 0 H (by decide) (by decide) But.refl hD)
  | true =>
    refine iteT ⟨_, h0, by show 4 ≤ sizeLine; decide, fun q nq => pick_int (K := K) (E := E0) hD nq (by show 0 < 4; decide) (by show 4 < 1000; decide) fun u H' hu b hd => ?_⟩
    have hv : ∃ v : Int, u = .int v ∧ 0 ≤ v ∧ v ≤ 2 := by
      simp only [List.mem_cons, List.not_mem_nil, or_false] at hu
      rcases hu with rfl | rfl | rfl | rfl
      · exact ⟨_, rfl, by decide, by decide⟩
      · exact ⟨_, rfl, by decide, by decide⟩
      · exact ⟨_, rfl, by decide, by decide⟩
      · exact ⟨_, rfl, by decide, by decide⟩
    obtain ⟨v, rfl, v0, v1⟩ := hv
    exact k v H' v0 v1 b hd
/-- where a drawn work may begin -/
def BgOk (hs : List Str) (W : Ws) (b : Str) : Prop := b = ("dawn" : Str) ∨ b ∈ hs ∨ ∃ (m : Nat) (q : Str × WkT), m < W.length ∧ W[m]? = some q ∧ b = q.2.2.1 ∧ q.2.2.2.2.2 = 0
abbrev tFree (K : PySem.W.Frag) : L2.TT := tB (tOp rEq (tOp (rIxT K) (tDGet (tVar 9) (tOp (rIxL K) (tCB (fun xs H Q => ∃ (a : Addr) (kvs : List (Key × V)), xs = [.ref a] ∧ Rd H a (.dK kvs) ∧ ∀ p, H p = none → Q (.ref p) (upd H p (.lst (kvs.map fun kv => kV kv.1)))) (tCons (tVar 9) tNil)) (tVar 19))) (tC (.int 4))) (tC (.int 0)))
/-- the places to begin at -/
theorem rd_begins {hs es wn : List Str} {W : Ws} {i : Nat} {h e f : Addr} {σ : L2.St} {H : Hp} {Q : VK} (h7 : σ[7]? = some (some (.ref h))) (h8 : σ[8]? = some (some (.ref e))) (h9 : σ[9]? = some (some (.ref f))) (h10 : σ[10]? = some (some (.int (i : Nat)))) (hl : 19 < σ.length)
    (hh : H h = some (.lst (hs.map V.str))) (he : H e = some (.lst (es.map V.str))) (hf : TD wkD K H f W) (di : DI hs es wn i W) (lw : W.length = i) (i4 : i ≤ 4) (lhs : hs.length ≤ 3) (nd : (W.map (·.1)).Nodup)
    (k : ∀ (b : Addr) (bs : List Str) (H' : Hp), Same H H' → H b = none → H' b = some (.lst (bs.map V.str)) → 0 < bs.length → bs.length < 1000 → (∀ z ∈ bs, BgOk hs W z) → Q (.ref b) H') :
    tOp rCat (tOp rCat (tLst (tCons (tC (.str "dawn")) tNil)) (tVar 7)) (tOp rRep (tLc (iRng1 (tCons (tVar 10) tNil)) (gName 19) (tFree K) (tOp (rIxL K) (tVar 8) (tVar 19)) [19]) (tC (.int 2))) σ H Q := by
  refine ⟨by show 1 ≤ sizeLine; decide, fun q nq => ⟨_, h7, q, h, _, hs.map V.str, rfl, rfl, upd_same, same_new nq _ _ hh, by rw [List.length_map, sizeLine_eq]; show 1 + hs.length ≤ _; omega, fun c nc => ?_⟩⟩
  have s1 := (same_new (o := .lst [.str "dawn"]) nq).trans (same_new (o := .lst ([.str "dawn"] ++ hs.map V.str)) nc)
  refine ⟨_, h10, (i : Int), rfl, by omega, by omega, fun L nL => ?_⟩
  refine lc_range (lo := 0) (n := (i : Int).toNat) (fun m H' => Same (upd (upd H q (.lst [.str "dawn"])) c (.lst ([.str "dawn"] ++ hs.map V.str))) H' ∧ ∃ fs : List Str, H' L = some (.lst (fs.map V.str)) ∧ fs.length ≤ m ∧ ∀ z ∈ fs, BgOk hs W z) ⟨same_new nL, [], upd_same, Nat.le_refl _, fun z hz => by cases hz⟩ (fun m H' hm z => ?_) (fun H' z => ?_)
  · obtain ⟨s2, fs, e2, l2, ok2⟩ := z
    rw [Int.toNat_natCast] at hm
    have s12 := s1.trans s2
    obtain ⟨kvs, ek, tx⟩ := hf.same s12
    have lk : kvs.length = W.length := Paired.length tx
    obtain ⟨p, hp⟩ : ∃ p, W[m]? = some p := ⟨_, List.getElem?_eq_getElem (by omega)⟩
    have hkey : (kvs.map fun kv => kV kv.1)[m]? = some (.str p.1) := by
      rw [Tx.kv tx, List.getElem?_map, List.getElem?_map, hp]
      rfl
    obtain ⟨b, hb⟩ : ∃ b, es[m]? = some b := by
      have q1 := congrArg (fun l => l[m]?) di.en
      rw [List.getElem?_map, hp] at q1
      rw [List.getElem?_take_of_lt hm] at q1
      exact ⟨_, q1.symm⟩
    have eb : b = p.2.2.1 := by
      have q1 := congrArg (fun l => l[m]?) di.en
      rw [List.getElem?_map, hp, List.getElem?_take_of_lt hm, hb] at q1
      exact (Option.some.inj q1).symm
    have at' : ∀ {j : Nat} {y : V}, j ≠ 19 → σ[j]? = some (some y) → ((wipe σ [19]).set 19 (some (V.int (0 + (m : Int)))))[j]? = some (some y) := fun {j y} hj e => by simp [wipe, hj, Ne.symm hj, e]
    have a19 : ((wipe σ [19]).set 19 (some (V.int (0 + (m : Int)))))[19]? = some (some (.int (m : Nat))) := by simp [wipe, hl]
    refine ⟨by simp [gName, wipe], ⟨_, at' (by decide) h9, _, at' (by decide) h9, f, kvs, rfl, .inl ek, fun d nd2 => ⟨_, a19, d, _, (m : Nat), .str p.1, rfl, rfl, SqL.of upd_same, atI_nat hkey, ?_⟩⟩⟩
    have sd := same_new (o := .lst (kvs.map fun kv => kV kv.1)) nd2
    obtain ⟨v, gv, dv⟩ := (TD.same sd ⟨kvs, ek, tx⟩ : TD wkD K _ f W).tr.get (look_of nd (List.mem_of_getElem? hp))
    obtain ⟨t, rfl, ht⟩ := wk_at dv
    refine ⟨f, _, rfl, gv, t, _, (4 : Nat), .int p.2.2.2.2.2, rfl, rfl, ht, atI_nat (j := 4) rfl, rfl, _, rfl, ?_⟩
    have s3 := s2.trans sd
    by_cases z : p.2.2.2.2.2 = 0
    · refine ite1 (by rw [z]; exact decide_eq_true rfl) ⟨_, at' (by decide) h8, _, a19, e, es.map V.str, (m : Nat), .str b, rfl, rfl, SqL.of ((s1.trans s3) _ _ he), atI_nat (j := m) (by rw [List.getElem?_map, hb]; rfl), _, sd _ _ e2, by rw [List.length_map, sizeLine_eq]; omega, same_mut s3 nL, fs ++ [b], by rw [upd_same, List.map_append]; rfl, by rw [List.length_append]; exact Nat.succ_le_succ l2, fun y hy => ?_⟩
      rcases List.mem_append.mp hy with y1 | y1
      · exact ok2 y y1
      · rw [List.mem_singleton] at y1
        subst y1
        exact .inr (.inr ⟨m, p, by omega, hp, eb, z⟩)
    · exact ite0 (decide_eq_false fun y => z (by injection y)) ⟨s3, fs, sd _ _ e2, Nat.le_succ_of_le l2, ok2⟩
  · obtain ⟨s2, fs, e2, l2, ok2⟩ := z
    rw [Int.toNat_natCast] at l2
    refine ⟨L, 2, _, rfl, rfl, e2, by decide, by decide, by rw [List.length_map, sizeLine_eq]; show fs.length * 2 ≤ _; omega, fun r nr => ?_⟩
    have sr := s2.trans (same_new (o := .lst (List.replicate (2 : Int).toNat (fs.map V.str)).flatten) nr)
    refine ⟨c, r, _, _, rfl, rfl, sr _ _ upd_same, upd_same, ?_, fun b nb => ?_⟩
    · show ([V.str "dawn"] ++ hs.map V.str).length + (fs.map V.str ++ (fs.map V.str ++ [])).length ≤ sizeLine
      rw [List.length_append, List.length_append, List.length_append, List.length_map, List.length_map, sizeLine_eq]
      show 1 + hs.length + (fs.length + (fs.length + 0)) ≤ _
      omega
    · have sb := (s1.trans sr).trans (same_new (o := .lst ([V.str "dawn"] ++ hs.map V.str ++ (List.replicate (2 : Int).toNat (fs.map V.str)).flatten)) nb)
      refine k b (("dawn" : Str) :: hs ++ (fs ++ fs)) _ sb (none_of (s1.trans sr) nb) ?_ (Nat.succ_pos _) ?_ fun z hz => ?_
      · rw [upd_same]
        congr 2
        show [V.str "dawn"] ++ hs.map V.str ++ (fs.map V.str ++ (fs.map V.str ++ [])) = _
        rw [List.append_nil, List.map_append, List.map_append]
        rfl
      · rw [List.length_append, List.length_cons, List.length_append]
        omega
      · rcases List.mem_append.mp hz with y | y
        · rcases List.mem_cons.mp y with y | y
          · exact .inl y
          · exact .inr (.inl y)
        · rcases List.mem_append.mp y with y | y
          · exact ok2 z y
          · exact ok2 z y
end
end LW
namespace LW
open PySem PySem.Spec PyProof.Rows L2 DW
theorem cut_drop (xs : List V) (m : Nat) : cutV xs (some (m : Int)) none = xs.drop m := by
  unfold cutV
  have e1 : HT.sIx xs.length 0 (some (m : Int)) = min m xs.length := by
    show (if (m : Int) < 0 then ((m : Int) + (xs.length : Int)).toNat else min (m : Int).toNat xs.length) = _
    rw [if_neg (by omega), Int.toNat_natCast]
  have e2 : HT.sIx xs.length xs.length none = xs.length := rfl
  rw [e1, e2]
  rcases Nat.le_total m xs.length with h | h
  · rw [Nat.min_eq_left h, List.take_of_length_le (by rw [List.length_drop]; omega)]
  · rw [Nat.min_eq_right h, List.drop_of_length_le (Nat.le_refl _), List.drop_of_length_le h, List.take_nil]
/-- a drawn net: names, works and bounds; so many bounds at most, so late at most -/
structure DrM (mm : Nat) (hz : Int) (wk : Nat) (N : PlainD) : Prop where
  ok : OkN N
  nl : ∀ p ∈ N.L, p.1 ∈ nm10
  nw : ∀ p ∈ N.W, p.1 ∈ wn4
  nb : ∀ p ∈ N.B, ∃ j, j < mm + 1 ∧ p.1 = ("b" : Str) ++ nS j
  sl : ∀ p ∈ N.L, p.2 ≤ hz
  sw : ∀ p ∈ N.W, p.2.2.2.2.1 ≤ 4
  sb : ∀ p ∈ N.B, -2 ≤ p.2.2.2 ∧ p.2.2.2 ≤ 4
  ll : N.L.length ≤ 6
  lw : N.W.length = wk
  lb : N.B.length ≤ mm
  de : deedsL N ≠ []
def dnL (b : Bool) : List Str := if b = true then [("dawn" : Str)] else []
theorem dn_rep (b : Bool) : (List.replicate (if b = true then (1 : Int) else 0).toNat [V.str "dawn"]).flatten = (dnL b).map V.str := by cases b <;> rfl
theorem dn_len (b : Bool) : (dnL b).length ≤ 1 := by cases b <;> decide
theorem dn_mem {b : Bool} {s : Str} (h : s ∈ dnL b) : s = ("dawn" : Str) := by
  cases b with
  | false => cases h
  | true => exact List.mem_singleton.mp h
theorem dn_nodup (b : Bool) : (dnL b).Nodup := by cases b <;> simp [dnL]
section
variable {P : Program} {w : World} {K : PySem.W.Frag} {mg : Str → Option Value} {base : Heap}
abbrev drN : List Str := ["dice", "deeds", "works", "most", "horizon", "looks", "names", "heads", "ends", "found", "at", "end", "least", "look", "begins", "lasts", "bounds", "name", "pair", "place"]
theorem scDr : FnScope drN ["dice", "deeds", "works", "most", "horizon", "looks"] (defScope s_law_nt_drawn) := ⟨rfl, rfl, rfl, by decide +kernel, rfl, by decide +kernel, by decide +kernel⟩
def spDr (K : PySem.W.Frag) : Sp := fun vs H Q _ => ∃ (D : Addr) (hd wk mm : Nat) (hz : Int) (lk : Bool), vs = [.ref D, .int (hd : Nat), .int (wk : Nat), .int (mm : Nat), .int hz, .bl lk] ∧ Dc H D ∧ 1 ≤ hd ∧ hd ≤ 3 ∧ wk ≤ 3 ∧ mm ≤ 7 ∧ 4 ≤ hz ∧ hz ≤ 100 ∧ ∀ (pl : Addr) (N : PlainD) H', PlainAt K H' pl N → DrM mm hz wk N → But D H H' → Dc H' D → pl ≠ D → Q (.ref pl) H'
abbrev drS (D : Addr) (hd wk mm : Nat) (hz : Int) (lk : Bool) (x6 x7 x8 x9 x10 x11 x12 x13 x14 x15 x16 x17 x18 x19 : Option V) : L2.St := [some (.ref D), some (.int (hd : Nat)), some (.int (wk : Nat)), some (.int (mm : Nat)), some (.int hz), some (.bl lk), x6, x7, x8, x9, x10, x11, x12, x13, x14, x15, x16, x17, x18, x19]
theorem ok_dr {f fR fP fS : Addr} {fd dR dP dS : FuncData} (F : Fun K "_law_nt_drawn" "_law_nt_drawn" s_law_nt_drawn f fd) (CR : Cal P w K mg base 1 "_law_roll" ["dice", "total"] spRoll fR dR) (CP : Cal P w K mg base 2 "_law_pick" ["dice", "items"] (spPick K) fP dP)
    (CS : Cal P w K mg base 2 "_law_shuffled" ["dice", "items"] spShuf fS dS) (zR : mg "range" = none) (zT : mg "str" = none) (zL : mg "list" = none) (zN : mg "enumerate" = none) (zM : mg "max" = none) (zI : mg "int" = none) (zE : mg "len" = none) : FnOk P w K mg base CX0 3 f fd ["dice", "deeds", "works", "most", "horizon", "looks"] (spDr K) := by
  refine F.ok scDr (fun vs H Q E h => ?_) (fun cdv A outer s H vs Q E hr h => ?_)
  · obtain ⟨D, hd, wk, mm, hz, lk, rfl, _⟩ := h
    rfl
  obtain ⟨D, hd, wk, mm, hz, lk, rfl, hD, l1, l2, l3, m7, z4, z100, k⟩ := h
  refine ⟨_, C8.pss_cut (ps_set (i := 6) scDr.nd rfl (Or.inl rfl) (pe_slice sl_list (pe_cal (E := E0) CS hr rfl (pa_cons (pv 0) (pa_cons (pe_lst (pa_cons pe_str (pa_cons pe_str (pa_cons pe_str (pa_cons pe_str (pa_cons pe_str (pa_cons pe_str (pa_cons pe_str (pa_cons pe_str (pa_cons pe_str (pa_cons pe_str pa_nil))))))))))) pa_nil))) po_none (po_some (pe_op op_add (pv 1) (pv 2)))))
    (C8.pss_cut (ps_asg (pe_tup (pa_cons (pe_slice sl_list (pv 6) po_none (po_some (pv 1))) (pa_cons (pe_slice sl_list (pv 6) (po_some (pv 1)) po_none) (pa_cons pe_dnewK pa_nil)))) (pg_tup rfl (pgs_cons (pg_name (i := 7) scDr.nd rfl (Or.inl rfl)) (pgs_cons (pg_name (i := 8) scDr.nd rfl (Or.inr rfl)) (pgs_cons (pg_name (i := 9) scDr.nd rfl (Or.inr rfl)) pgs_nil)))))
    (C8.pss_cut (ps_for PassesOwn.never rfl (pi_enum rfl zN (pa_cons (pe_slice sl_list (pe_cal (E := E0) CS hr rfl (pa_cons (pv 0) (pa_cons (pe_lst (pa_cons pe_str (pa_cons pe_str (pa_cons pe_str (pa_cons pe_str pa_nil))))) pa_nil))) po_none (po_some (pv 2))) pa_nil)) (pg_tup rfl (pgs_cons (pg_name (i := 10) scDr.nd rfl (.inl rfl)) (pgs_cons (pg_name (i := 11) scDr.nd rfl (.inl rfl)) pgs_nil)))
      (pss_cons (ps_set (i := 12) scDr.nd rfl (Or.inl rfl) (pe_op op_add pe_int (pe_cal (E := E0) CR (Room.mono hr (by decide)) rfl (pa_cons (pv 0) (pa_cons pe_int pa_nil)) (Nat.le_refl _))))
      (pss_cons (ps_set (i := 13) scDr.nd rfl (Or.inl rfl) (pe_ifExp (pt_val (pv 5)) (pe_cal (E := E0) CP hr rfl (pa_cons (pv 0) (pa_cons (pe_lst (pa_cons pe_int (pa_cons pe_int (pa_cons pe_int (pa_cons pe_int pa_nil))))) pa_nil))) pe_int))
      (C8.pss_cut (ps_set (i := 14) scDr.nd rfl (Or.inl rfl) (pe_op op_cat (pe_op op_cat (pe_lst (pa_cons pe_str pa_nil)) (pv 7)) (pe_op op_rep (pe_lc (own := [("place", 19)]) (g := gName 19) rfl scDr.nd (pi_range1 rfl zR (pa_cons (pv 10) pa_nil)) (blkOk_by (own := [("place", 19)]) (N := drN) (sc := defScope s_law_nt_drawn) (by decide +kernel))
          (fun _ _ _ _ _ => pg_name (i := 19) scDr.nd rfl (Or.inl rfl)) (fun _ _ _ _ _ => pts_one (pt_cmpR op_eq (pe_ix (r := rIxT K) ix_tup (pe_dget (hu_of hr) (pv 9) (pe_ix (r := rIxL K) ix_list (pe_callTy (call_listD rfl) (by rfl) zL (by decide +kernel) (pa_cons (pv 9) pa_nil)) (pv 19) (fun _ _ => rfl)) (fun _ _ => rfl)) pe_int (fun _ _ => rfl)) pe_int (nomark _))) (fun _ _ _ _ _ => pe_ix (r := rIxL K) ix_list (pv 8) (pv 19) (fun _ _ => rfl))) pe_int)))
      (pss_one (ps_dput (hu_of hr) (pv 9) (pv 11) (pe_tup (pa_cons (pe_cal (E := E0) CP hr rfl (pa_cons (pv 0) (pa_cons (pv 14) pa_nil))) (pa_cons (pe_ix (r := rIxL K) ix_list (pv 8) (pv 10) (fun _ _ => rfl)) (pa_cons (pv 12) (pa_cons (pe_op op_add (pv 12) (pe_cal (E := E0) CR (Room.mono hr (by decide)) rfl (pa_cons (pv 0) (pa_cons pe_int pa_nil)) (Nat.le_refl _))) (pa_cons (pv 13) pa_nil)))))) rfl))))))
    (C8.pss_cut (ps_par (i := 15) (j := 16) rfl scDr.nd rfl rfl (by decide) rfl rfl (pa_cons pe_dnewK (pa_cons pe_dnewK pa_nil)) (by rfl))
    (C8.pss_cut (ps_for PassesOwn.never rfl (pi_list (pv 6)) (pg_name (i := 17) scDr.nd rfl (.inl rfl))
      (pss_one (ps_dput (hu_of hr) (pv 15) (pv 17) (pe_cal (E := E0) CP hr rfl (pa_cons (pv 0) (pa_cons (pe_lst (pa_cons (pv 4) (pa_cons (pv 4) (pa_cons (pv 4) (pa_cons (pe_callB (call_max2 rfl) (by rfl) zM (by decide +kernel) (pa_cons pe_int (pa_cons (pe_op op_sub (pe_op op_sub (pv 4) pe_int) (pe_cal (E := E0) CR (Room.mono hr (by decide)) rfl (pa_cons (pv 0) (pa_cons pe_int pa_nil)) (Nat.le_refl _))) pa_nil))) pa_nil))))) pa_nil))) rfl)))
    (C8.pss_cut (ps_for PassesOwn.never rfl (pi_range1 rfl zR (pa_cons (pe_cal (E := E0) CR (Room.mono hr (by decide)) rfl (pa_cons (pv 0) (pa_cons (pe_op op_add (pv 3) pe_int) pa_nil)) (Nat.le_refl _)) pa_nil)) (pg_name (i := 10) scDr.nd rfl (.inl rfl))
      (C8.pss_cut (ps_set (i := 18) scDr.nd rfl (Or.inl rfl) (pe_slice sl_list (pe_cal (E := E0) CS hr rfl (pa_cons (pv 0) (pa_cons (pe_op op_cat (pv 6) (pe_op op_rep (pe_lst (pa_cons pe_str pa_nil)) (pe_callTy call_int1 (by rfl) zI (by decide +kernel) (pa_cons (pe_cmpR op_eq (pe_cal (E := E0) CR (Room.mono hr (by decide)) rfl (pa_cons (pv 0) (pa_cons pe_int pa_nil)) (Nat.le_refl _)) pe_int (nomark _)) pa_nil)))) pa_nil))) po_none (po_some pe_int)))
      (pss_one (ps_if (pt_cmpR op_eq (pe_callB call_len (by rfl) zE PySem.boot_len (pa_cons (pv 18) pa_nil)) pe_int (nomark _))
        (pss_one (ps_dput (hu_of hr) (pv 16) (pe_op op_add_str pe_str (pe_callTy call_str_int (by rfl) zT (by decide +kernel) (pa_cons (pv 10) pa_nil))) (pe_tup (pa_cons (pe_ix (r := rIxL K) ix_list (pv 18) pe_int (fun _ _ => rfl)) (pa_cons (pe_ix (r := rIxL K) ix_list (pv 18) pe_int (fun _ _ => rfl)) (pa_cons (pe_cal (E := E0) CP hr rfl (pa_cons (pv 0) (pa_cons (pe_lst (pa_cons (pe_un un_neg pe_int) (pa_cons (pe_un un_neg pe_int) (pa_cons (pe_un un_neg pe_int) (pa_cons pe_int (pa_cons pe_int (pa_cons pe_int (pa_cons pe_int (pa_cons pe_int (pa_cons pe_int (pa_cons pe_int pa_nil))))))))))) pa_nil))) pa_nil)))) rfl)) pss_nil))))
    (pss_one (ps_ret (pe_lst (pa_cons (pv 15) (pa_cons (pv 9) (pa_cons (pv 16) pa_nil))))))))))), ?_⟩
  -- names
  refine ⟨fun σ' H' => ∃ (p : Addr) (ns : List Str), σ' = drS D hd wk mm hz lk (some (.ref p)) none none none none none none none none none none none none none ∧ But D H H' ∧ Dc H' D ∧ p ≠ D ∧ H' p = some (.lst (ns.map V.str)) ∧ ns.Nodup ∧ (∀ z ∈ ns, z ∈ nm10) ∧ ns.length = hd + wk, ?_, ?_⟩
  · refine ⟨_, rfl, by show 10 ≤ sizeLine; decide, fun q nq => ⟨D, q, nm10.map V.str, rfl, hD.same (same_new nq), new_ne hD nq, upd_same, by show 10 ≤ 1000; decide, fun L zs H3 LD hL pz b3 hD3 => ?_⟩⟩
    obtain ⟨ps, rfl, pp⟩ := strs_perm pz
    refine ⟨_, rfl, _, rfl, (hd : Int), (wk : Int), rfl, rfl, ?_⟩
    refine ⟨_, rfl, L, _, rfl, SqL.of hL, fun q2 nq2 => ?_⟩
    have lps : ps.length = 10 := pp.length_eq
    rw [show (hd : Int) + (wk : Int) = ((hd + wk : Nat) : Int) by omega, cut_take, ← List.map_take]
    have b4 : But D H H3 := (Same.but (same_new nq)).trans b3
    refine ⟨q2, ps.take (hd + wk), rfl, b4.trans (Same.but (same_new nq2)), hD3.same (same_new nq2), new_ne hD3 nq2, upd_same, (List.take_sublist _ ps).nodup (pp.nodup_iff.mpr nm10_ok.1), fun z m => pp.mem_iff.mp (List.mem_of_mem_take m), by rw [List.length_take]; omega⟩
  rintro _ H2 ⟨p, ns, rfl, b2, hD2, pD, hp, nns, sns, lns⟩
  -- heads, ends
  refine ⟨fun σ' H' => ∃ (p h e f : Addr) (hs es : List Str), σ' = drS D hd wk mm hz lk (some (.ref p)) (some (.ref h)) (some (.ref e)) (some (.ref f)) none none none none none none none none none none ∧ But D H H' ∧ Dc H' D ∧ p ≠ D ∧ h ≠ D ∧ e ≠ D ∧ f ≠ D ∧
      H' p = some (.lst ((hs ++ es).map V.str)) ∧ H' h = some (.lst (hs.map V.str)) ∧ H' e = some (.lst (es.map V.str)) ∧ H' f = some (.dK []) ∧ H f = none ∧ NmOk hs es ∧ hs.length = hd ∧ es.length = wk, ?_, ?_⟩
  · refine ⟨_, rfl, _, rfl, _, rfl, p, _, rfl, SqL.of hp, fun h nh => ?_⟩
    have s1 := same_new (o := .lst (cutV (ns.map V.str) none (some (hd : Int)))) nh
    refine ⟨_, rfl, _, rfl, _, rfl, p, _, rfl, SqL.of (s1 _ _ hp), fun e ne => ?_⟩
    refine fun f nf => ⟨by show 3 ≤ sizeLine; decide, fun tt ntt => ?_⟩
    have s2 := s1.trans (same_new (o := .lst (cutV (ns.map V.str) (some (hd : Int)) none)) ne)
    have s3 := s2.trans (same_new (o := .dK []) nf)
    have st := same_new (o := .tup [.ref h, .ref e, .ref f]) ntt
    have s4 := s3.trans st
    refine ⟨tt, _, rfl, SqT.of upd_same, rfl, _, _, rfl, _, _, rfl, _, _, rfl, rfl, ?_⟩
    have eh := (((same_new ne).trans (same_new nf)).trans st) _ _ (upd_same (H := H2) (a := h) (o := .lst (cutV (ns.map V.str) none (some (hd : Int)))))
    have ee := ((same_new nf).trans st) _ _ (upd_same (a := e) (o := .lst (cutV (ns.map V.str) (some (hd : Int)) none)))
    have ef := st _ _ (upd_same (a := f) (o := .dK []))
    refine ⟨p, h, e, f, ns.take hd, ns.drop hd, rfl, b2.trans (Same.but s4), hD2.same s4, pD, new_ne hD2 nh, new_ne (hD2.same s1) ne, new_ne (hD2.same s2) nf, ?_, eh.trans (by rw [cut_take, ← List.map_take]), ee.trans (by rw [cut_drop, ← List.map_drop]), ef, none_but b2 hD2 (none_of s2 nf), ⟨by rw [List.take_append_drop]; exact nns, by rw [List.take_append_drop]; exact sns⟩, by rw [List.length_take]; omega, by rw [List.length_drop]; omega⟩
    rw [List.take_append_drop]
    exact s4 _ _ hp
  rintro _ H3 ⟨p, h, e, f, hs, es, rfl, b3, hD3, pD, hnD, eD, fD, hp, hh, he, hf, nF, nmo, lhs, les⟩
  -- works
  refine ⟨fun σ' H' => ∃ (x10 x11 x12 x13 x14 : Option V) (W : Ws) (wn : List Str), σ' = drS D hd wk mm hz lk (some (.ref p)) (some (.ref h)) (some (.ref e)) (some (.ref f)) x10 x11 x12 x13 x14 none none none none none ∧ But D H H' ∧ Dc H' D ∧
      H' p = some (.lst ((hs ++ es).map V.str)) ∧ TD wkD K H' f W ∧ DI hs es wn wk W ∧ wn.Nodup ∧ (∀ z ∈ wn, z ∈ wn4) ∧ wn.length = wk, ?_, ?_⟩
  · refine ⟨_, rfl, by show 4 ≤ sizeLine; decide, fun q nq => ⟨D, q, wn4.map V.str, rfl, hD3.same (same_new nq), new_ne hD3 nq, upd_same, by show 4 ≤ 1000; decide, fun Lw zs H4 LD hL pz b4 hD4 => ?_⟩⟩
    obtain ⟨ps, rfl, pp⟩ := strs_perm pz
    refine ⟨_, rfl, _, rfl, Lw, _, rfl, SqL.of hL, fun Lq nLq => ?_⟩
    rw [cut_take, ← List.map_take]
    have lps : ps.length = 4 := pp.length_eq
    have b34 : But D H3 H4 := (Same.but (same_new nq)).trans b4
    have sq := same_new (o := .lst ((ps.take wk).map V.str)) nLq
    have b35 := b34.trans (Same.but sq)
    have hD5 := hD4.same sq
    have nwn : (ps.take wk).Nodup := (List.take_sublist _ ps).nodup (pp.nodup_iff.mpr wn4_ok.1)
    have swn : ∀ z ∈ ps.take wk, z ∈ wn4 := fun z m => pp.mem_iff.mp (List.mem_of_mem_take m)
    have lwn : (ps.take wk).length = wk := by rw [List.length_take]; omega
    generalize ps.take wk = wn at sq b35 hD5 nwn swn lwn
    refine ⟨Lq, _, rfl, SqL.of upd_same, ?_⟩
    refine for_it (walk_enum (K := K) (a := Lq) (xs := wn.map V.str)) (fun i σ H' => ∃ (x10 x11 x12 x13 x14 : Option V) (W : Ws), σ = drS D hd wk mm hz lk (some (.ref p)) (some (.ref h)) (some (.ref e)) (some (.ref f)) x10 x11 x12 x13 x14 none none none none none ∧ But D H H' ∧ Dc H' D ∧
        H' p = some (.lst ((hs ++ es).map V.str)) ∧ H' h = some (.lst (hs.map V.str)) ∧ H' e = some (.lst (es.map V.str)) ∧ H' Lq = some (.lst (wn.map V.str)) ∧ TD wkD K H' f W ∧ DI hs es wn i W)
      ⟨none, none, none, none, none, [], rfl, b3.trans b35, hD5, b35 _ _ pD hp, b35 _ _ hnD hh, b35 _ _ eD he, upd_same, TD.nil (b35 _ _ fD hf), DI.init⟩ (fun i σ H' _ y => by obtain ⟨_, _, _, _, _, _, _, _, _, _, _, _, z, _⟩ := y; exact SqL.of z) (fun i y σ H7 H8 hi z yy => ?_) (fun σ H' z => ?_)
    · obtain ⟨x10, x11, x12, x13, x14, W, rfl, b7, hD7, hp7, hh7, he7, hq7, hf7, di⟩ := z
      obtain ⟨T, xi, ye, rfl, nT, rfl, e1, e2⟩ := yy
      cases e1
      have e2 : (wn.map V.str)[i]? = some ye := e2
      rw [List.getElem?_map] at e2
      obtain ⟨n, hn, rfl⟩ := Option.map_eq_some_iff.mp e2
      have i3 : i < wk := by
        have := (List.getElem?_eq_some_iff.mp hn).1
        omega
      obtain ⟨en, hen⟩ : ∃ b, es[i]? = some b := ⟨_, List.getElem?_eq_getElem (by omega)⟩
      have lw := di.len (by omega)
      have ndW : (W.map (·.1)).Nodup := by rw [di.nm]; exact (List.take_sublist _ wn).nodup nwn
      have LqD : Lq ≠ D := fun z => by
        obtain ⟨d0, d1, d2, eD⟩ := hD7
        rw [z, eD] at hq7
        injection hq7 with hq7
        injection hq7 with hq7
        cases wn with
        | nil => cases hn
        | cons a l => rw [List.map_cons] at hq7; injection hq7 with y1 y2; cases y1
      have sT := same_new (o := .tup [.int (i : Nat), .str n]) nT
      have hD8 := hD7.same sT
      refine ⟨T, _, rfl, SqT.of upd_same, rfl, _, _, rfl, _, _, rfl, rfl, ?_⟩
      obtain ⟨d0, d1, d2, eD8⟩ := id hD8
      refine ⟨_, rfl, D, d0, d1, d2, 2, rfl, eD8, by decide, by decide, fun r f0 f2 r0 r1 => ⟨_, _, rfl, rfl, ?_⟩⟩
      have c1 : But D (upd H7 T (.tup [.int (i : Nat), .str n])) (upd (upd H7 T (.tup [.int (i : Nat), .str n])) D (.lst [.int f0, .int d1, .int f2])) := But.upd
      have hG1 : Dc (upd (upd H7 T (.tup [.int (i : Nat), .str n])) D (.lst [.int f0, .int d1, .int f2])) D := ⟨f0, d1, f2, upd_same⟩
      generalize upd (upd H7 T (.tup [.int (i : Nat), .str n])) D (.lst [.int f0, .int d1, .int f2]) = G1 at c1 hG1 ⊢
      refine rd_look (K := K) (D := D) rfl rfl hG1 fun v G2 v0 v1 c2 hG2 => ?_
      have c12 := ((Same.but sT).trans c1).trans c2
      have hf2 := td_roll ge_wk hD7 c12 hf7
      refine ⟨fun σ' G3 => ∃ (bA : Addr) (bs : List Str), σ' = drS D hd wk mm hz lk (some (.ref p)) (some (.ref h)) (some (.ref e)) (some (.ref f)) (some (.int (i : Nat))) (some (.str n)) (some (.int (1 + r))) (some (.int v)) (some (.ref bA)) none none none none none ∧ Same G2 G3 ∧ bA ≠ D ∧
        G3 bA = some (.lst (bs.map V.str)) ∧ 0 < bs.length ∧ bs.length < 1000 ∧ ∀ z ∈ bs, BgOk hs W z, ?_, ?_⟩
      · exact rd_begins (K := K) (hs := hs) (es := es) (wn := wn) (W := W) (i := i) (h := h) (e := e) (f := f) rfl rfl rfl rfl (by show 19 < 20; decide) (c12 _ _ hnD hh7) (c12 _ _ eD he7) hf2 di lw (by omega) (by omega) ndW
          fun b bs H' s nb hb l0 l1 ok => ⟨b, bs, rfl, s, fun z => (by obtain ⟨d0, d1, d2, eD⟩ := hG2; rw [z, eD] at nb; cases nb), hb, l0, l1, ok⟩
      · rintro _ G3 ⟨bA, bs, rfl, s3, bD, hb, l0, l1', okb⟩
        have hG3 := hG2.same s3
        refine ⟨_, rfl, _, rfl, D, .ref bA, rfl, hG3, .inl ⟨bA, _, rfl, bD, hb, by rw [List.length_map]; exact l0, by rw [List.length_map]; exact l1', fun u4 G4 hu4 c4 hG4 => ?_⟩⟩
        obtain ⟨bg, hbg, rfl⟩ := List.mem_map.mp hu4
        have c14 := (c12.trans (Same.but s3)).trans c4
        obtain ⟨d0, d1, d2, eD4⟩ := id hG4
        refine ⟨_, rfl, _, rfl, e, es.map V.str, (i : Nat), .str en, rfl, rfl, SqL.of (c14 _ _ eD he7), atI_nat (j := i) (by rw [List.getElem?_map, hen]; rfl), ?_⟩
        refine ⟨_, rfl, _, rfl, _, rfl, D, d0, d1, d2, 3, rfl, eD4, by decide, by decide, fun r2 g0 g2 r20 r21 => ⟨_, _, rfl, rfl, ?_⟩⟩
        have c5 : But D G4 (upd G4 D (.lst [.int g0, .int d1, .int g2])) := But.upd
        have hG5 : Dc (upd G4 D (.lst [.int g0, .int d1, .int g2])) D := ⟨g0, d1, g2, upd_same⟩
        generalize upd G4 D (.lst [.int g0, .int d1, .int g2]) = G5 at c5 hG5 ⊢
        have c15 := c14.trans c5
        refine ⟨_, rfl, by show 5 ≤ sizeLine; decide, fun t5 nt5 => ?_⟩
        have s5 := same_new (o := .tup [.str bg, .str en, .int (1 + r), .int (1 + r + r2), .int v]) nt5
        have c16 := c15.trans (Same.but s5)
        have hG6 := hG5.same s5
        obtain ⟨kv, ek, tx⟩ := td_roll ge_wk hD7 c16 hf7
        have lkv : kv.length = W.length := Paired.length tx
        obtain ⟨new, di2⟩ := di.step (n := n) (e := en) (b := bg) (l := 1 + r) (m := 1 + r + r2) (k := v) nwn hn hen (by omega) (by omega) (by omega) v0 v1 (by rw [← lw]; exact okb bg hbg)
        refine ⟨_, rfl, _, rfl, f, _, rfl, DPut.k (k := .inr n) ek (by rw [sizeLine_eq]; omega), ?_⟩
        have nf : ∀ {a : Addr} {xs : List V} {G : Hp}, G a = some (.lst xs) → G f = some (.dK kv) → a ≠ f := fun e1 e2 => ne_of e1 e2 (fun z => nomatch z)
        refine ⟨_, _, _, _, _, W ++ [(n, (bg, en, 1 + r, 1 + r + r2, v))], rfl, but_mut (b7.trans c16) nF, dc_upd hG6 fD, ?_, ?_, ?_, ?_, ⟨_, upd_same, ?_⟩, di2⟩
        · rw [upd_ne (nf (c16 _ _ pD hp7) ek)]
          exact c16 _ _ pD hp7
        · rw [upd_ne (nf (c16 _ _ hnD hh7) ek)]
          exact c16 _ _ hnD hh7
        · rw [upd_ne (nf (c16 _ _ eD he7) ek)]
          exact c16 _ _ eD he7
        · rw [upd_ne (nf (c16 _ _ LqD hq7) ek)]
          exact c16 _ _ LqD hq7
        · have tx7 := tx.put (s := n) (v := .ref t5) (x := (bg, en, 1 + r, 1 + r + r2, v)) new (.tup (SqT.of upd_same) (.cons (.str _) (.cons (.str _) (.cons (.int _) (.cons (.int _) (.cons (.int _) .nil))))))
          exact tx7.sk (sk_put ek fun xs => ⟨(fun z => nomatch z), (fun z => nomatch z), (fun _ z => nomatch z), (fun _ z => nomatch z)⟩)
    · obtain ⟨x10, x11, x12, x13, x14, W, rfl, b7, hD7, hp7, hh7, he7, hq7, hf7, di⟩ := z
      rw [List.length_map, lwn] at di
      exact ⟨x10, x11, x12, x13, x14, W, wn, rfl, b7, hD7, hp7, hf7, di, nwn, swn, lwn⟩
  rintro _ H4 ⟨x10, x11, x12, x13, x14, W, wn, rfl, b4, hD4, hp4, hf4, di, nwn, swn, lwn⟩
  -- lasts
  refine ⟨fun σ' H' => ∃ (a c : Addr), σ' = drS D hd wk mm hz lk (some (.ref p)) (some (.ref h)) (some (.ref e)) (some (.ref f)) x10 x11 x12 x13 x14 (some (.ref a)) (some (.ref c)) none none none ∧ But D H H' ∧ Dc H' D ∧
      H' p = some (.lst ((hs ++ es).map V.str)) ∧ TD wkD K H' f W ∧ H' a = some (.dK []) ∧ H' c = some (.dK []) ∧ H a = none ∧ H c = none ∧ a ≠ c ∧ a ≠ f ∧ c ≠ f ∧ a ≠ D ∧ c ≠ D, ?_, ?_⟩
  · intro a na c nc
    obtain ⟨kv, ek, tx⟩ := id hf4
    have sa := same_new (o := .dK []) na
    have sc := sa.trans (same_new (o := .dK []) nc)
    exact ⟨_, _, rfl, a, c, rfl, b4.trans (Same.but sc), hD4.same sc, sc _ _ hp4, hf4.same sc, same_new nc _ _ upd_same, upd_same, none_but b4 hD4 na, none_but b4 hD4 (none_of sa nc), ne_of_none upd_same nc, (ne_of_none ek na).symm, (ne_of_none (sa _ _ ek) nc).symm, new_ne hD4 na, new_ne (hD4.same sa) nc⟩
  rintro _ H5 ⟨a, c, rfl, b5, hD5, hp5, hf5, ha5, hc5, na, nc, ac, af, cf, aD, cD⟩
  refine ⟨fun σ' H' => ∃ (x17 : Option V) (L : Ls), σ' = drS D hd wk mm hz lk (some (.ref p)) (some (.ref h)) (some (.ref e)) (some (.ref f)) x10 x11 x12 x13 x14 (some (.ref a)) (some (.ref c)) x17 none none ∧ But D H H' ∧ Dc H' D ∧
      H' p = some (.lst ((hs ++ es).map V.str)) ∧ TD wkD K H' f W ∧ TD inD K H' a L ∧ H' c = some (.dK []) ∧ L.map (·.1) = hs ++ es ∧ ∀ q ∈ L, 1 ≤ q.2 ∧ q.2 ≤ hz, ?_, ?_⟩
  · refine ⟨_, rfl, p, rfl, ⟨_, SqL.of hp5⟩, ?_⟩
    refine for_list (K := K) (xs := (hs ++ es).map V.str) (fun i σ H' => ∃ (x17 : Option V) (L : Ls), σ = drS D hd wk mm hz lk (some (.ref p)) (some (.ref h)) (some (.ref e)) (some (.ref f)) x10 x11 x12 x13 x14 (some (.ref a)) (some (.ref c)) x17 none none ∧ But D H H' ∧ Dc H' D ∧
      H' p = some (.lst ((hs ++ es).map V.str)) ∧ TD wkD K H' f W ∧ TD inD K H' a L ∧ H' c = some (.dK []) ∧ L.map (·.1) = (hs ++ es).take i ∧ ∀ q ∈ L, 1 ≤ q.2 ∧ q.2 ≤ hz)
      ⟨none, [], rfl, b5, hD5, hp5, hf5, TD.nil ha5, hc5, rfl, fun q hq => by cases hq⟩ (fun i σ H' _ y => by obtain ⟨_, _, _, _, _, z, _⟩ := y; exact SqL.of z) (fun i y σ H6 hy z => ?_) (fun σ H' z => ?_)
    · obtain ⟨x17, L, rfl, b6, hD6, hp6, hf6, ha6, hc6, en, tk⟩ := z
      rw [List.getElem?_map] at hy
      obtain ⟨n, hn, rfl⟩ := Option.map_eq_some_iff.mp hy
      obtain ⟨d0, d1, d2, eD6⟩ := id hD6
      refine ⟨_, rfl, _, rfl, _, rfl, _, rfl, _, rfl, _, _, rfl, rfl, _, rfl, D, d0, d1, d2, 3, rfl, eD6, by decide, by decide, fun r g0 g2 r0 r1 => ⟨_, _, rfl, rfl, _, _, rfl, ?_⟩⟩
      have c1 : But D H6 (upd H6 D (.lst [.int g0, .int d1, .int g2])) := But.upd
      have hG1 : Dc (upd H6 D (.lst [.int g0, .int d1, .int g2])) D := ⟨g0, d1, g2, upd_same⟩
      generalize upd H6 D (.lst [.int g0, .int d1, .int g2]) = G1 at c1 hG1 ⊢
      refine ⟨by show 4 ≤ sizeLine; decide, fun q nq => pick_int (K := K) (E := E0) hG1 nq (by show 0 < 4; decide) (by show 4 < 1000; decide) fun u G2 hu c2 hG2 => ?_⟩
      have hv : ∃ v : Int, u = .int v ∧ 1 ≤ v ∧ v ≤ hz := by
        simp only [List.mem_cons, List.not_mem_nil, or_false] at hu
        rcases hu with rfl | rfl | rfl | rfl
        · exact ⟨_, rfl, by omega, by omega⟩
        · exact ⟨_, rfl, by omega, by omega⟩
        · exact ⟨_, rfl, by omega, by omega⟩
        · exact ⟨_, rfl, by split <;> omega, by split <;> omega⟩
      obtain ⟨v, rfl, v0, v1⟩ := hv
      have c12 := c1.trans c2
      obtain ⟨ka, hka, tka⟩ := td_roll ge_in hD6 c12 ha6
      have lka : ka.length ≤ 6 := by
        have e1 : ka.length = L.length := Paired.length tka
        have e2 := congrArg List.length en
        rw [List.length_map, List.length_take, List.length_append] at e2
        omega
      have zn : n ∉ L.map (·.1) := by
        rw [en]
        intro mem
        have h2 := nmo.nd
        rw [← List.take_append_drop i (hs ++ es)] at h2
        have m2 : n ∈ (hs ++ es).drop i := List.mem_of_getElem? (i := 0) (by rw [List.getElem?_drop]; exact hn)
        exact (List.nodup_append.mp h2).2.2 _ mem _ m2 rfl
      refine ⟨_, rfl, _, rfl, a, _, rfl, DPut.k (k := .inr n) hka (by rw [sizeLine_eq]; omega), ?_⟩
      obtain ⟨kw, ekw, txw⟩ := td_roll ge_wk hD6 c12 hf6
      refine ⟨_, L ++ [(n, v)], rfl, but_mut (b6.trans c12) na, dc_upd hG2 aD, ?_, ⟨kw, ?_, ?_⟩, ⟨_, upd_same, ?_⟩, ?_, ?_, ?_⟩
      · rw [upd_ne (ne_of (c12 _ _ pD hp6) hka (fun z => nomatch z))]
        exact c12 _ _ pD hp6
      · rw [upd_ne (Ne.symm af)]
        exact ekw
      · exact txw.sk (sk_put hka fun xs => ⟨(fun z => nomatch z), (fun z => nomatch z), (fun _ z => nomatch z), (fun _ z => nomatch z)⟩)
      · exact (tka.put (s := n) (v := .int v) (x := v) zn (.int v)).sk (sk_put hka fun xs => ⟨(fun z => nomatch z), (fun z => nomatch z), (fun _ z => nomatch z), (fun _ z => nomatch z)⟩)
      · rw [upd_ne (Ne.symm ac)]
        exact c12 _ _ cD hc6
      · rw [List.map_append, en, List.take_add_one, hn]
        rfl
      · intro q hq
        rcases List.mem_append.mp hq with y | y
        · exact tk q y
        · rw [List.mem_singleton] at y
          subst y
          exact ⟨v0, v1⟩
    · obtain ⟨x17, L, rfl, b6, hD6, hp6, hf6, ha6, hc6, en, tk⟩ := z
      rw [List.length_map, List.take_length] at en
      exact ⟨x17, L, rfl, b6, hD6, hp6, hf6, ha6, hc6, en, tk⟩
  rintro _ H6 ⟨x17, L, rfl, b6, hD6, hp6, hf6, ha6, hc6, en, tk⟩
  have ndn := nmo.dawn
  have lL : L.length = hd + wk := by
    have e2 := congrArg List.length en
    rw [List.length_map, List.length_append] at e2
    omega
  have kn : ∀ z ∈ hs ++ es, knownB L z = true := fun z m => by
    unfold knownB
    rw [en, decide_eq_true m, Bool.or_true]
  -- bounds
  refine ⟨fun σ' H' => ∃ (y10 y18 : Option V) (B : Bs), σ' = drS D hd wk mm hz lk (some (.ref p)) (some (.ref h)) (some (.ref e)) (some (.ref f)) y10 x11 x12 x13 x14 (some (.ref a)) (some (.ref c)) x17 y18 none ∧ But D H H' ∧ Dc H' D ∧
      TD inD K H' a L ∧ TD wkD K H' f W ∧ TD bdD K H' c B ∧ (∃ n, n < mm + 1 ∧ BJ L n B) ∧ ∀ q ∈ B, -2 ≤ q.2.2.2 ∧ q.2.2.2 ≤ 4, ?_, ?_⟩
  · obtain ⟨d0, d1, d2, eD6⟩ := id hD6
    refine ⟨_, rfl, _, rfl, _, _, rfl, rfl, D, d0, d1, d2, _, rfl, eD6, by omega, by omega, fun r g0 g2 r0 r1 => ?_⟩
    have c1 : But D H6 (upd H6 D (.lst [.int g0, .int d1, .int g2])) := But.upd
    have hG1 : Dc (upd H6 D (.lst [.int g0, .int d1, .int g2])) D := ⟨g0, d1, g2, upd_same⟩
    generalize upd H6 D (.lst [.int g0, .int d1, .int g2]) = G1 at c1 hG1 ⊢
    refine ⟨r, rfl, by omega, by omega, ?_⟩
    refine for_range (lo := 0) (n := r.toNat) (fun i σ H' => ∃ (y10 y18 : Option V) (B : Bs), σ = drS D hd wk mm hz lk (some (.ref p)) (some (.ref h)) (some (.ref e)) (some (.ref f)) y10 x11 x12 x13 x14 (some (.ref a)) (some (.ref c)) x17 y18 none ∧ But D H H' ∧ Dc H' D ∧
        H' p = some (.lst ((hs ++ es).map V.str)) ∧ TD inD K H' a L ∧ TD wkD K H' f W ∧ TD bdD K H' c B ∧ BJ L i B ∧ ∀ q ∈ B, -2 ≤ q.2.2.2 ∧ q.2.2.2 ≤ 4)
      ⟨x10, none, [], rfl, b6.trans c1, hG1, c1 _ _ pD hp6, td_roll ge_in hD6 c1 ha6, td_roll ge_wk hD6 c1 hf6, TD.nil (c1 _ _ cD hc6), BJ.init, fun q hq => by cases hq⟩ (fun i σ H7 hi z => ?_) (fun σ H7 z => ?_)
    · obtain ⟨y10, y18, B, rfl, b7, hD7, hp7, ha7, hf7, hc7, bj, tb⟩ := z
      refine ⟨fun σ' H' => ∃ (g : Addr) (sh : List Str), σ' = drS D hd wk mm hz lk (some (.ref p)) (some (.ref h)) (some (.ref e)) (some (.ref f)) (some (.int (0 + (i : Int)))) x11 x12 x13 x14 (some (.ref a)) (some (.ref c)) x17 (some (.ref g)) none ∧ But D H7 H' ∧ Dc H' D ∧ g ≠ D ∧
          H' g = some (.lst (sh.map V.str)) ∧ sh.Nodup ∧ sh.length ≤ 2 ∧ ∀ s ∈ sh, knownB L s = true, ?_, ?_⟩
      · refine ⟨_, rfl, _, rfl, by show 1 ≤ sizeLine; decide, fun q nq => ?_⟩
        have sq := same_new (o := .lst [.str "dawn"]) nq
        obtain ⟨w0, w1, w2, eD7⟩ := hD7.same sq
        refine ⟨_, rfl, D, w0, w1, w2, 4, rfl, eD7, by decide, by decide, fun r2 f0 f2 r20 r21 => ?_⟩
        have c2 : But D (upd H7 q (.lst [.str "dawn"])) (upd (upd H7 q (.lst [.str "dawn"])) D (.lst [.int f0, .int w1, .int f2])) := But.upd
        have hG2 : Dc (upd (upd H7 q (.lst [.str "dawn"])) D (.lst [.int f0, .int w1, .int f2])) D := ⟨f0, w1, f2, upd_same⟩
        have hq2 := c2 _ _ (new_ne hD7 nq) (upd_same (H := H7) (a := q) (o := .lst [.str "dawn"]))
        have hp2 := c2 _ _ pD (sq _ _ hp7)
        have c12 := (Same.but sq).trans c2
        generalize upd (upd H7 q (.lst [.str "dawn"])) D (.lst [.int f0, .int w1, .int f2]) = G2 at c2 hG2 hq2 hp2 c12 ⊢
        refine ⟨rfl, .inr ⟨_, rfl, ?_⟩⟩
        generalize decide (V.int r2 = V.int 0) = bb
        refine ⟨q, _, _, rfl, rfl, hq2, by split <;> decide, by split <;> decide, by rw [sizeLine_eq]; cases bb <;> decide, fun r3 nr3 => ?_⟩
        rw [dn_rep]
        have s3 := same_new (o := .lst ((dnL bb).map V.str)) nr3
        have ldn := dn_len bb
        have lhe : (hs ++ es).length ≤ 6 := by rw [List.length_append]; omega
        refine ⟨p, r3, _, _, rfl, rfl, s3 _ _ hp2, upd_same, by rw [List.length_map, List.length_map, sizeLine_eq]; omega, fun r4 nr4 => ?_⟩
        rw [← List.map_append]
        have s4 := s3.trans (same_new (o := .lst ((hs ++ es ++ dnL bb).map V.str)) nr4)
        have hG4 := hG2.same s4
        refine ⟨D, r4, _, rfl, hG4, new_ne (hG2.same s3) nr4, upd_same, by rw [List.length_map, List.length_append]; omega, fun Lq zs H9 LD hL pz b9 hD9 => ?_⟩
        obtain ⟨sh, rfl, psh⟩ := strs_perm pz
        refine ⟨2, rfl, Lq, _, rfl, SqL.of hL, fun g ng => ?_⟩
        rw [show (2 : Int) = ((2 : Nat) : Int) from rfl, cut_take, ← List.map_take]
        have sg := same_new (o := .lst ((sh.take 2).map V.str)) ng
        have ndw : (hs ++ es ++ dnL bb).Nodup := List.nodup_append.mpr ⟨nmo.nd, dn_nodup bb, fun x hx y hy z => ndn (by rw [dn_mem hy] at z; rw [← z]; exact hx)⟩
        refine ⟨g, sh.take 2, rfl, ((c12.trans (Same.but s4)).trans b9).trans (Same.but sg), hD9.same sg, new_ne hD9 ng, upd_same, (List.take_sublist _ sh).nodup (psh.nodup_iff.mpr ndw), by rw [List.length_take]; omega, fun s hs => ?_⟩
        rcases List.mem_append.mp (psh.mem_iff.mp (List.mem_of_mem_take hs)) with y | y
        · exact kn s y
        · rw [dn_mem y]
          rfl
      · rintro _ G3 ⟨g, sh, rfl, c3, hG3, gD, hg, nsh, lsh, ksh⟩
        refine ⟨_, rfl, _, _, rfl, .inl ⟨_, SqL.of hg, rfl⟩, rfl, _, rfl, ite2 (fun e2 => ?_) (fun e2 => ?_)⟩
        · have l2 : sh.length = 2 := by
            have y := of_decide_eq_true e2
            rw [List.length_map] at y
            injection y with y
            omega
          obtain ⟨s1, s2, rfl⟩ : ∃ s1 s2, sh = [s1, s2] := by
            match sh, l2 with
            | [s1, s2], _ => exact ⟨s1, s2, rfl⟩
          refine ⟨_, rfl, g, _, 0, .str s1, rfl, rfl, SqL.of hg, atI_nat (j := 0) rfl, _, rfl, g, _, 1, .str s2, rfl, rfl, SqL.of hg, atI_nat (j := 1) rfl, _, rfl, _, rfl, _, rfl, _, rfl, by show 10 ≤ sizeLine; decide, fun q1 nq1 => pick_int (K := K) (E := E0) hG3 nq1 (by show 0 < 10; decide) (by show 10 < 1000; decide) fun u G4 hu c4 hG4 => ?_⟩
          have hv : ∃ v : Int, u = .int v ∧ -2 ≤ v ∧ v ≤ 4 := by
            simp only [List.mem_cons, List.not_mem_nil, or_false] at hu
            rcases hu with rfl | rfl | rfl | rfl | rfl | rfl | rfl | rfl | rfl | rfl <;> exact ⟨_, rfl, by decide, by decide⟩
          obtain ⟨v, rfl, v0, v1⟩ := hv
          refine ⟨by show 3 ≤ sizeLine; decide, fun t nt => ?_⟩
          have st := same_new (o := .tup [.str s1, .str s2, .int v]) nt
          have c34 := (c3.trans c4).trans (Same.but st)
          have hGt := hG4.same st
          have i4 : i < 8 := by omega
          have ls := nS_len (n := i) (by omega)
          obtain ⟨kc, ekc, txc⟩ := td_roll ge_bd hD7 c34 hc7
          have lkc : kc.length = B.length := Paired.length txc
          have lB := bj.len
          obtain ⟨new, bj2⟩ := bj.step (b := (s1, s2, v)) (by omega) ⟨ksh s1 (by simp), ksh s2 (by simp), fun z => (List.nodup_cons.mp nsh).1 (by have z : s1 = s2 := z; rw [z]; exact List.mem_cons_self ..), Int.le_trans (by decide +kernel) v0, Int.le_trans v1 (by decide +kernel)⟩
          refine ⟨_, rfl, _, rfl, _, rfl, by rw [Int.zero_add]; exact n_log (by omega), ("b" : Str), nS i, rfl, by rw [Int.zero_add]; rfl, by rw [sizeLine_eq]; show 1 + _ ≤ _; omega, c, _, rfl, DPut.k (k := .inr (("b" : Str) ++ nS i)) ekc (by rw [sizeLine_eq]; omega), ?_⟩
          have skc := sk_put (H := upd G4 t (.tup [.str s1, .str s2, .int v])) (o := .dK (putK kc (.inr (("b" : Str) ++ nS i)) (.ref t))) ekc fun xs => ⟨(fun z => nomatch z), (fun z => nomatch z), (fun _ z => nomatch z), (fun _ z => nomatch z)⟩
          obtain ⟨ka, eka, txa⟩ := td_roll ge_in hD7 c34 ha7
          obtain ⟨kw, ekw, txw⟩ := td_roll ge_wk hD7 c34 hf7
          refine ⟨_, _, B ++ [(("b" : Str) ++ nS i, (s1, s2, v))], rfl, but_mut (b7.trans c34) nc, dc_upd hGt cD, ?_, ⟨ka, ?_, txa.sk skc⟩, ⟨kw, ?_, txw.sk skc⟩, ⟨_, upd_same, ?_⟩, bj2, fun q hq => ?_⟩
          · rw [upd_ne (ne_of (c34 _ _ pD hp7) ekc (fun z => nomatch z))]
            exact c34 _ _ pD hp7
          · rw [upd_ne ac]
            exact eka
          · rw [upd_ne (Ne.symm cf)]
            exact ekw
          · exact (txc.put (s := ("b" : Str) ++ nS i) (v := .ref t) (x := (s1, s2, v)) new (.tup (SqT.of upd_same) (.cons (.str _) (.cons (.str _) (.cons (.int _) .nil))))).sk skc
          · rcases List.mem_append.mp hq with y | y
            · exact tb q y
            · rw [List.mem_singleton] at y
              subst y
              exact ⟨v0, v1⟩
        · exact ⟨_, _, B, rfl, b7.trans c3, hG3, c3 _ _ pD hp7, td_roll ge_in hD7 c3 ha7, td_roll ge_wk hD7 c3 hf7, td_roll ge_bd hD7 c3 hc7, bj.skip, tb⟩
    · obtain ⟨y10, y18, B, rfl, b7, hD7, hp7, ha7, hf7, hc7, bj, tb⟩ := z
      exact ⟨y10, y18, B, rfl, b7, hD7, ha7, hf7, hc7, ⟨_, by omega, bj⟩, tb⟩
  rintro _ H7 ⟨y10, y18, B, rfl, b7, hD7, ha7, hf7, hc7, ⟨n5, ln5, bj⟩, tb⟩
  refine ⟨_, rfl, _, rfl, _, rfl, by show 3 ≤ sizeLine; decide, fun pl npl => ?_⟩
  have sp := same_new (o := .lst [.ref a, .ref f, .ref c]) npl
  subst lwn
  have enW : W.map (fun p => p.2.2.1) = es := by rw [di.en, ← les, List.take_length]
  have lW := di.len (Nat.le_refl _)
  refine k pl ⟨L, W, B⟩ _ ⟨a, f, c, upd_same, ha7.same sp, hf7.same sp, hc7.same sp⟩ ⟨⟨⟨by rw [en]; exact nmo.nd, by show 1 ≤ L.length ∧ L.length ≤ 200; omega, fun q hq => nmo.name _ (by rw [← en]; exact List.mem_map.mpr ⟨q, hq, rfl⟩), fun q hq => ⟨by have := (tk q hq).1; omega, Int.le_trans (tk q hq).2 (Int.le_trans z100 (by decide +kernel))⟩⟩, di.fin nmo les nwn swn en, bj.fin (by omega)⟩,
    fun q hq => nmo.sub _ (by rw [← en]; exact List.mem_map.mpr ⟨q, hq, rfl⟩), fun q hq => swn _ ?_, fun q hq => ?_, fun q hq => (tk q hq).2, fun q hq => (di.sz q hq).2.2.1, tb, by show L.length ≤ 6; omega, by show W.length = _; omega, by show B.length ≤ _; have := bj.len; omega, ?_⟩ (b7.trans (Same.but sp)) (hD7.same sp) (new_ne hD7 npl)
  · have m : q.1 ∈ W.map (·.1) := List.mem_map.mpr ⟨q, hq, rfl⟩
    rw [di.nm, List.take_length] at m
    exact m
  · obtain ⟨j, lj, e⟩ := bj.nm q hq
    exact ⟨j, by omega, e⟩
  · intro e
    obtain ⟨z, zs, ez⟩ : ∃ z zs, hs = z :: zs := by
      cases hs with
      | nil => rw [List.length_nil] at lhs; omega
      | cons z zs => exact ⟨z, zs, rfl⟩
    have mz : z ∈ hs := by rw [ez]; exact List.mem_cons_self ..
    have m : z ∈ deedsL ⟨L, W, B⟩ := List.mem_filter.mpr ⟨by show z ∈ L.map (·.1); rw [en]; exact List.mem_append_left _ mz, by
      have : z ∉ (endW W).map (·.1) := fun y => by
        unfold endW at y
        rw [List.map_map] at y
        have y : z ∈ W.map (fun p => p.2.2.1) := y
        rw [enW] at y
        exact (List.nodup_append.mp nmo.nd).2.2 _ mz _ y rfl
      show (!decide (z ∈ (endW W).map (·.1))) = true
      rw [decide_eq_false this]
      rfl⟩
    rw [e] at m
    cases m
end
end LW
namespace LW
open PySem PySem.Spec PyProof.Rows L2 DW LamX
abbrev lwN : List Str := ["script", "spot", "dice", "plain", "told", "net", "row"]
theorem scLw : FnScope lwN ["script"] (defScope s_law) := ⟨rfl, rfl, rfl, by decide +kernel, rfl, by decide +kernel, by decide +kernel⟩
def spLaw (K : PySem.W.Frag) (T : List (Addr × Str)) : Sp := fun vs H Q _ => ∃ (a : Addr) (ns : List Int), vs = [.ref a] ∧ SqL K H a (ns.map V.int) ∧ ns.length ≤ 1000 ∧ Tabs T H ∧ ∀ H', Q (.bl true) H'
/-- the net that is written out -/
def L3 : Ls := [(("a" : Str), (9 : Int)), (("e" : Str), (9 : Int))]
def W3 : Ws := [(("u" : Str), (("dawn" : Str), ("e" : Str), (1 : Int), (3 : Int), (0 : Int)))]
def N3 : PlainD := ⟨L3, W3, []⟩
theorem ok3 : OkN N3 where
  l := ⟨by decide +kernel, ⟨by decide, by decide⟩, by decide +kernel, by decide +kernel⟩
  w := by
    refine ⟨by decide +kernel, by decide, by decide +kernel, fun p hp => ?_, by decide +kernel, ⟨fun s => if s = ("dawn" : Str) then 0 else 1, by decide +kernel⟩, by decide +kernel⟩
    have hp : p ∈ [(("u" : Str), (("dawn" : Str), ("e" : Str), (1 : Int), (3 : Int), (0 : Int)))] := hp
    simp only [List.mem_cons, List.not_mem_nil, or_false] at hp
    rcases hp with rfl
    exact ⟨by decide +kernel, by decide +kernel, by decide +kernel, by decide +kernel, by decide, by decide, by decide +kernel, by decide, by decide⟩
  b := ⟨.nil, by decide, fun p hp => (by cases hp), fun p hp => (by cases hp)⟩
theorem so3 : sortN N3 = N3 := by
  have e1 : srt (N3.L.map (·.1)) = [("a" : Str), "e"] := srt_uniq (List.Perm.refl _) (srt_of_sorted (by decide +kernel))
  have e2 : srt (N3.W.map (·.1)) = [("u" : Str)] := srt_uniq (List.Perm.refl _) (srt_of_sorted (by decide +kernel))
  have e3 : srt (N3.B.map (·.1)) = [] := srt_uniq (List.Perm.refl _) (srt_of_sorted (by decide +kernel))
  unfold sortN srtR
  rw [e1, e2, e3]
  rfl
def w3 : R4 := (kWait, "a", "u", 2)
def e3 : R4 := (kWait, "e", "u", 2)
theorem w3_ok : RowOk N3 w3 := ⟨by decide +kernel, by decide +kernel, .inr ⟨by decide +kernel, ⟨_, (by decide +kernel : look N3.W ("u" : Str) = some (("dawn" : Str), ("e" : Str), (1 : Int), (3 : Int), (0 : Int)))⟩, by decide +kernel⟩⟩
theorem e3_no : rowD N3 (r4D e3) = false := by decide +kernel
/-- no name of a drawn net is zz -/
theorem no_z {mm wk : Nat} {hz : Int} {N : PlainD} (d : DrM mm hz wk N) : NoZ N := by
  constructor
  · unfold knownB
    rw [Bool.or_eq_false_iff]
    refine ⟨by decide +kernel, decide_eq_false fun m => ?_⟩
    obtain ⟨p, hp, e⟩ := List.mem_map.mp m
    have q := d.nl p hp
    rw [e] at q
    exact absurd q (by decide +kernel)
  · rw [look_none]
    intro m
    obtain ⟨p, hp, e⟩ := List.mem_map.mp m
    have q := d.nw p hp
    rw [e] at q
    exact absurd q (by decide +kernel)
section
variable {K : PySem.W.Frag}
theorem tk_ext {H H' : Hp} (s : ExtN H H') : ∀ c xs, Rd H c (.tup xs) → Rd H' c (.tup xs) := fun c xs r => r.elim (fun r => .inl (s _ _ r fun _ z => nomatch z)) fun ⟨z, r⟩ => .inr ⟨z, s _ _ r fun _ z => nomatch z⟩
theorem TD.ext {α : Type} {enc : α → PyData} {H H' : Hp} {a : Addr} {rs : List (Str × α)} (g : GE enc) (s : ExtN H H') (h : TD enc K H a rs) : TD enc K H' a rs := by
  obtain ⟨kvs, e, t⟩ := h
  exact ⟨kvs, s _ _ e (fun _ z => nomatch z), t.stay g (tk_ext s)⟩
theorem NetAt.ext {C : Addr} {H H' : Hp} {x : Addr} {N : PlainD} (s : ExtN H H') (h : NetAt K C H x N) : NetAt K C H' x N := by
  obtain ⟨dx, la, wa, ba, ea, ra, h1, h2, h3, h4, ⟨ke, e5, t5⟩, ⟨kt, e6, t6⟩⟩ := h
  exact ⟨dx, la, wa, ba, ea, ra, s _ _ h1 (fun _ z => nomatch z), TD.ext ge_in s h2, TD.ext ge_wk s h3, TD.ext ge_bd s h4, ⟨ke, s _ _ e5 (fun _ z => nomatch z), tx_st t5⟩, ⟨kt, s _ _ e6 (fun _ z => nomatch z), t6.tk (tk_ext s)⟩⟩
end
/-- a net may be made without bounds -/
structure NetD (K : PySem.W.Frag) (dI : FuncData) (t0 : Addr) (ds : List Value) : Prop where
  b : Binds K dI ["self", "lasts", "works", "bounds"] ds
  d : Vals [.ref t0] ds
  e : ∀ H : Hp, SqT K H t0 []
/-- what stands while the words are told -/
structure LwJ (K : PySem.W.Frag) (C : Addr) (T : List (Addr × Str)) (x t : Addr) (H : Hp) : Prop where
  tb : Tabs T H
  net : NetAt K C H x N3
  row : H t = some (.tup (r4V w3))
theorem LwJ.ext {K : PySem.W.Frag} {C x t : Addr} {T : List (Addr × Str)} {H H' : Hp} (j : LwJ K C T x t H) (s : ExtN H H') (tb : Tabs T H') : LwJ K C T x t H' := ⟨tb, j.net.ext s, s _ _ j.row fun _ z => nomatch z⟩
theorem LwJ.same {K : PySem.W.Frag} {C x t : Addr} {T : List (Addr × Str)} {H H' : Hp} (j : LwJ K C T x t H) (s : Same H H') : LwJ K C T x t H' := j.ext (Same.extN s) (DW.Tabs.same j.tb s)
section
variable {K : PySem.W.Frag} {C CE CO CW x t : Addr} {T : List (Addr × Str)} {σ : L2.St} {H G : Hp} {Q R : VK}
theorem rd_lam {te : XK → TE} {w : Str} (j : LwJ K C T x t H) (h : ∀ (G : Hp) (R : VK), LwJ K C T x t G → (∀ G', Same G G' → R (.str w) G') → te (eWd K CE CW CO R) σ G (fun _ G' => R (.str "none") G')) (k : ∀ G, LwJ K C T x t G → ExtN H G → Q (.str w) G) : tLam T (TWd K CE CW CO) te σ H Q :=
  ⟨j.tb, fun G e t1 => h G Q (j.ext e t1) fun G' s => k G' ((j.ext e t1).same s) (e.trans (Same.extN s))⟩
abbrev spM (K : PySem.W.Frag) (C CE CO CW : Addr) (vs : List V) (G : Hp) (R : VK) : Prop := spMdE K C CE CO CW vs G (fun _ G' => R (.str "none") G') (eWd K CE CW CO R)
theorem vn {D : PlainD} : RowV2 K G D .non none := .inr (.inl ⟨.none, .base .non rfl, trivial, rfl⟩)
theorem md_1 (ex : ExW K CE CW CO) (j : LwJ K C T x t G) (r : ∀ G', Same G G' → R (.str "row") G') : spM K C CE CO CW [.ref x, .str "sure", .ref t, .ref t] G R :=
  ⟨.ref x, .str "sure", .ref t, .ref t, rfl, .inr ⟨x, N3, rfl, j.net, ok3, .inr ⟨.sure, some w3, rfl, ⟨t, rfl, j.row, w3_ok⟩, .inr ⟨rfl, false, (fun z => by cases z), (fun _ => by rw [decide_eq_false]; exact fun z => by cases z), (fun z => by cases z), fun _ G' s => ex.w (r G' s)⟩⟩⟩⟩
theorem md_2 (ex : ExW K CE CW CO) (j : LwJ K C T x t G) (r : ∀ G', Same G G' → R (.str "row") G') : spM K C CE CO CW [.ref x, .str "late", .ref t, .non] G R :=
  ⟨.ref x, .str "late", .ref t, .non, rfl, .inr ⟨x, N3, rfl, j.net, ok3, .inr ⟨.late, some w3, rfl, ⟨t, rfl, j.row, w3_ok⟩, .inr ⟨rfl, false, (fun _ => ⟨none, vn, rfl⟩), (fun z => by cases z), (fun z => by cases z), fun _ G' s => ex.w (r G' s)⟩⟩⟩⟩
theorem md_3 (ex : ExW K CE CW CO) (j : LwJ K C T x t G) (r : ∀ G', Same G G' → R (.str "none") G') : spM K C CE CO CW [.ref x, .str "late", .ref t, .ref t] G R :=
  ⟨.ref x, .str "late", .ref t, .ref t, rfl, .inr ⟨x, N3, rfl, j.net, ok3, .inr ⟨.late, some w3, rfl, ⟨t, rfl, j.row, w3_ok⟩, .inr ⟨rfl, true, (fun _ => ⟨some w3, ⟨t, rfl, j.row, w3_ok⟩, rfl⟩), (fun z => by cases z), (fun _ u G' s => r G' s), fun z => by cases z⟩⟩⟩⟩
theorem md_4 (ex : ExW K CE CW CO) (KN : ∀ t ∈ (["NoneType", "int", "tuple", "dict", "list", "str"] : List String), PySem.W.kitOne K (.type t) (.ref C) = some false) (r : ∀ G', Same G G' → R (.str "net") G') : spM K C CE CO CW [.non, .non, .non, .non] G R :=
  ⟨.non, .non, .non, .non, rfl, .inl ⟨(NnV.non (D := C)).not KN, fun G' s => ex.e (r G' s)⟩⟩
theorem md_5 (ex : ExW K CE CW CO) (j : LwJ K C T x t G) (r : ∀ G', Same G G' → R (.str "operation") G') : spM K C CE CO CW [.ref x, .non, .non, .non] G R :=
  ⟨.ref x, .non, .non, .non, rfl, .inr ⟨x, N3, rfl, j.net, ok3, .inl ⟨⟨.none, .base .non rfl, oddRl_sh .none (by simp [oddRl])⟩, fun G' s => ex.o (r G' s)⟩⟩⟩
theorem md_6 (ex : ExW K CE CW CO) (j : LwJ K C T x t G) (r : ∀ G', Same G G' → R (.str "row") G') : spM K C CE CO CW [.ref x, .str "sure", .non, .int 0] G R :=
  ⟨.ref x, .str "sure", .non, .int 0, rfl, .inr ⟨x, N3, rfl, j.net, ok3, .inr ⟨.sure, none, rfl, vn, .inl ⟨rfl, fun G' s => ex.w (r G' s)⟩⟩⟩⟩
theorem cv_7 {u : Addr} (ex : ExW K CE CW CO) (j : LwJ K C T x t G) (hu : G u = some (.tup (r4V e3))) (r : ∀ G', Same G G' → R (.str "row") G') : spCvE K C CE CW [.ref x, .ref u, .ref t] G (fun _ G' => R (.str "none") G') (eWd K CE CW CO R) :=
  ⟨.ref x, .ref u, .ref t, rfl, .inr ⟨x, N3, none, some w3, rfl, j.net, ok3, .inr (.inl ⟨r4D e3, dd_r4 hu, fit_r4 e3, e3_no.symm⟩), ⟨t, rfl, j.row, w3_ok⟩, (fun z => by cases z), fun _ G' s => ex.w (r G' s)⟩⟩
theorem cv_8 {E : XK} (j : LwJ K C T x t G) (r : ∀ G', Same G G' → R (.str "none") G') : spCvE K C CE CW [.ref x, .ref t, .ref t] G (fun _ G' => R (.str "none") G') E :=
  ⟨.ref x, .ref t, .ref t, rfl, .inr ⟨x, N3, some w3, some w3, rfl, j.net, ok3, ⟨t, rfl, j.row, w3_ok⟩, ⟨t, rfl, j.row, w3_ok⟩, (fun _ b G' s => r G' s), fun z => by cases z⟩⟩
end
section
variable {P : Program} {w : World} {K : PySem.W.Frag} {mg : Str → Option Value} {base : Heap}
theorem ok_law {T : List (Addr × Str)} {f c Pt fD fR fDr fMr fOr fM fI fC fW t0 C CE CO CW : Addr} {fd dD dR dDr dMr dOr dM dI dC dW : FuncData} {ds ds3 : List Value} (F : Fun K "law" "law" s_law f fd) (tk : TkS K base mg T "law" "law" s_law f c Pt)
    (CD : Cal P w K mg base 1 "_law_dice" ["script", "spot"] (spDice K) fD dD) (CR : Cal P w K mg base 1 "_law_roll" ["dice", "total"] spRoll fR dR) (DR : Cal P w K mg base 3 "_law_nt_drawn" ["dice", "deeds", "works", "most", "horizon", "looks"] (spDr K) fDr dDr)
    (MR : CalG P w K mg base 9 "_law_made_right" ["dice", "plain", "net"] (spMr2 K C T) fMr dMr) (OR : CalG P w K mg base 11 "_law_others_right" ["dice", "plain", "net"] (spOr K C T) fOr dOr) (MK : NetM P w K mg base C fI dI) (ND : NetD K dI t0 ds3) (MD : MdX P w K mg base C CE CO CW fM dM ds) (CV : CalR P w K mg base 6 "covers" ["net", "row", "other"] (spCvE K C CE CW) fC dC)
    (W : WdK P w K mg base CE CW CO fW dW) (ex : ExW K CE CW CO) (KN : ∀ t ∈ (["NoneType", "int", "tuple", "dict", "list", "str"] : List String), PySem.W.kitOne K (.type t) (.ref C) = some false)
    (zL : mg "len" = none) (zM : mg "max" = none) (zN : mg "min" = none) (zR : mg "range" = none) : FnG P w K mg base 12 f fd ["script"] (spLaw K T) := by
  obtain ⟨ocM, odM, kVM, docM, pmM, anM, cdM, ctM, oslM, edW, lkM, hcdM⟩ := W.F.ex
  obtain ⟨CY, hY⟩ := W.hY
  refine fngL F scLw (fun vs H Q h => ?_) (fun cdv A outer s H vs Q hlk hr hgu h => ?_)
  · obtain ⟨a, ns, rfl, _⟩ := h
    rfl
  obtain ⟨oc, od, kV, doc, pm, an, ct, osl, lk⟩ := hlk
  obtain rfl := tk.code _ _ _ _ _ _ _ _ _ lk
  obtain ⟨a, ns, rfl, hS, hlen, tb, k⟩ := h
  subst edW
  refine ⟨_, C8.pss_cut (ps_for PassesOwn.never rfl (pi_range1 rfl zR (pa_cons (pe_callB (call_max2 rfl) (by rfl) zM (by decide +kernel) (pa_cons pe_int (pa_cons (pe_callB (call_min2 rfl) (by rfl) zN (by decide +kernel) (pa_cons pe_int (pa_cons (pe_callB call_len_seq (by rfl) zL PySem.boot_len (pa_cons (pv 0) pa_nil)) pa_nil))) pa_nil))) pa_nil)) (pg_name (i := 1) scLw.nd rfl (Or.inl rfl))
      (pss_cons (ps_set (i := 2) scLw.nd rfl (Or.inl rfl) (pe_cal (E := E0) CD hr rfl (pa_cons (pv 0) (pa_cons (pv 1) pa_nil))))
      (C8.pss_cut (ps_set (i := 3) scLw.nd rfl (Or.inl rfl) (pe_cal (E := E0) DR hr rfl (pa_cons (pv 2) (pa_cons (pe_op op_add pe_int (pe_cal (E := E0) CR hr rfl (pa_cons (pv 2) (pa_cons pe_int pa_nil)))) (pa_cons (pe_op op_add pe_int (pe_cal (E := E0) CR hr rfl (pa_cons (pv 2) (pa_cons pe_int pa_nil)))) (pa_cons pe_int (pa_cons pe_int
            (pa_cons (pe_cmpR op_gt (pe_cal (E := E0) CR hr rfl (pa_cons (pv 2) (pa_cons pe_int pa_nil))) pe_int (nomark _)) pa_nil))))))))
      (C8.pss_cut (ps_set (i := 5) scLw.nd rfl (Or.inr rfl) (pe_make (E := E0) (dvs := []) MK.M MK.G (hr.mono (by decide)) rfl MK.g MK.b .nil pass0 (pa_cons (pe_ix (r := rIxL K) ix_list (pv 3) pe_int (fun _ _ => rfl)) (pa_cons (pe_ix (r := rIxL K) ix_list (pv 3) pe_int (fun _ _ => rfl)) (pa_cons (pe_ix (r := rIxL K) ix_list (pv 3) pe_int (fun _ _ => rfl)) pa_nil)))))
      (pss_one (ps_if (PW.pt (pw_or (pt_not (pt_val (pe_g MR.G (hr.mono (by decide)) hgu rfl MR.g MR.kp MR.b (pa_cons (pv 2) (pa_cons (pv 3) (pa_cons (pv 5) pa_nil)))))) (pw_or1 (pt_not (pt_val (pe_g OR.G hr hgu rfl OR.g OR.kp OR.b (pa_cons (pv 2) (pa_cons (pv 3) (pa_cons (pv 5) pa_nil))))))))) (pss_one (ps_ret pe_bl)) pss_nil))))))
    (C8.pss_cut (ps_set (i := 5) scLw.nd rfl (Or.inr rfl) (pe_make (E := E0) (dvs := [.ref t0]) MK.M MK.G (hr.mono (by decide)) rfl MK.g ND.b ND.d pass0 (pa_cons (pe_disp (pps_cons pe_str pe_int (pps_cons pe_str pe_int pps_nil)) (by rfl) (by rfl) (fun z => by cases z) (by decide))
        (pa_cons (pe_disp (pps_cons pe_str (pe_tup (pa_cons pe_str (pa_cons pe_str (pa_cons pe_int (pa_cons pe_int (pa_cons pe_int pa_nil)))))) pps_nil) (by rfl) (by rfl) (fun z => by cases z) (by decide)) pa_nil))))
    (C8.pss_cut (ps_set (i := 6) scLw.nd rfl (Or.inr rfl) (pe_tup (pa_cons pe_str (pa_cons pe_str (pa_cons pe_str (pa_cons pe_int pa_nil))))))
    (C8.pss_cut (ps_set (i := 4) scLw.nd rfl (Or.inl rfl) (pe_lst (pa_cons (pe_lamcallG (k := 9) (T := T) (Ng := ["call"]) (TT := TWd K CE CW CO) (t := fun E => tCallN 3 (["other"] : List Str).length (spMdE K C CE CO CW) (fun vs zs => vs ++ zs) E (tCons (tVar 5) (tCons (tC (.str "sure")) (tCons (tVar 6) tNil))) (tCons (tVar 6) tNil)) rfl W.g W.kp hgu lkM hcdM W.b scWd rfl (.inl rfl) (wd_gives W.hE W.hW W.hO hY) tk.tb rfl tk.mem tk.un hr (lamS_by (by rfl)) rfl (fun _ _ _ _ _ => rfl)
            (fun A outer s H E f c' hr2 hg2 => pe_callN (E := E) MD.G (hr2.mono (by decide)) rfl MD.g MD.kp MD.kb (passE (takes_of rfl rfl rfl rfl)) (pa_cons (pv 5) (pa_cons pe_str (pa_cons (pv 6) pa_nil))) (pk_cons (pv 6) pk_nil))) (pa_cons (pe_lamcallG (k := 9) (T := T) (Ng := ["call"]) (TT := TWd K CE CW CO) (t := fun E => tCall (spMdE K C CE CO CW) [V.non] E (tCons (tVar 5) (tCons (tC (.str "late")) (tCons (tVar 6) tNil)))) rfl W.g W.kp hgu lkM hcdM W.b scWd rfl (.inl rfl) (wd_gives W.hE W.hW W.hO hY) tk.tb rfl tk.mem tk.un hr (lamS_by (by rfl)) rfl (fun _ _ _ _ _ => rfl)
            (fun A outer s H E f c' hr2 hg2 => pe_call (E := E) MD.G (hr2.mono (by decide)) rfl MD.g MD.kp MD.b MD.d (passE (takes_of rfl rfl rfl rfl)) (pa_cons (pv 5) (pa_cons pe_str (pa_cons (pv 6) pa_nil))))) pa_nil))))
    (C8.pss_cut (ps_set (i := 4) scLw.nd rfl (Or.inl rfl) (pe_op op_cat (pv 4) (pe_lst (pa_cons (pe_lamcallG (k := 9) (T := T) (Ng := ["call"]) (TT := TWd K CE CW CO) (t := fun E => tCallN 3 (["other"] : List Str).length (spMdE K C CE CO CW) (fun vs zs => vs ++ zs) E (tCons (tVar 5) (tCons (tC (.str "late")) (tCons (tVar 6) tNil))) (tCons (tVar 6) tNil)) rfl W.g W.kp hgu lkM hcdM W.b scWd rfl (.inl rfl) (wd_gives W.hE W.hW W.hO hY) tk.tb rfl tk.mem tk.un hr (lamS_by (by rfl)) rfl (fun _ _ _ _ _ => rfl)
            (fun A outer s H E f c' hr2 hg2 => pe_callN (E := E) MD.G (hr2.mono (by decide)) rfl MD.g MD.kp MD.kb (passE (takes_of rfl rfl rfl rfl)) (pa_cons (pv 5) (pa_cons pe_str (pa_cons (pv 6) pa_nil))) (pk_cons (pv 6) pk_nil))) (pa_cons (pe_lamcallG (k := 9) (T := T) (Ng := ["call"]) (TT := TWd K CE CW CO) (t := fun E => tCall (spMdE K C CE CO CW) [V.non] E (tCons (tC .non) (tCons (tC .non) (tCons (tC .non) tNil)))) rfl W.g W.kp hgu lkM hcdM W.b scWd rfl (.inl rfl) (wd_gives W.hE W.hW W.hO hY) tk.tb rfl tk.mem tk.un hr (lamS_by (by rfl)) rfl (fun _ _ _ _ _ => rfl)
            (fun A outer s H E f c' hr2 hg2 => pe_call (E := E) MD.G (hr2.mono (by decide)) rfl MD.g MD.kp MD.b MD.d (passE (takes_of rfl rfl rfl rfl)) (pa_cons pe_non (pa_cons pe_non (pa_cons pe_non pa_nil))))) pa_nil)))))
    (C8.pss_cut (ps_set (i := 4) scLw.nd rfl (Or.inl rfl) (pe_op op_cat (pv 4) (pe_lst (pa_cons (pe_lamcallG (k := 9) (T := T) (Ng := ["call"]) (TT := TWd K CE CW CO) (t := fun E => tCall (spMdE K C CE CO CW) [V.non] E (tCons (tVar 5) (tCons (tC .non) (tCons (tC .non) tNil)))) rfl W.g W.kp hgu lkM hcdM W.b scWd rfl (.inl rfl) (wd_gives W.hE W.hW W.hO hY) tk.tb rfl tk.mem tk.un hr (lamS_by (by rfl)) rfl (fun _ _ _ _ _ => rfl)
            (fun A outer s H E f c' hr2 hg2 => pe_call (E := E) MD.G (hr2.mono (by decide)) rfl MD.g MD.kp MD.b MD.d (passE (takes_of rfl rfl rfl rfl)) (pa_cons (pv 5) (pa_cons pe_non (pa_cons pe_non pa_nil))))) (pa_cons (pe_lamcallG (k := 9) (T := T) (Ng := ["call"]) (TT := TWd K CE CW CO) (t := fun E => tCallN 3 (["other"] : List Str).length (spMdE K C CE CO CW) (fun vs zs => vs ++ zs) E (tCons (tVar 5) (tCons (tC (.str "sure")) (tCons (tC .non) tNil))) (tCons (tC (.int 0)) tNil)) rfl W.g W.kp hgu lkM hcdM W.b scWd rfl (.inl rfl) (wd_gives W.hE W.hW W.hO hY) tk.tb rfl tk.mem tk.un hr (lamS_by (by rfl)) rfl (fun _ _ _ _ _ => rfl)
            (fun A outer s H E f c' hr2 hg2 => pe_callN (E := E) MD.G (hr2.mono (by decide)) rfl MD.g MD.kp MD.kb (passE (takes_of rfl rfl rfl rfl)) (pa_cons (pv 5) (pa_cons pe_str (pa_cons pe_non pa_nil))) (pk_cons pe_int pk_nil))) pa_nil)))))
    (C8.pss_cut (ps_set (i := 4) scLw.nd rfl (Or.inl rfl) (pe_op op_cat (pv 4) (pe_lst (pa_cons (pe_lamcallG (k := 9) (T := T) (Ng := ["call"]) (TT := TWd K CE CW CO) (t := fun E => tCall (spCvE K C CE CW) [] E (tCons (tVar 5) (tCons (tTup (tCons (tC (.str "wait")) (tCons (tC (.str "e")) (tCons (tC (.str "u")) (tCons (tC (.int 2)) tNil))))) (tCons (tVar 6) tNil)))) rfl W.g W.kp hgu lkM hcdM W.b scWd rfl (.inl rfl) (wd_gives W.hE W.hW W.hO hY) tk.tb rfl tk.mem tk.un hr (lamS_by (by rfl)) rfl (fun _ _ _ _ _ => rfl)
            (fun A outer s H E f c' hr2 hg2 => pe_calR (E := E) CV hr2 (takes_of rfl rfl rfl rfl) rfl (pa_cons (pv 5) (pa_cons (pe_tup (pa_cons pe_str (pa_cons pe_str (pa_cons pe_str (pa_cons pe_int pa_nil))))) (pa_cons (pv 6) pa_nil))))) (pa_cons (pe_lamcallG (k := 9) (T := T) (Ng := ["call"]) (TT := TWd K CE CW CO) (t := fun E => tCall (spCvE K C CE CW) [] E (tCons (tVar 5) (tCons (tVar 6) (tCons (tVar 6) tNil)))) rfl W.g W.kp hgu lkM hcdM W.b scWd rfl (.inl rfl) (wd_gives W.hE W.hW W.hO hY) tk.tb rfl tk.mem tk.un hr (lamS_by (by rfl)) rfl (fun _ _ _ _ _ => rfl)
            (fun A outer s H E f c' hr2 hg2 => pe_calR (E := E) CV hr2 (takes_of rfl rfl rfl rfl) rfl (pa_cons (pv 5) (pa_cons (pv 6) (pa_cons (pv 6) pa_nil))))) pa_nil)))))
    (pss_one (ps_ret (pe_cmpR (op_eqD hr.units) (pv 4) (pe_lst (pa_cons pe_str (pa_cons pe_str (pa_cons pe_str (pa_cons pe_str (pa_cons pe_str (pa_cons pe_str (pa_cons pe_str (pa_cons pe_str pa_nil))))))))) (nomark _)))))))))), ?_⟩
  have bd : ∀ j : Int, (if (if j < 6 then j else 6) > 1 then (if j < 6 then j else 6) else 1) ≤ 6 ∧ 1 ≤ (if (if j < 6 then j else 6) > 1 then (if j < 6 then j else 6) else 1) := fun j => by
    split <;> split <;> constructor <;> omega
  -- the drawn nets
  refine ⟨fun σ' H' => (∃ x1 x2 x3 x4 x5 x6, σ' = [some (.ref a), x1, x2, x3, x4, x5, x6]) ∧ Tabs T H', ?_, ?_⟩
  · refine ⟨_, rfl, a, _, rfl, .inl hS, _, _, rfl, _, _, rfl, _, rfl, ?_, ?_, ?_⟩
    · have z := (bd ((ns.map V.int).length : Nat)).2
      omega
    · have z := (bd ((ns.map V.int).length : Nat)).1
      omega
    have top6 : (if (if (((ns.map V.int).length : Nat) : Int) < 6 then (((ns.map V.int).length : Nat) : Int) else 6) > 1 then (if (((ns.map V.int).length : Nat) : Int) < 6 then (((ns.map V.int).length : Nat) : Int) else 6) else 1).toNat ≤ 6 := by
      have z := (bd ((ns.map V.int).length : Nat)).1
      omega
    generalize (if (if (((ns.map V.int).length : Nat) : Int) < 6 then (((ns.map V.int).length : Nat) : Int) else 6) > 1 then (if (((ns.map V.int).length : Nat) : Int) < 6 then (((ns.map V.int).length : Nat) : Int) else 6) else 1).toNat = many at top6 ⊢
    refine for_range (lo := 0) (n := many) (fun i σ H' => ExtN H H' ∧ Tabs T H' ∧ ∃ x1 x2 x3 x4 x5 x6, σ = [some (.ref a), x1, x2, x3, x4, x5, x6]) ⟨ExtN.refl H, tb, _, _, _, _, _, _, rfl⟩ ?_ ?_
    · rintro i _ H1 hi ⟨e1, t1, x1, x2, x3, x4, x5, x6, rfl⟩
      refine ⟨_, rfl, _, rfl, a, ns, _, rfl, sqL_ext e1 hS, by omega, by omega, fun D d0 d1 nD => ?_⟩
      have s1 := same_new (o := .lst [.int d0, .int d1, .int 0]) nD
      have t2 := DW.Tabs.same t1 s1
      have c2 : Dc (upd H1 D (.lst [.int d0, .int d1, .int 0])) D := ⟨d0, d1, 0, upd_same⟩
      generalize upd H1 D (.lst [.int d0, .int d1, .int 0]) = H2 at s1 t2 c2 ⊢
      -- drawn
      refine ⟨fun σ' H' => ∃ pl N, σ' = [some (.ref a), some (.int (0 + (i : Nat))), some (.ref D), some (.ref pl), x4, x5, x6] ∧ But D H2 H' ∧ Dc H' D ∧ pl ≠ D ∧ PlainAt K H' pl N ∧ OkN N ∧ N.W ≠ [] ∧ NoZ N, ?_, ?_⟩
      · obtain ⟨d0, d1, d2, eD⟩ := id c2
        refine ⟨_, rfl, _, rfl, D, d0, d1, d2, 2, rfl, eD, by decide, by decide, fun r1 f0 f2 a0 a1 => ⟨_, _, rfl, rfl, ?_⟩⟩
        have c3 : But D H2 (upd H2 D (.lst [.int f0, .int d1, .int f2])) := But.upd
        have eD3 : (upd H2 D (.lst [.int f0, .int d1, .int f2])) D = some (.lst [.int f0, .int d1, .int f2]) := upd_same
        generalize upd H2 D (.lst [.int f0, .int d1, .int f2]) = G3 at c3 eD3 ⊢
        refine ⟨_, rfl, D, f0, d1, f2, 3, rfl, eD3, by decide, by decide, fun r2 g0 g2 a2 a3 => ⟨_, _, rfl, rfl, ?_⟩⟩
        have c4 : But D G3 (upd G3 D (.lst [.int g0, .int d1, .int g2])) := But.upd
        have eD4 : (upd G3 D (.lst [.int g0, .int d1, .int g2])) D = some (.lst [.int g0, .int d1, .int g2]) := upd_same
        generalize upd G3 D (.lst [.int g0, .int d1, .int g2]) = G4 at c4 eD4 ⊢
        refine ⟨_, rfl, D, g0, d1, g2, 2, rfl, eD4, by decide, by decide, fun r3 h0 h2 a4 a5 => ⟨_, _, rfl, rfl, ?_⟩⟩
        have c5 : But D G4 (upd G4 D (.lst [.int h0, .int d1, .int h2])) := But.upd
        have eD5 : (upd G4 D (.lst [.int h0, .int d1, .int h2])) D = some (.lst [.int h0, .int d1, .int h2]) := upd_same
        generalize upd G4 D (.lst [.int h0, .int d1, .int h2]) = G5 at c5 eD5 ⊢
        obtain ⟨n1, rfl⟩ : ∃ n : Nat, r1 = n := ⟨r1.toNat, by omega⟩
        obtain ⟨n2, rfl⟩ : ∃ n : Nat, r2 = n := ⟨r2.toNat, by omega⟩
        refine ⟨D, 1 + n1, 1 + n2, 5, 9, _, by rw [Int.natCast_add, Int.natCast_add]; rfl, ⟨_, _, _, eD5⟩, by omega, by omega, by omega, by omega, by omega, by omega, fun pl N H' plain dr b hD' npl => ⟨pl, N, rfl, ((c3.trans c4).trans c5).trans b, hD', npl, plain, dr.ok, fun z => ?_, no_z dr⟩⟩
        have q := dr.lw
        rw [z] at q
        have q2 : (0 : Nat) = 1 + n2 := q
        omega
      rintro _ H3 ⟨pl, N, rfl, b3, c3, npl, plain, ok, Wne, nz⟩
      -- net
      refine ⟨fun σ' H' => ∃ x, σ' = [some (.ref a), some (.int (0 + (i : Nat))), some (.ref D), some (.ref pl), x4, some (.ref x), x6] ∧ Same H3 H' ∧ NetAt K C H' x (sortN N), ?_, ?_⟩
      · obtain ⟨ta, tb', tc, hp, hta, htb, htc⟩ := id plain
        refine ⟨_, rfl, pl, _, 0, _, rfl, rfl, SqL.of hp, atI_nat (j := 0) rfl, _, rfl, pl, _, 1, _, rfl, rfl, SqL.of hp, atI_nat (j := 1) rfl, _, rfl, pl, _, 2, _, rfl, rfl, SqL.of hp, atI_nat (j := 2) rfl, ?_⟩
        intro y dy ny ndy ne
        have sN : Same H3 (upd (upd H3 dy (.own y)) y (.ins C dy [])) := fun e o z => by rw [upd_ne (ne_of_none z ny), upd_ne (ne_of_none z ndy)]; exact z
        refine ⟨y, dy, ta, .ref tb', .ref tc, N, rfl, upd_same, hta.same sN, .inl ⟨tb', rfl, htb.same sN⟩, .inl ⟨tc, rfl, htc.same sN⟩, ok, fun H4 b4 net => ⟨rfl, y, rfl, fun e o z => b4 _ _ (ne_of_none z ny) (sN _ _ z), net⟩⟩
      rintro _ H4 ⟨x, rfl, s4, net⟩
      have c4 := c3.same s4
      have plain4 := plain.same s4
      have t4 : Tabs T H4 := DW.Tabs.same (tabs_but c2 b3 t2) s4
      refine ⟨_, rfl, _, rfl, _, rfl, D, pl, x, N, rfl, c4, npl, plain4, ok, Wne, nz, net, t4, fun H6 b6 c6 t6 => ⟨true, rfl, iteF ⟨_, rfl, _, rfl, _, rfl, D, pl, x, N, rfl, c6, npl, PlainAt.butN c4 b6 npl plain4, ok, Wne, nz, NetAt.butN c4 b6 net, t6, fun H7 b7 c7 t7 => ⟨true, rfl, iteF ?_⟩⟩⟩⟩
      have bb : ButN D H2 H7 := (But.butN (b3.trans (Same.but s4))).trans (b6.trans b7)
      exact ⟨fun b o e n => bb b o (ne_of_none (e1 b o e n) nD) (s1 _ _ (e1 b o e n)) n, t7, _, _, _, _, _, _, rfl⟩
    · rintro _ H1 ⟨_, t1, x1, x2, x3, x4, x5, x6, rfl⟩
      exact ⟨⟨_, _, _, _, _, _, rfl⟩, t1⟩
  rintro σ1 H1 ⟨⟨x1, x2, x3, x4, x5, x6, rfl⟩, t1⟩
  -- the written net
  refine ⟨fun σ' H' => ∃ x : Addr, σ' = [some (.ref a), x1, x2, x3, x4, some (.ref x), x6] ∧ Tabs T H' ∧ NetAt K C H' x N3, ?_, ?_⟩
  · refine fun p np => ⟨upd_same, [(.inr "a", .int 9), (.inr "e", .int 9)], rfl, by decide, ?_⟩
    rw [merge_nil (by show ([.inr "a", .inr "e"] : List Key).Nodup; decide +kernel)]
    have tL : TD inD K (upd (upd H1 p (.dK [])) p (.dK [(.inr "a", .int 9), (.inr "e", .int 9)])) p L3 := ⟨_, upd_same, .cons ⟨rfl, .int _⟩ (.cons ⟨rfl, .int _⟩ .nil)⟩
    have sP := same_mut (o := .dK [(.inr "a", .int 9), (.inr "e", .int 9)]) (same_new (o := .dK []) np) np
    generalize upd (upd H1 p (.dK [])) p (.dK [(.inr "a", .int 9), (.inr "e", .int 9)]) = G at tL sP ⊢
    refine fun q nq => ⟨by show 5 ≤ sizeLine; decide, fun t nt => ?_⟩
    have sq := same_new (o := .dK []) nq
    have st := same_new (o := .tup [.str "dawn", .str "e", .int 1, .int 3, .int 0]) nt
    refine ⟨st _ _ upd_same, [(.inr "u", .ref t)], rfl, by show 1 ≤ 15; decide, ?_⟩
    rw [merge_nil (by show ([.inr "u"] : List Key).Nodup; decide +kernel)]
    have tq : t ≠ q := (ne_of_none (upd_same (H := G) (a := q) (o := .dK [])) nt).symm
    have sQ := same_mut (o := .dK [(.inr "u", .ref t)]) (sq.trans st) nq
    have tW : TD wkD K (upd (upd (upd G q (.dK [])) t (.tup [.str "dawn", .str "e", .int 1, .int 3, .int 0])) q (.dK [(.inr "u", .ref t)])) q W3 :=
      ⟨_, upd_same, .cons ⟨rfl, .tup (SqT.of (by rw [upd_ne tq]; exact upd_same)) (.cons (.str _) (.cons (.str _) (.cons (.int _) (.cons (.int _) (.cons (.int _) .nil)))))⟩ .nil⟩
    generalize upd (upd (upd G q (.dK [])) t (.tup [.str "dawn", .str "e", .int 1, .int 3, .int 0])) q (.dK [(.inr "u", .ref t)]) = G2 at sQ tW ⊢
    intro y dy ny ndy ne
    have sN : Same G2 (upd (upd G2 dy (.own y)) y (.ins C dy [])) := fun e o z => by rw [upd_ne (ne_of_none z ny), upd_ne (ne_of_none z ndy)]; exact z
    refine ⟨y, dy, p, .ref q, .ref t0, N3, rfl, upd_same, (tL.same sQ).same sN, .inl ⟨q, rfl, tW.same sN⟩, .inr ⟨rfl, t0, rfl, ND.e _⟩, ok3, fun H4 b4 net => ⟨rfl, y, rfl, DW.Tabs.same t1 (sP.trans (sQ.trans fun e o z => b4 _ _ (ne_of_none z ny) (sN _ _ z))), by rw [← so3]; exact net⟩⟩
  rintro _ H2 ⟨x, rfl, t2, net⟩
  refine ⟨fun σ' H' => ∃ t : Addr, σ' = [some (.ref a), x1, x2, x3, x4, some (.ref x), some (.ref t)] ∧ LwJ K C T x t H', ⟨by show 4 ≤ sizeLine; decide, fun t nt => ⟨t, rfl, DW.Tabs.same t2 (same_new nt), net.same (same_new nt), upd_same⟩⟩, ?_⟩
  clear net
  rintro _ H3 ⟨t, rfl, j3⟩
  -- told
  refine ⟨fun σ' H' => ∃ p : Addr, σ' = [some (.ref a), x1, x2, x3, some (.ref p), some (.ref x), some (.ref t)] ∧ LwJ K C T x t H' ∧ H' p = some (.lst (([("row" : Str), "row"] : List Str).map V.str)), ?_, ?_⟩
  · refine rd_lam j3 (w := "row") (fun G R j r => ⟨_, rfl, _, rfl, _, rfl, rfl, rfl, md_1 ex j r⟩) fun G1 k1 _ => ?_
    refine rd_lam k1 (w := "row") (fun G R j r => ⟨_, rfl, _, rfl, md_2 ex j r⟩) fun G2 k2 _ => ?_
    exact ⟨by show 2 ≤ sizeLine; decide, fun p np => ⟨p, rfl, k2.same (same_new np), upd_same⟩⟩
  clear j3
  rintro _ H4 ⟨p4, rfl, j4, hp4⟩
  refine ⟨fun σ' H' => ∃ p : Addr, σ' = [some (.ref a), x1, x2, x3, some (.ref p), some (.ref x), some (.ref t)] ∧ LwJ K C T x t H' ∧ H' p = some (.lst (([("row" : Str), "row", "none", "net"] : List Str).map V.str)), ?_, ?_⟩
  · refine ⟨_, rfl, ?_⟩
    refine rd_lam j4 (w := "none") (fun G R j r => ⟨_, rfl, _, rfl, _, rfl, rfl, rfl, md_3 ex j r⟩) fun G1 k1 e1 => ?_
    refine rd_lam k1 (w := "net") (fun G R j r => md_4 ex KN r) fun G2 k2 e2 => ?_
    refine ⟨by show 2 ≤ sizeLine; decide, fun q nq => ?_⟩
    have hq := same_new (o := .lst [V.str "none", V.str "net"]) nq
    exact ⟨p4, q, _, _, rfl, rfl, hq _ _ (e2 _ _ (e1 _ _ hp4 fun _ z => nomatch z) fun _ z => nomatch z), upd_same, by decide, fun c nc => ⟨c, rfl, (k2.same hq).same (same_new nc), upd_same⟩⟩
  clear j4 hp4
  rintro _ H5 ⟨p5, rfl, j5, hp5⟩
  refine ⟨fun σ' H' => ∃ p : Addr, σ' = [some (.ref a), x1, x2, x3, some (.ref p), some (.ref x), some (.ref t)] ∧ LwJ K C T x t H' ∧ H' p = some (.lst (([("row" : Str), "row", "none", "net", "operation", "row"] : List Str).map V.str)), ?_, ?_⟩
  · refine ⟨_, rfl, ?_⟩
    refine rd_lam j5 (w := "operation") (fun G R j r => ⟨_, rfl, md_5 ex j r⟩) fun G1 k1 e1 => ?_
    refine rd_lam k1 (w := "row") (fun G R j r => ⟨_, rfl, rfl, rfl, md_6 ex j r⟩) fun G2 k2 e2 => ?_
    refine ⟨by show 2 ≤ sizeLine; decide, fun q nq => ?_⟩
    have hq := same_new (o := .lst [V.str "operation", V.str "row"]) nq
    exact ⟨p5, q, _, _, rfl, rfl, hq _ _ (e2 _ _ (e1 _ _ hp5 fun _ z => nomatch z) fun _ z => nomatch z), upd_same, by decide, fun c nc => ⟨c, rfl, (k2.same hq).same (same_new nc), upd_same⟩⟩
  clear j5 hp5
  rintro _ H6 ⟨p6, rfl, j6, hp6⟩
  refine ⟨fun σ' H' => ∃ p : Addr, σ' = [some (.ref a), x1, x2, x3, some (.ref p), some (.ref x), some (.ref t)] ∧ LwJ K C T x t H' ∧ H' p = some (.lst (([("row" : Str), "row", "none", "net", "operation", "row", "row", "none"] : List Str).map V.str)), ?_, ?_⟩
  · refine ⟨_, rfl, ?_⟩
    refine rd_lam j6 (w := "row") (fun G R j r => ⟨_, rfl, by show 4 ≤ sizeLine; decide, fun u nu => ⟨_, rfl, cv_7 ex (j.same (same_new nu)) upd_same fun G' s => r G' ((same_new nu).trans s)⟩⟩) fun G1 k1 e1 => ?_
    refine rd_lam k1 (w := "none") (fun G R j r => ⟨_, rfl, _, rfl, _, rfl, cv_8 j r⟩) fun G2 k2 e2 => ?_
    refine ⟨by show 2 ≤ sizeLine; decide, fun q nq => ?_⟩
    have hq := same_new (o := .lst [V.str "row", V.str "none"]) nq
    exact ⟨p6, q, _, _, rfl, rfl, hq _ _ (e2 _ _ (e1 _ _ hp6 fun _ z => nomatch z) fun _ z => nomatch z), upd_same, by decide, fun c nc => ⟨c, rfl, (k2.same hq).same (same_new nc), upd_same⟩⟩
  clear j6 hp6
  rintro _ H7 ⟨p7, rfl, j7, hp7⟩
  refine ⟨_, rfl, by show 8 ≤ sizeLine; decide, fun q nq => ?_⟩
  refine eq_strs (ks := [("row" : Str), "row", "none", "net", "operation", "row", "row", "none"]) (ls := [("row" : Str), "row", "none", "net", "operation", "row", "row", "none"]) (same_new nq _ _ hp7) upd_same (by decide +kernel) (by decide +kernel) ?_
  rw [decide_eq_true rfl]
  exact k _
end
end LW
namespace DW
open PySem PySem.Spec PyProof.Rows L2 LamX
/-! ### the end for a promise that asks for tables, and that no repr is under way -/
section
variable {P : Program} {w : World} {K : PySem.W.Frag} {mg mb : Str → Option Value} {k : Nat} {fa a : Addr} {fd : FuncData} {x : Str} {sp : Sp} {s : Shared} {vs : List Value} {ns : List Int} {cs : List (Addr × Addr)}
abbrev tabO : Obj := { cls := .none, data := .fields #[] }
noncomputable def tabH (K : PySem.W.Frag) (a : Addr) (vs : List Value) (ns : List Int) (cs : List (Addr × Addr)) : Hp := fun b => if b ∈ cs.map (·.2) then some (.tbl #[]) else scrH K a vs ns b
theorem tab_in {b : Addr} (h : b ∈ cs.map (·.2)) : tabH K a vs ns cs b = some (.tbl #[]) := if_pos h
theorem tab_out {b : Addr} (h : b ∉ cs.map (·.2)) : tabH K a vs ns cs b = scrH K a vs ns b := if_neg h
theorem tab_has {b : Addr} {u : HO} (e : tabH K a vs ns cs b = some u) : (b ∈ cs.map (·.2) ∧ u = .tbl #[]) ∨ (b ∉ cs.map (·.2) ∧ scrH K a vs ns b = some u) := by
  by_cases h : b ∈ cs.map (·.2)
  · rw [tab_in h] at e
    exact .inl ⟨h, (Option.some.inj e).symm⟩
  · rw [tab_out h] at e
    exact .inr ⟨h, e⟩
theorem lawGT (KX : K.In s.heap) (hm : s.heap.Ns mainGlobals mg) (hb : s.heap.Ns builtinsNs mb) (hq : ∀ y : Str, y ≠ "__name__" → mb y = bootBuiltins y) (nl : s.heap.NoLimit) (hg : s.gens = #[]) (hT : ∀ p ∈ cs, s.heap.get? p.2 = some tabO) (nT : ∀ p ∈ cs, K.lookup p.2 = none)
    (cd : ∀ p ∈ cs, PySem.W.CodeHd s.heap p.1 p.2) (bmain : ∃ (bm : Addr) (ob : Obj), mg "__builtins__" = some (.ref bm) ∧ bm ≠ builtinsNs ∧ s.heap.get? bm = some ob ∧ ob.cls = .type "module" ∧ ob.dict = some builtinsNs ∧ ob.data = .plain)
    (ha : s.heap.get? a = some (scrO vs)) (hi : IntsAre vs ns) (hl : ns.length ≤ sizeLine) (hr : Room k callerA) (F : ∀ base : Heap, K.In base → (∀ p ∈ cs, TabB base mg p.1 p.2) → FnG P w K mg base k fa fd [x] sp) (hbind : ∀ (t : Shared) (u : Value), BindsTo t fd ⟨[u], []⟩ [(x, u)])
    (hsp : ∀ H : Hp, SqL K H a (ns.map V.int) → (∀ p ∈ cs, H p.2 = some (.tbl #[])) → sp [.ref a] H (fun v _ => v = .bl true) E0) :
    codeAny (model P w) callerA (.call (.ref fa) ⟨[.ref a], []⟩) (fun r s' => r = .ok (.ret (.bool true)) ∧ OldK s.heap s'.heap ∧ s'.os = s.os ∧ AllBare s'.gens) s := by
  have empty : ∀ {b : Addr}, b ∈ cs.map (·.2) → s.heap.get? b = some tabO := fun {b} h => by
    obtain ⟨p, hp, rfl⟩ := List.mem_map.mp h
    exact hT p hp
  have notK : ∀ {b : Addr}, b ∈ cs.map (·.2) → K.lookup b = none := fun {b} h => by
    obtain ⟨p, hp, rfl⟩ := List.mem_map.mp h
    exact nT p hp
  have mem : ∀ p ∈ cs, p.2 ∈ cs.map (·.2) := fun p hp => List.mem_map.mpr ⟨p, hp, rfl⟩
  have aOut : a ∉ cs.map (·.2) := fun h => by
    have z := (empty h).symm.trans ha
    have z' : Data.fields #[] = Data.seq vs.toArray _ := congrArg Obj.data (Option.some.inj z)
    cases z'
  have stay : ∀ {b : Addr} {o : Obj}, s.heap.get? b = some o → tabH K a vs ns cs b = none → (hidT s.heap (tabH K a vs ns cs)).get? b = some o := fun e n => hidT_get e n
  have plain : ∀ {b : Addr} {o : Obj}, s.heap.get? b = some o → o ≠ scrO vs → o ≠ tabO → tabH K a vs ns cs b = none := fun {b o} e n1 n2 => by
    rw [tab_out fun h => n2 (Option.some.inj (e.symm.trans (empty h)))]
    exact scr_out fun z => by
      rw [z.1, ha] at e
      exact n1 (Option.some.inj e).symm
  have byData : ∀ {b : Addr} {o : Obj}, s.heap.get? b = some o → o.data ≠ (scrO vs).data → o.data ≠ .fields #[] → tabH K a vs ns cs b = none := fun e n1 n2 => plain e (fun z => n1 (by rw [z])) fun z => n2 (by rw [z])
  have nsS : ∀ {b : Addr} {m : Str → Option Value}, s.heap.Ns b m → (hidT s.heap (tabH K a vs ns cs)).Ns b m := fun {b m} ⟨o, es, ep, e, d, r⟩ =>
    ⟨o, es, ep, stay e (byData e (fun z => by rw [d] at z; have z' : Data.dict es ep = Data.seq vs.toArray _ := z; cases z') fun z => by rw [d] at z; cases z), d, r⟩
  have KB : K.In (hidT s.heap (tabH K a vs ns cs)) := fun b o e => stay (KX b o e) (by
    rw [tab_out fun h => by rw [notK h] at e; cases e]
    exact scr_out fun z => by rw [z.1, z.2] at e; cases e)
  have md : Mod K mg (hidT s.heap (tabH K a vs ns cs)) := ⟨KB, nsS hm, ⟨mb, nsS hb, hq⟩, let ⟨c, h1, h2⟩ := nl; ⟨c, nsS h1, h2⟩⟩
  have hok : HOk P w (tabH K a vs ns cs) s.heap := fun b u e => by
    rcases tab_has e with ⟨h, rfl⟩ | ⟨h, e'⟩
    · exact empty h
    · obtain ⟨rfl, _, rfl⟩ := scr_in e'
      exact ⟨ha, by rw [List.length_map]; exact hl, vs, _, scr_vals hi, ha⟩
  have ev : Env0 P w K mg (hidT s.heap (tabH K a vs ns cs)) callerA [] s (tabH K a vs ns cs) :=
    ⟨rfl, md, fun b o e => of_hidT e, Nat.le_of_eq (hidT_size _ _), trivial, fun b z => absurd (show b ∈ ([] : List Addr) from z) (by simp), hok, .of_eq hg⟩
  have tabs : ∀ p ∈ cs, TabB (hidT s.heap (tabH K a vs ns cs)) mg p.1 p.2 := fun p hp => by
    refine ⟨?_, ?_, fun z => ?_⟩
    · obtain ⟨o, us, v1, v2, v3, v4, v5, v6, v7, e, c, d, g, rest⟩ := cd p hp
      refine ⟨o, us, v1, v2, v3, v4, v5, v6, v7, stay e (byData e (fun z => by rw [d] at z; have z' : Data.fields us = Data.seq vs.toArray _ := z; cases z') fun z => ?_), c, d, g, rest⟩
      rw [d] at z
      cases z
      simp at g
    · obtain ⟨bm, ob, m1, m2, m3, m4, m5, m6⟩ := bmain
      refine ⟨bm, ob, m1, m2, fun z => ?_, fun z => ?_, stay m3 (byData m3 (fun z => by rw [m6] at z; have z' : Data.plain = Data.seq vs.toArray _ := z; cases z') fun z => by rw [m6] at z; cases z), m4, m5, m6⟩
      · obtain ⟨o, es, ep, e, d, _⟩ := hm
        rw [z, e] at m3
        cases m3
        rw [d] at m6
        cases m6
      · rw [z, hT p hp] at m3
        cases m3
        cases m6
    · obtain ⟨o, es, ep, e, d, _⟩ := hm
      rw [z, hT p hp] at e
      cases e
      cases d
  have seq : SqL K (tabH K a vs ns cs) a (ns.map V.int) := by
    rcases scr_seq (K := K) KX ha hi hl with (z | ⟨o, z⟩) | z
    · exact .inl (.inl (by rw [tab_out aOut]; exact z))
    · exact .inl (.inr ⟨o, by rw [tab_out aOut]; exact z⟩)
    · exact .inr z
  have go := (F _ KB tabs).run callerA [] s (tabH K a vs ns cs) ⟨[.ref a], []⟩ [.ref a] [.ref a] _ hr rfl ev (hbind s (.ref a)) (Paired.cons rfl Paired.nil) (hsp _ seq fun p hp => tab_in (mem p hp))
  refine codeAny_mono go fun r s' h => ?_
  match r, h with
  | .ok (.ret u), ⟨v, H', os, bare, un, ok', rv, q⟩ =>
    cases (show v = V.bl true from q)
    cases (show u = Value.bool true from rv)
    have same : ∀ b o, b ∉ cs.map (·.2) → s.heap.get? b = some o → s'.heap.get? b = some o := fun b o out e => by
      cases z : tabH K a vs ns cs b with
      | none => exact un.keep b o e z (by intro y; exact absurd (show b ∈ ([] : List Addr) from y) (by simp)) (by simp)
      | some u =>
        rcases tab_has z with ⟨h, _⟩ | ⟨_, z'⟩
        · exact absurd h out
        · obtain ⟨rfl, _, rfl⟩ := scr_in z'
          obtain ⟨e1, _⟩ := ok' b _ (un.frzs b (scrO vs) _ z)
          rw [ha] at e
          cases e
          exact e1
    have grown : ∀ p ∈ cs, ∃ more : Array Value, s'.heap.get? p.2 = some { cls := .none, data := .fields more } := fun p hp => by
      obtain ⟨more, z⟩ := un.tbls p.2 #[] (tab_in (mem p hp))
      exact ⟨_, ok' p.2 _ z⟩
    refine ⟨rfl, ⟨fun b o e => ?_, fun b o e => ?_⟩, os, bare⟩
    · by_cases h : b ∈ cs.map (·.2)
      · obtain ⟨p, hp, rfl⟩ := List.mem_map.mp h
        obtain ⟨more, g⟩ := grown p hp
        rw [hT p hp] at e
        cases e
        exact .inr (.inl ⟨((cd p hp).tab (hT p hp)).isCodeTable, rfl, #[], more, rfl, by rw [Array.empty_append]; exact g⟩)
      · exact .inl (same b o h e)
    · by_cases h : b ∈ cs.map (·.2)
      · obtain ⟨p, hp, rfl⟩ := List.mem_map.mp h
        obtain ⟨more, g⟩ := grown p hp
        exact ⟨_, g⟩
      · exact ⟨o, same b o h e⟩
end
/-- what k_head leaves, from such a promise -/
theorem walkGT {l : PySem.W.OpenLaw} {n k : Nat} {q : Program} {loose : List Str} {XP : (Str → Option Value) → Heap → Prop} {YP : World → Heap → Prop} {d : DefRec} {K : Params → PySem.W.Frag} {x : Str} (hn : l.most = some n) (hz : n ≤ sizeLine)
    (hd : d.params.defaults = []) (hr : Room k callerA) (hY : ∀ (w : World) (h : Heap), YP w h → (K w.params).In h)
    (F : ∀ (w : World) (mg : Str → Option Value) (fa : Addr) (h : Heap), YP w h → (K w.params).In h → h.Ns mainGlobals mg → mg d.name = some (.ref fa) →
      ∃ (fd : FuncData) (cs : List (Addr × Addr)) (sp : Sp), (∀ p ∈ cs, h.get? p.2 = some tabO) ∧ (∀ p ∈ cs, (K w.params).lookup p.2 = none) ∧ (∀ p ∈ cs, PySem.W.CodeHd h p.1 p.2) ∧ (∀ (t : Shared) (u : Value), BindsTo t fd ⟨[u], []⟩ [(x, u)]) ∧
        (∀ (H : Hp) (a : Addr) (ns : List Int), ns.length ≤ n → SqL (K w.params) H a (ns.map V.int) → (∀ p ∈ cs, H p.2 = some (.tbl #[])) → sp [.ref a] H (fun v _ => v = .bl true) E0) ∧
        ∀ base : Heap, (K w.params).In base → (∀ p ∈ cs, TabB base mg p.1 p.2) → FnG l.prog w (K w.params) mg base k fa fd [x] sp) :
    PySem.W.WalkO q loose XP YP l.row.toRowW d [] (fun f vs => PySem.call f vs) := by
  refine Att.attach_call hn hd fun w _ s mg mb fa _ _ _ _ a vs ns G Y _ _ _ hmg ho hi hl hg => ?_
  have KX := hY w _ Y
  obtain ⟨fd, cs, sp, hT, nT, cd, hbind, hsp, hF⟩ := F w mg fa _ Y KX G.T.g hmg
  exact lawGT KX G.T.g G.T.b G.T.builtins G.T.nolimit hg hT nT cd G.T.bmain ho hi (Nat.le_trans hl hz) hr hF hbind fun H hS hH => hsp H a ns hl hS hH
end DW
namespace LW
open PySem PySem.Spec PyProof.Rows L2 DW LamX
def exkB (K : PySem.W.Frag) (C : Addr) : Bool :=
  PySem.W.keepIn K (.ref C) && ((PySem.W.clsIn K C).isSome && (PySem.W.hasDictIn K C && (PySem.W.findIn K (.ref C) "__getattribute__" == some (some (.builtin "BaseException.__getattribute__")) &&
  (PySem.W.findIn K (.ref C) "__getattr__" == some none && (PySem.W.findIn K (.ref C) "__setattr__" == some (some (.builtin "object.__setattr__")) &&
  ((PySem.W.findIn K (.ref C) "__str__" == some (some (.builtin "BaseException.__str__")) || PySem.W.findIn K (.ref C) "__str__" == some (some (.builtin "KeyError.__str__"))) &&
  (PySem.W.subIn K (.ref C) (.type "BaseException") == some true && (PySem.W.findIn K (.ref C) "__class__" == some (some (.builtin "object.__class__")) &&
  (PySem.W.specialIn K (.builtin "object.__class__") "__get__" == some (some (.builtin "getset_descriptor.__get__")) && (PySem.W.takesIn K (.builtin "object.__class__") == some true &&
  PySem.W.mroIn K C (.type "object") == some true))))))))))
theorem exk_of {K : PySem.W.Frag} {C : Addr} (h : exkB K C = true) : ExK K C := by
  unfold exkB at h
  simp only [Bool.and_eq_true, Bool.or_eq_true, beq_iff_eq] at h
  obtain ⟨a, b, c, d, e, f, g, i, j, k, l, m⟩ := h
  exact ⟨a, b, c, d, e, f, g, i, j, k, l, m⟩
def plB (K : PySem.W.Frag) (C : Addr) : Bool := PySem.W.excInitIn K C bmV "ValueError.__new__" && (PySem.W.findIn K (.ref C) "__init__" == some (some (.builtin "ValueError.__init__")) && PySem.W.typeIn K (.ref C) == some (.type "type"))
theorem pl_of {K : PySem.W.Frag} {mg : Str → Option Value} {nm : Str} {C : Addr} (e : exkB K C = true) (h : plB K C = true) (g : mg nm = some (.ref C)) : Pl K mg nm C := by
  unfold plB at h
  simp only [Bool.and_eq_true, beq_iff_eq] at h
  exact ⟨exk_of e, g, h.1, h.2.1, h.2.2⟩
def exwB (K : PySem.W.Frag) (CE CW CO : Addr) : Bool := PySem.W.exmOne K (.ref CE) (.ref CE) == some true && (PySem.W.exmOne K (.ref CW) (.ref CE) == some false && (PySem.W.exmOne K (.ref CW) (.ref CW) == some true && (PySem.W.exmOne K (.ref CO) (.ref CE) == some false && (PySem.W.exmOne K (.ref CO) (.ref CW) == some false && PySem.W.exmOne K (.ref CO) (.ref CO) == some true))))
theorem exw_of {K : PySem.W.Frag} {CE CW CO : Addr} (h : exwB K CE CW CO = true) : ExW K CE CW CO := by
  unfold exwB at h
  simp only [Bool.and_eq_true, beq_iff_eq] at h
  exact ⟨h.1, h.2.1, h.2.2.1, h.2.2.2.1, h.2.2.2.2.1, h.2.2.2.2.2⟩
abbrev tyN : List String := ["NoneType", "int", "tuple", "dict", "list", "str"]
def netB (K : PySem.W.Frag) (C : Addr) : Bool := PySem.W.plainGet K C Str.empty && (PySem.W.hasDictIn K C && (PySem.W.plainOver K C && (PySem.W.findIn K (.ref C) "__setattr__" == some (some (.builtin "object.__setattr__")) &&
  (PySem.W.findIn K (.ref C) "_lasts" == some none && (PySem.W.findIn K (.ref C) "_works" == some none && (PySem.W.findIn K (.ref C) "_bounds" == some none && (PySem.W.findIn K (.ref C) "_ended" == some none && (PySem.W.findIn K (.ref C) "_rows" == some none &&
  (PySem.W.makesIn K C && (PySem.W.keepIn K (.ref C) && (PySem.W.mroIn K C (.type "object") == some true && (PySem.W.findIn K (.ref C) "__class__" == some (some (.builtin "object.__class__")) &&
  (PySem.W.specialIn K (.builtin "object.__class__") "__get__" == some (some (.builtin "getset_descriptor.__get__")) && (PySem.W.takesIn K (.builtin "object.__class__") == some true && (PySem.W.kitOne K (.ref C) (.ref C) == some true && tyN.all fun t => PySem.W.kitOne K (.type t) (.ref C) == some false)))))))))))))))
structure NetF (K : PySem.W.Frag) (C : Addr) : Prop where
  n : NetK K C
  mks : PySem.W.makesIn K C = true
  kp : PySem.W.keepIn K (.ref C) = true
  ic : C8.InsC K C
  kn : ∀ t ∈ tyN, PySem.W.kitOne K (.type t) (.ref C) = some false
theorem net_of {K : PySem.W.Frag} {C : Addr} (h : netB K C = true) : NetF K C := by
  unfold netB at h
  simp only [Bool.and_eq_true, beq_iff_eq, List.all_eq_true] at h
  obtain ⟨a1, a2, a3, a4, b1, b2, b3, b4, b5, c1, c2, c4, c5, c6, c7, c8, c9⟩ := h
  exact ⟨⟨⟨a1, a2, a3, a4⟩, b1, b2, b3, b4, b5⟩, c1, c2, ⟨⟨a1, a2, a3, a4⟩, c5, c6, c7, c4, c8⟩, c9⟩
theorem three_all {α : Type} {x y z : α} {R : α → Prop} (a : R x) (b : R y) (c : R z) : ∀ p ∈ [x, y, z], R p := fun p hp => by
  simp only [List.mem_cons, List.not_mem_nil, or_false] at hp
  rcases hp with rfl | rfl | rfl
  · exact a
  · exact b
  · exact c
theorem un3 {a b c : Addr} {x y z : Str} (ab : a ≠ b) (ac : a ≠ c) (bc : b ≠ c) : (∀ p ∈ [(a, x), (b, y), (c, z)], p.1 = a → p.2 = x) ∧ (∀ p ∈ [(a, x), (b, y), (c, z)], p.1 = b → p.2 = y) ∧ (∀ p ∈ [(a, x), (b, y), (c, z)], p.1 = c → p.2 = z) :=
  ⟨three_all (R := fun p : Addr × Str => p.1 = a → p.2 = x) (fun _ => rfl) (fun z => absurd z.symm ab) (fun z => absurd z.symm ac), three_all (R := fun p : Addr × Str => p.1 = b → p.2 = y) (fun z => absurd z ab) (fun _ => rfl) (fun z => absurd z.symm bc), three_all (R := fun p : Addr × Str => p.1 = c → p.2 = z) (fun z => absurd z ac) (fun z => absurd z bc) (fun _ => rfl)⟩
theorem code_is {K : PySem.W.Frag} {f c : Addr} {x x' q q' : Str} {ar ar' : Arguments} {bd bd' : List Stmt} {sc sc' : Scope} {oc oc' cdv ct ct' dV dV' kV kV' doc doc' pm pm' : Value} {od od' an an' : Option Addr} {osl osl' : Array (Option Value)}
    (h1 : K.lookup f = some ⟨oc, od, .func (PySem.W.fnOf x q ar bd sc dV kV doc pm an cdv ct), osl⟩) (h2 : K.lookup f = some ⟨oc', od', .func (PySem.W.fnOf x' q' ar' bd' sc' dV' kV' doc' pm' an' (.ref c) ct'), osl'⟩) : cdv = .ref c := by
  have z := congrArg (fun o : Option Obj => match o with | some ⟨_, _, .func fd, _⟩ => fd.code | _ => Value.none) (h1.symm.trans h2)
  exact z
abbrev QM : Str := "_law_made_right" ++ ".<locals>." ++ "<lambda>"
abbrev QO : Str := "_law_others_right" ++ ".<locals>." ++ "<lambda>"
abbrev QL : Str := "law" ++ ".<locals>." ++ "<lambda>"
theorem all_mk {l : PySem.W.OpenLaw} {w : World} {K : PySem.W.Frag} {h : Heap} {mg : Str → Option Value} {fa fLa fBt fIi fIn fAl fIl fIk fIw fIb fGo fCh fWf fBf fNf fTr fNn fPc fIs fIr fNr fTb fMr fJo fEa fFi fLt fBo fSu fMd fIc fCv fTd fIp fRr fLf fLs fLi fUl fRo fDi fPi fSh fDr fWd fAr fOd fFr fMq fOq fMk fNd fWo fCo fEq fPw fPt DMd uMq pMq uOq pOq uLa pLa TMk vMk0 vMk1 qPw qPt cDy cEn cRw cOp cNe cRu : Addr} {odBt anBt odIi anIi odIn anIn odAl anAl odIl anIl odIk anIk odIw anIw odIb anIb odGo anGo odCh anCh odWf anWf odBf anBf odNf anNf odTr anTr odNn anNn odPc anPc odIs anIs odIr anIr odNr anNr odTb anTb odMr anMr odJo anJo odEa anEa odFi anFi odLt anLt odBo anBo odSu anSu odMd anMd odIc anIc odCv anCv odTd anTd odIp anIp odRr anRr odLf anLf odLs anLs odLi anLi odUl anUl odRo anRo odDi anDi odPi anPi odSh anSh odDr anDr odWd anWd odAr anAr odOd anOd odFr anFr odMq anMq odOq anOq odLa anLa odMk anMk dTMk odNd anNd odWo anWo odCo anCo odEq anEq odPw anPw odPt anPt : Option Addr} {slBt slIi slIn slAl slIl slIk slIw slIb slGo slCh slWf slBf slNf slTr slNn slPc slIs slIr slNr slTb slMr slJo slEa slFi slLt slBo slSu slMd slIc slCv slTd slIp slRr slLf slLs slLi slUl slRo slDi slPi slSh slDr slWd slAr slOd slFr slMq slOq slLa slMk sTMk slNd slWo slCo slEq slPw slPt : Array (Option Value)} {ocBt dcBt pmBt ctBt kVBt cdBt ocIi dcIi pmIi ctIi kVIi cdIi ocIn dcIn pmIn ctIn kVIn cdIn ocAl dcAl pmAl ctAl kVAl cdAl ocIl dcIl pmIl ctIl kVIl cdIl ocIk dcIk pmIk ctIk kVIk cdIk ocIw dcIw pmIw ctIw kVIw cdIw ocIb dcIb pmIb ctIb kVIb cdIb ocGo dcGo pmGo ctGo kVGo cdGo ocCh dcCh pmCh ctCh kVCh cdCh ocWf dcWf pmWf ctWf kVWf cdWf ocBf dcBf pmBf ctBf kVBf cdBf ocNf dcNf pmNf ctNf kVNf cdNf ocTr dcTr pmTr ctTr kVTr cdTr ocNn dcNn pmNn ctNn kVNn cdNn ocPc dcPc pmPc ctPc kVPc cdPc ocIs dcIs pmIs ctIs kVIs cdIs ocIr dcIr pmIr ctIr kVIr cdIr ocNr dcNr pmNr ctNr kVNr cdNr ocTb dcTb pmTb ctTb kVTb cdTb ocMr dcMr pmMr ctMr kVMr cdMr ocJo dcJo pmJo ctJo kVJo cdJo ocEa dcEa pmEa ctEa kVEa cdEa ocFi dcFi pmFi ctFi kVFi cdFi ocLt dcLt pmLt ctLt kVLt cdLt ocBo dcBo pmBo ctBo kVBo cdBo ocSu dcSu pmSu ctSu kVSu cdSu ocMd dcMd pmMd ctMd cdMd ocIc dcIc pmIc ctIc kVIc cdIc ocCv dcCv pmCv ctCv kVCv cdCv ocTd dcTd pmTd ctTd kVTd cdTd ocIp dcIp pmIp ctIp kVIp cdIp ocRr dcRr pmRr ctRr kVRr cdRr ocLf dcLf pmLf ctLf kVLf cdLf ocLs dcLs pmLs ctLs kVLs cdLs ocLi dcLi pmLi ctLi kVLi cdLi ocUl dcUl pmUl ctUl kVUl cdUl ocRo dcRo pmRo ctRo kVRo cdRo ocDi dcDi pmDi ctDi kVDi cdDi ocPi dcPi pmPi ctPi kVPi cdPi ocSh dcSh pmSh ctSh kVSh cdSh ocDr dcDr pmDr ctDr kVDr cdDr ocWd dcWd pmWd ctWd kVWd cdWd ocAr dcAr pmAr ctAr kVAr cdAr ocOd dcOd pmOd ctOd kVOd cdOd ocFr dcFr pmFr ctFr kVFr cdFr ocMq dcMq pmMq ctMq kVMq ocOq dcOq pmOq ctOq kVOq ocLa dcLa pmLa ctLa kVLa ocMk dcMk pmMk ctMk kVMk cdMk ocNd dcNd pmNd ctNd kVNd cdNd ocWo dcWo pmWo ctWo kVWo cdWo ocCo dcCo pmCo ctCo kVCo cdCo ocEq dcEq pmEq ctEq kVEq cdEq ocPw dcPw pmPw ctPw kVPw cdPw ocPt dcPt pmPt ctPt kVPt cdPt : Value} {tcFar tcLett tcDawn tcFst tcAll tcLen tcLook tcEv tcWk tcBd : Tok} {dRu dV1 : Option Addr} {nRu nV1 : Nat} {sRu sV1 : Array (Option Value)} {r0 r1 r2 r3 r4 r5 : Tok} {rePw rePt : List Value} {nTMk : Nat} (X : K.In h) (G : h.Ns mainGlobals mg) (hfa : mg "law" = some (.ref fa))
    (gDy : PySem.W.nsIn K mainGlobals "DayError" = some (some (.ref cDy)))
    (gEn : PySem.W.nsIn K mainGlobals "InvalidNet" = some (some (.ref cEn)))
    (gRw : PySem.W.nsIn K mainGlobals "InvalidRow" = some (some (.ref cRw)))
    (gOp : PySem.W.nsIn K mainGlobals "InvalidOperation" = some (some (.ref cOp)))
    (gNe : PySem.W.nsIn K mainGlobals "Net" = some (some (.ref cNe)))
    (gRu : PySem.W.nsIn K mainGlobals "RULES" = some (some (.ref cRu)))
    (aBt : PySem.W.nsIn K mainGlobals "is_between" = some (some (.ref fBt)))
    (lBt : K.lookup fBt = some ⟨ocBt, odBt, .func (PySem.W.fnOf "is_between" "is_between" (defArgs s_is_between) (defBody s_is_between) (defScope s_is_between) .none kVBt dcBt pmBt anBt cdBt ctBt), slBt⟩)
    (dBt : PySem.W.codeIn K cdBt "is_between" = true)
    (kBt : PySem.W.keepIn K (.ref fBt) = true)
    (aIi : PySem.W.nsIn K mainGlobals "is_integer" = some (some (.ref fIi)))
    (lIi : K.lookup fIi = some ⟨ocIi, odIi, .func (PySem.W.fnOf "is_integer" "is_integer" (defArgs s_is_integer) (defBody s_is_integer) (defScope s_is_integer) .none kVIi dcIi pmIi anIi cdIi ctIi), slIi⟩)
    (dIi : PySem.W.codeIn K cdIi "is_integer" = true)
    (kIi : PySem.W.keepIn K (.ref fIi) = true)
    (aIn : PySem.W.nsIn K mainGlobals "is_name" = some (some (.ref fIn)))
    (lIn : K.lookup fIn = some ⟨ocIn, odIn, .func (PySem.W.fnOf "is_name" "is_name" (defArgs s_is_name) (defBody s_is_name) (defScope s_is_name) .none kVIn dcIn pmIn anIn cdIn ctIn), slIn⟩)
    (dIn : PySem.W.codeIn K cdIn "is_name" = true)
    (kIn : PySem.W.keepIn K (.ref fIn) = true)
    (aAl : PySem.W.nsIn K mainGlobals "are_lasts" = some (some (.ref fAl)))
    (lAl : K.lookup fAl = some ⟨ocAl, odAl, .func (PySem.W.fnOf "are_lasts" "are_lasts" (defArgs s_are_lasts) (defBody s_are_lasts) (defScope s_are_lasts) .none kVAl dcAl pmAl anAl cdAl ctAl), slAl⟩)
    (dAl : PySem.W.codeIn K cdAl "are_lasts" = true)
    (kAl : PySem.W.keepIn K (.ref fAl) = true)
    (aIl : PySem.W.nsIn K mainGlobals "_is_lot" = some (some (.ref fIl)))
    (lIl : K.lookup fIl = some ⟨ocIl, odIl, .func (PySem.W.fnOf "_is_lot" "_is_lot" (defArgs s_u_is_lot) (defBody s_u_is_lot) (defScope s_u_is_lot) .none kVIl dcIl pmIl anIl cdIl ctIl), slIl⟩)
    (dIl : PySem.W.codeIn K cdIl "_is_lot" = true)
    (kIl : PySem.W.keepIn K (.ref fIl) = true)
    (aIk : PySem.W.nsIn K mainGlobals "_is_known" = some (some (.ref fIk)))
    (lIk : K.lookup fIk = some ⟨ocIk, odIk, .func (PySem.W.fnOf "_is_known" "_is_known" (defArgs s_u_is_known) (defBody s_u_is_known) (defScope s_u_is_known) .none kVIk dcIk pmIk anIk cdIk ctIk), slIk⟩)
    (dIk : PySem.W.codeIn K cdIk "_is_known" = true)
    (kIk : PySem.W.keepIn K (.ref fIk) = true)
    (aIw : PySem.W.nsIn K mainGlobals "_is_work" = some (some (.ref fIw)))
    (lIw : K.lookup fIw = some ⟨ocIw, odIw, .func (PySem.W.fnOf "_is_work" "_is_work" (defArgs s_u_is_work) (defBody s_u_is_work) (defScope s_u_is_work) .none kVIw dcIw pmIw anIw cdIw ctIw), slIw⟩)
    (dIw : PySem.W.codeIn K cdIw "_is_work" = true)
    (kIw : PySem.W.keepIn K (.ref fIw) = true)
    (aIb : PySem.W.nsIn K mainGlobals "_is_bound" = some (some (.ref fIb)))
    (lIb : K.lookup fIb = some ⟨ocIb, odIb, .func (PySem.W.fnOf "_is_bound" "_is_bound" (defArgs s_u_is_bound) (defBody s_u_is_bound) (defScope s_u_is_bound) .none kVIb dcIb pmIb anIb cdIb ctIb), slIb⟩)
    (dIb : PySem.W.codeIn K cdIb "_is_bound" = true)
    (kIb : PySem.W.keepIn K (.ref fIb) = true)
    (aGo : PySem.W.nsIn K mainGlobals "_goes_round" = some (some (.ref fGo)))
    (lGo : K.lookup fGo = some ⟨ocGo, odGo, .func (PySem.W.fnOf "_goes_round" "_goes_round" (defArgs s_u_goes_round) (defBody s_u_goes_round) (defScope s_u_goes_round) .none kVGo dcGo pmGo anGo cdGo ctGo), slGo⟩)
    (dGo : PySem.W.codeIn K cdGo "_goes_round" = true)
    (kGo : PySem.W.keepIn K (.ref fGo) = true)
    (aCh : PySem.W.nsIn K mainGlobals "_chain_fault" = some (some (.ref fCh)))
    (lCh : K.lookup fCh = some ⟨ocCh, odCh, .func (PySem.W.fnOf "_chain_fault" "_chain_fault" (defArgs s_u_chain_fault) (defBody s_u_chain_fault) (defScope s_u_chain_fault) .none kVCh dcCh pmCh anCh cdCh ctCh), slCh⟩)
    (dCh : PySem.W.codeIn K cdCh "_chain_fault" = true)
    (kCh : PySem.W.keepIn K (.ref fCh) = true)
    (aWf : PySem.W.nsIn K mainGlobals "works_fault" = some (some (.ref fWf)))
    (lWf : K.lookup fWf = some ⟨ocWf, odWf, .func (PySem.W.fnOf "works_fault" "works_fault" (defArgs s_works_fault) (defBody s_works_fault) (defScope s_works_fault) .none kVWf dcWf pmWf anWf cdWf ctWf), slWf⟩)
    (dWf : PySem.W.codeIn K cdWf "works_fault" = true)
    (kWf : PySem.W.keepIn K (.ref fWf) = true)
    (aBf : PySem.W.nsIn K mainGlobals "bounds_fault" = some (some (.ref fBf)))
    (lBf : K.lookup fBf = some ⟨ocBf, odBf, .func (PySem.W.fnOf "bounds_fault" "bounds_fault" (defArgs s_bounds_fault) (defBody s_bounds_fault) (defScope s_bounds_fault) .none kVBf dcBf pmBf anBf cdBf ctBf), slBf⟩)
    (dBf : PySem.W.codeIn K cdBf "bounds_fault" = true)
    (kBf : PySem.W.keepIn K (.ref fBf) = true)
    (aNf : PySem.W.nsIn K mainGlobals "net_fault" = some (some (.ref fNf)))
    (lNf : K.lookup fNf = some ⟨ocNf, odNf, .func (PySem.W.fnOf "net_fault" "net_fault" (defArgs s_net_fault) (defBody s_net_fault) (defScope s_net_fault) .none kVNf dcNf pmNf anNf cdNf ctNf), slNf⟩)
    (dNf : PySem.W.codeIn K cdNf "net_fault" = true)
    (kNf : PySem.W.keepIn K (.ref fNf) = true)
    (aTr : PySem.W.nsIn K mainGlobals "_told_rows" = some (some (.ref fTr)))
    (lTr : K.lookup fTr = some ⟨ocTr, odTr, .func (PySem.W.fnOf "_told_rows" "_told_rows" (defArgs s_u_told_rows) (defBody s_u_told_rows) (defScope s_u_told_rows) .none kVTr dcTr pmTr anTr cdTr ctTr), slTr⟩)
    (dTr : PySem.W.codeIn K cdTr "_told_rows" = true)
    (kTr : PySem.W.keepIn K (.ref fTr) = true)
    (aNn : PySem.W.nsIn K mainGlobals "need_net" = some (some (.ref fNn)))
    (lNn : K.lookup fNn = some ⟨ocNn, odNn, .func (PySem.W.fnOf "need_net" "need_net" (defArgs s_need_net) (defBody s_need_net) (defScope s_need_net) .none kVNn dcNn pmNn anNn cdNn ctNn), slNn⟩)
    (dNn : PySem.W.codeIn K cdNn "need_net" = true)
    (kNn : PySem.W.keepIn K (.ref fNn) = true)
    (aPc : PySem.W.nsIn K mainGlobals "is_place" = some (some (.ref fPc)))
    (lPc : K.lookup fPc = some ⟨ocPc, odPc, .func (PySem.W.fnOf "is_place" "is_place" (defArgs s_is_place) (defBody s_is_place) (defScope s_is_place) .none kVPc dcPc pmPc anPc cdPc ctPc), slPc⟩)
    (dPc : PySem.W.codeIn K cdPc "is_place" = true)
    (kPc : PySem.W.keepIn K (.ref fPc) = true)
    (aIs : PySem.W.nsIn K mainGlobals "is_work" = some (some (.ref fIs)))
    (lIs : K.lookup fIs = some ⟨ocIs, odIs, .func (PySem.W.fnOf "is_work" "is_work" (defArgs s_is_work) (defBody s_is_work) (defScope s_is_work) .none kVIs dcIs pmIs anIs cdIs ctIs), slIs⟩)
    (dIs : PySem.W.codeIn K cdIs "is_work" = true)
    (kIs : PySem.W.keepIn K (.ref fIs) = true)
    (aIr : PySem.W.nsIn K mainGlobals "is_row" = some (some (.ref fIr)))
    (lIr : K.lookup fIr = some ⟨ocIr, odIr, .func (PySem.W.fnOf "is_row" "is_row" (defArgs s_is_row) (defBody s_is_row) (defScope s_is_row) .none kVIr dcIr pmIr anIr cdIr ctIr), slIr⟩)
    (dIr : PySem.W.codeIn K cdIr "is_row" = true)
    (kIr : PySem.W.keepIn K (.ref fIr) = true)
    (aNr : PySem.W.nsIn K mainGlobals "_need_row" = some (some (.ref fNr)))
    (lNr : K.lookup fNr = some ⟨ocNr, odNr, .func (PySem.W.fnOf "_need_row" "_need_row" (defArgs s_u_need_row) (defBody s_u_need_row) (defScope s_u_need_row) .none kVNr dcNr pmNr anNr cdNr ctNr), slNr⟩)
    (dNr : PySem.W.codeIn K cdNr "_need_row" = true)
    (kNr : PySem.W.keepIn K (.ref fNr) = true)
    (aTb : PySem.W.nsIn K mainGlobals "taken_by" = some (some (.ref fTb)))
    (lTb : K.lookup fTb = some ⟨ocTb, odTb, .func (PySem.W.fnOf "taken_by" "taken_by" (defArgs s_taken_by) (defBody s_taken_by) (defScope s_taken_by) .none kVTb dcTb pmTb anTb cdTb ctTb), slTb⟩)
    (dTb : PySem.W.codeIn K cdTb "taken_by" = true)
    (kTb : PySem.W.keepIn K (.ref fTb) = true)
    (aMr : PySem.W.nsIn K mainGlobals "make_row" = some (some (.ref fMr)))
    (lMr : K.lookup fMr = some ⟨ocMr, odMr, .func (PySem.W.fnOf "make_row" "make_row" (defArgs s_make_row) (defBody s_make_row) (defScope s_make_row) .none kVMr dcMr pmMr anMr cdMr ctMr), slMr⟩)
    (dMr : PySem.W.codeIn K cdMr "make_row" = true)
    (kMr : PySem.W.keepIn K (.ref fMr) = true)
    (aJo : PySem.W.nsIn K mainGlobals "_joined" = some (some (.ref fJo)))
    (lJo : K.lookup fJo = some ⟨ocJo, odJo, .func (PySem.W.fnOf "_joined" "_joined" (defArgs s_u_joined) (defBody s_u_joined) (defScope s_u_joined) .none kVJo dcJo pmJo anJo cdJo ctJo), slJo⟩)
    (dJo : PySem.W.codeIn K cdJo "_joined" = true)
    (kJo : PySem.W.keepIn K (.ref fJo) = true)
    (aEa : PySem.W.nsIn K mainGlobals "_early" = some (some (.ref fEa)))
    (lEa : K.lookup fEa = some ⟨ocEa, odEa, .func (PySem.W.fnOf "_early" "_early" (defArgs s_u_early) (defBody s_u_early) (defScope s_u_early) .none kVEa dcEa pmEa anEa cdEa ctEa), slEa⟩)
    (dEa : PySem.W.codeIn K cdEa "_early" = true)
    (kEa : PySem.W.keepIn K (.ref fEa) = true)
    (aFi : PySem.W.nsIn K mainGlobals "_first" = some (some (.ref fFi)))
    (lFi : K.lookup fFi = some ⟨ocFi, odFi, .func (PySem.W.fnOf "_first" "_first" (defArgs s_u_first) (defBody s_u_first) (defScope s_u_first) .none kVFi dcFi pmFi anFi cdFi ctFi), slFi⟩)
    (dFi : PySem.W.codeIn K cdFi "_first" = true)
    (kFi : PySem.W.keepIn K (.ref fFi) = true)
    (aLt : PySem.W.nsIn K mainGlobals "_late" = some (some (.ref fLt)))
    (lLt : K.lookup fLt = some ⟨ocLt, odLt, .func (PySem.W.fnOf "_late" "_late" (defArgs s_u_late) (defBody s_u_late) (defScope s_u_late) .none kVLt dcLt pmLt anLt cdLt ctLt), slLt⟩)
    (dLt : PySem.W.codeIn K cdLt "_late" = true)
    (kLt : PySem.W.keepIn K (.ref fLt) = true)
    (aBo : PySem.W.nsIn K mainGlobals "_both" = some (some (.ref fBo)))
    (lBo : K.lookup fBo = some ⟨ocBo, odBo, .func (PySem.W.fnOf "_both" "_both" (defArgs s_u_both) (defBody s_u_both) (defScope s_u_both) .none kVBo dcBo pmBo anBo cdBo ctBo), slBo⟩)
    (dBo : PySem.W.codeIn K cdBo "_both" = true)
    (kBo : PySem.W.keepIn K (.ref fBo) = true)
    (aSu : PySem.W.nsIn K mainGlobals "_sure" = some (some (.ref fSu)))
    (lSu : K.lookup fSu = some ⟨ocSu, odSu, .func (PySem.W.fnOf "_sure" "_sure" (defArgs s_u_sure) (defBody s_u_sure) (defScope s_u_sure) .none kVSu dcSu pmSu anSu cdSu ctSu), slSu⟩)
    (dSu : PySem.W.codeIn K cdSu "_sure" = true)
    (kSu : PySem.W.keepIn K (.ref fSu) = true)
    (aMd : PySem.W.nsIn K mainGlobals "made" = some (some (.ref fMd)))
    (lMd : K.lookup fMd = some ⟨ocMd, odMd, .func (PySem.W.fnOf "made" "made" (defArgs s_made) (defBody s_made) (defScope s_made) .none (.ref DMd) dcMd pmMd anMd cdMd ctMd), slMd⟩)
    (dMd : PySem.W.codeIn K cdMd "made" = true)
    (kMd : PySem.W.keepIn K (.ref fMd) = true)
    (wMd_other : PySem.W.nsIn K DMd "other" = some (some .none))
    (aIc : PySem.W.nsIn K mainGlobals "is_covered" = some (some (.ref fIc)))
    (lIc : K.lookup fIc = some ⟨ocIc, odIc, .func (PySem.W.fnOf "is_covered" "is_covered" (defArgs s_is_covered) (defBody s_is_covered) (defScope s_is_covered) .none kVIc dcIc pmIc anIc cdIc ctIc), slIc⟩)
    (dIc : PySem.W.codeIn K cdIc "is_covered" = true)
    (kIc : PySem.W.keepIn K (.ref fIc) = true)
    (aCv : PySem.W.nsIn K mainGlobals "covers" = some (some (.ref fCv)))
    (lCv : K.lookup fCv = some ⟨ocCv, odCv, .func (PySem.W.fnOf "covers" "covers" (defArgs s_covers) (defBody s_covers) (defScope s_covers) .none kVCv dcCv pmCv anCv cdCv ctCv), slCv⟩)
    (dCv : PySem.W.codeIn K cdCv "covers" = true)
    (kCv : PySem.W.keepIn K (.ref fCv) = true)
    (aTd : PySem.W.nsIn K mainGlobals "is_told" = some (some (.ref fTd)))
    (lTd : K.lookup fTd = some ⟨ocTd, odTd, .func (PySem.W.fnOf "is_told" "is_told" (defArgs s_is_told) (defBody s_is_told) (defScope s_is_told) .none kVTd dcTd pmTd anTd cdTd ctTd), slTd⟩)
    (dTd : PySem.W.codeIn K cdTd "is_told" = true)
    (kTd : PySem.W.keepIn K (.ref fTd) = true)
    (aIp : PySem.W.nsIn K mainGlobals "is_pair" = some (some (.ref fIp)))
    (lIp : K.lookup fIp = some ⟨ocIp, odIp, .func (PySem.W.fnOf "is_pair" "is_pair" (defArgs s_is_pair) (defBody s_is_pair) (defScope s_is_pair) .none kVIp dcIp pmIp anIp cdIp ctIp), slIp⟩)
    (dIp : PySem.W.codeIn K cdIp "is_pair" = true)
    (kIp : PySem.W.keepIn K (.ref fIp) = true)
    (aRr : PySem.W.nsIn K mainGlobals "_reason_row" = some (some (.ref fRr)))
    (lRr : K.lookup fRr = some ⟨ocRr, odRr, .func (PySem.W.fnOf "_reason_row" "_reason_row" (defArgs s_u_reason_row) (defBody s_u_reason_row) (defScope s_u_reason_row) .none kVRr dcRr pmRr anRr cdRr ctRr), slRr⟩)
    (dRr : PySem.W.codeIn K cdRr "_reason_row" = true)
    (kRr : PySem.W.keepIn K (.ref fRr) = true)
    (aLf : PySem.W.nsIn K mainGlobals "_line_fault" = some (some (.ref fLf)))
    (lLf : K.lookup fLf = some ⟨ocLf, odLf, .func (PySem.W.fnOf "_line_fault" "_line_fault" (defArgs s_u_line_fault) (defBody s_u_line_fault) (defScope s_u_line_fault) .none kVLf dcLf pmLf anLf cdLf ctLf), slLf⟩)
    (dLf : PySem.W.codeIn K cdLf "_line_fault" = true)
    (kLf : PySem.W.keepIn K (.ref fLf) = true)
    (aLs : PySem.W.nsIn K mainGlobals "list_fault" = some (some (.ref fLs)))
    (lLs : K.lookup fLs = some ⟨ocLs, odLs, .func (PySem.W.fnOf "list_fault" "list_fault" (defArgs s_list_fault) (defBody s_list_fault) (defScope s_list_fault) .none kVLs dcLs pmLs anLs cdLs ctLs), slLs⟩)
    (dLs : PySem.W.codeIn K cdLs "list_fault" = true)
    (kLs : PySem.W.keepIn K (.ref fLs) = true)
    (aLi : PySem.W.nsIn K mainGlobals "is_list" = some (some (.ref fLi)))
    (lLi : K.lookup fLi = some ⟨ocLi, odLi, .func (PySem.W.fnOf "is_list" "is_list" (defArgs s_is_list) (defBody s_is_list) (defScope s_is_list) .none kVLi dcLi pmLi anLi cdLi ctLi), slLi⟩)
    (dLi : PySem.W.codeIn K cdLi "is_list" = true)
    (kLi : PySem.W.keepIn K (.ref fLi) = true)
    (aUl : PySem.W.nsIn K mainGlobals "used_lines" = some (some (.ref fUl)))
    (lUl : K.lookup fUl = some ⟨ocUl, odUl, .func (PySem.W.fnOf "used_lines" "used_lines" (defArgs s_used_lines) (defBody s_used_lines) (defScope s_used_lines) .none kVUl dcUl pmUl anUl cdUl ctUl), slUl⟩)
    (dUl : PySem.W.codeIn K cdUl "used_lines" = true)
    (kUl : PySem.W.keepIn K (.ref fUl) = true)
    (aRo : PySem.W.nsIn K mainGlobals "_law_roll" = some (some (.ref fRo)))
    (lRo : K.lookup fRo = some ⟨ocRo, odRo, .func (PySem.W.fnOf "_law_roll" "_law_roll" (defArgs s_law_roll) (defBody s_law_roll) (defScope s_law_roll) .none kVRo dcRo pmRo anRo cdRo ctRo), slRo⟩)
    (dRo : PySem.W.codeIn K cdRo "_law_roll" = true)
    (kRo : PySem.W.keepIn K (.ref fRo) = true)
    (aDi : PySem.W.nsIn K mainGlobals "_law_dice" = some (some (.ref fDi)))
    (lDi : K.lookup fDi = some ⟨ocDi, odDi, .func (PySem.W.fnOf "_law_dice" "_law_dice" (defArgs s_law_dice) (defBody s_law_dice) (defScope s_law_dice) .none kVDi dcDi pmDi anDi cdDi ctDi), slDi⟩)
    (dDi : PySem.W.codeIn K cdDi "_law_dice" = true)
    (kDi : PySem.W.keepIn K (.ref fDi) = true)
    (aPi : PySem.W.nsIn K mainGlobals "_law_pick" = some (some (.ref fPi)))
    (lPi : K.lookup fPi = some ⟨ocPi, odPi, .func (PySem.W.fnOf "_law_pick" "_law_pick" (defArgs s_law_pick) (defBody s_law_pick) (defScope s_law_pick) .none kVPi dcPi pmPi anPi cdPi ctPi), slPi⟩)
    (dPi : PySem.W.codeIn K cdPi "_law_pick" = true)
    (kPi : PySem.W.keepIn K (.ref fPi) = true)
    (aSh : PySem.W.nsIn K mainGlobals "_law_shuffled" = some (some (.ref fSh)))
    (lSh : K.lookup fSh = some ⟨ocSh, odSh, .func (PySem.W.fnOf "_law_shuffled" "_law_shuffled" (defArgs s_law_shuffled) (defBody s_law_shuffled) (defScope s_law_shuffled) .none kVSh dcSh pmSh anSh cdSh ctSh), slSh⟩)
    (dSh : PySem.W.codeIn K cdSh "_law_shuffled" = true)
    (kSh : PySem.W.keepIn K (.ref fSh) = true)
    (aDr : PySem.W.nsIn K mainGlobals "_law_nt_drawn" = some (some (.ref fDr)))
    (lDr : K.lookup fDr = some ⟨ocDr, odDr, .func (PySem.W.fnOf "_law_nt_drawn" "_law_nt_drawn" (defArgs s_law_nt_drawn) (defBody s_law_nt_drawn) (defScope s_law_nt_drawn) .none kVDr dcDr pmDr anDr cdDr ctDr), slDr⟩)
    (dDr : PySem.W.codeIn K cdDr "_law_nt_drawn" = true)
    (kDr : PySem.W.keepIn K (.ref fDr) = true)
    (aWd : PySem.W.nsIn K mainGlobals "_law_word" = some (some (.ref fWd)))
    (lWd : K.lookup fWd = some ⟨ocWd, odWd, .func (PySem.W.fnOf "_law_word" "_law_word" (defArgs s_law_word) (defBody s_law_word) (defScope s_law_word) .none kVWd dcWd pmWd anWd cdWd ctWd), slWd⟩)
    (dWd : PySem.W.codeIn K cdWd "_law_word" = true)
    (kWd : PySem.W.keepIn K (.ref fWd) = true)
    (aAr : PySem.W.nsIn K mainGlobals "_law_a_row" = some (some (.ref fAr)))
    (lAr : K.lookup fAr = some ⟨ocAr, odAr, .func (PySem.W.fnOf "_law_a_row" "_law_a_row" (defArgs s_law_a_row) (defBody s_law_a_row) (defScope s_law_a_row) .none kVAr dcAr pmAr anAr cdAr ctAr), slAr⟩)
    (dAr : PySem.W.codeIn K cdAr "_law_a_row" = true)
    (kAr : PySem.W.keepIn K (.ref fAr) = true)
    (aOd : PySem.W.nsIn K mainGlobals "_law_odd_row" = some (some (.ref fOd)))
    (lOd : K.lookup fOd = some ⟨ocOd, odOd, .func (PySem.W.fnOf "_law_odd_row" "_law_odd_row" (defArgs s_law_odd_row) (defBody s_law_odd_row) (defScope s_law_odd_row) .none kVOd dcOd pmOd anOd cdOd ctOd), slOd⟩)
    (dOd : PySem.W.codeIn K cdOd "_law_odd_row" = true)
    (kOd : PySem.W.keepIn K (.ref fOd) = true)
    (aFr : PySem.W.nsIn K mainGlobals "_law_first" = some (some (.ref fFr)))
    (lFr : K.lookup fFr = some ⟨ocFr, odFr, .func (PySem.W.fnOf "_law_first" "_law_first" (defArgs s_law_first) (defBody s_law_first) (defScope s_law_first) .none kVFr dcFr pmFr anFr cdFr ctFr), slFr⟩)
    (dFr : PySem.W.codeIn K cdFr "_law_first" = true)
    (kFr : PySem.W.keepIn K (.ref fFr) = true)
    (aMq : PySem.W.nsIn K mainGlobals "_law_made_right" = some (some (.ref fMq)))
    (lMq : K.lookup fMq = some ⟨ocMq, odMq, .func (PySem.W.fnOf "_law_made_right" "_law_made_right" (defArgs s_law_made_right) (defBody s_law_made_right) (defScope s_law_made_right) .none kVMq dcMq pmMq anMq (.ref uMq) ctMq), slMq⟩)
    (dMq : PySem.W.codeIn K (.ref uMq) "_law_made_right" = true)
    (kMq : PySem.W.keepIn K (.ref fMq) = true)
    (aOq : PySem.W.nsIn K mainGlobals "_law_others_right" = some (some (.ref fOq)))
    (lOq : K.lookup fOq = some ⟨ocOq, odOq, .func (PySem.W.fnOf "_law_others_right" "_law_others_right" (defArgs s_law_others_right) (defBody s_law_others_right) (defScope s_law_others_right) .none kVOq dcOq pmOq anOq (.ref uOq) ctOq), slOq⟩)
    (dOq : PySem.W.codeIn K (.ref uOq) "_law_others_right" = true)
    (kOq : PySem.W.keepIn K (.ref fOq) = true)
    (aLa : PySem.W.nsIn K mainGlobals "law" = some (some (.ref fLa)))
    (lLa : K.lookup fLa = some ⟨ocLa, odLa, .func (PySem.W.fnOf "law" "law" (defArgs s_law) (defBody s_law) (defScope s_law) .none kVLa dcLa pmLa anLa (.ref uLa) ctLa), slLa⟩)
    (dLa : PySem.W.codeIn K (.ref uLa) "law" = true)
    (kLa : PySem.W.keepIn K (.ref fLa) = true)
    (aMk : PySem.W.findIn K (.ref cNe) "__init__" = some (some (.ref fMk)))
    (iMk : PySem.W.isFn K (.ref fMk) = true)
    (lMk : K.lookup fMk = some ⟨ocMk, odMk, .func (PySem.W.fnOf "__init__" "Net.__init__" (defArgs m_Net_init) (defBody m_Net_init) (defScope m_Net_init) (.ref TMk) kVMk dcMk pmMk anMk cdMk ctMk), slMk⟩)
    (dMk : PySem.W.codeIn K cdMk "Net.__init__" = true)
    (kMk : PySem.W.keepIn K (.ref fMk) = true)
    (lTMk : K.lookup TMk = some ⟨.type "tuple", dTMk, .seq #[.ref vMk0, .ref vMk1] nTMk, sTMk⟩)
    (aNd : PySem.W.findIn K (.ref cNe) "_need_event" = some (some (.ref fNd)))
    (iNd : PySem.W.isFn K (.ref fNd) = true)
    (lNd : K.lookup fNd = some ⟨ocNd, odNd, .func (PySem.W.fnOf "_need_event" "Net._need_event" (defArgs m_Net_u_need_event) (defBody m_Net_u_need_event) (defScope m_Net_u_need_event) .none kVNd dcNd pmNd anNd cdNd ctNd), slNd⟩)
    (dNd : PySem.W.codeIn K cdNd "Net._need_event" = true)
    (kNd : PySem.W.keepIn K (.ref fNd) = true)
    (aWo : PySem.W.findIn K (.ref cNe) "work_of" = some (some (.ref fWo)))
    (iWo : PySem.W.isFn K (.ref fWo) = true)
    (lWo : K.lookup fWo = some ⟨ocWo, odWo, .func (PySem.W.fnOf "work_of" "Net.work_of" (defArgs m_Net_work_of) (defBody m_Net_work_of) (defScope m_Net_work_of) .none kVWo dcWo pmWo anWo cdWo ctWo), slWo⟩)
    (dWo : PySem.W.codeIn K cdWo "Net.work_of" = true)
    (kWo : PySem.W.keepIn K (.ref fWo) = true)
    (aCo : PySem.W.findIn K (.ref cNe) "__contains__" = some (some (.ref fCo)))
    (iCo : PySem.W.isFn K (.ref fCo) = true)
    (lCo : K.lookup fCo = some ⟨ocCo, odCo, .func (PySem.W.fnOf "__contains__" "Net.__contains__" (defArgs m_Net_contains) (defBody m_Net_contains) (defScope m_Net_contains) .none kVCo dcCo pmCo anCo cdCo ctCo), slCo⟩)
    (dCo : PySem.W.codeIn K cdCo "Net.__contains__" = true)
    (kCo : PySem.W.keepIn K (.ref fCo) = true)
    (aEq : PySem.W.findIn K (.ref cNe) "__eq__" = some (some (.ref fEq)))
    (iEq : PySem.W.isFn K (.ref fEq) = true)
    (lEq : K.lookup fEq = some ⟨ocEq, odEq, .func (PySem.W.fnOf "__eq__" "Net.__eq__" (defArgs m_Net_eq) (defBody m_Net_eq) (defScope m_Net_eq) .none kVEq dcEq pmEq anEq cdEq ctEq), slEq⟩)
    (dEq : PySem.W.codeIn K cdEq "Net.__eq__" = true)
    (kEq : PySem.W.keepIn K (.ref fEq) = true)
    (o1Pw : PySem.W.findIn K (.ref cNe) "works" = some (some (.ref qPw)))
    (o2Pw : PySem.W.specialIn K (.ref qPw) "__get__" = some (some (.builtin "property.__get__")))
    (o3Pw : PySem.W.takesIn K (.ref qPw) = some true)
    (o4Pw : PySem.W.recIn K qPw "property" = some (.ref fPw :: rePw))
    (lPw : K.lookup fPw = some ⟨ocPw, odPw, .func (PySem.W.fnOf "works" "Net.works" (defArgs m_Net_works) (defBody m_Net_works) (defScope m_Net_works) .none kVPw dcPw pmPw anPw cdPw ctPw), slPw⟩)
    (dPw : PySem.W.codeIn K cdPw "Net.works" = true)
    (kPw : PySem.W.keepIn K (.ref fPw) = true)
    (o1Pt : PySem.W.findIn K (.ref cNe) "told" = some (some (.ref qPt)))
    (o2Pt : PySem.W.specialIn K (.ref qPt) "__get__" = some (some (.builtin "property.__get__")))
    (o3Pt : PySem.W.takesIn K (.ref qPt) = some true)
    (o4Pt : PySem.W.recIn K qPt "property" = some (.ref fPt :: rePt))
    (lPt : K.lookup fPt = some ⟨ocPt, odPt, .func (PySem.W.fnOf "told" "Net.told" (defArgs m_Net_told) (defBody m_Net_told) (defScope m_Net_told) .none kVPt dcPt pmPt anPt cdPt ctPt), slPt⟩)
    (dPt : PySem.W.codeIn K cdPt "Net.told" = true)
    (kPt : PySem.W.keepIn K (.ref fPt) = true)
    (eEn : exkB K cEn = true)
    (pEn : plB K cEn = true)
    (eRw : exkB K cRw = true)
    (pRw : plB K cRw = true)
    (eOp : exkB K cOp = true)
    (pOp : plB K cOp = true)
    (xe : exwB K cEn cRw cOp = true)
    (nf : netB K cNe = true)
    (kT : PySem.W.kitOne K (.ref cNe) (.type "tuple") = some false)
    (sT : PySem.W.subIn K (.ref cNe) (.type "tuple") = some false)
    (lRu : K.lookup cRu = some ⟨.type "tuple", dRu, .seq #[.str "joined" r0, .str "early" r1, .str "first" r2, .str "late" r3, .str "both" r4, .str "sure" r5] nRu, sRu⟩)
    (lV1 : K.lookup vMk1 = some ⟨.type "tuple", dV1, .seq #[] nV1, sV1⟩)
    (tMq : PySem.W.codeHdIn K uMq pMq = true)
    (nMq : K.lookup pMq = none)
    (tOq : PySem.W.codeHdIn K uOq pOq = true)
    (nOq : K.lookup pOq = none)
    (tLa : PySem.W.codeHdIn K uLa pLa = true)
    (nLa : K.lookup pLa = none)
    (neMqOq : decide (pMq = pOq) = false)
    (neMqLa : decide (pMq = pLa) = false)
    (neOqLa : decide (pOq = pLa) = false)
    (c_Far : PySem.W.nsIn K mainGlobals "_TOO_LONG" = some (some (.int (10 ^ 40) tcFar)))
    (c_Lett : PySem.W.nsIn K mainGlobals "MAX_LETTERS" = some (some (.int 12 tcLett)))
    (c_Dawn : PySem.W.nsIn K mainGlobals "DAWN" = some (some (.str "dawn" tcDawn)))
    (c_Fst : PySem.W.nsIn K mainGlobals "_FIRST_LETTERS" = some (some (.str firstL tcFst)))
    (c_All : PySem.W.nsIn K mainGlobals "_LETTERS" = some (some (.str lettL tcAll)))
    (c_Len : PySem.W.nsIn K mainGlobals "MAX_LENGTH" = some (some (.int (10 ^ 30) tcLen)))
    (c_Look : PySem.W.nsIn K mainGlobals "MAX_LOOK" = some (some (.int 20 tcLook)))
    (c_Ev : PySem.W.nsIn K mainGlobals "MAX_EVENTS" = some (some (.int 200 tcEv)))
    (c_Wk : PySem.W.nsIn K mainGlobals "MAX_WORKS" = some (some (.int 60 tcWk)))
    (c_Bd : PySem.W.nsIn K mainGlobals "MAX_BOUNDS" = some (some (.int 400 tcBd)))
    (z_isinstance : PySem.W.nsIn K mainGlobals "isinstance" = some none)
    (z_int : PySem.W.nsIn K mainGlobals "int" = some none)
    (z_bool : PySem.W.nsIn K mainGlobals "bool" = some none)
    (z_str : PySem.W.nsIn K mainGlobals "str" = some none)
    (z_len : PySem.W.nsIn K mainGlobals "len" = some none)
    (z_all : PySem.W.nsIn K mainGlobals "all" = some none)
    (z_range : PySem.W.nsIn K mainGlobals "range" = some none)
    (z_tuple : PySem.W.nsIn K mainGlobals "tuple" = some none)
    (z_list : PySem.W.nsIn K mainGlobals "list" = some none)
    (z_dict : PySem.W.nsIn K mainGlobals "dict" = some none)
    (z_abs : PySem.W.nsIn K mainGlobals "abs" = some none)
    (z_max : PySem.W.nsIn K mainGlobals "max" = some none)
    (z_min : PySem.W.nsIn K mainGlobals "min" = some none)
    (z_sorted : PySem.W.nsIn K mainGlobals "sorted" = some none)
    (z_enumerate : PySem.W.nsIn K mainGlobals "enumerate" = some none)
    (z_zip : PySem.W.nsIn K mainGlobals "zip" = some none)
    (hMq : h.get? pMq = some tabO)
    (hOq : h.get? pOq = some tabO)
    (hLa : h.get? pLa = some tabO)
    : ∃ (fd : FuncData) (cs : List (Addr × Addr)) (sp : Sp), (∀ p ∈ cs, h.get? p.2 = some tabO) ∧ (∀ p ∈ cs, K.lookup p.2 = none) ∧ (∀ p ∈ cs, PySem.W.CodeHd h p.1 p.2) ∧ (∀ (t : Shared) (u : Value), BindsTo t fd ⟨[u], []⟩ [("script", u)]) ∧
        (∀ (H : Hp) (a : Addr) (ns : List Int), ns.length ≤ 63 → SqL K H a (ns.map V.int) → (∀ p ∈ cs, H p.2 = some (.tbl #[])) → sp [.ref a] H (fun v _ => v = .bl true) E0) ∧
        ∀ base : Heap, K.In base → (∀ p ∈ cs, TabB base mg p.1 p.2) → FnG l.prog w K mg base 12 fa fd ["script"] sp := by
  have e := hfa.symm.trans (PySem.W.mg_of X G aLa)
  cases e
  have y_isinstance := PySem.W.mg_none_of X G z_isinstance
  have y_int := PySem.W.mg_none_of X G z_int
  have y_bool := PySem.W.mg_none_of X G z_bool
  have y_str := PySem.W.mg_none_of X G z_str
  have y_len := PySem.W.mg_none_of X G z_len
  have y_all := PySem.W.mg_none_of X G z_all
  have y_range := PySem.W.mg_none_of X G z_range
  have y_tuple := PySem.W.mg_none_of X G z_tuple
  have y_list := PySem.W.mg_none_of X G z_list
  have y_dict := PySem.W.mg_none_of X G z_dict
  have y_abs := PySem.W.mg_none_of X G z_abs
  have y_max := PySem.W.mg_none_of X G z_max
  have y_min := PySem.W.mg_none_of X G z_min
  have y_sorted := PySem.W.mg_none_of X G z_sorted
  have y_enumerate := PySem.W.mg_none_of X G z_enumerate
  have y_zip := PySem.W.mg_none_of X G z_zip
  have mDy := PySem.W.mg_of X G gDy
  have mEn := PySem.W.mg_of X G gEn
  have mRw := PySem.W.mg_of X G gRw
  have mOp := PySem.W.mg_of X G gOp
  have mNe := PySem.W.mg_of X G gNe
  have mRu := PySem.W.mg_of X G gRu
  have FBt : Fun K "is_between" "is_between" s_is_between fBt _ := fun_mk (st := s_is_between) lBt dBt kBt
  have bBt := FBt.binds (ps := ["value", "least", "most"]) fun _ _ _ _ _ _ us hl => match us, hl with | [_, _, _], _ => rfl
  have mBt := PySem.W.mg_of X G aBt
  have FIi : Fun K "is_integer" "is_integer" s_is_integer fIi _ := fun_mk (st := s_is_integer) lIi dIi kIi
  have bIi := FIi.binds (ps := ["value"]) fun _ _ _ _ _ _ us hl => match us, hl with | [_], _ => rfl
  have mIi := PySem.W.mg_of X G aIi
  have FIn : Fun K "is_name" "is_name" s_is_name fIn _ := fun_mk (st := s_is_name) lIn dIn kIn
  have bIn := FIn.binds (ps := ["value"]) fun _ _ _ _ _ _ us hl => match us, hl with | [_], _ => rfl
  have mIn := PySem.W.mg_of X G aIn
  have FAl : Fun K "are_lasts" "are_lasts" s_are_lasts fAl _ := fun_mk (st := s_are_lasts) lAl dAl kAl
  have bAl := FAl.binds (ps := ["value", "limit"]) fun _ _ _ _ _ _ us hl => match us, hl with | [_, _], _ => rfl
  have mAl := PySem.W.mg_of X G aAl
  have FIl : Fun K "_is_lot" "_is_lot" s_u_is_lot fIl _ := fun_mk (st := s_u_is_lot) lIl dIl kIl
  have bIl := FIl.binds (ps := ["value", "limit"]) fun _ _ _ _ _ _ us hl => match us, hl with | [_, _], _ => rfl
  have mIl := PySem.W.mg_of X G aIl
  have FIk : Fun K "_is_known" "_is_known" s_u_is_known fIk _ := fun_mk (st := s_u_is_known) lIk dIk kIk
  have bIk := FIk.binds (ps := ["lasts", "value"]) fun _ _ _ _ _ _ us hl => match us, hl with | [_, _], _ => rfl
  have mIk := PySem.W.mg_of X G aIk
  have FIw : Fun K "_is_work" "_is_work" s_u_is_work fIw _ := fun_mk (st := s_u_is_work) lIw dIw kIw
  have bIw := FIw.binds (ps := ["lasts", "value"]) fun _ _ _ _ _ _ us hl => match us, hl with | [_, _], _ => rfl
  have mIw := PySem.W.mg_of X G aIw
  have FIb : Fun K "_is_bound" "_is_bound" s_u_is_bound fIb _ := fun_mk (st := s_u_is_bound) lIb dIb kIb
  have bIb := FIb.binds (ps := ["lasts", "value"]) fun _ _ _ _ _ _ us hl => match us, hl with | [_, _], _ => rfl
  have mIb := PySem.W.mg_of X G aIb
  have FGo : Fun K "_goes_round" "_goes_round" s_u_goes_round fGo _ := fun_mk (st := s_u_goes_round) lGo dGo kGo
  have bGo := FGo.binds (ps := ["works", "ended", "name"]) fun _ _ _ _ _ _ us hl => match us, hl with | [_, _, _], _ => rfl
  have mGo := PySem.W.mg_of X G aGo
  have FCh : Fun K "_chain_fault" "_chain_fault" s_u_chain_fault fCh _ := fun_mk (st := s_u_chain_fault) lCh dCh kCh
  have bCh := FCh.binds (ps := ["works", "ended"]) fun _ _ _ _ _ _ us hl => match us, hl with | [_, _], _ => rfl
  have mCh := PySem.W.mg_of X G aCh
  have FWf : Fun K "works_fault" "works_fault" s_works_fault fWf _ := fun_mk (st := s_works_fault) lWf dWf kWf
  have bWf := FWf.binds (ps := ["lasts", "works", "limit"]) fun _ _ _ _ _ _ us hl => match us, hl with | [_, _, _], _ => rfl
  have mWf := PySem.W.mg_of X G aWf
  have FBf : Fun K "bounds_fault" "bounds_fault" s_bounds_fault fBf _ := fun_mk (st := s_bounds_fault) lBf dBf kBf
  have bBf := FBf.binds (ps := ["lasts", "bounds", "limit"]) fun _ _ _ _ _ _ us hl => match us, hl with | [_, _, _], _ => rfl
  have mBf := PySem.W.mg_of X G aBf
  have FNf : Fun K "net_fault" "net_fault" s_net_fault fNf _ := fun_mk (st := s_net_fault) lNf dNf kNf
  have bNf := FNf.binds (ps := ["lasts", "works", "bounds"]) fun _ _ _ _ _ _ us hl => match us, hl with | [_, _, _], _ => rfl
  have mNf := PySem.W.mg_of X G aNf
  have FTr : Fun K "_told_rows" "_told_rows" s_u_told_rows fTr _ := fun_mk (st := s_u_told_rows) lTr dTr kTr
  have bTr := FTr.binds (ps := ["lasts", "works", "bounds"]) fun _ _ _ _ _ _ us hl => match us, hl with | [_, _, _], _ => rfl
  have mTr := PySem.W.mg_of X G aTr
  have FNn : Fun K "need_net" "need_net" s_need_net fNn _ := fun_mk (st := s_need_net) lNn dNn kNn
  have bNn := FNn.binds (ps := ["value"]) fun _ _ _ _ _ _ us hl => match us, hl with | [_], _ => rfl
  have mNn := PySem.W.mg_of X G aNn
  have FPc : Fun K "is_place" "is_place" s_is_place fPc _ := fun_mk (st := s_is_place) lPc dPc kPc
  have bPc := FPc.binds (ps := ["net", "value"]) fun _ _ _ _ _ _ us hl => match us, hl with | [_, _], _ => rfl
  have mPc := PySem.W.mg_of X G aPc
  have FIs : Fun K "is_work" "is_work" s_is_work fIs _ := fun_mk (st := s_is_work) lIs dIs kIs
  have bIs := FIs.binds (ps := ["net", "value"]) fun _ _ _ _ _ _ us hl => match us, hl with | [_, _], _ => rfl
  have mIs := PySem.W.mg_of X G aIs
  have FIr : Fun K "is_row" "is_row" s_is_row fIr _ := fun_mk (st := s_is_row) lIr dIr kIr
  have bIr := FIr.binds (ps := ["net", "value"]) fun _ _ _ _ _ _ us hl => match us, hl with | [_, _], _ => rfl
  have mIr := PySem.W.mg_of X G aIr
  have FNr : Fun K "_need_row" "_need_row" s_u_need_row fNr _ := fun_mk (st := s_u_need_row) lNr dNr kNr
  have bNr := FNr.binds (ps := ["net", "value"]) fun _ _ _ _ _ _ us hl => match us, hl with | [_, _], _ => rfl
  have mNr := PySem.W.mg_of X G aNr
  have FTb : Fun K "taken_by" "taken_by" s_taken_by fTb _ := fun_mk (st := s_taken_by) lTb dTb kTb
  have bTb := FTb.binds (ps := ["rule"]) fun _ _ _ _ _ _ us hl => match us, hl with | [_], _ => rfl
  have mTb := PySem.W.mg_of X G aTb
  have FMr : Fun K "make_row" "make_row" s_make_row fMr _ := fun_mk (st := s_make_row) lMr dMr kMr
  have bMr := FMr.binds (ps := ["net", "rule", "rows"]) fun _ _ _ _ _ _ us hl => match us, hl with | [_, _, _], _ => rfl
  have mMr := PySem.W.mg_of X G aMr
  have FJo : Fun K "_joined" "_joined" s_u_joined fJo _ := fun_mk (st := s_u_joined) lJo dJo kJo
  have bJo := FJo.binds (ps := ["row", "other"]) fun _ _ _ _ _ _ us hl => match us, hl with | [_, _], _ => rfl
  have mJo := PySem.W.mg_of X G aJo
  have FEa : Fun K "_early" "_early" s_u_early fEa _ := fun_mk (st := s_u_early) lEa dEa kEa
  have bEa := FEa.binds (ps := ["net", "row"]) fun _ _ _ _ _ _ us hl => match us, hl with | [_, _], _ => rfl
  have mEa := PySem.W.mg_of X G aEa
  have FFi : Fun K "_first" "_first" s_u_first fFi _ := fun_mk (st := s_u_first) lFi dFi kFi
  have bFi := FFi.binds (ps := ["net", "row"]) fun _ _ _ _ _ _ us hl => match us, hl with | [_, _], _ => rfl
  have mFi := PySem.W.mg_of X G aFi
  have FLt : Fun K "_late" "_late" s_u_late fLt _ := fun_mk (st := s_u_late) lLt dLt kLt
  have bLt := FLt.binds (ps := ["net", "row", "other"]) fun _ _ _ _ _ _ us hl => match us, hl with | [_, _, _], _ => rfl
  have mLt := PySem.W.mg_of X G aLt
  have FBo : Fun K "_both" "_both" s_u_both fBo _ := fun_mk (st := s_u_both) lBo dBo kBo
  have bBo := FBo.binds (ps := ["net", "row"]) fun _ _ _ _ _ _ us hl => match us, hl with | [_, _], _ => rfl
  have mBo := PySem.W.mg_of X G aBo
  have FSu : Fun K "_sure" "_sure" s_u_sure fSu _ := fun_mk (st := s_u_sure) lSu dSu kSu
  have bSu := FSu.binds (ps := ["net", "row"]) fun _ _ _ _ _ _ us hl => match us, hl with | [_, _], _ => rfl
  have mSu := PySem.W.mg_of X G aSu
  have FMd : FunD K "made" "made" (defArgs s_made) (defBody s_made) (defScope s_made) [] [("other", .non)] fMd _ := ⟨⟨_, _, _, _, _, _, _, _, _, _, rfl, lMd, dMd, .inl ⟨rfl, rfl⟩, .inr ⟨DMd, rfl, fun q hq => by
    simp only [List.mem_cons, List.not_mem_nil, or_false] at hq
    rcases hq with rfl
    · exact ⟨_, wMd_other, rfl⟩⟩⟩, kMd⟩
  have mMd := PySem.W.mg_of X G aMd
  have FIc : Fun K "is_covered" "is_covered" s_is_covered fIc _ := fun_mk (st := s_is_covered) lIc dIc kIc
  have bIc := FIc.binds (ps := ["row", "other"]) fun _ _ _ _ _ _ us hl => match us, hl with | [_, _], _ => rfl
  have mIc := PySem.W.mg_of X G aIc
  have FCv : Fun K "covers" "covers" s_covers fCv _ := fun_mk (st := s_covers) lCv dCv kCv
  have bCv := FCv.binds (ps := ["net", "row", "other"]) fun _ _ _ _ _ _ us hl => match us, hl with | [_, _, _], _ => rfl
  have mCv := PySem.W.mg_of X G aCv
  have FTd : Fun K "is_told" "is_told" s_is_told fTd _ := fun_mk (st := s_is_told) lTd dTd kTd
  have bTd := FTd.binds (ps := ["net", "value"]) fun _ _ _ _ _ _ us hl => match us, hl with | [_, _], _ => rfl
  have mTd := PySem.W.mg_of X G aTd
  have FIp : Fun K "is_pair" "is_pair" s_is_pair fIp _ := fun_mk (st := s_is_pair) lIp dIp kIp
  have bIp := FIp.binds (ps := ["value"]) fun _ _ _ _ _ _ us hl => match us, hl with | [_], _ => rfl
  have mIp := PySem.W.mg_of X G aIp
  have FRr : Fun K "_reason_row" "_reason_row" s_u_reason_row fRr _ := fun_mk (st := s_u_reason_row) lRr dRr kRr
  have bRr := FRr.binds (ps := ["net", "words", "rows", "why"]) fun _ _ _ _ _ _ us hl => match us, hl with | [_, _, _, _], _ => rfl
  have mRr := PySem.W.mg_of X G aRr
  have FLf : Fun K "_line_fault" "_line_fault" s_u_line_fault fLf _ := fun_mk (st := s_u_line_fault) lLf dLf kLf
  have bLf := FLf.binds (ps := ["net", "words", "rows", "line"]) fun _ _ _ _ _ _ us hl => match us, hl with | [_, _, _, _], _ => rfl
  have mLf := PySem.W.mg_of X G aLf
  have FLs : Fun K "list_fault" "list_fault" s_list_fault fLs _ := fun_mk (st := s_list_fault) lLs dLs kLs
  have bLs := FLs.binds (ps := ["net", "value"]) fun _ _ _ _ _ _ us hl => match us, hl with | [_, _], _ => rfl
  have mLs := PySem.W.mg_of X G aLs
  have FLi : Fun K "is_list" "is_list" s_is_list fLi _ := fun_mk (st := s_is_list) lLi dLi kLi
  have bLi := FLi.binds (ps := ["net", "value"]) fun _ _ _ _ _ _ us hl => match us, hl with | [_, _], _ => rfl
  have mLi := PySem.W.mg_of X G aLi
  have FUl : Fun K "used_lines" "used_lines" s_used_lines fUl _ := fun_mk (st := s_used_lines) lUl dUl kUl
  have bUl := FUl.binds (ps := ["net", "lines"]) fun _ _ _ _ _ _ us hl => match us, hl with | [_, _], _ => rfl
  have mUl := PySem.W.mg_of X G aUl
  have FRo : Fun K "_law_roll" "_law_roll" s_law_roll fRo _ := fun_mk (st := s_law_roll) lRo dRo kRo
  have bRo := FRo.binds (ps := ["dice", "total"]) fun _ _ _ _ _ _ us hl => match us, hl with | [_, _], _ => rfl
  have mRo := PySem.W.mg_of X G aRo
  have FDi : Fun K "_law_dice" "_law_dice" s_law_dice fDi _ := fun_mk (st := s_law_dice) lDi dDi kDi
  have bDi := FDi.binds (ps := ["script", "spot"]) fun _ _ _ _ _ _ us hl => match us, hl with | [_, _], _ => rfl
  have mDi := PySem.W.mg_of X G aDi
  have FPi : Fun K "_law_pick" "_law_pick" s_law_pick fPi _ := fun_mk (st := s_law_pick) lPi dPi kPi
  have bPi := FPi.binds (ps := ["dice", "items"]) fun _ _ _ _ _ _ us hl => match us, hl with | [_, _], _ => rfl
  have mPi := PySem.W.mg_of X G aPi
  have FSh : Fun K "_law_shuffled" "_law_shuffled" s_law_shuffled fSh _ := fun_mk (st := s_law_shuffled) lSh dSh kSh
  have bSh := FSh.binds (ps := ["dice", "items"]) fun _ _ _ _ _ _ us hl => match us, hl with | [_, _], _ => rfl
  have mSh := PySem.W.mg_of X G aSh
  have FDr : Fun K "_law_nt_drawn" "_law_nt_drawn" s_law_nt_drawn fDr _ := fun_mk (st := s_law_nt_drawn) lDr dDr kDr
  have bDr := FDr.binds (ps := ["dice", "deeds", "works", "most", "horizon", "looks"]) fun _ _ _ _ _ _ us hl => match us, hl with | [_, _, _, _, _, _], _ => rfl
  have mDr := PySem.W.mg_of X G aDr
  have FWd : Fun K "_law_word" "_law_word" s_law_word fWd _ := fun_mk (st := s_law_word) lWd dWd kWd
  have bWd := FWd.binds (ps := ["call"]) fun _ _ _ _ _ _ us hl => match us, hl with | [_], _ => rfl
  have mWd := PySem.W.mg_of X G aWd
  have FAr : Fun K "_law_a_row" "_law_a_row" s_law_a_row fAr _ := fun_mk (st := s_law_a_row) lAr dAr kAr
  have bAr := FAr.binds (ps := ["dice", "plain"]) fun _ _ _ _ _ _ us hl => match us, hl with | [_, _], _ => rfl
  have mAr := PySem.W.mg_of X G aAr
  have FOd : Fun K "_law_odd_row" "_law_odd_row" s_law_odd_row fOd _ := fun_mk (st := s_law_odd_row) lOd dOd kOd
  have bOd := FOd.binds (ps := ["dice", "plain"]) fun _ _ _ _ _ _ us hl => match us, hl with | [_, _], _ => rfl
  have mOd := PySem.W.mg_of X G aOd
  have FFr : Fun K "_law_first" "_law_first" s_law_first fFr _ := fun_mk (st := s_law_first) lFr dFr kFr
  have bFr := FFr.binds (ps := ["words"]) fun _ _ _ _ _ _ us hl => match us, hl with | [_], _ => rfl
  have mFr := PySem.W.mg_of X G aFr
  have FMq : Fun K "_law_made_right" "_law_made_right" s_law_made_right fMq _ := fun_mk (st := s_law_made_right) lMq dMq kMq
  have bMq := FMq.binds (ps := ["dice", "plain", "net"]) fun _ _ _ _ _ _ us hl => match us, hl with | [_, _, _], _ => rfl
  have mMq := PySem.W.mg_of X G aMq
  have FOq : Fun K "_law_others_right" "_law_others_right" s_law_others_right fOq _ := fun_mk (st := s_law_others_right) lOq dOq kOq
  have bOq := FOq.binds (ps := ["dice", "plain", "net"]) fun _ _ _ _ _ _ us hl => match us, hl with | [_, _, _], _ => rfl
  have mOq := PySem.W.mg_of X G aOq
  have FLa : Fun K "law" "law" s_law fa _ := fun_mk (st := s_law) lLa dLa kLa
  have bLa := FLa.binds (ps := ["script"]) fun _ _ _ _ _ _ us hl => match us, hl with | [_], _ => rfl
  have mLa := PySem.W.mg_of X G aLa
  have FMk : FunD K "__init__" "Net.__init__" (defArgs m_Net_init) (defBody m_Net_init) (defScope m_Net_init) [.ref vMk0, .ref vMk1] [] fMk _ := ⟨⟨_, _, _, _, _, _, _, _, _, _, rfl, lMk, dMk, .inr ⟨by simp, TMk, _, [.ref vMk0, .ref vMk1], nTMk, rfl, lTMk, rfl, .cons rfl (.cons rfl (.nil))⟩, .inl rfl⟩, kMk⟩
  have mtMk : Meth K cNe "__init__" fMk := ⟨aMk, iMk, kMk⟩
  have FNd : Fun K "_need_event" "Net._need_event" m_Net_u_need_event fNd _ := fun_mk (st := m_Net_u_need_event) lNd dNd kNd
  have bNd := FNd.binds (ps := ["self", "event"]) fun _ _ _ _ _ _ us hl => match us, hl with | [_, _], _ => rfl
  have mtNd : Meth K cNe "_need_event" fNd := ⟨aNd, iNd, kNd⟩
  have FWo : Fun K "work_of" "Net.work_of" m_Net_work_of fWo _ := fun_mk (st := m_Net_work_of) lWo dWo kWo
  have bWo := FWo.binds (ps := ["self", "event"]) fun _ _ _ _ _ _ us hl => match us, hl with | [_, _], _ => rfl
  have mtWo : Meth K cNe "work_of" fWo := ⟨aWo, iWo, kWo⟩
  have FCo : Fun K "__contains__" "Net.__contains__" m_Net_contains fCo _ := fun_mk (st := m_Net_contains) lCo dCo kCo
  have bCo := FCo.binds (ps := ["self", "value"]) fun _ _ _ _ _ _ us hl => match us, hl with | [_, _], _ => rfl
  have mtCo : Meth K cNe "__contains__" fCo := ⟨aCo, iCo, kCo⟩
  have FEq : Fun K "__eq__" "Net.__eq__" m_Net_eq fEq _ := fun_mk (st := m_Net_eq) lEq dEq kEq
  have bEq := FEq.binds (ps := ["self", "other"]) fun _ _ _ _ _ _ us hl => match us, hl with | [_, _], _ => rfl
  have mtEq : Meth K cNe "__eq__" fEq := ⟨aEq, iEq, kEq⟩
  have FPw : Fun K "works" "Net.works" m_Net_works fPw _ := fun_mk (st := m_Net_works) lPw dPw kPw
  have bPw := FPw.binds (ps := ["self"]) fun _ _ _ _ _ _ us hl => match us, hl with | [_], _ => rfl
  have poPw : PropOf K cNe "works" qPw fPw := ⟨o1Pw, o2Pw, o3Pw, ⟨_, o4Pw⟩⟩
  have FPt : Fun K "told" "Net.told" m_Net_told fPt _ := fun_mk (st := m_Net_told) lPt dPt kPt
  have bPt := FPt.binds (ps := ["self"]) fun _ _ _ _ _ _ us hl => match us, hl with | [_], _ => rfl
  have poPt : PropOf K cNe "told" qPt fPt := ⟨o1Pt, o2Pt, o3Pt, ⟨_, o4Pt⟩⟩
  have qEn : Pl K mg "InvalidNet" cEn := pl_of eEn pEn mEn
  have qRw : Pl K mg "InvalidRow" cRw := pl_of eRw pRw mRw
  have qOp : Pl K mg "InvalidOperation" cOp := pl_of eOp pOp mOp
  have ex := exw_of xe
  have net := net_of nf
  have glo : Glo mg := ⟨⟨_, PySem.W.mg_of X G c_Far⟩, ⟨_, PySem.W.mg_of X G c_Lett⟩, ⟨_, PySem.W.mg_of X G c_Dawn⟩, ⟨_, PySem.W.mg_of X G c_Fst⟩, ⟨_, PySem.W.mg_of X G c_All⟩⟩
  have gLen := PySem.W.mg_of X G c_Len
  have gLook := PySem.W.mg_of X G c_Look
  have gDawn := PySem.W.mg_of X G c_Dawn
  have gEv := PySem.W.mg_of X G c_Ev
  have gWk := PySem.W.mg_of X G c_Wk
  have gBd := PySem.W.mg_of X G c_Bd
  have hRu : ∀ H : Hp, SqT K H cRu (rulesL.map V.str) := fun H => .inr ⟨_, _, nRu, lRu, rfl, rfl, by show 6 ≤ sizeLine; decide, .cons ⟨_, rfl⟩ (.cons ⟨_, rfl⟩ (.cons ⟨_, rfl⟩ (.cons ⟨_, rfl⟩ (.cons ⟨_, rfl⟩ (.cons ⟨_, rfl⟩ .nil)))))⟩
  have hV1 : ∀ H : Hp, SqT K H vMk1 [] := fun H => .inr ⟨_, #[], nV1, lV1, rfl, rfl, by show 0 ≤ sizeLine; decide, .nil⟩
  obtain ⟨dMk, vMk, bMk⟩ := FMk.binds1 (ps := ["self", "lasts", "works", "bounds"]) 4 2 (by simp) rfl (fun T kV doc pm an cdv ct us its hu hi => match us, its, hu, hi with | [_, _, _, _], [_, _], _, _ => ⟨_, rfl, rfl⟩)
  have vMk : Vals [] dMk := vMk
  cases vMk
  obtain ⟨dM3, wM3, bM3⟩ := FMk.binds1 (ps := ["self", "lasts", "works", "bounds"]) 3 1 (by simp) rfl (fun T kV doc pm an cdv ct us its hu hi => match us, its, hu, hi with | [_, _, _], [_, _], _, _ => ⟨_, rfl, rfl⟩)
  obtain ⟨dMd, vMd, bMd⟩ := FMd.binds0 (ps := ["net", "rule", "row", "other"]) 3 (by simp) rfl (fun D doc pm an cdv ct us ks hu hk => match us, ks, hu, hk with | [_, _, _], [_], _, _ => ⟨_, _, _, _, _, _, rfl, rfl, rfl⟩)
  obtain ⟨_, kbMd⟩ := FMd.kbinds0 (ps := ["net", "rule", "row", "other"]) 3 ["other"] [] (fun us _ ws => us ++ ws) (by simp) (fun q hq => by cases hq) (fun a _ b => a.append b) (fun D doc pm an cdv ct us mv ws hu hm hw => match us, mv, ws, hu, hm, hw with | [_, _, _], [], [_], _, _, _ => rfl)
  refine ⟨PySem.W.fnOf "law" "law" (defArgs s_law) (defBody s_law) (defScope s_law) .none kVLa dcLa pmLa anLa (.ref uLa) ctLa, [(uMq, pMq), (uOq, pOq), (uLa, pLa)], spLaw K [(pMq, QM), (pOq, QO), (pLa, QL)], ?_, ?_, ?_, fun t v => .of_eq rfl, fun H a ns hl hS hH => ?_, fun base _ TB => ?_⟩
  · exact three_all hMq hOq hLa
  · exact three_all nMq nOq nLa
  · exact three_all (PySem.W.codeHd_of_K X tMq) (PySem.W.codeHd_of_K X tOq) (PySem.W.codeHd_of_K X tLa)
  · exact ⟨a, ns, rfl, hS, by omega, three_all (LamX.TabS.nil (hH (uMq, pMq) (by simp))) (LamX.TabS.nil (hH (uOq, pOq) (by simp))) (LamX.TabS.nil (hH (uLa, pLa) (by simp))), fun _ => rfl⟩
  have tbM := TB (uMq, pMq) (by simp)
  have tbO := TB (uOq, pOq) (by simp)
  have tbL := TB (uLa, pLa) (by simp)
  have n1 : pMq ≠ pOq := of_decide_eq_false neMqOq
  have n2 : pMq ≠ pLa := of_decide_eq_false neMqLa
  have n3 : pOq ≠ pLa := of_decide_eq_false neOqLa
  have GBt := ok_bet (P := l.prog) (w := w) (mg := mg) (base := base) FBt y_isinstance y_int y_bool
  have GIi := ok_int (P := l.prog) (w := w) (mg := mg) (base := base) FIi GBt FBt.kp bBt mBt glo
  have GIn := ok_name (P := l.prog) (w := w) (mg := mg) (base := base) FIn glo y_isinstance y_str y_len y_all
  have GAl := ok_lasts (P := l.prog) (w := w) (mg := mg) (base := base) FAl ⟨GIn, FIn.kp, bIn, mIn⟩ ⟨GBt, FBt.kp, bBt, mBt⟩ gLen y_isinstance y_dict y_len y_all
  have GIl := ok_lot (P := l.prog) (w := w) (mg := mg) (base := base) FIl ⟨GIn, FIn.kp, bIn, mIn⟩ y_isinstance y_tuple y_dict y_len y_all
  have GIk := ok_known (P := l.prog) (w := w) (mg := mg) (base := base) FIk gDawn y_isinstance y_str
  have GIw := ok_work (P := l.prog) (w := w) (mg := mg) (base := base) FIw ⟨GIk, FIk.kp, bIk, mIk⟩ ⟨GBt, FBt.kp, bBt, mBt⟩ gDawn gLen gLook y_isinstance y_tuple y_len
  have GIb := ok_bound (P := l.prog) (w := w) (mg := mg) (base := base) FIb ⟨GIk, FIk.kp, bIk, mIk⟩ ⟨GIi, FIi.kp, bIi, mIi⟩ y_isinstance y_tuple y_len
  have GGo := ok_round (P := l.prog) (w := w) (mg := mg) (base := base) FGo y_range y_len
  have GCh := ok_chain (P := l.prog) (w := w) (mg := mg) (base := base) FCh ⟨GGo, FGo.kp, bGo, mGo⟩ y_sorted
  have GWf := ok_wf (P := l.prog) (w := w) (mg := mg) (base := base) FWf ⟨GIl, FIl.kp, bIl, mIl⟩ ⟨GIw, FIw.kp, bIw, mIw⟩ ⟨GCh, FCh.kp, bCh, mCh⟩ y_sorted
  have GBf := ok_bf (P := l.prog) (w := w) (mg := mg) (base := base) FBf ⟨GIl, FIl.kp, bIl, mIl⟩ ⟨GIb, FIb.kp, bIb, mIb⟩ y_sorted
  have GNf := ok_nf (P := l.prog) (w := w) (mg := mg) (base := base) FNf ⟨GAl, FAl.kp, bAl, mAl⟩ ⟨GWf, FWf.kp, bWf, mWf⟩ ⟨GBf, FBf.kp, bBf, mBf⟩ gEv gWk gBd
  have GTr := ok_told (P := l.prog) (w := w) (mg := mg) (base := base) FTr gDawn
  have GMk := ok_init (P := l.prog) (w := w) (mg := mg) (base := base) FMk ⟨GNf, FNf.kp, bNf, mNf⟩ ⟨GTr, FTr.kp, bTr, mTr⟩ net.n y_sorted
  have GPw := ok_pw (P := l.prog) (w := w) (mg := mg) (base := base) FPw net.n y_dict
  have GPt := ok_pt (P := l.prog) (w := w) (mg := mg) (base := base) FPt net.n y_tuple
  have GNd := ok_ne (P := l.prog) (w := w) (mg := mg) (base := base) FNd net.n gDawn y_isinstance y_str
  have GWo := ok_wk (P := l.prog) (w := w) (mg := mg) (base := base) FWo net.n mtNd GNd bNd
  have GCo := ok_co (P := l.prog) (w := w) (mg := mg) (base := base) FCo net.n y_isinstance y_str
  have GEq := ok_eq (P := l.prog) (w := w) (mg := mg) (base := base) FEq net.n mNe net.ic y_isinstance
  have GNn := ok_nnE (P := l.prog) (w := w) (mg := mg) (base := base) FNn mNe net.ic qEn y_isinstance
  have IN : InK l.prog w K mg base cNe fCo _ := ⟨GCo, aCo, iCo, bCo⟩
  have PWk : PropK l.prog w K mg base cNe "works" (rWorks K) qPw fPw _ := ⟨poPw, GPw, bPw⟩
  have PTo : PropK l.prog w K mg base cNe "told" (rTold K) qPt fPt _ := ⟨poPt, GPt, bPt⟩
  have WK : MethE l.prog w K mg base cNe "work_of" rWkN fWo _ := ⟨mtWo, GWo, bWo⟩
  have EQ : EqK l.prog w K mg base cNe fEq _ := ⟨GEq, aEq, iEq, bEq, net.kn "tuple" (by simp), sT⟩
  have GPc := ok_place2 (P := l.prog) (w := w) (mg := mg) (base := base) FPc IN gDawn
  have GIs := ok_iw2 (P := l.prog) (w := w) (mg := mg) (base := base) FIs PWk net.n y_isinstance y_str
  have GIr := ok_irE (P := l.prog) (w := w) (mg := mg) (base := base) FIr ⟨GNn, FNn.kp, bNn, mNn⟩ ⟨GPc, FPc.kp, bPc, mPc⟩ ⟨GIi, FIi.kp, bIi, mIi⟩ ⟨GIs, FIs.kp, bIs, mIs⟩ WK net.n y_isinstance y_tuple y_len
  have GNr := ok_nrE (P := l.prog) (w := w) (mg := mg) (base := base) FNr ⟨GIr, FIr.kp, bIr, mIr⟩ qRw
  have GTb := ok_tb (P := l.prog) (w := w) (mg := mg) (base := base) (K := K) FTb
  have GJo := ok_jo (P := l.prog) (w := w) (mg := mg) (base := base) FJo
  have GEa := ok_ea (P := l.prog) (w := w) (mg := mg) (base := base) FEa WK PWk net.n
  have GFi := ok_fi (P := l.prog) (w := w) (mg := mg) (base := base) FFi WK PWk net.n
  have GLt := ok_lt (P := l.prog) (w := w) (mg := mg) (base := base) FLt WK net.n
  have GBo := ok_bt (P := l.prog) (w := w) (mg := mg) (base := base) FBo WK PWk net.n
  have GSu := ok_su (P := l.prog) (w := w) (mg := mg) (base := base) FSu PWk net.n y_min
  have GMr := ok_mr (P := l.prog) (w := w) (mg := mg) (base := base) FMr ⟨GJo, FJo.kp, bJo, mJo⟩ ⟨GLt, FLt.kp, bLt, mLt⟩ ⟨GEa, FEa.kp, bEa, mEa⟩ ⟨GFi, FFi.kp, bFi, mFi⟩ ⟨GBo, FBo.kp, bBo, mBo⟩ ⟨GSu, FSu.kp, bSu, mSu⟩
  have GMd := ok_mdE (P := l.prog) (w := w) (mg := mg) (base := base) FMd ⟨GNn, FNn.kp, bNn, mNn⟩ ⟨GNr, FNr.kp, bNr, mNr⟩ ⟨GTb, FTb.kp, bTb, mTb⟩ ⟨GMr, FMr.kp, bMr, mMr⟩ ⟨GIi, FIi.kp, bIi, mIi⟩ qOp qRw mRu hRu
  have GIc := ok_ic (P := l.prog) (w := w) (mg := mg) (base := base) (K := K) FIc
  have GCv := ok_cvE (P := l.prog) (w := w) (mg := mg) (base := base) FCv ⟨GNn, FNn.kp, bNn, mNn⟩ ⟨GNr, FNr.kp, bNr, mNr⟩ ⟨GIc, FIc.kp, bIc, mIc⟩
  have GIp := ok_pr2 (P := l.prog) (w := w) (mg := mg) (base := base) FIp y_isinstance y_tuple y_len
  have GRr := ok_rr (P := l.prog) (w := w) (mg := mg) (base := base) FRr ⟨GIp, FIp.kp, bIp, mIp⟩ mRu hRu y_isinstance y_tuple y_str y_len
  have GLf := ok_lf (P := l.prog) (w := w) (mg := mg) (base := base) FLf ⟨GIp, FIp.kp, bIp, mIp⟩ ⟨GIr, FIr.kp, bIr, mIr⟩ ⟨GRr, FRr.kp, bRr, mRr⟩
  have GLs := ok_lsE (P := l.prog) (w := w) (mg := mg) (base := base) FLs ⟨GNn, FNn.kp, bNn, mNn⟩ PTo ⟨GLf, FLf.kp, bLf, mLf⟩ net.n y_isinstance y_tuple y_enumerate
  have GLi := ok_ilE (P := l.prog) (w := w) (mg := mg) (base := base) FLi ⟨GLs, FLs.kp, bLs, mLs⟩
  have GUl := ok_ulE (P := l.prog) (w := w) (mg := mg) (base := base) FUl ⟨GLi, FLi.kp, bLi, mLi⟩ qOp
  have GTd := ok_tdE (P := l.prog) (w := w) (mg := mg) (base := base) FTd ⟨GNn, FNn.kp, bNn, mNn⟩ PTo EQ net.n
  have GRo := ok_roll (P := l.prog) (w := w) (mg := mg) (base := base) FRo
  have GDi := ok_dice (P := l.prog) (w := w) (mg := mg) (base := base) FDi y_len y_int y_abs y_max
  have GPi := ok_pick (K := K) (P := l.prog) (w := w) (mg := mg) (base := base) FPi FRo bRo mRo y_len
  have GSh := ok_shuf (P := l.prog) (w := w) (mg := mg) (base := base) FSh GRo FRo.kp bRo mRo y_list y_range y_len
  have GDr := ok_dr (P := l.prog) (w := w) (mg := mg) (base := base) FDr ⟨GRo, FRo.kp, bRo, mRo⟩ ⟨GPi, FPi.kp, bPi, mPi⟩ ⟨GSh, FSh.kp, bSh, mSh⟩ y_range y_str y_list y_enumerate y_max y_int y_len
  have MK : NetM l.prog w K mg base cNe fMk _ := ⟨⟨net.mks, aMk, iMk, net.kp⟩, GMk, mNe, bMk⟩
  have ND : NetD K _ vMk1 dM3 := ⟨bM3, wM3, hV1⟩
  have MD : MdX l.prog w K mg base cNe cEn cOp cRw fMd _ dMd := ⟨GMd, FMd.kp, mMd, bMd, vMd, kbMd⟩
  have WM : WdK l.prog w K mg base cEn cRw cOp fWd _ := ⟨FWd, FWd.kp, bWd, mWd, mEn, mRw, mOp, ⟨_, mDy⟩⟩
  have GAr := ok_ar (P := l.prog) (w := w) (mg := mg) (base := base) FAr ⟨GRo, FRo.kp, bRo, mRo⟩ ⟨GPi, FPi.kp, bPi, mPi⟩ y_sorted
  have GOd := ok_od (P := l.prog) (w := w) (mg := mg) (base := base) FOd ⟨GAr, FAr.kp, bAr, mAr⟩ ⟨GPi, FPi.kp, bPi, mPi⟩ y_sorted y_list
  have GFr := ok_first (P := l.prog) (w := w) (mg := mg) (base := base) (K := K) FFr y_len
  have tkM : TkS K base mg [(pMq, QM), (pOq, QO), (pLa, QL)] "_law_made_right" "_law_made_right" s_law_made_right fMq uMq pMq := ⟨tbM, by simp, (un3 n1 n2 n3).1, fun oc od kV doc pm an cdv ct osl lk => code_is lk lMq⟩
  have tkO : TkS K base mg [(pMq, QM), (pOq, QO), (pLa, QL)] "_law_others_right" "_law_others_right" s_law_others_right fOq uOq pOq := ⟨tbO, by simp, (un3 n1 n2 n3).2.1, fun oc od kV doc pm an cdv ct osl lk => code_is lk lOq⟩
  have tkL : TkS K base mg [(pMq, QM), (pOq, QO), (pLa, QL)] "law" "law" s_law fa uLa pLa := ⟨tbL, by simp, (un3 n1 n2 n3).2.2, fun oc od kV doc pm an cdv ct osl lk => code_is lk lLa⟩
  have GMq := ok_mr2 (P := l.prog) (w := w) (mg := mg) (base := base) FMq tkM ⟨GRo, FRo.kp, bRo, mRo⟩ ⟨GPi, FPi.kp, bPi, mPi⟩ ⟨GAr, FAr.kp, bAr, mAr⟩ ⟨GOd, FOd.kp, bOd, mOd⟩ ⟨GFr, FFr.kp, bFr, mFr⟩ MD WM ex net.kn y_range y_zip
  have GOq := ok_or (P := l.prog) (w := w) (mg := mg) (base := base) FOq tkO ⟨GRo, FRo.kp, bRo, mRo⟩ ⟨GPi, FPi.kp, bPi, mPi⟩ ⟨GAr, FAr.kp, bAr, mAr⟩ ⟨GOd, FOd.kp, bOd, mOd⟩ ⟨GFr, FFr.kp, bFr, mFr⟩ ⟨GCv, FCv.kp, bCv, mCv⟩ ⟨GUl, FUl.kp, bUl, mUl⟩ ⟨GIr, FIr.kp, bIr, mIr⟩ ⟨GTd, FTd.kp, bTd, mTd⟩ ⟨GLi, FLi.kp, bLi, mLi⟩ ⟨GLs, FLs.kp, bLs, mLs⟩ WM ex net.ic kT net.kn y_range y_zip
  exact ok_law (P := l.prog) (w := w) (mg := mg) (base := base) FLa tkL ⟨GDi, FDi.kp, bDi, mDi⟩ ⟨GRo, FRo.kp, bRo, mRo⟩ ⟨GDr, FDr.kp, bDr, mDr⟩ ⟨GMq, FMq.kp, bMq, mMq⟩ ⟨GOq, FOq.kp, bOq, mOq⟩ MK ND MD ⟨GCv, FCv.kp, bCv, mCv⟩ WM ex net.kn y_len y_max y_min y_range
theorem walk {l : PySem.W.OpenLaw} {q : Program} {loose : List Str} {XP : (Str → Option Value) → Heap → Prop} {YP : World → Heap → Prop} {d : DefRec} {K : Params → PySem.W.Frag} (hn : l.most = some 63) (hdf : d.params.defaults = [])
    (hY : ∀ (w : World) (h : Heap), YP w h → (K w.params).In h)
    (F : ∀ (w : World) (mg : Str → Option Value) (fa : Addr) (h : Heap), YP w h → (K w.params).In h → h.Ns mainGlobals mg → mg d.name = some (.ref fa) →
      ∃ (fd : FuncData) (cs : List (Addr × Addr)) (sp : Sp), (∀ p ∈ cs, h.get? p.2 = some tabO) ∧ (∀ p ∈ cs, (K w.params).lookup p.2 = none) ∧ (∀ p ∈ cs, PySem.W.CodeHd h p.1 p.2) ∧ (∀ (t : Shared) (u : Value), BindsTo t fd ⟨[u], []⟩ [("script", u)]) ∧
        (∀ (H : Hp) (a : Addr) (ns : List Int), ns.length ≤ 63 → SqL (K w.params) H a (ns.map V.int) → (∀ p ∈ cs, H p.2 = some (.tbl #[])) → sp [.ref a] H (fun v _ => v = .bl true) E0) ∧
        ∀ base : Heap, (K w.params).In base → (∀ p ∈ cs, TabB base mg p.1 p.2) → FnG l.prog w (K w.params) mg base 12 fa fd ["script"] sp) :
    PySem.W.WalkO q loose XP YP l.row.toRowW d [] (fun f vs => PySem.call f vs) :=
  walkGT (n := 63) (k := 12) (x := "script") hn (by decide) hdf ⟨rfl, by decide, by decide⟩ hY F
end LW
open PySem PySem.W PyProof.Rows in
set_option maxRecDepth 100000 in
set_option maxHeartbeats 0 in
theorem PySem.Challenge.cw_dawnway_k25_errors_of_rows_holds : PySem.Challenge.rw_dawnway_k25_errors_of_rows.Holds := by
  w_on; o_law; k_head; (case hw => w_witness2)
  k_fill
  refine LW.walk (l := PySem.Challenge.rw_dawnway_k25_errors_of_rows) rfl rfl (fun w h Y => PySem.W.km_in_of Y) ?F
  case F =>
    intro w mg fa h Y KX G hmg
    have hT8 := PySem.W.km_tabs_of Y
    refine' LW.all_mk (pMq := 604) (pOq := 609) (pLa := 614) KX G hmg ?q7_gDy ?q7_gEn ?q7_gRw ?q7_gOp ?q7_gNe ?q7_gRu ?q7_aBt ?q7_lBt ?q7_dBt ?q7_kBt ?q7_aIi ?q7_lIi ?q7_dIi ?q7_kIi ?q7_aIn ?q7_lIn ?q7_dIn ?q7_kIn ?q7_aAl ?q7_lAl ?q7_dAl ?q7_kAl ?q7_aIl ?q7_lIl ?q7_dIl ?q7_kIl ?q7_aIk ?q7_lIk ?q7_dIk ?q7_kIk ?q7_aIw ?q7_lIw ?q7_dIw ?q7_kIw ?q7_aIb ?q7_lIb ?q7_dIb ?q7_kIb ?q7_aGo ?q7_lGo ?q7_dGo ?q7_kGo ?q7_aCh ?q7_lCh ?q7_dCh ?q7_kCh ?q7_aWf ?q7_lWf ?q7_dWf ?q7_kWf ?q7_aBf ?q7_lBf ?q7_dBf ?q7_kBf ?q7_aNf ?q7_lNf ?q7_dNf ?q7_kNf ?q7_aTr ?q7_lTr ?q7_dTr ?q7_kTr ?q7_aNn ?q7_lNn ?q7_dNn ?q7_kNn ?q7_aPc ?q7_lPc ?q7_dPc ?q7_kPc ?q7_aIs ?q7_lIs ?q7_dIs ?q7_kIs ?q7_aIr ?q7_lIr ?q7_dIr ?q7_kIr ?q7_aNr ?q7_lNr ?q7_dNr ?q7_kNr ?q7_aTb ?q7_lTb ?q7_dTb ?q7_kTb ?q7_aMr ?q7_lMr ?q7_dMr ?q7_kMr ?q7_aJo ?q7_lJo ?q7_dJo ?q7_kJo ?q7_aEa ?q7_lEa ?q7_dEa ?q7_kEa ?q7_aFi ?q7_lFi ?q7_dFi ?q7_kFi ?q7_aLt ?q7_lLt ?q7_dLt ?q7_kLt ?q7_aBo ?q7_lBo ?q7_dBo ?q7_kBo ?q7_aSu ?q7_lSu ?q7_dSu ?q7_kSu ?q7_aMd ?q7_lMd ?q7_dMd ?q7_kMd ?q7_wMd_other ?q7_aIc ?q7_lIc ?q7_dIc ?q7_kIc ?q7_aCv ?q7_lCv ?q7_dCv ?q7_kCv ?q7_aTd ?q7_lTd ?q7_dTd ?q7_kTd ?q7_aIp ?q7_lIp ?q7_dIp ?q7_kIp ?q7_aRr ?q7_lRr ?q7_dRr ?q7_kRr ?q7_aLf ?q7_lLf ?q7_dLf ?q7_kLf ?q7_aLs ?q7_lLs ?q7_dLs ?q7_kLs ?q7_aLi ?q7_lLi ?q7_dLi ?q7_kLi ?q7_aUl ?q7_lUl ?q7_dUl ?q7_kUl ?q7_aRo ?q7_lRo ?q7_dRo ?q7_kRo ?q7_aDi ?q7_lDi ?q7_dDi ?q7_kDi ?q7_aPi ?q7_lPi ?q7_dPi ?q7_kPi ?q7_aSh ?q7_lSh ?q7_dSh ?q7_kSh ?q7_aDr ?q7_lDr ?q7_dDr ?q7_kDr ?q7_aWd ?q7_lWd ?q7_dWd ?q7_kWd ?q7_aAr ?q7_lAr ?q7_dAr ?q7_kAr ?q7_aOd ?q7_lOd ?q7_dOd ?q7_kOd ?q7_aFr ?q7_lFr ?q7_dFr ?q7_kFr ?q7_aMq ?q7_lMq ?q7_dMq ?q7_kMq ?q7_aOq ?q7_lOq ?q7_dOq ?q7_kOq ?q7_aLa ?q7_lLa ?q7_dLa ?q7_kLa ?q7_aMk ?q7_iMk ?q7_lMk ?q7_dMk ?q7_kMk ?q7_lTMk ?q7_aNd ?q7_iNd ?q7_lNd ?q7_dNd ?q7_kNd ?q7_aWo ?q7_iWo ?q7_lWo ?q7_dWo ?q7_kWo ?q7_aCo ?q7_iCo ?q7_lCo ?q7_dCo ?q7_kCo ?q7_aEq ?q7_iEq ?q7_lEq ?q7_dEq ?q7_kEq ?q7_o1Pw ?q7_o2Pw ?q7_o3Pw ?q7_o4Pw ?q7_lPw ?q7_dPw ?q7_kPw ?q7_o1Pt ?q7_o2Pt ?q7_o3Pt ?q7_o4Pt ?q7_lPt ?q7_dPt ?q7_kPt ?q7_eEn ?q7_pEn ?q7_eRw ?q7_pRw ?q7_eOp ?q7_pOp ?q7_xe ?q7_nf ?q7_kT ?q7_sT ?q7_lRu ?q7_lV1 ?q7_tMq ?q7_nMq ?q7_tOq ?q7_nOq ?q7_tLa ?q7_nLa ?q7_neMqOq ?q7_neMqLa ?q7_neOqLa ?q7_c_Far ?q7_c_Lett ?q7_c_Dawn ?q7_c_Fst ?q7_c_All ?q7_c_Len ?q7_c_Look ?q7_c_Ev ?q7_c_Wk ?q7_c_Bd ?q7_z_isinstance ?q7_z_int ?q7_z_bool ?q7_z_str ?q7_z_len ?q7_z_all ?q7_z_range ?q7_z_tuple ?q7_z_list ?q7_z_dict ?q7_z_abs ?q7_z_max ?q7_z_min ?q7_z_sorted ?q7_z_enumerate ?q7_z_zip ?q7_hMq ?q7_hOq ?q7_hLa
    (case q7_gDy => k_is)
    (case q7_gEn => k_is)
    (case q7_gRw => k_is)
    (case q7_gOp => k_is)
    (case q7_gNe => k_is)
    (case q7_gRu => k_is)
    (case q7_aBt => k_is)
    (case q7_lBt => k_is)
    (case q7_dBt => k_is)
    (case q7_kBt => k_is)
    (case q7_aIi => k_is)
    (case q7_lIi => k_is)
    (case q7_dIi => k_is)
    (case q7_kIi => k_is)
    (case q7_aIn => k_is)
    (case q7_lIn => k_is)
    (case q7_dIn => k_is)
    (case q7_kIn => k_is)
    (case q7_aAl => k_is)
    (case q7_lAl => k_is)
    (case q7_dAl => k_is)
    (case q7_kAl => k_is)
    (case q7_aIl => k_is)
    (case q7_lIl => k_is)
    (case q7_dIl => k_is)
    (case q7_kIl => k_is)
    (case q7_aIk => k_is)
    (case q7_lIk => k_is)
    (case q7_dIk => k_is)
    (case q7_kIk => k_is)
    (case q7_aIw => k_is)
    (case q7_lIw => k_is)
    (case q7_dIw => k_is)
    (case q7_kIw => k_is)
    (case q7_aIb => k_is)
    (case q7_lIb => k_is)
    (case q7_dIb => k_is)
    (case q7_kIb => k_is)
    (case q7_aGo => k_is)
    (case q7_lGo => k_is)
    (case q7_dGo => k_is)
    (case q7_kGo => k_is)
    (case q7_aCh => k_is)
    (case q7_lCh => k_is)
    (case q7_dCh => k_is)
    (case q7_kCh => k_is)
    (case q7_aWf => k_is)
    (case q7_lWf => k_is)
    (case q7_dWf => k_is)
    (case q7_kWf => k_is)
    (case q7_aBf => k_is)
    (case q7_lBf => k_is)
    (case q7_dBf => k_is)
    (case q7_kBf => k_is)
    (case q7_aNf => k_is)
    (case q7_lNf => k_is)
    (case q7_dNf => k_is)
    (case q7_kNf => k_is)
    (case q7_aTr => k_is)
    (case q7_lTr => k_is)
    (case q7_dTr => k_is)
    (case q7_kTr => k_is)
    (case q7_aNn => k_is)
    (case q7_lNn => k_is)
    (case q7_dNn => k_is)
    (case q7_kNn => k_is)
    (case q7_aPc => k_is)
    (case q7_lPc => k_is)
    (case q7_dPc => k_is)
    (case q7_kPc => k_is)
    (case q7_aIs => k_is)
    (case q7_lIs => k_is)
    (case q7_dIs => k_is)
    (case q7_kIs => k_is)
    (case q7_aIr => k_is)
    (case q7_lIr => k_is)
    (case q7_dIr => k_is)
    (case q7_kIr => k_is)
    (case q7_aNr => k_is)
    (case q7_lNr => k_is)
    (case q7_dNr => k_is)
    (case q7_kNr => k_is)
    (case q7_aTb => k_is)
    (case q7_lTb => k_is)
    (case q7_dTb => k_is)
    (case q7_kTb => k_is)
    (case q7_aMr => k_is)
    (case q7_lMr => k_is)
    (case q7_dMr => k_is)
    (case q7_kMr => k_is)
    (case q7_aJo => k_is)
    (case q7_lJo => k_is)
    (case q7_dJo => k_is)
    (case q7_kJo => k_is)
    (case q7_aEa => k_is)
    (case q7_lEa => k_is)
    (case q7_dEa => k_is)
    (case q7_kEa => k_is)
    (case q7_aFi => k_is)
    (case q7_lFi => k_is)
    (case q7_dFi => k_is)
    (case q7_kFi => k_is)
    (case q7_aLt => k_is)
    (case q7_lLt => k_is)
    (case q7_dLt => k_is)
    (case q7_kLt => k_is)
    (case q7_aBo => k_is)
    (case q7_lBo => k_is)
    (case q7_dBo => k_is)
    (case q7_kBo => k_is)
    (case q7_aSu => k_is)
    (case q7_lSu => k_is)
    (case q7_dSu => k_is)
    (case q7_kSu => k_is)
    (case q7_aMd => k_is)
    (case q7_lMd => k_is)
    (case q7_dMd => k_is)
    (case q7_kMd => k_is)
    (case q7_wMd_other => k_is)
    (case q7_aIc => k_is)
    (case q7_lIc => k_is)
    (case q7_dIc => k_is)
    (case q7_kIc => k_is)
    (case q7_aCv => k_is)
    (case q7_lCv => k_is)
    (case q7_dCv => k_is)
    (case q7_kCv => k_is)
    (case q7_aTd => k_is)
    (case q7_lTd => k_is)
    (case q7_dTd => k_is)
    (case q7_kTd => k_is)
    (case q7_aIp => k_is)
    (case q7_lIp => k_is)
    (case q7_dIp => k_is)
    (case q7_kIp => k_is)
    (case q7_aRr => k_is)
    (case q7_lRr => k_is)
    (case q7_dRr => k_is)
    (case q7_kRr => k_is)
    (case q7_aLf => k_is)
    (case q7_lLf => k_is)
    (case q7_dLf => k_is)
    (case q7_kLf => k_is)
    (case q7_aLs => k_is)
    (case q7_lLs => k_is)
    (case q7_dLs => k_is)
    (case q7_kLs => k_is)
    (case q7_aLi => k_is)
    (case q7_lLi => k_is)
    (case q7_dLi => k_is)
    (case q7_kLi => k_is)
    (case q7_aUl => k_is)
    (case q7_lUl => k_is)
    (case q7_dUl => k_is)
    (case q7_kUl => k_is)
    (case q7_aRo => k_is)
    (case q7_lRo => k_is)
    (case q7_dRo => k_is)
    (case q7_kRo => k_is)
    (case q7_aDi => k_is)
    (case q7_lDi => k_is)
    (case q7_dDi => k_is)
    (case q7_kDi => k_is)
    (case q7_aPi => k_is)
    (case q7_lPi => k_is)
    (case q7_dPi => k_is)
    (case q7_kPi => k_is)
    (case q7_aSh => k_is)
    (case q7_lSh => k_is)
    (case q7_dSh => k_is)
    (case q7_kSh => k_is)
    (case q7_aDr => k_is)
    (case q7_lDr => k_is)
    (case q7_dDr => k_is)
    (case q7_kDr => k_is)
    (case q7_aWd => k_is)
    (case q7_lWd => k_is)
    (case q7_dWd => k_is)
    (case q7_kWd => k_is)
    (case q7_aAr => k_is)
    (case q7_lAr => k_is)
    (case q7_dAr => k_is)
    (case q7_kAr => k_is)
    (case q7_aOd => k_is)
    (case q7_lOd => k_is)
    (case q7_dOd => k_is)
    (case q7_kOd => k_is)
    (case q7_aFr => k_is)
    (case q7_lFr => k_is)
    (case q7_dFr => k_is)
    (case q7_kFr => k_is)
    (case q7_aMq => k_is)
    (case q7_lMq => k_is)
    (case q7_dMq => k_is)
    (case q7_kMq => k_is)
    (case q7_aOq => k_is)
    (case q7_lOq => k_is)
    (case q7_dOq => k_is)
    (case q7_kOq => k_is)
    (case q7_aLa => k_is)
    (case q7_lLa => k_is)
    (case q7_dLa => k_is)
    (case q7_kLa => k_is)
    (case q7_aMk => k_is)
    (case q7_iMk => k_is)
    (case q7_lMk => k_is)
    (case q7_dMk => k_is)
    (case q7_kMk => k_is)
    (case q7_lTMk => k_is)
    (case q7_aNd => k_is)
    (case q7_iNd => k_is)
    (case q7_lNd => k_is)
    (case q7_dNd => k_is)
    (case q7_kNd => k_is)
    (case q7_aWo => k_is)
    (case q7_iWo => k_is)
    (case q7_lWo => k_is)
    (case q7_dWo => k_is)
    (case q7_kWo => k_is)
    (case q7_aCo => k_is)
    (case q7_iCo => k_is)
    (case q7_lCo => k_is)
    (case q7_dCo => k_is)
    (case q7_kCo => k_is)
    (case q7_aEq => k_is)
    (case q7_iEq => k_is)
    (case q7_lEq => k_is)
    (case q7_dEq => k_is)
    (case q7_kEq => k_is)
    (case q7_o1Pw => k_is)
    (case q7_o2Pw => k_is)
    (case q7_o3Pw => k_is)
    (case q7_o4Pw => k_is)
    (case q7_lPw => k_is)
    (case q7_dPw => k_is)
    (case q7_kPw => k_is)
    (case q7_o1Pt => k_is)
    (case q7_o2Pt => k_is)
    (case q7_o3Pt => k_is)
    (case q7_o4Pt => k_is)
    (case q7_lPt => k_is)
    (case q7_dPt => k_is)
    (case q7_kPt => k_is)
    (case q7_eEn => first | kernel_rfl | k_is)
    (case q7_pEn => first | kernel_rfl | k_is)
    (case q7_eRw => first | kernel_rfl | k_is)
    (case q7_pRw => first | kernel_rfl | k_is)
    (case q7_eOp => first | kernel_rfl | k_is)
    (case q7_pOp => first | kernel_rfl | k_is)
    (case q7_xe => first | kernel_rfl | k_is)
    (case q7_nf => first | kernel_rfl | k_is)
    (case q7_kT => first | kernel_rfl | k_is)
    (case q7_sT => first | kernel_rfl | k_is)
    (case q7_lRu => k_is)
    (case q7_lV1 => k_is)
    (case q7_tMq => first | kernel_rfl | k_is)
    (case q7_nMq => first | kernel_rfl | k_is)
    (case q7_tOq => first | kernel_rfl | k_is)
    (case q7_nOq => first | kernel_rfl | k_is)
    (case q7_tLa => first | kernel_rfl | k_is)
    (case q7_nLa => first | kernel_rfl | k_is)
    (case q7_neMqOq => first | kernel_rfl | k_is)
    (case q7_neMqLa => first | kernel_rfl | k_is)
    (case q7_neOqLa => first | kernel_rfl | k_is)
    (case q7_c_Far => k_is)
    (case q7_c_Lett => k_is)
    (case q7_c_Dawn => k_is)
    (case q7_c_Fst => k_is)
    (case q7_c_All => k_is)
    (case q7_c_Len => k_is)
    (case q7_c_Look => k_is)
    (case q7_c_Ev => k_is)
    (case q7_c_Wk => k_is)
    (case q7_c_Bd => k_is)
    (case q7_z_isinstance => k_is)
    (case q7_z_int => k_is)
    (case q7_z_bool => k_is)
    (case q7_z_str => k_is)
    (case q7_z_len => k_is)
    (case q7_z_all => k_is)
    (case q7_z_range => k_is)
    (case q7_z_tuple => k_is)
    (case q7_z_list => k_is)
    (case q7_z_dict => k_is)
    (case q7_z_abs => k_is)
    (case q7_z_max => k_is)
    (case q7_z_min => k_is)
    (case q7_z_sorted => k_is)
    (case q7_z_enumerate => k_is)
    (case q7_z_zip => k_is)
    (case q7_hMq => exact hT8 _ (by k_mem))
    (case q7_hOq => exact hT8 _ (by k_mem))
    (case q7_hLa => exact hT8 _ (by k_mem))
