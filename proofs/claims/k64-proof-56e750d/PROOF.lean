import PyProof.Rows.All
import Wide.All
import OpenK.AllK
import Wide.FinOn
import PyProof.EqAt
import PyProof.EqKinds
import PyProof.TupleCall
import PyProof.ReprRoads
import PyProof.Rows.RuleB_pow
import KE.KExcMore
import KE.KExcMake
import KE.KExcIs
import KE.KDictCopyH
import HandS.ForMost
import HandS.Exc
import HandS.ExcOwn
import HandS.ExcValue
import HandS.ExcInit
import HandS.IsInst
import HandS.DictComp
import HandS.FStr
import HandS.RaiseMore
import HandS.Style
import PyProof.Rows.FactsExc_KeyError
import HandS.Wide
import HandS.Small
import HandS.TryMany
import HandS.ExcField
import HandS.Lambda
import HandS.WordsExc
import HandS.MakeKwOnly
import HandS.Defaults
import HandS.DictTup
import KE.KDictDisplayH
import HandS.Strs
import HandS.Set
import HandS.More
import HandS.Conv
import KE.SortData
import KE.DataCmp
import HandS.Walk
import HandS.Codes
import HandS.TupAny
import KE.KNestM
import PySem.Challenge.RW_dawnway_k64_errors_of_crews
set_option Elab.async false
set_option linter.all false
set_option maxRecDepth 100000
set_option maxHeartbeats 4000000
namespace DW
open PySem PySem.Spec PyProof.Rows L2

/-! ### promises of defs that may write out data: no repr is under way -/
structure FnG (P : Program) (w : World) (K : PySem.W.Frag) (mg : Str → Option Value) (base : Heap) (k : Nat) (f : Addr) (fd : FuncData) (ps : List Str) (sp : Sp) : Prop where
  len : ∀ vs H Q, sp vs H Q E0 → vs.length = ps.length
  run : ∀ (A : Around) (outer : List Env) (s : Shared) (H : Hp) (args : Args) (us : List Value) (vs : List V) (Q : VK),
    Room k A → A.guards = some [] → Env0 P w K mg base A outer s H → BindsTo s fd args (ps.zip us) → Vals vs us →
    sp vs H Q E0 → codeAny (model P w) A (.call (.ref f) args) (CR CX0 outer P w H s Q E0) s

section
variable {P : Program} {w : World} {K : PySem.W.Frag} {mg : Str → Option Value} {base : Heap}
theorem FnG.of {k : Nat} {f : Addr} {fd : FuncData} {ps : List Str} {sp : Sp} (F : FnOk P w K mg base CX0 k f fd ps sp) : FnG P w K mg base k f fd ps sp :=
  ⟨fun vs H Q h => F.len vs H Q E0 h, fun A outer s H args us vs Q hr _ e0 hb r h => F.run A outer s H args us vs Q E0 hr e0 hb r h⟩

theorem fng {x qual : Str} {st : Stmt} {f : Addr} {fd : FuncData} {N ps : List Str} {k : Nat} {sp : Sp} (F : Fun K x qual st f fd) (S : FnScope N ps (defScope st))
    (len : ∀ vs H Q, sp vs H Q E0 → vs.length = ps.length)
    (hbody : ∀ (cdv : Value) (A : Around) (outer : List Env) (s : Shared) (H : Hp) (vs : List V) (Q : VK),
      Room k (A.deeper (envOfC qual (defScope st) s.heap.objs.size f cdv)) → A.guards = some [] → sp vs H Q E0 →
      ∃ t, PSs (cxOf CX0 P w K mg base N qual (defScope st) f cdv A outer s H E0).nox (defBody st) t ∧
        t { nx := fun _ H' => Q .non H', rt := Q } (start N vs) H) : FnG P w K mg base (k + 1) f fd ps sp := by
  obtain ⟨oc, od, kV, doc, pm, an, cdv, ct, osl, rfl, lk, hcd⟩ := F.ex
  refine ⟨len, fun A outer s H args us vs Q hr hg env0 hb r hsp => ?_⟩
  have hlen := len _ _ _ hsp
  have inK : K.In s.heap := env0.mod.kin.keeps fun a o q => (env0.bs a o q).1
  have lim : s.heap.NoLimit := env0.mod.nolimit.keeps fun a o q => (env0.bs a o q).1
  have hk : ∀ y ∈ ps.zip us, (defScope st).names.lookup y.1 = some .local ∨
      ((defScope st).names.lookup y.1 = some .cell ∧ ((cellsFrom (s.heap.objs.size + 1) (defScope st).names []).lookup y.1).isSome = true) := by
    rintro ⟨n, v⟩ hy
    rcases S.par n (List.of_mem_zip hy).1 with q | q
    · exact Or.inl q
    · exact Or.inr ⟨q, PySem.W.cellsFrom_some _ _ _ (Or.inl q)⟩
  refine codeAny_call_function hr.depth (inK _ _ lk) rfl S.co S.gen rfl (PySem.W.codeRec_of inK hcd) (hb _ _ _ _ ?_)
  refine wpAny_newFunctionEnv_cells S.kind hk fun env he s1 x => ?_
  subst he
  refine ⟨lim.keeps x.toInCall.keep, codeAny_func ?_⟩
  obtain ⟨t, ht, hq⟩ := hbody cdv A outer s H vs Q (hr.deeper _) hg hsp
  have I0 : Inv (cxOf CX0 P w K mg base N qual (defScope st) f cdv A outer s H E0) [] (start N vs) H s1 := inv_start S hr.hd env0 hlen r x
  refine wpAny_mono (ht.nox.run [] s1 (start N vs) H _ I0 hq) (fun fl s' hs => ?_) fun e s' z => z
  cases fl with
  | brk =>
    obtain ⟨_, _, _, q⟩ := hs
    exact q.elim
  | cont =>
    obtain ⟨_, _, _, q⟩ := hs
    exact q.elim
  | next =>
    obtain ⟨σ', H', J, q⟩ := hs
    exact ⟨V.non, H', J.os, J.bare, J.base, J.hok, rfl, q⟩
  | ret u =>
    obtain ⟨v, σ', H', J, rv, q⟩ := hs
    exact ⟨v, H', J.os, J.bare, J.base, J.hok, rv, q⟩
end

section
variable {X : Cx} {k : Nat} {f C : Addr} {fd : FuncData} {ps : List Str} {sp : Sp} {x : Str} {p pos : Pos} {e : Expr} {es : List Expr} {t : TA}
theorem run_g {pins : List (Addr × Obj)} {σ : L2.St} {H : Hp} {s : Shared} {Q : VK} {us : List Value} {vs : List V} (F : FnG X.prog X.w X.K X.mg X.base k f fd ps sp)
    (hr : Room k X.A) (hg : X.A.guards = some []) (hb : Binds X.K fd ps []) (I : Inv X pins σ H s) (r : Vals vs us) (h : sp vs H Q E0) :
    wpAny (model X.prog X.w) X.A (call (.ref f) us) (EP X pins σ Q) X.xe s := by
  have hl : us.length = ps.length := r.length.symm.trans (F.len _ _ _ h)
  have b := hb s us I.kIn (by rw [List.append_nil]; exact hl)
  rw [List.append_nil] at b
  refine wpAny_call (codeAny_mono (F.run X.A X.stack s H ⟨us, []⟩ us vs Q hr hg I.env0 b r h) fun r s' hq => ?_)
  rcases r with er | fl
  · exact hq.elim
  · cases fl with
    | ret u => exact I.after hq
    | _ => exact False.elim hq
/-- a call of such a def -/
theorem pe_g (F : FnG X.prog X.w X.K X.mg X.base k f fd ps sp) (hr : Room k X.A) (hgu : X.A.guards = some []) (hg : Gl X x) (hm : X.mg x = some (.ref f))
    (hk : PySem.W.keepIn X.K (.ref f) = true) (hb : Binds X.K fd ps []) (ha : PA X (e :: es) t) (hdb : (x == ("__debug__" : Str)) = false := by decide)
    (he : starEach (e :: es) X.env = (false, eval e X.env) :: starEach es X.env := by rfl) (hpl : (backTo pos (starEach es X.env)).any (·.1) = false := by rfl) :
    PE X (.Call (.Name x p) (e :: es) [] pos) (tCall sp [] E0 t) := by
  refine ⟨fun pins s σ H Q I h => ?_⟩
  refine wpAny_Call_Name_kw (ld_glob I hg hm ?_ hdb)
  refine PySem.W.callWith_K (h₀ := X.base) I.ok.mod.kin hk (thn (ha.run pos pins s σ H _ I h) ?_) he hpl
  rintro us s1 ⟨vs, H1, I1, r, q⟩
  rw [List.append_nil] at q
  exact ⟨I1.kIn, run_g F hr hgu hb I1 r q⟩
end

/-! ### two new objects at once -/
section
variable {X : Cx} {pins : List (Addr × Obj)} {σ : L2.St} {H : Hp} {s : Shared}
theorem laid2 {h' : Heap} {a t : Addr} {o u : HO} {tk : Nat} (I : Inv X pins σ H s) (k : ∀ b v, s.heap.get? b = some v → h'.get? b = some v)
    (ha : s.heap.objs.size ≤ a) (ht : s.heap.objs.size ≤ t) (ne : t ≠ a) (n1 : ObjOk X.prog X.w (upd (upd H t u) a o) h' t u) (n2 : ObjOk X.prog X.w (upd (upd H t u) a o) h' a o) :
    Inv X pins σ (upd (upd H t u) a o) { s with heap := h', toks := tk } := by
  have na : H a = none := I.hok.fresh ha
  have nt : H t = none := I.hok.fresh ht
  have old : ∀ b v, H b = some v → upd (upd H t u) a o b = some v := fun b v q => by
    rw [upd_ne (ne_of_none q na), upd_ne (ne_of_none q nt)]; exact q
  have there : ∀ b v, s.heap.get? b = some v → b ≠ a ∧ b ≠ t := fun b v q =>
    ⟨Nat.ne_of_lt (Nat.lt_of_lt_of_le (Heap.lt_size q) ha), Nat.ne_of_lt (Nat.lt_of_lt_of_le (Heap.lt_size q) ht)⟩
  refine I.un ⟨fun b v q _ _ _ => k b v q, fun b v q _ _ _ => ⟨v.slots, k b v q⟩, fun b v q n _ => ?_, fun b v q _ => ⟨v, k b v q⟩,
    fun b xs q => old b _ q, fun b ob xs q => old b _ q, fun b qs q => ⟨#[], by rw [old b _ q]; simp⟩⟩ fun b v q => ?_
  · rw [upd_ne (there b v q).1, upd_ne (there b v q).2]; exact n
  · by_cases hb : b = a
    · subst hb; rw [upd_same] at q; cases q; exact n2
    · rw [upd_ne hb] at q
      by_cases hc : b = t
      · subst hc; rw [upd_same] at q; cases q; exact n1
      · rw [upd_ne hc] at q
        exact (I.hok b v q).stay (fun c z _ y => k c z y) (fun c y => old c _ y) fun c xs y => old c _ y
end

/-! ### exceptions that are held as values -/
abbrev exr (C : Addr) (d : Option Addr) (t : Addr) : Obj := { cls := .ref C, dict := d, data := .fields #[.ref t, .none, .none, .none, .bool false, .none] }
/-- at a: an exception of the class at C, its dict, its args at t -/
def exq (a C : Addr) (d : Option Addr) (t : Addr) : HO := .ext fun h => h.get? a = some (exr C d t)
theorem exq_ok {P : Program} {w : World} {H : Hp} {h : Heap} {a C t : Addr} {d : Option Addr} (e : h.get? a = some (exr C d t)) : ObjOk P w H h a (exq a C d t) :=
  ⟨e, ⟨_, e⟩, fun _ _ z q => q _ z⟩
theorem exq_at {P : Program} {w : World} {H : Hp} {h : Heap} {a C t : Addr} {d : Option Addr} (x : HOk P w H h) (e : H a = some (exq a C d t)) : h.get? a = some (exr C d t) := by
  have z : ObjOk P w H h a (.ext fun h => h.get? a = some (exr C d t)) := x a _ e
  exact z.1
theorem exq_tup {a C t : Addr} {d : Option Addr} {xs : List V} : exq a C d t ≠ .tup xs := fun z => by
  have y : HO.ext _ = HO.tup xs := z
  cases y
theorem exq_own {a C t b : Addr} {d : Option Addr} : exq a C d t ≠ .own b := fun z => by
  have y : HO.ext _ = HO.own b := z
  cases y
theorem exq_frz {a C t : Addr} {d : Option Addr} {o : Obj} {u : HO} : exq a C d t ≠ .frz o u := fun z => by
  have y : HO.ext _ = HO.frz o u := z
  cases y
theorem exq_tbl {a C t : Addr} {d : Option Addr} {qs : Array Value} : exq a C d t ≠ .tbl qs := fun z => by
  have y : HO.ext _ = HO.tbl qs := z
  cases y
/-- what the written part says of an exception class that is made, read and asked -/
structure ExK (K : PySem.W.Frag) (C : Addr) : Prop where
  kC : PySem.W.keepIn K (.ref C) = true
  cl : (PySem.W.clsIn K C).isSome = true
  hd : PySem.W.hasDictIn K C = true
  ga : PySem.W.findIn K (.ref C) "__getattribute__" = some (some (.builtin "BaseException.__getattribute__"))
  gg : PySem.W.findIn K (.ref C) "__getattr__" = some none
  sa : PySem.W.findIn K (.ref C) "__setattr__" = some (some (.builtin "object.__setattr__"))
  st : PySem.W.findIn K (.ref C) "__str__" = some (some (.builtin "BaseException.__str__")) ∨ PySem.W.findIn K (.ref C) "__str__" = some (some (.builtin "KeyError.__str__"))
  ex : PySem.W.subIn K (.ref C) (.type "BaseException") = some true
  cc : PySem.W.findIn K (.ref C) "__class__" = some (some (.builtin "object.__class__"))
  cg : PySem.W.specialIn K (.builtin "object.__class__") "__get__" = some (some (.builtin "getset_descriptor.__get__"))
  ct : PySem.W.takesIn K (.builtin "object.__class__") = some true
  ob : PySem.W.mroIn K C (.type "object") = some true
section
variable {X : Cx} {C fI : Addr} {bmB : List Value} {B newId initId : String} {x : Str} {e : Expr} {te : TE} {p pos : Pos}
/-- X(e), no __init__ of its own -/
def tExP (C : Addr) (te : TE) : TE := fun σ H Q => te σ H fun v H1 => ∀ a t, H1 a = none → H1 t = none → t ≠ a → Q (.ref a) (upd (upd H1 t (.tup [v])) a (exq a C none t))
theorem pe_exP (FB : ExcBaseFacts B newId initId bmB) (q : PySem.W.excInitIn X.K C bmB newId = true) (hi : PySem.W.findIn X.K (.ref C) "__init__" = some (some (.builtin initId)))
    (kC : PySem.W.keepIn X.K (.ref C) = true) (gC : X.mg x = some (.ref C)) (hg : Gl X x) (he : PE X e te)
    (hs : starEach [e] X.env = (false, eval e X.env) :: starEach [] X.env := by rfl) (hdb : (x == ("__debug__" : Str)) = false := by decide) :
    PE X (.Call (.Name x p) [e] [] pos) (tExP C te) := by
  refine ⟨fun pins s σ H Q I h => ?_⟩
  refine wpAny_Call_Name_kw (ld_glob I hg gC ?_ hdb)
  refine PySem.W.callWith_K (h₀ := X.base) I.ok.mod.kin kC ?_ hs (by rfl)
  rw [hs]
  show wpAny _ _ (spliced ((false, eval e X.env) :: backTo pos (starEach [] X.env))) _ _ s
  refine Calls.spliced_cons (thn (he.run pins s σ H _ I h) ?_)
  rintro u s1 ⟨v, H1, I1, r1, q1⟩
  refine Calls.spliced_nil ⟨I1.kIn, ?_⟩
  show wpAny _ _ (call (.ref C) [u]) _ _ _
  obtain ⟨nm, N, qn, bs, bm, hdct, sn, sub, ab, col, dd, k0, k1, k2, k3, k5, hC, hT⟩ := PySem.W.excInit_of I1.kIn q
  have hi' : PySem.W.Looks (model X.prog X.w) s1.heap (typeLookup (.ref C) "__init__") (some (.builtin initId)) := PySem.W.looks_findIn I1.kIn hi
  obtain ⟨hp, g, d, tk, os⟩ := s1
  refine PySem.W.call_B FB hT hC hi' (by show 1 ≤ sizeLine; rw [sizeLine_eq]; omega) fun h' k ea et => ?_
  have n1 : H1 (hp.objs.size + 1) = none := I1.hok.fresh (Nat.le_succ _)
  have n2 : H1 (hp.objs.size + 2) = none := I1.hok.fresh (Nat.le_add_right _ 2)
  have ne : hp.objs.size + 2 ≠ hp.objs.size + 1 := Nat.ne_of_gt (Nat.lt_succ_self _)
  refine ⟨.ref (hp.objs.size + 1), _, laid2 (tk := tk) I1 k (Nat.le_succ _) (Nat.le_add_right _ 2) ne ?_ (exq_ok ea), rfl, q1 _ _ n1 n2 ne⟩
  exact ⟨by show 1 ≤ sizeLine; rw [sizeLine_eq]; omega, [u], .cons r1 .nil, ⟨_, et, rfl, _, rfl⟩⟩
end
end DW
namespace DW
open PySem PySem.Spec PyProof.Rows L2

/-! ### data, a flat dict too -/
def keyD : Key → PyData
  | .inl i => .int i
  | .inr x => .str x
inductive Dd (K : PySem.W.Frag) (H : Hp) : V → PyData → Prop where
  | base {v : V} {d : PyData} (h : Dp K H v d) (n : d.hasDict = false) : Dd K H v d
  | dct {a : Addr} {kvs : List (Key × Int)} (h : H a = some (.dK (kvs.map fun p => (p.1, V.int p.2)))) :
      Dd K H (.ref a) (.dict (kvs.map fun p => (keyD p.1, PyData.int p.2)))
section
variable {X : Cx} {pins : List (Addr × Obj)} {σ : L2.St} {H : Hp} {s : Shared}
theorem key_reads {h : Heap} {k : Key} {u : Value} (e : keyIs k u = true) : Reads h u (keyD k) [] := by
  rcases keyIs_shape e with ⟨i, t, rfl, rfl⟩ | ⟨x, t, rfl, rfl⟩
  · exact .int i t
  · exact .str x t
theorem pairs_reads {h : Heap} {P : Program} {w : World} : ∀ {kvs : List (Key × Int)} {es : List DictEntry} {vs : List (Key × Value)},
    KV (kvs.map fun p => (p.1, V.int p.2)) vs → Pairs (mixKind P w) es vs →
    ReadsAll h (es.map (·.key)) ((kvs.map fun p => (keyD p.1, PyData.int p.2)).map (·.1)) [] ∧
    ReadsAll h (es.map (·.val)) ((kvs.map fun p => (keyD p.1, PyData.int p.2)).map (·.2)) []
  | [], _, _, r, q => by
    cases r
    cases q
    exact ⟨.nil, .nil⟩
  | p :: l, _, _, r, q => by
    cases r with
    | cons r1 r2 =>
      cases q with
      | cons q1 q2 q3 =>
        obtain ⟨z1, z2⟩ := pairs_reads (h := h) r2 q3
        obtain ⟨e1, e2⟩ := r1
        refine ⟨?_, ?_⟩
        · have y := key_reads (h := h) (by rw [← e1] at q1; exact q1)
          exact ReadsAll.cons (as := []) y z1
        · obtain ⟨t, e2⟩ := e2
          refine ReadsAll.cons (as := []) ?_ z2
          dsimp only
          rw [q2, e2]
          exact Reads.int p.2 t
theorem Dd.reads {v : V} {u : Value} {d : PyData} (I : Inv X pins σ H s) (h : Dd X.K H v d) (r : RelV v u) :
    ∃ as, Reads s.heap u d as ∧ (d.hasDict = true → sysModules ∉ as) := by
  cases h with
  | base h n =>
    obtain ⟨as, q⟩ := Dp.reads I d v u h r
    exact ⟨as, q, fun z => by rw [n] at z; cases z⟩
  | @dct a kvs h =>
    cases r
    obtain ⟨_, hs, vs, rel, o, es, ep, ho, hx, hd, _, hp, _⟩ := (show ObjOk X.prog X.w H s.heap a (.dK _) from I.hok a _ h)
    obtain ⟨z1, z2⟩ := pairs_reads (h := s.heap) rel hp
    refine ⟨_, Reads.dict ho hx.1 hd z1 z2, fun _ hm => ?_⟩
    have e : sysModules = a := by simpa using hm
    rw [e] at hs
    simp at hs
/-- repr(x) of data -/
def rRepr (K : PySem.W.Frag) : List V → Hp → VK → Prop := fun xs H Q => ∃ v d, xs = [v] ∧ Dd K H v d ∧ d.showable = true ∧ d.shown.length ≤ sizeLine ∧ d.depth ≤ 60 ∧ Q (.str d.shown) H
theorem call_repr (hg : X.A.guards = some []) (hu : X.A.units + 64 < cLine) : CallR X (.builtin "repr") (rRepr X.K) := by
  intro pins s σ H xs us Q I r h
  obtain ⟨v, d, rfl, hd, hs, hz, hp, q⟩ := h
  obtain ⟨u, rfl, r1⟩ := vals1 r
  obtain ⟨as, hr, hm⟩ := hd.reads I r1
  cases hr with
  | none => exact PySem.P.repr_of_none ⟨.str _, H, I.tok _, ⟨_, rfl⟩, q⟩
  | bool b => exact PySem.P.repr_of_bool ⟨.str _, H, I.tok _, ⟨_, rfl⟩, q⟩
  | int i t => exact PySem.P.repr_of_int (by simpa [PyData.showable] using hs) ⟨.str _, H, I.tok _, ⟨_, rfl⟩, q⟩
  | str x t => exact PySem.P.repr_of_str ⟨.str _, H, I.tok _, ⟨_, rfl⟩, q⟩ hz
  | list h1 h2 h3 h4 => exact repr_of_reads' (Reads.list h1 h2 h3 h4) hs hm hg (by omega) (fun _ _ z => z) (fun h' t tk k => ⟨.str _, H, I.kept (t' := tk) k, ⟨_, rfl⟩, q⟩) hz
  | tuple h1 h2 h3 h4 => exact repr_of_reads' (Reads.tuple h1 h2 h3 h4) hs hm hg (by omega) (fun _ _ z => z) (fun h' t tk k => ⟨.str _, H, I.kept (t' := tk) k, ⟨_, rfl⟩, q⟩) hz
  | dict h1 h2 h3 h4 h5 => exact repr_of_reads' (Reads.dict h1 h2 h3 h4 h5) hs hm hg (by omega) (fun _ _ z => z) (fun h' t tk k => ⟨.str _, H, I.kept (t' := tk) k, ⟨_, rfl⟩, q⟩) hz
/-- {x!r} of data -/
def tFmtD (K : PySem.W.Frag) (te : TE) : TE := fun σ H Q => te σ H fun v H1 => ∃ d, Dd K H1 v d ∧ d.showable = true ∧ d.shown.length ≤ sizeLine ∧ d.depth ≤ 60 ∧ Q (.str d.shown) H1
theorem pe_fmtD {e : Expr} {te : TE} {pos : Pos} (hg : X.A.guards = some []) (hu : X.A.units + 64 < cLine) (he : PE X e te) : PE X (.FormattedValue e 114 none pos) (tFmtD X.K te) := by
  refine ⟨fun pins s σ H Q I h => ?_⟩
  refine wpAny_FormattedValue_repr (thn (he.run pins s σ H _ I h) ?_)
  rintro u s1 ⟨v, H1, I1, r1, d, hd, hs, hz, hp, q⟩
  obtain ⟨as, hr, hm⟩ := hd.reads I1 r1
  have fin : ∀ (h' : Heap) (t tk : Nat), (∀ b o, s1.heap.get? b = some o → h'.get? b = some o) →
      wpAny (model X.prog X.w) X.A (formatField (.str d.shown t) Str.empty) (EP X pins σ Q) X.xe { s1 with heap := h', toks := tk } := fun h' t tk k =>
    wpAny_formatField_str ⟨.str d.shown, H1, (I1.kept (t' := tk) k).tok _, ⟨_, rfl⟩, q⟩ ⟨.str d.shown, H1, (I1.kept (t' := tk) k).tok _, ⟨_, rfl⟩, q⟩ hz
  cases hr with
  | none => exact pyReprObj_none (fin _ _ _ fun _ _ z => z)
  | bool b => exact pyReprObj_bool (fin _ _ _ fun _ _ z => z)
  | int i t => exact pyReprObj_int (by simpa [PyData.showable] using hs) (fin _ _ _ fun _ _ z => z)
  | str x t => exact pyReprObj_str (fin _ _ _ fun _ _ z => z) hz
  | list h1 h2 h3 h4 => exact pyReprObj_of_reads (Reads.list h1 h2 h3 h4) hs hm hg (by omega) (fun _ _ z => z) (fun h' t tk k => fin h' t tk k) hz
  | tuple h1 h2 h3 h4 => exact pyReprObj_of_reads (Reads.tuple h1 h2 h3 h4) hs hm hg (by omega) (fun _ _ z => z) (fun h' t tk k => fin h' t tk k) hz
  | dict h1 h2 h3 h4 h5 => exact pyReprObj_of_reads (Reads.dict h1 h2 h3 h4 h5) hs hm hg (by omega) (fun _ _ z => z) (fun h' t tk k => fin h' t tk k) hz
end

/-! ### isinstance, str, a field of an exception that is held -/
section
variable {X : Cx}
def rIsX (K : PySem.W.Frag) : List V → Hp → VK → Prop := fun xs H Q => ∃ (a C : Addr) (d : Option Addr) (t : Addr) (c : V) (u : Value) (b : Bool), xs = [.ref a, c] ∧ ClsV c u ∧ H a = some (exq a C d t) ∧
  (∀ x, d = some x → ∃ fs, H x = some (exd x fs)) ∧ ExK K C ∧ PySem.W.kitOne K (.ref C) u = some b ∧ Q (.bl b) H
theorem exq_inst {pins : List (Addr × Obj)} {σ : L2.St} {H : Hp} {s : Shared} {a C t : Addr} {d : Option Addr} (I : Inv X pins σ H s) (e : H a = some (exq a C d t))
    (hd : ∀ x, d = some x → ∃ fs, H x = some (exd x fs)) : ∃ od, PySem.W.InstAt s.heap a (exr C d t) C od := by
  have z := exq_at I.hok e
  cases d with
  | none => exact ⟨none, z, rfl, rfl, trivial⟩
  | some x =>
    obtain ⟨fs, ex⟩ := hd x rfl
    obtain ⟨mA, ⟨o, es, ep, ho, _⟩, _⟩ := exd_at I.hok ex
    exact ⟨some o, z, rfl, rfl, ho⟩
theorem call_isX : CallR X (.builtin "isinstance") (rIsX X.K) := by
  intro pins s σ H xs us Q I r h
  obtain ⟨a, C, d, t, c, u, b, rfl, hc, ha, hd, T, hk, q⟩ := h
  obtain ⟨u1, u2, rfl, r1, r2⟩ := vals2 r
  cases (show u1 = Value.ref a from r1)
  have e2 := hc.eq r2
  subst e2
  obtain ⟨od, J⟩ := exq_inst I ha hd
  exact PySem.W.kia_one (PySem.W.kitx_exc T.cl T.ga T.gg T.ex T.cc T.cg T.ct T.ob) I.kIn J hk (fun z => nomatch z) fun tk => ⟨.bl b, H, I.tok tk, rfl, q⟩
/-- str(e) -/
def rStrX (K : PySem.W.Frag) : List V → Hp → VK → Prop := fun xs H Q => ∃ (a C : Addr) (d : Option Addr) (t : Addr) (m : Str), xs = [.ref a] ∧ H a = some (exq a C d t) ∧ H t = some (.tup [.str m]) ∧
  ExK K C ∧ PySem.W.findIn K (.ref C) "__str__" = some (some (.builtin "BaseException.__str__")) ∧ Q (.str m) H
theorem call_strX (hu : X.A.units + 64 < cLine) : CallR X (.type "str") (rStrX X.K) := by
  intro pins s σ H xs us Q I r h
  obtain ⟨a, C, d, t, m, rfl, ha, ht, T, hs, q⟩ := h
  obtain ⟨u1, rfl, r1⟩ := vals1 r
  cases (show u1 = Value.ref a from r1)
  have z := exq_at I.hok ha
  obtain ⟨_, its, rv, o, ho, hc, n, hdt⟩ := (show ObjOk X.prog X.w H s.heap t (.tup [.str m]) from I.hok t _ ht)
  cases rv with
  | cons r2 r3 =>
    cases r3
    obtain ⟨tk, rfl⟩ := r2
    exact PySem.P.str_of_C_one (C := C) (by omega) ⟨I.kIn, _, _, z, rfl, rfl, rfl⟩ ⟨o, n, ho, hc, hdt⟩ hs T.ex ⟨.str m, H, I, ⟨_, rfl⟩, q⟩
/-- e.f -/
def tXfld (K : PySem.W.Frag) (f : Str) (te : TE) : TE := fun σ H Q => te σ H fun x H1 => ∃ (a C dx t : Addr) (fs : List (Str × V)) (v : V), x = .ref a ∧ H1 a = some (exq a C (some dx) t) ∧ H1 dx = some (exd dx fs) ∧
  ExK K C ∧ PySem.W.findIn K (.ref C) f = some none ∧ fs.lookup f = some v ∧ Q v H1
theorem pe_xfld {e : Expr} {te : TE} {pos : Pos} {f : Str} (he : PE X e te) (hb : attributeBase e f X.env (eval e X.env) = eval e X.env := by rfl) : PE X (.Attribute e f pos) (tXfld X.K f te) := by
  refine ⟨fun pins s σ H Q I h => ?_⟩
  refine attr_of hb (thn (he.run pins s σ H _ I h) ?_)
  rintro u s1 ⟨x, H1, I1, rx, a, C, dx, t, fs, v, rfl, ha, hx, T, hno, l, q⟩
  cases (show u = Value.ref a from rx)
  have z := exq_at I1.hok ha
  obtain ⟨mA, hns, hr⟩ := exd_at I1.hok hx
  obtain ⟨od, ho, hl⟩ := lookIn_ns hns
  obtain ⟨u, hu, ru⟩ := RelO.some_of (v := v) (o := mA f) (by rw [← l]; exact hr f)
  have J : PySem.W.InstAt s1.heap a (exr C (some dx) t) C (some od) := ⟨z, rfl, rfl, ho⟩
  exact PySem.PX.exc_get I1.kIn J T.ga T.gg T.ex (PySem.W.findObj_own T.hd hno rfl (by rw [hl, hu])) (handed_of ru) ⟨v, H1, I1.tok _, ru, q⟩
end

/-! ### self.f = e on an exception that has no dict yet -/
section
variable {X : Cx} {o e : Expr} {to te : TE} {f : Str} {p' pos : Pos}
def tXst (K : PySem.W.Frag) (bmB : List Value) (f : Str) (to te : TE) : TS := fun D σ H => te σ H fun y H1 => to σ H1 fun x H2 => ∃ a C t : Addr, x = .ref a ∧ ExK K C ∧ PySem.W.excOver K C bmB = true ∧ PySem.W.takerIn K C f = some none ∧
  H2 a = some (exq a C none t) ∧ ∀ dx, H2 dx = none → dx ≠ a → D.nx σ (upd (upd H2 dx (exd dx [(f, y)])) a (exq a C (some dx) t))
theorem ps_xst {B : String} {bmB : List Value} (SF : StoreFacts B bmB "object.__setattr__" "object") (ho : PE X o to) (he : PE X e te)
    (hs : swapsWith e (some (.Attribute o f p')) pos.line X.env = pure false := by rfl) : PS X (.Assign [.Attribute o f p'] e pos) (tXst X.K bmB f to te) := by
  refine ⟨fun pins s σ H D I h => ?_⟩
  refine plainObj_wpAny_Assign_Attribute (thn (he.run pins s σ H _ I h) fun u s1 h1 => ?_) hs
  obtain ⟨y, H1, I1, r1, q1⟩ := h1
  refine thn (ho.run pins s1 σ H1 _ I1 q1) fun v s2 h2 => ?_
  obtain ⟨x, H2, I2, r2, a, C, t, rfl, T, hov, htk, ea, q⟩ := h2
  cases (show v = Value.ref a from r2)
  have z := exq_at I2.hok ea
  obtain ⟨cd, hcd, hh⟩ := PySem.W.any_some T.hd
  have Lc : PySem.W.Looks (model X.prog X.w) s2.heap (classData C) cd := PySem.W.looks_clsIn I2.kIn hcd
  have hn : H2 s2.heap.objs.size = none := I2.hok.fresh (Nat.le_refl _)
  have hlt : a < s2.heap.objs.size := Heap.lt_size z
  have hne : s2.heap.objs.size ≠ a := Nat.ne_of_gt hlt
  have q := q _ hn hne
  obtain ⟨hp, g, d, tk, os⟩ := s2
  dsimp only at z hn hlt hne q Lc
  refine PySem.W.set_plain (od := none) I2.kIn ⟨z, rfl, rfl, trivial⟩ T.sa ?_
  refine PySem.W.osa_openX (s := ⟨hp, g, d, tk + 1, os⟩) (od := none) (r := none) SF I2.kIn ⟨z, rfl, rfl, trivial⟩ hov htk fun b => ?_
  refine wpAny_bind (wpAny_pure (wpAny_bind (PySem.W.instanceDict_exc (s := ⟨hp, g, d, tk + 1, os⟩) z Lc hh ?_)))
  show wpAny _ _ (Builtin.ObjectAttr.storeInDict hp.objs.size (.str f tk) f u) _ _ _
  have hget : ((hp.push (PySem.W.dictOf [] 0)).update a fun o => { o with dict := some hp.objs.size }).get? hp.objs.size = some (PySem.W.dictOf [] 0) := by
    rw [Heap.get?_update_other _ _ (Ne.symm hne)]
    exact Heap.get?_push_size hp rfl
  have hga : ((hp.push (PySem.W.dictOf [] 0)).update a fun o => { o with dict := some hp.objs.size }).get? a = some (exr C (some hp.objs.size) t) :=
    Heap.get?_update_self _ (Heap.get?_push_of_some _ z) rfl
  refine PySem.PX.store_in_new ⟨_, #[], 0, hget, rfl, fun e he => absurd he (by simp), fun _ => rfl⟩ fun h' tk' hns sb => ?_
  have keep : ∀ c v, c ≠ a → hp.get? c = some v → h'.get? c = some v := fun c v hc y => by
    have hcs : c ≠ hp.objs.size := Nat.ne_of_lt (Heap.lt_size y)
    rw [sb.2 c hcs, Heap.get?_update_other _ _ (Ne.symm hc)]
    exact Heap.get?_push_of_some _ y
  have ga' : h'.get? a = some (exr C (some hp.objs.size) t) := (sb.2 a (Ne.symm hne)).trans hga
  have na : ∀ {c : Addr}, H2 c = none → c ≠ a := fun {c} n y => by rw [y, ea] at n; cases n
  have nd : ∀ {c : Addr} {v : Obj}, hp.get? c = some v → c ≠ hp.objs.size := fun y => Nat.ne_of_lt (Heap.lt_size y)
  show SP X pins D .next ⟨h', g, d, tk', os⟩
  refine ⟨σ, _, I2.un (t' := tk') ⟨fun c v y n _ _ => keep c v (na n) y, fun c v y n _ _ => ⟨v.slots, keep c v (na n) y⟩, fun c v y n _ => ?_, fun c v y _ => ?_,
    fun c xs y => ?_, fun c ob xs y => ?_, fun c qs y => ⟨#[], ?_⟩⟩ fun c v y => ?_, q⟩
  · rw [upd_ne (na n), upd_ne (nd y)]; exact n
  · by_cases hc : c = a
    · exact ⟨_, by rw [hc]; exact ga'⟩
    · exact ⟨v, keep c v hc y⟩
  · rw [upd_ne (at_ne ea y exq_tup), upd_ne (ne_of_none y hn)]; exact y
  · rw [upd_ne (at_ne ea y exq_frz), upd_ne (ne_of_none y hn)]; exact y
  · rw [upd_ne (at_ne ea y exq_tbl), upd_ne (ne_of_none y hn), y]; simp
  · by_cases hc : c = a
    · subst hc; rw [upd_same] at y; cases y; exact exq_ok ga'
    · rw [upd_ne hc] at y
      by_cases hd : c = hp.objs.size
      · subst hd; rw [upd_same] at y; cases y
        exact exd_ok hns (relO_put (fs := []) r1 fun g => True.intro)
      · rw [upd_ne hd] at y
        refine (I2.hok c v y).stay (fun b v' hb y' => keep b v' ?_ y') (fun b y' => ?_) fun b xs y' => ?_
        · rcases hb with hb | hb
          · rw [hb]; exact hc
          · exact at_ne ea hb exq_own
        · rw [upd_ne (at_ne ea y' exq_own), upd_ne (ne_of_none y' hn)]; exact y'
        · rw [upd_ne (at_ne ea y' exq_tup), upd_ne (ne_of_none y' hn)]; exact y'
end
end DW
namespace DW
open PySem PySem.Spec PyProof.Rows L2

/-! ### X(e), X with an __init__ of its own, over any built-in base -/
/-- the class object at C: its __new__ is that of Bn, its built-in base B -/
def exnB (K : PySem.W.Frag) (C : Addr) (newId : String) (Bn B : String) : Bool := match K.lookup C with
  | some ⟨.type "type", _, .cls cd, sl⟩ => (match cd.mro, sl.toList with
    | .ref C' :: bm, [_, _, _, _, some (.builtin n), _] => C' == C && (n == newId && (!cd.hasDel && (bm.contains (.type Bn) && (bm.contains (.type B) &&
        (!bm.contains (.type "AttributeError") && !bm.contains (.type "NameError"))))))
    | _, _ => false)
  | _ => false
structure Bm (bm : List Value) (Bn B : String) : Prop where
  n : bm.contains (.type Bn) = true
  b : bm.contains (.type B) = true
  a : bm.contains (.type "AttributeError") = false
  m : bm.contains (.type "NameError") = false
theorem exn_of {K : PySem.W.Frag} {h : Heap} {C : Addr} {newId Bn B : String} (X : K.In h) (q : exnB K C newId Bn B = true) :
    ∃ nm N qn bs bm hdct sn sub ab col dd k0 k1 k2 k3 k5, h.get? C = some (excClassObj nm qn C N bs bm hdct sn sub ab col dd k0 k1 k2 k3 k5 newId) ∧ Bm bm Bn B := by
  unfold exnB at q
  split at q
  · rename_i dd cd sl ho
    split at q
    · rename_i C' bm k0 k1 k2 k3 n k5 hm hs
      simp only [Bool.and_eq_true, beq_iff_eq, Bool.not_eq_true'] at q
      obtain ⟨rfl, rfl, hdel, x1, x2, x3, x4⟩ := q
      obtain ⟨nm, bs, mro, ns, qn, hd, sn, sub, ab, col, del⟩ := cd
      dsimp only at hm hdel
      subst hm hdel
      obtain rfl : sl = #[k0, k1, k2, k3, some (.builtin n), k5] := by
        obtain ⟨l⟩ := sl
        simp only at hs
        rw [hs]
      exact ⟨nm, ns, qn, bs, bm, hd, sn, sub, ab, col, dd, k0, k1, k2, k3, k5, X _ _ ho, x1, x2, x3, x4⟩
    · cases q
  · cases q
/-- what is known of a built-in's __init__ -/
structure IniF (B initId : String) : Prop where
  pl : plainId initId = true
  en : entryFor table initId = some Builtin.«BaseException.__init__»
  sp : splitId initId = some (B, "__init__")
  kd : builtinKind initId = some .slot
  rw' : Manifest.signature? initId = some ⟨.positional, "*", B, .self, [⟨"args", .varPos, false⟩]⟩
  ns : (B != "*") = true
theorem IniF.of {B newId initId : String} {bm : List Value} (F : ExcBaseFacts B newId initId bm) : IniF B initId := ⟨F.init.plain, F.initEntry, F.initSplit, F.initKind, F.initRow, F.noStar⟩
theorem ini_key : IniF "KeyError" "KeyError.__init__" :=
  ⟨PyProof.Rows.excClass_KeyError.init.plain, PyProof.Rows.excClass_KeyError.initEntry, PyProof.Rows.excClass_KeyError.initSplit, PyProof.Rows.excClass_KeyError.initKind, PyProof.Rows.excClass_KeyError.initSig, PyProof.Rows.excClass_KeyError.notStar⟩

section
variable {prog : Program} {w : World} {M : Model} {A : Around} {E : Value → Shared → Prop} {R : Result → Shared → Prop} {h : Heap} {g : Array GenState} {d : Drawn} {t : Nat} {os : OsState}
variable {nm q : Str} {C N : Addr} {bs bm bmN : List Value} {hdct : Bool} {sn : List Str} {sub : List Value} {ab : Bool} {col : Option Bool} {dd : Option Addr} {k0 k1 k2 k3 k5 : Option Value} {Bn B newId inN initId : String}
variable {rest : List Value} {fI : Addr}
theorem newU_check (F : ExcBaseFacts Bn newId inN bmN) (b : Bm bm Bn B) (hC : h.get? C = some (excClassObj nm q C N bs bm hdct sn sub ab col dd k0 k1 k2 k3 k5 newId))
    {Q : Unit → Shared → Prop} (k : Q () ⟨h, g, d, t, os⟩) : wpAny M A (checkBuiltinCall newId ⟨.ref C :: rest, []⟩) Q E ⟨h, g, d, t, os⟩ := by
  have c1 : (Value.ref C :: bm).contains (.type Bn) = true := by
    rw [List.contains_cons, b.n]
    exact Bool.or_true _
  have s1 := F.noStar
  simp only [checkBuiltinCall, F.newKind, F.newSplit, F.newRow]
  repeat (first
    | refine wpAny_loadPart_at hC ?_
    | (refine wpAny_isSubtype_exc hC ?_; rw [c1])
    | refine wpAny_staticBase_exc hC ?_
    | refine wpAny_madeBy_exc hC ?_
    | simp only [bne_self_eq_false, Bool.false_eq_true, if_false]
    | wp_step)
  exact k
theorem newU (F : ExcBaseFacts Bn newId inN bmN) (b : Bm bm Bn B) (hC : h.get? C = some (excClassObj nm q C N bs bm hdct sn sub ab col dd k0 k1 k2 k3 k5 newId)) (hz : rest.length ≤ sizeLine)
    (k : R (.ok (.ret (.ref (h.objs.size + 1)))) ⟨(h.push (PySem.W.excTup rest)).push (exr C none h.objs.size), g, d, t, os⟩) : codeAny (model prog w) A (.builtin newId ⟨.ref C :: rest, []⟩) R ⟨h, g, d, t, os⟩ := by
  have e1 := F.ends
  have c1 : (Value.ref C :: bm).contains (.type Bn) = true := by
    rw [List.contains_cons, b.n]
    exact Bool.or_true _
  have c2 : (Value.ref C :: bm).contains (.type "AttributeError") = false := by
    rw [List.contains_cons, b.a]
    rfl
  have c3 : (Value.ref C :: bm).contains (.type "NameError") = false := by
    rw [List.contains_cons, b.m]
    rfl
  refine codeAny_builtinAt F.entry ?_
  unfold Builtin.«BaseException.__new__»
  refine PySem.wpAt_bind ?_
  show PySem.wpAt _ _ _ (stack >>= _) _ _ _
  refine PySem.wpAt_bind (PySem.wpAt_stack fun p below => PySem.wpAt_of_wpAny ?_)
  wp_walk
  refine PySem.wpAt_of_wpAny ?_
  rw [F.owner]
  repeat (first
    | with_reducible refine wpAny_madeHere_exc F.canon hC ?_
    | with_reducible refine wpAny_loadPart_at hC ?_
    | (with_reducible refine wpAny_isSubtype_exc hC ?_; first | rw [c1] | rw [c2] | rw [c3])
    | wp_step)
  show R _ _
  rw [Heap.size_push]
  exact k
theorem typeU (F : ExcBaseFacts Bn newId inN bmN) (b : Bm bm Bn B) (hC : h.get? C = some (excClassObj nm q C N bs bm hdct sn sub ab col dd k0 k1 k2 k3 k5 newId)) (hz : rest.length ≤ sizeLine)
    (hi : PySem.W.Looks (model prog w) h (typeLookup (.ref C) "__init__") (some (.ref fI))) (hb : ∀ self, PySem.W.Looks (model prog w) h (bindSpecial (.ref fI) self) (.ref fI, [self])) {Q : Fin → Shared → Prop}
    (k : codeAny (model prog w) A (.call (.ref fI) ⟨.ref (h.objs.size + 1) :: rest, []⟩)
      (fun r s' => match r with | .ok (.ret v) => v = .none ∧ Q (.done (.ret (.ref (h.objs.size + 1)))) s' | .ok _ => False | .error e => E e s')
      ⟨(h.push (PySem.W.excTup rest)).push (exr C none h.objs.size), g, d, t, os⟩) : wpAny (model prog w) A (Builtin.«type.__call__» ⟨.ref C :: rest, []⟩) Q E ⟨h, g, d, t, os⟩ := by
  repeat (first
    | with_reducible refine wpAny_loadPart_at hC ?_
    | with_reducible refine wpAny_madeBy_exc hC ?_
    | wp_step)
  refine codeAny_call_builtin_code (Code.quiet_builtin _ F.quiet) (newU_check F b hC (newU F b hC hz ?_))
  show wpAny _ _ _ _ _ _
  have kp : ∀ c o, h.get? c = some o → ((h.push (PySem.W.excTup rest)).push (exr C none h.objs.size)).get? c = some o := fun c o e => Heap.get?_push_of_some _ (Heap.get?_push_of_some _ e)
  have gC := kp _ _ hC
  have gX : ((h.push (PySem.W.excTup rest)).push (exr C none h.objs.size)).get? (h.objs.size + 1) = some (exr C none h.objs.size) := by heap_get
  have cC : (Value.ref C :: bm).contains (.ref C) = true := by simp
  have i1 := hi.keeps kp
  have b1 := (hb (.ref (h.objs.size + 1))).keeps kp
  unfold isInstance
  repeat (first
    | with_reducible refine wpAny_loadPart_at gX ?_
    | (with_reducible refine wpAny_isSubtype_exc gC ?_; rw [cC])
    | wp_step)
  show wpAny _ _ (typeLookup (.ref C) _) _ _ _
  refine i1.at (wpAny_holding (wpAny_bind (b1.at ?_)))
  refine wpAny_bind (wpAny_call (codeAny_mono k fun r s' z => ?_))
  cases r with
  | error e => exact z
  | ok fl =>
    cases fl with
    | ret v =>
      obtain ⟨rfl, z⟩ := z
      first
        | exact wpAny_pure (wpAny_pure z)
        | (wp_walk; exact z)
    | _ => exact False.elim z
theorem callU (F : ExcBaseFacts Bn newId inN bmN) (b : Bm bm Bn B) (hC : h.get? C = some (excClassObj nm q C N bs bm hdct sn sub ab col dd k0 k1 k2 k3 k5 newId)) (hz : rest.length ≤ sizeLine)
    (hi : PySem.W.Looks (model prog w) h (typeLookup (.ref C) "__init__") (some (.ref fI))) (hb : ∀ self, PySem.W.Looks (model prog w) h (bindSpecial (.ref fI) self) (.ref fI, [self]))
    (k : codeAny (model prog w) (A.under (.builtin "type.__call__" ⟨.ref C :: rest, []⟩)) (.call (.ref fI) ⟨.ref (h.objs.size + 1) :: rest, []⟩) (PySem.W.InitBack (h.objs.size + 1) R)
      ⟨(h.push (PySem.W.excTup rest)).push (exr C none h.objs.size), g, d, t, os⟩) : codeAny (model prog w) A (.call (.ref C) ⟨rest, []⟩) R ⟨h, g, d, t, os⟩ := by
  have f1 := tc_lookup
  have f2 := tc_bind (.ref C)
  have ty : (⟨h, g, d, t, os⟩ : Shared).TypeIs (.ref C) "type" := ⟨_, hC, rfl⟩
  refine codeAny_of_tree ?_
  show wpAny _ _ (callAny (.ref C) _) _ _ _
  repeat (any_goals (first
    | assumption
    | with_reducible refine wpAny_loadPart_at hC ?_
    | wp_step))
  refine ⟨rfl, codeAny_call_builtin_at (Code.quiet_builtin _ (by decide +kernel)) entry_typeCall (wpAny_check_type_call_sub hC (typeU F b hC hz hi hb ?_))⟩
  refine codeAny_mono k fun r s' z => ?_
  rcases r with e | (v | _ | _ | _) <;> exact z
/-- B.__init__(e, ..) -/
theorem initU {a t0 : Addr} (F : IniF B initId) (b : Bm bm Bn B) (hC : h.get? C = some (excClassObj nm q C N bs bm hdct sn sub ab col dd k0 k1 k2 k3 k5 newId)) (ha : h.get? a = some (exr C none t0)) (hz : rest.length ≤ sizeLine)
    (k : ∀ h' t1, (∀ c o, c ≠ a → h.get? c = some o → h'.get? c = some o) → h'.get? a = some (exr C none t1) → R (.ok (.ret .none)) ⟨h', g, d, t, os⟩) :
    codeAny (model prog w) A (.call (.builtin initId) ⟨.ref a :: rest, []⟩) R ⟨h, g, d, t, os⟩ := by
  have c1 : (Value.ref C :: bm).contains (.type B) = true := by
    rw [List.contains_cons, b.b]
    exact Bool.or_true _
  have s1 := F.ns
  refine codeAny_call_builtin F.pl F.en ?_
  simp only [checkBuiltinCall, F.kd, F.sp, F.rw']
  repeat (first
    | (with_reducible refine wpAny_loadPart_at ha ?_; dsimp only)
    | with_reducible refine wpAny_loadPart_at hC ?_
    | (with_reducible refine wpAny_isSubtype_exc hC ?_; rw [c1])
    | wp_step)
  refine wpAny_onRaise ?_
  have ck : ∀ (x y : String) (n : Nat), Bind.check ⟨.positional, "*", B, .self, [⟨"args", .varPos, false⟩]⟩ x y n (List.map (fun z => z.fst) ({ pos := Value.ref a :: rest } : Args).kw) = pure () :=
    fun x y n => check_star_args _ _ _ _ _ _
  rw [ck]
  refine wpAny_pure (PySem.W.exc_init_tree (cls := .ref C) (t0 := t0) (dv := none) (c2 := .none) (c3 := .none) (b4 := .bool false) ha hz fun h' kp ea _ => ?_)
  exact k h' _ kp ea
end

section
variable {X : Cx} {k : Nat} {C fI : Addr} {fd : FuncData} {ps : List Str} {sp : Sp} {Bn B newId inN initId : String} {bmN : List Value} {x : Str} {e : Expr} {es : List Expr} {te : TE} {ta : TA} {p p1 p2 pos : Pos}
def tExI (C : Addr) (sp : Sp) (te : TE) : TE := fun σ H Q => te σ H fun v H1 => ∀ a t, H1 a = none → H1 t = none → t ≠ a →
  sp [.ref a, v] (upd (upd H1 t (.tup [v])) a (exq a C none t)) (fun u H2 => u = .non ∧ Q (.ref a) H2) E0
theorem pe_exI (F : ExcBaseFacts Bn newId inN bmN) (q : exnB X.K C newId Bn B = true) (hi : PySem.W.findIn X.K (.ref C) "__init__" = some (some (.ref fI))) (tf : PySem.W.typeIn X.K (.ref fI) = some (.type "function"))
    (kC : PySem.W.keepIn X.K (.ref C) = true) (gC : X.mg x = some (.ref C)) (hg : Gl X x) (G : FnG X.prog X.w X.K X.mg X.base k fI fd ps sp) (hr : Room (k + 1) X.A) (hgu : X.A.guards = some []) (hb : Binds X.K fd ps []) (he : PE X e te)
    (hs : starEach [e] X.env = (false, eval e X.env) :: starEach [] X.env := by rfl) (hdb : (x == ("__debug__" : Str)) = false := by decide) :
    PE X (.Call (.Name x p) [e] [] pos) (tExI C sp te) := by
  refine ⟨fun pins s σ H Q I h => ?_⟩
  refine wpAny_Call_Name_kw (ld_glob I hg gC ?_ hdb)
  refine PySem.W.callWith_K (h₀ := X.base) I.ok.mod.kin kC ?_ hs (by rfl)
  rw [hs]
  show wpAny _ _ (spliced ((false, eval e X.env) :: backTo pos (starEach [] X.env))) _ _ s
  refine Calls.spliced_cons (thn (he.run pins s σ H _ I h) ?_)
  rintro u s1 ⟨v, H1, I1, r1, q1⟩
  refine Calls.spliced_nil ⟨I1.kIn, ?_⟩
  show wpAny _ _ (call (.ref C) [u]) _ _ _
  obtain ⟨nm, N, qn, bs, bm, hdct, sn, sub, ab, col, dd, k0, k1, k2, k3, k5, hC, hT⟩ := exn_of I1.kIn q
  have hi' : PySem.W.Looks (model X.prog X.w) s1.heap (typeLookup (.ref C) "__init__") (some (.ref fI)) := PySem.W.looks_findIn I1.kIn hi
  have hbi := fun self => PySem.W.bind_fn (M := model X.prog X.w) I1.kIn self tf
  obtain ⟨hp, g, d, tk, os⟩ := s1
  have n1 : H1 (hp.objs.size + 1) = none := I1.hok.fresh (Nat.le_succ _)
  have n2 : H1 hp.objs.size = none := I1.hok.fresh (Nat.le_refl _)
  have ne : hp.objs.size ≠ hp.objs.size + 1 := Nat.ne_of_lt (Nat.lt_succ_self _)
  have kp : ∀ b o, hp.get? b = some o → ((hp.push (PySem.W.excTup [u])).push (exr C none hp.objs.size)).get? b = some o := fun b o z => Heap.get?_push_of_some _ (Heap.get?_push_of_some _ z)
  have gA : ((hp.push (PySem.W.excTup [u])).push (exr C none hp.objs.size)).get? (hp.objs.size + 1) = some (exr C none hp.objs.size) := by heap_get
  have gT : ((hp.push (PySem.W.excTup [u])).push (exr C none hp.objs.size)).get? hp.objs.size = some (PySem.W.excTup [u]) := Heap.get?_push_of_some _ (Heap.get?_push_size hp rfl)
  have one : [u].length ≤ sizeLine := by show 1 ≤ sizeLine; rw [sizeLine_eq]; omega
  have I2 := laid2 (tk := tk) (o := exq (hp.objs.size + 1) C none hp.objs.size) (u := .tup [v]) I1 kp (Nat.le_succ _) (Nat.le_refl _) ne
    ⟨by show 1 ≤ sizeLine; rw [sizeLine_eq]; omega, [u], .cons r1 .nil, ⟨_, gT, rfl, _, rfl⟩⟩ (exq_ok gA)
  have hq := q1 _ _ n1 n2 ne
  have hl : (Value.ref (hp.objs.size + 1) :: [u]).length = ps.length := by
    have z := G.len _ _ _ hq
    exact z
  have b := hb _ (Value.ref (hp.objs.size + 1) :: [u]) I2.kIn (by rw [List.append_nil]; exact hl)
  rw [List.append_nil] at b
  have gu : (X.A.under (.builtin "type.__call__" ⟨.ref C :: [u], []⟩)).guards = some [] := by
    first
      | exact hgu
      | (simp [Around.under, Code.guards, Code.isGuard, pushGuards, hgu]; done)
      | (simp +decide [Around.under, Code.guards, Code.isGuard, pushGuards, hgu, guardIds]; done)
  refine wpAny_call (callU F hT hC one hi' hbi (codeAny_mono (G.run _ X.stack _ _ ⟨Value.ref (hp.objs.size + 1) :: [u], []⟩ (Value.ref (hp.objs.size + 1) :: [u]) _ _ (hr.make C [u] []) gu (I2.env0.make C [u] []) b (show Vals (V.ref (hp.objs.size + 1) :: [v]) (Value.ref (hp.objs.size + 1) :: [u]) from .cons rfl (.cons r1 .nil)) hq) fun r s' hq' => ?_))
  rcases r with er | fl
  · exact hq'.elim
  · cases fl with
    | ret u2 =>
      obtain ⟨v3, H3, I3, rv, ev, q3⟩ := I2.after hq'
      subst ev
      exact ⟨rv, ⟨V.ref (hp.objs.size + 1), H3, I3, rfl, q3⟩⟩
    | _ => exact False.elim hq'

/-- B.__init__(self, ..), B built-in or a class of the program -/
def tBIn (K : PySem.W.Frag) (newId Bn B : String) (ta : TA) : TE := fun σ H Q => ta σ H fun vs H1 => ∃ (a C t : Addr) (ws : List V), vs = .ref a :: ws ∧ ws.length ≤ 1000 ∧ exnB K C newId Bn B = true ∧
  H1 a = some (exq a C none t) ∧ ∀ t', Q .non (upd H1 a (exq a C none t'))
theorem bin_run {pins : List (Addr × Obj)} {σ : L2.St} {H1 : Hp} {s1 : Shared} {Q : VK} {a t : Addr} {us : List Value} (F : IniF B initId) (q : exnB X.K C newId Bn B = true) (I1 : Inv X pins σ H1 s1) (ea : H1 a = some (exq a C none t)) (hz : us.length ≤ sizeLine)
    (h : ∀ t', Q .non (upd H1 a (exq a C none t'))) : wpAny (model X.prog X.w) X.A (call (.builtin initId) (.ref a :: us)) (EP X pins σ Q) X.xe s1 := by
  obtain ⟨nm, N, qn, bs, bm, hdct, sn, sub, ab, col, dd, k0, k1, k2, k3, k5, hC, hT⟩ := exn_of I1.kIn q
  have z := exq_at I1.hok ea
  obtain ⟨hp, g, d, tk, os⟩ := s1
  refine wpAny_call (initU F hT hC z hz fun h' t1 kp e' => ?_)
  exact ⟨.non, _, I1.write (t' := tk) (x := a) (e := a) (o := exq a C none t1) (by rw [ea]; exact True.intro) (.inl rfl) kp ⟨_, e'⟩ (exq_ok e'), rfl, h t1⟩
theorem pe_binB {pl : Sem Bool} {bn : Str} (F : IniF B initId) (hg : Gl X bn) (hm : X.mg bn = none) (hv : bootBuiltins bn = some (.type B)) (hnn : bn ≠ "__name__") (hty : typeOf (.type B) = pure (.type "type")) (hst : Manifest.isStub B = false)
    (vV : PySem.W.findCls X.K (.type B) (.type "type") "__init__" = some (.val (.builtin initId))) (hh : PySem.W.handedIn (.builtin initId) = true) (ha : PA X (e :: es) ta) (hdb : (bn == ("__debug__" : Str)) = false := by decide)
    (hc : eval (.Call (.Attribute (.Name bn p1) "__init__" p2) (e :: es) [] pos) X.env = (do
      let v ← eval (.Name bn p1) X.env
      standAt p2.atName
      let (f, first) ← holding [v] (getMethod v "__init__" pl)
      callWith pos f first (backTo pos (starEach (e :: es) X.env)) (backToKw pos (keywordEach [] X.env))) := by rfl)
    (he : starEach (e :: es) X.env = (false, eval e X.env) :: starEach es X.env := by rfl) (hpl : (backTo pos (starEach es X.env)).any (·.1) = false := by rfl) :
    PE X (.Call (.Attribute (.Name bn p1) "__init__" p2) (e :: es) [] pos) (tBIn X.K newId Bn B ta) := by
  refine ⟨fun pins s σ H Q I h => ?_⟩
  refine PySem.W.methodCall_KW (ld_blt I hg hm hv ?_ hnn hdb) hc
  obtain ⟨m, fr⟩ := I.fr
  refine PySem.W.method_type fr I.ok.mod.kin hty hst vV hh ?_
  show wpAny _ _ (callWith pos (Value.builtin initId) [] (backTo pos (starEach (e :: es) X.env)) []) _ _ _
  refine PyProof.Rows.callWith_method1 (thn (ha.run pos pins _ σ H _ (I.tok _) h) ?_) he hpl
  rintro us s1 ⟨vs, H1, I1, r1, a, C, t, ws, rfl, hl, q, ea, hq⟩
  cases r1 with
  | @cons _ u0 _ ur ra rw' =>
    cases (show u0 = Value.ref a from ra)
    exact bin_run F q I1 ea (by rw [← Paired.length rw', sizeLine_eq]; omega) hq
theorem pe_binC {pl : Sem Bool} {cn : Str} {D : Addr} (F : IniF B initId) (hg : Gl X cn) (hm : X.mg cn = some (.ref D)) (sg : PySem.W.specialIn X.K (.ref D) "__getattribute__" = some (some (.builtin "type.__getattribute__")))
    (rd : PySem.W.readsIn X.K D (.type "type") = true) (vV : PySem.W.findCls X.K (.ref D) (.type "type") "__init__" = some (.val (.builtin initId))) (hh : PySem.W.handedIn (.builtin initId) = true) (ha : PA X (e :: es) ta) (hdb : (cn == ("__debug__" : Str)) = false := by decide)
    (hc : eval (.Call (.Attribute (.Name cn p1) "__init__" p2) (e :: es) [] pos) X.env = (do
      let v ← eval (.Name cn p1) X.env
      standAt p2.atName
      let (f, first) ← holding [v] (getMethod v "__init__" pl)
      callWith pos f first (backTo pos (starEach (e :: es) X.env)) (backToKw pos (keywordEach [] X.env))) := by rfl)
    (he : starEach (e :: es) X.env = (false, eval e X.env) :: starEach es X.env := by rfl) (hpl : (backTo pos (starEach es X.env)).any (·.1) = false := by rfl) :
    PE X (.Call (.Attribute (.Name cn p1) "__init__" p2) (e :: es) [] pos) (tBIn X.K newId Bn B ta) := by
  refine ⟨fun pins s σ H Q I h => ?_⟩
  refine PySem.W.methodCall_KW (ld_glob I hg hm ?_ hdb) hc
  refine PySem.W.method_cls I.kIn sg (PySem.W.cls_value I.kIn rd vV hh ?_)
  show wpAny _ _ (callWith pos (Value.builtin initId) [] (backTo pos (starEach (e :: es) X.env)) []) _ _ _
  refine PyProof.Rows.callWith_method1 (thn (ha.run pos pins _ σ H _ (I.tok _) h) ?_) he hpl
  rintro us s1 ⟨vs, H1, I1, r1, a, C, t, ws, rfl, hl, q, ea, hq⟩
  cases r1 with
  | @cons _ u0 _ ur ra rw' =>
    cases (show u0 = Value.ref a from ra)
    exact bin_run F q I1 ea (by rw [← Paired.length rw', sizeLine_eq]; omega) hq
end
end DW
namespace DW
open PySem PySem.Spec PyProof.Rows L2
/-! ### the law as it is called behind the top, where its promise asks that no repr is under way -/
section
variable {P : Program} {w : World} {K : PySem.W.Frag} {mg mb : Str → Option Value} {k : Nat} {fa a : Addr} {fd : FuncData} {x : Str} {sp : Sp} {s : Shared} {vs : List Value} {ns : List Int}
abbrev scrO (vs : List Value) : Obj := { cls := .type "list", data := .seq vs.toArray }
/-- the script alone is tracked, and only if the module has not laid it -/
noncomputable def scrH (K : PySem.W.Frag) (a : Addr) (vs : List Value) (ns : List Int) : Hp :=
  fun b => if b = a ∧ K.lookup a = none then some (.frz (scrO vs) (.lst (ns.map V.int))) else none
theorem scr_in {b : Addr} {u : HO} (e : scrH K a vs ns b = some u) : b = a ∧ K.lookup a = none ∧ u = .frz (scrO vs) (.lst (ns.map V.int)) := by
  unfold scrH at e
  by_cases z : b = a ∧ K.lookup a = none
  · rw [if_pos z] at e
    exact ⟨z.1, z.2, (Option.some.inj e).symm⟩
  · rw [if_neg z] at e
    cases e
theorem scr_out {b : Addr} (n : ¬ (b = a ∧ K.lookup a = none)) : scrH K a vs ns b = none := if_neg n
theorem scr_vals : ∀ {vs : List Value} {ns : List Int}, IntsAre vs ns → Vals (ns.map V.int) vs
  | _, _, .nil => Paired.nil
  | _, _, .cons n t r => Paired.cons ⟨t, rfl⟩ (scr_vals r)
theorem scr_seq (KX : K.In s.heap) (ha : s.heap.get? a = some (scrO vs)) (hi : IntsAre vs ns) (hl : ns.length ≤ sizeLine) : SqL K (scrH K a vs ns) a (ns.map V.int) := by
  cases q : K.lookup a with
  | none => exact .inl (.inr ⟨scrO vs, if_pos ⟨rfl, q⟩⟩)
  | some o =>
    have same : o = scrO vs := Option.some.inj ((KX a o q).symm.trans ha)
    rw [same] at q
    have len := hi.length
    exact .inr ⟨_, vs.toArray, _, q, rfl, rfl, rfl, by rw [List.size_toArray, len]; exact hl, by simpa using scr_vals hi⟩
theorem scr_ok (ha : s.heap.get? a = some (scrO vs)) (hi : IntsAre vs ns) (hl : ns.length ≤ sizeLine) : HOk P w (scrH K a vs ns) s.heap := fun b u e => by
  obtain ⟨rfl, _, rfl⟩ := scr_in e
  exact ⟨ha, by rw [List.length_map]; exact hl, vs, _, scr_vals hi, ha⟩
theorem lawG (KX : K.In s.heap) (hm : s.heap.Ns mainGlobals mg) (hb : s.heap.Ns builtinsNs mb) (hq : ∀ y : Str, y ≠ "__name__" → mb y = bootBuiltins y) (nl : s.heap.NoLimit) (hg : s.gens = #[]) (ha : s.heap.get? a = some (scrO vs)) (hi : IntsAre vs ns)
    (hl : ns.length ≤ sizeLine) (hr : Room k callerA) (F : ∀ base : Heap, K.In base → FnG P w K mg base k fa fd [x] sp) (hbind : ∀ (t : Shared) (u : Value), BindsTo t fd ⟨[u], []⟩ [(x, u)])
    (hsp : ∀ H : Hp, SqL K H a (ns.map V.int) → sp [.ref a] H (fun v _ => v = .bl true) E0) :
    codeAny (model P w) callerA (.call (.ref fa) ⟨[.ref a], []⟩) (fun r s' => r = .ok (.ret (.bool true)) ∧ OldK s.heap s'.heap ∧ s'.os = s.os ∧ AllBare s'.gens) s := by
  have stay : ∀ {b : Addr} {o : Obj}, s.heap.get? b = some o → scrH K a vs ns b = none → (hidT s.heap (scrH K a vs ns)).get? b = some o := fun e n => hidT_get e n
  have notA : ∀ {b : Addr} {o : Obj}, s.heap.get? b = some o → o ≠ scrO vs → scrH K a vs ns b = none := fun e n => scr_out fun z => by
    rw [z.1, ha] at e
    exact n (Option.some.inj e).symm
  have nsS : ∀ {b : Addr} {m : Str → Option Value}, s.heap.Ns b m → (hidT s.heap (scrH K a vs ns)).Ns b m := fun {b m} ⟨o, es, ep, e, d, r⟩ =>
    ⟨o, es, ep, stay e (notA e fun z => by rw [z] at d; have d' : Data.seq vs.toArray _ = Data.dict es ep := d; cases d'), d, r⟩
  have KB : K.In (hidT s.heap (scrH K a vs ns)) := fun b o e => stay (KX b o e) (scr_out fun z => by rw [z.1, z.2] at e; cases e)
  have md : Mod K mg (hidT s.heap (scrH K a vs ns)) := ⟨KB, nsS hm, ⟨mb, nsS hb, hq⟩, let ⟨c, h1, h2⟩ := nl; ⟨c, nsS h1, h2⟩⟩
  have ev : Env0 P w K mg (hidT s.heap (scrH K a vs ns)) callerA [] s (scrH K a vs ns) :=
    ⟨rfl, md, fun b o e => of_hidT e, Nat.le_of_eq (hidT_size _ _), trivial, fun b z => absurd (show b ∈ ([] : List Addr) from z) (by simp), scr_ok ha hi hl, .of_eq hg⟩
  have go := (F _ KB).run callerA [] s (scrH K a vs ns) ⟨[.ref a], []⟩ [.ref a] [.ref a] _ hr rfl ev (hbind s (.ref a)) (Paired.cons rfl Paired.nil) (hsp _ (scr_seq KX ha hi hl))
  refine codeAny_mono go fun r s' h => ?_
  match r, h with
  | .ok (.ret u), ⟨v, H', os, bare, un, ok', rv, q⟩ =>
    cases (show v = V.bl true from q)
    cases (show u = Value.bool true from rv)
    refine ⟨rfl, OldK.of_keep fun b o e => ?_, os, bare⟩
    cases z : scrH K a vs ns b with
    | none => exact un.keep b o e z (by intro y; exact absurd (show b ∈ ([] : List Addr) from y) (by simp)) (by simp)
    | some u =>
      obtain ⟨rfl, _, rfl⟩ := scr_in z
      have later := un.frzs b (scrO vs) _ z
      obtain ⟨e1, _⟩ := ok' b _ later
      rw [ha] at e
      cases e
      exact e1
end
/-- what k_head leaves, from such a promise -/
theorem walkG {l : PySem.W.OpenLaw} {n k : Nat} {q : Program} {loose : List Str} {XP : (Str → Option Value) → Heap → Prop} {YP : World → Heap → Prop} {d : DefRec} {K : Params → PySem.W.Frag} {sp : PySem.W.Frag → Sp} {x : Str} (hn : l.most = some n) (hz : n ≤ sizeLine)
    (hd : d.params.defaults = []) (hr : Room k callerA) (hY : ∀ (w : World) (h : Heap), YP w h → (K w.params).In h)
    (F : ∀ (w : World) (mg : Str → Option Value) (fa : Addr) (h : Heap), (K w.params).In h → h.Ns mainGlobals mg → mg d.name = some (.ref fa) →
      ∃ fd : FuncData, (∀ (t : Shared) (u : Value), BindsTo t fd ⟨[u], []⟩ [(x, u)]) ∧ ∀ base : Heap, (K w.params).In base → FnG l.prog w (K w.params) mg base k fa fd [x] (sp (K w.params)))
    (hsp : ∀ (K : PySem.W.Frag) (H : Hp) (a : Addr) (ns : List Int), ns.length ≤ n → SqL K H a (ns.map V.int) → sp K [.ref a] H (fun v _ => v = .bl true) E0) :
    PySem.W.WalkO q loose XP YP l.row.toRowW d [] (fun f vs => PySem.call f vs) := by
  refine Att.attach_call hn hd fun w _ s mg mb fa _ _ _ _ a vs ns G Y _ _ _ hmg ho hi hl hg => ?_
  have KX := hY w _ Y
  obtain ⟨fd, hbind, hF⟩ := F w mg fa _ KX G.T.g hmg
  exact lawG KX G.T.g G.T.b G.T.builtins G.T.nolimit hg ho hi (Nat.le_trans hl hz) hr hF hbind fun H hS => hsp _ H a ns hl hS
end DW
namespace DW
open PySem PySem.Spec PyProof.Rows L2
theorem same_new {H : Hp} {p : Addr} {o : HO} (h : H p = none) : Same H (upd H p o) := fun b u e => by
  rw [upd_ne (ne_of_none e h)]; exact e
theorem same_mut {H0 H : Hp} {p : Addr} {o : HO} (s : Same H0 H) (h : H0 p = none) : Same H0 (upd H p o) := fun b u e => by
  rw [upd_ne (ne_of_none e h)]; exact s b u e
/-- a ledger of tracked objects -/
def Has (H : Hp) (L : List (Addr × HO)) : Prop := ∀ p ∈ L, H p.1 = some p.2
theorem Has.get {H : Hp} {L : List (Addr × HO)} {a : Addr} {o : HO} (h : Has H L) (m : (a, o) ∈ L) : H a = some o := h _ m
theorem Has.nil {H : Hp} : Has H [] := fun _ z => nomatch z
theorem Has.put {H : Hp} {L : List (Addr × HO)} {a : Addr} {o : HO} (h : Has H L) (e : H a = some o) : Has H ((a, o) :: L) := fun p m => by
  rcases List.mem_cons.mp m with rfl | m
  · exact e
  · exact h p m
theorem Has.of {H H' : Hp} {L : List (Addr × HO)} (h : Has H L) (s : Same H H') : Has H' L := fun p m => s _ _ (h p m)
theorem Has.new {H : Hp} {L : List (Addr × HO)} {a : Addr} {o : HO} (h : Has H L) (e : H a = none) : Has (upd H a o) ((a, o) :: L) := (h.of (same_new e)).put upd_same
theorem Has.mut {H : Hp} {L : List (Addr × HO)} {a : Addr} {o u : HO} (h : Has H L) (e : H a = some u) (ne : ∀ p ∈ L, p.2 ≠ u) : Has (upd H a o) L := fun p m => by
  have z := h p m
  rw [upd_ne fun q => ?_]
  · exact z
  · rw [q, e] at z
    exact ne p m (Option.some.inj z).symm
theorem pairedMono {α β : Type} {R R' : α → β → Prop} (f : ∀ x y, R x y → R' x y) : ∀ {xs : List α} {ys : List β}, Paired R xs ys → Paired R' xs ys
  | _, _, .nil => .nil
  | _, _, .cons r k => .cons (f _ _ r) (pairedMono f k)
theorem pairedSnoc {α β : Type} {R : α → β → Prop} : ∀ {xs : List α} {ys : List β} {x : α} {y : β}, Paired R xs ys → R x y → Paired R (xs ++ [x]) (ys ++ [y])
  | _, _, _, _, .nil, h => .cons h .nil
  | _, _, _, _, .cons r k, h => .cons r (pairedSnoc k h)
theorem pairedAt {α β : Type} {R : α → β → Prop} : ∀ {xs : List α} {ys : List β} {i : Nat} {x : α}, Paired R xs ys → xs[i]? = some x → ∃ y, ys[i]? = some y ∧ R x y
  | _, _, i, x, .nil, h => by simp at h
  | _, _, 0, x, .cons r k, h => by
    simp at h
    subst h
    exact ⟨_, rfl, r⟩
  | _, _, i + 1, x, .cons r k, h => by
    obtain ⟨y, e, q⟩ := pairedAt k (i := i) (x := x) (by simpa using h)
    exact ⟨y, by simpa using e, q⟩
theorem tyes {σ : L2.St} {H : Hp} {A B : Hp → Prop} (h : A H) : tYes σ H fun b H3 => if b = true then A H3 else B H3 := by
  show if true = true then A H else B H
  rw [if_pos rfl]
  exact h
theorem takeSucc {α : Type} {ds : List α} {i : Nat} {d : α} (h : ds[i]? = some d) : ds.take (i + 1) = ds.take i ++ [d] := by
  rw [List.take_add_one, h]
  rfl
section
variable {X : Cx}
theorem op_powW : OpR X (binaryOp .Pow) (rI (fun i j => 0 ≤ j ∧ (Builtin.Int.intBits i : Int) * j ≤ 2 ^ 27) fun i j => .int (i ^ j.toNat)) := by
  intro pins s σ H x y v u Q I rx ry h
  obtain ⟨i, j, rfl, rfl, hc, q⟩ := h
  obtain ⟨t, rfl⟩ := rx
  obtain ⟨t', rfl⟩ := ry
  exact PyProof.Rows.pow_int hc.1 hc.2 ⟨.int _, H, I.tok _, ⟨_, rfl⟩, q⟩
theorem op_mulS : OpR X (binaryOp .Mult) (fun x y H Q => ∃ (a : Str) (n : Int), x = .str a ∧ y = .int n ∧ MulOk a n ∧ Q (.str (Txt.mul a n)) H) := by
  intro pins s σ H x y v u Q I rx ry h
  obtain ⟨i, j, rfl, rfl, hc, q⟩ := h
  obtain ⟨t, rfl⟩ := rx
  obtain ⟨t', rfl⟩ := ry
  exact PySem.SB.mul hc fun t' k => ⟨.str _, H, I.tok _, ⟨_, rfl⟩, q⟩
end
end DW
namespace DW
open PySem PySem.Spec PyProof.Rows L2
/-! ### several except clauses, with names or without -/
abbrev Clause := Value × Option Nat × (Addr → Value → Option Addr → TS)
/-- behind a clause with a name, its slot is empty -/
def offAt (i : Nat) (D : Ends) : Ends := ⟨fun σ H => D.nx (σ.set i none) H, D.rt, fun σ H => D.bk (σ.set i none) H, fun σ H => D.ct (σ.set i none) H⟩
/-- n: how many slots there are -/
def wMix (K : PySem.W.Frag) (n : Nat) (Wout : WX) (D : Ends) : List Clause → WX
  | [] => Wout
  | (c, none, ts) :: r => fun cls d σ H => ∃ b, PySem.W.exmOne K cls c = some b ∧ (b = true → ∀ a, H a = none → ts a cls d D σ H) ∧ (b = false → wMix K n Wout D r cls d σ H)
  | (c, some i, ts) :: r => fun cls d σ H => ∃ b, PySem.W.exmOne K cls c = some b ∧ (b = true → ∀ a, H a = none → σ.length = n → ts a cls d (offAt i D) (σ.set i (some (.ref a))) H) ∧ (b = false → wMix K n Wout D r cls d σ H)
inductive Mix (X : Cx) : List ExceptHandler → List Clause → Prop
  | nil : Mix X [] []
  | bare {x : Str} {c : Value} {ts : Addr → Value → Option Addr → TS} {b0 : Stmt} {su : List Stmt} {p1 p2 : Pos} {hs : List ExceptHandler} {l : List Clause} (hc : Names X x c)
      (hsu : ∀ (a : Addr) (oe : Obj) (cls : Value) (d : Option Addr) (pn : List (Addr × Obj)), Zc cls d oe → (∃ vs, oe.data = .fields vs) → PSs (X.suite a ((a, oe) :: pn)) (b0 :: su) (ts a cls d)) (r : Mix X hs l) :
      Mix X (.ExceptHandler (some (.Name x p1)) none (b0 :: su) p2 :: hs) ((c, none, ts) :: l)
  | named {x n : Str} {i : Nat} {c : Value} {ts : Addr → Value → Option Addr → TS} {b0 : Stmt} {su : List Stmt} {p1 p2 : Pos} {hs : List ExceptHandler} {l : List Clause} (nd : X.N.Nodup) (hi : X.N[i]? = some n) (hl : X.env.kindOf n = some .local) (hc : Names X x c)
      (hsu : ∀ (a : Addr) (oe : Obj) (cls : Value) (d : Option Addr) (pn : List (Addr × Obj)), Zc cls d oe → (∃ vs, oe.data = .fields vs) → PSs (X.suite a ((a, oe) :: pn)) (b0 :: su) (ts a cls d)) (r : Mix X hs l) :
      Mix X (.ExceptHandler (some (.Name x p1)) (some n) (b0 :: su) p2 :: hs) ((c, some i, ts) :: l)
section
variable {X : Cx} {pins : List (Addr × Obj)} {D : Ends} {B : Heap} {sI s' : Shared} {a : Addr} {σ' : L2.St} {H' : Hp} {cls : Value} {d : Option Addr} {Wout : WX}
/-- the clauses looked through, one after another, for an exception that has landed -/
theorem mix_go (ok : X.Ok) (hst : X.stack = X.env :: X.outer) (hf : X.env.frame = some X.env.locals) (tk : Takes X Wout) (J : Inv X pins σ' H' sI) (nb : ∀ h3, HandSPX.FlyingZ B (X.env :: X.outer) a (Zc cls d) h3 → s'.heap.UpToSlots h3 → Inv X pins σ' H' { s' with heap := h3 })
    (na : H' a = none) (out : ∀ h4, s'.heap.UpToSlots h4 → HandSPX.HeldZ B (X.env :: X.outer) a (Zc cls d) X.env.locals h4 → Wout cls d σ' H' → XE X Wout (.ref a) { s' with heap := h4 }) :
    ∀ {hs : List ExceptHandler} {l : List Clause}, Mix X hs l → wMix X.K X.N.length Wout D l cls d σ' H' → ∀ h3, HandSPX.FlyingZ B (X.env :: X.outer) a (Zc cls d) h3 → s'.heap.UpToSlots h3 →
      wpAny (model X.prog X.w) X.A (handleBy (.ref a) X.env hs) (SP X pins D) X.xe { s' with heap := h3 } := by
  have look : ∀ h3, HandSPX.FlyingZ B (X.env :: X.outer) a (Zc cls d) h3 → s'.heap.UpToSlots h3 → ∃ oe vs, h3.get? a = some oe ∧ Zc cls d oe ∧ oe.data = .fields vs ∧ Inv (X.suite a ((a, oe) :: (X.pn ++ pins))) [] σ' H' { s' with heap := h3 } := fun h3 fl up => by
    obtain ⟨oe, vs, he, hz, hd⟩ := fl.there
    have nfr : a ∉ frs (X.env :: X.outer) := fun hm => by
      obtain ⟨_, o', e', hnf⟩ := fl.2.2.1.mem hm
      rw [he] at e'
      cases e'
      exact hnf _ hd
    refine ⟨oe, vs, he, hz, hd, (nb h3 fl up).suite he hd na (fun z => nfr (List.mem_filterMap.mpr ⟨X.env, List.mem_cons_self, by rw [hf, z]⟩)) fun hm => ?_⟩
    obtain ⟨e, m, q⟩ := List.mem_filterMap.mp hm
    exact nfr (List.mem_filterMap.mpr ⟨e, List.mem_cons_of_mem _ m, q⟩)
  -- the test of one clause
  have ask : ∀ {x : Str} {c : Value} {p1 : Pos} {b : Bool} {h3 : Heap} {Q : Value → Shared → Prop} {E : Value → Shared → Prop}, Names X x c → HandSPX.FlyingZ B (X.env :: X.outer) a (Zc cls d) h3 → s'.heap.UpToSlots h3 → PySem.W.exmOne X.K cls c = some b →
      (∀ M : PySem.W.Looks (model X.prog X.w) h3 (typeOf (.ref a)) cls, Q c { s' with heap := h3 }) → wpAny (model X.prog X.w) (X.A.mark (some (.ref a))) (eval (.Name x p1) X.env) Q E { s' with heap := h3 } := fun {x c p1 b h3 Q E} hc fl up _ q => by
    obtain ⟨oe, vs, he, hz, hd, S⟩ := look h3 fl up
    have LT : PySem.W.Looks (model X.prog X.w) h3 (typeOf (.ref a)) cls := fun A Q E s k q => wpAny_typeOf_ref (k _ _ he) (by rw [hz.1]; exact q)
    obtain ⟨hg, hdb, hm | ⟨hm, hv, hnn⟩⟩ := hc
    · exact ld_glob (X := X.suite a ((a, oe) :: (X.pn ++ pins))) S hg hm (q LT) hdb
    · exact ld_blt (X := X.suite a ((a, oe) :: (X.pn ++ pins))) S hg hm hv (q LT) hnn hdb
  intro hs l hk
  induction hk with
  | nil =>
    intro w h3 fl up
    refine wpAny_handleBy_nil ?_
    obtain ⟨_, _, _, oe, vs, T, oT, ts', he, hz, hd, h1, hr⟩ := id fl
    unfold PySem.passOn
    refine wpAny_bind (wpAny_field he hd h1 (by
      rw [if_neg (show ¬ ((Value.ref T == Value.none) = true) from by simp)]
      have fin : wpAny (model X.prog X.w) X.A (setFlight (.ref a) X.env.frame) (fun _ s4 => wpAny (model X.prog X.w) X.A (throw (.ref a) : Sem Flow) (SP X pins D) X.xe s4) X.xe { s' with heap := h3 } := by
        rw [hf]
        exact HandSPX.setFlight_upZ fl fun h4 hh4 up4 => wpAny_throw (tk _ _ (out h4 (up.trans up4) hh4 w))
      first
        | exact wpAny_bind (wpAny_pure (wpAny_bind fin))
        | exact wpAny_bind fin))
  | @bare x c ts b0 su p1 p2 hs l hc hsu r ih =>
    intro w h3 fl up
    obtain ⟨b, hb, yes, no⟩ := w
    have J3 := nb h3 fl up
    refine wpAny_handleBy_cons (codeAny_handlers_test (ask hc fl up hb fun LT => (PySem.W.exm_one (M := model X.prog X.w) J3.kIn LT hb).here ?_)) (by intro q; cases q)
    cases b with
    | false => exact ih (no rfl) h3 fl up
    | true =>
      refine codeAny_handlers_suite (HandSPX.lands_againZ fl fun h4 fl4 up4 => ?_)
      obtain ⟨oe, vs, he, hz, hd, S⟩ := look h4 fl4 (up.trans up4)
      refine wpAny_mono ((hsu a oe cls d (X.pn ++ pins) hz ⟨_, hd⟩).run [] _ _ H' _ S (yes rfl a na)) (fun f s6 q => ?_) fun _ _ z => False.elim z
      cases f with
      | ret u => obtain ⟨v, σ6, H6, S6, r6, q6⟩ := q; exact ⟨v, σ6, H6, S6.unsuite ok, r6, q6⟩
      | next => obtain ⟨σ6, H6, S6, q6⟩ := q; exact ⟨σ6, H6, S6.unsuite ok, q6⟩
      | brk => obtain ⟨σ6, H6, S6, q6⟩ := q; exact ⟨σ6, H6, S6.unsuite ok, q6⟩
      | cont => obtain ⟨σ6, H6, S6, q6⟩ := q; exact ⟨σ6, H6, S6.unsuite ok, q6⟩
  | @named x n i c ts b0 su p1 p2 hs l nd hi hl hc hsu r ih =>
    intro w h3 fl up
    obtain ⟨b, hb, yes, no⟩ := w
    have J3 := nb h3 fl up
    refine wpAny_handleBy_cons (codeAny_handlers_test (ask hc fl up hb fun LT => (PySem.W.exm_one (M := model X.prog X.w) J3.kIn LT hb).here ?_)) (by intro q; cases q)
    cases b with
    | false => exact ih (no rfl) h3 fl up
    | true =>
      refine codeAny_handlers_suite_as (HandSPX.lands_againZ fl fun h4 fl4 up4 => ?_)
      obtain ⟨oe, vs, he, hz, hd, S⟩ := look h4 fl4 (up.trans up4)
      refine store_ok (X := X.suite a ((a, oe) :: (X.pn ++ pins))) (v := .ref a) S nd hi (.inl hl) rfl (fun s5 S5 => ?_) (.inr hl)
      have done : ∀ {σ6 : L2.St} {H6 : Hp} {Q : Shared → Prop} {s6 : Shared}, Inv (X.suite a ((a, oe) :: (X.pn ++ pins))) [] σ6 H6 s6 → (∀ s7, Inv X pins (σ6.set i none) H6 s7 → Q s7) →
          wpAny (model X.prog X.w) X.A (do bindName X.env n .none; unbindBehindTheSuite X.env n p2) (fun _ s7 => Q s7) X.xe s6 := fun S6 q => gone_ok (S6.unsuite ok) nd hi hl q
      refine wpAny_mono ((hsu a oe cls d (X.pn ++ pins) hz ⟨_, hd⟩).run [] s5 _ H' _ S5 (yes rfl a na J3.len)) (fun f s6 q => ?_) fun _ _ z => False.elim z
      cases f with
      | ret u => obtain ⟨v, σ6, H6, S6, r6, q6⟩ := q; exact done S6 fun s7 J7 => ⟨v, _, H6, J7, r6, q6⟩
      | next => obtain ⟨σ6, H6, S6, q6⟩ := q; exact done S6 fun s7 J7 => ⟨_, H6, J7, q6⟩
      | brk => obtain ⟨σ6, H6, S6, q6⟩ := q; exact done S6 fun s7 J7 => ⟨_, H6, J7, q6⟩
      | cont => obtain ⟨σ6, H6, S6, q6⟩ := q; exact done S6 fun s7 J7 => ⟨_, H6, J7, q6⟩
end
section
variable {X : Cx} {body : List Stmt} {h0 : ExceptHandler} {hs : List ExceptHandler} {l : List Clause} {pos : Pos} {tb : WX → TS} {Wout : WX}
theorem ps_try_mix (hst : X.stack = X.env :: X.outer) (hf : X.env.frame = some X.env.locals) (tk : Takes X Wout)
    (hb : ∀ (W : WX) (pn : List (Addr × Obj)) (xe : Value → Shared → Prop), Takes (X.tr pn xe) W → PassesOwn (model X.prog X.w) X.A X.env xe → PSs (X.tr pn xe) body (tb W)) (hh : Mix X (h0 :: hs) l) :
    PS X (.Try body (h0 :: hs) [] [] pos) (fun D σ H => tb (wMix X.K X.N.length Wout D l) D σ H) := by
  refine ⟨fun pins s σ H D I h => ?_⟩
  have ok := I.ok
  have hfr : X.A.frames = some (X.env :: X.outer) := by rw [ok.frames, hst]
  refine wpAny_Try_except (wpAny_mono ((hb (wMix X.K X.N.length Wout D l) (X.pn ++ pins) (fun e s₁ => wpAny (model X.prog X.w) X.A (noteFrame e X.env) (fun _ s₂ => wpAny (model X.prog X.w) X.A (setFlight e none) (fun _ s₃ =>
    wpAny (model X.prog X.w) X.A (handleBy e X.env (h0 :: hs)) (SP X pins D) X.xe s₃) X.xe s₂) X.xe s₁) (fun u s' xx => ?_) PassesOwn.looking).run [] s σ H D (I.toTry _) h) (fun f s1 q => ?_) fun e s1 he => he)
  · obtain ⟨a, B, sI, pins', σ', H', cls, d, rfl, J', nb, up, sky, na, os, ag, w⟩ := xx
    have J : Inv X pins σ' H' sI := J'.ofTry ok
    have sky' : Sky B (X.env :: X.outer) a (Zc cls d) X.env.locals s'.heap := by rw [← hst]; exact sky
    refine (show wpAny (model X.prog X.w) X.A (noteFrame (.ref a) X.env) _ _ _ from Sky.land Zc.steady hfr hf sky' fun h3 fl3 up3 => ?_)
    exact mix_go ok hst hf tk J (fun h4 fl4 up4 => J.landed nb fl4.1 (up.trans up4) os ag) na (fun h4 up4 hh4 w4 => ⟨a, B, sI, pins, σ', H', cls, d, rfl, J, nb, up.trans up4, .inr (.inr (by rw [hst]; exact hh4)), na, os, ag, w4⟩) hh w h3 fl3 up3
  · cases f with
    | ret u => obtain ⟨v, σ', H', J', r, q⟩ := q; exact ⟨v, σ', H', J'.ofTry ok, r, q⟩
    | next => obtain ⟨σ', H', J', q⟩ := q; exact wpAny_execs_nil ⟨σ', H', J'.ofTry ok, q⟩
    | brk => obtain ⟨σ', H', J', q⟩ := q; exact ⟨σ', H', J'.ofTry ok, q⟩
    | cont => obtain ⟨σ', H', J', q⟩ := q; exact ⟨σ', H', J'.ofTry ok, q⟩
end
end DW
namespace DW
open PySem PySem.Spec PyProof.Rows L2
section
variable {X : Cx} {pins : List (Addr × Obj)} {σ : L2.St} {H : Hp} {s : Shared}
/-- a thing that is tracked by a word of its own, tracked otherwise -/
theorem retype {dx : Addr} {φ : Heap → Prop} {o : HO} (I : Inv X pins σ H s) (e : H dx = some (.ext φ)) (new : ObjOk X.prog X.w (upd H dx o) s.heap dx o) : Inv X pins σ (upd H dx o) s := by
  have nN : ∀ {b : Addr}, H b = none → b ≠ dx := fun n z => by rw [z, e] at n; cases n
  have nE : ∀ {b : Addr} {u : HO}, H b = some u → (∀ φ, u ≠ .ext φ) → b ≠ dx := fun q n z => by rw [z, e] at q; cases q; exact n φ rfl
  have J := I.un (t' := s.toks) (h' := s.heap) (H' := upd H dx o) ⟨fun b v q _ _ _ => q, fun b v q _ _ _ => ⟨v.slots, q⟩, fun b v q n _ => (upd_ne (nN n)).trans n, fun b v q _ => ⟨v, q⟩,
    fun b xs q => (upd_ne (nE q fun _ z => nomatch z)).trans q, fun b ob xs q => (upd_ne (nE q fun _ z => nomatch z)).trans q, fun b qs q => ⟨#[], by rw [upd_ne (nE q fun _ z => nomatch z), q]; simp⟩⟩ fun b v q => by
      by_cases hb : b = dx
      · subst hb
        rw [upd_same] at q
        cases q
        exact new
      · rw [upd_ne hb] at q
        exact (I.hok b v q).stay (fun c y _ r => r) (fun c r => (upd_ne (nE r fun _ z => nomatch z)).trans r) fun c xs r => (upd_ne (nE r fun _ z => nomatch z)).trans r
  exact J
/-- raise e, where e gives an own exception with a dict of its own -/
theorem pmk_exq {e : Expr} {te : TE} (hx : X.ex = []) (he : PE X e te) : PMk X e (fun σ H Q => te σ H fun x H1 => ∃ (a C dx t : Addr) (fs : List (Str × V)), x = .ref a ∧ H1 a = some (exq a C (some dx) t) ∧ H1 dx = some (exd dx fs) ∧ Fr0 X.H_0 a ∧ Raises X (.ref C) ∧
    Q (.ref C) (some dx) (upd (delH H1 a) dx (.xd fs))) := by
  intro pins s σ H Q I h
  refine wpAny_mono (he.run pins s σ H _ I h) (fun u s1 hu => ?_) fun _ _ x => x
  obtain ⟨v, H1, I1, r1, a, C, dx, t, fs, rfl, ha, hd, h0, hr, q⟩ := hu
  cases (show u = Value.ref a from r1)
  have z := exq_at I1.hok ha
  obtain ⟨mA, ⟨o, es, ep, ho, hdat⟩, rel⟩ := exd_at I1.hok hd
  have ne : dx ≠ a := fun y => by
    rw [y, z] at ho
    cases ho
    simp at hdat
  obtain ⟨G, gs, ga, J⟩ := I1.untrack (φ := fun h => h.get? a = some (exr C (some dx) t)) ha h0 hx
  have hd2 : delH H1 a dx = some (exd dx fs) := by rw [delH_ne ne]; exact hd
  have J2 := retype (o := .xd fs) J hd2 (show ∃ mA, _ from exd_at J.hok hd2)
  exact ⟨a, _, _, { s1 with heap := G }, _, .ref C, some dx, rfl, J2, gs, ga, z, ⟨rfl, rfl⟩, rfl, rfl, (upd_ne (Ne.symm ne)).trans delH_same, rfl, I1.bare, hr, q⟩
end
section
variable {X : Cx} {k : Nat} {C fI : Addr} {fd : FuncData} {ps : List Str} {sp : Sp} {Bn B newId inN : String} {bmN : List Value} {x : Str} {e : Expr} {te : TE} {p pos : Pos}
/-- X(e), X with an __init__ of its own that promises to let nothing out -/
theorem pe_exI0 (F : ExcBaseFacts Bn newId inN bmN) (q : exnB X.K C newId Bn B = true) (hi : PySem.W.findIn X.K (.ref C) "__init__" = some (some (.ref fI))) (tf : PySem.W.typeIn X.K (.ref fI) = some (.type "function"))
    (kC : PySem.W.keepIn X.K (.ref C) = true) (gC : X.mg x = some (.ref C)) (hg : Gl X x) (G : FnOk X.prog X.w X.K X.mg X.base CX0 k fI fd ps sp) (hr : Room (k + 1) X.A) (hb : Binds X.K fd ps []) (he : PE X e te)
    (hs : starEach [e] X.env = (false, eval e X.env) :: starEach [] X.env := by rfl) (hdb : (x == ("__debug__" : Str)) = false := by decide) :
    PE X (.Call (.Name x p) [e] [] pos) (tExI C sp te) := by
  refine ⟨fun pins s σ H Q I h => ?_⟩
  refine wpAny_Call_Name_kw (ld_glob I hg gC (PySem.W.callWith_K (h₀ := X.base) I.ok.mod.kin kC (by
    rw [hs]
    refine (show wpAny _ _ (spliced ((false, eval e X.env) :: backTo pos (starEach [] X.env))) _ _ s from Calls.spliced_cons (thn (he.run pins s σ H _ I h) ?_))
    rintro u s1 ⟨v, H1, I1, r1, q1⟩
    refine Calls.spliced_nil ⟨I1.kIn, (show wpAny _ _ (call (.ref C) [u]) _ _ _ from ?_)⟩
    obtain ⟨nm, N, qn, bs, bm, hdct, sn, sub, ab, col, dd, k0, k1, k2, k3, k5, hC, hT⟩ := exn_of I1.kIn q
    have look := PySem.W.looks_findIn (M := model X.prog X.w) I1.kIn hi
    have bnd := fun self => PySem.W.bind_fn (M := model X.prog X.w) I1.kIn self tf
    obtain ⟨hp, g, d, tk, os⟩ := s1
    have n1 : H1 (hp.objs.size + 1) = none := I1.hok.fresh (Nat.le_succ _)
    have n2 : H1 hp.objs.size = none := I1.hok.fresh (Nat.le_refl _)
    have ne : hp.objs.size ≠ hp.objs.size + 1 := Nat.ne_of_lt (Nat.lt_succ_self _)
    have kp : ∀ b o, hp.get? b = some o → ((hp.push (PySem.W.excTup [u])).push (exr C none hp.objs.size)).get? b = some o := fun b o z => Heap.get?_push_of_some _ (Heap.get?_push_of_some _ z)
    have gA : ((hp.push (PySem.W.excTup [u])).push (exr C none hp.objs.size)).get? (hp.objs.size + 1) = some (exr C none hp.objs.size) := by heap_get
    have gT : ((hp.push (PySem.W.excTup [u])).push (exr C none hp.objs.size)).get? hp.objs.size = some (PySem.W.excTup [u]) := Heap.get?_push_of_some _ (Heap.get?_push_size hp rfl)
    have one : [u].length ≤ sizeLine := by show 1 ≤ sizeLine; rw [sizeLine_eq]; omega
    have I2 := laid2 (tk := tk) (o := exq (hp.objs.size + 1) C none hp.objs.size) (u := .tup [v]) I1 kp (Nat.le_succ _) (Nat.le_refl _) ne
      ⟨by show 1 ≤ sizeLine; rw [sizeLine_eq]; omega, [u], .cons r1 .nil, ⟨_, gT, rfl, _, rfl⟩⟩ (exq_ok gA)
    have hq := q1 _ _ n1 n2 ne
    have hl : (Value.ref (hp.objs.size + 1) :: [u]).length = ps.length := G.len _ _ _ _ hq
    have b := hb _ (Value.ref (hp.objs.size + 1) :: [u]) I2.kIn (by rw [List.append_nil]; exact hl)
    rw [List.append_nil] at b
    refine wpAny_call (callU F hT hC one look bnd (codeAny_mono (G.run _ X.stack _ _ ⟨Value.ref (hp.objs.size + 1) :: [u], []⟩ (Value.ref (hp.objs.size + 1) :: [u]) _ _ _ (hr.make C [u] []) (I2.env0.make C [u] []) b (show Vals (V.ref (hp.objs.size + 1) :: [v]) (Value.ref (hp.objs.size + 1) :: [u]) from .cons rfl (.cons r1 .nil)) hq) fun r s' z => ?_))
    rcases r with er | fl
    · exact z.elim
    · cases fl with
      | ret u2 =>
        obtain ⟨v3, H3, I3, rv, ev, q3⟩ := I2.after z
        subst ev
        exact ⟨rv, ⟨V.ref (hp.objs.size + 1), H3, I3, rfl, q3⟩⟩
      | _ => exact False.elim z) hs (by rfl)) hdb)
/-- {x!r} of what holds nothing: whatever is under way -/
def tFmt0 (te : TE) : TE := fun σ H Q => te σ H fun v H1 => ∃ d : PyData, ((v = .non ∧ d = .none) ∨ (∃ b, v = .bl b ∧ d = .bool b) ∨ (∃ i, v = .int i ∧ d = .int i) ∨ ∃ z, v = .str z ∧ d = .str z) ∧ d.showable = true ∧ d.shown.length ≤ sizeLine ∧ Q (.str d.shown) H1
theorem pe_fmt0 (he : PE X e te) : PE X (.FormattedValue e 114 none pos) (tFmt0 te) := by
  refine ⟨fun pins s σ H Q I h => ?_⟩
  refine wpAny_FormattedValue_repr (thn (he.run pins s σ H _ I h) ?_)
  rintro u s1 ⟨v, H1, I1, r1, d, hd, hs, hz, q⟩
  have fin : ∀ t tk : Nat, wpAny (model X.prog X.w) X.A (formatField (.str d.shown t) Str.empty) (EP X pins σ Q) X.xe { s1 with toks := tk } := fun t tk =>
    wpAny_formatField_str ⟨.str d.shown, H1, (I1.tok _).tok _, ⟨_, rfl⟩, q⟩ ⟨.str d.shown, H1, (I1.tok _).tok _, ⟨_, rfl⟩, q⟩ hz
  rcases hd with ⟨rfl, rfl⟩ | ⟨b, rfl, rfl⟩ | ⟨i, rfl, rfl⟩ | ⟨z, rfl, rfl⟩
  · cases (show u = Value.none from r1)
    exact pyReprObj_none (fin _ _)
  · cases (show u = Value.bool b from r1)
    exact pyReprObj_bool (fin _ _)
  · obtain ⟨t, rfl⟩ := r1
    exact pyReprObj_int (by simpa [PyData.showable] using hs) (fin _ _)
  · obtain ⟨t, rfl⟩ := r1
    exact pyReprObj_str (fin _ _) hz
end
end DW
namespace DW
open PySem PySem.Spec PyProof.Rows L2
/-! ### promises of defs that may let errors out, and that may write out data: no repr is under way -/
structure FnGX (P : Program) (w : World) (K : PySem.W.Frag) (mg : Str → Option Value) (base : Heap) (CX : CXT) (k : Nat) (f : Addr) (fd : FuncData) (ps : List Str) (sp : Sp) : Prop where
  len : ∀ vs H Q E, sp vs H Q E → vs.length = ps.length
  run : ∀ (A : Around) (outer : List Env) (s : Shared) (H : Hp) (args : Args) (us : List Value) (vs : List V) (Q : VK) (E : XK), Room k A → A.guards = some [] → Env0 P w K mg base A outer s H → BindsTo s fd args (ps.zip us) → Vals vs us → sp vs H Q E →
    codeAny (model P w) A (.call (.ref f) args) (CR CX outer P w H s Q E) s
section
variable {P : Program} {w : World} {K : PySem.W.Frag} {mg : Str → Option Value} {base : Heap}
theorem FnGX.of {CX : CXT} {k : Nat} {f : Addr} {fd : FuncData} {ps : List Str} {sp : Sp} (F : FnOk P w K mg base CX k f fd ps sp) : FnGX P w K mg base CX k f fd ps sp :=
  ⟨F.len, fun A outer s H args us vs Q E hr _ e0 hb r h => F.run A outer s H args us vs Q E hr e0 hb r h⟩
theorem FnGX.mono {CX : CXT} {j k : Nat} {f : Addr} {fd : FuncData} {ps : List Str} {sp : Sp} (F : FnGX P w K mg base CX j f fd ps sp) (h : j ≤ k) : FnGX P w K mg base CX k f fd ps sp :=
  ⟨F.len, fun A outer s H args us vs Q E hr => F.run A outer s H args us vs Q E (hr.mono h)⟩
theorem FnG.mono {j k : Nat} {f : Addr} {fd : FuncData} {ps : List Str} {sp : Sp} (F : FnG P w K mg base j f fd ps sp) (h : j ≤ k) : FnG P w K mg base k f fd ps sp :=
  ⟨F.len, fun A outer s H args us vs Q hr => F.run A outer s H args us vs Q (hr.mono h)⟩
/-- a def at f as it stands behind the top, its defaults whatever they are: its code runs -/
theorem gx_of {name qual : Str} {params : Arguments} {body : List Stmt} {scope : Scope} {dV kV doc pm cdv ct oc : Value} {an od : Option Addr} {osl : Array (Option Value)} {CX : CXT} {f : Addr} {N ps : List Str} {k : Nat} {sp : Sp}
    (lk : K.lookup f = some ⟨oc, od, .func (PySem.W.fnOf name qual params body scope dV kV doc pm an cdv ct), osl⟩) (hcd : PySem.W.codeIn K cdv qual = true) (S : FnScope N ps scope)
    (len : ∀ vs H Q E, sp vs H Q E → vs.length = ps.length)
    (hbody : ∀ (A : Around) (outer : List Env) (s : Shared) (H : Hp) (vs : List V) (Q : VK) (E : XK), Room k (A.deeper (envOfC qual scope s.heap.objs.size f cdv)) → A.guards = some [] → sp vs H Q E →
      ∃ t, PSs (cxOf CX P w K mg base N qual scope f cdv A outer s H E) body t ∧ t { nx := fun _ H' => Q .non H', rt := Q } (start N vs) H) :
    FnGX P w K mg base CX (k + 1) f (PySem.W.fnOf name qual params body scope dV kV doc pm an cdv ct) ps sp := by
  refine ⟨len, fun A outer s H args us vs Q E hr hg env0 hb r hsp => ?_⟩
  exact LamX.run_ofS lk hcd S hr env0 hb r (len _ _ _ _ hsp) fun hr' => hbody A outer s H vs Q E hr' hg hsp
theorem fngx {x qual : Str} {st : Stmt} {f : Addr} {fd : FuncData} {N ps : List Str} {k : Nat} {sp : Sp} (F : Fun K x qual st f fd) (S : FnScope N ps (defScope st)) (len : ∀ vs H Q E, sp vs H Q E → vs.length = ps.length)
    (hbody : ∀ (cdv : Value) (A : Around) (outer : List Env) (s : Shared) (H : Hp) (vs : List V) (Q : VK) (E : XK), Room k (A.deeper (envOfC qual (defScope st) s.heap.objs.size f cdv)) → A.guards = some [] → sp vs H Q E →
      ∃ t, PSs (cxOf (L2.CX P w) P w K mg base N qual (defScope st) f cdv A outer s H E) (defBody st) t ∧ t { nx := fun _ H' => Q .non H', rt := Q } (start N vs) H) : FnGX P w K mg base (L2.CX P w) (k + 1) f fd ps sp := by
  obtain ⟨oc, od, kV, doc, pm, an, cdv, ct, osl, rfl, lk, hcd⟩ := F.ex
  exact gx_of lk hcd S len fun A outer s H vs Q E hr hg hsp => hbody cdv A outer s H vs Q E hr hg hsp
theorem fngxD {x qual : Str} {params : Arguments} {body : List Stmt} {scope : Scope} {dvs : List V} {kws : List (Str × V)} {f : Addr} {fd : FuncData} {N ps : List Str} {k : Nat} {sp : Sp} (F : FunD K x qual params body scope dvs kws f fd) (S : FnScope N ps scope) (len : ∀ vs H Q E, sp vs H Q E → vs.length = ps.length)
    (hbody : ∀ (cdv : Value) (A : Around) (outer : List Env) (s : Shared) (H : Hp) (vs : List V) (Q : VK) (E : XK), Room k (A.deeper (envOfC qual scope s.heap.objs.size f cdv)) → A.guards = some [] → sp vs H Q E →
      ∃ t, PSs (cxOf (L2.CX P w) P w K mg base N qual scope f cdv A outer s H E) body t ∧ t { nx := fun _ H' => Q .non H', rt := Q } (start N vs) H) : FnGX P w K mg base (L2.CX P w) (k + 1) f fd ps sp := by
  obtain ⟨oc, od, dV, kV, doc, pm, an, cdv, ct, osl, rfl, lk, hcd, _, _⟩ := F.ex
  exact gx_of lk hcd S len fun A outer s H vs Q E hr hg hsp => hbody cdv A outer s H vs Q E hr hg hsp
end
section
variable {X : Cx} {CX : CXT} {k n : Nat} {f C : Addr} {fd : FuncData} {ps ks : List Str} {sp : Sp} {dvs : List V} {ds : List Value} {E : XK} {x m : Str} {p pos apos : Pos} {e o : Expr} {es : List Expr} {kws : List Keyword} {ta : TE} {t tk : TA} {g : List Value → List Value → List Value} {gV : List V → List V → List V}
theorem run_gx {pins : List (Addr × Obj)} {σ : L2.St} {H : Hp} {s : Shared} {Q : VK} {us : List Value} {vs : List V} (F : FnGX X.prog X.w X.K X.mg X.base CX k f fd ps sp) (hr : Room k X.A) (hg : X.A.guards = some []) (hb : Binds X.K fd ps ds) (hd : Vals dvs ds) (hx : Passes CX X E)
    (I : Inv X pins σ H s) (r : Vals vs us) (h : sp (vs ++ dvs) H Q E) : wpAny (model X.prog X.w) X.A (call (.ref f) us) (EP X pins σ Q) X.xe s := by
  have both : Vals (vs ++ dvs) (us ++ ds) := r.append hd
  have many : (us ++ ds).length = ps.length := both.length.symm.trans (F.len _ _ _ _ h)
  refine wpAny_call (codeAny_mono (F.run X.A X.stack s H ⟨us, []⟩ (us ++ ds) (vs ++ dvs) Q E hr hg I.env0 (hb s us I.kIn many) both h) fun r s' hq => ?_)
  cases r with
  | error er => exact hx _ _ _ _ er s' I hq
  | ok fl =>
    cases fl with
    | ret u => exact I.after hq
    | _ => exact False.elim hq
theorem run_gxN {pins : List (Addr × Obj)} {σ : L2.St} {H : Hp} {s : Shared} {Q : VK} {us ws : List Value} {vs zs : List V} (F : FnGX X.prog X.w X.K X.mg X.base CX k f fd ps sp) (hr : Room k X.A) (hg : X.A.guards = some []) (hb : KBn X.K fd ps n ks g gV) (hx : Passes CX X E)
    (I : Inv X pins σ H s) (r : Vals vs us) (rz : Vals zs ws) (l1 : vs.length = n) (l2 : zs.length = ks.length) (h : sp (gV vs zs) H Q E) : wpAny (model X.prog X.w) X.A (call (.ref f) us (ks.zip ws)) (EP X pins σ Q) X.xe s := by
  have both := hb.rel r rz
  refine wpAny_call (codeAny_mono (F.run X.A X.stack s H ⟨us, ks.zip ws⟩ (g us ws) (gV vs zs) Q E hr hg I.env0 (hb.to s us ws I.kIn (r.length.symm.trans l1) (rz.length.symm.trans l2)) both h) fun r s' hq => ?_)
  cases r with
  | error er => exact hx _ _ _ _ er s' I hq
  | ok fl =>
    cases fl with
    | ret u => exact I.after hq
    | _ => exact False.elim hq
/-- f(e, ..) -/
theorem pe_gx (F : FnGX X.prog X.w X.K X.mg X.base CX k f fd ps sp) (hr : Room k X.A) (hgu : X.A.guards = some []) (hg : Gl X x) (hm : X.mg x = some (.ref f)) (hk : PySem.W.keepIn X.K (.ref f) = true) (hb : Binds X.K fd ps ds) (hd : Vals dvs ds) (hx : Passes CX X E)
    (ha : PA X (e :: es) t) (hdb : (x == ("__debug__" : Str)) = false := by decide) (he : starEach (e :: es) X.env = (false, eval e X.env) :: starEach es X.env := by rfl) (hpl : (backTo pos (starEach es X.env)).any (·.1) = false := by rfl) :
    PE X (.Call (.Name x p) (e :: es) [] pos) (tCall sp dvs E t) := by
  refine ⟨fun pins s σ H Q I h => wpAny_Call_Name_kw (ld_glob I hg hm (PySem.W.callWith_K (h₀ := X.base) I.ok.mod.kin hk (thn (ha.run pos pins s σ H _ I h) fun us s1 z => ?_) he hpl) hdb)⟩
  obtain ⟨vs, H1, I1, r, q⟩ := z
  exact ⟨I1.kIn, run_gx F hr hgu hb hd hx I1 r q⟩
/-- o.m(e, ..), the method such a def -/
theorem pe_methX {pl : Sem Bool} (he : PE X o ta) (c : Cls X.K C) (hm : Meth X.K C m f) (F : FnGX X.prog X.w X.K X.mg X.base CX k f fd ps sp) (hr : Room k X.A) (hgu : X.A.guards = some []) (hb : Binds X.K fd ps ds) (hd : Vals dvs ds) (hx : Passes CX X E) (ha : PA X (e :: es) t)
    (hst : starEach (e :: es) X.env = (false, eval e X.env) :: starEach es X.env := by rfl) (hpl : (backTo pos (starEach es X.env)).any (·.1) = false := by rfl)
    (ht : eval (.Call (.Attribute o m apos) (e :: es) [] pos) X.env = (do
      let ov ← eval o X.env; standAt apos.atName; let (f, first) ← holding [ov] (getMethod ov m pl)
      callWith pos f first (backTo pos (starEach (e :: es) X.env)) (backToKw pos (keywordEach [] X.env))) := by rfl) :
    PE X (.Call (.Attribute o m apos) (e :: es) [] pos) (tMeth C m sp dvs E ta t) := by
  refine ⟨fun pins s σ H Q I h => PySem.W.methodCall_KW (pl := pl) (thn (he.run pins s σ H _ I h) fun u s1 z => ?_) ht⟩
  obtain ⟨v, H1, I1, rv, a, dx, fs, ev, ea, l, q⟩ := z
  subst ev
  cases (show u = Value.ref a from rv)
  refine getmeth_ok I1 ea c hm l (PySem.W.callWith_K (first := [.ref a]) (h₀ := X.base) I.ok.mod.kin hm.kp (thn (ha.run pos pins s1 σ H1 _ I1 q) fun us s2 z2 => ?_) hst hpl)
  obtain ⟨vs, H2, I2, r, q2⟩ := z2
  exact ⟨I2.kIn, run_gx (us := .ref a :: us) (vs := .ref a :: vs) F hr hgu hb hd hx I2 (.cons rfl r) q2⟩
/-- o.m(e, .., k = v, ..) -/
def tMethN (C : Addr) (m : Str) (n l : Nat) (sp : Sp) (gV : List V → List V → List V) (E : XK) (ta : TE) (t tk : TA) : TE := fun σ H Q => ta σ H fun x H1 => ∃ a dx fs, x = .ref a ∧ H1 a = some (.ins C dx fs) ∧ fs.lookup m = none ∧
  t σ H1 fun vs H2 => tk σ H2 fun zs H3 => vs.length = n ∧ zs.length = l ∧ sp (gV (x :: vs) zs) H3 Q E
theorem pe_methXN {pl : Sem Bool} (he : PE X o ta) (c : Cls X.K C) (hm : Meth X.K C m f) (F : FnGX X.prog X.w X.K X.mg X.base CX k f fd ps sp) (hr : Room k X.A) (hgu : X.A.guards = some []) (hb : KBn X.K fd ps (n + 1) ks g gV) (hx : Passes CX X E) (ha : PA X (e :: es) t) (hkw : PK X kws tk)
    (hall : (backToKw pos (keywordEach kws X.env)).all (·.1.isSome) = true := by rfl) (hks : (backToKw pos (keywordEach kws X.env)).filterMap (·.1) = ks := by rfl)
    (hst : starEach (e :: es) X.env = (false, eval e X.env) :: starEach es X.env := by rfl) (hpl : ((backTo pos (starEach (e :: es) X.env)).any (·.1) || (backToKw pos (keywordEach kws X.env)).any (·.1.isNone)) = false := by rfl)
    (ht : eval (.Call (.Attribute o m apos) (e :: es) kws pos) X.env = (do
      let ov ← eval o X.env; standAt apos.atName; let (f, first) ← holding [ov] (getMethod ov m pl)
      callWith pos f first (backTo pos (starEach (e :: es) X.env)) (backToKw pos (keywordEach kws X.env))) := by rfl) :
    PE X (.Call (.Attribute o m apos) (e :: es) kws pos) (tMethN C m n ks.length sp gV E ta t tk) := by
  refine ⟨fun pins s σ H Q I h => PySem.W.methodCall_KW (pl := pl) (thn (he.run pins s σ H _ I h) fun u s1 z => ?_) ht⟩
  obtain ⟨v, H1, I1, rv, a, dx, fs, ev, ea, l, q⟩ := z
  subst ev
  cases (show u = Value.ref a from rv)
  refine getmeth_ok I1 ea c hm l (PySem.W.callWith_KW (first := [.ref a]) (h₀ := X.base) I.ok.mod.kin hm.kp hall (thn (ha.run pos pins s1 σ H1 _ I1 q) fun us s2 z2 => ?_) hpl hst)
  obtain ⟨vs, H2, I2, r, q2⟩ := z2
  refine thn (hkw.run pos pins s2 σ H2 _ I2 q2) fun ws s3 z3 => ?_
  obtain ⟨zs, H3, I3, rz, l1, l2, q3⟩ := z3
  refine ⟨I3.kIn, ?_⟩
  rw [hks]
  exact run_gxN (us := .ref a :: us) (vs := .ref a :: vs) F hr hgu hb hx I3 (.cons rfl r) rz (by rw [List.length_cons, l1]) l2 q3
end
end DW
namespace DW
open PySem PySem.Spec PyProof.Rows L2 LamX
/-! ### a lambda handed to a def, where no repr is under way -/
section
variable {X : Cx} {pins : List (Addr × Obj)} {σ : L2.St} {H : Hp} {s : Shared}
/-- x() in the def that got the lambda; the lambda's body is told that no repr is under way -/
theorem pe_actG {CXg : CXT} {Eg : XK} {Ng : List Str} {qg : Str} {sg : Scope} {g f c' : Addr} {cdg pm ctv : Value} {params : Arguments} {body : Expr} {scope : Scope} {k i : Nat} {a : Str} {pn : List (Addr × Obj)} {xe : Value → Shared → Prop} {W : WX} {E : XK} {tb : TE} {p1 p2 : Pos}
    (I : Inv X pins σ H s) (L : LamS X.env.scope scope) (isF : s.heap.get? f = some (PySem.W.kla_obj "<lambda>" (X.env.qual ++ "<lambda>") params body scope (cloFrom X.env.cells scope.names []) pm c' ctv)) (nF : H f = none) (offF : f ∉ frs X.stack)
    (noPar : bindArgs (PySem.W.kla_fn "<lambda>" (X.env.qual ++ "<lambda>") params body scope (cloFrom X.env.cells scope.names []) pm (.ref c') ctv) ⟨[], []⟩ = pure []) (hgu : X.A.guards = some [])
    (tk : Takes ((cxOf CXg X.prog X.w X.K X.mg X.base Ng qg sg g cdg X.A X.stack s H Eg).tr pn xe) W) (hW : ∀ cls d σ' H', E cls d H' → W cls d σ' H') (hr : Room (k + 1) (X.A.deeper (envOfC qg sg s.heap.objs.size g cdg)))
    (inner : ∀ (A : Around) (outer : List Env) (s : Shared) (H : Hp), Room k (A.deeper (lamEnv X scope s.heap.objs.size f c')) → A.guards = some [] → PE (lamCx X A outer s H E scope f c') body tb)
    (hN : Ng[i]? = some a) (hv : Vis sg a) (hd : (a == ("__debug__" : Str)) = false := by decide) (hcd : (a == ("__classdict__" : Str)) = false := by decide) :
    PE ((cxOf CXg X.prog X.w X.K X.mg X.base Ng qg sg g cdg X.A X.stack s H Eg).tr pn xe) (.Call (.Name a p1) [] [] p2) (fun σZ HZ Q => σZ[i]? = some (some (.ref f)) ∧ HZ c' = some (CodeO c' (X.env.qual ++ "<lambda>")) ∧ tb σ HZ Q) := by
  refine ⟨fun pinsZ sZ σZ HZ Q IZ h => ?_⟩
  obtain ⟨atI, atC, ht⟩ := h
  refine wpAny_Call_Name_kw (thn ((pe_var (pos := p1) (i := i) hN hv hd hcd).run pinsZ sZ σZ HZ (fun v H1 => v = .ref f ∧ H1 = HZ) IZ ⟨.ref f, atI, rfl, rfl⟩) fun u s1 z => ?_)
  obtain ⟨v, H1, I1, r1, rfl, rfl⟩ := z
  cases (show u = Value.ref f from r1)
  have stillF := I1.base.keep f _ isF nF offF (fun z => nomatch (show f ∈ ([] : List Addr) from z))
  refine PySem.W.callWith_F0 ⟨_, _, _, _, stillF⟩ ?_
  have same : Un (frs X.stack) [] H H1 s.heap s1.heap := I1.base
  obtain ⟨⟨oc, vs, t, c1, c2, c3⟩, _, _⟩ := I1.hok c' _ atC
  have runs : codeAny (model X.prog X.w) (X.A.deeper (envOfC qg sg s.heap.objs.size g cdg)) (.call (.ref f) ⟨[], []⟩) (CR (L2.CX X.prog X.w) (envOfC qg sg s.heap.objs.size g cdg :: X.stack) X.prog X.w H1 s1 Q E) s1 := by
    refine PySem.W.kla_callFunE hr.depth stillF rfl L.co L.gen rfl ⟨c', oc, vs, t, rfl, c1, c2, c3⟩ (by
      rw [noPar]
      refine wpAny_pure (wpAny_newFunctionEnv (fun y hy => (L.own y hy).2) (fun y hy => absurd hy (by simp)) (fun h₁ hns hsb => ⟨I1.nolimit.fresh _ hsb, ?_⟩) L.kind)
      have old : ∀ b o, s1.heap.get? b = some o → h₁.get? b = some o := fun b o e => hsb.extBut b o (Nat.ne_of_lt (Heap.lt_size e)) (Heap.get?_push_of_some _ e)
      have J := lam_start2 (E := E) (f := f) (c' := c') (tk := s1.toks + ([] : List (Str × Value)).length) I L I1.env0 hr.hd same hns old
      refine (show codeAny _ _ (.expr body (lamEnv X scope s1.heap.objs.size f c')) _ _ from PySem.W.kla_codeExpr (wpAny_mono ((inner _ _ s1 H1 (hr.deeper _) hgu).run [] _ _ H1 Q J ht) (fun v s' hq => ?_) fun e s' hq => hq))
      obtain ⟨w', H', J', rv, q⟩ := hq
      exact ⟨w', H', J'.os, J'.bare, J'.base, J'.hok, rv, q⟩)
  have up : Passes (L2.CX X.prog X.w) ((cxOf CXg X.prog X.w X.K X.mg X.base Ng qg sg g cdg X.A X.stack s H Eg).tr pn xe) E := passes_call tk hW
  refine wpAny_call (codeAny_mono runs fun r s' hq => ?_)
  cases r with
  | error er => exact up pinsZ σZ H1 s1 er s' I1 hq
  | ok fl =>
    cases fl with
    | ret u => exact I1.after hq
    | _ => exact False.elim hq
/-- x(lambda: body), where no repr is under way -/
theorem pe_lamcallG {T : List (Addr × Str)} {TT : (XK → Hp → VK → Prop) → Hp → VK → Prop} {x a : Str} {g c P : Addr} {k : Nat} {pg : Arguments} {bg : List Stmt} {sg : Scope} {dV kV doc pm cdv ct oc : Value} {an od : Option Addr} {osl : Array (Option Value)} {Ng : List Str}
    {params : Arguments} {body : Expr} {scope : Scope} {t : XK → TE} {p lpos pos : Pos} (hg : Gl X x) (hm : X.mg x = some (.ref g)) (hk : PySem.W.keepIn X.K (.ref g) = true) (hgu : X.A.guards = some [])
    (lk : X.K.lookup g = some ⟨oc, od, .func (PySem.W.fnOf x x pg bg sg dV kV doc pm an cdv ct), osl⟩) (hcg : PySem.W.codeIn X.K cdv x = true) (hb : L2.Binds X.K (PySem.W.fnOf x x pg bg sg dV kV doc pm an cdv ct) [a] []) (Sg : FnScope Ng [a] sg) (hNg : Ng[0]? = some a) (hva : Vis sg a)
    (hG : GivesTo X Ng x sg g cdv bg a (X.env.qual ++ "<lambda>") TT) (TB : TabB X.base X.mg c P) (hcode : X.env.code = .ref c) (hmT : (P, X.env.qual ++ "<lambda>") ∈ T) (hu : ∀ p ∈ T, p.1 = P → p.2 = X.env.qual ++ "<lambda>") (hr : Room (k + 2) X.A) (L : LamS X.env.scope scope) (hdef : defaultsOf params X.env = ([], []))
    (noPar : ∀ (q : Str) (cl : List (Str × Addr)) (pm cv ctv : Value), bindArgs (PySem.W.kla_fn "<lambda>" q params body scope cl pm cv ctv) ⟨[], []⟩ = pure [])
    (inner : ∀ (A : Around) (outer : List Env) (s : Shared) (H : Hp) (E : XK) (f c' : Addr), Room k (A.deeper (lamEnv X scope s.heap.objs.size f c')) → A.guards = some [] → PE (lamCx X A outer s H E scope f c') body (t E))
    (hdb : (x == ("__debug__" : Str)) = false := by decide) (hd : (a == ("__debug__" : Str)) = false := by decide) (hcd : (a == ("__classdict__" : Str)) = false := by decide) :
    PE X (.Call (.Name x p) [.Lambda params body scope lpos] [] pos) (tLam T TT t) := by
  refine ⟨fun pins s σ H Q I h => ?_⟩
  obtain ⟨tabs, h⟩ := h
  refine wpAny_Call_Name_kw (ld_glob I hg hm (PySem.W.callWith_K (h₀ := X.base) I.ok.mod.kin hk ?_ (by rfl) (by rfl)) hdb)
  refine (show wpAny _ _ (spliced ((false, eval (.Lambda params body scope lpos) X.env) :: backTo pos (starEach [] X.env))) _ _ s from Calls.spliced_cons (lam_make2 I TB hcode hmT hu tabs hdef (L.has I.ok) fun f c' pm' ctv H1 s' I1 eN T1 hf hfn hfr hco => ?_))
  refine Calls.spliced_nil ⟨I1.kIn, ?_⟩
  have runs : codeAny (model X.prog X.w) X.A (.call (.ref g) ⟨[.ref f], []⟩) (CR C8.CX0 X.stack X.prog X.w H1 s' Q C8.E0) s' := by
    refine run_ofS (N := Ng) (ps := [a]) (us := [.ref f]) (vs := [.ref f]) lk hcg Sg hr I1.env0 (hb s' [.ref f] I1.kIn rfl) (.cons rfl .nil) rfl fun hr' => ?_
    obtain ⟨t', ht', hq'⟩ := hG f c' s' H1 Q (fun E H' Q' => t E σ H' Q') (fun W pn xe E p1 p2 tk hW => pe_actG (i := 0) I1 L hf hfn hfr (noPar _ _ _ _ _) hgu tk hW hr' (fun A outer s H hr2 hg2 => inner A outer s H E f c' hr2 hg2) hNg hva hd hcd) hco (h H1 eN T1)
    exact ⟨t', ht'.nox, hq'⟩
  refine wpAny_call (codeAny_mono runs fun r s2 hq => ?_)
  cases r with
  | error er => exact (show False from hq).elim
  | ok fl =>
    cases fl with
    | ret u => exact I1.after hq
    | _ => exact False.elim hq
end
end DW
namespace DW
open PySem PySem.Spec PyProof.Rows L2
/-! ### dicts whose keys are tuples: written out, and made by a comprehension -/
section
variable {X : Cx} {pins : List (Addr × Obj)} {σ : L2.St} {H : Hp} {s : Shared}
/-- the store of a pair, as displays and comprehensions do it -/
theorem dt_dictSet {E : Value → Shared → Prop} {D b : Addr} {kvs : List (List Key × V)} {k : List Key} {v : V} {r : Value} {Q : Unit → Shared → Prop} (hu : X.A.units + 1 < cLine) (I : Inv X pins σ H s) (hD : H D = some (.dT kvs)) (hb : H b = some (.tup (k.map kV))) (hz : kvs.length < sizeLine)
    (rv : RelV v r) (h : ∀ s', Inv X pins σ (upd H D (.dT (putK kvs k v))) s' → Q () s') : wpAny (model X.prog X.w) X.A (dictSet D (.ref b) r) Q E s := by
  obtain ⟨z, notSys, xs, rel, held⟩ := dt_of I.hok hD
  have many : xs.length ≤ sizeLine := by rw [← Paired.length rel]; exact z
  have more : (putK kvs k v).length ≤ sizeLine := by have := length_putK kvs k v; omega
  refine wpAny_dictSet_heap (hsz := many) (show X.A.units < cLine by omega) (key_of I.hok hb) held fun h' now same => h _ ?_
  obtain ⟨q, es, ep, hq, h2, h3, h4, _, h5⟩ := now
  refine d_write I (by rw [hD]; exact True.intro) same ⟨q, hq⟩ ⟨more, notSys, _, (rel.put k hb rv).keeps fun c ys ec => ?_, q, es, ep, hq, h2, h3, h4, h5⟩
  rw [upd_ne (ne_of ec hD (fun z => nomatch z))]
  exact ec
end
def mergeT (kvs more : List (List Key × V)) : List (List Key × V) := more.foldl (fun acc kv => putK acc kv.1 kv.2) kvs
theorem mergeT_le : ∀ (more kvs : List (List Key × V)), (mergeT kvs more).length ≤ kvs.length + more.length
  | [], kvs => Nat.le_refl _
  | p :: r, kvs => by
    have h1 := mergeT_le r (putK kvs p.1 p.2)
    have h2 := length_putK kvs p.1 p.2
    show (mergeT (putK kvs p.1 p.2) r).length ≤ kvs.length + (r.length + 1)
    omega
/-- the pairs of a display: each key a tracked tuple -/
abbrev KeyRows (H : Hp) : List (V × V) → List (List Key × V) → Prop := Paired fun p q => p.2 = q.2 ∧ ∃ b, p.1 = .ref b ∧ H b = some (.tup (q.1.map kV))
section
variable {X : Cx} {pins : List (Addr × Obj)} {σ : L2.St} {H : Hp} {s : Shared}
theorem carriesT (I : Inv X pins σ H s) : ∀ {ps : List (V × V)} {kvs : List (List Key × V)} {ws : List (Value × Value)}, KeyRows H ps kvs → VV ps ws → ∃ xs, CarriesH (tupleKind (mixKind X.prog X.w)) s.heap ws xs ∧ KT H kvs xs
  | _, _, _, .nil, r => by
    cases r
    exact ⟨[], True.intro, .nil⟩
  | _, _, _, .cons h t, r => by
    cases r with
    | cons r1 r2 =>
      obtain ⟨xs, c, q⟩ := carriesT I t r2
      obtain ⟨e, b, eb, hb⟩ := h
      obtain ⟨ra, rb⟩ := r1
      rw [eb] at ra
      exact ⟨(_, b, _) :: xs, ⟨ra, rfl, key_of I.hok hb, c⟩, .cons ⟨rfl, hb, by rw [← e]; exact rb⟩ q⟩
theorem kt_merge {H : Hp} : ∀ {more : List (List Key × V)} {xs : List (List Key × Addr × Value)} {kvs : List (List Key × V)} {ys : List (List Key × Addr × Value)}, KT H more xs → KT H kvs ys → KT H (mergeT kvs more) (storedAllH ys xs)
  | _, _, _, _, .nil, q => q
  | p :: ps, x :: xs, kvs, ys, .cons h t, q => by
    obtain ⟨e, hb, rv⟩ := h
    have z := q.put p.1 hb rv
    have w := kt_merge t z
    have e2 : storedH ys p.1 x.2.1 x.2.2 = storedH ys x.1 x.2.1 x.2.2 := by rw [e]
    rw [e2] at w
    exact w
end
/-- {(..): v, ..}; the new dict stands empty while the pairs are made -/
def tDispT (trs : List (TE × TE)) : TE := fun σ H Q => ∀ p, H p = none → tPairs trs σ (upd H p (.dT [])) fun ps H2 => H2 p = some (.dT []) ∧ ∃ kvs : List (List Key × V), KeyRows H2 ps kvs ∧ kvs.length ≤ 15 ∧ Q (.ref p) (upd H2 p (.dT (mergeT [] kvs)))
theorem pe_dispT {X : Cx} {pos : Pos} {keys : List (Option Expr)} {values : List Expr} {trs : List (TE × TE)} (hu : X.A.units + 1 < cLine) (h : PPs X pos keys values trs) (hall : keys.all (·.isSome) = true) (hl : keys.length = values.length) (h0 : keys ≠ [])
    (few : keys.length ≤ 15) : PE X (.Dict keys values pos) (tDispT trs) := by
  refine ⟨fun pins s σ H Q I q => ?_⟩
  have free := I.hok.fresh (Nat.le_refl s.heap.objs.size)
  have I1 := I.laid (a := s.heap.objs.size) (o := .dT []) (h' := s.heap.push { cls := .type "dict", data := .dict #[] }) (t' := s.toks) (fun _ _ z => Heap.get?_push_of_some _ z) (Nat.le_refl _) (dt_empty s.heap I.big)
  have many := pairTrees_length keys values X.env pos hall hl
  have some' : pairTrees keys values X.env pos ≠ [] := fun e => h0 (List.length_eq_zero_iff.mp (by rw [← many, e]; rfl))
  have few' : (pairTrees keys values X.env pos).length ≤ 15 := by rw [many]; exact few
  rw [arm_eval_Dict, zip_pairTrees keys values X.env pos hall hl, dictDisplay_pairs _ some' (by omega)]
  refine wpAny_bind (wpAny_standAt (wpAny_bind (wpAny_subDictH (knd := tupleKind (mixKind X.prog X.w)) (show X.A.units < cLine by omega) few' (thn (h.run pins _ σ _ _ I1 (q _ free)) fun ws s2 z => ?_))))
  obtain ⟨ps, H2, I2, rel, e, kvs, rows, len, q2⟩ := z
  obtain ⟨xs, c, rk⟩ := carriesT I2 rows rel
  obtain ⟨z, notSys, ys, r0, held⟩ := dt_of I2.hok e
  cases r0
  refine ⟨xs, c, held, fun h' tk now same => wpAny_pure ⟨.ref s.heap.objs.size, _, ?_, rfl, q2⟩⟩
  obtain ⟨o, es, ep, ho, h2, h3, h4, _, h5⟩ := now
  refine d_write I2 (by rw [e]; exact True.intro) same ⟨o, ho⟩ ⟨?_, notSys, _, (kt_merge rk .nil).keeps fun c ys ec => ?_, o, es, ep, ho, h2, h3, h4, h5⟩
  · have := mergeT_le kvs []
    rw [List.length_nil] at this
    rw [sizeLine_eq]
    omega
  · rw [upd_ne (ne_of ec e (fun z => nomatch z))]
    exact ec
end DW
namespace DW
open PySem PySem.Spec PyProof.Rows L2
section
variable {X : Cx}
/-- {k: v for target in iter if ..}, the keys tuples: D the new dict -/
def tDcT (wi : TI) (g : TG) (tt : TT) (tk tv : TE) (vs : List Nat) : TE := fun σ H Q => wi σ H fun J H1 => ∀ D, H1 D = none → ∃ W : Nat → Nat → Hp → Prop, (∃ m, W 0 m (upd H1 D (.dT []))) ∧ ∀ i m H, W i m H →
  (J.stop i H ∧ Q (.ref D) H) ∨ (J.go i H ∧ ∃ Nx : Hp → Prop, (∀ H', Nx H' → ∃ m', m' < m ∧ W (i + 1) m' H') ∧ ∀ x H', J.yld i H x H' → g x (wipe σ vs) H' fun σ2 H2 => wipe σ2 vs = wipe σ vs ∧ tt σ2 H2 fun b H3 =>
    if b = true then tk σ2 H3 fun y H4 => tv σ2 H4 fun z H5 => ∃ kvs k c, y = .ref c ∧ H5 c = some (.tup (k.map kV)) ∧ H5 D = some (.dT kvs) ∧ kvs.length < sizeLine ∧ Nx (upd H5 D (.dT (putK kvs k z))) else Nx H3)
theorem pe_dcT {kx vx tg iter : Expr} {ifs : List Expr} {scope : Scope} {own : List (Str × Nat)} {pos : Pos} {wi : TI} {g : TG} {tt : TT} {tk tv : TE} (hu : X.A.units + 1 < cLine) (hc : X.calm = true) (hN : X.N.Nodup) (hi : PI X tg iter wi) (ok : BlkOk X.N X.env.scope scope own)
    (hg : ∀ (s : Shared) (H : Hp) (C : Addr) (cl : List (Str × Addr)) (fp : List Addr), PG (X.blk s H scope (compEnvC scope cl C X.env) fp) tg g) (ht : ∀ (s : Shared) (H : Hp) (C : Addr) (cl : List (Str × Addr)) (fp : List Addr), PTs (X.blk s H scope (compEnvC scope cl C X.env) fp) ifs tt)
    (hk : ∀ (s : Shared) (H : Hp) (C : Addr) (cl : List (Str × Addr)) (fp : List Addr), PE (X.blk s H scope (compEnvC scope cl C X.env) fp) kx tk) (he : ∀ (s : Shared) (H : Hp) (C : Addr) (cl : List (Str × Addr)) (fp : List Addr), PE (X.blk s H scope (compEnvC scope cl C X.env) fp) vx tv)
    (plain : ∀ x, foldedSetIterable iter X.env x = pure x := by intro _; rfl) : PE X (.DictComp kx vx [⟨tg, iter, ifs, 0⟩] scope pos) (tDcT wi g tt tk tv (own.map (·.2))) := by
  refine ⟨fun pins s σ H Q I h => ?_⟩
  rw [arm_eval_DictComp]
  have frees : ∀ y ∈ scope.names, y.2 = .free → ∃ c, X.env.cells.lookup y.1 = some c := fun y hy e => by
    rcases ok.free y hy e with k | k
    · exact I.ok.has _ (.inl k)
    · exact I.ok.has _ (.inr k)
  refine wpAny_comprehension_free (use := none) rfl plain (closure_ok frees) ok.kind (fun y hy e => by rw [ok.uniq y hy, e]) (thn (hi.run pins s σ H _ I h) fun src sa first => thn first fun itv sb z => ?_)
  obtain ⟨it, fp, tn, J, Hb, rfl, Ib, Tn, at0, apart, want⟩ := z
  refine wpAny_newObj_type (newEnv_comp ?_)
  -- D: the new dict's address
  obtain ⟨D, eD⟩ : ∃ D, sb.heap.objs.size = D := ⟨_, rfl⟩
  rw [eD]
  have freeD : Hb D = none := Ib.hok.fresh (Nat.le_of_eq eD)
  obtain ⟨W, ⟨m0, w0⟩, turn⟩ := want D freeD
  obtain ⟨sc, esc⟩ : ∃ sc : Shared, ({ sb with heap := sb.heap.push { cls := .type "dict", data := .dict #[] } } : Shared) = sc := ⟨_, rfl⟩
  have Ic : Inv X pins σ (upd Hb D (.dT [])) sc := by
    rw [← esc]
    refine Ib.laid (t' := sb.toks) (fun b o e => Heap.get?_push_of_some _ e) (Nat.le_of_eq eD) ?_
    rw [← eD]
    exact dt_empty sb.heap Ib.big
  have esh : sc.heap = sb.heap.push { cls := .type "dict", data := .dict #[] } := by rw [← esc]
  have low : ∀ b ∈ fp, b < sb.heap.objs.size := fun b hb => by
    obtain ⟨o, e, _⟩ := Tn.obj _ _ at0 b hb
    exact Heap.lt_size e
  have apartC : ∀ b ∈ fp, FpOk X pins (upd Hb D (.dT [])) b ∧ b < sc.heap.objs.size := fun b hb => by
    have lt := low b hb
    refine ⟨⟨?_, (apart b hb).2⟩, by rw [esh, Heap.size_push]; exact Nat.lt_succ_of_lt lt⟩
    rw [upd_ne (by rw [← eD]; exact Nat.ne_of_lt lt)]
    exact (apart b hb).1
  have atC : tn 0 sc.heap := Tn.keep _ _ _ at0 fun b _ o e => by rw [esh]; exact Heap.get?_push_of_some _ e
  have Id := block_start Ic ok hN apartC
  have pg := hg sc (upd Hb D (.dT [])) sc.heap.objs.size (cellsFrom (sc.heap.objs.size + 1) scope.names (cloFrom X.env.cells scope.names [])) fp
  have pt := ht sc (upd Hb D (.dT [])) sc.heap.objs.size (cellsFrom (sc.heap.objs.size + 1) scope.names (cloFrom X.env.cells scope.names [])) fp
  have pk := hk sc (upd Hb D (.dT [])) sc.heap.objs.size (cellsFrom (sc.heap.objs.size + 1) scope.names (cloFrom X.env.cells scope.names [])) fp
  have pw := he sc (upd Hb D (.dT [])) sc.heap.objs.size (cellsFrom (sc.heap.objs.size + 1) scope.names (cloFrom X.env.cells scope.names [])) fp
  rw [show ({ sb with heap := sb.heap.push { cls := .type "dict", data := .dict #[] } } : Shared) = sc from esc]
  have nofp : ∀ b ∈ fp, (upd Hb D (.dT [])) b = none := fun b hb => (apartC b hb).1.1
  show codeAny _ _ (.compStart (.DictComp kx vx [⟨tg, iter, ifs, 0⟩] scope pos) 0 (.ref it) (.ref D) (compEnvC scope (cellsFrom (sc.heap.objs.size + 1) scope.names (cloFrom X.env.cells scope.names [])) sc.heap.objs.size X.env)) (compPost (model X.prog X.w) X.A X.xe none _ (.ref D) sc.heap.objs.size) { sc with heap := pushCells (sc.heap.push { cls := .type "dict", data := .dict #[] }) scope.names }
  generalize ece : compEnvC scope (cellsFrom (sc.heap.objs.size + 1) scope.names (cloFrom X.env.cells scope.names [])) sc.heap.objs.size X.env = ce at Id pg pt pk pw ⊢
  have locs : ce.locals = sc.heap.objs.size := by subst ece; rfl
  generalize eHc : upd Hb D (.dT []) = Hc at Ic Id pg pt pk pw w0 nofp apartC
  obtain ⟨sd, esd⟩ : ∃ sd : Shared, ({ sc with heap := pushCells (sc.heap.push { cls := .type "dict", data := .dict #[] }) scope.names } : Shared) = sd := ⟨_, rfl⟩
  rw [esd] at Id ⊢
  have atD : tn 0 sd.heap := Tn.keep _ _ _ atC fun b _ o e => by rw [← esd]; exact pushCells_keeps _ _ _ _ (Heap.get?_push_of_some _ e)
  have still : ∀ {σ' : L2.St} {H' : Hp} {s' : Shared}, Inv (X.blk sc Hc scope ce fp) [] σ' H' s' → (∀ b ∈ fp, H' b = none) → ∀ b ∈ fp, FpOk (X.blk sc Hc scope ce fp) [] H' b := fun {σ' H' s'} J' n b hb =>
    ⟨n b hb, (J'.ok.exf b hb).1, J'.ok.exfs b hb, .inl hb, fun x c e => (J'.ok.exf b hb).2 x c e, fun p hp => absurd (show p ∈ ([] : List (Addr × Obj)) ++ [] from hp) (by simp)⟩
  have loop : codeAny (model X.prog X.w) X.A (.compLoop (.DictComp kx vx [⟨tg, iter, ifs, 0⟩] scope pos) 0 (.ref it) (.ref D) ce) (compPost (model X.prog X.w) X.A X.xe none (EP X pins σ Q) (.ref D) sc.heap.objs.size) sd := by
    refine compLoop_anyD (fun n s' => ∃ i H', Inv (X.blk sc Hc scope ce fp) [] (wipe σ (own.map (·.2))) H' s' ∧ tn i s'.heap ∧ (∀ b ∈ fp, H' b = none) ∧ W i n H') ?_ m0 ⟨0, Hc, Id, atD, nofp, w0⟩
    rintro n se ⟨i, He, Ie, atE, nE, wE⟩
    rcases turn i n He wE with ⟨stop, fin⟩ | ⟨go, Nx, less, step⟩
    · refine thnF (Tn.done (X.blk sc Hc scope ce fp) rfl rfl rfl hc i [] se _ He (fun _ _ => False) Ie (still Ie nE) atE stop) fun r sf z => ?_
      obtain ⟨rfl, If⟩ := z
      have Ig : Inv X pins σ He sf := Ic.call' (ch := fp) If.os If.base If.hok If.bare fun b hb => ⟨(apartC b hb).1.2.2.2.1, (apartC b hb).1.2.1, (apartC b hb).1.2.2.2.2.1, (apartC b hb).1.2.2.2.2.2⟩
      have freeC : He sc.heap.objs.size = none := by
        have z : He ce.locals = none := If.free
        rw [locs] at z
        exact z
      obtain ⟨m, ns, _⟩ := If.loc
      have ns : sf.heap.Ns ce.locals m := ns
      rw [locs] at ns
      obtain ⟨g0, g1, g2, g3, g4, g5⟩ := Ic.fpOk (H' := He) (Nat.le_refl _) freeC
      exact ⟨m, ns, fun h'' same => ⟨.ref D, He, Ig.turned (t' := sf.toks) (fun b o hb e => (same.2 b hb).trans e) g0 g1 g3 g4 g5, rfl, fin⟩⟩
    · refine thnF (Tn.item (X.blk sc Hc scope ce fp) rfl rfl rfl hc i [] se _ He (fun _ _ => False) Ie (still Ie nE) atE go) fun r sf z => ?_
      obtain ⟨u, rfl, next⟩ := z
      refine thnF next fun _ sg z => ?_
      obtain ⟨x, Hg, Ig, rg, yg, atG, nG⟩ := z
      have Ih := Ig.pinned (still Ig nG) (Tn.obj _ _ atG)
      refine thnF (pg.run _ sg _ Hg x u _ Ih rg (step x Hg yg)) fun _ si z => ?_
      obtain ⟨σi, Hi, Ii, wi', qi⟩ := z
      refine thnF (pt.run _ si σi Hi _ Ii qi) fun b sj z => ?_
      obtain ⟨Hj, Ij, qj⟩ := z
      have fin : ∀ {s' : Shared} {H' : Hp}, Inv (X.blk sc Hc scope ce fp) ([] ++ pinsAt fp sg.heap) σi H' s' → Nx H' → ∃ m, m < n ∧ ∃ i H', Inv (X.blk sc Hc scope ce fp) [] (wipe σ (own.map (·.2))) H' s' ∧ tn i s'.heap ∧ (∀ b ∈ fp, H' b = none) ∧ W i m H' := fun {s' H'} J' nx => by
        obtain ⟨m', lt, w'⟩ := less H' nx
        have pinned : ∀ b ∈ fp, ∀ o, sg.heap.get? b = some o → s'.heap.get? b = some o ∧ H' b = none := fun b hb o e =>
          let z := J'.pin (b, o) (List.mem_append_right _ (List.mem_append_right _ (mem_pinsAt hb e)))
          ⟨z.1, z.2.1⟩
        have len : (wipe σ (own.map (·.2))).length = σi.length := by rw [← wi', wipe_length]
        refine ⟨m', lt, i + 1, H', (J'.unpinned (pins := [])).weak len (fun j v e => ?_), Tn.keep _ _ _ atG fun b hb o e => (pinned b hb o e).1, fun b hb => ?_, w'⟩
        · rw [← wi'] at e
          exact (wipe_some e).1
        · obtain ⟨o, e, _⟩ := Tn.obj _ _ atG b hb
          exact (pinned b hb o e).2
      cases b with
      | false => exact fin Ij qj
      | true =>
        refine thnF (pk.run _ sj σi Hj _ Ij qj) fun z1 sk z => ?_
        obtain ⟨yk, Hk, Ik, rk, qk⟩ := z
        refine thnF (pw.run _ sk σi Hk _ Ik qk) fun z2 sl z => ?_
        obtain ⟨yv, Hl, Il, rl, kvs, k, c, rfl, atKey, atDict, room, nx⟩ := z
        cases (show z1 = Value.ref c from rk)
        exact dt_dictSet (X := X.blk sc Hc scope ce fp) hu Il atDict atKey room rl fun sm Im => fin Im nx
  exact codeAny_compStart_dict loop (Tn.self X.A 0 _ _ _ atD loop)
end
end DW
namespace DW
open PySem PySem.Spec PyProof.Rows L2
/-! ### set(texts), with as many texts as one likes below the scan's bound -/
/-- how many of the first i texts are new -/
def newN (xs : List Str) : Nat → Nat
  | 0 => 0
  | i + 1 => if (xs.take i).any (· == xs.getD i Str.empty) = true then newN xs i else newN xs i + 1
theorem newN_le (xs : List Str) : ∀ i, newN xs i ≤ i
  | 0 => Nat.le_refl 0
  | i + 1 => by
    have z := newN_le xs i
    unfold newN
    split <;> omega
abbrev inN (xs : List Str) (i : Nat) : Str → Bool := fun y => (xs.take i).any (· == y)
theorem inN_step {xs : List Str} {i : Nat} (h : i < xs.length) (y : Str) : (inN xs i y || decide (y = xs.getD i Str.empty)) = inN xs (i + 1) y := by
  have e : xs[i]? = some (xs.getD i Str.empty) := by rw [List.getD_eq_getElem?_getD, List.getElem?_eq_getElem h]; rfl
  unfold inN
  rw [takeSucc e, List.any_append, List.any_cons, List.any_nil, Bool.or_false]
  congr 1
  rw [Bool.eq_iff_iff, decide_eq_true_iff, beq_iff_eq]
  exact ⟨fun z => z.symm, fun z => z.symm⟩
section
variable {prog : Program} {w : World} {A : Around} {R : Result → Shared → Prop} {I : Addr} {fp wr : List Addr} {G : Array GenState → Array GenState → Prop} {n : Nat} {Pv : Nat → Value → Prop} {St : Nat → Shared → Prop}
theorem setLoop (W : WalksS prog w A.in1 I fp wr G n Pv St) {S : Addr} (out : S ∉ fp) {xs : List Str} (len : xs.length = n) (small : n + 1 < scanBound) (val : ∀ i v, Pv i v → ∃ t, v = .str (xs.getD i Str.empty) t) :
    ∀ (left i : Nat) (s : Shared), n - i = left → i ≤ n → St i s → s.heap.SetOf (PySem.strKind prog w) S (inN xs i) (newN xs i) →
      (∀ s', Moved (S :: wr) G s s' → s'.heap.SetOf (PySem.strKind prog w) S (inN xs n) (newN xs n) → R (.ok (.ret .none)) s') →
      codeAny (model prog w) A (.builtin "set.update.loop" ⟨[.ref S, .ref I], []⟩) R s := by
  have nw : S ∉ wr := fun z => out (W.sub _ z)
  have up : ∀ b ∈ wr, b ∈ S :: wr := fun b z => List.mem_cons_of_mem _ z
  have kept : ∀ {s s' : Shared} {f : Str → Bool} {m : Nat}, Moved wr G s s' → s.heap.SetOf (PySem.strKind prog w) S f m → s'.heap.SetOf (PySem.strKind prog w) S f m := fun mv ⟨o, es, ep, t, ho, more⟩ => ⟨o, es, ep, t, mv.heap S _ nw ho, more⟩
  intro left
  induction left with
  | zero =>
    intro i s hk hi hst hS fin
    obtain rfl : i = n := by omega
    refine codeAny_builtin PyProof.Rows.F.entry_set_update_loop (by
      rw [Around.under_plainId PyProof.Rows.F.plain_set_update_loop _]
      exact wpAny_bind (W.done s _ _ hst fun s' mv => wpAny_pure (fin s' (mv.mono up) (kept mv hS))))
  | succ left ih =>
    intro i s hk hi hst hS fin
    have lt : i < n := by omega
    refine codeAny_builtin PyProof.Rows.F.entry_set_update_loop (by
      rw [Around.under_plainId PyProof.Rows.F.plain_set_update_loop _]
      refine wpAny_bind (W.item i s _ _ lt hst fun v s1 hv hst1 mv => ?_)
      obtain ⟨t, rfl⟩ := val i v hv
      have hS1 := kept mv hS
      refine (show wpAny _ A.in1 (holding [Value.str (xs.getD i Str.empty) t] (setAdd S (.str (xs.getD i Str.empty) t)) >>= _) _ _ s1 from wpAny_bind (wpAny_holding ?_))
      unfold setAdd
      refine wpAny_holding (wpAny_bind ((PySem.strKind prog w).pyHash (k := xs.getD i Str.empty) (strKind_is _ _ _ _) ?_))
      have room := newN_le xs i
      refine wpAny_setAddHashed_of (knd := PySem.strKind prog w) (s := { s1 with toks := s1.toks + 1 }) (strKind_is _ _ _ _) rfl hS1 (by omega) fun h' but hS2 => ?_
      have hS3 : h'.SetOf (PySem.strKind prog w) S (inN xs (i + 1)) (newN xs (i + 1)) := PyProof.Rows.SetOf_congr hS2 (fun y => inN_step (by omega) y) rfl
      refine wpAny_pure ⟨plainId_quiet PyProof.Rows.F.plain_set_update_loop _, ih (i + 1) _ (by omega) lt (W.frame _ s1 _ _ hst1 (Nat.le_succ _) fun b hb o e => (but.2 b fun z => out (z ▸ hb)).trans e) hS3 fun s2 mv2 hS4 => ?_⟩
      exact fin s2 (Moved.trans W.gtrans ((mv.mono up).then_heap (Nat.le_succ _) fun b o hb e => (but.2 b fun z => hb (z ▸ List.mem_cons_self)).trans e) mv2) hS4)
end
section
variable {prog : Program} {w : World} {A : Around} {E : Value → Shared → Prop} {s : Shared}
abbrev rawSet (led : Bool) : Obj := { cls := .type "set", dict := none, data := .set #[] 0 (.fresh 0 0 led) }
/-- what stands behind the making: the set at a, all older objects as they were -/
def SetMade (prog : Program) (w : World) (h : Heap) (a : Addr) (xs : List Str) (h' : Heap) : Prop :=
  h'.SetOf (PySem.strKind prog w) a (inN xs xs.length) (newN xs xs.length) ∧ ∀ b o, b < h.objs.size → h.get? b = some o → h'.get? b = some o
theorem setFill {l : Addr} {items : Array Value} {xs : List Str} {led : Bool} (hh : A.handled = none) (hl : s.heap.IsList l items) (hi : PyProof.Rows.StrsAre items.toList xs) (small : xs.length + 1 < scanBound) :
    codeAny (model prog w) A (.call (.builtin "set.__init__") ⟨[.ref s.heap.objs.size, .ref l], []⟩)
      (wants (fun r s2 => r = .none ∧ ∃ h' tk, s2 = { s with heap := h', toks := tk } ∧ SetMade prog w s.heap s.heap.objs.size xs h') E) { s with heap := s.heap.push (rawSet led) } := by
  have hS : (s.heap.push (rawSet led)).get? s.heap.objs.size = some (rawSet led) := Heap.get?_push_size _ rfl
  have hT : Shared.TypeIs { s with heap := s.heap.push (rawSet led) } (.ref s.heap.objs.size) "set" := ⟨_, hS, rfl⟩
  refine codeAny_call_builtin PySem.F.called_set.init.plain PySem.F.entry_set_init (check_set_init_1 hT ?_)
  obtain ⟨⟨oc, odict, odata, oslots⟩, hol, hcl, nl, hdl⟩ := hl
  simp only at hcl hdl
  subst hcl hdl
  have hol1 := Heap.get?_push_of_some (rawSet led) hol
  have f1 := PySem.F.sub_list_set
  have f2 := PySem.F.sub_list_frozenset
  have f3 : (Value.type "list" == Value.type "dict") = false := by decide
  have hl1 : (s.heap.push (rawSet led)).IsList l items := ⟨_, hol1, rfl, nl, rfl⟩
  unfold Builtin.«set.__init__» noKeywords Builtin.Frozenset.updateFrom
  generalize hPI : pyIter = PI
  wp_walk
  subst hPI
  have old : l < s.heap.objs.size := Heap.lt_size hol
  have len : xs.length = items.size := (StrsAre.len_eq hi).symm.trans Array.length_toList
  have nI : l ≠ (s.heap.push (rawSet led)).objs.size := fun z => by rw [Heap.size_push] at z; exact Nat.ne_of_lt (Nat.lt_succ_of_lt old) z
  have out : s.heap.objs.size ∉ [(s.heap.push (rawSet led)).objs.size, l] := fun z => by
    rw [Heap.size_push] at z
    simp only [List.mem_cons, List.not_mem_nil, or_false] at z
    rcases z with z | z
    · exact Nat.ne_of_lt (Nat.lt_succ_self _) z
    · exact Nat.ne_of_lt old z.symm
  have vals : ∀ (i : Nat) (v : Value), items[i]? = some v → ∃ t, v = .str (xs.getD i Str.empty) t := fun i v e => SS.strs_at hi i v (Array.getElem?_toList.trans e)
  have get0 : ((s.heap.push (rawSet led)).push { cls := .type "list_iterator", data := .fields #[.ref l, .int 0 0] }).get? s.heap.objs.size = some (rawSet led) := Heap.get?_push_of_some _ hS
  have start : ((s.heap.push (rawSet led)).push { cls := .type "list_iterator", data := .fields #[.ref l, .int 0 0] }).SetOf (PySem.strKind prog w) s.heap.objs.size (inN xs 0) (newN xs 0) :=
    PyProof.Rows.SetOf_congr ((PyProof.Rows.setObjOf_fresh (knd := PySem.strKind prog w) led).setOf get0 (by unfold scanBound; omega)) (fun _ => rfl) rfl
  have W := (Walks.list (prog := prog) (w := w) (A := A.in1.in1) (by simp [hh]) (s.heap.push (rawSet led)).objs.size l nI items).toS
  refine wpAny_pyIter_list hl1 (wpAny_bind (wpAny_runValue (setLoop W out len (by omega) vals (items.size - 0) 0 { s with heap := (s.heap.push (rawSet led)).push { cls := .type "list_iterator", data := .fields #[.ref l, .int 0 0] } } (by omega) (Nat.zero_le _) ⟨⟨_, Heap.get?_push_size _ rfl, rfl, rfl⟩, hl1.push _⟩ start fun s2 mv hS2 => ?_)))
  obtain ⟨h', g', d', tk', os'⟩ := s2
  cases (show g' = s.gens from mv.gens)
  cases (show d' = s.drawn from mv.drawn)
  cases (show os' = s.os from mv.os)
  refine wpAny_pure (wpAny_pure ⟨rfl, h', tk', rfl, by rw [len]; exact hS2, fun b o hb e => ?_⟩)
  refine mv.heap b o (fun z => ?_) (Heap.get?_push_of_some _ (Heap.get?_push_of_some _ e))
  rw [Heap.size_push] at z
  simp only [List.mem_cons, List.not_mem_nil, or_false] at z
  rcases z with z | z
  · exact Nat.ne_of_lt hb z
  · exact Nat.ne_of_lt (Nat.lt_succ_of_lt hb) z
theorem setList {l : Addr} {items : Array Value} {xs : List Str} {Q : Value → Shared → Prop} (hh : A.handled = none) (hl : s.heap.IsList l items) (hi : PyProof.Rows.StrsAre items.toList xs) (small : xs.length + 1 < scanBound)
    (k : ∀ h' tk, SetMade prog w s.heap s.heap.objs.size xs h' → Q (.ref s.heap.objs.size) { s with heap := h', toks := tk }) : wpAny (model prog w) A (call (.type "set") [.ref l]) Q E s := by
  obtain ⟨c, tl, hmro⟩ := PySem.F.called_set.mro
  have g1 := PySem.F.called_set.made
  have g2 := PySem.F.called_set.sub
  have g3 := PySem.F.called_set.notType
  have g4 := PySem.F.called_set.canCreate
  have g5 := PySem.F.typeCall_set_1 (.ref l)
  refine wpAny_call (codeAny_of_tree (show wpAny _ _ (callAny (.type "set") _) _ _ _ from wpAny_pure ⟨Code.quiet_builtin _ (by decide +kernel), codeAny_builtin PySem.F.entry_type_call ?_⟩))
  rw [Around.under_plain (weight_type_call_type "set" [.ref l] []) rfl]
  repeat (any_goals (first | assumption | wp_step))
  refine codeAny_mono (code_set_new_1 (.ref l) (E := E) (Q₁ := fun obj s1 => ∃ led : Bool, obj = .ref s.heap.objs.size ∧ s1 = { s with heap := s.heap.push (rawSet led) }) fun led => ⟨led, rfl, rfl⟩) fun r s1 z => ?_
  match r, z with
  | .ok (.ret _), ⟨led, e1, e2⟩ =>
    subst e1 e2
    have hT : Shared.TypeIs { s with heap := s.heap.push (rawSet led) } (.ref s.heap.objs.size) "set" := ⟨_, Heap.get?_push_size _ rfl, rfl⟩
    have i1 := PySem.F.called_set.init.lookup
    have i2 := PySem.F.called_set.init.bind (.ref s.heap.objs.size)
    repeat (any_goals (first | assumption | wp_step))
    refine codeAny_mono (setFill (E := E) (by simp [hh]) hl hi small) fun r2 s2 z2 => ?_
    match r2, z2 with
    | .ok (.ret _), ⟨e3, h', tk, e4, made⟩ =>
      subst e3 e4
      repeat (any_goals (first | assumption | wp_step))
      exact k h' tk made
    | .error e, z2 => exact z2
  | .error e, z => exact z
end
section
variable {X : Cx}
/-- len(set(e)), e a list of texts -/
def tLenS (K : PySem.W.Frag) (te : TE) : TE := fun σ H Q => te σ H fun x H1 => ∃ (l : Addr) (xs : List Str), x = .ref l ∧ SqL K H1 l (xs.map V.str) ∧ xs.length + 1 < scanBound ∧ Q (.int (newN xs xs.length : Nat)) H1
theorem pe_lenS {e : Expr} {te : TE} {p p2 q pos : Pos} (hc : X.calm = true) (hg : Gl X "len") (hm : X.mg "len" = none) (hg2 : Gl X "set") (hm2 : X.mg "set" = none) (he : PE X e te)
    (na : starEach [e] X.env = (false, eval e X.env) :: starEach [] X.env := by rfl) : PE X (.Call (.Name "len" p) [.Call (.Name "set" p2) [e] [] q] [] pos) (tLenS X.K te) := by
  refine ⟨fun pins s σ H Q I h => ?_⟩
  refine Call_ (ld_blt I hg hm PySem.boot_len (PyProof.Rows.callWith_builtin1 (PyProof.Rows.args_cons ?_ rfl) rfl rfl))
  refine Call_ (ld_blt I hg2 hm2 boot_set (PyProof.Rows.callWith_type1 (PyProof.Rows.args_cons (thn (he.run pins s σ H _ I h) fun v s1 z => PyProof.Rows.args_nil ?_) na) na rfl))
  obtain ⟨x, H1, I1, r1, l, xs, rfl, hq, small, q1⟩ := z
  cases r1
  obtain ⟨its, r, pl, hz⟩ := I1.list hq
  refine setList (I1.ok.hd hc) pl.isList (by simpa using L2.strsAre_of r) small fun h' tk made => PyProof.Rows.args_nil ?_
  obtain ⟨⟨o, es, ep, t, ho, hex, hd, _, _, _, hf, hn⟩, kept⟩ := made
  have I2 : Inv X pins σ H1 { s1 with heap := h', toks := tk } := I1.kept fun b o e => kept b o (Heap.lt_size e) e
  have le := newN_le xs xs.length
  have sb : scanBound < 2 ^ 60 := by unfold scanBound; decide
  exact call_len_set ho hex hd hf (by rw [hn]; omega) ⟨.int (newN xs xs.length : Nat), H1, I2.tok _, ⟨_, by rw [hn]⟩, q1⟩
end
end DW
namespace DW
open PySem PySem.Spec PyProof.Rows L2
/-! ### sorted(set(texts)) -/
/-- the set at a, whose table can be walked -/
def SetW {P : Program} {w : World} {K : Type} [DecidableEq K] (knd : KeyKind P w K) (h : Heap) (a : Addr) (S : K → Bool) (n : Nat) : Prop :=
  ∃ o es ep t, h.get? a = some o ∧ o.ExactSet ∧ o.data = .set es ep t ∧ ElemsOf knd es.toList ∧ (∀ k, S k = true ↔ ∃ e ∈ es.toList, knd.is k e.2 = true) ∧ es.size < scanBound ∧ t.fits es.size = true ∧ es.size = n ∧
    Ris t.place.toList ∧ (w.params.followText "set-order" = true ∨ t.led = true)
section
variable {P : Program} {w : World} {K : Type} [DecidableEq K] {knd : KeyKind P w K} {A : Around} {E : Value → Shared → Prop} {s : Shared} {a : Addr} {S : K → Bool} {n : Nat}
theorem SetW.at {h h' : Heap} (R : SetW knd h a S n) (k : ∀ o, h.get? a = some o → h'.get? a = some o) : SetW knd h' a S n := by
  obtain ⟨o, es, ep, t, ho, r⟩ := R
  exact ⟨o, es, ep, t, k o ho, r⟩
theorem SetW.congr {h : Heap} {S' : K → Bool} {m : Nat} (R : SetW knd h a S n) (e : ∀ k, S k = S' k) (em : n = m) : SetW knd h a S' m := by
  obtain rfl : S = S' := funext e
  subst em
  exact R
/-- the store of a grown table, and its laying anew -/
theorem setW_tail {g : Bool → Sem Unit} (quiet : ∀ (b : Bool) (s₁ : Shared) (Q' : Unit → Shared → Prop), Q' () s₁ → wpAny (model P w) A (g b) Q' E s₁) {o : Obj} {es : Array (Int × Value)} {ep : Nat} {t : SetTable} (ho : s.heap.get? a = some o) (ex : o.ExactSet) (hd : o.data = .set es ep t)
    {es1 : Array (Int × Value)} {t2 : SetTable} {S' : K → Bool} (el : ElemsOf knd es1.toList) (mem : ∀ k, S' k = true ↔ ∃ e ∈ es1.toList, knd.is k e.2 = true) (low : es1.size < scanBound) (fit : t2.fits es1.size = true) (ris : Ris t2.place.toList) (led : w.params.followText "set-order" = true ∨ t2.led = true)
    {wasDummy : Bool} {R : Option Bool → Shared → Prop} (fin : ∀ h', Heap.SameBut a s.heap h' → SetW knd h' a S' es1.size → R (some true) { s with heap := h' }) :
    wpAny (model P w) A (do
        storeSet a es1 t2
        if (!wasDummy && t2.tooFull) = true then do
            g (relayAll t2 es1 (SetTable.grown es1.size)).2.2; storeSet a (relayAll t2 es1 (SetTable.grown es1.size)).1 (relayAll t2 es1 (SetTable.grown es1.size)).2.1; pure (some true)
          else pure (some true)) R E s := by
  refine wpAny_bind (wpAny_storeSet_of ho hd ?_ (fits_of_scanBound low))
  have at1 := store_at (es' := es1) (t' := t2) ho hd
  have same1 := Heap.SameBut.update s.heap a (Obj.putSet es1 t2)
  by_cases c : (!wasDummy && t2.tooFull) = true
  · rw [if_pos c]
    have perm := relayAll_perm t2 es1 (SetTable.grown es1.size)
    have fit3 := relayAll_fits t2 es1 (SetTable.grown es1.size)
    have ris3 := relayAll_ris t2 es1 (SetTable.grown es1.size)
    have led3 := relayAll_led t2 es1 (SetTable.grown es1.size)
    generalize relayAll t2 es1 (SetTable.grown es1.size) = Z at perm fit3 ris3 led3 ⊢
    obtain ⟨es2, t3, gave⟩ := Z
    simp only at perm fit3 ris3 led3 ⊢
    have size2 : es2.size = es1.size := by rw [← Array.length_toList, perm.length_eq, Array.length_toList]
    refine wpAny_bind (quiet _ _ _ (wpAny_bind (wpAny_storeSet_of at1 rfl (wpAny_pure (fin _ (same1.trans (Heap.SameBut.update _ a _)) ?_)) (fits_of_scanBound (by rw [size2]; exact low)))))
    exact ⟨_, es2, _, t3, store_at (es' := es2) (t' := t3) at1 rfl, ex, rfl, el.perm perm, fun k => (mem k).trans ⟨fun ⟨e, m, q⟩ => ⟨e, perm.mem_iff.mpr m, q⟩, fun ⟨e, m, q⟩ => ⟨e, perm.mem_iff.mp m, q⟩⟩, by rw [size2]; exact low, fit3, size2, ris3, led.imp id fun z => by rw [led3]; exact z⟩
  · rw [if_neg c]
    exact wpAny_pure (fin _ same1 ⟨_, es1, _, t2, at1, ex, rfl, el, mem, low, fit, rfl, ris, led⟩)
theorem setW_add {k : K} {x : Value} {Q : Bool → Shared → Prop} (hk : knd.is k x = true) (scan : x.scannable = true) (R : SetW knd s.heap a S n) (room : n + 1 < scanBound)
    (fin : ∀ h', Heap.SameBut a s.heap h' → SetW knd h' a (fun j => S j || decide (j = k)) (if S k = true then n else n + 1) → Q (!S k) { s with heap := h' }) : wpAny (model P w) A (setAddHashed a x (knd.hash k)) Q E s := by
  obtain ⟨o, es, ep, t, ho, ex, hd, el, mem, low, fit, size, ris, led⟩ := R
  unfold setAddHashed setAddHashedIn
  refine wpAny_holding (wpAny_bind (wpAny_setState_of ho hd fit ?_))
  dsimp only
  rw [byScan_of scan low el]
  simp only [↓reduceIte]
  unfold setAddByScan
  refine wpAny_bind (wpAny_bind (wpAny_rule (wpAny_bind (wpAny_setScan_of hk ho hd fit el ?_))))
  cases found : List.findIdx? (fun e => knd.is k e.2) es.toList with
  | some j =>
    obtain ⟨lt, is, _⟩ := List.findIdx?_eq_some_iff_getElem.mp found
    have yes : S k = true := (mem k).mpr ⟨es.toList[j], List.getElem_mem lt, is⟩
    have q := fin s.heap (Heap.SameBut.refl a s.heap) ⟨o, es, ep, t, ho, ex, hd, el, fun i => by
      rw [Bool.or_eq_true, decide_eq_true_eq, ← mem i]
      exact ⟨fun z => z.elim id (fun e => e ▸ yes), .inl⟩, low, fit, by rw [if_pos yes]; exact size, ris, led⟩
    rw [yes] at q
    exact wpAny_pure (wpAny_pure q)
  | none =>
    have no : S k = false := by
      cases q : S k with
      | false => rfl
      | true =>
        obtain ⟨e, m, is⟩ := (mem k).mp q
        have z := List.findIdx?_eq_none_iff.mp found e m
        rw [is] at z
        cases z
    have perm := layNew_perm t es (knd.hash k) x
    have fit1 := layNew_fits t es (knd.hash k) x
    have ris1 := layNew_ris t es (knd.hash k) x ris
    have led1 := layNew_led t es (knd.hash k) x
    generalize layNew t es (knd.hash k) x = Z at perm fit1 ris1 led1 ⊢
    obtain ⟨es1, t1, wasDummy, gave⟩ := Z
    simp only at perm fit1 ris1 led1 ⊢
    rw [Array.toList_push] at perm
    have el1 : ElemsOf knd es1.toList := (el.push hk scan).perm perm
    have mem1 : ∀ j, (S j || decide (j = k)) = true ↔ ∃ e ∈ es1.toList, knd.is j e.2 = true := mem_push_iff hk mem perm
    have size1 : es1.size = n + 1 := by rw [← Array.length_toList, perm.length_eq, List.length_append, Array.length_toList, size]; rfl
    have led2 : w.params.followText "set-order" = true ∨ t1.led = true := led.imp id fun z => by rw [led1]; exact z
    have done : ∀ h', Heap.SameBut a s.heap h' → SetW knd h' a (fun j => S j || decide (j = k)) es1.size → Q true { s with heap := h' } := fun h' same r => by
      have q := fin h' same
      rw [no] at q
      rw [size1] at r
      exact q r
    have gw : ∀ (b : Bool) {s₁ : Shared} {Q' : Unit → Shared → Prop}, Q' () s₁ → wpAny (model P w) A (match b with | true => rule "set.scan.the-table-gave-way" | false => pure ()) Q' E s₁ := fun b s₁ Q' q => by
      cases b
      · exact wpAny_pure q
      · exact wpAny_rule q
    have low1 : es1.size < scanBound := by rw [size1]; exact room
    refine wpAny_bind (gw _ ?_)
    split
    · refine wpAny_bind (by
        rw [hashByValue_scannable 8 scan]
        refine wpAny_pure (setW_tail (fun b s₁ Q' q => by cases b <;> first | exact wpAny_pure q | exact wpAny_rule q) ho ex hd el1 mem1 low1 ?_ ?_ ?_ fun h' same r => wpAny_pure (done h' same r))
        · split
          · exact fit1
          · exact SetTable.fits_plain_off fit1
        · split <;> exact ris1
        · split <;> exact led2)
    · refine wpAny_bind (wpAny_pure ?_)
      simp only [↓reduceIte]
      exact setW_tail (fun b s₁ Q' q => by cases b <;> first | exact wpAny_pure q | exact wpAny_rule q) ho ex hd el1 mem1 low1 fit1 ris1 led2 fun h' same r => wpAny_pure (done h' same r)
end
end DW
namespace DW
open PySem PySem.Spec PyProof.Rows L2
section
variable {prog : Program} {w : World} {A : Around} {E : Value → Shared → Prop} {s : Shared}
abbrev newSetO (w : World) : Obj := rawSet (!w.params.followText "set-order")
theorem setW_new (a : Value) {Q₁ : Value → Shared → Prop} (h : Q₁ (.ref s.heap.objs.size) { s with heap := s.heap.push (newSetO w) }) : codeAny (model prog w) A (.call (.builtin "set.__new__") ⟨[.type "set", a], []⟩) (wants Q₁ E) s := by
  refine codeAny_of_tree (show wpAny _ A.in1 (do checkBuiltinCall "set.__new__" ⟨[.type "set", a], []⟩; again (.builtin "set.__new__" ⟨[.type "set", a], []⟩)) _ _ s from ?_)
  refine wpAny_bind (wpAny_of_eq (PySem.F.newCall_set_1 a) (wpAny_pure ⟨plainId_quiet PySem.F.plain_set_new _, codeAny_builtin PySem.F.entry_set_new (by
    rw [Around.under_plainId PySem.F.plain_set_new _]
    unfold Builtin.«set.__new__» Builtin.Frozenset.newClass
    have isSet := sub_set_self
    obtain ⟨hp, g, d, tk, os⟩ := s
    dsimp only
    wp_walk
    refine wpAny_askSetting (wpAny_pure ?_)
    dsimp only
    simp only [newObj]
    exact wpAny_bind (wpAny_alloc (wpAny_pure (wpAny_pure h))))⟩))
end
section
variable {prog : Program} {w : World} {A : Around} {R : Result → Shared → Prop} {I : Addr} {fp wr : List Addr} {G : Array GenState → Array GenState → Prop} {n : Nat} {Pv : Nat → Value → Prop} {St : Nat → Shared → Prop}
theorem setLoopW (W : WalksS prog w A.in1 I fp wr G n Pv St) {S : Addr} (out : S ∉ fp) {xs : List Str} (len : xs.length = n) (small : n + 1 < scanBound) (val : ∀ i v, Pv i v → ∃ t, v = .str (xs.getD i Str.empty) t) :
    ∀ (left i : Nat) (s : Shared), n - i = left → i ≤ n → St i s → SetW (PySem.strKind prog w) s.heap S (inN xs i) (newN xs i) →
      (∀ s', Moved (S :: wr) G s s' → SetW (PySem.strKind prog w) s'.heap S (inN xs n) (newN xs n) → R (.ok (.ret .none)) s') → codeAny (model prog w) A (.builtin "set.update.loop" ⟨[.ref S, .ref I], []⟩) R s := by
  have nw : S ∉ wr := fun z => out (W.sub _ z)
  have up : ∀ b ∈ wr, b ∈ S :: wr := fun b z => List.mem_cons_of_mem _ z
  have kept : ∀ {s s' : Shared} {f : Str → Bool} {m : Nat}, Moved wr G s s' → SetW (PySem.strKind prog w) s.heap S f m → SetW (PySem.strKind prog w) s'.heap S f m := fun mv r => r.at fun o => mv.heap S o nw
  intro left
  induction left with
  | zero =>
    intro i s hk hi hst hS fin
    obtain rfl : i = n := by omega
    refine codeAny_builtin PyProof.Rows.F.entry_set_update_loop (by
      rw [Around.under_plainId PyProof.Rows.F.plain_set_update_loop _]
      exact wpAny_bind (W.done s _ _ hst fun s' mv => wpAny_pure (fin s' (mv.mono up) (kept mv hS))))
  | succ left ih =>
    intro i s hk hi hst hS fin
    have lt : i < n := by omega
    refine codeAny_builtin PyProof.Rows.F.entry_set_update_loop (by
      rw [Around.under_plainId PyProof.Rows.F.plain_set_update_loop _]
      refine wpAny_bind (W.item i s _ _ lt hst fun v s1 hv hst1 mv => ?_)
      obtain ⟨t, rfl⟩ := val i v hv
      have hS1 := kept mv hS
      refine (show wpAny _ A.in1 (holding [Value.str (xs.getD i Str.empty) t] (setAdd S (.str (xs.getD i Str.empty) t)) >>= _) _ _ s1 from wpAny_bind (wpAny_holding ?_))
      unfold setAdd
      refine wpAny_holding (wpAny_bind ((PySem.strKind prog w).pyHash (k := xs.getD i Str.empty) (strKind_is _ _ _ _) ?_))
      have room := newN_le xs i
      refine setW_add (s := { s1 with toks := s1.toks + 1 }) (strKind_is _ _ _ _) rfl hS1 (by omega) fun h' but hS2 => ?_
      have hS3 : SetW (PySem.strKind prog w) h' S (inN xs (i + 1)) (newN xs (i + 1)) := hS2.congr (fun y => inN_step (by omega) y) rfl
      refine wpAny_pure ⟨plainId_quiet PyProof.Rows.F.plain_set_update_loop _, ih (i + 1) _ (by omega) lt (W.frame _ s1 _ _ hst1 (Nat.le_succ _) fun b hb o e => (but.2 b fun z => out (z ▸ hb)).trans e) hS3 fun s2 mv2 hS4 => ?_⟩
      exact fin s2 (Moved.trans W.gtrans ((mv.mono up).then_heap (Nat.le_succ _) fun b o hb e => (but.2 b fun z => hb (z ▸ List.mem_cons_self)).trans e) mv2) hS4)
end
section
variable {prog : Program} {w : World} {A : Around} {E : Value → Shared → Prop} {s : Shared}
def SetMadeW (prog : Program) (w : World) (h : Heap) (a : Addr) (xs : List Str) (h' : Heap) : Prop :=
  SetW (PySem.strKind prog w) h' a (inN xs xs.length) (newN xs xs.length) ∧ ∀ b o, b < h.objs.size → h.get? b = some o → h'.get? b = some o
theorem setFillW {l : Addr} {items : Array Value} {xs : List Str} (hh : A.handled = none) (hl : s.heap.IsList l items) (hi : PyProof.Rows.StrsAre items.toList xs) (small : xs.length + 1 < scanBound) :
    codeAny (model prog w) A (.call (.builtin "set.__init__") ⟨[.ref s.heap.objs.size, .ref l], []⟩)
      (wants (fun r s2 => r = .none ∧ ∃ h' tk, s2 = { s with heap := h', toks := tk } ∧ SetMadeW prog w s.heap s.heap.objs.size xs h') E) { s with heap := s.heap.push (newSetO w) } := by
  have hS : (s.heap.push (newSetO w)).get? s.heap.objs.size = some (newSetO w) := Heap.get?_push_size _ rfl
  have hT : Shared.TypeIs { s with heap := s.heap.push (newSetO w) } (.ref s.heap.objs.size) "set" := ⟨_, hS, rfl⟩
  refine codeAny_call_builtin PySem.F.called_set.init.plain PySem.F.entry_set_init (check_set_init_1 hT ?_)
  obtain ⟨⟨oc, odict, odata, oslots⟩, hol, hcl, nl, hdl⟩ := hl
  simp only at hcl hdl
  subst hcl hdl
  have hol1 := Heap.get?_push_of_some (newSetO w) hol
  have f1 := PySem.F.sub_list_set
  have f2 := PySem.F.sub_list_frozenset
  have f3 : (Value.type "list" == Value.type "dict") = false := by decide
  have hl1 : (s.heap.push (newSetO w)).IsList l items := ⟨_, hol1, rfl, nl, rfl⟩
  unfold Builtin.«set.__init__» noKeywords Builtin.Frozenset.updateFrom
  generalize hPI : pyIter = PI
  wp_walk
  subst hPI
  have old : l < s.heap.objs.size := Heap.lt_size hol
  have len : xs.length = items.size := (StrsAre.len_eq hi).symm.trans Array.length_toList
  have nI : l ≠ (s.heap.push (newSetO w)).objs.size := fun z => by rw [Heap.size_push] at z; exact Nat.ne_of_lt (Nat.lt_succ_of_lt old) z
  have out : s.heap.objs.size ∉ [(s.heap.push (newSetO w)).objs.size, l] := fun z => by
    rw [Heap.size_push] at z
    simp only [List.mem_cons, List.not_mem_nil, or_false] at z
    rcases z with z | z
    · exact Nat.ne_of_lt (Nat.lt_succ_self _) z
    · exact Nat.ne_of_lt old z.symm
  have vals : ∀ (i : Nat) (v : Value), items[i]? = some v → ∃ t, v = .str (xs.getD i Str.empty) t := fun i v e => SS.strs_at hi i v (Array.getElem?_toList.trans e)
  have get0 : ((s.heap.push (newSetO w)).push { cls := .type "list_iterator", data := .fields #[.ref l, .int 0 0] }).get? s.heap.objs.size = some (newSetO w) := Heap.get?_push_of_some _ hS
  have start : SetW (PySem.strKind prog w) ((s.heap.push (newSetO w)).push { cls := .type "list_iterator", data := .fields #[.ref l, .int 0 0] }) s.heap.objs.size (inN xs 0) (newN xs 0) :=
    ⟨_, #[], 0, _, get0, ⟨rfl, rfl, rfl⟩, rfl, (fun e he => by simp at he), (fun k => by simp [inN]), (by unfold scanBound; decide), (by rfl), rfl, List.Pairwise.nil, by
      show _ ∨ (!w.params.followText "set-order") = true
      cases w.params.followText "set-order"
      · exact .inr rfl
      · exact .inl rfl⟩
  have W := (Walks.list (prog := prog) (w := w) (A := A.in1.in1) (by simp [hh]) (s.heap.push (newSetO w)).objs.size l nI items).toS
  refine wpAny_pyIter_list hl1 (wpAny_bind (wpAny_runValue (setLoopW W out len (by omega) vals (items.size - 0) 0 { s with heap := (s.heap.push (newSetO w)).push { cls := .type "list_iterator", data := .fields #[.ref l, .int 0 0] } } (by omega) (Nat.zero_le _) ⟨⟨_, Heap.get?_push_size _ rfl, rfl, rfl⟩, hl1.push _⟩ start fun s2 mv hS2 => ?_)))
  obtain ⟨h', g', d', tk', os'⟩ := s2
  cases (show g' = s.gens from mv.gens)
  cases (show d' = s.drawn from mv.drawn)
  cases (show os' = s.os from mv.os)
  refine wpAny_pure (wpAny_pure ⟨rfl, h', tk', rfl, by rw [len]; exact hS2, fun b o hb e => ?_⟩)
  refine mv.heap b o (fun z => ?_) (Heap.get?_push_of_some _ (Heap.get?_push_of_some _ e))
  rw [Heap.size_push] at z
  simp only [List.mem_cons, List.not_mem_nil, or_false] at z
  rcases z with z | z
  · exact Nat.ne_of_lt hb z
  · exact Nat.ne_of_lt (Nat.lt_succ_of_lt hb) z
theorem setListW {l : Addr} {items : Array Value} {xs : List Str} {Q : Value → Shared → Prop} (hh : A.handled = none) (hl : s.heap.IsList l items) (hi : PyProof.Rows.StrsAre items.toList xs) (small : xs.length + 1 < scanBound)
    (k : ∀ h' tk, SetMadeW prog w s.heap s.heap.objs.size xs h' → Q (.ref s.heap.objs.size) { s with heap := h', toks := tk }) : wpAny (model prog w) A (call (.type "set") [.ref l]) Q E s := by
  obtain ⟨c, tl, hmro⟩ := PySem.F.called_set.mro
  have g1 := PySem.F.called_set.made
  have g2 := PySem.F.called_set.sub
  have g3 := PySem.F.called_set.notType
  have g4 := PySem.F.called_set.canCreate
  have g5 := PySem.F.typeCall_set_1 (.ref l)
  refine wpAny_call (codeAny_of_tree (show wpAny _ _ (callAny (.type "set") _) _ _ _ from wpAny_pure ⟨Code.quiet_builtin _ (by decide +kernel), codeAny_builtin PySem.F.entry_type_call ?_⟩))
  rw [Around.under_plain (weight_type_call_type "set" [.ref l] []) rfl]
  repeat (any_goals (first | assumption | wp_step))
  refine codeAny_mono (setW_new (.ref l) (E := E) (Q₁ := fun obj s1 => obj = .ref s.heap.objs.size ∧ s1 = { s with heap := s.heap.push (newSetO w) }) ⟨rfl, rfl⟩) fun r s1 z => ?_
  match r, z with
  | .ok (.ret _), ⟨e1, e2⟩ =>
    subst e1 e2
    have hT : Shared.TypeIs { s with heap := s.heap.push (newSetO w) } (.ref s.heap.objs.size) "set" := ⟨_, Heap.get?_push_size _ rfl, rfl⟩
    have i1 := PySem.F.called_set.init.lookup
    have i2 := PySem.F.called_set.init.bind (.ref s.heap.objs.size)
    repeat (any_goals (first | assumption | wp_step))
    refine codeAny_mono (setFillW (E := E) (by simp [hh]) hl hi small) fun r2 s2 z2 => ?_
    match r2, z2 with
    | .ok (.ret _), ⟨e3, h', tk, e4, made⟩ =>
      subst e3 e4
      repeat (any_goals (first | assumption | wp_step))
      exact k h' tk made
    | .error e, z2 => exact z2
  | .error e, z => exact z
end
end DW
namespace DW
open PySem PySem.Spec PyProof.Rows L2
theorem strsOf : ∀ (us : List Value), (∀ v ∈ us, ∃ z t, v = Value.str z t) → ∃ zs, StrsAre us zs ∧ zs.length = us.length ∧ ∀ z, z ∈ zs ↔ ∃ t, Value.str z t ∈ us
  | [], _ => ⟨[], .nil, rfl, fun z => by simp⟩
  | u :: us, h => by
    obtain ⟨z, t, rfl⟩ := h u List.mem_cons_self
    obtain ⟨zs, a, b, c⟩ := strsOf us fun v hv => h v (List.mem_cons_of_mem _ hv)
    refine ⟨z :: zs, .cons z t a, by simp [b], fun y => ?_⟩
    rw [List.mem_cons, c y]
    constructor
    · rintro (rfl | ⟨t', m⟩)
      · exact ⟨t, List.mem_cons_self⟩
      · exact ⟨t', List.mem_cons_of_mem _ m⟩
    · rintro ⟨t', m⟩
      rcases List.mem_cons.mp m with e | m
      · cases e
        exact .inl rfl
      · exact .inr ⟨t', m⟩
section
variable {X : Cx}
/-- sorted(set(e)), e a list of texts, fewer than 64 -/
def tSortSet (K : PySem.W.Frag) (te : TE) : TE := fun σ H Q => te σ H fun x H1 => ∃ (l : Addr) (xs : List Str), x = .ref l ∧ SqL K H1 l (xs.map V.str) ∧ xs.length < 63 ∧
  ∀ (ys : List Str) (p : Addr), (∀ y, y ∈ ys ↔ y ∈ xs) → sortedS ys = true → ys.length ≤ xs.length → H1 p = none → Q (.ref p) (upd H1 p (.lst (ys.map V.str)))
theorem pe_sortSet {e : Expr} {te : TE} {p p2 q pos : Pos} (hc : X.calm = true) (hg : Gl X "sorted") (hm : X.mg "sorted" = none) (hg2 : Gl X "set") (hm2 : X.mg "set" = none) (he : PE X e te)
    (na : starEach [e] X.env = (false, eval e X.env) :: starEach [] X.env := by rfl) : PE X (.Call (.Name "sorted" p) [.Call (.Name "set" p2) [e] [] q] [] pos) (tSortSet X.K te) := by
  refine ⟨fun pins s σ H Q I h => ?_⟩
  refine Call_ (ld_blt I hg hm PyProof.Rows.boot_sorted (PyProof.Rows.callWith_builtin1 (PyProof.Rows.args_cons ?_ rfl) rfl rfl))
  refine Call_ (ld_blt I hg2 hm2 boot_set (PyProof.Rows.callWith_type1 (PyProof.Rows.args_cons (thn (he.run pins s σ H _ I h) fun v s1 z => PyProof.Rows.args_nil ?_) na) na rfl))
  obtain ⟨x, H1, I1, r1, l, xs, rfl, hq, small, q1⟩ := z
  cases r1
  obtain ⟨its, r, pl, hz⟩ := I1.list hq
  have sb : 64 < scanBound := by unfold scanBound; decide
  refine setListW (I1.ok.hd hc) pl.isList (by simpa using L2.strsAre_of r) (by omega) fun h' tk made => PyProof.Rows.args_nil ?_
  obtain ⟨⟨o, es, ep, t, ho, ex, hd, el, mem, low, fit, size, ris, led⟩, kept⟩ := made
  have I2 : Inv X pins σ H1 { s1 with heap := h', toks := tk } := I1.kept fun b o e => kept b o (Heap.lt_size e) e
  have le := newN_le xs xs.length
  refine Calls.call_function_entry PyProof.Rows.kind_sorted PyProof.Rows.plain_sorted PyProof.Rows.entry_sorted (PyProof.Rows.args_sorted1 _) ?_
  unfold Builtin.«sorted»
  refine wpAny_bind (m := checkCount "sorted" 1 1 _) (wpAny_pure (wpAny_bind (collect_set (A := X.A.in1) (I2.ok.hd hc) ⟨o, ho, ex.1, hd⟩ fit low ris led fun s2 us k2 z2 g2 o2 perm => ?_)))
  have texts : ∀ v ∈ us, ∃ z t, v = Value.str z t := fun v hv => by
    obtain ⟨e, m, rfl⟩ := List.mem_map.mp (perm.mem_iff.mp hv)
    obtain ⟨⟨z, is, _⟩, _⟩ := el e m
    obtain ⟨t, ev⟩ := Value.isStrOf_shape is
    exact ⟨z, t, ev⟩
  obtain ⟨zs, hS, lz, mz⟩ := strsOf us texts
  have lu : us.length ≤ xs.length := by rw [perm.length_eq, List.length_map, Array.length_toList, size]; exact le
  have memb : ∀ y, y ∈ zs ↔ y ∈ xs := fun y => by
    rw [mz y]
    have a : inN xs xs.length y = true ↔ y ∈ xs := by
      unfold inN
      rw [List.take_length, List.any_eq_true]
      exact ⟨fun ⟨x, m, e⟩ => by rw [← beq_iff_eq.mp e]; exact m, fun m => ⟨y, m, beq_iff_eq.mpr rfl⟩⟩
    rw [← a, mem y]
    constructor
    · rintro ⟨t, m⟩
      obtain ⟨e, m2, ev⟩ := List.mem_map.mp (perm.mem_iff.mp m)
      exact ⟨e, m2, by rw [ev]; exact strKind_is _ _ _ _⟩
    · rintro ⟨e, m2, is⟩
      obtain ⟨t, ev⟩ := Value.isStrOf_shape is
      exact ⟨t, perm.mem_iff.mpr (List.mem_map.mpr ⟨e, m2, ev⟩)⟩
  refine wpAny_bind (wpAny_newList ?_ (by rw [sizeLine_eq]; omega))
  have atL : (s2.heap.push (seqObj "list" us.toArray 0)).get? s2.heap.objs.size = some (seqObj "list" us.toArray 0) := Heap.get?_push_size _ rfl
  refine (show wpAny _ _ _ _ _ { s2 with heap := s2.heap.push (seqObj "list" us.toArray 0) } from wpAny_bind (wpAny_holding (wpAny_call_entry PyProof.Rows.slot_list_sort ⟨_, atL, rfl⟩ PyProof.Rows.entry_list_sort
    (list_sort_treeK strKind_oneLt (s := { s2 with heap := s2.heap.push (seqObj "list" us.toArray 0) }) atL hS.keysOf (fun v₁ v₂ rest e => keyKind_strs (by rw [← e]; exact hS)) (by omega) fun st' hp hs => ⟨_, rfl, ?_⟩) (PyProof.Rows.args_list_sort _))))
  obtain ⟨ys, y1, y2, y3⟩ := sorted_out_str hS hp hs
  obtain ⟨e', atE⟩ := PyProof.Rows.sortedHeap_at (vs := us) (out := (arrOf st').map (·.2)) atL
  have ly : ys.length ≤ xs.length := by rw [y2.length_eq, lz]; exact lu
  have old : ∀ b u, s1.heap.get? b = some u → (sortedHeap (s2.heap.push (seqObj "list" us.toArray 0)) s2.heap.objs.size us ((arrOf st').map (·.2))).get? b = some u := fun b u e => by
    have e2 := k2 b u (kept b u (Heap.lt_size e) e)
    have lt := Heap.lt_size e2
    rw [PyProof.Rows.sortedHeap_old (Nat.ne_of_lt lt) (by rw [size_push']; exact Nat.lt_succ_of_lt lt)]
    exact Heap.get?_push_of_some _ e2
  have low1 : s1.heap.objs.size ≤ s2.heap.objs.size := Nat.le_trans (Nat.le_of_lt (Heap.lt_size ho)) z2
  have free : H1 s2.heap.objs.size = none := I1.hok.fresh low1
  have room : (ys.map V.str).length ≤ sizeLine := by rw [List.length_map, sizeLine_eq]; omega
  refine wpAny_pure ⟨_, rfl, ?_⟩
  have J : Inv X pins σ (upd H1 s2.heap.objs.size (.lst (ys.map V.str))) { s1 with heap := sortedHeap (s2.heap.push (seqObj "list" us.toArray 0)) s2.heap.objs.size us ((arrOf st').map (·.2)), gens := s2.gens, drawn := s2.drawn, toks := s2.toks } :=
    I1.call (ch := []) (Un.laid old low1 free) (I1.hok.laid old low1 ⟨room, ((arrOf st').map (·.2)).toList, e', vals_of_strs y1, by rw [Array.toArray_toList]; exact atE⟩) (by rw [g2]; exact I1.bare) (fun _ z => nomatch z)
  have eo : s2.os = s1.os := o2
  obtain ⟨hp2, gg2, d2, t2, os2⟩ := s2
  cases eo
  exact ⟨.ref hp2.objs.size, _, J, rfl, q1 ys _ (fun y => by rw [y2.mem_iff]; exact memb y) y3 ly free⟩
end
end DW
namespace DW
open PySem PySem.Spec PyProof.Rows L2 PySem.W
/-! ### sorted(d), the keys pairs of texts -/
abbrev kP (x y : Str) : List Key := [.inr x, .inr y]
def encP (b : Addr × Str × Str) : PyData := .tuple [.str b.2.1, .str b.2.2]
theorem reads2 {P : Program} {w : World} {H : Hp} {h : Heap} {b : Addr} {x y : Str} (ok : HOk P w H h) (e : H b = some (.tup [.str x, .str y])) : Reads h (.ref b) (.tuple [.str x, .str y]) [] := by
  obtain ⟨_, its, r, o, h1, h2, n, h3⟩ := (show ObjOk P w H h b (.tup [.str x, .str y]) from ok b _ e)
  cases r with
  | cons r1 r2 =>
    cases r2 with
    | cons r2 r3 =>
      cases r3
      obtain ⟨t1, rfl⟩ := r1
      obtain ⟨t2, rfl⟩ := r2
      exact Reads.tuple h1 h2 h3 (ReadsAll.cons (as := []) (Reads.str x t1) (ReadsAll.cons (as := []) (Reads.str y t2) .nil))
theorem eachAll {α β : Type} {R : α → β → Prop} {f : β → α} : ∀ {bs : List β}, (∀ b ∈ bs, R (f b) b) → EachIs R (bs.map f) bs
  | [], _ => .nil
  | b :: bs, h => .cons (h b List.mem_cons_self) (eachAll fun c m => h c (List.mem_cons_of_mem _ m))
theorem each_vals {bs : List (Addr × Str × Str)} : ∀ {us : List Value}, EachIs (fun (v : Value) (b : Addr × Str × Str) => v = .ref b.1) us bs → Vals (bs.map fun b => V.ref b.1) us := by
  induction bs with
  | nil => intro us h; cases h; exact .nil
  | cons b bs ih =>
    intro us h
    cases h with
    | cons r k => exact .cons r (ih k)
section
variable {X : Cx}
def rSortKeys (K : PySem.W.Frag) : List V → Hp → VK → Prop := fun vs H Q => ∃ (d : Addr) (kvs : List (List Key × V)), vs = [.ref d] ∧ Rd H d (.dT kvs) ∧ kvs.length ≤ 1000 ∧ (∀ p ∈ kvs, ∃ x y, p.1 = kP x y) ∧
  ∀ (bs : List (Addr × Str × Str)) (p : Addr), (bs.map fun b => kP b.2.1 b.2.2).Perm (kvs.map (·.1)) → (∀ b ∈ bs, H b.1 = some (.tup [.str b.2.1, .str b.2.2])) → H p = none → Q (.ref p) (upd H p (.lst (bs.map fun b => .ref b.1)))
theorem pairs_at {H : Hp} : ∀ {kvs : List (List Key × V)} {xs : List (List Key × Addr × Value)}, KT H kvs xs → (∀ p ∈ kvs, ∃ x y, p.1 = kP x y) → ∃ bs : List (Addr × Str × Str), (bs.map fun b => kP b.2.1 b.2.2) = kvs.map (·.1) ∧ (bs.map fun b => b.1) = xs.map (·.2.1) ∧ ∀ b ∈ bs, H b.1 = some (.tup [.str b.2.1, .str b.2.2])
  | _, _, .nil, _ => ⟨[], rfl, rfl, fun b m => by cases m⟩
  | p :: ps, q :: qs, .cons h t, pr => by
    obtain ⟨bs, e1, e2, e3⟩ := pairs_at t fun r m => pr r (List.mem_cons_of_mem _ m)
    obtain ⟨x, y, e⟩ := pr p List.mem_cons_self
    obtain ⟨_, hb, _⟩ := h
    rw [e] at hb
    refine ⟨(q.2.1, x, y) :: bs, by simp [e1, e], by simp [e2], fun b m => ?_⟩
    rcases List.mem_cons.mp m with rfl | m
    · exact hb
    · exact e3 b m
theorem cr_sortKeys (hc : X.calm = true) (hu : X.A.units + 64 < cLine) : CallR X (.builtin "sorted") (rSortKeys X.K) := by
  intro pins s σ H vs us Q I r h
  obtain ⟨d, kvs, rfl, hd, few, pr, q⟩ := h
  obtain ⟨u, rfl, ru⟩ := vals1 r
  obtain rfl : u = Value.ref d := ru
  obtain ⟨z, notSys, xs, rel, o, es, ep, ho, hx, hdat, ents, nd⟩ := (show ObjOk X.prog X.w H s.heap d (.dT kvs) from hd.ok I.hok)
  obtain ⟨bs, b1, b2, b3⟩ := pairs_at rel pr
  have l1 : es.size = xs.length := by rw [← Array.length_toList, ents, List.length_map]
  have l2 : kvs.length = xs.length := Paired.length rel
  have l3 : bs.length = xs.length := by
    have := congrArg List.length b2
    simpa using this
  refine Calls.call_function_entry PyProof.Rows.kind_sorted PyProof.Rows.plain_sorted PyProof.Rows.entry_sorted (PyProof.Rows.args_sorted1 _) ?_
  unfold Builtin.«sorted»
  refine wpAny_bind (m := checkCount "sorted" 1 1 _) (wpAny_pure (wpAny_bind (PySem.W.kdu_collect (A := X.A.in1) (kdl_raw notSys hx hdat) (I.ok.hd hc) ho (by rw [sizeLine_eq]; omega) fun h' tk acc old its => ?_)))
  have ea : acc.toList = bs.map fun b => Value.ref b.1 := by
    have len : acc.toList.length = xs.length := by rw [Array.length_toList, its.1]; exact l1
    have e2 : (bs.map fun b => Value.ref b.1) = xs.map fun x => Value.ref x.2.1 := by
      have := congrArg (List.map Value.ref) b2
      simpa [List.map_map, Function.comp_def] using this
    rw [e2]
    apply List.ext_getElem?
    intro j
    rw [List.getElem?_map]
    cases hj : acc.toList[j]? with
    | none =>
      have h1 := List.getElem?_eq_none_iff.mp hj
      rw [List.getElem?_eq_none (by omega)]
      rfl
    | some v =>
      obtain ⟨en, hen, hv⟩ := its.2 j v (by rw [← Array.getElem?_toList]; exact hj)
      have qe : es.toList[j]? = some en := by rw [Array.getElem?_toList]; exact hen
      rw [ents, List.getElem?_map] at qe
      cases hb : xs[j]? with
      | none => rw [hb] at qe; cases qe
      | some b =>
        rw [hb] at qe
        have e2 : entryOfKey (tupleKind (mixKind X.prog X.w)) b = en := Option.some.inj qe
        rw [hv, ← e2]
        rfl
  have I1 : Inv X pins σ H { s with heap := h', toks := tk } := I.kept old
  refine wpAny_bind (wpAny_newList ?_ (by rw [ea, List.length_map, sizeLine_eq]; omega))
  have atL : (h'.push (seqObj "list" acc.toList.toArray 0)).get? h'.objs.size = some (seqObj "list" acc.toList.toArray 0) := Heap.get?_push_size _ rfl
  have lay : Inv X pins σ (upd H h'.objs.size (.lst (bs.map fun b => V.ref b.1))) { s with heap := h'.push (seqObj "list" acc.toList.toArray 0), toks := tk } := by
    refine I1.laid (t' := tk) (fun b u e => Heap.get?_push_of_some _ e) (Nat.le_refl _) ⟨?_, acc.toList, 0, ?_, atL⟩
    · rw [List.length_map, sizeLine_eq]; omega
    · rw [ea]
      exact each_vals (eachAll fun b _ => rfl)
  have free : H h'.objs.size = none := I1.hok.fresh (Nat.le_refl _)
  have there : ∀ b ∈ bs, upd H h'.objs.size (.lst (bs.map fun b => V.ref b.1)) b.1 = some (.tup [.str b.2.1, .str b.2.2]) := fun b m => by
    rw [upd_ne (ne_of_none (b3 b m) free)]
    exact b3 b m
  have rd1 : EachIs (fun v b => ∃ as, Reads (h'.push (seqObj "list" acc.toList.toArray 0)) v (encP b) as ∧ h'.objs.size ∉ as) (bs.map fun b => Value.ref b.1) bs := eachAll fun b m => ⟨[], reads2 lay.hok (there b m), fun z => nomatch z⟩
  rw [← ea] at rd1
  refine (show wpAny _ _ _ _ _ { s with heap := h'.push (seqObj "list" acc.toList.toArray 0), toks := tk } from wpAny_bind (wpAny_holding ?_))
  refine list_sort_data (vs := acc.toList) (bs := bs) (enc := encP) (R := fun (v : Value) (b : Addr × Str × Str) => v = .ref b.1) atL (by rw [ea]; exact eachAll fun b _ => rfl)
    rd1 (AllAlike.of fun b c => by simp [encP, alike, alikeAll]) (Sortable.tuples fun b => ⟨_, _, rfl⟩) (by rw [sizeLine_eq]; omega) (fun b _ => by simp [encP, PyData.depth, PyData.depthAll]; show X.A.units + 1 + 1 + _ < _; omega) fun out lo eo => ?_
  obtain ⟨e', atE⟩ := PyProof.Rows.sortedHeap_at (vs := acc.toList) (out := out.toArray) atL
  have pm := List.mergeSort_perm bs (dataLe false encP)
  refine wpAny_pure ⟨_, rfl, .ref h'.objs.size, upd H h'.objs.size (.lst ((bs.mergeSort (dataLe false encP)).map fun b => V.ref b.1)), I1.laid (t' := tk) (fun b u e => ?_) (Nat.le_refl _) ⟨?_, out, e', each_vals eo, atE⟩, rfl, q _ _ (by rw [← b1]; exact pm.map _) (fun b m => b3 b (pm.mem_iff.mp m)) free⟩
  · have lt : b < h'.objs.size := Heap.lt_size e
    rw [PyProof.Rows.sortedHeap_old (Nat.ne_of_lt lt) (by rw [size_push']; exact Nat.lt_succ_of_lt lt)]
    exact Heap.get?_push_of_some _ e
  · rw [List.length_map, pm.length_eq, sizeLine_eq]; omega
end
end DW
namespace DW
open PySem PySem.Spec PyProof.Rows L2
def tyName : PyData → String
  | .none => "NoneType" | .bool _ => "bool" | .int _ => "int" | .str _ => "str" | .list _ => "list" | .tuple _ => "tuple" | .dict _ => "dict"
theorem Dp.tyx {K : PySem.W.Frag} {H : Hp} {v : V} {d : PyData} (h : Dp K H v d) : TyX K H v (.type (tyName d)) := by
  cases h with
  | non => exact .base .non
  | bl b => exact .base (.bl b)
  | int i => exact .base (.int i)
  | str x => exact .base (.str x)
  | lst hs _ =>
    rcases hs with (e | ⟨o, e⟩) | ⟨o, its, n, e, c, _⟩
    · exact .base (.lst e)
    · exact .base (.frz e)
    · exact .kList e c
  | tup hs _ =>
    rcases hs with (e | ⟨o, e⟩) | ⟨o, its, n, e, c, _⟩
    · exact .base (.tup e)
    · exact .fTuple e
    · exact .kTuple e c
theorem Dd.tyx {K : PySem.W.Frag} {H : Hp} {v : V} {d : PyData} (h : Dd K H v d) : TyX K H v (.type (tyName d)) := by
  cases h with
  | base h _ => exact Dp.tyx h
  | dct e => exact .base (.dK e)
def isIntT (d : PyData) : Bool := match d with
  | .int _ => true | .bool _ => true | _ => false
def isBoolT (d : PyData) : Bool := match d with
  | .bool _ => true | _ => false
def isStrT (d : PyData) : Bool := match d with
  | .str _ => true | _ => false
def isTupT (d : PyData) : Bool := match d with
  | .tuple _ => true | _ => false
theorem kit_int : ∀ d : PyData, kitB (tyName d) "int" = some (isIntT d)
  | .none => (show kitB "NoneType" "int" = some false by decide +kernel)
  | .bool _ => (show kitB "bool" "int" = some true by decide +kernel)
  | .int _ => (show kitB "int" "int" = some true by decide +kernel)
  | .str _ => (show kitB "str" "int" = some false by decide +kernel)
  | .list _ => (show kitB "list" "int" = some false by decide +kernel)
  | .tuple _ => (show kitB "tuple" "int" = some false by decide +kernel)
  | .dict _ => (show kitB "dict" "int" = some false by decide +kernel)
theorem kit_bool : ∀ d : PyData, kitB (tyName d) "bool" = some (isBoolT d)
  | .none => (show kitB "NoneType" "bool" = some false by decide +kernel)
  | .bool _ => (show kitB "bool" "bool" = some true by decide +kernel)
  | .int _ => (show kitB "int" "bool" = some false by decide +kernel)
  | .str _ => (show kitB "str" "bool" = some false by decide +kernel)
  | .list _ => (show kitB "list" "bool" = some false by decide +kernel)
  | .tuple _ => (show kitB "tuple" "bool" = some false by decide +kernel)
  | .dict _ => (show kitB "dict" "bool" = some false by decide +kernel)
theorem kit_str : ∀ d : PyData, kitB (tyName d) "str" = some (isStrT d)
  | .none => (show kitB "NoneType" "str" = some false by decide +kernel)
  | .bool _ => (show kitB "bool" "str" = some false by decide +kernel)
  | .int _ => (show kitB "int" "str" = some false by decide +kernel)
  | .str _ => (show kitB "str" "str" = some true by decide +kernel)
  | .list _ => (show kitB "list" "str" = some false by decide +kernel)
  | .tuple _ => (show kitB "tuple" "str" = some false by decide +kernel)
  | .dict _ => (show kitB "dict" "str" = some false by decide +kernel)
theorem kit_tup : ∀ d : PyData, kitB (tyName d) "tuple" = some (isTupT d)
  | .none => (show kitB "NoneType" "tuple" = some false by decide +kernel)
  | .bool _ => (show kitB "bool" "tuple" = some false by decide +kernel)
  | .int _ => (show kitB "int" "tuple" = some false by decide +kernel)
  | .str _ => (show kitB "str" "tuple" = some false by decide +kernel)
  | .list _ => (show kitB "list" "tuple" = some false by decide +kernel)
  | .tuple _ => (show kitB "tuple" "tuple" = some true by decide +kernel)
  | .dict _ => (show kitB "dict" "tuple" = some false by decide +kernel)
/-- isinstance(x, T) of data, as a value -/
theorem rd_isi {K : PySem.W.Frag} {σ : L2.St} {H : Hp} {T : String} {v : V} {d : PyData} {b : Bool} {Q : VK} {i : Nat} (hv : σ[i]? = some (some v)) (h : Dd K H v d) (hk : kitB (tyName d) T = some b) (q : Q (.bl b) H) :
    tCB (rIsi K) (tCons (tVar i) (tCons (tC (.ty T)) tNil)) σ H Q := ⟨v, hv, v, .ty T, _, _, b, rfl, .ty _, h.tyx, kit_ty hk, q⟩
/-- a and .. of such answers -/
theorem rd_andT {a b : TE} {σ : L2.St} {H : Hp} {Q : VK} (h : a σ H fun x H1 => x = .bl true ∧ b σ H1 Q) (m : ∀ {R R' : VK}, (∀ x H1, R x H1 → R' x H1) → a σ H R → a σ H R') : tAndV a b σ H Q :=
  m (fun x H1 z => ⟨true, z.1, iteT z.2⟩) h
def betD (lo hi : Int) (d : PyData) : Bool := match d with
  | .int i => decide (lo ≤ i) && decide (i ≤ hi) | _ => false
end DW
namespace DW
open PySem PySem.Spec PyProof.Rows L2
/-- [e for c in s if ..], s a text -/
theorem lc_str {x : Str} {g : TG} {tt : TT} {te : TE} {vs : List Nat} {σ : L2.St} {H1 : Hp} {D : Addr} {Qd : Hp → Prop} (Pv : Nat → Hp → Prop) (h0 : Pv 0 (upd H1 D (.lst [])))
    (hs : ∀ i c H, x.cps[i]? = some c → Pv i H → g (.str ⟨#[c]⟩) (wipe σ vs) H fun σ2 H2 => wipe σ2 vs = wipe σ vs ∧ tt σ2 H2 fun b H3 =>
      if b = true then te σ2 H3 fun y H4 => ∃ acc, H4 D = some (.lst acc) ∧ acc.length < sizeLine ∧ Pv (i + 1) (upd H4 D (.lst (acc ++ [y]))) else Pv (i + 1) H3) (hd : ∀ H, Pv x.cps.size H → Qd H) :
    ∃ W : Nat → Nat → Hp → Prop, (∃ m, W 0 m (upd H1 D (.lst []))) ∧ ∀ i m H, W i m H →
      ((Its x).stop i H ∧ Qd H) ∨ ((Its x).go i H ∧ ∃ Nx : Hp → Prop, (∀ H', Nx H' → ∃ m', m' < m ∧ W (i + 1) m' H') ∧ ∀ v H', (Its x).yld i H v H' → g v (wipe σ vs) H' fun σ2 H2 => wipe σ2 vs = wipe σ vs ∧ tt σ2 H2 fun b H3 =>
        if b = true then te σ2 H3 fun y H4 => ∃ acc, H4 D = some (.lst acc) ∧ acc.length < sizeLine ∧ Nx (upd H4 D (.lst (acc ++ [y]))) else Nx H3) := by
  refine ⟨fun i m H => m = x.cps.size - i ∧ i ≤ x.cps.size ∧ Pv i H, ⟨x.cps.size, by simp, Nat.zero_le _, h0⟩, ?_⟩
  rintro i m H ⟨rfl, hi, p⟩
  by_cases hlt : i < x.cps.size
  · refine .inr ⟨hlt, Pv (i + 1), fun H' p' => ⟨x.cps.size - (i + 1), by omega, rfl, hlt, p'⟩, fun v H' y => ?_⟩
    obtain ⟨e, c, hc, ev⟩ := y
    subst e ev
    exact hs i c _ hc p
  · have e : i = x.cps.size := by omega
    subst e
    exact .inl ⟨Nat.le_refl _, hd H p⟩
/-- what is judged: not too long -/
def Fit (d : PyData) : Prop := ∀ z, d = .str z → z.length ≤ 1000
end DW
namespace DW
open PySem PySem.Spec PyProof.Rows L2
theorem sqT_same {K : PySem.W.Frag} {H H' : Hp} {a : Addr} {xs : List V} (s : Same H H') (h : SqT K H a xs) : SqT K H' a xs := by
  rcases h with (e | ⟨o, e⟩) | h
  · exact .inl (.inl (s _ _ e))
  · exact .inl (.inr ⟨o, s _ _ e⟩)
  · exact .inr h
mutual
theorem Dp.same {K : PySem.W.Frag} {H H' : Hp} (s : Same H H') : ∀ {v : V} {d : PyData}, Dp K H v d → Dp K H' v d
  | _, _, .non => .non
  | _, _, .bl b => .bl b
  | _, _, .int i => .int i
  | _, _, .str x => .str x
  | _, _, .lst h a => .lst (Same.seq s h) (DpAll.same s a)
  | _, _, .tup h a => .tup (sqT_same s h) (DpAll.same s a)
theorem DpAll.same {K : PySem.W.Frag} {H H' : Hp} (s : Same H H') : ∀ {vs : List V} {ds : List PyData}, DpAll K H vs ds → DpAll K H' vs ds
  | _, _, .nil => .nil
  | _, _, .cons a b => .cons (Dp.same s a) (DpAll.same s b)
end
theorem DpAll.length {K : PySem.W.Frag} {H : Hp} : ∀ {vs : List V} {ds : List PyData}, DpAll K H vs ds → vs.length = ds.length
  | _, _, .nil => rfl
  | _, _, .cons _ b => by rw [List.length_cons, List.length_cons, DpAll.length b]
theorem DpAll.at {K : PySem.W.Frag} {H : Hp} : ∀ {vs : List V} {ds : List PyData} {i : Nat} {v : V}, DpAll K H vs ds → vs[i]? = some v → ∃ d, ds[i]? = some d ∧ Dp K H v d
  | _, _, _, _, .nil, h => by simp at h
  | _, _, 0, v, .cons a b, h => by
    simp at h
    subst h
    exact ⟨_, rfl, a⟩
  | _, _, i + 1, v, .cons a b, h => by
    obtain ⟨d, e, q⟩ := DpAll.at b (i := i) (v := v) (by simpa using h)
    exact ⟨d, by simpa using e, q⟩
def Fn : Nat → PyData → Prop
  | 0, d => Fit d
  | n + 1, d => Fit d ∧ ∀ ds, d = .tuple ds → ds.length ≤ 1000 ∧ ∀ x ∈ ds, Fn n x
theorem Fn.fit : ∀ {n : Nat} {d : PyData}, Fn n d → Fit d
  | 0, _, h => h
  | _ + 1, _, h => h.1
section
variable {X : Cx}
def rLtD (K : PySem.W.Frag) : R2 := fun x y H Q => ∃ d e, Dp K H x d ∧ Dp K H y e ∧ PySem.W.alike d e = true ∧ d ≠ .none ∧ d.depth ≤ 60 ∧ Q (.bl (PySem.W.dataLt d e)) H
theorem op_ltD (hu : X.A.units + 64 < cLine) : OpR X (compareOp .Lt) (rLtD X.K) := by
  intro pins s σ H x y v u Q I rx ry h
  obtain ⟨d, e, hd, he, al, nn, dp, q⟩ := h
  obtain ⟨as, r1⟩ := Dp.reads I d x v hd rx
  obtain ⟨bs, r2⟩ := Dp.reads I e y u he ry
  exact PySem.W.lt_data r1 r2 al nn (by omega) ⟨.bl _, H, I, rfl, q⟩
end
end DW
namespace DW
open PySem PySem.Spec PyProof.Rows L2
theorem noDict_all : ∀ {ds : List PyData}, PyData.hasDictAll ds = false → ∀ x ∈ ds, x.hasDict = false
  | [], _, x, h => by cases h
  | d :: ds, e, x, h => by
    have e' : (d.hasDict || PyData.hasDictAll ds) = false := e
    rw [Bool.or_eq_false_iff] at e'
    rcases List.mem_cons.mp h with rfl | h
    · exact e'.1
    · exact noDict_all e'.2 x h
theorem Dd.tup_inv {K : PySem.W.Frag} {H : Hp} {v : V} {ds : List PyData} (h : Dd K H v (.tuple ds)) : ∃ a xs, v = .ref a ∧ SqT K H a xs ∧ DpAll K H xs ds ∧ ∀ x ∈ ds, x.hasDict = false := by
  cases h with
  | base h n =>
    cases h with
    | tup hs ha => exact ⟨_, _, rfl, hs, ha, noDict_all n⟩
end DW
namespace K4
open PySem PySem.Spec PyProof.Rows L2 DW
def top (i : Nat) : Stmt := PySem.Challenge.pw_dawnway_k64_errors_of_crews.main.body.getD i (.Pass ⟨0, 0, 0, 0⟩)
abbrev sIsInt : Stmt := top 14
abbrev sBet : Stmt := top 15
abbrev sIsName : Stmt := top 16
abbrev sIsTick : Stmt := top 17
abbrev sAsc : Stmt := top 18
abbrev sIsPair : Stmt := top 19
section
variable {P : Program} {w : World} {K : PySem.W.Frag} {mg : Str → Option Value} {base : Heap}
def spBet (K : PySem.W.Frag) : Sp := fun vs H Q _ => ∃ v d lo hi, vs = [v, .int lo, .int hi] ∧ Dd K H v d ∧ Q (.bl (betD lo hi d)) H
theorem scBet : FnScope ["value", "least", "most"] ["value", "least", "most"] (defScope sBet) := ⟨rfl, rfl, rfl, by decide +kernel, rfl, by decide +kernel, by decide +kernel⟩
theorem ok_bet {f : Addr} {fd : FuncData} (F : Fun K "is_between" "is_between" sBet f fd) (zI : mg "isinstance" = none) (zT : mg "int" = none) (zB : mg "bool" = none) : FnOk P w K mg base CX0 1 f fd ["value", "least", "most"] (spBet K) := by
  refine F.ok scBet (fun vs H Q E h => ?_) (fun cdv A outer s H vs Q E hr h => ?_)
  · obtain ⟨v, d, lo, hi, rfl, _⟩ := h
    rfl
  · obtain ⟨v, d, lo, hi, rfl, hd, k⟩ := h
    refine ⟨_, pss_one (ps_ret (pe_and (pe_callB call_isi (by rfl) zI (by rfl) (pa_cons (pv 0) (pa_cons (pe_bltn rfl zT (by rfl) (show RelV (.ty "int") (.type "int") from rfl)) pa_nil)))
      (pe_and (pe_not (pe_callB call_isi (by rfl) zI (by rfl) (pa_cons (pv 0) (pa_cons (pe_bltn rfl zB (by rfl) (show RelV (.ty "bool") (.type "bool") from rfl)) pa_nil))))
      (pe_one (pe_chain op_le op_le (pv 1) (pv 0) (pv 2)))))), ?_⟩
    refine rd_isi rfl hd (kit_int d) ⟨_, rfl, ?_⟩
    cases d with
    | int i =>
      have e : v = .int i := by cases hd with | base h _ => cases h; rfl
      subst e
      refine iteT (rd_isi rfl hd (kit_bool (.int i)) ⟨_, rfl, _, rfl, iteT ?_⟩)
      refine ⟨_, rfl, _, rfl, _, _, rfl, rfl, _, rfl, ?_⟩
      by_cases h1 : lo ≤ i
      · rw [decide_eq_true h1]
        refine iteT ⟨_, rfl, _, _, rfl, rfl, ?_⟩
        have z : betD lo hi (.int i) = decide (i ≤ hi) := by simp [betD, h1]
        rw [z] at k
        exact k
      · rw [decide_eq_false h1]
        have z : betD lo hi (.int i) = false := by simp [betD, h1]
        rw [z] at k
        exact iteF k
    | bool b => exact iteT (rd_isi rfl hd (kit_bool (.bool b)) ⟨_, rfl, _, rfl, iteF k⟩)
    | none => exact iteF k
    | str x => exact iteF k
    | list x => exact iteF k
    | tuple x => exact iteF k
    | dict x => exact iteF k
end
end K4
namespace K4
open PySem PySem.Spec PyProof.Rows L2 DW
def firstL : Str := "abcdefghijklmnopqrstuvwxyz"
def lettL : Str := "abcdefghijklmnopqrstuvwxyz0123456789."
def nameS (z : Str) : Bool := decide (1 ≤ z.length) && (decide (z.length ≤ 12) && (!decide (z = ("dawn" : Str)) && (decide ((z.cps.toList.getD 0 0) ∈ firstL.cps.toList) && z.cps.toList.all fun c => decide (c ∈ lettL.cps.toList))))
def isNameD (d : PyData) : Bool := match d with
  | .str z => nameS z | _ => false
structure Glo (mg : Str → Option Value) : Prop where
  far : ∃ t, mg "_TOO_LONG" = some (.int (10 ^ 40) t)
  tick : ∃ t, mg "MAX_TICK" = some (.int (10 ^ 34) t)
  lett : ∃ t, mg "MAX_LETTERS" = some (.int 12 t)
  dawn : ∃ t, mg "DAWN" = some (.str "dawn" t)
  fst : ∃ t, mg "_FIRST_LETTERS" = some (.str firstL t)
  all : ∃ t, mg "_LETTERS" = some (.str lettL t)
section
variable {P : Program} {w : World} {K : PySem.W.Frag} {mg : Str → Option Value} {base : Heap}
def spJ (K : PySem.W.Frag) (f : PyData → Bool) : Sp := fun vs H Q _ => ∃ v d, vs = [v] ∧ Dd K H v d ∧ Fit d ∧ ∀ H', Same H H' → Q (.bl (f d)) H'
theorem scInt : FnScope ["value"] ["value"] (defScope sIsInt) := ⟨rfl, rfl, rfl, by decide +kernel, rfl, by decide +kernel, by decide +kernel⟩
theorem scTick : FnScope ["value"] ["value"] (defScope sIsTick) := ⟨rfl, rfl, rfl, by decide +kernel, rfl, by decide +kernel, by decide +kernel⟩
theorem ok_int {f fB : Addr} {fd dB : FuncData} (F : Fun K "is_integer" "is_integer" sIsInt f fd) (GB : FnOk P w K mg base CX0 1 fB dB ["value", "least", "most"] (spBet K)) (kB : PySem.W.keepIn K (.ref fB) = true) (bB : Binds K dB ["value", "least", "most"] []) (gB : mg "is_between" = some (.ref fB)) (G : Glo mg) :
    FnOk P w K mg base CX0 2 f fd ["value"] (spJ K (betD (1 - 10 ^ 40) (10 ^ 40 - 1))) := by
  refine F.ok scInt (fun vs H Q E h => ?_) (fun cdv A outer s H vs Q E hr h => ?_)
  · obtain ⟨v, d, rfl, _⟩ := h
    rfl
  · obtain ⟨v, d, rfl, hd, _, k⟩ := h
    obtain ⟨t, g⟩ := G.far
    have pf : ∀ {pos}, PE (cxOf CX0 P w K mg base ["value"] "is_integer" (defScope sIsInt) f cdv A outer s H E).nox (.Name "_TOO_LONG" pos) (tC (.int (10 ^ 40))) := pe_glob rfl g ⟨t, rfl⟩
    refine ⟨_, pss_one (ps_ret (pe_call GB hr rfl gB kB bB .nil pass0 (pa_cons (pv 0) (pa_cons (pe_op op_sub pe_int pf) (pa_cons (pe_op op_sub pf pe_int) pa_nil))))), ?_⟩
    exact ⟨_, rfl, _, _, rfl, rfl, _, _, rfl, rfl, v, d, _, _, rfl, hd, k _ (Same.refl H)⟩
theorem ok_tick {f fB : Addr} {fd dB : FuncData} (F : Fun K "is_tick" "is_tick" sIsTick f fd) (GB : FnOk P w K mg base CX0 1 fB dB ["value", "least", "most"] (spBet K)) (kB : PySem.W.keepIn K (.ref fB) = true) (bB : Binds K dB ["value", "least", "most"] []) (gB : mg "is_between" = some (.ref fB)) (G : Glo mg) :
    FnOk P w K mg base CX0 2 f fd ["value"] (spJ K (betD 0 (10 ^ 34))) := by
  refine F.ok scTick (fun vs H Q E h => ?_) (fun cdv A outer s H vs Q E hr h => ?_)
  · obtain ⟨v, d, rfl, _⟩ := h
    rfl
  · obtain ⟨v, d, rfl, hd, _, k⟩ := h
    obtain ⟨t, g⟩ := G.tick
    refine ⟨_, pss_one (ps_ret (pe_call GB hr rfl gB kB bB .nil pass0 (pa_cons (pv 0) (pa_cons pe_int (pa_cons (pe_glob rfl g (show RelV (.int (10 ^ 34)) (.int (10 ^ 34) t) from ⟨t, rfl⟩)) pa_nil))))), ?_⟩
    exact ⟨_, rfl, v, d, _, _, rfl, hd, k _ (Same.refl H)⟩
theorem scName : FnScope ["value", "letter"] ["value"] (defScope sIsName) := ⟨rfl, rfl, rfl, by decide +kernel, rfl, by decide +kernel, by decide +kernel⟩
theorem dec_strV {a b : Str} : decide (V.str a = V.str b) = decide (a = b) := by
  by_cases h : a = b
  · subst h
    simp
  · rw [decide_eq_false h, decide_eq_false (by intro z; cases z; exact h rfl)]
/-- all([c in LETTERS for c in s]) -/
theorem rd_allS {z L : Str} {H : Hp} {x1 : Option V} {Q : VK} (hz : z.length ≤ 1000) (k : ∀ H', Same H H' → Q (.bl (z.cps.toList.all fun c => decide (c ∈ L.cps.toList))) H') :
    tCB (rAll K) (tCons (tLc (iStr (tVar 0)) (gName 1) tYes (tOp (fun x y H Q => ∃ (c : Nat) (z : Str), x = .str ⟨#[c]⟩ ∧ y = .str z ∧ Q (.bl (decide (c ∈ z.cps.toList))) H) (tVar 1) (tC (.str L))) [1]) tNil) [some (.str z), x1] H Q := by
  refine ⟨_, rfl, z, rfl, fun D hD => lc_str (fun i H' => Same H H' ∧ H' D = some (.lst ((z.cps.toList.take i).map fun c => V.bl (decide (c ∈ L.cps.toList))))) ⟨same_new hD, upd_same⟩ (fun i c H' hc p => ⟨rfl, tyes ?_⟩) (fun H' p => ?_)⟩
  · obtain ⟨s1, hy⟩ := p
    have hc2 : z.cps.toList[i]? = some c := by rw [← hc]; simp
    have hi : i < z.cps.toList.length := by
      rcases Nat.lt_or_ge i z.cps.toList.length with q | q
      · exact q
      · rw [List.getElem?_eq_none q] at hc2; cases hc2
    refine ⟨_, rfl, c, L, rfl, rfl, _, hy, ?_, same_mut s1 hD, ?_⟩
    · have h1 : z.cps.toList.length = z.length := by simp [Str.length]
      rw [List.length_map, List.length_take, sizeLine_eq]
      omega
    · rw [upd_same, List.take_add_one, hc2, List.map_append]
      rfl
  · obtain ⟨s1, hy⟩ := p
    have e : z.cps.toList.take z.cps.size = z.cps.toList := List.take_of_length_le (by simp)
    rw [e] at hy
    have e2 : (z.cps.toList.map fun c => V.bl (decide (c ∈ L.cps.toList))) = ((z.cps.toList.map fun c => decide (c ∈ L.cps.toList)).map V.bl) := by rw [List.map_map]; rfl
    rw [e2] at hy
    refine ⟨D, _, rfl, SqL.of hy, ?_⟩
    have e3 : (z.cps.toList.map fun c => decide (c ∈ L.cps.toList)).all id = z.cps.toList.all fun c => decide (c ∈ L.cps.toList) := by rw [List.all_map]; rfl
    rw [e3]
    exact k H' s1
theorem ok_name {f : Addr} {fd : FuncData} (F : Fun K "is_name" "is_name" sIsName f fd) (G : Glo mg) (zI : mg "isinstance" = none) (zS : mg "str" = none) (zL : mg "len" = none) (zA : mg "all" = none) :
    FnOk P w K mg base CX0 1 f fd ["value"] (spJ K isNameD) := by
  refine F.ok scName (fun vs H Q E h => ?_) (fun cdv A outer s H vs Q E hr h => ?_)
  · obtain ⟨v, d, rfl, _⟩ := h
    rfl
  · obtain ⟨v, d, rfl, hd, ft, k⟩ := h
    obtain ⟨t1, g1⟩ := G.lett
    obtain ⟨t2, g2⟩ := G.dawn
    obtain ⟨t3, g3⟩ := G.fst
    obtain ⟨t4, g4⟩ := G.all
    refine ⟨_, pss_cons (ps_if (PW.pt (pw_or (pt_not (pt_val (pe_callB call_isi (by rfl) zI (by rfl) (pa_cons (pv 0) (pa_cons (pe_bltn rfl zS (by rfl) (show RelV (.ty "str") (.type "str") from rfl)) pa_nil)))))
        (pw_or (pt_not (pt_chain op_le op_le pe_int (pe_callB call_len_str (by rfl) zL PySem.boot_len (pa_cons (pv 0) pa_nil)) (pe_glob rfl g1 (show RelV (.int 12) (.int 12 t1) from ⟨t1, rfl⟩))))
        (pw_or1 (pt_cmpR op_eq (pv 0) (pe_glob rfl g2 (show RelV (.str "dawn") (.str "dawn" t2) from ⟨t2, rfl⟩)) (nomark _))))))
        (pss_one (ps_ret pe_bl)) pss_nil)
      (pss_one (ps_ret (pe_and (pe_cmpR op_in_sign (pe_ix ix_str (pv 0) pe_int (fun _ _ => rfl)) (pe_glob rfl g3 (show RelV (.str firstL) (.str firstL t3) from ⟨t3, rfl⟩)) (by rfl))
        (pe_one (pe_callB (cr_all rfl) (by rfl) zA (by decide +kernel) (pa_cons (pe_lc (own := [("letter", 1)]) (g := gName 1) (tt := tYes) rfl scName.nd (pi_str (pv 0)) (blkOk_by (own := [("letter", 1)]) (N := ["value", "letter"]) (sc := defScope sIsName) (by decide +kernel))
          (fun _ _ _ _ _ => pg_name (i := 1) scName.nd rfl (Or.inl rfl)) (fun _ _ _ _ _ => pts_nil) (fun _ _ _ _ _ => pe_cmpR op_in_sign (pv 1) (pe_glob rfl g4 (show RelV (.str lettL) (.str lettL t4) from ⟨t4, rfl⟩)) (by rfl))) pa_nil)))))), ?_⟩
    have no : isNameD d = false → Q (.bl false) H := fun e => by
      have z := k H (Same.refl H)
      rw [e] at z
      exact z
    refine rd_isi rfl hd (kit_str d) ⟨_, rfl, ?_⟩
    match d, hd, ft, k, no with
    | .str z, hd, ft, k, no =>
      have e : v = .str z := by cases hd with | base h _ => cases h; rfl
      subst e
      have hz := ft z rfl
      have hzs : z.length ≤ sizeLine := by rw [sizeLine_eq]; omega
      refine iteF ⟨_, rfl, z, rfl, hzs, _, _, rfl, rfl, _, rfl, ?_⟩
      by_cases h1 : (1 : Int) ≤ z.length
      · rw [decide_eq_true h1]
        refine iteT ⟨_, _, rfl, rfl, _, rfl, ?_⟩
        by_cases h2 : (z.length : Int) ≤ 12
        · rw [decide_eq_true h2]
          refine iteF ⟨_, rfl, rfl, _, rfl, ?_⟩
          rw [dec_strV]
          by_cases h3 : z = ("dawn" : Str)
          · rw [decide_eq_true h3]
            exact iteT (no (by show nameS z = false; simp [nameS, h3]))
          · rw [decide_eq_false h3]
            refine iteF ?_
            have n1 : 1 ≤ z.length := by omega
            have n2 : z.length ≤ 12 := by omega
            have hc : ∃ c, z.cps.toList[0]? = some c := by
              have q : 0 < z.cps.toList.length := by
                have h1 : z.cps.toList.length = z.length := by simp [Str.length]
                omega
              exact ⟨_, List.getElem?_eq_getElem q⟩
            obtain ⟨c, hc⟩ := hc
            have ed : z.cps.toList.getD 0 0 = c := by rw [List.getD_eq_getElem?_getD, hc]; rfl
            refine ⟨_, rfl, z, 0, c, rfl, rfl, hzs, atI_nat (j := 0) hc, c, firstL, rfl, rfl, _, rfl, ?_⟩
            by_cases h4 : c ∈ firstL.cps.toList
            · rw [decide_eq_true h4]
              refine iteT (rd_allS hz fun H' s1 => ?_)
              have q := k H' s1
              have e : isNameD (.str z) = z.cps.toList.all fun c => decide (c ∈ lettL.cps.toList) := by
                show nameS z = _
                simp only [nameS, ed, decide_eq_true n1, decide_eq_true n2, decide_eq_false h3, decide_eq_true h4, Bool.not_false, Bool.true_and]
              rw [e] at q
              exact q
            · rw [decide_eq_false h4]
              refine iteF (no ?_)
              show nameS z = false
              simp only [nameS, ed, decide_eq_false h4, Bool.false_and, Bool.and_false]
        · rw [decide_eq_false h2]
          refine iteT (no ?_)
          have n2 : ¬ z.length ≤ 12 := by omega
          show nameS z = false
          simp only [nameS, decide_eq_false n2, Bool.false_and, Bool.and_false]
      · rw [decide_eq_false h1]
        refine iteF ⟨_, rfl, iteT (no ?_)⟩
        have n1 : ¬ 1 ≤ z.length := by omega
        show nameS z = false
        simp only [nameS, decide_eq_false n1, Bool.false_and]
    | .none, _, _, _, no => exact iteT (no rfl)
    | .bool _, _, _, _, no => exact iteT (no rfl)
    | .int _, _, _, _, no => exact iteT (no rfl)
    | .list _, _, _, _, no => exact iteT (no rfl)
    | .tuple _, _, _, _, no => exact iteT (no rfl)
    | .dict _, _, _, _, no => exact iteT (no rfl)
end
end K4
namespace K4
open PySem PySem.Spec PyProof.Rows L2 DW
/-- neighbours that can be compared -/
def Cmp (ds : List PyData) : Prop := ∀ i x y, ds[i]? = some x → ds[i + 1]? = some y → PySem.W.alike x y = true ∧ x ≠ .none ∧ x.depth ≤ 60
def ascD (ds : List PyData) : Bool := (List.range (ds.length - 1)).all fun i => PySem.W.dataLt (ds.getD i .none) (ds.getD (i + 1) .none)
section
variable {P : Program} {w : World} {K : PySem.W.Frag} {mg : Str → Option Value} {base : Heap}
def spAsc (K : PySem.W.Frag) : Sp := fun vs H Q _ => ∃ (a : Addr) (xs : List V) (ds : List PyData), vs = [.ref a] ∧ SqT K H a xs ∧ DpAll K H xs ds ∧ ds.length ≤ 1000 ∧ Cmp ds ∧ ∀ H', Same H H' → Q (.bl (ascD ds)) H'
theorem scAsc : FnScope ["values", "at"] ["values"] (defScope sAsc) := ⟨rfl, rfl, rfl, by decide +kernel, rfl, by decide +kernel, by decide +kernel⟩
/-- all of a list of answers, made turn by turn -/
theorem fin_all {H : Hp} {D : Addr} {bs : List Bool} {Q : VK} (hy : H D = some (.lst (bs.map V.bl))) (q : Q (.bl (bs.all id)) H) : rAll K [.ref D] H Q := ⟨D, bs, rfl, SqL.of hy, q⟩
theorem ok_asc {f : Addr} {fd : FuncData} (F : Fun K "is_ascending" "is_ascending" sAsc f fd) (zA : mg "all" = none) (zR : mg "range" = none) (zL : mg "len" = none) : FnOk P w K mg base CX0 1 f fd ["values"] (spAsc K) := by
  refine F.ok scAsc (fun vs H Q E h => ?_) (fun cdv A outer s H vs Q E hr h => ?_)
  · obtain ⟨a, xs, ds, rfl, _⟩ := h
    rfl
  · obtain ⟨a, xs, ds, rfl, ha, hp, hl, hc, k⟩ := h
    refine ⟨_, pss_one (ps_ret (pe_callB (cr_all rfl) (by rfl) zA (by decide +kernel) (pa_cons (pe_lc (own := [("at", 1)]) (g := gName 1) (tt := tYes) rfl scAsc.nd
      (pi_range1 rfl zR (pa_cons (pe_op op_sub (pe_callB call_len_seq (by rfl) zL PySem.boot_len (pa_cons (pv 0) pa_nil)) pe_int) pa_nil))
      (blkOk_by (own := [("at", 1)]) (N := ["values", "at"]) (sc := defScope sAsc) (by decide +kernel)) (fun _ _ _ _ _ => pg_name (i := 1) scAsc.nd rfl (Or.inl rfl)) (fun _ _ _ _ _ => pts_nil)
      (fun _ _ _ _ _ => pe_cmpR (r := rLtD K) (op_ltD hr.units) (pe_ix (r := rIxT K) ix_tup (pv 0) (pv 1) (fun _ _ => rfl)) (pe_ix (r := rIxT K) ix_tup (pv 0) (pe_op op_add (pv 1) pe_int) (fun _ _ => rfl)) (nomark _))) pa_nil))), ?_⟩
    have hlen : xs.length = ds.length := DpAll.length hp
    refine ⟨_, rfl, a, xs, rfl, .inr ha, _, _, rfl, rfl, _, rfl, by omega, by omega, fun D hD => ?_⟩
    have en : ((((xs.length : Nat) : Int) - 1)).toNat = ds.length - 1 := by omega
    rw [en]
    refine lc_range (lo := 0) (n := ds.length - 1) (fun i H' => Same H H' ∧ H' D = some (.lst (((List.range i).map fun j => PySem.W.dataLt (ds.getD j .none) (ds.getD (j + 1) .none)).map V.bl))) ⟨same_new hD, upd_same⟩ (fun i H' hi p => ⟨rfl, tyes ?_⟩) (fun H' p => ?_)
    · obtain ⟨s1, hy⟩ := p
      have hx : i < xs.length := by omega
      have hx1 : i + 1 < xs.length := by omega
      have e0 : xs[i]? = some xs[i] := List.getElem?_eq_getElem hx
      have e1 : xs[i + 1]? = some xs[i + 1] := List.getElem?_eq_getElem hx1
      obtain ⟨d0, f0, r0⟩ := DpAll.at hp e0
      obtain ⟨d1, f1, r1⟩ := DpAll.at hp e1
      obtain ⟨al, nn, dp⟩ := hc i d0 d1 f0 f1
      have z0 : (0 : Int) + (i : Nat) = ((i : Nat) : Int) := by omega
      have z1 : ((0 : Int) + (i : Nat)) + 1 = ((i + 1 : Nat) : Int) := by omega
      refine ⟨_, rfl, _, rfl, a, xs, _, _, rfl, rfl, sqT_same s1 ha, by rw [z0]; exact atI_nat e0, ?_⟩
      refine ⟨_, rfl, _, rfl, _, _, rfl, rfl, a, xs, _, _, rfl, rfl, sqT_same s1 ha, by rw [z1]; exact atI_nat e1, ?_⟩
      refine ⟨d0, d1, Dp.same s1 r0, Dp.same s1 r1, al, nn, dp, _, hy, ?_, same_mut s1 hD, ?_⟩
      · rw [List.length_map, List.length_map, List.length_range, sizeLine_eq]
        omega
      · rw [upd_same, List.range_succ, List.map_append, List.map_append]
        have g0 : ds.getD i .none = d0 := by rw [List.getD_eq_getElem?_getD, f0]; rfl
        have g1 : ds.getD (i + 1) .none = d1 := by rw [List.getD_eq_getElem?_getD, f1]; rfl
        simp only [List.map_cons, List.map_nil, g0, g1]
    · obtain ⟨s1, hy⟩ := p
      refine fin_all hy ?_
      rw [List.all_map]
      exact k H' s1
end
end K4
namespace K4
open PySem PySem.Spec PyProof.Rows L2 DW
section
variable {P : Program} {w : World} {K : PySem.W.Frag} {mg : Str → Option Value} {base : Heap}
def spJn (K : PySem.W.Frag) (n : Nat) (f : PyData → Bool) : Sp := fun vs H Q _ => ∃ v d, vs = [v] ∧ Dd K H v d ∧ Fn n d ∧ ∀ H', Same H H' → Q (.bl (f d)) H'
/-- all([f(x) for x in t]), t a tuple of data -/
theorem rd_allT {f : PyData → Bool} {n : Nat} {a : Addr} {xs : List V} {ds : List PyData} {H : Hp} {x1 : Option V} {rest : L2.St} {sp : Sp} {Q : VK} (ha : SqT K H a xs) (hp : DpAll K H xs ds) (hn : ∀ x ∈ ds, x.hasDict = false) (hf : ∀ x ∈ ds, Fn n x) (hl : ds.length ≤ 1000)
    (call : ∀ (v : V) (d : PyData) (H1 : Hp) (R : VK), Dd K H1 v d → Fn n d → (∀ H2, Same H1 H2 → R (.bl (f d)) H2) → sp [v] H1 R E0) (k : ∀ H', Same H H' → Q (.bl (ds.all f)) H') :
    tCB (rAll K) (tCons (tLc (iTup K (tVar 0)) (gName 1) tYes (tCall sp [] E0 (tCons (tVar 1) tNil)) [1]) tNil) (some (.ref a) :: x1 :: rest) H Q := by
  refine ⟨_, rfl, a, rfl, ⟨xs, ha⟩, fun D hD => lc_tup (K := K) (xs := xs) (fun i H' => Same H H' ∧ H' D = some (.lst (((ds.take i).map f).map V.bl))) ⟨same_new hD, upd_same⟩ (fun i H' _ p => sqT_same p.1 ha)
    (fun i x H' hx p => ⟨rfl, tyes ⟨_, rfl, ?_⟩⟩) (fun H' p => ?_)⟩
  · obtain ⟨s1, hy⟩ := p
    obtain ⟨d, hd, hr⟩ := DpAll.at hp hx
    have hm : d ∈ ds := List.mem_of_getElem? hd
    refine call x d H' _ (.base (Dp.same s1 hr) (hn d hm)) (hf d hm) fun H2 s2 => ⟨_, s2 _ _ hy, ?_, same_mut (s1.trans s2) hD, ?_⟩
    · rw [List.length_map, List.length_map, List.length_take, sizeLine_eq]
      omega
    · rw [upd_same, takeSucc hd]
      simp
  · obtain ⟨s1, hy⟩ := p
    rw [DpAll.length hp, List.take_length] at hy
    refine fin_all hy ?_
    rw [List.all_map]
    exact k H' s1
def pairD (d : PyData) : Bool := match d with
  | .tuple ds => decide (ds.length = 2) | _ => false
theorem scPair : FnScope ["value"] ["value"] (defScope sIsPair) := ⟨rfl, rfl, rfl, by decide +kernel, rfl, by decide +kernel, by decide +kernel⟩
theorem ok_pair {f : Addr} {fd : FuncData} (F : Fun K "is_pair" "is_pair" sIsPair f fd) (zI : mg "isinstance" = none) (zT : mg "tuple" = none) (zL : mg "len" = none) : FnOk P w K mg base CX0 1 f fd ["value"] (spJn K 0 pairD) := by
  refine F.ok scPair (fun vs H Q E h => ?_) (fun cdv A outer s H vs Q E hr h => ?_)
  · obtain ⟨v, d, rfl, _⟩ := h
    rfl
  · obtain ⟨v, d, rfl, hd, _, k⟩ := h
    have k := k H (Same.refl H)
    refine ⟨_, pss_one (ps_ret (pe_and (pe_callB call_isi (by rfl) zI (by rfl) (pa_cons (pv 0) (pa_cons (pe_bltn rfl zT (by rfl) (show RelV (.ty "tuple") (.type "tuple") from rfl)) pa_nil)))
      (pe_one (pe_cmpR op_eq (pe_callB call_len_seq (by rfl) zL PySem.boot_len (pa_cons (pv 0) pa_nil)) pe_int (nomark _))))), ?_⟩
    refine rd_isi rfl hd (kit_tup d) ⟨_, rfl, ?_⟩
    match d, hd, k with
    | .tuple ds, hd, k =>
      obtain ⟨a, xs, rfl, hs, ha, _⟩ := hd.tup_inv
      refine iteT ⟨_, rfl, a, xs, rfl, .inr hs, rfl, ?_⟩
      have e : decide (V.int ((xs.length : Nat) : Int) = V.int 2) = decide (ds.length = 2) := by
        rw [DpAll.length ha, dec_int]
        by_cases q : ds.length = 2
        · rw [q]; rfl
        · rw [decide_eq_false q, beq_eq_false_iff_ne]; omega
      rw [e]
      exact k
    | .none, _, k => exact iteF k
    | .bool _, _, k => exact iteF k
    | .int _, _, k => exact iteF k
    | .str _, _, k => exact iteF k
    | .list _, _, k => exact iteF k
    | .dict _, _, k => exact iteF k
end
end K4
namespace DW
open PySem PySem.Spec PyProof.Rows L2
/-! ### data of tuples at a depth -/
def Td (H : Hp) : Nat → V → PyData → Prop
  | 0, _, _ => False
  | n + 1, v, d => (v = .non ∧ d = .none) ∨ (∃ b, v = .bl b ∧ d = .bool b) ∨ (∃ i, v = .int i ∧ d = .int i) ∨ (∃ x, v = .str x ∧ d = .str x) ∨
    ∃ a xs ds, v = .ref a ∧ d = .tuple ds ∧ H a = some (.tup xs) ∧ xs.length < 1000 ∧ Paired (Td H n) xs ds
def KeepT (H H' : Hp) : Prop := ∀ a xs, H a = some (.tup xs) → H' a = some (.tup xs)
theorem Same.keepT {H H' : Hp} (s : Same H H') : KeepT H H' := fun a xs e => s a _ e
theorem Td.keep {H H' : Hp} (k : KeepT H H') : ∀ {n : Nat} {v : V} {d : PyData}, Td H n v d → Td H' n v d
  | 0, _, _, h => h.elim
  | n + 1, v, d, h => by
    rcases h with h | h | h | h | ⟨a, xs, ds, e1, e2, e3, e4, e5⟩
    · exact .inl h
    · exact .inr (.inl h)
    · exact .inr (.inr (.inl h))
    · exact .inr (.inr (.inr (.inl h)))
    · exact .inr (.inr (.inr (.inr ⟨a, xs, ds, e1, e2, k _ _ e3, e4, pairedMono (fun x y z => Td.keep k z) e5⟩)))
theorem Td.int {H : Hp} {n : Nat} {v : V} {i : Int} (h : Td H (n + 1) v (.int i)) : v = .int i := by
  rcases h with h | ⟨b, _, h⟩ | ⟨j, e, h⟩ | ⟨x, _, h⟩ | ⟨a, xs, ds, _, h, _⟩
  · exact absurd h.2 (by simp)
  · cases h
  · cases h; exact e
  · cases h
  · cases h
theorem is_no {K : PySem.W.Frag} {a b : TS} {D : Ends} {σ : L2.St} {H : Hp} {T t : String} {v : V} (hv : σ[0]? = some (some v)) (ty : TyX K H v (.type t)) (hk : kitB t T = some false) (h : b D σ H) :
    tIfS (tB (tCB (rIsi K) (tCons (tVar 0) (tCons (tC (.ty T)) tNil)))) a b D σ H := ⟨v, hv, v, .ty T, _, _, _, rfl, .ty _, ty, kit_ty hk, _, rfl, ite2 (fun z => nomatch z) (fun _ => h)⟩
theorem is_yes {K : PySem.W.Frag} {a b : TS} {D : Ends} {σ : L2.St} {H : Hp} {T t : String} {v : V} (hv : σ[0]? = some (some v)) (ty : TyX K H v (.type t)) (hk : kitB t T = some true) (h : a D σ H) :
    tIfS (tB (tCB (rIsi K) (tCons (tVar 0) (tCons (tC (.ty T)) tNil)))) a b D σ H := ⟨v, hv, v, .ty T, _, _, _, rfl, .ty _, ty, kit_ty hk, _, rfl, ite2 (fun _ => h) (fun z => absurd rfl z)⟩
end DW
namespace DW
open PySem PySem.Spec PyProof.Rows L2
theorem storeKey : StoreFacts "KeyError" [.type "KeyError", .type "LookupError", .type "Exception", .type "BaseException", .type "object"] "object.__setattr__" "object" :=
  ⟨by kernel_rfl, .of (owner := "object") (n := "__setattr__") (by rw [typeLookup_type, builtinLookup_eq_fast]; kernel_rfl) (by decide +kernel) (by decide +kernel) (by decide +kernel)
    (by first | exact .inl (by decide +kernel) | exact .inr (by decide +kernel)) (by rw [isSubtype_type]; kernel_rfl),
   (PySem.F.store_RuntimeError).entry, by decide +kernel, by decide +kernel, by decide +kernel, fun a b c => by unfold argsOk; kernel_rfl, fun self => by kernel_rfl⟩
mutual
theorem Td.dp {K : PySem.W.Frag} {H : Hp} : ∀ {n : Nat} {v : V} {d : PyData}, Td H n v d → Dp K H v d ∧ d.hasDict = false
  | 0, _, _, h => h.elim
  | n + 1, v, d, h => by
    rcases h with ⟨rfl, rfl⟩ | ⟨b, rfl, rfl⟩ | ⟨i, rfl, rfl⟩ | ⟨x, rfl, rfl⟩ | ⟨a, xs, ds, rfl, rfl, ha, _, hp⟩
    · exact ⟨.non, rfl⟩
    · exact ⟨.bl b, rfl⟩
    · exact ⟨.int i, rfl⟩
    · exact ⟨.str x, rfl⟩
    · obtain ⟨z1, z2⟩ := Td.dpAll (K := K) hp
      exact ⟨.tup (SqT.of ha) z1, z2⟩
theorem Td.dpAll {K : PySem.W.Frag} {H : Hp} : ∀ {n : Nat} {xs : List V} {ds : List PyData}, Paired (Td H n) xs ds → DpAll K H xs ds ∧ PyData.hasDictAll ds = false
  | _, _, _, .nil => ⟨.nil, rfl⟩
  | n, _, _, .cons r k => by
    obtain ⟨a1, a2⟩ := Td.dp (K := K) r
    obtain ⟨b1, b2⟩ := Td.dpAll (K := K) k
    exact ⟨.cons a1 b1, by show (_ || _) = false; rw [a2, b2]; rfl⟩
end
/-- what is copied -/
def Cp (H : Hp) (v : V) (d : PyData) : Prop := Td H 4 v d ∨ (∃ a xs ds, v = .ref a ∧ d = .list ds ∧ H a = some (.lst xs) ∧ xs.length < 1000 ∧ Paired (Td H 3) xs ds) ∨
  ∃ (a : Addr) (kvs : List (Key × Int)), v = .ref a ∧ d = .dict (kvs.map fun p => (keyD p.1, PyData.int p.2)) ∧ H a = some (.dK (kvs.map fun p => (p.1, V.int p.2))) ∧ kvs.length ≤ 1
theorem Cp.dd {K : PySem.W.Frag} {H : Hp} {v : V} {d : PyData} (h : Cp H v d) : Dd K H v d := by
  rcases h with h | ⟨a, xs, ds, rfl, rfl, ha, _, hp⟩ | ⟨a, kvs, rfl, rfl, ha, _⟩
  · obtain ⟨z1, z2⟩ := Td.dp (K := K) h
    exact .base z1 z2
  · obtain ⟨z1, z2⟩ := Td.dpAll (K := K) hp
    exact .base (.lst (SqL.of ha) z1) z2
  · exact .dct ha
def plainO : HO → Bool
  | .tup _ => true | .lst _ => true | .dK _ => true | _ => false
def KeepD (H H' : Hp) : Prop := ∀ b o, plainO o = true → H b = some o → H' b = some o
theorem Same.keepD {H H' : Hp} (s : Same H H') : KeepD H H' := fun b o _ e => s b o e
theorem KeepD.upd {H : Hp} {a : Addr} {o u : HO} (e : H a = some u) (n : plainO u = false) : KeepD H (upd H a o) := fun b z p q => by
  rw [upd_ne fun y => ?_]
  · exact q
  · rw [y, e] at q; cases q; rw [n] at p; cases p
theorem KeepD.trans {H H1 H2 : Hp} (a : KeepD H H1) (b : KeepD H1 H2) : KeepD H H2 := fun c o p h => b c o p (a c o p h)
theorem Cp.keep {H H' : Hp} {v : V} {d : PyData} (k : KeepD H H') (h : Cp H v d) : Cp H' v d := by
  have kt : KeepT H H' := fun a xs e => k a _ rfl e
  rcases h with h | ⟨a, xs, ds, rfl, rfl, ha, hl, hp⟩ | ⟨a, kvs, rfl, rfl, ha, hl⟩
  · exact .inl (Td.keep kt h)
  · exact .inr (.inl ⟨a, xs, ds, rfl, rfl, k _ _ rfl ha, hl, pairedMono (fun _ _ z => Td.keep kt z) hp⟩)
  · exact .inr (.inr ⟨a, kvs, rfl, rfl, k _ _ rfl ha, hl⟩)
theorem plain_exq {a C t : Addr} {d : Option Addr} : plainO (exq a C d t) = false := rfl
end DW
namespace K4
open PySem PySem.Spec PyProof.Rows L2 DW
abbrev sCopy : Stmt := top 5
section
variable {P : Program} {w : World} {K : PySem.W.Frag} {mg : Str → Option Value} {base : Heap}
abbrev intsK (kvs : List (Key × Int)) : List (Key × V) := kvs.map fun p => (p.1, V.int p.2)
def spC : Nat → Sp
  | 0 => fun _ _ _ _ => False
  | n + 1 => fun vs H Q _ => ∃ v, vs = [v] ∧ ((∃ d, Td H (n + 1) v d ∧ ∀ v' H', Same H H' → Td H' (n + 1) v' d → Q v' H') ∨
    (∃ a xs ds, v = .ref a ∧ H a = some (.lst xs) ∧ xs.length < 1000 ∧ Paired (Td H n) xs ds ∧ ∀ p H' ys, Same H H' → H' p = some (.lst ys) → Paired (Td H' n) ys ds → Q (.ref p) H') ∨
    ∃ (a : Addr) (kvs : List (Key × Int)), v = .ref a ∧ H a = some (.dK (intsK kvs)) ∧ kvs.length ≤ 1 ∧ 0 < n ∧ ∀ p H', Same H H' → H' p = some (.dK (intsK kvs)) → Q (.ref p) H')
theorem scCopy : FnScope ["value", "item", "key"] ["value"] (defScope sCopy) := ⟨rfl, rfl, rfl, by decide +kernel, rfl, by decide +kernel, by decide +kernel⟩
theorem ok_copy {f : Addr} {fd : FuncData} {n k : Nat} (F : Fun K "own_copy" "own_copy" sCopy f fd) (G : FnOk P w K mg base CX0 k f fd ["value"] (spC n)) (bC : Binds K fd ["value"] []) (gC : mg "own_copy" = some (.ref f))
    (zI : mg "isinstance" = none) (zL : mg "list" = none) (zT : mg "tuple" = none) (zD : mg "dict" = none) : FnOk P w K mg base CX0 (k + 1) f fd ["value"] (spC (n + 1)) := by
  refine F.ok scCopy (fun vs H Q E h => ?_) (fun cdv A outer s H vs Q E hr h => ?_)
  · obtain ⟨v, rfl, _⟩ := h
    rfl
  · obtain ⟨v, rfl, h⟩ := h
    have hu := hu_of hr
    refine ⟨_, pss_cons (ps_if (pt_val (pe_callB call_isi (by rfl) zI (by rfl) (pa_cons (pv 0) (pa_cons (pe_bltn rfl zL (by rfl) (show RelV (.ty "list") (.type "list") from rfl)) pa_nil))))
        (pss_one (ps_ret (pe_lc (own := [("item", 1)]) (g := gName 1) (tt := tYes) rfl scCopy.nd (pi_list (pv 0)) (blkOk_by (own := [("item", 1)]) (N := ["value", "item", "key"]) (sc := defScope sCopy) (by decide +kernel))
          (fun _ _ _ _ _ => pg_name (i := 1) scCopy.nd rfl (Or.inl rfl)) (fun _ _ _ _ _ => pts_nil) (fun _ _ _ _ _ => pe_call G hr rfl gC F.kp bC .nil pass0 (pa_cons (pv 1) pa_nil))))) pss_nil)
      (pss_cons (ps_if (pt_val (pe_callB call_isi (by rfl) zI (by rfl) (pa_cons (pv 0) (pa_cons (pe_bltn rfl zT (by rfl) (show RelV (.ty "tuple") (.type "tuple") from rfl)) pa_nil))))
        (pss_one (ps_ret (pe_callTy call_tuple_of (by rfl) zT (by decide +kernel) (pa_cons (pe_lc (own := [("item", 1)]) (g := gName 1) (tt := tYes) rfl scCopy.nd (pi_tup (pv 0)) (blkOk_by (own := [("item", 1)]) (N := ["value", "item", "key"]) (sc := defScope sCopy) (by decide +kernel))
          (fun _ _ _ _ _ => pg_name (i := 1) scCopy.nd rfl (Or.inl rfl)) (fun _ _ _ _ _ => pts_nil) (fun _ _ _ _ _ => pe_call G hr rfl gC F.kp bC .nil pass0 (pa_cons (pv 1) pa_nil))) pa_nil)))) pss_nil)
      (pss_cons (ps_if (pt_val (pe_callB call_isi (by rfl) zI (by rfl) (pa_cons (pv 0) (pa_cons (pe_bltn rfl zD (by rfl) (show RelV (.ty "dict") (.type "dict") from rfl)) pa_nil))))
        (pss_one (ps_ret (pe_lock (pe_dc (own := [("key", 2)]) (g := gName 2) (tt := tYes) rfl scCopy.nd (pi_keys (pv 0)) (blkOk_by (own := [("key", 2)]) (N := ["value", "item", "key"]) (sc := defScope sCopy) (by decide +kernel))
          (fun _ _ _ _ _ => pg_name (i := 2) scCopy.nd rfl (Or.inl rfl)) (fun _ _ _ _ _ => pts_nil) (fun _ _ _ _ _ => pv 2) (fun _ _ _ _ _ => pe_call G hr rfl gC F.kp bC .nil pass0 (pa_cons (pe_dget hu (pv 0) (pv 2) (fun _ _ => rfl)) pa_nil)))))) pss_nil)
      (pss_one (ps_ret (pv 0))))), ?_⟩
    have q0 : ∀ {v : V}, (L2.start ["value", "item", "key"] [v])[0]? = some (some v) := rfl
    -- one more turn over a list or a tuple
    have turn : ∀ (D : Addr) (xs : List V) (ds : List PyData) (H1 H' : Hp) (i : Nat) (x : V), H D = none → xs.length < 1000 → Paired (Td H n) xs ds → xs[i]? = some x →
        (Same H H' ∧ ∃ ys, H' D = some (.lst ys) ∧ ys.length = i ∧ Paired (Td H' n) ys (ds.take i)) →
        spC n [x] H' (fun y H4 => ∃ acc, H4 D = some (.lst acc) ∧ acc.length < sizeLine ∧ (Same H (upd H4 D (.lst (acc ++ [y]))) ∧ ∃ ys, upd H4 D (.lst (acc ++ [y])) D = some (.lst ys) ∧ ys.length = i + 1 ∧ Paired (Td (upd H4 D (.lst (acc ++ [y]))) n) ys (ds.take (i + 1)))) E0 := by
      intro D xs ds H1 H' i x hD hl hp hx p
      obtain ⟨s1, ys, hy, hlen, hpp⟩ := p
      obtain ⟨d, hd, ht⟩ := pairedAt hp hx
      have hi : i < xs.length := by
        rcases Nat.lt_or_ge i xs.length with z | z
        · exact z
        · rw [List.getElem?_eq_none z] at hx; cases hx
      cases n with
      | zero => exact ht.elim
      | succ m =>
        refine ⟨x, rfl, .inl ⟨d, Td.keep (Same.keepT s1) ht, fun v' H2 s2 t2 => ?_⟩⟩
        have hy2 := s2 _ _ hy
        have kk : KeepT H2 (upd H2 D (.lst (ys ++ [v']))) := fun b zs e => by
          rw [upd_ne fun q => ?_]
          · exact e
          · rw [q, hy2] at e; cases e
        refine ⟨ys, hy2, ?_, same_mut (s1.trans s2) hD, ys ++ [v'], upd_same, by simp [hlen], ?_⟩
        · rw [hlen, sizeLine_eq]; omega
        · rw [takeSucc hd]
          exact pairedSnoc (pairedMono (fun _ _ z => Td.keep kk (Td.keep (Same.keepT s2) z)) hpp) (Td.keep kk t2)
    rcases h with ⟨d, h, k⟩ | ⟨a, xs, ds, rfl, ha, hl, hp, k⟩ | ⟨a, kvs, rfl, ha, hl, hn, k⟩
    · rcases h with ⟨rfl, e⟩ | ⟨b, rfl, e⟩ | ⟨i, rfl, e⟩ | ⟨x, rfl, e⟩ | ⟨a, xs, ds, rfl, e, ha, hl, hp⟩
      · exact is_no q0 (.base .non) (by decide +kernel) (is_no q0 (.base .non) (by decide +kernel) (is_no q0 (.base .non) (by decide +kernel) ⟨_, rfl, k _ _ (Same.refl H) (.inl ⟨rfl, e⟩)⟩))
      · exact is_no q0 (.base (.bl b)) (by decide +kernel) (is_no q0 (.base (.bl b)) (by decide +kernel) (is_no q0 (.base (.bl b)) (by decide +kernel) ⟨_, rfl, k _ _ (Same.refl H) (.inr (.inl ⟨b, rfl, e⟩))⟩))
      · exact is_no q0 (.base (.int i)) (by decide +kernel) (is_no q0 (.base (.int i)) (by decide +kernel) (is_no q0 (.base (.int i)) (by decide +kernel) ⟨_, rfl, k _ _ (Same.refl H) (.inr (.inr (.inl ⟨i, rfl, e⟩)))⟩))
      · exact is_no q0 (.base (.str x)) (by decide +kernel) (is_no q0 (.base (.str x)) (by decide +kernel) (is_no q0 (.base (.str x)) (by decide +kernel) ⟨_, rfl, k _ _ (Same.refl H) (.inr (.inr (.inr (.inl ⟨x, rfl, e⟩))))⟩))
      · subst e
        refine is_no q0 (.base (.tup ha)) (by decide +kernel) (is_yes q0 (.base (.tup ha)) (by decide +kernel) ?_)
        refine ⟨_, rfl, a, rfl, ⟨xs, SqT.of ha⟩, fun D hD => lc_tup (K := K) (xs := xs) (fun i H' => Same H H' ∧ ∃ ys, H' D = some (.lst ys) ∧ ys.length = i ∧ Paired (Td H' n) ys (ds.take i)) ⟨same_new hD, [], upd_same, rfl, .nil⟩
          (fun i H' _ p => SqT.of (p.1 _ _ ha)) (fun i x H' hx p => ⟨rfl, tyes ⟨_, rfl, turn D xs ds H H' i x hD hl hp hx p⟩⟩) (fun H' p => ?_)⟩
        obtain ⟨s1, ys, hy, hlen, hpp⟩ := p
        rw [hp.length, List.take_length] at hpp
        refine ⟨D, ys, rfl, .inl ⟨SqL.of hy, fun l hl2 => k (.ref l) _ (s1.trans (same_new hl2)) (.inr (.inr (.inr (.inr ⟨l, ys, ds, rfl, rfl, upd_same, by omega, pairedMono (fun _ _ z => Td.keep (Same.keepT (same_new hl2)) z) hpp⟩))))⟩⟩
    · refine is_yes q0 (.base (.lst ha)) (by decide +kernel) ?_
      refine ⟨_, rfl, a, rfl, ⟨xs, SqL.of ha⟩, fun D hD => lc_list (K := K) (xs := xs) (fun i H' => Same H H' ∧ ∃ ys, H' D = some (.lst ys) ∧ ys.length = i ∧ Paired (Td H' n) ys (ds.take i)) ⟨same_new hD, [], upd_same, rfl, .nil⟩
        (fun i H' _ p => SqL.of (p.1 _ _ ha)) (fun i x H' hx p => ⟨rfl, tyes ⟨_, rfl, turn D xs ds H H' i x hD hl hp hx p⟩⟩) (fun H' p => ?_)⟩
      obtain ⟨s1, ys, hy, hlen, hpp⟩ := p
      rw [hp.length, List.take_length] at hpp
      exact k D H' ys s1 hy hpp
    · refine is_no q0 (.base (.dK ha)) (by decide +kernel) (is_no q0 (.base (.dK ha)) (by decide +kernel) (is_yes q0 (.base (.dK ha)) (by decide +kernel) ?_))
      refine ⟨a, _, ha, True.intro, fun od => ⟨_, rfl, a, od, rfl, .inl ⟨intsK kvs, upd_same, fun D hD => ?_⟩⟩⟩
      have hDa : D ≠ a := fun z => by rw [z, upd_same] at hD; cases hD
      have hD0 : H D = none := by rw [upd_ne hDa] at hD; exact hD
      refine ⟨fun i m H' => m = kvs.length - i ∧ i ≤ kvs.length ∧ Same (upd H a (.frz od (.dK (intsK kvs)))) H' ∧ H' D = some (.dK ((intsK kvs).take i)), ⟨kvs.length, rfl, Nat.zero_le _, same_new hD, upd_same⟩, ?_⟩
      rintro i m H' ⟨rfl, hi, s1, hy⟩
      have hfa := s1 _ _ (upd_same (H := H) (a := a) (o := .frz od (.dK (intsK kvs))))
      by_cases hlt : i < kvs.length
      · have i0 : i = 0 := by omega
        subst i0
        match kvs, hl, hlt with
        | [(key, j)], _, _ =>
          refine .inr ⟨⟨hfa, Nat.zero_lt_one⟩, fun H'' => Same (upd H a (.frz od (.dK (intsK [(key, j)])))) H'' ∧ H'' D = some (.dK ((intsK [(key, j)]).take 1)), fun H'' p => ⟨0, Nat.zero_lt_one, rfl, Nat.le_refl 1, p.1, p.2⟩, fun x H'' y => ?_⟩
          obtain ⟨e, k0, v0, ek, ex⟩ := y
          subst e
          cases ek
          subst ex
          refine ⟨rfl, tyes ⟨_, rfl, ⟨_, rfl, _, rfl, a, .int j, rfl, .inl ⟨_, key, .inr ⟨od, hfa⟩, rfl, (valV_pos (p := (key, V.int j)) (r := []) rfl).symm⟩, ?_⟩⟩⟩
          cases n with
          | zero => exact absurd hn (by decide)
          | succ m =>
            refine ⟨_, rfl, .inl ⟨.int j, .inr (.inr (.inl ⟨j, rfl, rfl⟩)), fun v' H2 s2 t2 => ?_⟩⟩
            cases t2.int
            exact ⟨[], key, rfl, s2 _ _ hy, by show 0 < sizeLine; decide, same_mut (s1.trans s2) hD, upd_same⟩
      · have e : i = kvs.length := by omega
        subst e
        refine .inl ⟨⟨hfa, by simp⟩, hfa, k D _ (fun b o hb => ?_) ?_⟩
        · by_cases hba : b = a
          · subst hba
            rw [ha] at hb
            rw [upd_same]
            exact hb
          · rw [upd_ne hba]
            refine s1 _ _ ?_
            rw [upd_ne hba]
            exact hb
        · rw [upd_ne hDa, hy, List.take_of_length_le (by simp)]
end
end K4
namespace K4
open PySem PySem.Spec PyProof.Rows L2 DW
theorem spC_of {H : Hp} {v : V} {d : PyData} {Q : VK} {E : XK} (h : Cp H v d) (k : ∀ v' H', Same H H' → Cp H' v' d → Q v' H') : spC 4 [v] H Q E := by
  rcases h with h | ⟨a, xs, ds, rfl, rfl, ha, hl, hp⟩ | ⟨a, kvs, rfl, rfl, ha, hl⟩
  · exact ⟨v, rfl, .inl ⟨d, h, fun v' H' s t => k v' H' s (.inl t)⟩⟩
  · exact ⟨_, rfl, .inr (.inl ⟨a, xs, ds, rfl, ha, hl, hp, fun p H' ys s e q => k _ _ s (.inr (.inl ⟨p, ys, ds, rfl, rfl, e, by rw [q.length, ← hp.length]; exact hl, q⟩))⟩)⟩
  · exact ⟨_, rfl, .inr (.inr ⟨a, kvs, rfl, ha, hl, by decide, fun p H' s e => k _ _ s (.inr (.inr ⟨p, kvs, rfl, rfl, e, hl⟩))⟩)⟩
def clsBody (s : Stmt) : List Stmt := match s with
  | .ClassDef (body := b) .. => b
  | _ => []
def iniOf (i : Nat) : Stmt := (clsBody (top i)).getD 0 (.Pass ⟨0, 0, 0, 0⟩)
section
variable {P : Program} {w : World} {K : PySem.W.Frag} {mg : Str → Option Value} {base : Heap} {fc : Addr} {fdc : FuncData}
theorem ok_copyN {f : Addr} {fd : FuncData} (F : Fun K "own_copy" "own_copy" sCopy f fd) (bC : Binds K fd ["value"] []) (gC : mg "own_copy" = some (.ref f))
    (zI : mg "isinstance" = none) (zL : mg "list" = none) (zT : mg "tuple" = none) (zD : mg "dict" = none) : ∀ n, FnOk P w K mg base CX0 n f fd ["value"] (spC n)
  | 0 => ⟨fun _ _ _ _ h => h.elim, fun _ _ _ _ _ _ _ _ _ _ _ _ _ h => h.elim⟩
  | n + 1 => ok_copy F (ok_copyN F bC gC zI zL zT zD n) bC gC zI zL zT zD
def spIni (C : Addr) (f : Str) : Sp := fun vs H Q _ => ∃ (a : Addr) (v : V) (t : Addr) (d : PyData), vs = [.ref a, v] ∧ H a = some (exq a C none t) ∧ Cp H v d ∧ d.showable = true ∧ d.shown.length ≤ 1000 ∧ d.depth ≤ 60 ∧
  ∀ (H' : Hp) (dx t' : Addr) (v' : V), (∀ b o, b ≠ a → H b = some o → H' b = some o) → H dx = none → dx ≠ a → H' a = some (exq a C (some dx) t') → H' dx = some (exd dx [(f, v')]) → Cp H' v' d → Q .non H'
/-- the reading of such a body -/
theorem read_ini {C : Addr} {f p0 : Str} {newId Bn B : String} {bmB : List Value} {D : Ends} {σ : L2.St} {H : Hp} {a t : Addr} {v : V} {d : PyData} (h0 : σ[0]? = some (some (.ref a))) (h1 : σ[1]? = some (some v))
    (ha : H a = some (exq a C none t)) (hc : Cp H v d) (hs : d.showable = true) (hl : d.shown.length ≤ 1000) (hd : d.depth ≤ 60) (hp : p0.length ≤ 1000) (T : ExK K C) (q : exnB K C newId Bn B = true)
    (hov : PySem.W.excOver K C bmB = true) (htk : PySem.W.takerIn K C f = some none)
    (k : ∀ (H' : Hp) (dx t' : Addr) (v' : V), (∀ b o, b ≠ a → H b = some o → H' b = some o) → H dx = none → dx ≠ a → H' a = some (exq a C (some dx) t') → H' dx = some (exd dx [(f, v')]) → Cp H' v' d → D.nx σ H') :
    tSeq (tDrop (tBIn K newId Bn B (tCons (tVar 0) (tCons (fun σ H Q => tJs [tC (.str p0), tFmtD K (tVar 1)] Str.empty σ H fun out H1 => Q (.str out) H1) tNil))))
      (tXst K bmB f (tVar 0) (tCall (spC 4) [] E0 (tCons (tVar 1) tNil))) D σ H := by
  refine ⟨_, h0, p0, rfl, ?_, _, h1, d, hc.dd, hs, ?_, hd, _, rfl, ?_, ?_⟩
  · rw [sizeLine_eq]; show (Str.empty ++ p0).length ≤ _; rw [PySem.Str.length_append]; show 0 + _ ≤ _; omega
  · rw [sizeLine_eq]; omega
  · rw [sizeLine_eq, PySem.Str.length_append, PySem.Str.length_append]; show 0 + _ + _ ≤ _; omega
  · refine ⟨a, C, t, _, rfl, by show 1 ≤ 1000; decide, q, ha, fun t' => ?_⟩
    have s1 : KeepD H (upd H a (exq a C none t')) := KeepD.upd ha plain_exq
    refine ⟨v, h1, spC_of (E := E0) (hc.keep s1) fun v' H3 s3 c3 => ?_⟩
    have ha3 := s3 _ _ (upd_same (H := H) (a := a) (o := exq a C none t'))
    refine ⟨_, h0, a, C, t', rfl, T, hov, htk, ha3, fun dx hdx hne => ?_⟩
    have free : H dx = none := by
      cases e : H dx with
      | none => rfl
      | some o =>
        have z := s3 dx o (by rw [upd_ne hne]; exact e)
        rw [hdx] at z
        cases z
    refine k _ dx t' v' (fun b o hb e => ?_) free hne upd_same ?_ ?_
    · rw [upd_ne hb]
      have e3 := s3 b o (by rw [upd_ne hb]; exact e)
      rw [upd_ne (ne_of_none e3 hdx)]
      exact e3
    · rw [upd_ne hne, upd_same]
    · refine c3.keep ((Same.keepD (same_new hdx)).trans (KeepD.upd (u := exq a C none t') ?_ plain_exq))
      rw [upd_ne (ne_of_none ha3 hdx)]
      exact ha3

structure CopyK (P : Program) (w : World) (K : PySem.W.Frag) (mg : Str → Option Value) (base : Heap) (f : Addr) (fd : FuncData) : Prop where
  G : FnOk P w K mg base CX0 4 f fd ["value"] (spC 4)
  b : Binds K fd ["value"] []
  g : mg "own_copy" = some (.ref f)
  kp : PySem.W.keepIn K (.ref f) = true
theorem sp_len {C : Addr} {f : Str} {vs : List V} {H : Hp} {Q : VK} (h : spIni C f vs H Q E0) : vs.length = 2 := by
  obtain ⟨a, v, t, d, rfl, _⟩ := h
  rfl
theorem sc_unknown : FnScope ["self", "wanted"] ["self", "wanted"] (defScope (iniOf 3)) := ⟨rfl, rfl, rfl, by decide +kernel, rfl, by decide +kernel, by decide +kernel⟩
theorem ok_unknown {C f : Addr} {fd : FuncData} (F : Fun K "__init__" "UnknownName.__init__" (iniOf 3) f fd) (Y : CopyK P w K mg base fc fdc) (T : ExK K C) (q : exnB K C "LookupError.__new__" "LookupError" "KeyError" = true)
    (hov : PySem.W.excOver K C [.type "KeyError", .type "LookupError", .type "Exception", .type "BaseException", .type "object"] = true) (htk : PySem.W.takerIn K C "wanted" = some none) (hm : mg "KeyError" = none)
    (vV : PySem.W.findCls K (.type "KeyError") (.type "type") "__init__" = some (.val (.builtin "KeyError.__init__"))) : FnG P w K mg base 5 f fd ["self", "wanted"] (spIni C "wanted") := by
  refine fng F sc_unknown (fun vs H Q h => sp_len h) (fun cdv A outer s H vs Q hr hgu h => ?_)
  obtain ⟨a, v, t, d, rfl, ha, hc, hs, hl, hd, k⟩ := h
  refine ⟨_, pss_cons (ps_expr (pe_binB (newId := "LookupError.__new__") (Bn := "LookupError") ini_key rfl hm (by rfl) (by decide) (by rfl) (by rfl) vV (by decide +kernel) (pa_cons (pv 0) (pa_cons (pe_joined (.cons pe_str (.cons (pe_fmtD hgu hr.units (pv 1)) .nil))) pa_nil))))
    (pss_one (ps_xst storeKey (pv 0) (pe_call Y.G hr rfl Y.g Y.kp Y.b .nil pass0 (pa_cons (pv 1) pa_nil)))), ?_⟩
  exact read_ini (p0 := "no such name: ") rfl rfl ha hc hs hl hd (by decide) T q hov htk k
theorem sc_number : FnScope ["self", "given"] ["self", "given"] (defScope (iniOf 4)) := ⟨rfl, rfl, rfl, by decide +kernel, rfl, by decide +kernel, by decide +kernel⟩
theorem ok_number {C f : Addr} {fd : FuncData} (F : Fun K "__init__" "InvalidNumber.__init__" (iniOf 4) f fd) (Y : CopyK P w K mg base fc fdc) (T : ExK K C) (q : exnB K C "RuntimeError.__new__" "RuntimeError" "RuntimeError" = true)
    (hov : PySem.W.excOver K C [.type "RuntimeError", .type "Exception", .type "BaseException", .type "object"] = true) (htk : PySem.W.takerIn K C "given" = some none) (hm : mg "RuntimeError" = none)
    (vV : PySem.W.findCls K (.type "RuntimeError") (.type "type") "__init__" = some (.val (.builtin "RuntimeError.__init__"))) : FnG P w K mg base 5 f fd ["self", "given"] (spIni C "given") := by
  refine fng F sc_number (fun vs H Q h => sp_len h) (fun cdv A outer s H vs Q hr hgu h => ?_)
  obtain ⟨a, v, t, d, rfl, ha, hc, hs, hl, hd, k⟩ := h
  refine ⟨_, pss_cons (ps_expr (pe_binB (newId := "RuntimeError.__new__") (Bn := "RuntimeError") (IniF.of PySem.F.excBase_RuntimeError) rfl hm (by rfl) (by decide) (by rfl) (by rfl) vV (by decide +kernel) (pa_cons (pv 0) (pa_cons (pe_joined (.cons pe_str (.cons (pe_fmtD hgu hr.units (pv 1)) .nil))) pa_nil))))
    (pss_one (ps_xst PySem.F.store_RuntimeError (pv 0) (pe_call Y.G hr rfl Y.g Y.kp Y.b .nil pass0 (pa_cons (pv 1) pa_nil)))), ?_⟩
  exact read_ini (p0 := "no such number: ") rfl rfl ha hc hs hl hd (by decide) T q hov htk k
end
end K4
namespace DW
open PySem PySem.Spec PyProof.Rows L2
theorem none_of {H H' : Hp} {a : Addr} (s : Same H H') (n : H' a = none) : H a = none := by
  cases e : H a with
  | none => rfl
  | some o =>
    rw [s a o e] at n
    cases n
/-- raise e, where e gives an own exception without a dict -/
theorem pmk_exq0 {X : Cx} {e : Expr} {te : TE} (hx : X.ex = []) (he : PE X e te) : PMk X e (fun σ H Q => te σ H fun x H1 => ∃ (a C t : Addr), x = .ref a ∧ H1 a = some (exq a C none t) ∧ Fr0 X.H_0 a ∧ Raises X (.ref C) ∧ Q (.ref C) none (delH H1 a)) := by
  intro pins s σ H Q I h
  refine wpAny_mono (he.run pins s σ H _ I h) (fun u s1 hu => ?_) fun _ _ x => x
  obtain ⟨v, H1, I1, r1, a, C, t, rfl, ha, h0, hr, q⟩ := hu
  cases (show u = Value.ref a from r1)
  have z := exq_at I1.hok ha
  obtain ⟨G, gs, ga, J⟩ := I1.untrack (φ := fun h => h.get? a = some (exr C none t)) ha h0 hx
  exact ⟨a, _, _, { s1 with heap := G }, _, .ref C, none, rfl, J, gs, ga, z, ⟨rfl, rfl⟩, rfl, rfl, delH_same, rfl, I1.bare, hr, q⟩
/-- what is never come to -/
theorem dead {X : Cx} {st : List Stmt} : PSs X st (fun _ _ _ => False) := ⟨fun _ _ _ _ _ _ h => h.elim⟩
theorem deadE {X : Cx} {e : Expr} : PE X e (fun _ _ _ => False) := ⟨fun _ _ _ _ _ _ h => h.elim⟩
theorem deadT {X : Cx} {e : Expr} : PT X e (fun _ _ _ => False) := ⟨fun _ _ _ _ _ _ h => h.elim⟩
abbrev bmV : List Value := [.type "ValueError", .type "Exception", .type "BaseException", .type "object"]
/-- an own error without an __init__ of its own -/
structure Pl (K : PySem.W.Frag) (mg : Str → Option Value) (nm : Str) (C : Addr) : Prop where
  ex : ExK K C
  g : mg nm = some (.ref C)
  q : PySem.W.excInitIn K C bmV "ValueError.__new__" = true
  hi : PySem.W.findIn K (.ref C) "__init__" = some (some (.builtin "ValueError.__init__"))
  ty : PySem.W.typeIn K (.ref C) = some (.type "type")
theorem del_new2 {H : Hp} {a t : Addr} {v : V} {C : Addr} (na : H a = none) (ne : t ≠ a) : delH (upd (upd H t (.tup [v])) a (exq a C none t)) a = upd H t (.tup [v]) := delH_new (by rw [upd_ne (Ne.symm ne)]; exact na)
/-- the raise of such an error: nothing that stood changes -/
theorem rd_pl {X : Cx} {C : Addr} {m : Str} {σ : L2.St} {H : Hp} {Q : XK} (r : Raises X (.ref C)) (h0 : ∀ a, H a = none → X.H_0 a = none) (k : ∀ H', Same H H' → Q (.ref C) none H') :
    tExP C (tC (.str m)) σ H fun x H1 => ∃ (a C t : Addr), x = .ref a ∧ H1 a = some (exq a C none t) ∧ Fr0 X.H_0 a ∧ Raises X (.ref C) ∧ Q (.ref C) none (delH H1 a) := fun a t na nt ne =>
  ⟨a, C, t, rfl, upd_same, fr0_none (h0 a na), r, by rw [del_new2 na ne]; exact k _ (same_new nt)⟩
end DW
namespace K4
open PySem PySem.Spec PyProof.Rows L2 DW
/-- what is known of an own error with an __init__ that keeps what is given -/
structure OwG (P : Program) (w : World) (K : PySem.W.Frag) (mg : Str → Option Value) (base : Heap) (nm f : Str) (newId Bn B : String) (C fI : Addr) (fdI : FuncData) : Prop where
  ex : ExK K C
  g : mg nm = some (.ref C)
  q : exnB K C newId Bn B = true
  hi : PySem.W.findIn K (.ref C) "__init__" = some (some (.ref fI))
  tf : PySem.W.typeIn K (.ref fI) = some (.type "function")
  b : Binds K fdI ["self", f] []
  G : FnG P w K mg base 5 fI fdI ["self", f] (spIni C f)
  ty : PySem.W.typeIn K (.ref C) = some (.type "type")
/-- data that may be told in an error -/
def Tellable (d : PyData) : Prop := d.showable = true ∧ d.shown.length ≤ 1000 ∧ d.depth ≤ 60
/-- raise X(e) -/
theorem rd_owG {X : Cx} {C : Addr} {f : Str} {te : TE} {σ : L2.St} {H : Hp} {Q : XK} {v : V} {d : PyData} (hv : ∀ R : VK, R v H → te σ H R) (cp : Cp H v d) (tl : Tellable d) (r : Raises X (.ref C)) (h0 : ∀ a, H a = none → X.H_0 a = none)
    (k : ∀ (H' : Hp) (dx : Addr) (v' : V), Same H H' → H' dx = some (.xd [(f, v')]) → Cp H' v' d → Q (.ref C) (some dx) H') :
    tExI C (spIni C f) te σ H fun x H1 => ∃ (a C dx t : Addr) (fs : List (Str × V)), x = .ref a ∧ H1 a = some (exq a C (some dx) t) ∧ H1 dx = some (exd dx fs) ∧ Fr0 X.H_0 a ∧ Raises X (.ref C) ∧ Q (.ref C) (some dx) (upd (delH H1 a) dx (.xd fs)) := by
  refine hv _ fun a t na nt ne => ?_
  have up : ∀ b o, H b = some o → upd (upd H t (.tup [v])) a (exq a C none t) b = some o := fun b o e => by
    rw [upd_ne (ne_of_none e na), upd_ne (ne_of_none e nt)]
    exact e
  have cp2 : Cp (upd (upd H t (.tup [v])) a (exq a C none t)) v d := cp.keep fun b o _ e => up b o e
  refine ⟨a, v, t, d, rfl, upd_same, cp2, tl.1, tl.2.1, tl.2.2, fun H' dx t' v' kp ndx nea ha hd cv => ⟨rfl, a, C, dx, t', [(f, v')], rfl, ha, hd, fr0_none (h0 a na), r, ?_⟩⟩
  have dxt : dx ≠ t := fun z => by rw [z, upd_ne ne, upd_same] at ndx; cases ndx
  have ndH : H dx = none := by rw [upd_ne nea, upd_ne dxt] at ndx; exact ndx
  have still : ∀ b o, H b = some o → upd (delH H' a) dx (.xd [(f, v')]) b = some o := fun b o e => by
    have ba : b ≠ a := ne_of_none e na
    rw [upd_ne (ne_of_none e ndH), delH_ne ba]
    exact kp b o ba (up b o e)
  refine k _ dx v' still upd_same (cv.keep fun b o p e => ?_)
  have ba : b ≠ a := fun z => by
    rw [z, ha] at e
    cases e
    cases p
  have bd : b ≠ dx := fun z => by
    rw [z, hd] at e
    cases e
    cases p
  rw [upd_ne bd, delH_ne ba]
  exact e
end K4
namespace K4
open PySem PySem.Spec PyProof.Rows L2 DW
abbrev sDice : Stmt := top 29
abbrev sRoll : Stmt := top 30
abbrev sPick : Stmt := top 31
section
variable {P : Program} {w : World} {K : PySem.W.Frag} {mg : Str → Option Value} {base : Heap}
/-! ### draws -/
def spRoll : Sp := fun vs H Q _ => ∃ (a : Addr) (d0 d1 d2 t : Int), vs = [.ref a, .int t] ∧ H a = some (.lst [.int d0, .int d1, .int d2]) ∧ 0 < t ∧ t < 1073741824 ∧
  ∀ r e0 e2 : Int, 0 ≤ r → r < t → Q (.int r) (upd H a (.lst [.int e0, .int d1, .int e2]))
theorem scRoll : FnScope ["dice", "total", "found", "one", "two"] ["dice", "total"] (defScope sRoll) := ⟨rfl, rfl, rfl, by decide +kernel, rfl, by decide +kernel, by decide +kernel⟩
theorem fm0 {i j : Int} (h : 0 < j) : 0 ≤ i.fmod j := Int.fmod_nonneg_of_pos i h
theorem fm1 {i j : Int} (h : 0 < j) : i.fmod j < j := Int.fmod_lt_of_pos i h
theorem ok_roll {f : Addr} {fd : FuncData} (F : Fun K "_law_roll" "_law_roll" sRoll f fd) : FnOk P w K mg base CX0 1 f fd ["dice", "total"] spRoll := by
  refine F.ok scRoll (fun vs H Q E h => ?_) (fun cdv A outer s H vs Q E hr h => ?_)
  · obtain ⟨a, d0, d1, d2, t, rfl, _⟩ := h
    rfl
  · obtain ⟨a, d0, d1, d2, t, rfl, hA, ht, ht2, k⟩ := h
    refine ⟨_, pss_cons (ps_if (pt_cmpR op_gt (pe_ix ix_list (pv 0) pe_int (fun _ _ => rfl)) pe_int (nomark _))
        (pss_cons (ps_set (i := 2) scRoll.nd rfl (Or.inl rfl) (pe_op op_modN (pe_ix ix_list (pv 0) pe_int (fun _ _ => rfl)) (pv 1)))
        (pss_cons (ps_asg (pe_op op_fdivN (pe_ix ix_list (pv 0) pe_int (fun _ _ => rfl)) (pv 1)) (pg_sub (pv 0) pe_int set_list))
        (pss_one (ps_ret (pv 2))))) pss_nil)
      (pss_cons (ps_asg (pe_op op_add (pe_ix ix_list (pv 0) pe_int (fun _ _ => rfl)) pe_int) (pg_sub (pv 0) pe_int set_list))
      (pss_cons (ps_set (i := 3) scRoll.nd rfl (Or.inl rfl) (pe_op op_modN (pe_op op_add (pe_ix ix_list (pv 0) pe_int (fun _ _ => rfl)) (pe_op op_mul pe_int (pe_ix ix_list (pv 0) pe_int (fun _ _ => rfl)))) pe_int))
      (pss_cons (ps_set (i := 4) scRoll.nd rfl (Or.inl rfl) (pe_op op_add (pe_op op_mul (pe_op op_modN (pe_op op_mul (pv 3) (pv 3)) pe_int) (pv 3)) (pe_op op_mul pe_int (pe_ix ix_list (pv 0) pe_int (fun _ _ => rfl)))))
      (pss_one (ps_ret (pe_op op_modN (pe_op op_fdivN (pe_op op_modN (pe_op op_add (pv 4) (pe_ix ix_list (pv 0) pe_int (fun _ _ => rfl))) pe_int) pe_int) (pv 1))))))), ?_⟩
    have h0 : t ≠ 0 := by omega
    refine ⟨_, rfl, a, _, _, _, rfl, rfl, SqL.of hA, rfl, _, _, rfl, rfl, _, rfl, ite2 (fun _ => ?_) (fun _ => ?_)⟩
    · refine ⟨_, rfl, a, _, _, _, rfl, rfl, SqL.of hA, rfl, _, rfl, _, _, rfl, rfl, h0, ?_⟩
      refine ⟨_, rfl, a, _, _, _, rfl, rfl, SqL.of hA, rfl, _, rfl, _, _, rfl, rfl, ⟨h0, by omega⟩, ?_⟩
      refine ⟨_, rfl, a, _, _, _, rfl, rfl, hA, rfl, ?_⟩
      exact ⟨_, rfl, k _ _ _ (fm0 ht) (fm1 ht)⟩
    · refine ⟨_, rfl, a, _, _, _, rfl, rfl, SqL.of hA, rfl, _, _, rfl, rfl, ?_⟩
      refine ⟨_, rfl, a, _, _, _, rfl, rfl, hA, rfl, ?_⟩
      have hB : upd H a (.lst [.int d0, .int d1, .int (d2 + 1)]) a = some (.lst [.int d0, .int d1, .int (d2 + 1)]) := upd_same
      refine ⟨_, rfl, a, _, _, _, rfl, rfl, SqL.of hB, rfl, _, rfl, a, _, _, _, rfl, rfl, SqL.of hB, rfl, _, _, rfl, rfl, .inl ⟨by decide, by decide⟩, _, _, rfl, rfl, _, _, rfl, rfl, (show (2305843009213693907 : Int) ≠ 0 by decide), ?_⟩
      have b1 := fm0 (i := d1 + 654188429 * (d2 + 1)) (j := 2305843009213693907) (by decide)
      have b2 := fm1 (i := d1 + 654188429 * (d2 + 1)) (j := 2305843009213693907) (by decide)
      have c1 := fm0 (i := (d1 + 654188429 * (d2 + 1)).fmod 2305843009213693907 * (d1 + 654188429 * (d2 + 1)).fmod 2305843009213693907) (j := 1152921504606846871) (by decide)
      have c2 := fm1 (i := (d1 + 654188429 * (d2 + 1)).fmod 2305843009213693907 * (d1 + 654188429 * (d2 + 1)).fmod 2305843009213693907) (j := 1152921504606846871) (by decide)
      refine ⟨_, rfl, _, rfl, _, _, rfl, rfl, .inl ⟨by omega, by omega⟩, _, _, rfl, rfl, (show (1152921504606846871 : Int) ≠ 0 by decide), _, rfl, _, _, rfl, rfl, .inl ⟨by omega, by omega⟩, _, rfl, a, _, _, _, rfl, rfl, SqL.of hB, rfl, _, _, rfl, rfl, .inl ⟨by decide, by decide⟩, _, _, rfl, rfl, ?_⟩
      refine ⟨_, rfl, _, rfl, a, _, _, _, rfl, rfl, SqL.of hB, rfl, _, _, rfl, rfl, _, _, rfl, rfl, (show (8796093022151 : Int) ≠ 0 by decide), _, _, rfl, rfl, ⟨by decide, by decide⟩, _, rfl, _, _, rfl, rfl, h0, ?_⟩
      exact k _ _ _ (fm0 ht) (fm1 ht)
end
local macro_rules | `(tactic| walk_at "k1dice") => `(tactic| (
  refine ⟨_, rfl, _, rfl, _, _, rfl, rfl, ⟨by decide, by decide +kernel⟩, _, _, rfl, rfl, ⟨by decide, by decide +kernel⟩, _, _, rfl, rfl, (show ((10 ^ Int.toNat 60) ^ Int.toNat 10 : Int) ≠ 0 by decide +kernel), ?_⟩
  refine ⟨_, rfl, _, _, rfl, rfl, .inr ⟨by decide, by decide⟩, _, rfl, _, _, rfl, rfl, .inl ⟨by decide, by decide⟩, _, _, rfl, rfl, _, rfl, _, _, rfl, rfl, .inr ⟨_, rfl, _, _, rfl, rfl, .inl ⟨by decide, by decide⟩, _, _, rfl, rfl, _, _, rfl, rfl, ?_⟩⟩
  refine ⟨_, rfl, _, _, rfl, rfl, ⟨by decide, by decide +kernel⟩, _, _, rfl, rfl, _, _, rfl, _, rfl, _, _, rfl, rfl, (show (1152921504606846883 : Int) ≠ 0 by decide), ?_⟩))
section
variable {P : Program} {w : World} {K : PySem.W.Frag} {mg : Str → Option Value} {base : Heap}
def spDice (K : PySem.W.Frag) : Sp := fun vs H Q _ => ∃ (a : Addr) (ns : List Int) (s : Int), vs = [.ref a, .int s] ∧ SqL K H a (ns.map V.int) ∧ 0 ≤ s ∧ s < 1000 ∧
  ∀ (p : Addr) (d0 d1 : Int), H p = none → Q (.ref p) (upd H p (.lst [.int d0, .int d1, .int 0]))
theorem scDice : FnScope ["script", "spot", "cell", "whole", "mixed"] ["script", "spot"] (defScope sDice) := ⟨rfl, rfl, rfl, by decide +kernel, rfl, by decide +kernel, by decide +kernel⟩
theorem ok_dice {f : Addr} {fd : FuncData} (F : Fun K "_law_dice" "_law_dice" sDice f fd) (zL : mg "len" = none) (zI : mg "int" = none) (zA : mg "abs" = none) (zM : mg "max" = none) :
    FnOk P w K mg base CX0 1 f fd ["script", "spot"] (spDice K) := by
  refine F.ok scDice (fun vs H Q E h => ?_) (fun cdv A outer s H vs Q E hr h => ?_)
  · obtain ⟨a, ns, s, rfl, _⟩ := h
    rfl
  · obtain ⟨a, ns, s, rfl, hS, s0, s1, k⟩ := h
    refine ⟨_, pss_cons (ps_set (i := 2) scDice.nd rfl (Or.inl rfl) (pe_ifExp (pt_cmpR op_lt (pv 1) (pe_callB call_len_seq (by rfl) zL PySem.boot_len (pa_cons (pv 0) pa_nil)) (nomark _))
          (pe_callTy call_int1 (by rfl) zI (by decide +kernel) (pa_cons (pe_ix ix_list (pv 0) (pv 1) (fun _ _ => rfl)) pa_nil)) (pe_op op_add (pe_op op_mul pe_int (pv 1)) pe_int)))
      (pss_cons (ps_set (i := 3) scDice.nd rfl (Or.inl rfl) (pe_op op_modN (pe_callB call_abs (by rfl) zA (by decide +kernel) (pa_cons (pv 2) pa_nil)) (pe_op op_powW (pe_op op_powW pe_int pe_int) pe_int)))
      (pss_cons (ps_set (i := 4) scDice.nd rfl (Or.inl rfl) (pe_op op_add (pe_op op_add (pe_op op_add (pe_op op_mul (pv 3) pe_int) (pe_op op_mul pe_int (pv 1))) (pe_op op_mul pe_int (pe_callTy call_int1 (by rfl) zI (by decide +kernel) (pa_cons (pe_cmpR op_lt (pv 2) pe_int (nomark _)) pa_nil)))) pe_int))
      (pss_one (ps_ret (pe_lst (pa_cons (pe_callB (call_max2 rfl) (by rfl) zM (by decide +kernel) (pa_cons pe_int (pa_cons (pe_op op_sub (pv 3) (pe_op op_powW pe_int pe_int)) pa_nil))) (pa_cons (pe_op op_modN (pv 4) pe_int) (pa_cons pe_int pa_nil)))))))), ?_⟩
    refine ⟨_, rfl, _, rfl, a, _, rfl, .inl hS, _, _, rfl, rfl, _, rfl, ite2 (fun h => ?_) (fun h => ?_)⟩
    · obtain ⟨n, rfl⟩ : ∃ n : Nat, s = n := ⟨s.toNat, by omega⟩
      have h : (n : Int) < ((ns.map V.int).length : Nat) := by simpa using h
      have hn : n < ns.length := by rw [List.length_map] at h; omega
      have hg : (ns.map V.int)[n]? = some (V.int ns[n]) := by simp [hn]
      refine ⟨_, rfl, _, rfl, a, _, _, _, rfl, rfl, hS, atI_nat hg, .inl ⟨_, rfl, ?_⟩⟩
      walk_at "k1dice"
      exact ⟨by show 3 ≤ sizeLine; decide, fun p hp => k p _ _ hp⟩
    · refine ⟨_, rfl, _, _, rfl, rfl, .inl ⟨by decide, by decide⟩, _, _, rfl, rfl, ?_⟩
      walk_at "k1dice"
      exact ⟨by show 3 ≤ sizeLine; decide, fun p hp => k p _ _ hp⟩
end
end K4
namespace K4
open PySem PySem.Spec PyProof.Rows L2 DW
/-- all but the dice stays -/
def But (D : Addr) (H H' : Hp) : Prop := ∀ b o, b ≠ D → H b = some o → H' b = some o
def Dc (H : Hp) (D : Addr) : Prop := ∃ d0 d1 d2 : Int, H D = some (.lst [.int d0, .int d1, .int d2])
theorem Same.but {D : Addr} {H H' : Hp} (s : Same H H') : But D H H' := fun b o _ e => s b o e
theorem But.refl {D : Addr} {H : Hp} : But D H H := fun _ _ _ e => e
theorem But.trans {D : Addr} {H H1 H2 : Hp} (x : But D H H1) (y : But D H1 H2) : But D H H2 := fun b o n e => y b o n (x b o n e)
theorem But.upd {D : Addr} {H : Hp} {o : HO} : But D H (upd H D o) := fun b u n e => by rw [upd_ne n]; exact e
theorem Dc.same {D : Addr} {H H' : Hp} (s : Same H H') (h : Dc H D) : Dc H' D := by
  obtain ⟨a, b, c, e⟩ := h
  exact ⟨a, b, c, s _ _ e⟩
theorem new_ne {H : Hp} {D p : Addr} (hD : Dc H D) (hp : H p = none) : p ≠ D := by
  obtain ⟨d0, d1, d2, e⟩ := hD
  rintro rfl
  rw [hp] at e
  cases e
section
variable {P : Program} {w : World} {K : PySem.W.Frag} {mg : Str → Option Value} {base : Heap}
def spPick (K : PySem.W.Frag) : Sp := fun vs H Q _ => ∃ (D : Addr) (v : V), vs = [.ref D, v] ∧ Dc H D ∧
  ((∃ p xs, v = .ref p ∧ p ≠ D ∧ H p = some (.lst xs) ∧ 0 < xs.length ∧ xs.length < 1000 ∧ ∀ u H', u ∈ xs → But D H H' → Dc H' D → Q u H') ∨
   (∃ z : Str, v = .str z ∧ 0 < z.length ∧ z.length < 1000 ∧ ∀ c H', c ∈ z.cps.toList → But D H H' → Dc H' D → Q (.str ⟨#[c]⟩) H'))
theorem scPick : FnScope ["dice", "items"] ["dice", "items"] (defScope sPick) := ⟨rfl, rfl, rfl, by decide +kernel, rfl, by decide +kernel, by decide +kernel⟩
theorem ok_pick {f fR : Addr} {fd fdR : FuncData} (F : Fun K "_law_pick" "_law_pick" sPick f fd) (FR : Fun K "_law_roll" "_law_roll" sRoll fR fdR) (bR : Binds K fdR ["dice", "total"] []) (gR : mg "_law_roll" = some (.ref fR)) (zL : mg "len" = none) :
    FnOk P w K mg base CX0 2 f fd ["dice", "items"] (spPick K) := by
  have GR : FnOk P w K mg base CX0 1 fR fdR ["dice", "total"] spRoll := ok_roll FR
  refine F.ok scPick (fun vs H Q E h => ?_) (fun cdv A outer s H vs Q E hr h => ?_)
  · obtain ⟨D, v, rfl, _⟩ := h
    rfl
  · obtain ⟨D, v, rfl, ⟨d0, d1, d2, eD⟩, h⟩ := h
    refine ⟨_, pss_one (ps_ret (pe_ix ix_seq (pv 1) (pe_call GR hr rfl gR FR.kp bR .nil pass0 (pa_cons (pv 0) (pa_cons (pe_callB call_len (by rfl) zL PySem.boot_len (pa_cons (pv 1) pa_nil)) pa_nil))) (fun _ _ => rfl))), ?_⟩
    rcases h with ⟨p, xs, rfl, ne, hp, l0, l1, k⟩ | ⟨z, rfl, l0, l1, k⟩
    · refine ⟨_, rfl, _, rfl, _, rfl, _, xs.length, rfl, .inl ⟨xs, SqL.of hp, rfl⟩, D, d0, d1, d2, _, rfl, eD, by omega, by omega, fun r e0 e2 r0 r1 => .inl ?_⟩
      obtain ⟨n, rfl⟩ : ∃ n : Nat, r = n := ⟨r.toNat, by omega⟩
      have hn : n < xs.length := by omega
      have hg : xs[n]? = some xs[n] := List.getElem?_eq_getElem hn
      exact ⟨p, xs, _, _, rfl, rfl, SqL.of (by rw [upd_ne ne]; exact hp), atI_nat hg, k _ _ (List.mem_of_getElem? hg) But.upd ⟨e0, d1, e2, upd_same⟩⟩
    · have hzs : z.length ≤ sizeLine := by rw [sizeLine_eq]; omega
      refine ⟨_, rfl, _, rfl, _, rfl, _, z.length, rfl, ⟨hzs, rfl⟩, D, d0, d1, d2, _, rfl, eD, by omega, by omega, fun r e0 e2 r0 r1 => .inr (.inr ?_)⟩
      obtain ⟨n, rfl⟩ : ∃ n : Nat, r = n := ⟨r.toNat, by omega⟩
      have hl : z.cps.toList.length = z.length := by simp [Str.length]
      have hn : n < z.cps.toList.length := by omega
      have hg : z.cps.toList[n]? = some z.cps.toList[n] := List.getElem?_eq_getElem hn
      exact ⟨z, _, _, rfl, rfl, hzs, atI_nat hg, k _ _ (List.mem_of_getElem? hg) But.upd ⟨e0, d1, e2, upd_same⟩⟩
/-- a roll, by the dice alone -/
theorem sp_roll {H : Hp} {D : Addr} {t : Int} {Q : VK} {E : XK} (hD : Dc H D) (h0 : 0 < t) (h1 : t < 1000) (k : ∀ (r : Int) H', 0 ≤ r → r < t → But D H H' → Dc H' D → Q (.int r) H') : spRoll [.ref D, .int t] H Q E := by
  obtain ⟨d0, d1, d2, e⟩ := hD
  exact ⟨D, d0, d1, d2, t, rfl, e, h0, by omega, fun r e0 e2 r0 r1 => k r _ r0 r1 But.upd ⟨e0, d1, e2, upd_same⟩⟩
/-- a text that may be drawn -/
def Gt (n : Nat) (z : Str) : Prop := z.length ≤ n ∧ ∀ c ∈ z.cps.toList, c < 0x110000
end
end K4
namespace K4
open PySem PySem.Spec PyProof.Rows L2 DW
abbrev sShuf : Stmt := top 32
section
variable {P : Program} {w : World} {K : PySem.W.Frag} {mg : Str → Option Value} {base : Heap}
theorem scShuf : FnScope ["dice", "items", "heap", "turn"] ["dice", "items"] (defScope sShuf) := ⟨rfl, rfl, rfl, by decide +kernel, rfl, by decide +kernel, by decide +kernel⟩
def spShuf : Sp := fun vs H Q _ => ∃ (D p : Addr) (ys : List V), vs = [.ref D, .ref p] ∧ Dc H D ∧ p ≠ D ∧ H p = some (.lst ys) ∧ ys.length ≤ 60 ∧
  ∀ (L : Addr) (zs : List V) H', L ≠ D → H' L = some (.lst zs) → zs.Perm ys → But D H H' → Dc H' D → Q (.ref L) H'
abbrev tPopR (K : PySem.W.Frag) : TE := tBM K "list" rPopAt (tVar 2) (tCons (tCall spRoll [] E0 (tCons (tVar 0) (tCons (tCB (fun xs H Q => ∃ p ys, xs = [.ref p] ∧ (SqL K H p ys ∨ SqT K H p ys) ∧ Q (.int ys.length) H) (tCons (tVar 2) tNil)) tNil))) tNil)
theorem perm_erase {α : Type} : ∀ (l : List α) (i : Nat) (h : i < l.length), (l[i] :: l.eraseIdx i).Perm l
  | [], _, h => absurd h (by simp)
  | _ :: _, 0, _ => List.Perm.refl _
  | a :: l, i + 1, h => by
    show (l[i]'_ :: a :: l.eraseIdx i).Perm (a :: l)
    exact (List.Perm.swap a _ _).trans ((perm_erase l i (by simpa using h)).cons a)
theorem seq_at {r : Int} {n : Nat} (h0 : 0 ≤ r) (h1 : r < n) : seqIndex? r n = some r.toNat := by
  unfold seqIndex?
  have e : ¬ r < 0 := by omega
  simp only [e, if_false]
  rw [if_pos (by rw [Bool.and_eq_true, decide_eq_true_eq, decide_eq_true_eq]; exact ⟨h0, h1⟩)]
theorem rd_shuf {H0 H : Hp} {D p h : Addr} {ys : List V} {x3 : Option V} {Q : VK} (b0 : But D H0 H) (nh : H0 h = none) (hD : Dc H D) (neh : h ≠ D) (hp : H p = some (.lst ys)) (hh : H h = some (.lst ys)) (hl : ys.length ≤ 60)
    (k : ∀ (L : Addr) (zs : List V) H', L ≠ D → H' L = some (.lst zs) → zs.Perm ys → But D H0 H' → Dc H' D → Q (.ref L) H') :
    tLc (iRng1 (tCons (tCB (fun xs H Q => ∃ p ys, xs = [.ref p] ∧ (SqL K H p ys ∨ SqT K H p ys) ∧ Q (.int ys.length) H) (tCons (tVar 1) tNil)) tNil)) (gName 3) tYes (tPopR K) [3] [some (.ref D), some (.ref p), some (.ref h), x3] H Q := by
  refine ⟨_, rfl, p, _, rfl, .inl (SqL.of hp), _, rfl, by omega, by omega, fun L nL => ?_⟩
  have neD := new_ne hD nL
  have neh2 : L ≠ h := fun e => by rw [e, hh] at nL; cases nL
  have en : ((ys.length : Nat) : Int).toNat = ys.length := by omega
  rw [en]
  have nL0 : ∀ q o, q ≠ D → H0 q = some o → q ≠ L := fun q o hq e z => by
    have w := b0 q o hq e
    rw [z, nL] at w
    cases w
  refine lc_range (lo := 0) (n := ys.length) (fun i H' => But D H0 H' ∧ Dc H' D ∧ ∃ hs zs : List V, H' h = some (.lst hs) ∧ hs.length + i = ys.length ∧ (hs ++ zs).Perm ys ∧ H' L = some (.lst zs) ∧ zs.length = i)
    ⟨b0.trans (Same.but (same_new nL)), hD.same (same_new nL), ys, [], by rw [upd_ne (Ne.symm neh2)]; exact hh, rfl, by simp, upd_same, rfl⟩ (fun i H' hi q => ⟨rfl, tyes ?_⟩) (fun H' q => ?_)
  · obtain ⟨b, ⟨d0, d1, d2, eD⟩, hs, zs, e1, e2, e3, e4, e5⟩ := q
    have pos : 0 < hs.length := by omega
    refine ⟨_, rfl, .inl ⟨rfl, _, SqL.of e1⟩, _, rfl, _, rfl, h, _, rfl, .inl (SqL.of e1), D, d0, d1, d2, _, rfl, eD, by omega, by omega, fun r f0 f2 r0 r1 => ?_⟩
    have hk : r.toNat < hs.length := by omega
    have e1' : upd H' D (.lst [.int f0, .int d1, .int f2]) h = some (.lst hs) := by rw [upd_ne neh]; exact e1
    refine ⟨h, hs, r, r.toNat, hs[r.toNat], rfl, rfl, e1', by omega, by omega, seq_at r0 r1, List.getElem?_eq_getElem hk, ?_⟩
    refine ⟨zs, by rw [upd_ne neh2, upd_ne neD]; exact e4, by rw [sizeLine_eq]; omega, ?_, ?_, hs.eraseIdx r.toNat, zs ++ [hs[r.toNat]], ?_, ?_, ?_, ?_, ?_⟩
    · intro q o hq e
      rw [upd_ne (nL0 q o hq e), upd_ne (ne_of_none e nh), upd_ne hq]
      exact b q o hq e
    · exact ⟨f0, d1, f2, by rw [upd_ne (Ne.symm neD), upd_ne (Ne.symm neh), upd_same]⟩
    · rw [upd_ne (Ne.symm neh2), upd_same]
    · rw [List.length_eraseIdx_of_lt hk]
      omega
    · refine List.Perm.trans ?_ e3
      rw [← List.append_assoc]
      refine (List.perm_append_comm (l₁ := hs.eraseIdx r.toNat ++ zs)).trans ?_
      show (hs[r.toNat] :: (hs.eraseIdx r.toNat ++ zs)).Perm _
      exact (perm_erase hs _ hk).append_right zs
    · exact upd_same
    · rw [List.length_append, e5]
      rfl
  · obtain ⟨b, d, hs, zs, _, e2, e3, e4, e5⟩ := q
    have z : hs = [] := List.length_eq_zero_iff.mp (by omega)
    subst z
    exact k L zs H' neD e4 e3 b d
theorem ok_shuf {f fR : Addr} {fd dR : FuncData} (F : Fun K "_law_shuffled" "_law_shuffled" sShuf f fd) (GR : FnOk P w K mg base CX0 1 fR dR ["dice", "total"] spRoll) (kR : PySem.W.keepIn K (.ref fR) = true) (bR : Binds K dR ["dice", "total"] []) (gR : mg "_law_roll" = some (.ref fR))
    (zL : mg "list" = none) (zR : mg "range" = none) (zN : mg "len" = none) : FnOk P w K mg base CX0 2 f fd ["dice", "items"] spShuf := by
  refine F.ok scShuf (fun vs H Q E h => ?_) (fun cdv A outer s H vs Q E hr h => ?_)
  · obtain ⟨D, p, ys, rfl, _⟩ := h
    rfl
  · obtain ⟨D, p, ys, rfl, hD, np, hp, hl, k⟩ := h
    refine ⟨_, pss_cons (ps_set (i := 2) scShuf.nd rfl (Or.inr rfl) (pe_callTy call_list_of (by rfl) zL (by decide +kernel) (pa_cons (pv 1) pa_nil)))
      (pss_one (ps_ret (pe_lc (own := [("turn", 3)]) (g := gName 3) (tt := tYes) rfl scShuf.nd (pi_range1 rfl zR (pa_cons (pe_callB call_len_seq (by rfl) zN PySem.boot_len (pa_cons (pv 1) pa_nil)) pa_nil))
          (blkOk_by (own := [("turn", 3)]) (N := ["dice", "items", "heap", "turn"]) (sc := defScope sShuf) (by decide +kernel)) (fun _ _ _ _ _ => pg_name (i := 3) scShuf.nd rfl (Or.inl rfl)) (fun _ _ _ _ _ => pts_nil)
          (te := tPopR K)
          (fun _ _ _ _ _ => pe_bm PySem.F.plainAttrs_list PySem.F.slot_list_pop PySem.F.type_list_pop mt_popAt (pv 2) (pa_cons (pe_call GR hr rfl gR kR bR .nil pass0 (pa_cons (pv 0) (pa_cons (pe_callB call_len_seq (by rfl) zN PySem.boot_len (pa_cons (pv 2) pa_nil)) pa_nil))) pa_nil))))), ?_⟩
    refine ⟨_, rfl, p, _, rfl, .inl (SqL.of hp), fun h nh => ?_⟩
    have s1 := same_new (o := .lst ys) nh
    exact rd_shuf (K := K) (Same.but s1) nh (hD.same s1) (new_ne hD nh) (s1 _ _ hp) upd_same hl k
end
end K4
namespace K4
open PySem PySem.Spec PyProof.Rows L2 DW
section
variable {X : Cx} {CX : CXT} {E : XK} {k m : Nat} {f : Addr} {fd : FuncData} {ps : List Str} {sp : Sp} {x : Str} {e : Expr} {es : List Expr} {p pos : Pos} {t : TA}
/-- a def that may be called by its name -/
structure Cal (P : Program) (w : World) (K : PySem.W.Frag) (mg : Str → Option Value) (base : Heap) (k : Nat) (x : Str) (ps : List Str) (sp : Sp) (f : Addr) (fd : FuncData) : Prop where
  G : FnOk P w K mg base CX0 k f fd ps sp
  kp : PySem.W.keepIn K (.ref f) = true
  b : Binds K fd ps []
  g : mg x = some (.ref f)
theorem pe_cal (C : Cal X.prog X.w X.K X.mg X.base k x ps sp f fd) (hr : Room m X.A) (hg : Gl X x) (ha : PA X (e :: es) t) (hk : k ≤ m := by decide) (hdb : (x == ("__debug__" : Str)) = false := by decide) (he : starEach (e :: es) X.env = (false, eval e X.env) :: starEach es X.env := by rfl) (hpl : (backTo pos (starEach es X.env)).any (·.1) = false := by rfl) :
    PE X (.Call (.Name x p) (e :: es) [] pos) (tCall sp [] E t) := pe_call C.G (hr.mono hk) hg C.g C.kp C.b .nil (fun _ _ _ _ _ _ _ h => h.elim) ha hdb he hpl
end
abbrev sTask : Stmt := top 23
def ltI : PyData → PyData → Bool
  | .int i, .int j => decide (i < j) | _, _ => false
def taskD (d : PyData) : Bool := match d with
  | .tuple [a, b, c] => betD 0 (10 ^ 34) a && (betD 0 (10 ^ 34) b && (ltI a b && isNameD c)) | _ => false
theorem betD_int {lo hi : Int} {d : PyData} (h : betD lo hi d = true) : ∃ i, d = .int i ∧ lo ≤ i ∧ i ≤ hi := by
  match d, h with
  | .int i, h =>
    have h : (decide (lo ≤ i) && decide (i ≤ hi)) = true := h
    simp at h
    exact ⟨i, rfl, h.1, h.2⟩
theorem DpAll.three {K : PySem.W.Frag} {H : Hp} {xs : List V} {ds : List PyData} (h : DpAll K H xs ds) (e : ds.length = 3) : ∃ x1 x2 x3 d1 d2 d3, xs = [x1, x2, x3] ∧ ds = [d1, d2, d3] ∧ Dp K H x1 d1 ∧ Dp K H x2 d2 ∧ Dp K H x3 d3 := by
  cases h with
  | nil => cases e
  | cons p1 h => cases h with
    | nil => cases e
    | cons p2 h => cases h with
      | nil => cases e
      | cons p3 h => cases h with
        | nil => exact ⟨_, _, _, _, _, _, rfl, rfl, p1, p2, p3⟩
        | cons p4 h => simp at e
theorem DpAll.two {K : PySem.W.Frag} {H : Hp} {xs : List V} {ds : List PyData} (h : DpAll K H xs ds) (e : ds.length = 2) : ∃ x1 x2 d1 d2, xs = [x1, x2] ∧ ds = [d1, d2] ∧ Dp K H x1 d1 ∧ Dp K H x2 d2 := by
  cases h with
  | nil => cases e
  | cons p1 h => cases h with
    | nil => cases e
    | cons p2 h => cases h with
      | nil => exact ⟨_, _, _, _, rfl, rfl, p1, p2⟩
      | cons p3 h => simp at e
theorem Dd.same {K : PySem.W.Frag} {H H' : Hp} {v : V} {d : PyData} (s : Same H H') (h : Dd K H v d) : Dd K H' v d := by
  cases h with
  | base h n => exact .base (Dp.same s h) n
  | dct e => exact .dct (s _ _ e)
theorem taskD_len {ds : List PyData} (h : ds.length ≠ 3) : taskD (.tuple ds) = false := by
  match ds, h with
  | [_, _, _], h => exact absurd rfl h
  | [], _ => rfl
  | [_], _ => rfl
  | [_, _], _ => rfl
  | _ :: _ :: _ :: _ :: _, _ => rfl
theorem dec_len {n m : Nat} : decide (V.int (n : Int) = V.int (m : Int)) = decide (n = m) := by
  rw [dec_int]
  by_cases q : n = m
  · rw [q]; simp
  · rw [decide_eq_false q, beq_eq_false_iff_ne]; omega
section
variable {P : Program} {w : World} {K : PySem.W.Frag} {mg : Str → Option Value} {base : Heap}
theorem scTask : FnScope ["value", "first", "last", "place"] ["value"] (defScope sTask) := ⟨rfl, rfl, rfl, by decide +kernel, rfl, by decide +kernel, by decide +kernel⟩
theorem ok_task {f fT fN : Addr} {fd dT dN : FuncData} (F : Fun K "_is_task" "_is_task" sTask f fd) (CT : Cal P w K mg base 2 "is_tick" ["value"] (spJ K (betD 0 (10 ^ 34))) fT dT) (CN : Cal P w K mg base 1 "is_name" ["value"] (spJ K isNameD) fN dN)
    (zI : mg "isinstance" = none) (zT : mg "tuple" = none) (zL : mg "len" = none) : FnOk P w K mg base CX0 3 f fd ["value"] (spJn K 1 taskD) := by
  refine F.ok scTask (fun vs H Q E h => ?_) (fun cdv A outer s H vs Q E hr h => ?_)
  · obtain ⟨v, d, rfl, _⟩ := h
    rfl
  · obtain ⟨v, d, rfl, hd, ft, k⟩ := h
    refine ⟨_, pss_cons (ps_if (PW.pt (pw_or (pt_not (pt_val (pe_callB call_isi (by rfl) zI (by rfl) (pa_cons (pv 0) (pa_cons (pe_bltn rfl zT (by rfl) (show RelV (.ty "tuple") (.type "tuple") from rfl)) pa_nil)))))
        (pw_or1 (pt_cmpR op_ne (pe_callB call_len_seq (by rfl) zL PySem.boot_len (pa_cons (pv 0) pa_nil)) pe_int (nomark _)))))
        (pss_one (ps_ret pe_bl)) pss_nil)
      (pss_cons (ps_asg (pv 0) (pg_tup rfl (pgs_cons (pg_name (i := 1) scTask.nd rfl (.inl rfl)) (pgs_cons (pg_name (i := 2) scTask.nd rfl (.inl rfl)) (pgs_cons (pg_name (i := 3) scTask.nd rfl (.inl rfl)) pgs_nil)))))
      (pss_one (ps_ret (pe_and (pe_cal (E := E0) CT hr rfl (pa_cons (pv 1) pa_nil)) (pe_and (pe_cal (E := E0) CT hr rfl (pa_cons (pv 2) pa_nil))
        (pe_and (pe_cmpR op_lt (pv 1) (pv 2) (nomark _)) (pe_one (pe_cal (E := E0) CN hr rfl (pa_cons (pv 3) pa_nil))))))))), ?_⟩
    have no : taskD d = false → Q (.bl false) H := fun e => by
      have z := k H (Same.refl H)
      rw [e] at z
      exact z
    refine rd_isi rfl hd (kit_tup d) ⟨_, rfl, ?_⟩
    match d, hd, ft, k, no with
    | .tuple ds, hd, ft, k, no =>
      obtain ⟨a, xs, rfl, hs, hp, hnd⟩ := hd.tup_inv
      obtain ⟨_, hf⟩ := ft.2 _ rfl
      refine iteF ⟨_, rfl, a, xs, rfl, .inr hs, rfl, _, rfl, ?_⟩
      rw [DpAll.length hp, show V.int 3 = V.int ((3 : Nat) : Int) from rfl, dec_len]
      by_cases h3 : ds.length = 3
      · rw [decide_eq_true h3]
        refine iteF ?_
        obtain ⟨x1, x2, x3, d1, d2, d3, rfl, rfl, p1, p2, p3⟩ := DpAll.three hp h3
        have q1 : Dd K H x1 d1 := .base p1 (hnd _ (by simp))
        have q2 : Dd K H x2 d2 := .base p2 (hnd _ (by simp))
        have q3 : Dd K H x3 d3 := .base p3 (hnd _ (by simp))
        refine ⟨_, rfl, a, _, rfl, hs, rfl, ?_⟩
        refine ⟨x1, _, rfl, x2, _, rfl, x3, _, rfl, rfl, _, rfl, x1, d1, rfl, q1, hf d1 (by simp), fun H1 s1 => ⟨_, rfl, ?_⟩⟩
        have k1 := fun H' s => k H' (s1.trans s)
        by_cases b1 : betD 0 (10 ^ 34) d1 = true
        · rw [b1]
          refine iteT ⟨_, rfl, x2, d2, rfl, Dd.same s1 q2, hf d2 (by simp), fun H2 s2 => ⟨_, rfl, ?_⟩⟩
          by_cases b2 : betD 0 (10 ^ 34) d2 = true
          · rw [b2]
            obtain ⟨i, rfl, _⟩ := betD_int b1
            obtain ⟨j, rfl, _⟩ := betD_int b2
            cases p1
            cases p2
            refine iteT ⟨_, rfl, _, rfl, _, _, rfl, rfl, _, rfl, ?_⟩
            by_cases b3 : i < j
            · rw [decide_eq_true b3]
              refine iteT ⟨_, rfl, x3, d3, rfl, Dd.same s2 (Dd.same s1 q3), hf d3 (by simp), fun H3 s3 => ?_⟩
              have z := k1 H3 (s2.trans s3)
              have e : taskD (.tuple [.int i, .int j, d3]) = isNameD d3 := by simp only [taskD, b1, b2, ltI, decide_eq_true b3, Bool.true_and]
              rw [e] at z
              exact z
            · rw [decide_eq_false b3]
              refine iteF ?_
              have z := k1 H2 s2
              have e : taskD (.tuple [.int i, .int j, d3]) = false := by simp only [taskD, ltI, decide_eq_false b3, Bool.false_and, Bool.and_false]
              rw [e] at z
              exact z
          · rw [Bool.not_eq_true] at b2
            rw [b2]
            refine iteF ?_
            have z := k1 H2 s2
            have e : taskD (.tuple [d1, d2, d3]) = false := by simp only [taskD, b2, Bool.false_and, Bool.and_false]
            rw [e] at z
            exact z
        · rw [Bool.not_eq_true] at b1
          rw [b1]
          refine iteF ?_
          have z := k1 H1 (Same.refl _)
          have e : taskD (.tuple [d1, d2, d3]) = false := by simp only [taskD, b1, Bool.false_and]
          rw [e] at z
          exact z
      · rw [decide_eq_false h3]
        exact iteT (no (taskD_len h3))
    | .none, _, _, _, no => exact iteT (no rfl)
    | .bool _, _, _, _, no => exact iteT (no rfl)
    | .int _, _, _, _, no => exact iteT (no rfl)
    | .str _, _, _, _, no => exact iteT (no rfl)
    | .list _, _, _, _, no => exact iteT (no rfl)
    | .dict _, _, _, _, no => exact iteT (no rfl)
end
end K4
namespace DW
open PySem PySem.Spec PyProof.Rows L2
section
variable {J : It} {n : Nat} {G : Hp → Prop} {Y : Nat → Hp → V → Hp → Prop}
/-- a dict comprehension over a walk -/
theorem dc_it (w : Walk J n G Y) {g : TG} {tt : TT} {tk tv : TE} {vs : List Nat} {σ : L2.St} {H1 : Hp} {D : Addr} {Qd : Hp → Prop} (Pv : Nat → Hp → Prop) (h0 : Pv 0 (upd H1 D (.dK []))) (hG : ∀ i H, i ≤ n → Pv i H → G H)
    (hs : ∀ i x H H', i < n → Pv i H → Y i H x H' → g x (wipe σ vs) H' fun σ2 H2 => wipe σ2 vs = wipe σ vs ∧ tt σ2 H2 fun b H3 =>
      if b = true then tk σ2 H3 fun y H4 => tv σ2 H4 fun z H5 => ∃ kvs k, y = kV k ∧ H5 D = some (.dK kvs) ∧ kvs.length < sizeLine ∧ Pv (i + 1) (upd H5 D (.dK (putK kvs k z))) else Pv (i + 1) H3) (hd : ∀ H, Pv n H → Qd H) :
    ∃ W : Nat → Nat → Hp → Prop, (∃ m, W 0 m (upd H1 D (.dK []))) ∧ ∀ i m H, W i m H →
      (J.stop i H ∧ Qd H) ∨ (J.go i H ∧ ∃ Nx : Hp → Prop, (∀ H', Nx H' → ∃ m', m' < m ∧ W (i + 1) m' H') ∧ ∀ x H', J.yld i H x H' → g x (wipe σ vs) H' fun σ2 H2 => wipe σ2 vs = wipe σ vs ∧ tt σ2 H2 fun b H3 =>
        if b = true then tk σ2 H3 fun y H4 => tv σ2 H4 fun z H5 => ∃ kvs k, y = kV k ∧ H5 D = some (.dK kvs) ∧ kvs.length < sizeLine ∧ Nx (upd H5 D (.dK (putK kvs k z))) else Nx H3) := by
  refine ⟨fun i m H => m = n - i ∧ i ≤ n ∧ Pv i H, ⟨n, by simp, Nat.zero_le _, h0⟩, ?_⟩
  rintro i m H ⟨rfl, hi, p⟩
  have q := hG i H hi p
  by_cases hlt : i < n
  · exact .inr ⟨w.goes i H hlt q, Pv (i + 1), fun H' p' => ⟨n - (i + 1), by omega, rfl, hlt, p'⟩, fun x H' y => hs i x H H' hlt p (w.yields i H x H' hlt q y)⟩
  · have e : i = n := by omega
    subst e
    exact .inl ⟨w.stops H q, hd H p⟩
/-- .. with tuple keys -/
theorem dcT_it (w : Walk J n G Y) {g : TG} {tt : TT} {tk tv : TE} {vs : List Nat} {σ : L2.St} {H1 : Hp} {D : Addr} {Qd : Hp → Prop} (Pv : Nat → Hp → Prop) (h0 : Pv 0 (upd H1 D (.dT []))) (hG : ∀ i H, i ≤ n → Pv i H → G H)
    (hs : ∀ i x H H', i < n → Pv i H → Y i H x H' → g x (wipe σ vs) H' fun σ2 H2 => wipe σ2 vs = wipe σ vs ∧ tt σ2 H2 fun b H3 =>
      if b = true then tk σ2 H3 fun y H4 => tv σ2 H4 fun z H5 => ∃ kvs k c, y = .ref c ∧ H5 c = some (.tup (k.map kV)) ∧ H5 D = some (.dT kvs) ∧ kvs.length < sizeLine ∧ Pv (i + 1) (upd H5 D (.dT (putK kvs k z))) else Pv (i + 1) H3) (hd : ∀ H, Pv n H → Qd H) :
    ∃ W : Nat → Nat → Hp → Prop, (∃ m, W 0 m (upd H1 D (.dT []))) ∧ ∀ i m H, W i m H →
      (J.stop i H ∧ Qd H) ∨ (J.go i H ∧ ∃ Nx : Hp → Prop, (∀ H', Nx H' → ∃ m', m' < m ∧ W (i + 1) m' H') ∧ ∀ x H', J.yld i H x H' → g x (wipe σ vs) H' fun σ2 H2 => wipe σ2 vs = wipe σ vs ∧ tt σ2 H2 fun b H3 =>
        if b = true then tk σ2 H3 fun y H4 => tv σ2 H4 fun z H5 => ∃ kvs k c, y = .ref c ∧ H5 c = some (.tup (k.map kV)) ∧ H5 D = some (.dT kvs) ∧ kvs.length < sizeLine ∧ Nx (upd H5 D (.dT (putK kvs k z))) else Nx H3) := by
  refine ⟨fun i m H => m = n - i ∧ i ≤ n ∧ Pv i H, ⟨n, by simp, Nat.zero_le _, h0⟩, ?_⟩
  rintro i m H ⟨rfl, hi, p⟩
  have q := hG i H hi p
  by_cases hlt : i < n
  · exact .inr ⟨w.goes i H hlt q, Pv (i + 1), fun H' p' => ⟨n - (i + 1), by omega, rfl, hlt, p'⟩, fun x H' y => hs i x H H' hlt p (w.yields i H x H' hlt q y)⟩
  · have e : i = n := by omega
    subst e
    exact .inl ⟨w.stops H q, hd H p⟩
/-- the second loop of a comprehension -/
theorem in_it (w : Walk J n G Y) {g : TG} {tt : TT} {te : TE} {vs : List Nat} {σ : L2.St} {H0 : Hp} {D : Addr} {Nx : Hp → Prop} (Pv : Nat → Hp → Prop) (h0 : Pv 0 H0) (hG : ∀ i H, i ≤ n → Pv i H → G H)
    (hs : ∀ i x H H', i < n → Pv i H → Y i H x H' → g x (wipe σ vs) H' fun σ2 H2 => wipe σ2 vs = wipe σ vs ∧ tt σ2 H2 fun b H3 =>
      if b = true then te σ2 H3 fun y H4 => ∃ acc, H4 D = some (.lst acc) ∧ acc.length < sizeLine ∧ Pv (i + 1) (upd H4 D (.lst (acc ++ [y]))) else Pv (i + 1) H3) (hd : ∀ H, Pv n H → Nx H) :
    ∃ W : Nat → Nat → Hp → Prop, (∃ m, W 0 m H0) ∧ ∀ i m H, W i m H →
      (J.stop i H ∧ Nx H) ∨ (J.go i H ∧ ∃ N1 : Hp → Prop, (∀ H', N1 H' → ∃ m', m' < m ∧ W (i + 1) m' H') ∧ ∀ x H', J.yld i H x H' → g x (wipe σ vs) H' fun σ2 H2 => wipe σ2 vs = wipe σ vs ∧ tt σ2 H2 fun b H3 =>
        if b = true then te σ2 H3 fun y H4 => ∃ acc, H4 D = some (.lst acc) ∧ acc.length < sizeLine ∧ N1 (upd H4 D (.lst (acc ++ [y]))) else N1 H3) := by
  refine ⟨fun i m H => m = n - i ∧ i ≤ n ∧ Pv i H, ⟨n, by simp, Nat.zero_le _, h0⟩, ?_⟩
  rintro i m H ⟨rfl, hi, p⟩
  have q := hG i H hi p
  by_cases hlt : i < n
  · exact .inr ⟨w.goes i H hlt q, Pv (i + 1), fun H' p' => ⟨n - (i + 1), by omega, rfl, hlt, p'⟩, fun x H' y => hs i x H H' hlt p (w.yields i H x H' hlt q y)⟩
  · have e : i = n := by omega
    subst e
    exact .inl ⟨w.stops H q, hd H p⟩
/-- the first loop of one with two -/
theorem lc2_it (w : Walk J n G Y) {wi1 : TI} {g g1 : TG} {tt tt1 : TT} {te : TE} {vs vs1 : List Nat} {σ : L2.St} {H1 : Hp} {D : Addr} {Qd : Hp → Prop} (Pv : Nat → Hp → Prop) (h0 : Pv 0 (upd H1 D (.lst []))) (hG : ∀ i H, i ≤ n → Pv i H → G H)
    (hs : ∀ i x H H', i < n → Pv i H → Y i H x H' → g x (wipe σ vs) H' fun σ2 H2 => wipe σ2 vs = wipe σ vs ∧ tt σ2 H2 fun b H3 =>
      if b = true then wi1 σ2 H3 fun J1 H4 => ∃ W1 : Nat → Nat → Hp → Prop, (∃ m, W1 0 m H4) ∧ ∀ j k H, W1 j k H →
        (J1.stop j H ∧ Pv (i + 1) H) ∨ (J1.go j H ∧ ∃ Nx1 : Hp → Prop, (∀ H', Nx1 H' → ∃ k', k' < k ∧ W1 (j + 1) k' H') ∧ ∀ x H', J1.yld j H x H' → g1 x (wipe σ2 vs1) H' fun σ3 H5 => wipe σ3 vs1 = wipe σ2 vs1 ∧ tt1 σ3 H5 fun b H6 =>
          if b = true then te σ3 H6 fun y H7 => ∃ acc, H7 D = some (.lst acc) ∧ acc.length < sizeLine ∧ Nx1 (upd H7 D (.lst (acc ++ [y]))) else Nx1 H6)
      else Pv (i + 1) H3) (hd : ∀ H, Pv n H → Qd H) :
    ∃ W : Nat → Nat → Hp → Prop, (∃ m, W 0 m (upd H1 D (.lst []))) ∧ ∀ i m H, W i m H →
      (J.stop i H ∧ Qd H) ∨ (J.go i H ∧ ∃ Nx : Hp → Prop, (∀ H', Nx H' → ∃ m', m' < m ∧ W (i + 1) m' H') ∧ ∀ x H', J.yld i H x H' → g x (wipe σ vs) H' fun σ2 H2 => wipe σ2 vs = wipe σ vs ∧ tt σ2 H2 fun b H3 =>
      if b = true then wi1 σ2 H3 fun J1 H4 => ∃ W1 : Nat → Nat → Hp → Prop, (∃ m, W1 0 m H4) ∧ ∀ j k H, W1 j k H →
        (J1.stop j H ∧ Nx H) ∨ (J1.go j H ∧ ∃ Nx1 : Hp → Prop, (∀ H', Nx1 H' → ∃ k', k' < k ∧ W1 (j + 1) k' H') ∧ ∀ x H', J1.yld j H x H' → g1 x (wipe σ2 vs1) H' fun σ3 H5 => wipe σ3 vs1 = wipe σ2 vs1 ∧ tt1 σ3 H5 fun b H6 =>
          if b = true then te σ3 H6 fun y H7 => ∃ acc, H7 D = some (.lst acc) ∧ acc.length < sizeLine ∧ Nx1 (upd H7 D (.lst (acc ++ [y]))) else Nx1 H6)
      else Nx H3) := by
  refine ⟨fun i m H => m = n - i ∧ i ≤ n ∧ Pv i H, ⟨n, by simp, Nat.zero_le _, h0⟩, ?_⟩
  rintro i m H ⟨rfl, hi, p⟩
  have q := hG i H hi p
  by_cases hlt : i < n
  · exact .inr ⟨w.goes i H hlt q, Pv (i + 1), fun H' p' => ⟨n - (i + 1), by omega, rfl, hlt, p'⟩, fun x H' y => hs i x H H' hlt p (w.yields i H x H' hlt q y)⟩
  · have e : i = n := by omega
    subst e
    exact .inl ⟨w.stops H q, hd H p⟩
end
/-- isinstance(x, T) by the type -/
theorem rd_isiT {K : PySem.W.Frag} {σ : L2.St} {H : Hp} {T t : String} {v : V} {b : Bool} {Q : VK} {i : Nat} (hv : σ[i]? = some (some v)) (ty : TyX K H v (.type t)) (hk : kitB t T = some b) (q : Q (.bl b) H) :
    tCB (rIsi K) (tCons (tVar i) (tCons (tC (.ty T)) tNil)) σ H Q := ⟨v, hv, v, .ty T, _, _, b, rfl, .ty _, ty, kit_ty hk, q⟩
/-! ### dicts and sets of texts -/
/-- the keys are just these texts -/
def KnM (kn : List (Key × V)) (S : List Str) : Prop := ∀ k : Key, (valV kn k).isSome = true ↔ ∃ s ∈ S, k = .inr s
theorem KnM.nil : KnM [] [] := fun k => by
  constructor
  · intro h; cases h
  · rintro ⟨s, h, _⟩; cases h
theorem KnM.put {kn : List (Key × V)} {S T : List Str} {s : Str} {v : V} (h : KnM kn S) (hT : ∀ x, x ∈ T ↔ x = s ∨ x ∈ S) : KnM (putK kn (.inr s) v) T := fun k => by
  rw [valV_put]
  by_cases e : k = .inr s
  · rw [if_pos e]
    exact ⟨fun _ => ⟨s, (hT s).mpr (.inl rfl), e⟩, fun _ => rfl⟩
  · rw [if_neg e, h k]
    constructor
    · rintro ⟨x, hx, ex⟩; exact ⟨x, (hT x).mpr (.inr hx), ex⟩
    · rintro ⟨x, hx, ex⟩
      rcases (hT x).mp hx with z | z
      · exact absurd (ex.trans (by rw [z])) e
      · exact ⟨x, z, ex⟩
theorem KnM.of {kn : List (Key × V)} {S : List Str} (h : KnM kn S) {k : Key} {v : V} (m : (k, v) ∈ kn) : ∃ s ∈ S, k = .inr s :=
  (h k).mp (by rw [← valV_any]; exact List.any_eq_true.mpr ⟨_, m, decide_eq_true rfl⟩)
theorem putK_len {κ : Type} [DecidableEq κ] (c : List (κ × V)) (k : κ) (x : V) : (putK c k x).length ≤ c.length + 1 := by
  unfold putK
  split
  · rw [List.length_map]; omega
  · rw [List.length_append]; exact Nat.le_refl _
theorem valV_mem {κ : Type} [DecidableEq κ] {kvs : List (κ × V)} {k : κ} {v : V} (h : valV kvs k = some v) : (k, v) ∈ kvs := by
  induction kvs with
  | nil => cases h
  | cons p r ih =>
    by_cases e : p.1 = k
    · rw [valV_pos e] at h
      injection h with h
      subst e h
      exact List.mem_cons_self ..
    · rw [valV_neg e] at h
      exact List.mem_cons_of_mem _ (ih h)
theorem KnM.has {kn : List (Key × V)} {S : List Str} (h : KnM kn S) {s : Str} (m : s ∈ S) : ∃ v, ((.inr s : Key), v) ∈ kn := by
  have z := (h (.inr s)).mpr ⟨s, m, rfl⟩
  cases e : valV kn (.inr s) with
  | none => rw [e] at z; cases z
  | some v => exact ⟨v, valV_mem e⟩
theorem KnM.all {kn : List (Key × V)} {S : List Str} (h : KnM kn S) (f : Str → Bool) : (kn.all fun q => match q.1 with | .inr s => f s | .inl _ => true) = S.all f := by
  rw [Bool.eq_iff_iff, List.all_eq_true, List.all_eq_true]
  constructor
  · intro z s hs
    obtain ⟨v, hv⟩ := h.has hs
    exact z _ hv
  · rintro z ⟨k, v⟩ hq
    obtain ⟨s, hs, e⟩ := h.of hq
    subst e
    exact z s hs
theorem mut_dK {kvs : List (Key × V)} : Mut (some (.dK kvs)) := True.intro
theorem mut_dT {kvs : List (List Key × V)} : Mut (some (.dT kvs)) := True.intro
end DW
namespace K4
open PySem PySem.Spec PyProof.Rows L2 DW
abbrev sShort : Stmt := top 25
abbrev Ws := List (List Str × V)
def tK (ws : Ws) : List (List Key × V) := ws.map fun p => (p.1.map Sum.inr, p.2)
/-- the walk that is told, or 0 -/
def wk (ws : Ws) (a b : Str) : Int := match valV ws [a, b] with
  | some (.int i) => i | _ => 0
theorem map_inr {a b : List Str} (h : a.map (Sum.inr : Str → Key) = b.map Sum.inr) : a = b := by
  induction a generalizing b with
  | nil => cases b with
    | nil => rfl
    | cons y b => cases h
  | cons x a ih => cases b with
    | nil => cases h
    | cons y b =>
      rw [List.map_cons, List.map_cons] at h
      injection h with h1 h2
      injection h1 with h1
      rw [h1, ih h2]
theorem valV_tK (ws : Ws) (k : List Str) : valV (tK ws) (k.map Sum.inr) = valV ws k := by
  induction ws with
  | nil => rfl
  | cons p r ih =>
    show valV ((p.1.map Sum.inr, p.2) :: tK r) _ = _
    by_cases e : p.1 = k
    · rw [valV_pos (p := (p.1.map Sum.inr, p.2)) (by rw [e]), valV_pos e]
    · rw [valV_neg (p := (p.1.map Sum.inr, p.2)) (fun z => e (map_inr z)), valV_neg e, ih]
/-- all values are integers -/
def IntW (ws : Ws) : Prop := ∀ p ∈ ws, ∃ i, p.2 = .int i
theorem IntW.get {ws : Ws} (h : IntW ws) (a b : Str) : (valV ws [a, b]).getD (.int 0) = .int (wk ws a b) := by
  unfold wk
  cases e : valV ws [a, b] with
  | none => rfl
  | some v =>
    obtain ⟨i, z⟩ := h _ (valV_mem e)
    cases z
    rfl
theorem IntW.at {ws : Ws} (h : IntW ws) {a b : Str} {v : V} (e : valV ws [a, b] = some v) : v = .int (wk ws a b) := by
  have z := h.get a b
  rw [e] at z
  exact z
theorem rd_same {H H' : Hp} {a : Addr} {u : HO} (s : Same H H') (h : Rd H a u) : Rd H' a u := by
  rcases h with h | ⟨o, h⟩
  · exact .inl (s _ _ h)
  · exact .inr ⟨o, s _ _ h⟩
section
variable {P : Program} {w : World} {K : PySem.W.Frag} {mg : Str → Option Value} {base : Heap}
def spShort : Sp := fun vs H Q _ => ∃ (a q : Addr) (ws : Ws) (x y m : Str), vs = [.ref a, .ref q, .str m] ∧ Rd H a (.dT (tK ws)) ∧ H q = some (.tup [.str x, .str y]) ∧ IntW ws ∧ (valV ws [x, y]).isSome = true ∧
  ∀ H', Same H H' → Q (.bl (decide (wk ws x y ≤ wk ws x m + wk ws m y))) H'
theorem scShort : FnScope ["walks", "pair", "mid", "one", "other"] ["walks", "pair", "mid"] (defScope sShort) := ⟨rfl, rfl, rfl, by decide +kernel, rfl, by decide +kernel, by decide +kernel⟩
theorem ok_short {f : Addr} {fd : FuncData} (F : Fun K "_is_shortest" "_is_shortest" sShort f fd) : FnOk P w K mg base CX0 1 f fd ["walks", "pair", "mid"] spShort := by
  refine F.ok scShort (fun vs H Q E h => ?_) (fun cdv A outer s H vs Q E hr h => ?_)
  · obtain ⟨a, q, ws, x, y, m, rfl, _⟩ := h
    rfl
  · obtain ⟨a, q, ws, x, y, m, rfl, ha, hq, hi, hs, k⟩ := h
    refine ⟨_, pss_cons (ps_asg (pv 1) (pg_tup rfl (pgs_cons (pg_name (i := 3) scShort.nd rfl (.inl rfl)) (pgs_cons (pg_name (i := 4) scShort.nd rfl (.inl rfl)) pgs_nil))))
      (pss_one (ps_ret (pe_cmpR op_le (pe_dget (hu_of hr) (pv 0) (pv 1) (fun _ _ => rfl)) (pe_op op_add (pe_dget2 (hu_of hr) (pv 0) (pe_tup (pa_cons (pv 3) (pa_cons (pv 2) pa_nil))) pe_int ⟨rfl, by rfl, rfl, rfl⟩) (pe_dget2 (hu_of hr) (pv 0) (pe_tup (pa_cons (pv 2) (pa_cons (pv 4) pa_nil))) pe_int ⟨rfl, by rfl, rfl, rfl⟩)) (nomark _)))), ?_⟩
    refine ⟨_, rfl, q, _, rfl, SqT.of hq, rfl, _, _, rfl, _, _, rfl, rfl, ?_⟩
    cases hs' : valV ws [x, y] with
    | none => rw [hs'] at hs; cases hs
    | some v =>
      have e1 := hi.at hs'
      subst e1
      refine ⟨_, rfl, _, rfl, a, .int (wk ws x y), rfl, .inr ⟨tK ws, [.inr x, .inr y], q, ha, rfl, hq, ?_⟩, ?_⟩
      · rw [← hs', ← valV_tK]; rfl
      · refine ⟨_, rfl, a, rfl, .inr ⟨_, ha⟩, _, rfl, _, rfl, by show 2 ≤ sizeLine; decide, fun p1 n1 => ?_⟩
        have s1 := same_new (o := .tup [.str x, .str m]) n1
        have ha1 := rd_same s1 ha
        refine ⟨valV (tK ws) [.inr x, .inr m], .inr ⟨tK ws, [.inr x, .inr m], p1, ha1, rfl, upd_same, rfl⟩, ?_⟩
        have e2 : (valV (tK ws) [.inr x, .inr m]).getD (.int 0) = .int (wk ws x m) := by
          rw [← hi.get]
          exact congrArg (fun o => Option.getD o (V.int 0)) (valV_tK ws [x, m])
        rw [e2]
        refine ⟨_, rfl, a, rfl, .inr ⟨_, ha1⟩, _, rfl, _, rfl, by show 2 ≤ sizeLine; decide, fun p2 n2 => ?_⟩
        have s2 := same_new (o := .tup [.str m, .str y]) n2
        refine ⟨valV (tK ws) [.inr m, .inr y], .inr ⟨tK ws, [.inr m, .inr y], p2, rd_same s2 ha1, rfl, upd_same, rfl⟩, ?_⟩
        have e3 : (valV (tK ws) [.inr m, .inr y]).getD (.int 0) = .int (wk ws m y) := by
          rw [← hi.get]
          exact congrArg (fun o => Option.getD o (V.int 0)) (valV_tK ws [m, y])
        rw [e3]
        exact ⟨_, _, rfl, rfl, _, _, rfl, rfl, k _ (s1.trans s2)⟩
end
end K4
namespace K4
open PySem PySem.Spec PyProof.Rows L2 DW
abbrev sWalks : Stmt := top 24
structure WsOk (ws : Ws) : Prop where
  nd : (ws.map (·.1)).Nodup
  fit : ∀ p ∈ ws, ∀ z ∈ p.1, z.length ≤ 1000
  val : ∀ p ∈ ws, p.2 = .non ∨ (∃ b, p.2 = .bl b) ∨ ∃ i, p.2 = .int i
  len : ws.length ≤ 100
def valD : V → PyData
  | .int i => .int i | .bl b => .bool b | _ => .none
def pairOk (p : List Str × V) : Bool := match p.1 with
  | [a, b] => nameS a && (nameS b && (!decide (a = b) && betD 0 (10 ^ 30) (valD p.2))) | _ => false
theorem pairOk_eq {x y : Str} {u : V} : pairOk ([x, y], u) = (nameS x && (nameS y && (!decide (x = y) && betD 0 (10 ^ 30) (valD u)))) := rfl
def namesW (ws : Ws) : List Str := ws.flatMap fun p => p.1
def shOk (ws : Ws) (ps : List Str) (p : List Str × V) : Bool := match p.1 with
  | [a, b] => (ps ++ namesW ws).all fun m => decide (wk ws a b ≤ wk ws a m + wk ws m b) | _ => false
def walksB (ws : Ws) (ps : List Str) : Bool := ws.all pairOk && ws.all (shOk ws ps)
/-- one of the ways beside which it is shortest -/
def gk (ws : Ws) (p : List Str × V) (k : Key) : Bool := match k with
  | .inr m => (match p.1 with
    | [a, b] => decide (wk ws a b ≤ wk ws a m + wk ws m b) | _ => false) | .inl _ => true
theorem pairOk_two {p : List Str} {u : V} (h : pairOk (p, u) = true) : ∃ x y, p = [x, y] := by
  match p, h with
  | [x, y], _ => exact ⟨x, y, rfl⟩
theorem pairOk_int {p : List Str × V} (h : pairOk p = true) : ∃ i, p.2 = .int i := by
  obtain ⟨ks, u⟩ := p
  obtain ⟨x, y, rfl⟩ := pairOk_two h
  rw [pairOk_eq] at h
  simp only [Bool.and_eq_true] at h
  have z := h.2.2.2
  cases u with
  | int i => exact ⟨i, rfl⟩
  | _ => cases z
theorem all_congr {α : Type} {f g : α → Bool} : ∀ {l : List α}, (∀ x ∈ l, f x = g x) → l.all f = l.all g
  | [], _ => rfl
  | x :: l, h => by rw [List.all_cons, List.all_cons, h x (List.mem_cons_self ..), all_congr fun y m => h y (List.mem_cons_of_mem _ m)]
theorem valV_nodup {κ : Type} [DecidableEq κ] : ∀ {kvs : List (κ × V)} {k : κ} {v : V}, (kvs.map (·.1)).Nodup → (k, v) ∈ kvs → valV kvs k = some v
  | p :: r, k, v, nd, m => by
    rw [List.map_cons, List.nodup_cons] at nd
    rcases List.mem_cons.mp m with rfl | m
    · exact valV_pos rfl
    · have : ¬ p.1 = k := fun e => nd.1 (by rw [e]; exact List.mem_map.mpr ⟨_, m, rfl⟩)
      rw [valV_neg this]
      exact valV_nodup nd.2 m
theorem valD_dd {K : PySem.W.Frag} {H : Hp} {u : V} (h : u = .non ∨ (∃ b, u = .bl b) ∨ ∃ i, u = .int i) : Dd K H u (valD u) := by
  rcases h with rfl | ⟨b, rfl⟩ | ⟨i, rfl⟩
  · exact .base .non rfl
  · exact .base (.bl b) rfl
  · exact .base (.int i) rfl
theorem dpAll_strs {K : PySem.W.Frag} {H : Hp} : ∀ ks : List Str, DpAll K H (ks.map V.str) (ks.map PyData.str)
  | [] => .nil
  | z :: r => .cons (.str z) (dpAll_strs r)
theorem noDict_strs : ∀ ks : List Str, (PyData.tuple (ks.map PyData.str)).hasDict = false
  | [] => rfl
  | z :: r => noDict_strs r
section
variable {P : Program} {w : World} {K : PySem.W.Frag} {mg : Str → Option Value} {base : Heap}
/-- {x: True for x in xs} -/
theorem rd_known {pl : Addr} {ps : List Str} {σ : L2.St} {H : Hp} {D : Addr} {j : Nat} {Qd : Hp → Prop} (hD : H D = none) (hj : j < σ.length) (hpl : SqL K H pl (ps.map V.str)) (hl : ps.length ≤ 100)
    (k : ∀ (kn : List (Key × V)) H', Same H H' → H' D = some (.dK kn) → KnM kn ps → kn.length ≤ ps.length → Qd H') :
    ∃ W : Nat → Nat → Hp → Prop, (∃ m, W 0 m (upd H D (.dK []))) ∧ ∀ i m H, W i m H →
      ((Itl K pl).stop i H ∧ Qd H) ∨ ((Itl K pl).go i H ∧ ∃ Nx : Hp → Prop, (∀ H', Nx H' → ∃ m', m' < m ∧ W (i + 1) m' H') ∧ ∀ x H', (Itl K pl).yld i H x H' → gName j x (wipe σ [j]) H' fun σ2 H2 => wipe σ2 [j] = wipe σ [j] ∧ tYes σ2 H2 fun b H3 =>
        if b = true then tVar j σ2 H3 fun y H4 => tC (.bl true) σ2 H4 fun z H5 => ∃ kvs k, y = kV k ∧ H5 D = some (.dK kvs) ∧ kvs.length < sizeLine ∧ Nx (upd H5 D (.dK (putK kvs k z))) else Nx H3) := by
  refine dc_it (walk_list (xs := ps.map V.str)) (fun n H' => Same H H' ∧ ∃ kn, H' D = some (.dK kn) ∧ KnM kn (ps.take n) ∧ kn.length ≤ n) ⟨same_new hD, [], upd_same, KnM.nil, Nat.le_refl _⟩ (fun n H' _ p => Same.seq p.1 hpl) (fun n x H1 H2 hn p y => ?_) (fun H' p => ?_)
  · obtain ⟨e, hx⟩ := y
    subst e
    obtain ⟨s1, kn, hk, hm, hl2⟩ := p
    rw [List.length_map] at hn
    have hx2 : ps[n]? = some ps[n] := List.getElem?_eq_getElem hn
    rw [List.getElem?_map, hx2] at hx
    cases hx
    refine ⟨by simp [gName, wipe], tyes ⟨_, by simp [gName, wipe, hj]; rfl, kn, .inr ps[n], rfl, hk, by rw [sizeLine_eq]; omega, same_mut s1 hD, _, upd_same, ?_, Nat.le_trans (putK_len _ _ _) (by omega)⟩⟩
    refine hm.put fun z => ?_
    rw [List.take_add_one, hx2, List.mem_append]
    exact ⟨fun h => h.elim .inr fun h => .inl (List.mem_singleton.mp h), fun h => h.elim (fun h => .inr (List.mem_singleton.mpr h)) .inl⟩
  · obtain ⟨s1, kn, hk, hm, hl2⟩ := p
    rw [List.length_map] at hm hl2
    rw [List.take_length] at hm
    exact k kn H' s1 hk hm hl2
theorem scWalks : FnScope ["walks", "places", "known", "pair", "place", "mid"] ["walks", "places"] (defScope sWalks) := ⟨rfl, rfl, rfl, by decide +kernel, rfl, by decide +kernel, by decide +kernel⟩
def spWalks (K : PySem.W.Frag) : Sp := fun vs H Q _ => ∃ (v : V) (pl : Addr) (ps : List Str), vs = [v, .ref pl] ∧ SqL K H pl (ps.map V.str) ∧ ps.length ≤ 100 ∧
  ((∃ t, TyX K H v (.type t) ∧ kitB t "dict" = some false ∧ ∀ H', Same H H' → Q (.bl false) H') ∨
   (∃ (a : Addr) (z : Str) (x : V), v = .ref a ∧ H a = some (.dK [(.inr z, x)]) ∧ Fn 0 (.str z) ∧ ∀ H', Same H H' → Q (.bl false) H') ∨
   (∃ (a : Addr) (ws : Ws), v = .ref a ∧ H a = some (.dT (tK ws)) ∧ WsOk ws ∧ ∀ H', Same H H' → Q (.bl (walksB ws ps)) H'))
theorem ok_walks {f fP fN fB fS : Addr} {fd dP dN dB dS : FuncData} (F : Fun K "_are_walks" "_are_walks" sWalks f fd) (CP : Cal P w K mg base 1 "is_pair" ["value"] (spJn K 0 pairD) fP dP) (CN : Cal P w K mg base 1 "is_name" ["value"] (spJ K isNameD) fN dN)
    (CB : Cal P w K mg base 1 "is_between" ["value", "least", "most"] (spBet K) fB dB) (CS : Cal P w K mg base 1 "_is_shortest" ["walks", "pair", "mid"] spShort fS dS) {tL : Addr} (gL : mg "MAX_LENGTH" = some (.int (10 ^ 30) tL))
    (zI : mg "isinstance" = none) (zD : mg "dict" = none) (zA : mg "all" = none) : FnOk P w K mg base CX0 2 f fd ["walks", "places"] (spWalks K) := by
  refine F.ok scWalks (fun vs H Q E h => ?_) (fun cdv A outer s H vs Q E hr h => ?_)
  · obtain ⟨v, pl, ps, rfl, _⟩ := h
    rfl
  obtain ⟨v, pl, ps, rfl, hpl, hlp, h⟩ := h
  refine ⟨_, pss_cons (ps_if (pt_not (pt_val (pe_callB call_isi (by rfl) zI (by rfl) (pa_cons (pv 0) (pa_cons (pe_bltn rfl zD (by rfl) (show RelV (.ty "dict") (.type "dict") from rfl)) pa_nil)))))
      (pss_one (ps_ret pe_bl)) pss_nil)
    (pss_cons (ps_set (i := 2) scWalks.nd rfl (Or.inr rfl) (pe_dc (own := [("place", 4)]) (g := gName 4) (tt := tYes) rfl scWalks.nd (pi_list (pv 1)) (blkOk_by (own := [("place", 4)]) (N := ["walks", "places", "known", "pair", "place", "mid"]) (sc := defScope sWalks) (by decide +kernel))
        (fun _ _ _ _ _ => pg_name (i := 4) scWalks.nd rfl (Or.inl rfl)) (fun _ _ _ _ _ => pts_nil) (fun _ _ _ _ _ => pv 4) (fun _ _ _ _ _ => pe_bl)))
    (pss_cons (ps_lock (ps_for PassesOwn.never rfl (pi_keys (pv 0)) (pg_name (i := 3) scWalks.nd rfl (.inl rfl))
        (pss_cons (ps_if (PW.pt (pw_or (pt_not (pt_val (pe_cal (E := E0) CP hr rfl (pa_cons (pv 3) pa_nil))))
              (pw_or (pt_not (pt_val (pe_cal (E := E0) CN hr rfl (pa_cons (pe_ix (r := rIxT K) ix_tup (pv 3) pe_int (fun _ _ => rfl)) pa_nil))))
              (pw_or (pt_not (pt_val (pe_cal (E := E0) CN hr rfl (pa_cons (pe_ix (r := rIxT K) ix_tup (pv 3) pe_int (fun _ _ => rfl)) pa_nil))))
              (pw_or1 (pt_cmpR op_eq (pe_ix (r := rIxT K) ix_tup (pv 3) pe_int (fun _ _ => rfl)) (pe_ix (r := rIxT K) ix_tup (pv 3) pe_int (fun _ _ => rfl)) (nomark _)))))))
            (pss_one (ps_ret pe_bl)) pss_nil)
        (pss_cons (ps_if (pt_not (pt_val (pe_cal (E := E0) CB hr rfl (pa_cons (pe_dget (hu_of hr) (pv 0) (pv 3) (fun _ _ => rfl)) (pa_cons pe_int (pa_cons (pe_glob rfl gL (show RelV (.int (10 ^ 30)) (.int (10 ^ 30) tL) from ⟨tL, rfl⟩)) pa_nil))))))
            (pss_one (ps_ret pe_bl)) pss_nil)
        (pss_cons (ps_dput (hu_of hr) (pv 2) (pe_ix (r := rIxT K) ix_tup (pv 3) pe_int (fun _ _ => rfl)) pe_bl rfl)
        (pss_one (ps_dput (hu_of hr) (pv 2) (pe_ix (r := rIxT K) ix_tup (pv 3) pe_int (fun _ _ => rfl)) pe_bl rfl)))))))
    (pss_one (ps_ret (pe_lock (pe_lock (pe_callB (cr_all rfl) (by rfl) zA (by decide +kernel) (pa_cons (pe_lc2 (own := [("pair", 3), ("mid", 5)]) (vs1 := [5]) (g := gName 3) (g1 := gName 5) (tt := tYes) (tt1 := tYes) rfl scWalks.nd (pi_keys (pv 0))
        (blkOk_by (own := [("pair", 3), ("mid", 5)]) (N := ["walks", "places", "known", "pair", "place", "mid"]) (sc := defScope sWalks) (by decide +kernel)) (by decide) (fun _ _ _ _ _ => pg_name (i := 3) scWalks.nd rfl (Or.inl rfl)) (fun _ _ _ _ _ => pts_nil) (fun _ _ _ _ _ => pi_keys (pv 2))
        (fun _ _ _ _ _ => pg_name (i := 5) scWalks.nd rfl (Or.inl rfl)) (fun _ _ _ _ _ => pts_nil) (fun _ _ _ _ _ => pe_cal (E := E0) CS (Room.mono hr (by decide)) rfl (pa_cons (pv 0) (pa_cons (pv 3) (pa_cons (pv 5) pa_nil))) (Nat.le_refl _))) pa_nil)))))))), ?_⟩
  rcases h with ⟨t, ty, hk, k⟩ | ⟨a, z, x, rfl, ha, hz, k⟩ | ⟨a, ws, rfl, ha, ok, k⟩
  · exact rd_isiT rfl ty hk ⟨_, rfl, iteT (k H (Same.refl H))⟩
  · refine rd_isiT rfl (.base (.dK ha)) (show kitB "dict" "dict" = some true by decide +kernel) ⟨_, rfl, iteF ?_⟩
    refine ⟨_, rfl, pl, rfl, ⟨_, hpl⟩, fun D hD => rd_known hD (by show 4 < 6; decide) hpl hlp fun kn H1 s1 hk hm hl => ?_⟩
    have n1 : H1 a = some (.dK [(.inr z, x)]) := s1 _ _ ha
    refine ⟨a, _, n1, mut_dK, fun od => ⟨_, rfl, a, od, rfl, .inl ⟨[(.inr z, x)], upd_same, ?_⟩⟩⟩
    refine for_it (walk_keys (kvs := [(.inr z, x)])) (fun i σ H' => i = 0 ∧ σ = [some (.ref a), some (.ref pl), some (.ref D), none, none, none] ∧ H' = upd H1 a (.frz od (.dK [(.inr z, x)]))) ⟨rfl, rfl, rfl⟩ (fun i σ H' _ p => by rw [p.2.2]; exact upd_same) (fun i x1 σ H0' H' hi p y => ?_) (fun σ H' p => absurd p.1 (by simp))
    obtain ⟨rfl, rfl, rfl⟩ := p
    obtain ⟨rfl, k1, v1, hk1, rfl⟩ := y
    cases hk1
    refine ⟨_, rfl, .str z, .str z, rfl, .base (.str z) rfl, hz, fun H2 s2 => ⟨_, rfl, iteT ⟨s2 _ _ upd_same, k _ fun c o e => ?_⟩⟩⟩
    by_cases ca : c = a
    · subst ca
      rw [ha] at e
      rw [upd_same]
      exact e
    · rw [upd_ne ca]
      refine s2 _ _ ?_
      rw [upd_ne ca]
      exact s1 _ _ e
  · refine rd_isiT rfl (.base (.dT ha)) (show kitB "dict" "dict" = some true by decide +kernel) ⟨_, rfl, iteF ?_⟩
    refine ⟨_, rfl, pl, rfl, ⟨_, hpl⟩, fun D hD => rd_known hD (by show 4 < 6; decide) hpl hlp fun kn H1 s1 hk hm hl => ?_⟩
    have n1 : H1 a = some (.dT (tK ws)) := s1 _ _ ha
    refine ⟨a, _, n1, mut_dT, fun od => ⟨_, rfl, a, od, rfl, .inr ⟨tK ws, upd_same, ?_⟩⟩⟩
    have aD : a ≠ D := ne_of_none ha hD
    have back : ∀ {H' H'' : Hp}, But D (upd H1 a (.frz od (.dT (tK ws)))) H' → Same H' H'' → H'' a = some (.frz od (.dT (tK ws))) ∧ Same H (upd H'' a (.dT (tK ws))) := fun {H' H''} b s => by
      refine ⟨s _ _ (b a _ aD upd_same), fun c o e => ?_⟩
      by_cases ca : c = a
      · subst ca
        rw [ha] at e
        rw [upd_same]
        exact e
      · rw [upd_ne ca]
        refine s _ _ (b c o (ne_of_none e hD) ?_)
        rw [upd_ne ca]
        exact s1 _ _ e
    refine for_it (walk_keysT (kvs := tK ws)) (fun i σ H' => ∃ (x3 : Option V) (kn : List (Key × V)), σ = [some (.ref a), some (.ref pl), some (.ref D), x3, none, none] ∧ But D (upd H1 a (.frz od (.dT (tK ws)))) H' ∧ H' D = some (.dK kn) ∧
      KnM kn (ps ++ namesW (ws.take i)) ∧ kn.length ≤ ps.length + 2 * i ∧ (ws.take i).all pairOk = true) ⟨none, kn, rfl, But.refl, by rw [upd_ne (Ne.symm aD)]; exact hk, by simpa [namesW] using hm, by omega, rfl⟩ (fun i σ H' _ p => ?_) (fun i x σ H0' H' hi p y => ?_) (fun σ H' p => ?_)
    · obtain ⟨x3, kn, rfl, b, _⟩ := p
      exact b a _ aD upd_same
    · obtain ⟨x3, kn, rfl, b, hk, hm, hl, hall⟩ := p
      obtain ⟨e, key, v, q, hkv, rfl, hq⟩ := y
      subst e
      have hi2 : i < ws.length := by rw [tK, List.length_map] at hi; exact hi
      have hw : ws[i]? = some ws[i] := List.getElem?_eq_getElem hi2
      obtain ⟨⟨ks, u⟩, hp⟩ : ∃ p, ws[i] = p := ⟨_, rfl⟩
      rw [hp] at hw
      rw [tK, List.getElem?_map, hw] at hkv
      cases hkv
      have mem : (ks, u) ∈ ws := List.mem_of_getElem? hw
      have fit : ∀ z ∈ ks, z.length ≤ 1000 := ok.fit _ mem
      have hq2 : H' q = some (.tup (ks.map V.str)) := by rw [hq, List.map_map]; rfl
      have no : ∀ H'', Same H' H'' → pairOk (ks, u) = false → H'' a = some (.frz od (.dT (tK ws))) ∧ Q (.bl false) (upd H'' a (.dT (tK ws))) := fun H'' s e => by
        refine ⟨(back b s).1, ?_⟩
        have z := k _ (back b s).2
        have e2 : walksB ws ps = false := by
          have : ws.all pairOk = false := by rw [List.all_eq_false]; exact ⟨_, mem, by rw [e]; exact Bool.false_ne_true⟩
          unfold walksB
          rw [this]
          rfl
        rw [e2] at z
        exact z
      refine ⟨_, rfl, .ref q, .tuple (ks.map .str), rfl, .base (.tup (SqT.of hq2) (dpAll_strs ks)) (noDict_strs ks), (fun z e => by cases e), fun H2 s2 => ⟨_, rfl, ?_⟩⟩
      have ep : pairD (.tuple (ks.map .str)) = decide (ks.length = 2) := by show decide ((ks.map PyData.str).length = 2) = _; rw [List.length_map]
      rw [ep]
      by_cases l2 : ks.length = 2
      · rw [decide_eq_true l2]
        obtain ⟨x, y, rfl⟩ : ∃ x y, ks = [x, y] := by
          match ks, l2 with
          | [x, y], _ => exact ⟨x, y, rfl⟩
        refine iteF ⟨_, rfl, q, _, 0, .str x, rfl, rfl, SqT.of (s2 _ _ hq2), atI_nat (j := 0) rfl, .str x, .str x, rfl, .base (.str x) rfl, (fun z e => by cases e; exact fit x (by simp)), fun H3 s3 => ⟨_, rfl, ?_⟩⟩
        have s3 := s2.trans s3
        by_cases nx : nameS x = true
        · rw [show isNameD (.str x) = true from nx]
          refine iteF ⟨_, rfl, q, _, 1, .str y, rfl, rfl, SqT.of (s3 _ _ hq2), atI_nat (j := 1) rfl, .str y, .str y, rfl, .base (.str y) rfl, (fun z e => by cases e; exact fit y (by simp)), fun H4 s4 => ⟨_, rfl, ?_⟩⟩
          have s4 := s3.trans s4
          by_cases ny : nameS y = true
          · rw [show isNameD (.str y) = true from ny]
            refine iteF ⟨_, rfl, q, _, 0, .str x, rfl, rfl, SqT.of (s4 _ _ hq2), atI_nat (j := 0) rfl, _, rfl, q, _, 1, .str y, rfl, rfl, SqT.of (s4 _ _ hq2), atI_nat (j := 1) rfl, rfl, _, rfl, ?_⟩
            rw [dec_strV]
            by_cases exy : x = y
            · rw [decide_eq_true exy]
              refine iteT (no H4 s4 ?_)
              simp [pairOk, exy]
            · rw [decide_eq_false exy]
              have ha4 : H4 a = some (.frz od (.dT (tK ws))) := s4 _ _ (b a _ aD upd_same)
              have hq4 := s4 _ _ hq2
              have hv : valV ws [x, y] = some u := valV_nodup ok.nd mem
              refine iteF ⟨_, rfl, _, rfl, a, u, rfl, .inr ⟨tK ws, [.inr x, .inr y], q, .inr ⟨od, ha4⟩, rfl, hq4, by rw [← hv, ← valV_tK]; rfl⟩, u, valD u, 0, 10 ^ 30, rfl, valD_dd (ok.val _ mem), _, rfl, ?_⟩
              by_cases bu : betD 0 (10 ^ 30) (valD u) = true
              · rw [bu]
                have hD4 : H4 D = some (.dK kn) := s4 _ _ hk
                have qD : q ≠ D := ne_of hq4 hD4 (by simp)
                refine iteF ⟨_, rfl, _, rfl, q, _, 0, .str x, rfl, rfl, SqT.of hq4, atI_nat (j := 0) rfl, D, _, rfl, DPut.k (k := .inr x) hD4 (by rw [sizeLine_eq]; have := ok.len; omega), ?_⟩
                have hq5 : upd H4 D (.dK (putK kn (.inr x) (.bl true))) q = some (.tup ([x, y].map V.str)) := by rw [upd_ne qD]; exact hq4
                have l5 := putK_len kn (.inr x) (.bl true)
                refine ⟨_, rfl, _, rfl, q, _, 1, .str y, rfl, rfl, SqT.of hq5, atI_nat (j := 1) rfl, D, _, rfl, DPut.k (k := .inr y) upd_same (by rw [sizeLine_eq]; have := ok.len; omega), ?_⟩
                have l6 := putK_len (putK kn (.inr x) (.bl true)) (.inr y) (.bl true)
                have hT : namesW (ws.take (i + 1)) = namesW (ws.take i) ++ [x, y] := by
                  unfold namesW
                  rw [List.take_add_one, hw, List.flatMap_append]
                  rfl
                refine ⟨some (.ref q), _, rfl, fun c o nc e => ?_, upd_same, (hm.put (s := x) (T := ps ++ namesW (ws.take i) ++ [x]) fun z => ?_).put (s := y) fun z => ?_, by omega, ?_⟩
                · rw [upd_ne nc, upd_ne nc]
                  exact s4 _ _ (b c o nc e)
                · rw [List.mem_append, List.mem_singleton]
                  exact or_comm
                · rw [hT]
                  simp only [List.mem_append, List.mem_cons, List.not_mem_nil, or_false]
                  constructor
                  · rintro (h | h | h | h)
                    · exact .inr (.inl (.inl h))
                    · exact .inr (.inl (.inr h))
                    · exact .inr (.inr h)
                    · exact .inl h
                  · rintro (h | (h | h) | h)
                    · exact .inr (.inr (.inr h))
                    · exact .inl h
                    · exact .inr (.inl h)
                    · exact .inr (.inr (.inl h))
                · rw [List.take_add_one, hw, List.all_append, hall]
                  show (true && (pairOk ([x, y], u) && true)) = true
                  rw [pairOk_eq, nx, ny, decide_eq_false exy, bu]
                  rfl
              · rw [Bool.not_eq_true] at bu
                rw [bu]
                exact iteT (no H4 s4 (by rw [pairOk_eq, bu, Bool.and_false, Bool.and_false, Bool.and_false]))
          · rw [Bool.not_eq_true] at ny
            rw [show isNameD (.str y) = false from ny]
            exact iteT (no H4 s4 (by simp [pairOk, ny]))
        · rw [Bool.not_eq_true] at nx
          rw [show isNameD (.str x) = false from nx]
          exact iteT (no H3 s3 (by simp [pairOk, nx]))
      · rw [decide_eq_false l2]
        refine iteT (no H2 s2 ?_)
        unfold pairOk
        split
        · rename_i e; cases e; exact absurd rfl l2
        · rfl
    · obtain ⟨x3, kn, rfl, b, hk, hm, hl, hall⟩ := p
      have el : (tK ws).length = ws.length := by rw [tK, List.length_map]
      rw [el, List.take_length] at hall hm
      rw [el] at hl
      have lw := ok.len
      obtain ⟨ha', sB⟩ := back b (Same.refl _)
      refine ⟨ha', ?_⟩
      generalize hH2 : upd H' a (.dT (tK ws)) = H2 at sB ⊢
      have h2a : H2 a = some (.dT (tK ws)) := by rw [← hH2, upd_same]
      have h2D : H2 D = some (.dK kn) := by rw [← hH2, upd_ne (Ne.symm aD)]; exact hk
      refine ⟨a, _, h2a, mut_dT, fun od1 => ⟨D, .dK kn, by rw [upd_ne (Ne.symm aD)]; exact h2D, mut_dK, fun od2 => ?_⟩⟩
      generalize hHB : upd (upd H2 a (.frz od1 (.dT (tK ws)))) D (.frz od2 (.dK kn)) = HB
      have hBa : HB a = some (.frz od1 (.dT (tK ws))) := by rw [← hHB, upd_ne aD, upd_same]
      have hBD : HB D = some (.frz od2 (.dK kn)) := by rw [← hHB, upd_same]
      have iw : IntW ws := fun p hp => by
        have z := List.all_eq_true.mp hall p hp
        exact pairOk_int z
      refine ⟨_, rfl, a, od1, rfl, .inr ⟨tK ws, hBa, fun C hC => lc2_it (walk_keysT (kvs := tK ws)) (fun i H' => Same HB H' ∧ ∃ bs : List Bool, H' C = some (.lst (bs.map V.bl)) ∧ bs.length = i * kn.length ∧ bs.all id = (ws.take i).all fun p => kn.all fun q => gk ws p q.1)
        ⟨same_new hC, [], upd_same, by simp, rfl⟩ (fun i H' _ p => p.1 _ _ hBa) (fun i x H0' H' hi p y => ?_) (fun H' p => ?_)⟩⟩
      · obtain ⟨sH, bs, hbs, hbl, hba⟩ := p
        obtain ⟨e, key, v, q, hkv, rfl, hq⟩ := y
        subst e
        have hi2 : i < ws.length := by rw [el] at hi; exact hi
        have hw : ws[i]? = some ws[i] := List.getElem?_eq_getElem hi2
        obtain ⟨⟨ks, u⟩, hp⟩ : ∃ p, ws[i] = p := ⟨_, rfl⟩
        rw [hp] at hw
        rw [tK, List.getElem?_map, hw] at hkv
        cases hkv
        have mem : (ks, u) ∈ ws := List.mem_of_getElem? hw
        obtain ⟨x, y, rfl⟩ : ∃ x y, ks = [x, y] := pairOk_two (List.all_eq_true.mp hall _ mem)
        have hq2 : H' q = some (.tup [.str x, .str y]) := by rw [hq, List.map_map]; rfl
        have hv : valV ws [x, y] = some u := valV_nodup ok.nd mem
        have aC : a ≠ C := ne_of_none hBa hC
        have DC : D ≠ C := ne_of_none hBD hC
        have qC : q ≠ C := ne_of hq2 hbs (by simp)
        refine ⟨rfl, tyes ⟨_, rfl, D, od2, rfl, .inl ⟨kn, sH _ _ hBD, in_it (walk_keys (kvs := kn)) (fun j H'' => But C H' H'' ∧ ∃ bs : List Bool, H'' C = some (.lst (bs.map V.bl)) ∧ bs.length = i * kn.length + j ∧
          bs.all id = (((ws.take i).all fun p => kn.all fun q => gk ws p q.1) && (kn.take j).all fun q => gk ws ([x, y], u) q.1)) ⟨But.refl, bs, hbs, hbl, by rw [hba]; simp⟩ (fun j H'' _ p => p.1 _ _ DC (sH _ _ hBD)) (fun j x1 H0'' H'' hj p y1 => ?_) (fun H'' p => ?_)⟩⟩⟩
        · obtain ⟨b1, bs1, hbs1, hbl1, hba1⟩ := p
          obtain ⟨e, k1, v1, hk1, rfl⟩ := y1
          subst e
          obtain ⟨m, _, rfl⟩ := hm.of (List.mem_of_getElem? hk1)
          refine ⟨rfl, tyes ⟨_, rfl, _, rfl, _, rfl, a, q, ws, x, y, m, rfl, .inr ⟨od1, b1 _ _ aC (sH _ _ hBa)⟩, b1 _ _ qC hq2, iw, by rw [hv]; rfl, fun H3 s3 => ⟨_, s3 _ _ hbs1, ?_, ?_, bs1 ++ [gk ws ([x, y], u) (.inr m)], ?_, ?_, ?_⟩⟩⟩
          · rw [List.length_map, hbl1, sizeLine_eq]
            have h3 : i * kn.length ≤ 100 * 300 := Nat.mul_le_mul (by omega) (by omega)
            omega
          · intro c o nc e
            rw [upd_ne nc]
            exact s3 _ _ (b1 c o nc e)
          · rw [upd_same, List.map_append]
            rfl
          · rw [List.length_append, hbl1]
            rfl
          · rw [List.all_append, hba1, List.take_add_one, hk1, List.all_append, Bool.and_assoc]
            simp
        · obtain ⟨b1, bs1, hbs1, hbl1, hba1⟩ := p
          refine ⟨fun c o e => b1 c o (ne_of_none e hC) (sH c o e), bs1, hbs1, by rw [hbl1, Nat.add_mul, Nat.one_mul], ?_⟩
          rw [hba1, List.take_length, List.take_add_one, hw, List.all_append]
          simp
      · obtain ⟨sH, bs, hbs, hbl, hba⟩ := p
        have hDD := sH _ _ hBD
        have hAA := sH _ _ hBa
        refine ⟨C, bs, rfl, SqL.of hbs, ?_⟩
        refine ⟨hDD, by rw [upd_ne aD]; exact hAA, ?_⟩
        have sF : Same H (upd (upd H' D (.dK kn)) a (.dT (tK ws))) := fun c o e => by
          by_cases ca : c = a
          · subst ca
            rw [ha] at e
            rw [upd_same]
            exact e
          · rw [upd_ne ca]
            have cD := ne_of_none e hD
            rw [upd_ne cD]
            refine sH _ _ ?_
            rw [← hHB, upd_ne cD, upd_ne ca]
            exact sB _ _ e
        have z := k _ sF
        have ez : walksB ws ps = bs.all id := by
          rw [hba, el, List.take_length]
          unfold walksB
          rw [hall, Bool.true_and]
          refine all_congr fun p hp => ?_
          obtain ⟨ks, u⟩ := p
          obtain ⟨x, y, rfl⟩ := pairOk_two (List.all_eq_true.mp hall _ hp)
          exact (hm.all fun m => decide (wk ws x y ≤ wk ws x m + wk ws m y)).symm
        rw [ez] at z
        exact z
end
end K4
namespace K4
open PySem PySem.Spec PyProof.Rows L2 DW
abbrev sNeedN : Stmt := top 27
section
variable {P : Program} {w : World} {K : PySem.W.Frag} {mg : Str → Option Value} {base : Heap}
def numD (d : PyData) : Bool := betD 0 (10 ^ 40 - 1) d
def spNeedN (K : PySem.W.Frag) (C : Addr) : Sp := fun vs H Q E => ∃ v d, vs = [v] ∧ Cp H v d ∧ Fit d ∧ (numD d = true → ∀ H', Same H H' → Q .non H') ∧
  (numD d = false → Tellable d ∧ ∀ (H' : Hp) (dx : Addr) (v' : V), Same H H' → H' dx = some (.xd [("given", v')]) → Cp H' v' d → E (.ref C) (some dx) H')
theorem scNeedN : FnScope ["value"] ["value"] (defScope sNeedN) := ⟨rfl, rfl, rfl, by decide +kernel, rfl, by decide +kernel, by decide +kernel⟩
theorem ok_needN {f fI fN C : Addr} {fd dI dN : FuncData} (F : Fun K "_need_number" "_need_number" sNeedN f fd) (CI : Cal P w K mg base 2 "is_integer" ["value"] (spJ K (betD (1 - 10 ^ 40) (10 ^ 40 - 1))) fI dI)
    (o : OwG P w K mg base "InvalidNumber" "given" "RuntimeError.__new__" "RuntimeError" "RuntimeError" C fN dN) : FnGX P w K mg base (L2.CX P w) 7 f fd ["value"] (spNeedN K C) := by
  refine fngx F scNeedN (fun vs H Q E h => ?_) (fun cdv A outer s H vs Q E hr hgu h => ?_)
  · obtain ⟨v, d, rfl, _⟩ := h
    rfl
  · obtain ⟨v, d, rfl, hd, ft, k1, k2⟩ := h
    refine ⟨_, pss_one (ps_if (PW.pt (pw_or (pt_not (pt_val (pe_cal (E := E0) CI hr rfl (pa_cons (pv 0) pa_nil)))) (pw_or1 (pt_cmpR op_lt (pv 0) pe_int (nomark _)))))
      (pss_one (ps_raise rfl (takes_of rfl rfl rfl rfl) (pmk_exq rfl (pe_exI PySem.F.excBase_RuntimeError o.q o.hi o.tf o.ex.kC o.g rfl o.G (hr.mono (by decide)) hgu o.b (pv 0))))) pss_nil), ?_⟩
    refine ⟨v, rfl, v, d, rfl, hd.dd, ft, fun H1 s1 => ⟨_, rfl, ?_⟩⟩
    have bad : numD d = false → ∀ {D : Ends}, D.rt = Q → tExI C (spIni C "given") (tVar 0) (L2.start ["value"] [v]) H1 fun x H2 => ∃ (a C dx t : Addr) (fs : List (Str × V)), x = .ref a ∧ H2 a = some (exq a C (some dx) t) ∧ H2 dx = some (exd dx fs) ∧
        Fr0 (cxOf (L2.CX P w) P w K mg base ["value"] "_need_number" (defScope sNeedN) f cdv A outer s H E).H_0 a ∧ Raises (cxOf (L2.CX P w) P w K mg base ["value"] "_need_number" (defScope sNeedN) f cdv A outer s H E) (.ref C) ∧ E (.ref C) (some dx) (upd (delH H2 a) dx (.xd fs)) := fun q D _ => by
      obtain ⟨tl, k3⟩ := k2 q
      exact rd_owG (fun R r => ⟨v, rfl, r⟩) (hd.keep (Same.keepD s1)) tl (raises_own o.ex.ex o.ty) (fun a n => none_of s1 n) fun H' dx v' s2 hx cv => k3 H' dx v' (Same.trans s1 s2) hx cv
    cases c : betD (1 - 10 ^ 40) (10 ^ 40 - 1) d with
    | false =>
      refine iteT (bad ?_ (D := ⟨fun _ _ => True, Q, fun _ _ => True, fun _ _ => True⟩) rfl)
      cases d with
      | int i =>
        have c : (decide (1 - 10 ^ 40 ≤ i) && decide (i ≤ 10 ^ 40 - 1)) = false := c
        show (decide (0 ≤ i) && decide (i ≤ 10 ^ 40 - 1)) = false
        by_cases h1 : (0 : Int) ≤ i
        · have h2 : (1 - 10 ^ 40 : Int) ≤ i := Int.le_trans (by decide) h1
          rw [decide_eq_true h2] at c
          rw [decide_eq_true h1]
          exact c
        · rw [decide_eq_false h1]
          rfl
      | _ => rfl
    | true =>
      obtain ⟨i, rfl, l1, l2⟩ := betD_int c
      have ev : v = .int i := by
        have z := hd.dd (K := K)
        cases z with
        | base z _ => cases z; rfl
      subst ev
      refine iteF ⟨_, rfl, _, _, rfl, rfl, _, rfl, ?_⟩
      by_cases h1 : i < 0
      · rw [decide_eq_true h1]
        refine iteT (bad ?_ (D := ⟨fun _ _ => True, Q, fun _ _ => True, fun _ _ => True⟩) rfl)
        show (decide (0 ≤ i) && decide (i ≤ 10 ^ 40 - 1)) = false
        rw [decide_eq_false (by omega)]
        rfl
      · rw [decide_eq_false h1]
        refine iteF (k1 ?_ _ s1)
        show (decide (0 ≤ i) && decide (i ≤ 10 ^ 40 - 1)) = true
        rw [decide_eq_true (by omega), decide_eq_true l2]
        rfl
end
end K4
namespace K4
open PySem PySem.Spec PyProof.Rows L2 DW
def mth (i : Nat) : Stmt := (clsBody (top 22)).getD i (.Pass ⟨0, 0, 0, 0⟩)
abbrev sIni : Stmt := mth 0
/-! ### tasks as data -/
abbrev Tk := Int × Int × Str
def taskOf (t : Tk) : PyData := .tuple [.int t.1, .int t.2.1, .str t.2.2]
def placeD : PyData → Str
  | .tuple [_, _, .str z] => z | _ => ""
def placesOf (ds : List PyData) : List Str := ds.map placeD
def walksO : Option Ws → List Str → Bool
  | some ws, ps => walksB ws ps | none, _ => false
def madeD (d : PyData) (wv : Option Ws) : Bool := match d with
  | .tuple ds => decide (ds.length ≤ 60) && (ds.all taskD && walksO wv (placesOf ds)) | _ => false
theorem made_eq {ds : List PyData} {wv : Option Ws} : madeD (.tuple ds) wv = (decide (ds.length ≤ 60) && (ds.all taskD && walksO wv (placesOf ds))) := rfl
theorem taskD_of {d : PyData} (h : taskD d = true) : ∃ t : Tk, d = taskOf t ∧ 0 ≤ t.1 ∧ t.1 < t.2.1 ∧ t.2.1 ≤ 10 ^ 34 ∧ nameS t.2.2 = true := by
  match d, h with
  | .tuple [a, b, c], h =>
    have h : (betD 0 (10 ^ 34) a && (betD 0 (10 ^ 34) b && (ltI a b && isNameD c))) = true := h
    simp only [Bool.and_eq_true] at h
    obtain ⟨i, rfl, i1, i2⟩ := betD_int h.1
    obtain ⟨j, rfl, j1, j2⟩ := betD_int h.2.1
    have l : decide (i < j) = true := h.2.2.1
    match c, h.2.2.2 with
    | .str z, hz => exact ⟨(i, j, z), rfl, i1, of_decide_eq_true l, j2, hz⟩
theorem tasks_of : ∀ {ds : List PyData}, ds.all taskD = true → ∃ ts : List Tk, ds = ts.map taskOf
  | [], _ => ⟨[], rfl⟩
  | d :: ds, h => by
    rw [List.all_cons, Bool.and_eq_true] at h
    obtain ⟨t, e, _⟩ := taskD_of h.1
    obtain ⟨ts, e2⟩ := tasks_of h.2
    exact ⟨t :: ts, by rw [e, e2]; rfl⟩
theorem places_ts (ts : List Tk) : placesOf (ts.map taskOf) = ts.map fun t => t.2.2 := by
  unfold placesOf
  rw [List.map_map]
  rfl
theorem task_at {K : PySem.W.Frag} {H : Hp} {v : V} {t : Tk} (h : Dp K H v (taskOf t)) : ∃ b, v = .ref b ∧ SqT K H b [.int t.1, .int t.2.1, .str t.2.2] := by
  cases h with
  | tup hs ha =>
    obtain ⟨x1, x2, x3, d1, d2, d3, rfl, e, p1, p2, p3⟩ := DpAll.three ha rfl
    cases e
    cases p1
    cases p2
    cases p3
    exact ⟨_, rfl, hs⟩
/-- what is handed in as walks -/
def WalkV (K : PySem.W.Frag) (H : Hp) (v : V) : Option Ws → Prop
  | some ws => (ws = [] ∧ ∃ t, v = .ref t ∧ SqT K H t []) ∨ ∃ a, v = .ref a ∧ H a = some (.dT (tK ws)) ∧ WsOk ws
  | none => (∃ d, Dd K H v d ∧ kitB (tyName d) "dict" = some false ∧ d ≠ .tuple []) ∨
    ∃ (a : Addr) (z : Str) (x : V), v = .ref a ∧ H a = some (.dK [(.inr z, x)]) ∧ Fn 0 (.str z)
/-- .. once () has become {} -/
def ToldV (K : PySem.W.Frag) (H : Hp) (v : V) : Option Ws → Prop
  | some ws => ∃ a, v = .ref a ∧ H a = some (.dT (tK ws)) ∧ WsOk ws
  | none => (∃ d, Dd K H v d ∧ kitB (tyName d) "dict" = some false) ∨ ∃ (a : Addr) (z : Str) (x : V), v = .ref a ∧ H a = some (.dK [(.inr z, x)]) ∧ Fn 0 (.str z)
/-- a crew at x -/
def CrewAt (K : PySem.W.Frag) (C : Addr) (H : Hp) (x : Addr) (ts : List Tk) (ws : Ws) : Prop := ∃ (dx ta wa pa : Addr) (xs : List V) (kt : List (List Key × V)) (kp : List (Key × V)),
  H x = some (.ins C dx [("_tasks", .ref ta), ("_walks", .ref wa), ("_places", .ref pa)]) ∧ SqT K H ta xs ∧ DpAll K H xs (ts.map taskOf) ∧ H wa = some (.dT kt) ∧ (∀ a b, valV kt (kP a b) = valV (tK ws) (kP a b)) ∧
  H pa = some (.dK kp) ∧ KnM kp (ts.map (fun t => t.2.2) ++ namesW ws) ∧ IntW ws ∧ ts.length ≤ 60
def KeepI (H H' : Hp) : Prop := ∀ b o, (∀ C dx fs, o ≠ .ins C dx fs) → H b = some o → H' b = some o
theorem keepI_but {H H' : Hp} {x C dx : Addr} {fs : List (Str × V)} (hx : H x = some (.ins C dx fs)) (b : But x H H') : KeepI H H' := fun c o n e => b c o (fun z => by rw [z, hx] at e; cases e; exact n _ _ _ rfl) e
theorem sqT_keepI {K : PySem.W.Frag} {H H' : Hp} {a : Addr} {xs : List V} (s : KeepI H H') (h : SqT K H a xs) : SqT K H' a xs := by
  rcases h with (e | ⟨o, e⟩) | h
  · exact .inl (.inl (s _ _ (by simp) e))
  · exact .inl (.inr ⟨o, s _ _ (by simp) e⟩)
  · exact .inr h
theorem sqL_keepI {K : PySem.W.Frag} {H H' : Hp} {a : Addr} {xs : List V} (s : KeepI H H') (h : SqL K H a xs) : SqL K H' a xs := by
  rcases h with (e | ⟨o, e⟩) | h
  · exact .inl (.inl (s _ _ (by simp) e))
  · exact .inl (.inr ⟨o, s _ _ (by simp) e⟩)
  · exact .inr h
mutual
theorem Dp.keepI {K : PySem.W.Frag} {H H' : Hp} (s : KeepI H H') : ∀ {v : V} {d : PyData}, Dp K H v d → Dp K H' v d
  | _, _, .non => .non
  | _, _, .bl b => .bl b
  | _, _, .int i => .int i
  | _, _, .str x => .str x
  | _, _, .lst h a => .lst (sqL_keepI s h) (DpAll.keepI s a)
  | _, _, .tup h a => .tup (sqT_keepI s h) (DpAll.keepI s a)
theorem DpAll.keepI {K : PySem.W.Frag} {H H' : Hp} (s : KeepI H H') : ∀ {vs : List V} {ds : List PyData}, DpAll K H vs ds → DpAll K H' vs ds
  | _, _, .nil => .nil
  | _, _, .cons a b => .cons (Dp.keepI s a) (DpAll.keepI s b)
end
theorem valV_some_of {κ : Type} [DecidableEq κ] {kvs : List (κ × V)} {k : κ} (h : k ∈ kvs.map (·.1)) : ∃ v, valV kvs k = some v := by
  obtain ⟨p, hp, e⟩ := List.mem_map.mp h
  have q : (kvs.any fun kv => decide (kv.1 = k)) = true := List.any_eq_true.mpr ⟨p, hp, decide_eq_true e⟩
  rw [valV_any] at q
  cases z : valV kvs k with
  | none => rw [z] at q; cases q
  | some v => exact ⟨v, rfl⟩
/-- {place: True for _, _, place in tasks} -/
theorem rd_placesD {K : PySem.W.Frag} {s0 s1 s2 s3 s4 s5 s6 s7 s8 s9 : Option V} {ta D : Addr} {xs : List V} {ts : List Tk} {H : Hp} {Qd : Hp → Prop} (ha : SqT K H ta xs) (hp : DpAll K H xs (ts.map taskOf)) (hl : ts.length ≤ 60) (hD : H D = none)
    (k : ∀ kn H', Same H H' → H' D = some (.dK kn) → KnM kn (ts.map fun t => t.2.2) → kn.length ≤ 60 → Qd H') :
    ∃ W : Nat → Nat → Hp → Prop, (∃ m, W 0 m (upd H D (.dK []))) ∧ ∀ i m H, W i m H →
      ((Itt K ta).stop i H ∧ Qd H) ∨ ((Itt K ta).go i H ∧ ∃ Nx : Hp → Prop, (∀ H', Nx H' → ∃ m', m' < m ∧ W (i + 1) m' H') ∧ ∀ v H', (Itt K ta).yld i H v H' → gTup K 3 (gCons (gName 7) (gCons (gName 7) (gCons (gName 8) gNil))) v (wipe [s0, s1, s2, s3, s4, s5, s6, s7, s8, s9] [7, 8]) H' fun σ2 H2 => wipe σ2 [7, 8] = wipe [s0, s1, s2, s3, s4, s5, s6, s7, s8, s9] [7, 8] ∧ tYes σ2 H2 fun b H3 =>
        if b = true then tVar 8 σ2 H3 fun y H4 => tC (.bl true) σ2 H4 fun z H5 => ∃ kvs k, y = kV k ∧ H5 D = some (.dK kvs) ∧ kvs.length < sizeLine ∧ Nx (upd H5 D (.dK (putK kvs k z))) else Nx H3) := by
  have el : xs.length = ts.length := by rw [DpAll.length hp, List.length_map]
  refine dc_it (walk_tup (xs := xs)) (fun n H' => Same H H' ∧ ∃ kn, H' D = some (.dK kn) ∧ KnM kn ((ts.take n).map fun t => t.2.2) ∧ kn.length ≤ n) ⟨same_new hD, [], upd_same, KnM.nil, Nat.le_refl _⟩ (fun n H' _ p => sqT_same p.1 ha) (fun n x H1 H2 hn p y => ?_) (fun H' p => ?_)
  · obtain ⟨e, hx⟩ := y
    subst e
    obtain ⟨z1, kn, hk, hm, hl2⟩ := p
    obtain ⟨d, hd, hr⟩ := DpAll.at hp hx
    rw [List.getElem?_map] at hd
    obtain ⟨t, ht, rfl⟩ := Option.map_eq_some_iff.mp hd
    obtain ⟨b, rfl, hb⟩ := task_at (Dp.same z1 hr)
    refine ⟨b, _, rfl, hb, rfl, _, _, rfl, _, _, rfl, _, _, rfl, rfl, rfl, tyes ⟨_, rfl, kn, .inr t.2.2, rfl, hk, by rw [sizeLine_eq]; omega, same_mut z1 hD, _, upd_same, ?_, Nat.le_trans (putK_len _ _ _) (by omega)⟩⟩
    refine hm.put fun z => ?_
    rw [takeSucc ht, List.map_append, List.mem_append]
    exact ⟨fun h => h.elim .inr fun h => .inl (List.mem_singleton.mp h), fun h => h.elim (fun h => .inr (List.mem_singleton.mpr h)) .inl⟩
  · obtain ⟨z1, kn, hk, hm, hl2⟩ := p
    rw [el, List.take_length] at hm
    exact k kn H' z1 hk hm (by omega)
theorem tyx_tup {K : PySem.W.Frag} {H : Hp} {a : Addr} {xs : List V} (h : SqT K H a xs) : TyX K H (.ref a) (.type "tuple") := by
  rcases h with (e | ⟨o, e⟩) | ⟨o, its, n, e, c, _⟩
  · exact .base (.tup e)
  · exact .fTuple e
  · exact .kTuple e c
def kb (b : Addr × Str × Str) : List Key := kP b.2.1 b.2.2
theorem ws_nil : WsOk [] := ⟨List.nodup_nil, (fun p h => by cases h), (fun p h => by cases h), Nat.zero_le _⟩
section
variable {P : Program} {w : World} {K : PySem.W.Frag} {mg : Str → Option Value} {base : Heap}
theorem scIni : FnScope ["self", "tasks", "walks", "told", "one", "other", "task", "_", "place", "pair"] ["self", "tasks", "walks"] (defScope sIni) := ⟨rfl, rfl, rfl, by decide +kernel, rfl, by decide +kernel, by decide +kernel⟩
def spMade (K : PySem.W.Frag) (C CD : Addr) : Sp := fun vs H Q E => ∃ (x dx : Addr) (vt vw : V) (d : PyData) (wv : Option Ws), vs = [.ref x, vt, vw] ∧ H x = some (.ins C dx []) ∧ Dd K H vt d ∧ Fn 2 d ∧ WalkV K H vw wv ∧
  (madeD d wv = false → ∀ H', Same H H' → E (.ref CD) none H') ∧
  (∀ ts ws, d = .tuple (ts.map taskOf) → wv = some ws → madeD d wv = true → ∀ H', But x H H' → CrewAt K C H' x ts ws → Q .non H')
/-- all([f(x) for x in t]) -/
theorem rd_allTi {f : PyData → Bool} {n i j : Nat} {a : Addr} {xs : List V} {ds : List PyData} {H : Hp} {σ : L2.St} {sp : Sp} {Q : VK} (hi : σ[i]? = some (some (.ref a))) (hj : j < σ.length) (ha : SqT K H a xs) (hp : DpAll K H xs ds) (hn : ∀ x ∈ ds, x.hasDict = false) (hf : ∀ x ∈ ds, Fn n x) (hl : ds.length ≤ 1000)
    (call : ∀ (v : V) (d : PyData) (H1 : Hp) (R : VK), Dd K H1 v d → Fn n d → (∀ H2, Same H1 H2 → R (.bl (f d)) H2) → sp [v] H1 R E0) (k : ∀ H', Same H H' → Q (.bl (ds.all f)) H') :
    tCB (rAll K) (tCons (tLc (iTup K (tVar i)) (gName j) tYes (tCall sp [] E0 (tCons (tVar j) tNil)) [j]) tNil) σ H Q := by
  refine ⟨_, hi, a, rfl, ⟨xs, ha⟩, fun D hD => lc_tup (K := K) (xs := xs) (fun i H' => Same H H' ∧ H' D = some (.lst (((ds.take i).map f).map V.bl))) ⟨same_new hD, upd_same⟩ (fun i H' _ p => sqT_same p.1 ha)
    (fun i x H' hx p => ⟨by simp [gName, wipe], tyes ⟨_, (by simp [gName, wipe, hj]; rfl), ?_⟩⟩) (fun H' p => ?_)⟩
  · obtain ⟨s1, hy⟩ := p
    obtain ⟨d, hd, hr⟩ := DpAll.at hp hx
    have hm : d ∈ ds := List.mem_of_getElem? hd
    refine call x d H' _ (.base (Dp.same s1 hr) (hn d hm)) (hf d hm) fun H2 s2 => ⟨_, s2 _ _ hy, ?_, same_mut (s1.trans s2) hD, ?_⟩
    · rw [List.length_map, List.length_map, List.length_take, sizeLine_eq]
      omega
    · rw [upd_same, takeSucc hd]
      simp
  · obtain ⟨s1, hy⟩ := p
    rw [DpAll.length hp, List.take_length] at hy
    refine fin_all hy ?_
    rw [List.all_map]
    exact k H' s1
/-- [place for _, _, place in tasks] -/
theorem rd_places {s0 s1 s2 s3 s4 s5 s6 s7 s8 s9 : Option V} {ta D : Addr} {xs : List V} {ts : List Tk} {H : Hp} {Qd : Hp → Prop} (ha : SqT K H ta xs) (hp : DpAll K H xs (ts.map taskOf)) (hl : ts.length ≤ 60) (hD : H D = none)
    (k : ∀ H', Same H H' → H' D = some (.lst ((ts.map fun t => t.2.2).map V.str)) → Qd H') :
    ∃ W : Nat → Nat → Hp → Prop, (∃ m, W 0 m (upd H D (.lst []))) ∧ ∀ i m H, W i m H →
      ((Itt K ta).stop i H ∧ Qd H) ∨ ((Itt K ta).go i H ∧ ∃ Nx : Hp → Prop, (∀ H', Nx H' → ∃ m', m' < m ∧ W (i + 1) m' H') ∧ ∀ v H', (Itt K ta).yld i H v H' → gTup K 3 (gCons (gName 7) (gCons (gName 7) (gCons (gName 8) gNil))) v (wipe [s0, s1, s2, s3, s4, s5, s6, s7, s8, s9] [7, 8]) H' fun σ2 H2 => wipe σ2 [7, 8] = wipe [s0, s1, s2, s3, s4, s5, s6, s7, s8, s9] [7, 8] ∧ tYes σ2 H2 fun b H3 =>
        if b = true then tVar 8 σ2 H3 fun y H4 => ∃ acc, H4 D = some (.lst acc) ∧ acc.length < sizeLine ∧ Nx (upd H4 D (.lst (acc ++ [y]))) else Nx H3) := by
  refine lc_tup (K := K) (xs := xs) (fun i H' => Same H H' ∧ H' D = some (.lst (((ts.take i).map fun t => t.2.2).map V.str))) ⟨same_new hD, upd_same⟩ (fun i H' _ p => sqT_same p.1 ha) (fun i x H' hx p => ?_) (fun H' p => ?_)
  · obtain ⟨z1, hy⟩ := p
    obtain ⟨d, hd, hr⟩ := DpAll.at hp hx
    rw [List.getElem?_map] at hd
    obtain ⟨t, ht, rfl⟩ := Option.map_eq_some_iff.mp hd
    obtain ⟨b, rfl, hb⟩ := task_at (Dp.same z1 hr)
    refine ⟨b, _, rfl, hb, rfl, _, _, rfl, _, _, rfl, _, _, rfl, rfl, rfl, tyes ⟨_, rfl, _, hy, ?_, same_mut z1 hD, ?_⟩⟩
    · rw [List.length_map, List.length_map, List.length_take, sizeLine_eq]
      omega
    · rw [upd_same, takeSucc ht]
      simp
  · obtain ⟨z1, hy⟩ := p
    have e : xs.length = ts.length := by rw [DpAll.length hp, List.length_map]
    rw [e, List.take_length] at hy
    exact k H' z1 hy
theorem ok_init {f fT fW C CD : Addr} {fd dT dW : FuncData} {kws : List (Str × V)} (F : FunD K "__init__" "Crew.__init__" (defArgs sIni) (defBody sIni) (defScope sIni) [] kws f fd) (CT : Cal P w K mg base 3 "_is_task" ["value"] (spJn K 1 taskD) fT dT)
    (CW : Cal P w K mg base 2 "_are_walks" ["walks", "places"] (spWalks K) fW dW) (o : Pl K mg "InvalidDay" CD) {tM : Addr} (gM : mg "MAX_TASKS" = some (.int 60 tM)) (cC : Cls K C) (nT : NoAttr K C "_tasks") (nW : NoAttr K C "_walks") (nP : NoAttr K C "_places")
    (zI : mg "isinstance" = none) (zT : mg "tuple" = none) (zL : mg "len" = none) (zA : mg "all" = none) (zS : mg "sorted" = none) : FnOk P w K mg base (L2.CX P w) 4 f fd ["self", "tasks", "walks"] (spMade K C CD) := by
  refine F.ok scIni (fun vs H Q E h => ?_) (fun cdv A outer s H vs Q E hr h => ?_)
  · obtain ⟨x, dx, vt, vw, d, wv, rfl, _⟩ := h
    rfl
  obtain ⟨x, dx, vt, vw, d, wv, rfl, hx, hd, hf, hw, kE, kQ⟩ := h
  refine ⟨_, pss_cons (ps_if (PW.pt (pw_or (pt_not (pt_val (pe_callB call_isi (by rfl) zI (by rfl) (pa_cons (pv 1) (pa_cons (pe_bltn rfl zT (by rfl) (show RelV (.ty "tuple") (.type "tuple") from rfl)) pa_nil)))))
        (pw_or (pt_cmpR op_gt (pe_callB call_len_seq (by rfl) zL PySem.boot_len (pa_cons (pv 1) pa_nil)) (pe_glob rfl gM (show RelV (.int 60) (.int 60 tM) from ⟨tM, rfl⟩)) (nomark _))
        (pw_or1 (pt_not (pt_val (pe_callB (cr_all rfl) (by rfl) zA (by decide +kernel) (pa_cons (pe_lc (own := [("task", 6)]) (g := gName 6) (tt := tYes) rfl scIni.nd (pi_tup (pv 1)) (blkOk_by (own := [("task", 6)]) (N := ["self", "tasks", "walks", "told", "one", "other", "task", "_", "place", "pair"]) (sc := defScope sIni) (by decide +kernel))
          (fun _ _ _ _ _ => pg_name (i := 6) scIni.nd rfl (Or.inl rfl)) (fun _ _ _ _ _ => pts_nil) (fun _ _ _ _ _ => pe_cal (E := E0) CT (Room.mono hr (by decide)) rfl (pa_cons (pv 6) pa_nil) (Nat.le_refl _))) pa_nil))))))))
      (pss_one (ps_raise rfl (takes_of rfl rfl rfl rfl) (pmk_exq0 rfl (pe_exP PySem.F.excBase_ValueError o.q o.hi o.ex.kC o.g rfl pe_str)))) pss_nil)
    (C8.pss_cut (ps_set (i := 3) scIni.nd rfl (Or.inr rfl) (pe_ifExp (PW.pt (pw_and (pt_val (pe_callB call_isi (by rfl) zI (by rfl) (pa_cons (pv 2) (pa_cons (pe_bltn rfl zT (by rfl) (show RelV (.ty "tuple") (.type "tuple") from rfl)) pa_nil))))
        (pw_and1 (pt_cmpR op_eq (pe_callB call_len_seq (by rfl) zL PySem.boot_len (pa_cons (pv 2) pa_nil)) pe_int (nomark _))))) pe_dnewT (pv 2)))
    (pss_cons (ps_if (pt_not (pt_val (pe_cal (E := E) CW hr rfl (pa_cons (pv 3) (pa_cons (pe_lc (own := [("_", 7), ("place", 8)]) (g := gTup K 3 (gCons (gName 7) (gCons (gName 7) (gCons (gName 8) gNil)))) (tt := tYes) rfl scIni.nd (pi_tup (pv 1)) (blkOk_by (own := [("_", 7), ("place", 8)]) (N := ["self", "tasks", "walks", "told", "one", "other", "task", "_", "place", "pair"]) (sc := defScope sIni) (by decide +kernel))
          (fun _ _ _ _ _ => pg_tup rfl (pgs_cons (pg_name (i := 7) scIni.nd rfl (Or.inl rfl)) (pgs_cons (pg_name (i := 7) scIni.nd rfl (Or.inl rfl)) (pgs_cons (pg_name (i := 8) scIni.nd rfl (Or.inl rfl)) pgs_nil)))) (fun _ _ _ _ _ => pts_nil) (fun _ _ _ _ _ => pv 8)) pa_nil)))))
      (pss_one (ps_raise rfl (takes_of rfl rfl rfl rfl) (pmk_exq0 rfl (pe_exP PySem.F.excBase_ValueError o.q o.hi o.ex.kC o.g rfl pe_str)))) pss_nil)
    (pss_cons (ps_fld (pv 0) (pv 1) rfl)
    (pss_cons (ps_fld (pv 0) (pe_dcT (hu_of hr) rfl scIni.nd (own := [("pair", 9)]) (g := gName 9) (tt := tYes) (pi_list (pe_callB (cr_sortKeys rfl hr.units) (by rfl) zS (by decide +kernel) (pa_cons (pv 3) pa_nil))) (blkOk_by (own := [("pair", 9)]) (N := ["self", "tasks", "walks", "told", "one", "other", "task", "_", "place", "pair"]) (sc := defScope sIni) (by decide +kernel))
          (fun _ _ _ _ _ => pg_name (i := 9) scIni.nd rfl (Or.inl rfl)) (fun _ _ _ _ _ => pts_nil) (fun _ _ _ _ _ => pv 9) (fun _ _ _ _ _ => pe_dget (hu_of hr) (pv 3) (pv 9) (fun _ _ => rfl))) rfl)
    (pss_cons (ps_fld (pv 0) (pe_dc (own := [("_", 7), ("place", 8)]) (g := gTup K 3 (gCons (gName 7) (gCons (gName 7) (gCons (gName 8) gNil)))) (tt := tYes) rfl scIni.nd (pi_tup (pv 1)) (blkOk_by (own := [("_", 7), ("place", 8)]) (N := ["self", "tasks", "walks", "told", "one", "other", "task", "_", "place", "pair"]) (sc := defScope sIni) (by decide +kernel))
          (fun _ _ _ _ _ => pg_tup rfl (pgs_cons (pg_name (i := 7) scIni.nd rfl (Or.inl rfl)) (pgs_cons (pg_name (i := 7) scIni.nd rfl (Or.inl rfl)) (pgs_cons (pg_name (i := 8) scIni.nd rfl (Or.inl rfl)) pgs_nil)))) (fun _ _ _ _ _ => pts_nil) (fun _ _ _ _ _ => pv 8) (fun _ _ _ _ _ => pe_bl)) rfl)
    (PSs.nox (pss_one (ps_lock (ps_for PassesOwn.never rfl (pi_keys (pv 3)) (pg_tup rfl (pgs_cons (pg_name (i := 4) scIni.nd rfl (.inl rfl)) (pgs_cons (pg_name (i := 5) scIni.nd rfl (.inl rfl)) pgs_nil)))
      (pss_cons (ps_dput (hu_of hr) (pe_fld (pv 0) rfl) (pv 4) pe_bl rfl)
      (pss_one (ps_dput (hu_of hr) (pe_fld (pv 0) rfl) (pv 5) pe_bl rfl)))))))))))), ?_⟩
  have bad : ∀ H', Same H H' → madeD d wv = false → ∀ {σ : L2.St} {m : Str}, tExP CD (tC (.str m)) σ H' fun x H1 => ∃ (a C t : Addr), x = .ref a ∧ H1 a = some (exq a C none t) ∧ Fr0 (cxOf (L2.CX P w) P w K mg base ["self", "tasks", "walks", "told", "one", "other", "task", "_", "place", "pair"] "Crew.__init__" (defScope sIni) f cdv A outer s H E).H_0 a ∧
      Raises (cxOf (L2.CX P w) P w K mg base ["self", "tasks", "walks", "told", "one", "other", "task", "_", "place", "pair"] "Crew.__init__" (defScope sIni) f cdv A outer s H E) (.ref C) ∧ E (.ref C) none (delH H1 a) := fun H' s1 e {σ m} =>
    rd_pl (raises_own o.ex.ex o.ty) (fun a n => none_of s1 n) fun H2 s2 => kE e _ (Same.trans s1 s2)
  refine rd_isi rfl hd (kit_tup d) ⟨_, rfl, ?_⟩
  match d, hd, hf, kE, kQ, bad with
  | .tuple ds, hd, hf, kE, kQ, bad =>
    obtain ⟨ta, xs, rfl, hs, hp, hnd⟩ := hd.tup_inv
    obtain ⟨hl1, hf1⟩ := hf.2 _ rfl
    refine iteF ⟨_, rfl, ta, xs, rfl, .inr hs, _, _, rfl, rfl, _, rfl, ?_⟩
    have hlen := DpAll.length hp
    by_cases l60 : (60 : Int) < (xs.length : Nat)
    · rw [decide_eq_true l60]
      refine iteT (bad H (Same.refl H) ?_)
      rw [made_eq, decide_eq_false (by omega)]
      rfl
    · rw [decide_eq_false l60]
      have l61 : ds.length ≤ 60 := by omega
      refine iteF (rd_allTi (K := K) (f := taskD) (n := 1) (i := 1) (j := 6) rfl (by show 6 < 10; decide) hs hp hnd hf1 hl1 (fun v d H1 R hd hf k => ⟨v, d, rfl, hd, hf, k⟩) fun H1 s1 => ⟨_, rfl, ?_⟩)
      by_cases tall : ds.all taskD = true
      · rw [tall]
        obtain ⟨ts, rfl⟩ := tasks_of tall
        refine iteF ⟨fun σ' H' => ∃ tv, σ' = [some (.ref x), some (.ref ta), some vw, some tv, none, none, none, none, none, none] ∧ Same H H' ∧ ToldV K H' tv wv, ?_, ?_⟩
        · match wv, hw with
          | some ws, .inl ⟨e, t, ev, ht⟩ =>
            subst e ev
            exact rd_isiT rfl (tyx_tup (sqT_same s1 ht)) (show kitB "tuple" "tuple" = some true by decide +kernel) ⟨_, rfl, iteT ⟨_, rfl, t, [], rfl, .inr (sqT_same s1 ht), rfl, _, rfl, iteT fun p np => ⟨.ref p, rfl, Same.trans s1 (same_new np), p, rfl, upd_same, ws_nil⟩⟩⟩
          | some ws, .inr ⟨a, ev, ha, ok⟩ =>
            subst ev
            exact rd_isiT rfl (.base (.dT (s1 _ _ ha))) (show kitB "dict" "tuple" = some false by decide +kernel) ⟨_, rfl, iteF (iteF ⟨_, rfl, _, rfl, s1, a, rfl, s1 _ _ ha, ok⟩)⟩
          | none, .inl ⟨dw, hdw, k1, k2⟩ =>
            refine rd_isi rfl (Dd.same s1 hdw) (kit_tup dw) ⟨_, rfl, ?_⟩
            have fin : ∃ tv, [some (V.ref x), some (V.ref ta), some vw, some vw, none, none, none, none, none, none] = [some (V.ref x), some (V.ref ta), some vw, some tv, none, none, none, none, none, none] ∧ Same H H1 ∧ ToldV K H1 tv none := ⟨vw, rfl, s1, .inl ⟨dw, Dd.same s1 hdw, k1⟩⟩
            match dw, hdw, k2 with
            | .tuple es, hdw, k2 =>
              obtain ⟨p, ys, rfl, hs, hp, _⟩ := hdw.tup_inv
              refine iteT ⟨_, rfl, p, ys, rfl, .inr (sqT_same s1 hs), rfl, _, rfl, ?_⟩
              have ne : ¬ (ys.length = 0) := fun e => k2 (by rw [DpAll.length hp] at e; rw [List.length_eq_zero_iff.mp e])
              rw [show V.int 0 = V.int ((0 : Nat) : Int) from rfl, dec_len, decide_eq_false ne]
              exact iteF ⟨_, rfl, fin⟩
            | .none, _, _ => exact iteF (iteF ⟨_, rfl, fin⟩)
            | .bool _, _, _ => exact iteF (iteF ⟨_, rfl, fin⟩)
            | .int _, _, _ => exact iteF (iteF ⟨_, rfl, fin⟩)
            | .str _, _, _ => exact iteF (iteF ⟨_, rfl, fin⟩)
            | .list _, _, _ => exact iteF (iteF ⟨_, rfl, fin⟩)
            | .dict _, _, _ => exact iteF (iteF ⟨_, rfl, fin⟩)
          | none, .inr ⟨a, z, y, ev, ha, hz⟩ =>
            subst ev
            exact rd_isiT rfl (.base (.dK (s1 _ _ ha))) (show kitB "dict" "tuple" = some false by decide +kernel) ⟨_, rfl, iteF (iteF ⟨_, rfl, _, rfl, s1, .inr ⟨a, z, y, rfl, s1 _ _ ha, hz⟩⟩)⟩
        · rintro σ' H2 ⟨tv, rfl, s2, told⟩
          have l62 : ts.length ≤ 60 := by rw [List.length_map] at l61; exact l61
          have hs2 := sqT_same s2 hs
          have hp2 := DpAll.same s2 hp
          refine ⟨_, rfl, _, rfl, ta, rfl, ⟨xs, hs2⟩, fun D hD => rd_places hs2 hp2 l62 hD fun H3 s3 hy => ?_⟩
          have s23 := Same.trans s2 s3
          have wb : madeD (.tuple (ts.map taskOf)) wv = walksO wv (ts.map fun t => t.2.2) := by
            rw [made_eq, decide_eq_true l61, tall, places_ts]
            rfl
          match wv, told, wb, kQ, bad with
          | none, .inl ⟨dw, hdw, k1⟩, wb, kQ, bad =>
            exact ⟨tv, D, _, rfl, SqL.of hy, by rw [List.length_map]; omega, .inl ⟨_, (Dd.same s3 hdw).tyx, k1, fun H4 s4 => ⟨_, rfl, iteT (bad H4 (Same.trans s23 s4) wb)⟩⟩⟩
          | none, .inr ⟨a, z, y, ev, ha, hz⟩, wb, kQ, bad =>
            exact ⟨tv, D, _, rfl, SqL.of hy, by rw [List.length_map]; omega, .inr (.inl ⟨a, z, y, ev, s3 _ _ ha, hz, fun H4 s4 => ⟨_, rfl, iteT (bad H4 (Same.trans s23 s4) wb)⟩⟩)⟩
          | some ws, ⟨a, ev, ha, ok⟩, wb, kQ, bad =>
            refine ⟨tv, D, _, rfl, SqL.of hy, by rw [List.length_map]; omega, .inr (.inr ⟨a, ws, ev, s3 _ _ ha, ok, fun H4 s4 => ⟨_, rfl, ?_⟩⟩)⟩
            have s5 := Same.trans s23 s4
            have wb : madeD (.tuple (ts.map taskOf)) (some ws) = walksB ws (ts.map fun t => t.2.2) := wb
            by_cases wt : walksB ws (ts.map fun t => t.2.2) = true
            · rw [wt]
              rw [wt] at wb
              subst ev
              refine iteF ?_
              have hx4 : H4 x = some (.ins C dx []) := s5 _ _ hx
              have ha4 : H4 a = some (.dT (tK ws)) := s4 _ _ (s3 _ _ ha)
              have hs4 := sqT_same s5 hs
              have hp4 := DpAll.same s5 hp
              have wall : ws.all pairOk = true := by
                unfold walksB at wt
                rw [Bool.and_eq_true] at wt
                exact wt.1
              have two : ∀ p ∈ ws, ∃ x y, p.1 = [x, y] := fun p hp => pairOk_two (u := p.2) (List.all_eq_true.mp wall p hp)
              have iw : IntW ws := fun p hp => pairOk_int (List.all_eq_true.mp wall p hp)
              have ax : a ≠ x := ne_of ha4 hx4 (by simp)
              refine ⟨_, rfl, _, rfl, x, C, dx, [], rfl, hx4, cC, nT, by show 0 < 1000; decide, ?_⟩
              generalize h5 : upd H4 x (HO.ins C dx (putF "_tasks" (V.ref ta) [])) = H5
              have hx5 : H5 x = some (.ins C dx [("_tasks", .ref ta)]) := by rw [← h5]; exact upd_same
              have b5 : But x H4 H5 := by rw [← h5]; exact But.upd
              have ha5 := b5 _ _ ax ha4
              refine ⟨_, rfl, a, tK ws, rfl, .inl ha5, by rw [tK, List.length_map]; have := ok.len; omega, (fun p hp => ?_), fun bs p hperm hbs np => ⟨p, rfl, ⟨_, SqL.of upd_same⟩, fun D5 hD5 => dcT_it (walk_list (xs := bs.map fun b => V.ref b.1)) (fun i H' => Same (upd H5 p (.lst (bs.map fun b => .ref b.1))) H' ∧ ∃ kt, H' D5 = some (.dT kt) ∧ kt.length ≤ i ∧ ∀ k, (k ∈ (bs.take i).map kb → valV kt k = valV (tK ws) k) ∧ (¬ k ∈ (bs.take i).map kb → valV kt k = none))
                ⟨same_new hD5, [], upd_same, Nat.le_refl _, fun k => ⟨(fun m => by cases m), fun _ => rfl⟩⟩ (fun i H' _ q => SqL.of (q.1 _ _ upd_same)) (fun i v H0' H' hi q y => ?_) (fun H6 q => ?_)⟩⟩
              · obtain ⟨⟨ks, u⟩, hm, rfl⟩ := List.mem_map.mp hp
                obtain ⟨x, y, e⟩ := two _ hm
                exact ⟨x, y, by show ks.map Sum.inr = _; rw [show ks = [x, y] from e]; rfl⟩
              · obtain ⟨z6, kt, hk, hl, hv⟩ := q
                obtain ⟨e, hy⟩ := y
                subst e
                rw [List.length_map] at hi
                have hb : bs[i]? = some bs[i] := List.getElem?_eq_getElem hi
                rw [List.getElem?_map, hb] at hy
                cases hy
                have hbm : bs[i] ∈ bs := List.getElem_mem hi
                have key := hbs _ hbm
                have hkey : kb bs[i] ∈ (tK ws).map (·.1) := hperm.subset (List.mem_map.mpr ⟨_, hbm, rfl⟩)
                have bp : bs[i].1 ≠ p := ne_of_none key np
                have h5k : H' bs[i].1 = some (.tup ((kb bs[i]).map kV)) := z6 _ _ (by rw [upd_ne bp]; exact key)
                have ap : a ≠ p := ne_of_none ha5 np
                have h5a : H' a = some (.dT (tK ws)) := z6 _ _ (by rw [upd_ne ap]; exact ha5)
                obtain ⟨u, hu⟩ := valV_some_of hkey
                refine ⟨rfl, tyes ⟨_, rfl, _, rfl, _, rfl, a, u, rfl, .inr ⟨tK ws, kb bs[i], bs[i].1, .inl h5a, rfl, h5k, hu.symm⟩, kt, kb bs[i], bs[i].1, rfl, h5k, hk, ?_, same_mut z6 hD5, _, upd_same, Nat.le_trans (putK_len _ _ _) (by omega), fun k => ?_⟩⟩
                · have e1 : bs.length = (tK ws).length := by have := hperm.length_eq; rw [List.length_map, List.length_map] at this; exact this
                  have e2 : (tK ws).length = ws.length := by rw [tK, List.length_map]
                  have := ok.len
                  rw [sizeLine_eq]
                  omega
                · rw [valV_put, takeSucc hb, List.map_append, List.mem_append]
                  by_cases ek : k = kb bs[i]
                  · subst ek
                    rw [if_pos rfl]
                    exact ⟨fun _ => hu.symm, fun n => absurd (.inr (List.mem_singleton.mpr rfl)) n⟩
                  · rw [if_neg ek]
                    exact ⟨fun m => (hv k).1 (m.elim id fun m => absurd (List.mem_singleton.mp m) ek), fun n => (hv k).2 fun m => n (.inl m)⟩
              · obtain ⟨z6, kt, hk, hl, hv⟩ := q
                rw [List.length_map, List.take_length] at hv
                have xp : x ≠ p := ne_of_none hx5 np
                have hx6 : H6 x = some (.ins C dx [("_tasks", .ref ta)]) := z6 _ _ (by rw [upd_ne xp]; exact hx5)
                have b6 : But x H5 H6 := fun c o _ e => z6 _ _ (by rw [upd_ne (ne_of_none e np)]; exact e)
                refine ⟨_, rfl, x, C, dx, _, rfl, hx6, cC, nW, by show 1 < 1000; decide, ?_⟩
                generalize h7 : upd H6 x (HO.ins C dx (putF "_walks" (V.ref D5) [("_tasks", .ref ta)])) = H7
                have hx7 : H7 x = some (.ins C dx [("_tasks", .ref ta), ("_walks", .ref D5)]) := by rw [← h7]; exact upd_same
                have b7 : But x H4 H7 := (b5.trans b6).trans (by rw [← h7]; exact But.upd)
                have k7 : KeepI H4 H7 := keepI_but hx4 b7
                have hs7 := sqT_keepI k7 hs4
                have hp7 := DpAll.keepI k7 hp4
                have D5x : D5 ≠ x := ne_of hk hx6 (by simp)
                have hD7 : H7 D5 = some (.dT kt) := by rw [← h7, upd_ne D5x]; exact hk
                refine ⟨_, rfl, ta, rfl, ⟨xs, hs7⟩, fun D8 hD8 => rd_placesD hs7 hp7 l62 hD8 fun kn H8 s8 hk8 hm8 hl8 => ?_⟩
                have hx8 := s8 _ _ hx7
                refine ⟨_, rfl, x, C, dx, _, rfl, hx8, cC, nP, by show 2 < 1000; decide, ?_⟩
                generalize h9 : upd H8 x (HO.ins C dx (putF "_places" (V.ref D8) [("_tasks", .ref ta), ("_walks", .ref D5)])) = H9
                have hx9 : H9 x = some (.ins C dx [("_tasks", .ref ta), ("_walks", .ref D5), ("_places", .ref D8)]) := by rw [← h9]; exact upd_same
                have b9 : But x H4 H9 := (b7.trans (Same.but s8)).trans (by rw [← h9]; exact But.upd)
                have D8x : D8 ≠ x := ne_of hk8 hx8 (by simp)
                have hk9 : H9 D8 = some (.dK kn) := by rw [← h9, upd_ne D8x]; exact hk8
                have hD9 : H9 D5 = some (.dT kt) := by rw [← h9, upd_ne D5x]; exact s8 _ _ hD7
                have ha9 : H9 a = some (.dT (tK ws)) := b9 _ _ ax ha4
                have a8 : a ≠ D8 := ne_of ha9 hk9 (by simp)
                have d58 : D5 ≠ D8 := ne_of hD9 hk9 (by simp)
                have d5a : D5 ≠ a := (ne_of_none (show upd H5 p (.lst (bs.map fun b => .ref b.1)) a = some (.dT (tK ws)) by rw [upd_ne (ne_of_none ha5 np)]; exact ha5) hD5).symm
                refine ⟨a, _, ha9, mut_dT, fun od => ⟨_, rfl, a, od, rfl, .inr ⟨tK ws, upd_same, ?_⟩⟩⟩
                have ew : (tK ws).length = ws.length := by rw [tK, List.length_map]
                have hxL : (upd H9 a (.frz od (.dT (tK ws)))) x = some (.ins C dx [("_tasks", .ref ta), ("_walks", .ref D5), ("_places", .ref D8)]) := by rw [upd_ne (Ne.symm ax)]; exact hx9
                refine for_it (walk_keysT (kvs := tK ws)) (fun i σ H' => ∃ (x4 x5 : Option V) (kp : List (Key × V)), σ = [some (.ref x), some (.ref ta), some vw, some (.ref a), x4, x5, none, none, none, none] ∧ But D8 (upd H9 a (.frz od (.dT (tK ws)))) H' ∧ H' D8 = some (.dK kp) ∧
                  KnM kp (ts.map (fun t => t.2.2) ++ namesW (ws.take i)) ∧ kp.length ≤ 60 + 2 * i) ⟨none, none, kn, rfl, But.refl, by rw [upd_ne (Ne.symm a8)]; exact hk9, by simpa [namesW] using hm8, by omega⟩ (fun i σ H' _ q => ?_) (fun i v σ H0' H' hi q y => ?_) (fun σ H' q => ?_)
                · obtain ⟨x4, x5, kp, rfl, b, _⟩ := q
                  exact b a _ a8 upd_same
                · obtain ⟨x4, x5, kp, rfl, b, hk, hm, hl⟩ := q
                  obtain ⟨e, key, u, q, hkv, rfl, hq⟩ := y
                  subst e
                  rw [ew] at hi
                  have hw : ws[i]? = some ws[i] := List.getElem?_eq_getElem hi
                  obtain ⟨⟨ks, u'⟩, hp'⟩ : ∃ p, ws[i] = p := ⟨_, rfl⟩
                  rw [hp'] at hw
                  rw [tK, List.getElem?_map, hw] at hkv
                  cases hkv
                  obtain ⟨y0, y1, rfl⟩ : ∃ x y, ks = [x, y] := two _ (List.mem_of_getElem? hw)
                  have hq2 : H' q = some (.tup [.str y0, .str y1]) := by rw [hq, List.map_map]; rfl
                  have hxx := b _ _ (Ne.symm D8x) hxL
                  have l1 := putK_len kp (.inr y0) (.bl true)
                  have l2 := putK_len (putK kp (.inr y0) (.bl true)) (.inr y1) (.bl true)
                  have := ok.len
                  refine ⟨q, _, rfl, SqT.of hq2, rfl, _, _, rfl, _, _, rfl, rfl, _, rfl, x, C, dx, _, .ref D8, rfl, hxx, cC, nP, rfl, _, rfl, D8, _, rfl, DPut.k (k := .inr y0) hk (by rw [sizeLine_eq]; omega), ?_⟩
                  refine ⟨_, rfl, x, C, dx, _, .ref D8, rfl, by rw [upd_ne (Ne.symm D8x)]; exact hxx, cC, nP, rfl, _, rfl, D8, _, rfl, DPut.k (k := .inr y1) upd_same (by rw [sizeLine_eq]; omega), ?_⟩
                  have hT : namesW (ws.take (i + 1)) = namesW (ws.take i) ++ [y0, y1] := by
                    unfold namesW
                    rw [takeSucc hw, List.flatMap_append]
                    rfl
                  refine ⟨_, _, _, rfl, fun c o nc e => ?_, upd_same, (hm.put (s := y0) (T := ts.map (fun t => t.2.2) ++ namesW (ws.take i) ++ [y0]) fun z => ?_).put (s := y1) fun z => ?_, by omega⟩
                  · rw [upd_ne nc, upd_ne nc]
                    exact b c o nc e
                  · rw [List.mem_append, List.mem_singleton]
                    exact or_comm
                  · rw [hT]
                    simp only [List.mem_append, List.mem_cons, List.not_mem_nil, or_false]
                    constructor
                    · rintro (h | h | h | h)
                      · exact .inr (.inl (.inl h))
                      · exact .inr (.inl (.inr h))
                      · exact .inr (.inr h)
                      · exact .inl h
                    · rintro (h | (h | h) | h)
                      · exact .inr (.inr (.inr h))
                      · exact .inl h
                      · exact .inr (.inl h)
                      · exact .inr (.inr (.inl h))
                · obtain ⟨x4, x5, kp, rfl, b, hk, hm, hl⟩ := q
                  rw [ew, List.take_length] at hm
                  have ha' := b a _ a8 upd_same
                  have bF : But x H4 (upd H' a (.dT (tK ws))) := fun c o nc e => by
                    by_cases ca : c = a
                    · subst ca
                      rw [ha4] at e
                      rw [upd_same]
                      exact e
                    · rw [upd_ne ca]
                      have e9 := b9 _ _ nc e
                      have nD : c ≠ D8 := ne_of_none (b7 _ _ nc e) hD8
                      exact b _ _ nD (by rw [upd_ne ca]; exact e9)
                  have kF : KeepI H4 (upd H' a (.dT (tK ws))) := keepI_but hx4 bF
                  refine ⟨ha', kQ ts ws rfl rfl wb _ (fun c o nc e => bF _ _ nc (s5 _ _ e)) ⟨dx, ta, D5, D8, xs, kt, kp, ?_, sqT_keepI kF hs4, DpAll.keepI kF hp4, ?_, fun a0 b0 => ?_, ?_, hm, iw, l62⟩⟩
                  · rw [upd_ne (Ne.symm ax)]
                    exact b _ _ (Ne.symm D8x) hxL
                  · rw [upd_ne d5a]
                    exact b _ _ d58 (by rw [upd_ne d5a]; exact hD9)
                  · by_cases m : kP a0 b0 ∈ bs.map kb
                    · exact (hv _).1 m
                    · rw [(hv _).2 m]
                      cases z : valV (tK ws) (kP a0 b0) with
                      | none => rfl
                      | some u => exact absurd (hperm.symm.subset (List.mem_map.mpr ⟨_, valV_mem z, rfl⟩)) m
                  · rw [upd_ne (Ne.symm a8)]
                    exact hk
            · rw [Bool.not_eq_true] at wt
              rw [wt]
              exact iteT (bad H4 s5 (by rw [wb, wt]))
      · rw [Bool.not_eq_true] at tall
        rw [tall]
        refine iteT (bad H1 s1 ?_)
        rw [made_eq, tall, Bool.false_and, Bool.and_false]
  | .none, _, _, _, _, bad => exact iteT (bad H (Same.refl H) rfl)
  | .bool _, _, _, _, _, bad => exact iteT (bad H (Same.refl H) rfl)
  | .int _, _, _, _, _, bad => exact iteT (bad H (Same.refl H) rfl)
  | .str _, _, _, _, _, bad => exact iteT (bad H (Same.refl H) rfl)
  | .list _, _, _, _, _, bad => exact iteT (bad H (Same.refl H) rfl)
  | .dict _, _, _, _, _, bad => exact iteT (bad H (Same.refl H) rfl)
end
end K4
namespace K4
open PySem PySem.Spec PyProof.Rows L2 DW
theorem CrewAt.same {K : PySem.W.Frag} {C : Addr} {H H' : Hp} {x : Addr} {ts : List Tk} {ws : Ws} (s : Same H H') (h : CrewAt K C H x ts ws) : CrewAt K C H' x ts ws := by
  obtain ⟨dx, ta, wa, pa, xs, kt, kp, h1, h2, h3, h4, h5, h6, h7, h8, h9⟩ := h
  exact ⟨dx, ta, wa, pa, xs, kt, kp, s _ _ h1, sqT_same s h2, DpAll.same s h3, s _ _ h4, h5, s _ _ h6, h7, h8, h9⟩
/-- what is known of a class of crews -/
structure CrK (K : PySem.W.Frag) (C : Addr) : Prop where
  c : Cls K C
  nT : NoAttr K C "_tasks"
  nW : NoAttr K C "_walks"
  nP : NoAttr K C "_places"
abbrev sCanF : Stmt := mth 3
abbrev sWalk : Stmt := mth 4
section
variable {P : Program} {w : World} {K : PySem.W.Frag} {mg : Str → Option Value} {base : Heap}
/-- it raises an error that keeps d -/
def Thrown (H : Hp) (C : Addr) (f : Str) (d : PyData) (E : XK) : Prop := Tellable d ∧ ∀ (H' : Hp) (dx : Addr) (v' : V), Same H H' → H' dx = some (.xd [(f, v')]) → Cp H' v' d → E (.ref C) (some dx) H'
theorem Thrown.same {H H1 : Hp} {C : Addr} {f : Str} {d : PyData} {E : XK} (s : Same H H1) (h : Thrown H C f d E) : Thrown H1 C f d E := ⟨h.1, fun H' dx v' s2 => h.2 H' dx v' (Same.trans s s2)⟩
theorem rd_thrown {X : Cx} {C : Addr} {f : Str} {te : TE} {σ : L2.St} {H : Hp} {E : XK} {v : V} {d : PyData} (hv : ∀ R : VK, R v H → te σ H R) (cp : Cp H v d) (t : Thrown H C f d E) (r : Raises X (.ref C)) (h0 : ∀ a, H a = none → X.H_0 a = none) :
    tExI C (spIni C f) te σ H fun x H1 => ∃ (a C dx t : Addr) (fs : List (Str × V)), x = .ref a ∧ H1 a = some (exq a C (some dx) t) ∧ H1 dx = some (exd dx fs) ∧ Fr0 X.H_0 a ∧ Raises X (.ref C) ∧ E (.ref C) (some dx) (upd (delH H1 a) dx (.xd fs)) := rd_owG hv cp t.1 r h0 t.2
theorem Cp.same {H H' : Hp} {v : V} {d : PyData} (s : Same H H') (h : Cp H v d) : Cp H' v d := h.keep (Same.keepD s)
def spCanF (K : PySem.W.Frag) (C CN : Addr) : Sp := fun vs H Q E => ∃ (x : Addr) (v1 v2 : V) (d1 d2 : PyData) (ts : List Tk) (ws : Ws), vs = [.ref x, v1, v2] ∧ CrewAt K C H x ts ws ∧ Cp H v1 d1 ∧ Cp H v2 d2 ∧
  (betD 0 (ts.length - 1) d1 = false → Thrown H CN "given" d1 E) ∧ (betD 0 (ts.length - 1) d1 = true → betD 0 (ts.length - 1) d2 = false ∧ Thrown H CN "given" d2 E)
theorem scCanF : FnScope ["self", "task", "other", "index"] ["self", "task", "other"] (defScope sCanF) := ⟨rfl, rfl, rfl, by decide +kernel, rfl, by decide +kernel, by decide +kernel⟩
theorem ok_canF {f fB C CN fN : Addr} {fd dB dN : FuncData} (F : Fun K "can_follow" "Crew.can_follow" sCanF f fd) (k : CrK K C) (CB : Cal P w K mg base 1 "is_between" ["value", "least", "most"] (spBet K) fB dB)
    (o : OwG P w K mg base "InvalidNumber" "given" "RuntimeError.__new__" "RuntimeError" "RuntimeError" CN fN dN) (zL : mg "len" = none) : FnGX P w K mg base (L2.CX P w) 7 f fd ["self", "task", "other"] (spCanF K C CN) := by
  refine fngx F scCanF (fun vs H Q E h => ?_) (fun cdv A outer s H vs Q E hr hgu h => ?_)
  · obtain ⟨x, v1, v2, d1, d2, ts, ws, rfl, _⟩ := h
    rfl
  · obtain ⟨x, v1, v2, d1, d2, ts, ws, rfl, cr, c1, c2, k1, k2⟩ := h
    refine ⟨_, pss_cons (ps_for (passes_of rfl) rfl (pi_tup (pe_tup (pa_cons (pv 1) (pa_cons (pv 2) pa_nil)))) (pg_name (i := 3) scCanF.nd rfl (.inl rfl))
        (pss_one (ps_if (pt_not (pt_val (pe_cal (E := E0) CB hr rfl (pa_cons (pv 3) (pa_cons pe_int (pa_cons (pe_op op_sub (pe_callB call_len_seq (by rfl) zL PySem.boot_len (pa_cons (pe_fld (pv 0) rfl) pa_nil)) pe_int) pa_nil))))))
          (pss_one (ps_raise rfl (takes_of rfl rfl rfl rfl) (pmk_exq rfl (pe_exI PySem.F.excBase_RuntimeError o.q o.hi o.tf o.ex.kC o.g rfl o.G (hr.mono (by decide)) hgu o.b (pv 3))))) pss_nil)))
      (pss_one (ps_ret deadE)), ?_⟩
    refine ⟨_, rfl, _, rfl, by show 2 ≤ sizeLine; decide, fun p np => ⟨p, rfl, ⟨_, SqT.of upd_same⟩, for_tup (K := K) (xs := [v1, v2]) (fun i σ H' => (∃ x3, σ = [some (.ref x), some v1, some v2, x3]) ∧ Same H H' ∧ H' p = some (.tup [v1, v2]) ∧ (i = 0 ∨ i = 1 ∧ betD 0 (ts.length - 1) d1 = true))
      ⟨⟨none, rfl⟩, same_new np, upd_same, .inl rfl⟩ (fun i σ H' _ q => SqT.of q.2.2.1) (fun i v σ H' hv q => ?_) (fun σ H' q => ?_)⟩⟩
    · obtain ⟨⟨x3, rfl⟩, s1, hp, q⟩ := q
      obtain ⟨dx, ta, wa, pa, xs, kt, kp, h1, h2, h3, _⟩ := cr.same s1
      have el : xs.length = ts.length := by rw [DpAll.length h3, List.length_map]
      obtain ⟨d, cp, thr, go⟩ : ∃ d, Cp H v d ∧ (betD 0 (ts.length - 1) d = false → Thrown H CN "given" d E) ∧ (betD 0 (ts.length - 1) d = true → i = 0 ∧ betD 0 (ts.length - 1) d1 = true) := by
        rcases q with rfl | ⟨rfl, q⟩
        · cases hv
          exact ⟨d1, c1, k1, fun e => ⟨rfl, e⟩⟩
        · cases hv
          exact ⟨d2, c2, fun _ => (k2 q).2, fun e => by rw [(k2 q).1] at e; cases e⟩
      have cp' := Cp.same s1 cp
      refine ⟨_, rfl, _, rfl, x, C, dx, _, .ref ta, rfl, h1, k.c, k.nT, rfl, ta, xs, rfl, .inr h2, _, _, rfl, rfl, v, d, _, _, rfl, cp'.dd, _, rfl, ?_⟩
      rw [el]
      cases c : betD 0 (ts.length - 1) d with
      | false => exact iteT (rd_thrown (fun R r => ⟨v, rfl, r⟩) cp' ((thr c).same s1) (raises_own o.ex.ex o.ty) (fun a n => none_of s1 n))
      | true =>
        obtain ⟨i0, q9⟩ := go c
        exact iteF ⟨⟨_, rfl⟩, s1, hp, .inr ⟨by rw [i0], q9⟩⟩
    · obtain ⟨_, _, _, q⟩ := q
      rcases q with q | q
      · cases q
      · cases q.1
def inS (S : List Str) (d : PyData) : Bool := match d with
  | .str z => decide (z ∈ S) | _ => false
def spWalk (K : PySem.W.Frag) (C CU : Addr) : Sp := fun vs H Q E => ∃ (x : Addr) (v1 v2 : V) (d1 d2 : PyData) (ts : List Tk) (ws : Ws), vs = [.ref x, v1, v2] ∧ CrewAt K C H x ts ws ∧ Cp H v1 d1 ∧ Cp H v2 d2 ∧
  (inS (ts.map (fun t => t.2.2) ++ namesW ws) d1 = false → Thrown H CU "wanted" d1 E) ∧ (inS (ts.map (fun t => t.2.2) ++ namesW ws) d1 = true → inS (ts.map (fun t => t.2.2) ++ namesW ws) d2 = false ∧ Thrown H CU "wanted" d2 E)
theorem scWalk : FnScope ["self", "place", "other", "name"] ["self", "place", "other"] (defScope sWalk) := ⟨rfl, rfl, rfl, by decide +kernel, rfl, by decide +kernel, by decide +kernel⟩
theorem KnM.isSome {kn : List (Key × V)} {S : List Str} (h : KnM kn S) (z : Str) : (valV kn (.inr z)).isSome = decide (z ∈ S) := by
  rw [Bool.eq_iff_iff, h (.inr z), decide_eq_true_iff]
  constructor
  · rintro ⟨s, hs, e⟩; cases e; exact hs
  · intro m; exact ⟨z, m, rfl⟩
theorem ok_walk {f C CU fU : Addr} {fd dU : FuncData} (F : Fun K "walk" "Crew.walk" sWalk f fd) (k : CrK K C)
    (o : OwG P w K mg base "UnknownName" "wanted" "LookupError.__new__" "LookupError" "KeyError" CU fU dU) (zI : mg "isinstance" = none) (zS : mg "str" = none) : FnGX P w K mg base (L2.CX P w) 7 f fd ["self", "place", "other"] (spWalk K C CU) := by
  refine fngx F scWalk (fun vs H Q E h => ?_) (fun cdv A outer s H vs Q E hr hgu h => ?_)
  · obtain ⟨x, v1, v2, d1, d2, ts, ws, rfl, _⟩ := h
    rfl
  · obtain ⟨x, v1, v2, d1, d2, ts, ws, rfl, cr, c1, c2, k1, k2⟩ := h
    refine ⟨_, pss_cons (ps_for (passes_of rfl) rfl (pi_tup (pe_tup (pa_cons (pv 1) (pa_cons (pv 2) pa_nil)))) (pg_name (i := 3) scWalk.nd rfl (.inl rfl))
        (pss_one (ps_if (PW.pt (pw_or (pt_not (pt_val (pe_callB call_isi (by rfl) zI (by rfl) (pa_cons (pv 3) (pa_cons (pe_bltn rfl zS (by rfl) (show RelV (.ty "str") (.type "str") from rfl)) pa_nil))))) (pw_or1 (pt_cmp (pc_dnotin (hu_of hr) (pv 3) (pe_fld (pv 0) rfl))))))
          (pss_one (ps_raise rfl (takes_of rfl rfl rfl rfl) (pmk_exq rfl (pe_exI PySem.F.excBase_LookupError o.q o.hi o.tf o.ex.kC o.g rfl o.G (hr.mono (by decide)) hgu o.b (pv 3))))) pss_nil)))
      (pss_one (ps_ret deadE)), ?_⟩
    refine ⟨_, rfl, _, rfl, by show 2 ≤ sizeLine; decide, fun p np => ⟨p, rfl, ⟨_, SqT.of upd_same⟩, for_tup (K := K) (xs := [v1, v2]) (fun i σ H' => (∃ x3, σ = [some (.ref x), some v1, some v2, x3]) ∧ Same H H' ∧ H' p = some (.tup [v1, v2]) ∧ (i = 0 ∨ i = 1 ∧ inS (ts.map (fun t => t.2.2) ++ namesW ws) d1 = true))
      ⟨⟨none, rfl⟩, same_new np, upd_same, .inl rfl⟩ (fun i σ H' _ q => SqT.of q.2.2.1) (fun i v σ H' hv q => ?_) (fun σ H' q => ?_)⟩⟩
    · obtain ⟨⟨x3, rfl⟩, s1, hp, q⟩ := q
      obtain ⟨dx, ta, wa, pa, xs, kt, kp, h1, h2, h3, h4, h5, h6, h7, _⟩ := cr.same s1
      obtain ⟨d, cp, thr, go⟩ : ∃ d, Cp H v d ∧ (inS (ts.map (fun t => t.2.2) ++ namesW ws) d = false → Thrown H CU "wanted" d E) ∧ (inS (ts.map (fun t => t.2.2) ++ namesW ws) d = true → i = 0 ∧ inS (ts.map (fun t => t.2.2) ++ namesW ws) d1 = true) := by
        rcases q with rfl | ⟨rfl, q⟩
        · cases hv
          exact ⟨d1, c1, k1, fun e => ⟨rfl, e⟩⟩
        · cases hv
          exact ⟨d2, c2, fun _ => (k2 q).2, fun e => by rw [(k2 q).1] at e; cases e⟩
      have cp' := Cp.same s1 cp
      have bad : inS (ts.map (fun t => t.2.2) ++ namesW ws) d = false → tExI CU (spIni CU "wanted") (tVar 3) [some (.ref x), some v1, some v2, some v] H' fun x H1 => ∃ (a C dx t : Addr) (fs : List (Str × V)), x = .ref a ∧ H1 a = some (exq a C (some dx) t) ∧ H1 dx = some (exd dx fs) ∧
          Fr0 (cxOf (L2.CX P w) P w K mg base ["self", "place", "other", "name"] "Crew.walk" (defScope sWalk) f cdv A outer s H E).H_0 a ∧ Raises (cxOf (L2.CX P w) P w K mg base ["self", "place", "other", "name"] "Crew.walk" (defScope sWalk) f cdv A outer s H E) (.ref C) ∧ E (.ref C) (some dx) (upd (delH H1 a) dx (.xd fs)) :=
        fun c => rd_thrown (fun R r => ⟨v, rfl, r⟩) cp' ((thr c).same s1) (raises_own o.ex.ex o.ty) (fun a n => none_of s1 n)
      refine rd_isi rfl cp'.dd (kit_str d) ⟨_, rfl, ?_⟩
      match d, cp', go, bad with
      | .str z, cp', go, bad =>
        have ev : v = .str z := by
          have q := cp'.dd (K := K)
          cases q with
          | base q _ => cases q; rfl
        subst ev
        refine iteF ⟨_, rfl, _, rfl, x, C, dx, _, .ref pa, rfl, h1, k.c, k.nP, rfl, pa, _, rfl, DGet.k (k := .inr z) h6, _, rfl, ?_⟩
        rw [KnM.isSome h7]
        cases c : decide (z ∈ ts.map (fun t => t.2.2) ++ namesW ws) with
        | false => exact iteT (bad c)
        | true =>
          obtain ⟨i0, q9⟩ := go c
          exact iteF ⟨⟨_, rfl⟩, s1, hp, .inr ⟨by rw [i0], q9⟩⟩
      | .none, _, _, bad => exact iteT (bad rfl)
      | .bool _, _, _, bad => exact iteT (bad rfl)
      | .int _, _, _, bad => exact iteT (bad rfl)
      | .list _, _, _, bad => exact iteT (bad rfl)
      | .tuple _, _, _, bad => exact iteT (bad rfl)
      | .dict _, _, _, bad => exact iteT (bad rfl)
    · obtain ⟨_, _, _, q⟩ := q
      rcases q with q | q
      · cases q
      · cases q.1
end
end K4
namespace K4
open PySem PySem.Spec PyProof.Rows L2 DW
theorem passE {X : Cx} {E : XK} (tk : Takes X (fun cls d _ H => E cls d H)) : Passes (L2.CX X.prog X.w) X E := fun pins σ H s e s' I c => passAt tk σ pins H s e s' I c
/-- what isinstance asks of a class -/
structure InsK (K : PySem.W.Frag) (C : Addr) : Prop where
  ty : ∀ {H : Hp} {a dx : Addr} {fs : List (Str × V)}, H a = some (.ins C dx fs) → TyOf K H (.ref a) (.ref C)
  tup : PySem.W.kitOne K (.ref C) (.type "tuple") = some false
/-- no tuple: a dict with tuples as keys, or an instance -/
def NotTup (K : PySem.W.Frag) (H : Hp) (v : V) : Prop := (∃ a kvs, v = .ref a ∧ H a = some (.dT kvs)) ∨ ∃ a C dx fs, v = .ref a ∧ H a = some (.ins C dx fs) ∧ InsK K C
theorem NotTup.same {K : PySem.W.Frag} {H H' : Hp} {v : V} (s : Same H H') (h : NotTup K H v) : NotTup K H' v := by
  rcases h with ⟨a, kvs, e, ha⟩ | ⟨a, C, dx, fs, e, ha, k⟩
  · exact .inl ⟨a, kvs, e, s _ _ ha⟩
  · exact .inr ⟨a, C, dx, fs, e, s _ _ ha, k⟩
theorem rd_isiN {K : PySem.W.Frag} {σ : L2.St} {H : Hp} {v : V} {Q : VK} {i : Nat} (hv : σ[i]? = some (some v)) (h : NotTup K H v) (q : Q (.bl false) H) : tCB (rIsi K) (tCons (tVar i) (tCons (tC (.ty "tuple")) tNil)) σ H Q := by
  rcases h with ⟨a, kvs, rfl, ha⟩ | ⟨a, C, dx, fs, rfl, ha, k⟩
  · exact ⟨_, hv, _, .ty "tuple", _, _, _, rfl, .ty _, .base (.dT ha), (show PySem.W.kitOne K (.type "dict") (.type "tuple") = some false from kit_ty (show kitB "dict" "tuple" = some false by decide +kernel)), q⟩
  · exact ⟨_, hv, _, .ty "tuple", _, _, _, rfl, .ty _, .base (k.ty ha), k.tup, q⟩
abbrev tBetT (K : PySem.W.Frag) (j : Nat) : TE := tCall (spBet K) [] E0 (tCons (tVar j) (tCons (tC (.int 0)) (tCons (tOp (rI0 fun i j => .int (i - j)) (tCB (fun xs H Q => ∃ p ys, xs = [.ref p] ∧ (SqL K H p ys ∨ SqT K H p ys) ∧ Q (.int ys.length) H) (tCons (tFld K (tVar 0) "_tasks") tNil)) (tC (.int 1))) tNil)))
abbrev sIsRow : Stmt := mth 16
abbrev sIsCrowd : Stmt := mth 17
section
variable {P : Program} {w : World} {K : PySem.W.Frag} {mg : Str → Option Value} {base : Heap}
def spPair2 (K : PySem.W.Frag) : Sp := fun vs H Q E => ∃ v, vs = [v] ∧ ((∃ d, Dd K H v d ∧ ∀ H', Same H H' → Q (.bl (pairD d)) H') ∨ (NotTup K H v ∧ ∀ H', Same H H' → Q (.bl false) H'))
theorem ok_pair2 {f : Addr} {fd : FuncData} (F : Fun K "is_pair" "is_pair" sIsPair f fd) (zI : mg "isinstance" = none) (zT : mg "tuple" = none) (zL : mg "len" = none) : FnOk P w K mg base CX0 1 f fd ["value"] (spPair2 K) := by
  refine F.ok scPair (fun vs H Q E h => ?_) (fun cdv A outer s H vs Q E hr h => ?_)
  · obtain ⟨v, rfl, _⟩ := h
    rfl
  · obtain ⟨v, rfl, h⟩ := h
    refine ⟨_, pss_one (ps_ret (pe_and (pe_callB call_isi (by rfl) zI (by rfl) (pa_cons (pv 0) (pa_cons (pe_bltn rfl zT (by rfl) (show RelV (.ty "tuple") (.type "tuple") from rfl)) pa_nil)))
      (pe_one (pe_cmpR op_eq (pe_callB call_len_seq (by rfl) zL PySem.boot_len (pa_cons (pv 0) pa_nil)) pe_int (nomark _))))), ?_⟩
    rcases h with ⟨d, hd, k⟩ | ⟨hn, k⟩
    · have k := k H (Same.refl H)
      refine rd_isi rfl hd (kit_tup d) ⟨_, rfl, ?_⟩
      match d, hd, k with
      | .tuple ds, hd, k =>
        obtain ⟨a, xs, rfl, hs, ha, _⟩ := hd.tup_inv
        refine iteT ⟨_, rfl, a, xs, rfl, .inr hs, rfl, ?_⟩
        rw [DpAll.length ha, show V.int 2 = V.int ((2 : Nat) : Int) from rfl, dec_len]
        exact k
      | .none, _, k => exact iteF k
      | .bool _, _, k => exact iteF k
      | .int _, _, k => exact iteF k
      | .str _, _, k => exact iteF k
      | .list _, _, k => exact iteF k
      | .dict _, _, k => exact iteF k
    · exact rd_isiN rfl hn ⟨_, rfl, iteF (k H (Same.refl H))⟩
/-- all([is_between(task, 0, len(self._tasks) - 1) for task in value]) -/
theorem rd_allBet {C x a : Addr} {i j : Nat} {xs : List V} {ds : List PyData} {H : Hp} {σ : L2.St} {Q : VK} {ts : List Tk} {ws : Ws} (k : CrK K C) (cr : CrewAt K C H x ts ws) (h0 : σ[0]? = some (some (.ref x))) (hi : σ[i]? = some (some (.ref a))) (j0 : j ≠ 0) (hj : j < σ.length) (ha : SqT K H a xs) (hp : DpAll K H xs ds) (hn : ∀ x ∈ ds, x.hasDict = false) (hl : ds.length ≤ 1000)
    (q : ∀ H', Same H H' → Q (.bl (ds.all (betD 0 ((ts.length : Nat) - 1 : Int)))) H') :
    tCB (rAll K) (tCons (tLc (iTup K (tVar i)) (gName j) tYes (tBetT K j) [j]) tNil) σ H Q := by
  refine ⟨_, hi, a, rfl, ⟨xs, ha⟩, fun D hD => lc_tup (K := K) (xs := xs) (fun i H' => Same H H' ∧ H' D = some (.lst (((ds.take i).map (betD 0 ((ts.length : Nat) - 1 : Int))).map V.bl))) ⟨same_new hD, upd_same⟩ (fun i H' _ p => sqT_same p.1 ha)
    (fun i v H' hx p => ⟨by simp [gName, wipe], tyes ⟨_, (by simp [gName, wipe, hj]; rfl), _, (by simp [gName, wipe, List.getElem?_set, j0]; exact h0), ?_⟩⟩) (fun H' p => ?_)⟩
  · obtain ⟨s1, hy⟩ := p
    obtain ⟨d, hd, hr⟩ := DpAll.at hp hx
    have hm : d ∈ ds := List.mem_of_getElem? hd
    obtain ⟨dx, ta, wa, pa, xs', kt, kp, h1, h2, h3, _⟩ := cr.same s1
    have el : xs'.length = ts.length := by rw [DpAll.length h3, List.length_map]
    refine ⟨x, C, dx, _, .ref ta, rfl, h1, k.c, k.nT, rfl, ta, xs', rfl, .inr h2, _, _, rfl, rfl, v, d, _, _, rfl, .base (Dp.same s1 hr) (hn d hm), _, hy, ?_, same_mut s1 hD, ?_⟩
    · rw [List.length_map, List.length_map, List.length_take, sizeLine_eq]
      omega
    · rw [upd_same, takeSucc hd, el]
      simp
  · obtain ⟨s1, hy⟩ := p
    rw [DpAll.length hp, List.take_length] at hy
    refine fin_all hy ?_
    rw [List.all_map]
    exact q H' s1
def rowBad (n : Nat) (d : PyData) : Bool := match d with
  | .tuple ds => decide (ds.length < 1) || !ds.all (betD 0 ((n : Int) - 1)) | _ => true
def crowdBad (n : Nat) (d : PyData) : Bool := match d with
  | .tuple ds => !ds.all (betD 0 ((n : Int) - 1)) | _ => true
def spRow (K : PySem.W.Frag) (C : Addr) : Sp := fun vs H Q E => ∃ (x : Addr) (v r : V) (d : PyData) (ts : List Tk) (ws : Ws), vs = [.ref x, v, r] ∧ CrewAt K C H x ts ws ∧ Dd K H v d ∧ Fn 1 d ∧ rowBad ts.length d = true ∧ ∀ H', Same H H' → Q (.bl false) H'
theorem scRow : FnScope ["self", "value", "rest", "task", "at"] ["self", "value", "rest"] (defScope sIsRow) := ⟨rfl, rfl, rfl, by decide +kernel, rfl, by decide +kernel, by decide +kernel⟩
theorem ok_row {f fB C : Addr} {fd dB : FuncData} (F : Fun K "_is_row" "Crew._is_row" sIsRow f fd) (k : CrK K C) (CB : Cal P w K mg base 1 "is_between" ["value", "least", "most"] (spBet K) fB dB)
    (zI : mg "isinstance" = none) (zT : mg "tuple" = none) (zL : mg "len" = none) (zA : mg "all" = none) : FnOk P w K mg base CX0 2 f fd ["self", "value", "rest"] (spRow K C) := by
  refine F.ok scRow (fun vs H Q E h => ?_) (fun cdv A outer s H vs Q E hr h => ?_)
  · obtain ⟨x, v, r, d, ts, ws, rfl, _⟩ := h
    rfl
  · obtain ⟨x, v, r, d, ts, ws, rfl, cr, hd, hf, hb, q⟩ := h
    refine ⟨_, pss_cons (ps_if (PW.pt (pw_or (pt_not (pt_val (pe_callB call_isi (by rfl) zI (by rfl) (pa_cons (pv 1) (pa_cons (pe_bltn rfl zT (by rfl) (show RelV (.ty "tuple") (.type "tuple") from rfl)) pa_nil)))))
        (pw_or1 (pt_cmpR op_lt (pe_callB call_len_seq (by rfl) zL PySem.boot_len (pa_cons (pv 1) pa_nil)) pe_int (nomark _)))))
        (pss_one (ps_ret pe_bl)) pss_nil)
      (pss_cons (ps_if (pt_not (pt_val (pe_callB (cr_all rfl) (by rfl) zA (by decide +kernel) (pa_cons (pe_lc (own := [("task", 3)]) (g := gName 3) (tt := tYes) (te := tBetT K 3) rfl scRow.nd (pi_tup (pv 1)) (blkOk_by (own := [("task", 3)]) (N := ["self", "value", "rest", "task", "at"]) (sc := defScope sIsRow) (by decide +kernel))
          (fun _ _ _ _ _ => pg_name (i := 3) scRow.nd rfl (Or.inl rfl)) (fun _ _ _ _ _ => pts_nil) (fun _ _ _ _ _ => pe_cal (E := E0) CB hr rfl (pa_cons (pv 3) (pa_cons pe_int (pa_cons (pe_op op_sub (pe_callB call_len_seq (by rfl) zL PySem.boot_len (pa_cons (pe_fld (pv 0) rfl) pa_nil)) pe_int) pa_nil))) (Nat.le_refl _))) pa_nil))))
        (pss_one (ps_ret pe_bl)) pss_nil)
      (pss_one (ps_ret deadE))), ?_⟩
    refine rd_isi rfl hd (kit_tup d) ⟨_, rfl, ?_⟩
    have q := q
    match d, hd, hf, hb with
    | .tuple ds, hd, hf, hb =>
      obtain ⟨a, xs, rfl, hs, hp, hnd⟩ := hd.tup_inv
      obtain ⟨hl, _⟩ := hf.2 _ rfl
      have hlen := DpAll.length hp
      refine iteF ⟨_, rfl, a, xs, rfl, .inr hs, _, _, rfl, rfl, _, rfl, ?_⟩
      by_cases l1 : ((xs.length : Nat) : Int) < 1
      · rw [decide_eq_true l1]
        exact iteT (q H (Same.refl H))
      · rw [decide_eq_false l1]
        have hb2 : ds.all (betD 0 ((ts.length : Int) - 1)) = false := by
          have z : (decide (ds.length < 1) || !ds.all (betD 0 ((ts.length : Int) - 1))) = true := hb
          rw [decide_eq_false (by omega), Bool.false_or, Bool.not_eq_true'] at z
          exact z
        refine iteF (rd_allBet (K := K) (i := 1) (j := 3) k cr rfl rfl (by decide) (by show 3 < 5; decide) hs hp hnd hl fun H1 s1 => ⟨_, rfl, ?_⟩)
        rw [hb2]
        exact iteT (q H1 s1)
    | .none, _, _, _ => exact iteT (q H (Same.refl H))
    | .bool _, _, _, _ => exact iteT (q H (Same.refl H))
    | .int _, _, _, _ => exact iteT (q H (Same.refl H))
    | .str _, _, _, _ => exact iteT (q H (Same.refl H))
    | .list _, _, _, _ => exact iteT (q H (Same.refl H))
    | .dict _, _, _, _ => exact iteT (q H (Same.refl H))
def spCrowdB (K : PySem.W.Frag) (C : Addr) : Sp := fun vs H Q E => ∃ (x : Addr) (v : V) (d : PyData) (ts : List Tk) (ws : Ws), vs = [.ref x, v] ∧ CrewAt K C H x ts ws ∧ Dd K H v d ∧ Fn 1 d ∧ crowdBad ts.length d = true ∧ ∀ H', Same H H' → Q (.bl false) H'
theorem scCrowd : FnScope ["self", "value", "task", "other"] ["self", "value"] (defScope sIsCrowd) := ⟨rfl, rfl, rfl, by decide +kernel, rfl, by decide +kernel, by decide +kernel⟩
theorem ok_crowd {f fB C : Addr} {fd dB : FuncData} (F : Fun K "_is_crowd" "Crew._is_crowd" sIsCrowd f fd) (k : CrK K C) (CB : Cal P w K mg base 1 "is_between" ["value", "least", "most"] (spBet K) fB dB)
    (zI : mg "isinstance" = none) (zT : mg "tuple" = none) (zL : mg "len" = none) (zA : mg "all" = none) : FnOk P w K mg base CX0 2 f fd ["self", "value"] (spCrowdB K C) := by
  refine F.ok scCrowd (fun vs H Q E h => ?_) (fun cdv A outer s H vs Q E hr h => ?_)
  · obtain ⟨x, v, d, ts, ws, rfl, _⟩ := h
    rfl
  · obtain ⟨x, v, d, ts, ws, rfl, cr, hd, hf, hb, q⟩ := h
    refine ⟨_, pss_cons (ps_if (PW.pt (pw_or (pt_not (pt_val (pe_callB call_isi (by rfl) zI (by rfl) (pa_cons (pv 1) (pa_cons (pe_bltn rfl zT (by rfl) (show RelV (.ty "tuple") (.type "tuple") from rfl)) pa_nil)))))
        (pw_or1 (pt_not (pt_val (pe_callB (cr_all rfl) (by rfl) zA (by decide +kernel) (pa_cons (pe_lc (own := [("task", 2)]) (g := gName 2) (tt := tYes) (te := tBetT K 2) rfl scCrowd.nd (pi_tup (pv 1)) (blkOk_by (own := [("task", 2)]) (N := ["self", "value", "task", "other"]) (sc := defScope sIsCrowd) (by decide +kernel))
          (fun _ _ _ _ _ => pg_name (i := 2) scCrowd.nd rfl (Or.inl rfl)) (fun _ _ _ _ _ => pts_nil) (fun _ _ _ _ _ => pe_cal (E := E0) CB hr rfl (pa_cons (pv 2) (pa_cons pe_int (pa_cons (pe_op op_sub (pe_callB call_len_seq (by rfl) zL PySem.boot_len (pa_cons (pe_fld (pv 0) rfl) pa_nil)) pe_int) pa_nil))) (Nat.le_refl _))) pa_nil)))))))
        (pss_one (ps_ret pe_bl)) pss_nil)
      (pss_one (ps_ret deadE)), ?_⟩
    refine rd_isi rfl hd (kit_tup d) ⟨_, rfl, ?_⟩
    match d, hd, hf, hb with
    | .tuple ds, hd, hf, hb =>
      obtain ⟨a, xs, rfl, hs, hp, hnd⟩ := hd.tup_inv
      obtain ⟨hl, _⟩ := hf.2 _ rfl
      have hb2 : ds.all (betD 0 ((ts.length : Int) - 1)) = false := by
        have z : (!ds.all (betD 0 ((ts.length : Int) - 1))) = true := hb
        rw [Bool.not_eq_true'] at z
        exact z
      refine iteF (rd_allBet (K := K) (i := 1) (j := 2) k cr rfl rfl (by decide) (by show 2 < 4; decide) hs hp hnd hl fun H1 s1 => ⟨_, rfl, ?_⟩)
      rw [hb2]
      exact iteT (q H1 s1)
    | .none, _, _, _ => exact iteT (q H (Same.refl H))
    | .bool _, _, _, _ => exact iteT (q H (Same.refl H))
    | .int _, _, _, _ => exact iteT (q H (Same.refl H))
    | .str _, _, _, _ => exact iteT (q H (Same.refl H))
    | .list _, _, _, _ => exact iteT (q H (Same.refl H))
    | .dict _, _, _, _ => exact iteT (q H (Same.refl H))
end
end K4
namespace K4
open PySem PySem.Spec PyProof.Rows L2 DW
section
variable {X : Cx} {CX : CXT} {E : XK} {k m : Nat} {f C : Addr} {fd : FuncData} {ps : List Str} {sp : Sp} {x : Str} {e : Expr} {es : List Expr} {p pos : Pos} {t : TA}
/-- a def that may raise, by its name -/
structure CalX (P : Program) (w : World) (K : PySem.W.Frag) (mg : Str → Option Value) (base : Heap) (k : Nat) (x : Str) (ps : List Str) (sp : Sp) (f : Addr) (fd : FuncData) : Prop where
  G : FnGX P w K mg base (L2.CX P w) k f fd ps sp
  kp : PySem.W.keepIn K (.ref f) = true
  b : Binds K fd ps []
  g : mg x = some (.ref f)
theorem pe_calX (C : CalX X.prog X.w X.K X.mg X.base k x ps sp f fd) (hr : Room m X.A) (hgu : X.A.guards = some []) (hg : Gl X x) (tk : Takes X (fun cls d _ H => E cls d H)) (ha : PA X (e :: es) t) (hk : k ≤ m := by decide) (hdb : (x == ("__debug__" : Str)) = false := by decide) (he : starEach (e :: es) X.env = (false, eval e X.env) :: starEach es X.env := by rfl) (hpl : (backTo pos (starEach es X.env)).any (·.1) = false := by rfl) :
    PE X (.Call (.Name x p) (e :: es) [] pos) (tCall sp [] E t) := pe_gx C.G (hr.mono hk) hgu hg C.g C.kp C.b .nil (passE tk) ha hdb he hpl
/-- a method -/
structure MCal (P : Program) (w : World) (K : PySem.W.Frag) (mg : Str → Option Value) (base : Heap) (CX : CXT) (k : Nat) (C : Addr) (x : Str) (ps : List Str) (ds : List Value) (sp : Sp) (f : Addr) (fd : FuncData) : Prop where
  G : FnGX P w K mg base CX k f fd ps sp
  m : Meth K C x f
  b : Binds K fd ps ds
end
abbrev sAreR : Stmt := mth 10
abbrev tRow (K : PySem.W.Frag) (C : Addr) : TE := tMeth C "_is_row" (spRow K C) [] E0 (tVar 0) (tCons (tVar 4) (tCons (tVar 3) tNil))
section
variable {P : Program} {w : World} {K : PySem.W.Frag} {mg : Str → Option Value} {base : Heap}
def rosBad (n : Nat) : Option PyData → Bool
  | some (.tuple []) => decide (0 < n) | some (.tuple ds) => ds.all (rowBad n) | _ => true
def ValK (n : Nat) (K : PySem.W.Frag) (H : Hp) (v : V) : Option PyData → Prop
  | some d => Dd K H v d ∧ Fn n d | none => NotTup K H v
theorem ValK.same {n : Nat} {K : PySem.W.Frag} {H H' : Hp} {v : V} (s : Same H H') : ∀ {o : Option PyData}, ValK n K H v o → ValK n K H' v o
  | some d, h => ⟨Dd.same s h.1, h.2⟩
  | none, h => NotTup.same s h
theorem ints_dp {K : PySem.W.Frag} {H : Hp} : ∀ ks : List Int, DpAll K H (ks.map V.int) (ks.map PyData.int)
  | [] => .nil
  | k :: r => .cons (.int k) (ints_dp r)
theorem ints_sh (ks : List Int) : SeqAt.shaped (.list (ks.map .int)) = true := by
  have h1 : ∀ ks : List Int, PyData.canLayAll0 (ks.map .int) = true := fun ks => by
    induction ks with
    | nil => rfl
    | cons k r ih => simp [PyData.canLayAll0, PyData.canLay0, ih]
  have h2 : ∀ ks : List Int, PyData.depthAll (ks.map .int) ≤ 1 := fun ks => by
    induction ks with
    | nil => simp [PyData.depthAll]
    | cons k r ih => simp only [List.map_cons, PyData.depthAll, PyData.depth]; omega
  unfold SeqAt.shaped
  rw [Bool.and_eq_true]
  refine ⟨by simp [PyData.canLay0, h1], decide_eq_true ?_⟩
  have := h2 ks
  simp only [PyData.depth]
  omega
theorem Fn_mono : ∀ {n : Nat} {d : PyData}, Fn (n + 1) d → Fn n d
  | 0, _, h => h.1
  | n + 1, _, h => ⟨h.1, fun ds e => ⟨(h.2 ds e).1, fun x m => Fn_mono ((h.2 ds e).2 x m)⟩⟩
def spRos (K : PySem.W.Frag) (C CN : Addr) : Sp := fun vs H Q E => ∃ (x : Addr) (v vl vr : V) (o : Option PyData) (dl dr : PyData) (ts : List Tk) (ws : Ws), vs = [.ref x, v, vl, vr] ∧ CrewAt K C H x ts ws ∧ Cp H vl dl ∧ Fit dl ∧ Cp H vr dr ∧ Fit dr ∧
  (dl ≠ .none → numD dl = false ∧ Thrown H CN "given" dl E) ∧ (dl = .none → (numD dr = false → Thrown H CN "given" dr E) ∧ (numD dr = true → ValK 2 K H v o ∧ rosBad ts.length o = true ∧ ∀ H', Same H H' → Q (.bl false) H'))
theorem scAreR : FnScope ["self", "value", "longest", "rest", "row", "task"] ["self", "value", "longest", "rest"] (defScope sAreR) := ⟨rfl, rfl, rfl, by decide +kernel, rfl, by decide +kernel, by decide +kernel⟩
theorem ok_areR {f fN fR fA C CN : Addr} {fd dN dR dA : FuncData} {kws : List (Str × V)} (F : FunD K "are_rosters" "Crew.are_rosters" (defArgs sAreR) (defBody sAreR) (defScope sAreR) [] kws f fd) (k : CrK K C)
    (CN' : CalX P w K mg base 7 "_need_number" ["value"] (spNeedN K CN) fN dN) (MR : MCal P w K mg base CX0 2 C "_is_row" ["self", "value", "rest"] [] (spRow K C) fR dR) (CA : Cal P w K mg base 1 "is_ascending" ["values"] (spAsc K) fA dA)
    (zI : mg "isinstance" = none) (zT : mg "tuple" = none) (zL : mg "len" = none) (zA : mg "all" = none) (zS : mg "sorted" = none) (zLs : mg "list" = none) (zR : mg "range" = none) : FnGX P w K mg base (L2.CX P w) 8 f fd ["self", "value", "longest", "rest"] (spRos K C CN) := by
  refine fngxD F scAreR (fun vs H Q E h => ?_) (fun cdv A outer s H vs Q E hr hgu h => ?_)
  · obtain ⟨x, v, vl, vr, o, dl, dr, ts, ws, rfl, _⟩ := h
    rfl
  · obtain ⟨x, v, vl, vr, o, dl, dr, ts, ws, rfl, cr, cl, fl, ct, ft, k1, k2⟩ := h
    refine ⟨_, pss_cons (ps_if (pt_cmpR op_notN (pv 2) pe_non (nomark _)) (pss_one (ps_expr (pe_calX CN' hr hgu rfl (takes_of rfl rfl rfl rfl) (pa_cons (pv 2) pa_nil)))) pss_nil)
      (pss_cons (ps_expr (pe_calX CN' hr hgu rfl (takes_of rfl rfl rfl rfl) (pa_cons (pv 3) pa_nil)))
      (pss_cons (ps_if (PW.pt (pw_or (pt_not (pt_val (pe_callB call_isi (by rfl) zI (by rfl) (pa_cons (pv 1) (pa_cons (pe_bltn rfl zT (by rfl) (show RelV (.ty "tuple") (.type "tuple") from rfl)) pa_nil)))))
        (pw_or1 (pt_not (pt_val (pe_callB (cr_all rfl) (by rfl) zA (by decide +kernel) (pa_cons (pe_lc (own := [("row", 4)]) (g := gName 4) (tt := tYes) (te := tRow K C) rfl scAreR.nd (pi_tup (pv 1)) (blkOk_by (own := [("row", 4)]) (N := ["self", "value", "longest", "rest", "row", "task"]) (sc := defScope sAreR) (by decide +kernel))
          (fun _ _ _ _ _ => pg_name (i := 4) scAreR.nd rfl (Or.inl rfl)) (fun _ _ _ _ _ => pts_nil) (fun _ _ _ _ _ => pe_methX (pv 0) k.c MR.m MR.G (hr.mono (by decide)) hgu MR.b .nil (fun _ _ _ _ _ _ _ h => h.elim) (pa_cons (pv 4) (pa_cons (pv 3) pa_nil)))) pa_nil)))))))
        (pss_one (ps_ret pe_bl)) pss_nil)
      (pss_cons (ps_if (PW.pt (pw_or (pt_not (pt_val (pe_cal (E := E0) CA hr rfl (pa_cons (pv 1) pa_nil))))
        (pw_or1 (pt_cmpR (op_neD hr.units) (pe_callB cr_sorted (by rfl) zS (by decide +kernel) (pa_cons (pe_lc2 (own := [("row", 4), ("task", 5)]) (vs1 := [5]) (g := gName 4) (g1 := gName 5) (tt := tYes) (tt1 := tYes) (wi1 := iTup K (tVar 4)) (te := tVar 5) rfl scAreR.nd (pi_tup (pv 1))
          (blkOk_by (own := [("row", 4), ("task", 5)]) (N := ["self", "value", "longest", "rest", "row", "task"]) (sc := defScope sAreR) (by decide +kernel)) (by decide) (fun _ _ _ _ _ => pg_name (i := 4) scAreR.nd rfl (Or.inl rfl)) (fun _ _ _ _ _ => pts_nil) (fun _ _ _ _ _ => pi_tup (pv 4))
          (fun _ _ _ _ _ => pg_name (i := 5) scAreR.nd rfl (Or.inl rfl)) (fun _ _ _ _ _ => pts_nil) (fun _ _ _ _ _ => pv 5)) pa_nil))
          (pe_listRg rfl rfl zLs (prg_1 rfl zR (pe_callB call_len_seq (by rfl) zL PySem.boot_len (pa_cons (pe_fld (pv 0) rfl) pa_nil)))) (nomark _)))))
        (pss_one (ps_ret pe_bl)) pss_nil)
      (pss_one (ps_ret deadE))))), ?_⟩
    have nonD : ∀ {d : PyData}, Cp H .non d → d = .none := fun {d} c => by
      have z := c.dd (K := K)
      cases z with
      | base z _ => cases z; rfl
    refine ⟨_, rfl, rfl, _, rfl, ?_⟩
    by_cases en : dl = .none
    · subst en
      have ev : vl = .non := by
        have z := cl.dd (K := K)
        cases z with
        | base z _ => cases z; rfl
      subst ev
      obtain ⟨k3, k4⟩ := k2 rfl
      refine iteF ⟨_, rfl, vr, dr, rfl, ct, ft, fun q => ?_, fun q => k3 q⟩
      obtain ⟨hv, hb, fin⟩ := k4 q
      intro H1 s1
      have fin1 : ∀ H', Same H1 H' → Q (.bl false) H' := fun H' s => fin _ (Same.trans s1 s)
      have hv1 := hv.same s1
      have cr1 := cr.same s1
      match o, hv1, hb with
      | none, hv1, hb => exact rd_isiN rfl hv1 ⟨_, rfl, iteT (fin1 H1 (Same.refl _))⟩
      | some d, ⟨hd, hf⟩, hb =>
        refine rd_isi rfl hd (kit_tup d) ⟨_, rfl, ?_⟩
        match d, hd, hf, hb with
        | .tuple [], hd, hf, hb =>
          obtain ⟨a, xs, rfl, hs, hp, hnd⟩ := hd.tup_inv
          have e0 : xs = [] := by cases hp; rfl
          subst e0
          refine iteF ⟨_, rfl, a, rfl, ⟨[], hs⟩, fun D hD => lc_tup (K := K) (xs := []) (fun i H' => i = 0 ∧ Same H1 H' ∧ H' D = some (.lst [])) ⟨rfl, same_new hD, upd_same⟩ (fun i H' _ p => sqT_same p.2.1 hs) (fun i y H' hy p => by simp at hy) (fun H2 p => ?_)⟩
          obtain ⟨_, s2, hy2⟩ := p
          refine ⟨D, [], rfl, SqL.of hy2, _, rfl, iteF ?_⟩
          refine ⟨_, rfl, a, [], [], rfl, sqT_same s2 hs, .nil, by show 0 ≤ 1000; decide, (fun i x y h => by simp at h), fun H3 s3 => ⟨_, rfl, iteF ?_⟩⟩
          have s13 := Same.trans s2 s3
          refine ⟨_, rfl, a, rfl, ⟨[], sqT_same s13 hs⟩, fun D2 hD2 => lc2_it (walk_tup (xs := [])) (fun i H' => Same H3 H' ∧ H' D2 = some (.lst [])) ⟨same_new hD2, upd_same⟩ (fun i H' _ p => sqT_same p.1 (sqT_same s13 hs)) (fun i x H0' H' hi p y => by simp at hi) (fun H4 p => ?_)⟩
          obtain ⟨s4, hy4⟩ := p
          refine ⟨D2, [], rfl, SqL.of hy4, by decide, fun ns p pm _ np => ?_⟩
          have en : ns = [] := List.Perm.eq_nil pm
          subst en
          have s5 := Same.trans (Same.trans s13 s4) (same_new (o := .lst []) np)
          obtain ⟨dx, ta, wa, pa, xs', kt, kp, h1, h2, h3, h4, h5, h6, h7, h8, h9⟩ := cr1.same s5
          have el : xs'.length = ts.length := by rw [DpAll.length h3, List.length_map]
          refine ⟨_, rfl, x, C, dx, _, .ref ta, rfl, h1, k.c, k.nT, rfl, ta, xs', rfl, .inr h2, _, rfl, RgOk.of_le (by omega) (by omega) (by omega) (by omega), fun q nq => ?_⟩
          have hq0 : rgV 0 ((xs'.length : Nat) : Int) = ((List.range ts.length).map fun (i : Nat) => (i : Int)).map V.int := by
            unfold rgV
            rw [el, List.map_map, show ((ts.length : Nat) : Int) - 0 = ((ts.length : Nat) : Int) from by omega, Int.toNat_natCast]
            refine List.map_congr_left fun i _ => ?_
            show V.int (0 + (i : Int)) = V.int i
            rw [Int.zero_add]
          rw [hq0]
          refine ⟨.list [], .list (((List.range ts.length).map fun (i : Nat) => (i : Int)).map .int), .lst (SqL.of (by rw [upd_ne (ne_of_none upd_same nq)]; exact upd_same)) .nil, .lst (SqL.of upd_same) (ints_dp _), by kernel_rfl, ints_sh _, _, rfl, ?_⟩
          have ne : PyData.eqv (.list []) (.list (((List.range ts.length).map fun (i : Nat) => (i : Int)).map .int)) = false := by
            have pos : 0 < ts.length := of_decide_eq_true hb
            obtain ⟨m, em⟩ : ∃ m, ts.length = m + 1 := ⟨ts.length - 1, by omega⟩
            rw [em, List.range_succ_eq_map]
            rfl
          rw [ne]
          exact iteT (fin1 _ (Same.trans s5 (same_new nq)))
        | .tuple (d0 :: ds), hd, hf, hb =>
          obtain ⟨a, xs, rfl, hs, hp, hnd⟩ := hd.tup_inv
          obtain ⟨hl, hf1⟩ := hf.2 _ rfl
          have hall : ∀ y ∈ d0 :: ds, rowBad ts.length y = true := List.all_eq_true.mp hb
          have hlen := DpAll.length hp
          refine iteF ⟨_, rfl, a, rfl, ⟨xs, hs⟩, fun D hD => lc_tup (K := K) (xs := xs) (fun i H' => Same H1 H' ∧ H' D = some (.lst ((List.replicate i false).map V.bl))) ⟨same_new hD, upd_same⟩ (fun i H' _ p => sqT_same p.1 hs) (fun i y H' hy p => ?_) (fun H' p => ?_)⟩
          · obtain ⟨s2, hy2⟩ := p
            obtain ⟨d, hd, hr⟩ := DpAll.at hp hy
            have hm : d ∈ d0 :: ds := List.mem_of_getElem? hd
            obtain ⟨dx, ta, wa, pa, xs', kt, kp, h1, h2, h3, _⟩ := cr1.same s2
            have hix : i < xs.length := by
              rcases Nat.lt_or_ge i xs.length with q | q
              · exact q
              · rw [List.getElem?_eq_none q] at hy; cases hy
            refine ⟨rfl, tyes ⟨_, rfl, x, dx, _, rfl, h1, rfl, _, rfl, _, rfl, x, y, vr, d, ts, ws, rfl, cr1.same s2, .base (Dp.same s2 hr) (hnd d hm), hf1 d hm, hall d hm, fun H3 s3 => ⟨_, s3 _ _ hy2, ?_, same_mut (Same.trans s2 s3) hD, ?_⟩⟩⟩
            · rw [List.length_map, List.length_replicate, sizeLine_eq]
              omega
            · rw [upd_same, ← List.map_singleton (f := V.bl), ← List.map_append, List.replicate_succ']
          · obtain ⟨s2, hy2⟩ := p
            refine ⟨D, _, rfl, SqL.of hy2, _, rfl, ?_⟩
            have ef : (List.replicate xs.length false).all id = false := by
              rw [hlen]
              rfl
            rw [ef]
            exact iteT (fin1 H' s2)
        | .none, _, _, _ => exact iteT (fin1 H1 (Same.refl _))
        | .bool _, _, _, _ => exact iteT (fin1 H1 (Same.refl _))
        | .int _, _, _, _ => exact iteT (fin1 H1 (Same.refl _))
        | .str _, _, _, _ => exact iteT (fin1 H1 (Same.refl _))
        | .list _, _, _, _ => exact iteT (fin1 H1 (Same.refl _))
        | .dict _, _, _, _ => exact iteT (fin1 H1 (Same.refl _))
    · obtain ⟨q, thr⟩ := k1 en
      have ne : vl ≠ .non := fun e => en (nonD (e ▸ cl))
      rw [decide_eq_false ne]
      exact iteT ⟨_, rfl, vl, dl, rfl, cl, fl, (fun q2 => by rw [q] at q2; cases q2), fun _ => thr⟩
end
end K4
namespace K4
open PySem PySem.Spec PyProof.Rows L2 DW
abbrev sPaper : Stmt := mth 8
abbrev sIsPap : Stmt := mth 9
section
variable {P : Program} {w : World} {K : PySem.W.Frag} {mg : Str → Option Value} {base : Heap}
def papBad (n : Nat) : Option PyData → Bool
  | some (.tuple [a, b]) => SeqAt.shaped a && (if PyData.eqv a (.str "rosters") = true then rosBad n (some b) else if PyData.eqv a (.str "crowd") = true then crowdBad n b else true) | _ => true
def spPap (K : PySem.W.Frag) (C CN : Addr) : Sp := fun vs H Q E => ∃ (x : Addr) (vh : V) (dh : PyData) (ts : List Tk) (ws : Ws), vs = [.ref x, vh] ∧ CrewAt K C H x ts ws ∧ Cp H vh dh ∧ Fit dh ∧ numD dh = false ∧ Thrown H CN "given" dh E
theorem scPaper : FnScope ["self", "hands", "crowd"] ["self", "hands"] (defScope sPaper) := ⟨rfl, rfl, rfl, by decide +kernel, rfl, by decide +kernel, by decide +kernel⟩
theorem ok_paper {f fN C CN : Addr} {fd dN : FuncData} (F : Fun K "paper" "Crew.paper" sPaper f fd) (CN' : CalX P w K mg base 7 "_need_number" ["value"] (spNeedN K CN) fN dN) : FnGX P w K mg base (L2.CX P w) 8 f fd ["self", "hands"] (spPap K C CN) := by
  refine fngx F scPaper (fun vs H Q E h => ?_) (fun cdv A outer s H vs Q E hr hgu h => ?_)
  · obtain ⟨x, vh, dh, ts, ws, rfl, _⟩ := h
    rfl
  · obtain ⟨x, vh, dh, ts, ws, rfl, cr, ch, fh, nb, thr⟩ := h
    refine ⟨_, pss_cons (ps_expr (pe_calX CN' hr hgu rfl (takes_of rfl rfl rfl rfl) (pa_cons (pv 1) pa_nil))) dead, ?_⟩
    exact ⟨_, rfl, vh, dh, rfl, ch, fh, (fun q => by rw [nb] at q; cases q), fun _ => thr⟩
def spIsPap (K : PySem.W.Frag) (C CN : Addr) : Sp := fun vs H Q E => ∃ (x : Addr) (vh v : V) (dh : PyData) (o : Option PyData) (ts : List Tk) (ws : Ws), vs = [.ref x, vh, v] ∧ CrewAt K C H x ts ws ∧ Cp H vh dh ∧ Fit dh ∧
  (numD dh = false → Thrown H CN "given" dh E) ∧ (numD dh = true → ValK 3 K H v o ∧ papBad ts.length o = true ∧ ∀ H', Same H H' → Q (.bl false) H')
theorem scIsPap : FnScope ["self", "hands", "value"] ["self", "hands", "value"] (defScope sIsPap) := ⟨rfl, rfl, rfl, by decide +kernel, rfl, by decide +kernel, by decide +kernel⟩
theorem ok_isPap {f fN fP fR fC C CN : Addr} {fd dN dP dR dC : FuncData} {ds : List Value} (F : Fun K "is_paper" "Crew.is_paper" sIsPap f fd) (k : CrK K C)
    (CN' : CalX P w K mg base 7 "_need_number" ["value"] (spNeedN K CN) fN dN) (CP : Cal P w K mg base 1 "is_pair" ["value"] (spPair2 K) fP dP) (MR : MCal P w K mg base (L2.CX P w) 8 C "are_rosters" ["self", "value", "longest", "rest"] ds (spRos K C CN) fR dR) (hds : Vals [V.non, V.int 0] ds)
    (MC : MCal P w K mg base CX0 2 C "_is_crowd" ["self", "value"] [] (spCrowdB K C) fC dC) : FnGX P w K mg base (L2.CX P w) 9 f fd ["self", "hands", "value"] (spIsPap K C CN) := by
  refine fngx F scIsPap (fun vs H Q E h => ?_) (fun cdv A outer s H vs Q E hr hgu h => ?_)
  · obtain ⟨x, vh, v, dh, o, ts, ws, rfl, _⟩ := h
    rfl
  · obtain ⟨x, vh, v, dh, o, ts, ws, rfl, cr, ch, fh, k1, k2⟩ := h
    refine ⟨_, pss_cons (ps_expr (pe_calX CN' hr hgu rfl (takes_of rfl rfl rfl rfl) (pa_cons (pv 1) pa_nil)))
      (pss_cons (ps_if (pt_not (pt_val (pe_cal (E := E0) CP hr rfl (pa_cons (pv 2) pa_nil)))) (pss_one (ps_ret pe_bl)) pss_nil)
      (pss_cons (ps_if (pt_cmpR (op_eqD hr.units) (pe_ix (r := rIxT K) ix_tup (pv 2) pe_int (fun _ _ => rfl)) pe_str (nomark _))
        (pss_one (ps_ret (pe_and (pe_methX (E := E) (pv 0) k.c MR.m MR.G hr hgu MR.b hds (passE (takes_of rfl rfl rfl rfl)) (pa_cons (pe_ix (r := rIxT K) ix_tup (pv 2) pe_int (fun _ _ => rfl)) pa_nil)) (pe_one deadE)))) pss_nil)
      (pss_one (ps_ret (pe_and (pe_cmpR (op_eqD hr.units) (pe_ix (r := rIxT K) ix_tup (pv 2) pe_int (fun _ _ => rfl)) pe_str (nomark _))
        (pe_and (pe_methX (E := E0) (pv 0) k.c MC.m MC.G (hr.mono (by decide)) hgu MC.b .nil (fun _ _ _ _ _ _ _ h => h.elim) (pa_cons (pe_ix (r := rIxT K) ix_tup (pv 2) pe_int (fun _ _ => rfl)) pa_nil)) (pe_one deadE))))))), ?_⟩
    refine ⟨_, rfl, vh, dh, rfl, ch, fh, fun q => ?_, fun q => k1 q⟩
    obtain ⟨hv, hb, fin⟩ := k2 q
    intro H1 s1
    have fin1 : ∀ H', Same H1 H' → Q (.bl false) H' := fun H' s => fin _ (Same.trans s1 s)
    have hv1 := hv.same s1
    match o, hv1, hb with
    | none, hv1, _ => exact ⟨_, rfl, v, rfl, .inr ⟨hv1, fun H2 s2 => ⟨_, rfl, iteT (fin1 H2 s2)⟩⟩⟩
    | some d, ⟨hd, hf⟩, hb =>
      refine ⟨_, rfl, v, rfl, .inl ⟨d, hd, fun H2 s2 => ⟨_, rfl, ?_⟩⟩⟩
      by_cases hp2 : pairD d = true
      · rw [hp2]
        refine iteF ?_
        match d, hd, hf, hb, hp2 with
        | .tuple ds, hd, hf, hb, hp2 =>
          have l2 : ds.length = 2 := of_decide_eq_true hp2
          obtain ⟨a, xs, rfl, hs, hp, hnd⟩ := hd.tup_inv
          obtain ⟨x1, x2, a1, b1, rfl, rfl, p1, p2⟩ := DpAll.two hp l2
          obtain ⟨_, hf1⟩ := hf.2 _ rfl
          have hb : (SeqAt.shaped a1 && (if PyData.eqv a1 (.str "rosters") = true then rosBad ts.length (some b1) else if PyData.eqv a1 (.str "crowd") = true then crowdBad ts.length b1 else true)) = true := hb
          rw [Bool.and_eq_true] at hb
          have fb := hf1 b1 (by simp)
          have nb := hnd b1 (by simp)
          have hs2 := sqT_same s2 hs
          have p12 := Dp.same s2 p1
          refine ⟨_, rfl, a, _, 0, x1, rfl, rfl, hs2, atI_nat (j := 0) rfl, a1, .str "rosters", p12, .str _, hb.1, by kernel_rfl, _, rfl, ?_⟩
          have cr2 := cr.same (Same.trans s1 s2)
          obtain ⟨dx, ta, wa, pa, xs', kt, kp, h1, _⟩ := id cr2
          cases c1 : PyData.eqv a1 (.str "rosters") with
          | true =>
            rw [if_pos c1] at hb
            exact iteT ⟨_, rfl, x, dx, _, rfl, h1, rfl, _, rfl, a, _, 1, x2, rfl, rfl, hs2, atI_nat (j := 1) rfl, x, x2, .non, .int 0, some b1, .none, .int 0, ts, ws, rfl, cr2, .inl (.inl ⟨rfl, rfl⟩), (fun z e => by cases e), .inl (.inr (.inr (.inl ⟨0, rfl, rfl⟩))), (fun z e => by cases e), (fun n => absurd rfl n),
              fun _ => ⟨(fun q => by cases q), fun _ => ⟨⟨.base (Dp.same s2 p2) nb, fb⟩, hb.2, fun H3 s3 => ⟨_, rfl, iteF (fin1 H3 (Same.trans s2 s3))⟩⟩⟩⟩
          | false =>
            rw [if_neg (by rw [c1]; exact Bool.false_ne_true)] at hb
            refine iteF ⟨_, rfl, a, _, 0, x1, rfl, rfl, hs2, atI_nat (j := 0) rfl, a1, .str "crowd", p12, .str _, hb.1, by kernel_rfl, _, rfl, ?_⟩
            cases c2 : PyData.eqv a1 (.str "crowd") with
            | true =>
              rw [if_pos c2] at hb
              exact iteT ⟨_, rfl, x, dx, _, rfl, h1, rfl, _, rfl, a, _, 1, x2, rfl, rfl, hs2, atI_nat (j := 1) rfl, x, x2, b1, ts, ws, rfl, cr2, .base (Dp.same s2 p2) nb, Fn_mono fb, hb.2, fun H3 s3 => ⟨_, rfl, iteF (fin1 H3 (Same.trans s2 s3))⟩⟩
            | false => exact iteF (fin1 H2 s2)
      · rw [Bool.not_eq_true] at hp2
        rw [hp2]
        exact iteT (fin1 H2 s2)
end
end K4
namespace K4
open PySem PySem.Spec PyProof.Rows L2 DW
abbrev sFol : Stmt := mth 14
abbrev sMatched : Stmt := mth 18
abbrev sMatch : Stmt := mth 19
section
variable {P : Program} {w : World} {K : PySem.W.Frag} {mg : Str → Option Value} {base : Heap}
def folB (ts : List Tk) (ws : Ws) (i j : Nat) (r : Int) : Bool := decide ((ts.getD i (0, 0, "")).1 ≥ (ts.getD j (0, 0, "")).2.1 + wk ws (ts.getD j (0, 0, "")).2.2 (ts.getD i (0, 0, "")).2.2 + r)
def spFol (K : PySem.W.Frag) (C : Addr) : Sp := fun vs H Q _ => ∃ (x : Addr) (i j : Nat) (r : Int) (ts : List Tk) (ws : Ws), vs = [.ref x, .int i, .int j, .int r] ∧ CrewAt K C H x ts ws ∧ i < ts.length ∧ j < ts.length ∧ ∀ H', Same H H' → Q (.bl (folB ts ws i j r)) H'
theorem scFol : FnScope ["self", "task", "other", "rest", "first", "_", "place", "last", "away"] ["self", "task", "other", "rest"] (defScope sFol) := ⟨rfl, rfl, rfl, by decide +kernel, rfl, by decide +kernel, by decide +kernel⟩
theorem ok_fol {f C : Addr} {fd : FuncData} (F : Fun K "_follows" "Crew._follows" sFol f fd) (k : CrK K C) : FnOk P w K mg base CX0 1 f fd ["self", "task", "other", "rest"] (spFol K C) := by
  refine F.ok scFol (fun vs H Q E h => ?_) (fun cdv A outer s H vs Q E hr h => ?_)
  · obtain ⟨x, i, j, r, ts, ws, rfl, _⟩ := h
    rfl
  · obtain ⟨x, i, j, r, ts, ws, rfl, cr, hi, hj, q⟩ := h
    refine ⟨_, pss_cons (ps_asg (pe_ix (r := rIxT K) ix_tup (pe_fld (pv 0) rfl) (pv 1) (fun _ _ => rfl)) (pg_tup rfl (pgs_cons (pg_name (i := 4) scFol.nd rfl (.inl rfl)) (pgs_cons (pg_name (i := 5) scFol.nd rfl (.inl rfl)) (pgs_cons (pg_name (i := 6) scFol.nd rfl (.inl rfl)) pgs_nil)))))
      (pss_cons (ps_asg (pe_ix (r := rIxT K) ix_tup (pe_fld (pv 0) rfl) (pv 2) (fun _ _ => rfl)) (pg_tup rfl (pgs_cons (pg_name (i := 5) scFol.nd rfl (.inl rfl)) (pgs_cons (pg_name (i := 7) scFol.nd rfl (.inl rfl)) (pgs_cons (pg_name (i := 8) scFol.nd rfl (.inl rfl)) pgs_nil)))))
      (pss_one (ps_ret (pe_cmpR op_ge (pv 4) (pe_op op_add (pe_op op_add (pv 7) (pe_dget2 (hu_of hr) (pe_fld (pv 0) rfl) (pe_tup (pa_cons (pv 8) (pa_cons (pv 6) pa_nil))) pe_int ⟨rfl, by rfl, rfl, rfl⟩)) (pv 3)) (nomark _))))), ?_⟩
    obtain ⟨dx, ta, wa, pa, xs, kt, kp, h1, h2, h3, h4, h5, h6, h7, h8, h9⟩ := cr
    have el : xs.length = ts.length := by rw [DpAll.length h3, List.length_map]
    have ai : xs[i]? = some xs[i] := List.getElem?_eq_getElem (by omega)
    have aj : xs[j]? = some xs[j] := List.getElem?_eq_getElem (by omega)
    obtain ⟨di, e1, r1⟩ := DpAll.at h3 ai
    obtain ⟨dj, e2, r2⟩ := DpAll.at h3 aj
    rw [List.getElem?_map] at e1 e2
    obtain ⟨ti, g1, rfl⟩ := Option.map_eq_some_iff.mp e1
    obtain ⟨tj, g2, rfl⟩ := Option.map_eq_some_iff.mp e2
    obtain ⟨b1, v1, q1⟩ := task_at r1
    obtain ⟨b2, v2, q2⟩ := task_at r2
    refine ⟨_, rfl, x, C, dx, _, .ref ta, rfl, h1, k.c, k.nT, rfl, _, rfl, ta, xs, _, _, rfl, rfl, h2, atI_nat ai, ?_⟩
    rw [v1]
    refine ⟨b1, _, rfl, q1, rfl, _, _, rfl, _, _, rfl, _, _, rfl, rfl, ?_⟩
    refine ⟨_, rfl, x, C, dx, _, .ref ta, rfl, h1, k.c, k.nT, rfl, _, rfl, ta, xs, _, _, rfl, rfl, h2, atI_nat aj, ?_⟩
    rw [v2]
    refine ⟨b2, _, rfl, q2, rfl, _, _, rfl, _, _, rfl, _, _, rfl, rfl, ?_⟩
    refine ⟨_, rfl, _, rfl, _, rfl, x, C, dx, _, .ref wa, rfl, h1, k.c, k.nW, rfl, wa, rfl, .inr ⟨kt, .inl h4⟩, _, rfl, _, rfl, by show 2 ≤ sizeLine; decide, fun p np => ?_⟩
    have s1 := same_new (o := .tup [V.str tj.2.2, V.str ti.2.2]) np
    refine ⟨_, .inr ⟨kt, kP tj.2.2 ti.2.2, p, .inl (s1 _ _ h4), rfl, upd_same, rfl⟩, ?_⟩
    have eg : (valV kt (kP tj.2.2 ti.2.2)).getD (.int 0) = .int (wk ws tj.2.2 ti.2.2) := by
      rw [h5, ← h8.get]
      exact congrArg (fun o => Option.getD o (V.int 0)) (valV_tK ws [tj.2.2, ti.2.2])
    rw [eg]
    refine ⟨_, _, rfl, rfl, _, rfl, _, _, rfl, rfl, _, _, rfl, rfl, ?_⟩
    have z := q _ s1
    unfold folB at z
    rw [List.getD_eq_getElem?_getD, List.getD_eq_getElem?_getD, g1, g2] at z
    exact z
def chainT : List Tk := (List.range 60).map fun (i : Nat) => ((i : Int), (i : Int) + 1, ("a" : Str))
theorem chain_len : chainT.length = 60 := by unfold chainT; rw [List.length_map, List.length_range]
theorem chain_at {i : Nat} (h : i < 60) : chainT.getD i (0, 0, "") = ((i : Int), (i : Int) + 1, ("a" : Str)) := by
  unfold chainT
  rw [List.getD_eq_getElem?_getD, List.getElem?_map, List.getElem?_range h]
  rfl
theorem chain_fol {i j : Nat} (hi : i < 60) (hj : j < 60) : folB chainT [] i j 0 = decide (j < i) := by
  unfold folB
  rw [chain_at hi, chain_at hj]
  by_cases h : j < i
  · rw [decide_eq_true h]
    refine decide_eq_true ?_
    show (i : Int) ≥ (j : Int) + 1 + 0 + 0
    omega
  · rw [decide_eq_false h]
    refine decide_eq_false ?_
    show ¬ (i : Int) ≥ (j : Int) + 1 + 0 + 0
    omega
def beh (t : Nat) : List (Key × V) := (List.range t).map fun (i : Nat) => (.inl ((i : Int) + 1), .int i)
theorem beh_none {t i : Nat} (h : i = 0 ∨ t < i) : valV (beh t) (.inl (i : Int)) = none := by
  cases e : valV (beh t) (.inl (i : Int)) with
  | none => rfl
  | some v =>
    have m := valV_mem e
    unfold beh at m
    obtain ⟨j, hj, e2⟩ := List.mem_map.mp m
    have hj := List.mem_range.mp hj
    have e3 : ((j : Int) + 1) = i := by injection e2 with a b; injection a
    omega
theorem beh_put (t : Nat) : putK (beh t) (.inl ((t + 1 : Nat) : Int)) (.int (t : Int)) = beh (t + 1) := by
  rw [putK_new _ (beh_none (.inr (Nat.lt_succ_self t)))]
  unfold beh
  rw [List.range_succ, List.map_append]
  rfl
def But2 (D D' : Addr) (H H' : Hp) : Prop := ∀ b o, b ≠ D → b ≠ D' → H b = some o → H' b = some o
def spMatch (K : PySem.W.Frag) (C : Addr) : Sp := fun vs H Q _ => ∃ (x b tr : Addr) (t : Nat), vs = [.ref x, .ref b, .ref tr, .int t] ∧ CrewAt K C H x chainT [] ∧ H b = some (.dK (beh t)) ∧ H tr = some (.dK []) ∧ b ≠ tr ∧ t < 60 ∧
  (t < 59 → ∀ H', But2 b tr H H' → H' b = some (.dK (beh (t + 1))) → Q (.bl true) H') ∧ (t = 59 → ∀ H', Same H H' → Q (.bl false) H')
theorem scMatch : FnScope ["self", "behind", "tried", "task", "other"] ["self", "behind", "tried", "task"] (defScope sMatch) := ⟨rfl, rfl, rfl, by decide +kernel, rfl, by decide +kernel, by decide +kernel⟩
theorem ok_match {f fF C : Addr} {fd dF : FuncData} (F : Fun K "_match" "Crew._match" sMatch f fd) (k : CrK K C) (GF : FnOk P w K mg base CX0 1 fF dF ["self", "task", "other", "rest"] (spFol K C)) (mF : Meth K C "_follows" fF) (bF : Binds K dF ["self", "task", "other", "rest"] [])
    (zR : mg "range" = none) (zL : mg "len" = none) : FnOk P w K mg base CX0 2 f fd ["self", "behind", "tried", "task"] (spMatch K C) := by
  refine F.ok scMatch (fun vs H Q E h => ?_) (fun cdv A outer s H vs Q E hr h => ?_)
  · obtain ⟨x, b, tr, t, rfl, _⟩ := h
    rfl
  · obtain ⟨x, b, tr, t, rfl, cr, hb, htr, ne, ht, q1, q2⟩ := h
    refine ⟨_, pss_cons (ps_for PassesOwn.never rfl (pi_range1 rfl zR (pa_cons (pe_callB call_len_seq (by rfl) zL PySem.boot_len (pa_cons (pe_fld (pv 0) rfl) pa_nil)) pa_nil)) (pg_name (i := 4) scMatch.nd rfl (.inl rfl))
        (pss_one (ps_if (PW.pt (pw_and (pt_cmp (pc_dnotin (hu_of hr) (pv 4) (pv 2))) (pw_and1 (pt_val (pe_meth (E := E0) (pv 0) k.c mF GF hr bF .nil pass0 (pa_cons (pv 4) (pa_cons (pv 3) (pa_cons pe_int pa_nil))))))))
          (pss_cons (ps_dput (hu_of hr) (pv 2) (pv 4) pe_bl rfl)
            (pss_one (ps_if (PW.pt (pw_or (pt_cmp (pc_dnotin (hu_of hr) (pv 4) (pv 1))) (pw_or1 deadT)))
              (pss_cons (ps_dput (hu_of hr) (pv 1) (pv 4) (pv 3) rfl) (pss_one (ps_ret pe_bl))) pss_nil))) pss_nil)))
      (pss_one (ps_ret pe_bl)), ?_⟩
    obtain ⟨dx, ta, wa, pa, xs, kt, kp, h1, h2, h3, _⟩ := id cr
    have el : xs.length = 60 := by rw [DpAll.length h3, List.length_map, chain_len]
    refine ⟨_, rfl, x, C, dx, _, .ref ta, rfl, h1, k.c, k.nT, rfl, ta, xs, rfl, .inr h2, _, rfl, by omega, by omega, ?_⟩
    rw [el]
    refine for_range (lo := 0) (n := 60) (fun i σ H' => i ≤ t + 1 ∧ (∃ x4, σ = [some (.ref x), some (.ref b), some (.ref tr), some (.int t), x4]) ∧ Same H H') ⟨Nat.zero_le _, ⟨none, rfl⟩, Same.refl _⟩ (fun i σ H' hi p => ?_) (fun σ H' p => ?_)
    · obtain ⟨l1, ⟨x4, rfl⟩, s1⟩ := p
      have z0 : (0 : Int) + (i : Nat) = ((i : Nat) : Int) := by omega
      rw [z0]
      refine ⟨_, rfl, _, rfl, tr, _, rfl, DGet.k (k := .inl (i : Int)) (s1 _ _ htr), _, rfl, iteT ?_⟩
      refine ⟨_, rfl, x, dx, _, rfl, s1 _ _ h1, rfl, _, rfl, _, rfl, x, i, t, 0, chainT, [], rfl, cr.same s1, by rw [chain_len]; exact hi, by rw [chain_len]; exact ht, fun H2 s2 => ⟨_, rfl, ?_⟩⟩
      rw [chain_fol hi ht]
      have s3 := Same.trans s1 s2
      by_cases h : t < i
      · have e : i = t + 1 := by omega
        subst e
        rw [decide_eq_true h]
        refine iteT ⟨_, rfl, _, rfl, tr, _, rfl, DPut.k (k := .inl ((t + 1 : Nat) : Int)) (s3 _ _ htr) (by rw [sizeLine_eq]; show 0 < _; omega), ?_⟩
        have hb2 : upd H2 tr (.dK (putK [] (.inl ((t + 1 : Nat) : Int)) (.bl true))) b = some (.dK (beh t)) := by rw [upd_ne ne]; exact s3 _ _ hb
        refine ⟨_, rfl, _, rfl, b, _, rfl, DGet.k (k := .inl ((t + 1 : Nat) : Int)) hb2, _, rfl, ?_⟩
        rw [beh_none (.inr h)]
        refine iteT ⟨_, rfl, _, rfl, _, rfl, b, _, rfl, DPut.k (k := .inl ((t + 1 : Nat) : Int)) hb2 (by unfold beh; rw [List.length_map, List.length_range, sizeLine_eq]; omega), ?_⟩
        refine q1 (by omega) _ (fun c o n1 n2 e => ?_) ?_
        · rw [upd_ne n1, upd_ne n2]
          exact s3 _ _ e
        · rw [upd_same, beh_put]
      · rw [decide_eq_false h]
        exact iteF ⟨by omega, ⟨_, rfl⟩, s3⟩
    · obtain ⟨l1, _, s1⟩ := p
      exact q2 (by omega) H' s1
end
end K4
namespace K4
open PySem PySem.Spec PyProof.Rows L2 DW
abbrev sFewest : Stmt := mth 5
abbrev sRosters : Stmt := mth 6
section
variable {P : Program} {w : World} {K : PySem.W.Frag} {mg : Str → Option Value} {base : Heap}
def spMatched (K : PySem.W.Frag) (C : Addr) : Sp := fun vs H Q _ => ∃ (x : Addr), vs = [.ref x] ∧ CrewAt K C H x chainT [] ∧ ∀ (b : Addr) H', H b = none → Same H H' → H' b = some (.dK (beh 59)) → Q (.ref b) H'
theorem scMatched : FnScope ["self", "behind", "task"] ["self"] (defScope sMatched) := ⟨rfl, rfl, rfl, by decide +kernel, rfl, by decide +kernel, by decide +kernel⟩
theorem ok_matched {f fM C : Addr} {fd dM : FuncData} (F : Fun K "_matched" "Crew._matched" sMatched f fd) (k : CrK K C) (GM : FnOk P w K mg base CX0 2 fM dM ["self", "behind", "tried", "task"] (spMatch K C)) (mM : Meth K C "_match" fM) (bM : Binds K dM ["self", "behind", "tried", "task"] [])
    (zR : mg "range" = none) (zL : mg "len" = none) : FnOk P w K mg base CX0 3 f fd ["self"] (spMatched K C) := by
  refine F.ok scMatched (fun vs H Q E h => ?_) (fun cdv A outer s H vs Q E hr h => ?_)
  · obtain ⟨x, rfl, _⟩ := h
    rfl
  · obtain ⟨x, rfl, cr, q⟩ := h
    refine ⟨_, pss_cons (ps_set (i := 1) scMatched.nd rfl (Or.inl rfl) pe_dnewK)
      (pss_cons (ps_for PassesOwn.never rfl (pi_range1 rfl zR (pa_cons (pe_callB call_len_seq (by rfl) zL PySem.boot_len (pa_cons (pe_fld (pv 0) rfl) pa_nil)) pa_nil)) (pg_name (i := 2) scMatched.nd rfl (.inl rfl))
        (pss_one (ps_expr (pe_meth (E := E0) (pv 0) k.c mM GM hr bM .nil pass0 (pa_cons (pv 1) (pa_cons pe_dnewK (pa_cons (pv 2) pa_nil)))))))
      (pss_one (ps_ret (pv 1)))), ?_⟩
    intro b nb
    have s0 := same_new (o := .dK []) nb
    obtain ⟨dx, ta, wa, pa, xs, kt, kp, h1, h2, h3, _⟩ := cr.same s0
    have el : xs.length = 60 := by rw [DpAll.length h3, List.length_map, chain_len]
    refine ⟨_, rfl, x, C, dx, _, .ref ta, rfl, h1, k.c, k.nT, rfl, ta, xs, rfl, .inr h2, _, rfl, by omega, by omega, ?_⟩
    rw [el]
    refine for_range (lo := 0) (n := 60) (fun i σ H' => (∃ x2, σ = [some (.ref x), some (.ref b), x2]) ∧ But b H H' ∧ H' b = some (.dK (beh (min i 59)))) ⟨⟨none, rfl⟩, Same.but s0, upd_same⟩ (fun i σ H' hi p => ?_) (fun σ H' p => ?_)
    · obtain ⟨⟨x2, rfl⟩, s1, hb⟩ := p
      have z0 : (0 : Int) + (i : Nat) = ((i : Nat) : Int) := by omega
      rw [z0]
      have sm : Same H H' := fun c o e => s1 c o (ne_of_none e nb) e
      obtain ⟨dx, ta, wa, pa, xs, kt, kp, h1, h2, h3, _⟩ := cr.same sm
      refine ⟨_, rfl, x, dx, _, rfl, h1, rfl, _, rfl, fun tr ntr => ?_⟩
      have s2 := same_new (o := .dK []) ntr
      have bt : b ≠ tr := ne_of_none hb ntr
      have em : min i 59 = i := by omega
      rw [em] at hb
      refine ⟨_, rfl, x, b, tr, i, rfl, cr.same (Same.trans sm s2), by rw [upd_ne bt]; exact hb, upd_same, bt, hi, fun l H3 b3 hb3 => ⟨⟨_, rfl⟩, fun c o nc e => ?_, ?_⟩, fun l H3 s3 => ⟨⟨_, rfl⟩, fun c o nc e => s3 _ _ (s2 _ _ (s1 c o nc e)), ?_⟩⟩
      · have e1 := s1 c o nc e
        have n2 := ne_of_none e1 ntr
        exact b3 c o nc n2 (by rw [upd_ne n2]; exact e1)
      · rw [show min (i + 1) 59 = i + 1 from by omega]
        exact hb3
      · rw [show min (i + 1) 59 = i from by omega]
        exact s3 _ _ (by rw [upd_ne bt]; exact hb)
    · obtain ⟨⟨x2, rfl⟩, s1, hb⟩ := p
      exact ⟨_, rfl, q b H' nb (fun c o e => s1 c o (ne_of_none e nb) e) hb⟩
def ond (t : Nat) : List (Key × V) := (List.range t).map fun (i : Nat) => (.inl (i : Int), .int ((i : Int) + 1))
theorem ond_none {t i : Nat} (h : t ≤ i) : valV (ond t) (.inl (i : Int)) = none := by
  cases e : valV (ond t) (.inl (i : Int)) with
  | none => rfl
  | some v =>
    have m := valV_mem e
    unfold ond at m
    obtain ⟨j, hj, e2⟩ := List.mem_map.mp m
    have hj := List.mem_range.mp hj
    have e3 : (j : Int) = i := by injection e2 with a b; injection a
    omega
theorem ond_put (t : Nat) : putK (ond t) (.inl (t : Int)) (.int ((t : Int) + 1)) = ond (t + 1) := by
  rw [putK_new _ (ond_none (Nat.le_refl t))]
  unfold ond
  rw [List.range_succ, List.map_append]
  rfl
theorem ond_some {t i : Nat} (h : i < t) : valV (ond t) (.inl (i : Int)) = some (.int ((i : Int) + 1)) := by
  induction t with
  | zero => omega
  | succ t ih =>
    rw [← ond_put, valV_put]
    by_cases e : i = t
    · subst e
      rw [if_pos rfl]
    · rw [if_neg (fun z => e (by injection z with z; omega)), ih (by omega)]
theorem beh_some {t i : Nat} (h : i < t) : valV (beh t) (.inl ((i + 1 : Nat) : Int)) = some (.int (i : Int)) := by
  induction t with
  | zero => omega
  | succ t ih =>
    rw [← beh_put, valV_put]
    by_cases e : i = t
    · subst e
      rw [if_pos rfl]
    · rw [if_neg (fun z => e (by injection z with z; omega)), ih (by omega)]
def rowV (n : Nat) : List V := (List.range n).map fun (i : Nat) => V.int i
def spRosters (K : PySem.W.Frag) (C : Addr) : Sp := fun vs H Q _ => ∃ (x : Addr), vs = [.ref x] ∧ CrewAt K C H x chainT [] ∧ ∀ (p : Addr) (xs : List V) H', H p = none → Same H H' → H' p = some (.tup xs) → xs.length = 1 → Q (.ref p) H'
theorem scRosters : FnScope ["self", "onward", "behind", "task", "rows", "first", "row"] ["self"] (defScope sRosters) := ⟨rfl, rfl, rfl, by decide +kernel, rfl, by decide +kernel, by decide +kernel⟩
theorem ok_rosters {f fM C : Addr} {fd dM : FuncData} (F : Fun K "rosters" "Crew.rosters" sRosters f fd) (k : CrK K C) (GM : FnOk P w K mg base CX0 3 fM dM ["self"] (spMatched K C)) (mM : Meth K C "_matched" fM) (bM : Binds K dM ["self"] [])
    (zR : mg "range" = none) (zL : mg "len" = none) (zT : mg "tuple" = none) : FnOk P w K mg base CX0 4 f fd ["self"] (spRosters K C) := by
  refine F.ok scRosters (fun vs H Q E h => ?_) (fun cdv A outer s H vs Q E hr h => ?_)
  · obtain ⟨x, rfl, _⟩ := h
    rfl
  · obtain ⟨x, rfl, cr, q⟩ := h
    refine ⟨_, pss_cons (ps_set (i := 1) scRosters.nd rfl (Or.inl rfl) pe_dnewK)
      (pss_cons (ps_set (i := 2) scRosters.nd rfl (Or.inl rfl) (pe_meth0 (E := E0) (pv 0) k.c mM GM hr bM .nil pass0))
      (pss_cons (ps_lock (ps_for PassesOwn.never rfl (pi_keys (pv 2)) (pg_name (i := 3) scRosters.nd rfl (.inl rfl))
        (pss_one (ps_dput (hu_of hr) (pv 1) (pe_dget (hu_of hr) (pv 2) (pv 3) (fun _ _ => rfl)) (pv 3) rfl))))
      (pss_cons (ps_set (i := 4) scRosters.nd rfl (Or.inl rfl) (pe_lst pa_nil))
      (pss_cons (ps_for PassesOwn.never rfl (pi_range1 rfl zR (pa_cons (pe_callB call_len_seq (by rfl) zL PySem.boot_len (pa_cons (pe_fld (pv 0) rfl) pa_nil)) pa_nil)) (pg_name (i := 5) scRosters.nd rfl (.inl rfl))
        (pss_one (ps_if (pt_cmp (pc_dnotin (hu_of hr) (pv 5) (pv 2)))
          (pss_cons (ps_set (i := 6) scRosters.nd rfl (Or.inl rfl) (pe_lst (pa_cons (pv 5) pa_nil)))
          (pss_cons (ps_while PassesOwn.never (pt_cmp (pc_din (hu_of hr) (pe_ix ix_list (pv 6) (pe_un un_neg pe_int) (fun _ _ => rfl)) (pv 1)))
            (pss_one (ps_expr (pe_bm PySem.F.plainAttrs_list PySem.F.slot_list_append PySem.F.type_list_append mt_append (pv 6) (pa_cons (pe_dget (hu_of hr) (pv 1) (pe_ix ix_list (pv 6) (pe_un un_neg pe_int) (fun _ _ => rfl)) (fun _ _ => rfl)) pa_nil)))))
          (pss_one (ps_expr (pe_bm PySem.F.plainAttrs_list PySem.F.slot_list_append PySem.F.type_list_append mt_append (pv 4) (pa_cons (pe_callTy call_tuple_of (by rfl) zT (by decide +kernel) (pa_cons (pv 6) pa_nil)) pa_nil)))))) pss_nil)))
      (pss_one (ps_ret (pe_callTy call_tuple_of (by rfl) zT (by decide +kernel) (pa_cons (pv 4) pa_nil)))))))), ?_⟩
    intro ow now
    have s0 := same_new (o := .dK []) now
    obtain ⟨dx, ta, wa, pa, xs, kt, kp, h1, h2, h3, _⟩ := cr.same s0
    refine ⟨_, rfl, x, dx, _, rfl, h1, rfl, x, rfl, cr.same s0, fun b H1 nb s1 hb => ?_⟩
    have how1 : H1 ow = some (.dK []) := s1 _ _ upd_same
    have bo : b ≠ ow := (ne_of_none (upd_same (H := H) (a := ow) (o := .dK [])) nb).symm
    refine ⟨b, .dK (beh 59), hb, mut_dK, fun od => ⟨_, rfl, b, od, rfl, .inl ⟨beh 59, upd_same, ?_⟩⟩⟩
    have bl : (beh 59).length = 59 := by unfold beh; rw [List.length_map, List.length_range]
    refine for_it (walk_keys (kvs := beh 59)) (fun i σ H' => (∃ x3, σ = [some (.ref x), some (.ref ow), some (.ref b), x3, none, none, none]) ∧ But ow (upd H1 b (.frz od (.dK (beh 59)))) H' ∧ H' ow = some (.dK (ond i)))
      ⟨⟨none, rfl⟩, But.refl, by rw [upd_ne (Ne.symm bo)]; exact how1⟩ (fun i σ H' _ p => p.2.1 _ _ bo upd_same) (fun i v σ H0' H' hi p y => ?_) (fun σ H' p => ?_)
    · obtain ⟨⟨x3, rfl⟩, b1, ho⟩ := p
      obtain ⟨e, k1, v1, hk1, rfl⟩ := y
      subst e
      rw [bl] at hi
      have ek : k1 = .inl ((i + 1 : Nat) : Int) := by
        unfold beh at hk1
        rw [List.getElem?_map, List.getElem?_range hi] at hk1
        cases hk1
        rfl
      subst ek
      have hbb := b1 b _ bo upd_same
      refine ⟨_, rfl, _, rfl, _, rfl, _, rfl, b, .int (i : Int), rfl, .inl ⟨beh 59, .inl ((i + 1 : Nat) : Int), .inr ⟨od, hbb⟩, rfl, (beh_some hi).symm⟩, ow, _, rfl, DPut.k (k := .inl (i : Int)) ho (by unfold ond; rw [List.length_map, List.length_range, sizeLine_eq]; omega), ⟨_, rfl⟩, fun c o nc e => ?_, ?_⟩
      · rw [upd_ne nc]
        exact b1 c o nc e
      · rw [upd_same]
        exact congrArg (fun z => some (HO.dK z)) (ond_put i)
    · obtain ⟨⟨x3, rfl⟩, b1, ho⟩ := p
      rw [bl] at ho
      have hbb := b1 b _ bo upd_same
      refine ⟨hbb, ?_⟩
      generalize hH2 : upd H' b (.dK (beh 59)) = H2
      have h2b : H2 b = some (.dK (beh 59)) := by rw [← hH2, upd_same]
      have h2o : H2 ow = some (.dK (ond 59)) := by rw [← hH2, upd_ne (Ne.symm bo)]; exact ho
      have s2 : Same H H2 := fun c o e => by
        have nc := ne_of_none e now
        have e0 := s0 _ _ e
        have nb2 := ne_of_none e0 nb
        rw [← hH2, upd_ne nb2]
        exact b1 c o nc (by rw [upd_ne nb2]; exact s1 _ _ e0)
      refine ⟨by show 0 ≤ sizeLine; decide, fun rw nrw => ?_⟩
      have s3 := Same.trans s2 (same_new (o := .lst []) nrw)
      obtain ⟨dx, ta, wa, pa, xs, kt, kp, h1, h2, h3, _⟩ := cr.same s3
      have el : xs.length = 60 := by rw [DpAll.length h3, List.length_map, chain_len]
      refine ⟨_, rfl, x, C, dx, _, .ref ta, rfl, h1, k.c, k.nT, rfl, ta, xs, rfl, .inr h2, _, rfl, by omega, by omega, ?_⟩
      rw [el]
      refine for_range (lo := 0) (n := 60) (fun i σ H' => (∃ x5 x6, σ = [some (.ref x), some (.ref ow), some (.ref b), x3, some (.ref rw), x5, x6]) ∧ But rw H2 H' ∧ ∃ ys, H' rw = some (.lst ys) ∧ ys.length = min i 1)
        ⟨⟨none, none, rfl⟩, Same.but (same_new nrw), [], upd_same, rfl⟩ (fun i σ H' hi p => ?_) (fun σ H' p => ?_)
      · obtain ⟨⟨x5, x6, rfl⟩, b2, ys, hy, hl⟩ := p
        have z0 : (0 : Int) + (i : Nat) = ((i : Nat) : Int) := by omega
        rw [z0]
        have hb3 : H' b = some (.dK (beh 59)) := b2 _ _ (ne_of_none h2b nrw) h2b
        have ho3 : H' ow = some (.dK (ond 59)) := b2 _ _ (ne_of_none h2o nrw) h2o
        refine ⟨_, rfl, _, rfl, b, _, rfl, DGet.k (k := .inl (i : Int)) hb3, _, rfl, ?_⟩
        cases i with
        | zero =>
          rw [beh_none (.inl rfl)]
          refine iteT ⟨_, rfl, by show 1 ≤ sizeLine; decide, fun r nr => ?_⟩
          have rr : rw ≠ r := ne_of_none hy nr
          have orr : ow ≠ r := ne_of_none ho3 nr
          refine while_by (fun σ H'' => (∃ x5, σ = [some (.ref x), some (.ref ow), some (.ref b), x3, some (.ref rw), x5, some (.ref r)]) ∧ But r H' H'' ∧ ∃ j, j < 60 ∧ H'' r = some (.lst (rowV (j + 1))))
            (fun _ H'' => match H'' r with | some (.lst xs) => 61 - xs.length | _ => 0) ⟨⟨_, rfl⟩, Same.but (same_new nr), 0, by decide, upd_same⟩ (fun σ H'' p => ?_) (fun σ H'' Q1 Q2 m h => ?_)
          · obtain ⟨⟨x5, rfl⟩, b4, j, hj, hr4⟩ := p
            have ho4 := b4 _ _ orr ho3
            have la : atI (rowV (j + 1)) (-1) = some (.int (j : Int)) := by
              have e : rowV (j + 1) = rowV j ++ [.int (j : Int)] := by
                unfold rowV
                rw [List.range_succ, List.map_append]
                rfl
              rw [e]
              exact atI_last _ _
            have rl : (rowV (j + 1)).length = j + 1 := by unfold rowV; rw [List.length_map, List.length_range]
            refine ⟨_, rfl, 1, rfl, r, _, _, _, rfl, rfl, SqL.of hr4, la, _, rfl, ow, _, rfl, DGet.k (k := .inl (j : Int)) ho4, _, rfl, ?_⟩
            by_cases h59 : j < 59
            · rw [ond_some h59]
              refine iteT ⟨_, rfl, .inl ⟨rfl, _, SqL.of hr4⟩, _, rfl, _, rfl, 1, rfl, r, _, _, _, rfl, rfl, SqL.of hr4, la, ow, .int ((j : Int) + 1), rfl, .inl ⟨ond 59, .inl (j : Int), .inl ho4, rfl, (ond_some h59).symm⟩, r, _, _, rfl, rfl, hr4, by rw [rl, sizeLine_eq]; omega, ⟨⟨_, rfl⟩, fun c o nc e => ?_, j + 1, by omega, ?_⟩, ?_⟩
              · rw [upd_ne nc]
                exact b4 c o nc e
              · rw [upd_same]
                have e : rowV (j + 1 + 1) = rowV (j + 1) ++ [.int ((j : Int) + 1)] := by
                  unfold rowV
                  rw [List.range_succ (n := j + 1), List.map_append]
                  rfl
                rw [e]
              · show (match upd H'' r (.lst (rowV (j + 1) ++ [.int ((j : Int) + 1)])) r with | some (.lst xs) => 61 - xs.length | _ => 0) < (match H'' r with | some (.lst xs) => 61 - xs.length | _ => 0)
                rw [upd_same, hr4]
                show 61 - (rowV (j + 1) ++ [V.int ((j : Int) + 1)]).length < 61 - (rowV (j + 1)).length
                rw [List.length_append, rl]
                show 61 - (j + 1 + 1) < 61 - (j + 1)
                omega
            · rw [ond_none (by omega)]
              refine iteF ?_
              have hy4 := b4 _ _ rr hy
              refine ⟨_, rfl, .inl ⟨rfl, _, SqL.of hy4⟩, _, rfl, r, _, rfl, .inl ⟨SqL.of hr4, fun tp ntp => ?_⟩⟩
              have rtp : rw ≠ tp := ne_of_none hy4 ntp
              have hy5 : upd H'' tp (.tup (rowV (j + 1))) rw = some (.lst ys) := by rw [upd_ne rtp]; exact hy4
              refine ⟨rw, _, _, rfl, rfl, hy5, by rw [sizeLine_eq]; omega, ⟨_, _, rfl⟩, fun c o nc e => ?_, _, upd_same, by rw [List.length_append, hl]; rfl⟩
              have e1 := b2 c o nc e
              have n2 := ne_of_none e1 nr
              have e2 := b4 c o n2 e1
              rw [upd_ne nc, upd_ne (ne_of_none e2 ntp)]
              exact e2
          · obtain ⟨v, hv, i1, e1, p1, xs1, i2, v2, q1, q2, q3, q4, y, hy1, a1, o1, ea, g1, r1⟩ := h
            exact ⟨v, hv, i1, e1, p1, xs1, i2, v2, q1, q2, q3, q4, y, hy1, a1, o1, ea, g1, by obtain ⟨k, ek, h⟩ := r1; exact ⟨k, ek, m _ _ h⟩⟩
        | succ i =>
          rw [beh_some (by omega)]
          refine iteF ⟨⟨_, _, rfl⟩, b2, ys, hy, by rw [hl]; omega⟩
      · obtain ⟨⟨x5, x6, rfl⟩, b2, ys, hy, hl⟩ := p
        refine ⟨_, rfl, rw, ys, rfl, .inl ⟨SqL.of hy, fun p np => ?_⟩⟩
        have sF : Same H H' := fun c o e => b2 c o (ne_of_none (s2 _ _ e) nrw) (s2 _ _ e)
        exact q p ys _ (none_of sF np) (Same.trans sF (same_new np)) upd_same hl
def spFewest (K : PySem.W.Frag) (C : Addr) : Sp := fun vs H Q _ => ∃ (x : Addr), vs = [.ref x] ∧ CrewAt K C H x chainT [] ∧ ∀ H', Same H H' → Q (.int 1) H'
theorem scFewest : FnScope ["self"] ["self"] (defScope sFewest) := ⟨rfl, rfl, rfl, by decide +kernel, rfl, by decide +kernel, by decide +kernel⟩
theorem ok_fewest {f fM C : Addr} {fd dM : FuncData} (F : Fun K "fewest" "Crew.fewest" sFewest f fd) (k : CrK K C) (GM : FnOk P w K mg base CX0 4 fM dM ["self"] (spRosters K C)) (mM : Meth K C "rosters" fM) (bM : Binds K dM ["self"] []) (zL : mg "len" = none) : FnOk P w K mg base CX0 5 f fd ["self"] (spFewest K C) := by
  refine F.ok scFewest (fun vs H Q E h => ?_) (fun cdv A outer s H vs Q E hr h => ?_)
  · obtain ⟨x, rfl, _⟩ := h
    rfl
  · obtain ⟨x, rfl, cr, q⟩ := h
    refine ⟨_, pss_one (ps_ret (pe_callB call_len_seq (by rfl) zL PySem.boot_len (pa_cons (pe_meth0 (E := E0) (pv 0) k.c mM GM hr bM .nil pass0) pa_nil))), ?_⟩
    obtain ⟨dx, ta, wa, pa, xs, kt, kp, h1, _⟩ := id cr
    refine ⟨_, rfl, x, dx, _, rfl, h1, rfl, x, rfl, cr, fun p ys H1 np s1 hp hl => ⟨p, ys, rfl, .inr (SqT.of hp), ?_⟩⟩
    rw [hl]
    exact q H1 s1
end
end K4
namespace K4
open PySem PySem.Spec PyProof.Rows L2 DW LamX
abbrev sWord : Stmt := top 42
abbrev rSA : R2 := fun x y H Q => ∃ i j, x = .str i ∧ y = .str j ∧ i.length + j.length ≤ sizeLine ∧ Q (.str (i ++ j)) H
abbrev tTell (K : PySem.W.Frag) (m : Str) (C : Addr) (f : Str) (a : Addr) (cls : Value) (d : Option Addr) : TS := tRet (tOp rSA (tC (.str m)) (tCB (rRepr K) (tCons (tXf a cls d C f (tVar 1)) tNil)))
/-- what is told of an error -/
def eWord (K : PySem.W.Frag) (CD CN CU : Addr) (Q : VK) : XK := fun cls d H => ∃ b1, PySem.W.exmOne K cls (.ref CD) = some b1 ∧ (b1 = true → Q (.str "day") H) ∧ (b1 = false →
  ∃ b2, PySem.W.exmOne K cls (.ref CN) = some b2 ∧ (b2 = true → cls = .ref CN ∧ ∃ (dd : Addr) (fs : List (Str × V)) (v : V) (dv : PyData), d = some dd ∧ H dd = some (.xd fs) ∧ fs.lookup ("given" : Str) = some v ∧ Cp H v dv ∧ Tellable dv ∧ Q (.str ("number " ++ dv.shown)) H) ∧ (b2 = false →
  ∃ b3, PySem.W.exmOne K cls (.ref CU) = some b3 ∧ (b3 = true → cls = .ref CU ∧ ∃ (dd : Addr) (fs : List (Str × V)) (v : V) (dv : PyData), d = some dd ∧ H dd = some (.xd fs) ∧ fs.lookup ("wanted" : Str) = some v ∧ Cp H v dv ∧ Tellable dv ∧ Q (.str ("name " ++ dv.shown)) H) ∧ (b3 = false → False)))
def TWord (K : PySem.W.Frag) (CD CN CU : Addr) : (XK → Hp → VK → Prop) → Hp → VK → Prop := fun tl H Q => tl (eWord K CD CN CU Q) H fun _ H1 => Q (.str "fine") H1
theorem scWord : FnScope ["call", "error"] ["call"] (defScope sWord) := ⟨rfl, rfl, rfl, by decide +kernel, rfl, by decide +kernel, by decide +kernel⟩
abbrev cxW (X : Cx) (g : Addr) (cdg : Value) (s : Shared) (H : Hp) : Cx := (cxOf C8.CX0 X.prog X.w X.K X.mg X.base ["call", "error"] "_law_word" (defScope sWord) g cdg X.A X.stack s H C8.E0).nox
theorem word_gives {X : Cx} {g CD CN CU : Addr} {cdg : Value} {q : Str} (hgu : X.A.guards = some []) (hr : Room 1 X.A) (hD : X.mg "InvalidDay" = some (.ref CD)) (hN : X.mg "InvalidNumber" = some (.ref CN)) (hU : X.mg "UnknownName" = some (.ref CU)) (TN : XfC X.K CN) (TU : XfC X.K CU)
    (nN : PySem.W.findIn X.K (.ref CN) "given" = some none) (nU : PySem.W.findIn X.K (.ref CU) "wanted" = some none) (zR : X.mg "repr" = none) :
    GivesTo X ["call", "error"] "_law_word" (defScope sWord) g cdg (defBody sWord) "call" q (TWord X.K CD CN CU) := by
  intro f c' s H Q tl act hc h
  have hu : (cxW X g cdg s H).A.units + 64 < cLine := (hr.deeper (envOfC "_law_word" (defScope sWord) s.heap.objs.size g cdg)).units
  refine ⟨_, pss_cons (ps_try_mix (X := cxW X g cdg s H) (Wout := fun _ _ _ _ => False)
      (tb := fun W D σ H => ∃ Ech : XK, (∀ cls d σ' H', Ech cls d H' → W cls d σ' H') ∧ σ[0]? = some (some (.ref f)) ∧ H c' = some (CodeO c' q) ∧ tl Ech H fun _ H1 => D.nx σ H1)
      rfl rfl LamX.takes0 (fun W pn xe tk _ => ?_)
      (.bare (c := .ref CD) ⟨rfl, by decide, .inl hD⟩ (fun a oe cls d pn _ _ => pss_one (ps_ret pe_str))
      (.named (c := .ref CN) (i := 1) (ts := tTell X.K "number " CN "given") scWord.nd rfl rfl ⟨rfl, by decide, .inl hN⟩ (fun a oe cls d pn hz hf => pss_one (ps_ret (pe_op op_add_str pe_str (pe_callB (call_repr (X := (cxW X g cdg s H).suite a ((a, oe) :: pn)) hgu hu) (by rfl) zR (by decide +kernel) (pa_cons (pe_xf (X := cxW X g cdg s H) TN nN hz hf (pv 1)) pa_nil)))))
      (.named (c := .ref CU) (i := 1) (ts := tTell X.K "name " CU "wanted") scWord.nd rfl rfl ⟨rfl, by decide, .inl hU⟩ (fun a oe cls d pn hz hf => pss_one (ps_ret (pe_op op_add_str pe_str (pe_callB (call_repr (X := (cxW X g cdg s H).suite a ((a, oe) :: pn)) hgu hu) (by rfl) zR (by decide +kernel) (pa_cons (pe_xf (X := cxW X g cdg s H) TU nU hz hf (pv 1)) pa_nil))))) .nil))))
    (pss_one (ps_ret pe_str)), ?_⟩
  · refine ⟨fun pins s' σ H' D I h' => ?_⟩
    obtain ⟨Ech, hW, h1, h2, h3⟩ := h'
    exact (pss_one (ps_expr (act W pn xe Ech _ _ tk hW))).run pins s' σ H' D I ⟨h1, h2, h3⟩
  · refine ⟨eWord X.K CD CN CU Q, fun cls d σ' H' hw => ?_, rfl, hc, h⟩
    obtain ⟨b1, e1, y1, n1⟩ := hw
    refine ⟨b1, e1, fun hb a na => y1 hb, fun hb => ?_⟩
    obtain ⟨b2, e2, y2, n2⟩ := n1 hb
    have tell : ∀ {m f : Str} {C a : Addr}, m.length ≤ 1000 → σ'.length = 2 → (cls = .ref C ∧ ∃ (dd : Addr) (fs : List (Str × V)) (v : V) (dv : PyData), d = some dd ∧ H' dd = some (.xd fs) ∧ fs.lookup f = some v ∧ Cp H' v dv ∧ Tellable dv ∧ Q (.str (m ++ dv.shown)) H') →
        ∀ D : Ends, D.rt = Q → tTell X.K m C f a cls d D (List.set σ' 1 (some (V.ref a))) H' := fun {m f C a} hm ln y D eD => by
      obtain ⟨rfl, dd, fs, v, dv, rfl, hd, l, cp, tl, y⟩ := y
      have at1 : (List.set σ' 1 (some (V.ref a)))[1]? = some (some (V.ref a)) := List.getElem?_set_self (by rw [ln]; exact (show 1 < 2 by decide))
      have l1 := tl.2.1
      refine ⟨.ref a, at1, rfl, rfl, dd, fs, v, rfl, hd, l, v, dv, rfl, cp.dd, tl.1, by rw [sizeLine_eq]; omega, tl.2.2, _, _, rfl, rfl, by rw [sizeLine_eq]; omega, ?_⟩
      rw [eD]
      exact y
    refine ⟨b2, e2, fun hb a na ln => tell (by decide) ln (y2 hb) _ rfl, fun hb => ?_⟩
    obtain ⟨b3, e3, y3, n3⟩ := n2 hb
    exact ⟨b3, e3, fun hb a na ln => tell (by decide) ln (y3 hb) _ rfl, fun hb => (n3 hb).elim⟩
end K4
namespace K4
open PySem PySem.Spec PyProof.Rows L2 DW
abbrev sBad : Stmt := top 43
theorem sqT_dc {K : PySem.W.Frag} {H H' : Hp} {D a : Addr} {xs : List V} (c : Dc H D) (b : But D H H') (h : SqT K H a xs) : SqT K H' a xs := by
  obtain ⟨d0, d1, d2, e⟩ := c
  rcases h with (h | ⟨o, h⟩) | h
  · exact .inl (.inl (b _ _ (ne_of h e (by simp)) h))
  · exact .inl (.inr ⟨o, b _ _ (ne_of h e (by simp)) h⟩)
  · exact .inr h
theorem tasks_dc {K : PySem.W.Frag} {H H' : Hp} {D : Addr} (c : Dc H D) (b : But D H H') : ∀ {xs : List V} {ts : List Tk}, DpAll K H xs (ts.map taskOf) → DpAll K H' xs (ts.map taskOf)
  | [], [], _ => .nil
  | _ :: xs, t :: ts, .cons p r => by
    obtain ⟨a, rfl, h⟩ := task_at p
    exact .cons (.tup (sqT_dc c b h) (.cons (.int _) (.cons (.int _) (.cons (.str _) .nil)))) (tasks_dc c b r)
/-- what is no task, whatever befalls the dice -/
def OddS (K : PySem.W.Frag) (D : Addr) (H : Hp) (z : V) : Prop := ∃ d, (∀ H', But D H H' → Dp K H' z d) ∧ d.hasDict = false ∧ Fn 1 d ∧ taskD d = false
/-- what is no tuple of tasks -/
def BadS (K : PySem.W.Frag) (D : Addr) (H : Hp) (z : V) : Prop := ∃ d, (∀ H', But D H H' → Dd K H' z d) ∧ Fn 2 d ∧ madeD d (some []) = false
theorem OddS.but {K : PySem.W.Frag} {D : Addr} {H H' : Hp} {z : V} (b : But D H H') (h : OddS K D H z) : OddS K D H' z := by
  obtain ⟨d, h1, h2⟩ := h
  exact ⟨d, fun H2 b2 => h1 H2 (b.trans b2), h2⟩
theorem BadS.but {K : PySem.W.Frag} {D : Addr} {H H' : Hp} {z : V} (b : But D H H') (h : BadS K D H z) : BadS K D H' z := by
  obtain ⟨d, h1, h2⟩ := h
  exact ⟨d, fun H2 b2 => h1 H2 (b.trans b2), h2⟩
/-- an expression that gives such a value -/
def GivE (σ : L2.St) (H0 : Hp) (R : Hp → V → Prop) (D : Addr) (te : TE) : Prop := ∀ (H : Hp) (Q : VK), But D H0 H → Dc H D → (∀ v H', But D H H' → Dc H' D → R H' v → Q v H') → te σ H Q
def GivEs (σ : L2.St) (H0 : Hp) (R : Hp → V → Prop) (D : Addr) (n : Nat) (ta : TA) : Prop := ∀ (H : Hp) (Q : List V → Hp → Prop), But D H0 H → Dc H D → (∀ vs H', But D H H' → Dc H' D → vs.length = n → (∀ v ∈ vs, R H' v) → Q vs H') → ta σ H Q
theorem giv_nil {σ : L2.St} {H0 : Hp} {R : Hp → V → Prop} {D : Addr} : GivEs σ H0 R D 0 tNil := fun H Q _ c k => k [] H But.refl c rfl fun v m => by cases m
theorem giv_cons {σ : L2.St} {H0 : Hp} {R : Hp → V → Prop} {D : Addr} {n : Nat} {te : TE} {ta : TA} (mono : ∀ {H H' v}, But D H H' → R H v → R H' v) (h : GivE σ H0 R D te) (hs : GivEs σ H0 R D n ta) : GivEs σ H0 R D (n + 1) (tCons te ta) := fun H Q b0 c k =>
  h H _ b0 c fun v H1 b1 c1 r1 => hs H1 _ (b0.trans b1) c1 fun vs H2 b2 c2 l r2 => k (v :: vs) H2 (b1.trans b2) c2 (by rw [List.length_cons, l]) fun x m => by
    rcases List.mem_cons.mp m with rfl | m
    · exact mono b2 r1
    · exact r2 x m
theorem dc_new {D p : Addr} {H : Hp} {o : HO} (c : Dc H D) (n : H p = none) : Dc (upd H p o) D := c.same (same_new n)
/-- (a, b, ..) of plain values -/
theorem giv_tup {σ : L2.St} {H0 : Hp} {K : PySem.W.Frag} {D : Addr} {ta : TA} {xs : List V} {ds : List PyData} (hc : ∀ (H : Hp) (Q : List V → Hp → Prop), Q xs H → ta σ H Q) (hl : xs.length ≤ 10) (hd : ∀ H, DpAll K H xs ds) (nd : (PyData.tuple ds).hasDict = false) (hf : Fn 1 (.tuple ds)) (hb : taskD (.tuple ds) = false) : GivE σ H0 (OddS K D) D (tTup ta) := fun H Q _ c k =>
  hc H _ ⟨by rw [sizeLine_eq]; omega, fun p np => k _ _ (Same.but (same_new np)) (dc_new c np) ⟨.tuple ds, fun H' b => .tup (SqT.of (b _ _ (new_ne c np) upd_same)) (hd H'), nd, hf, hb⟩⟩
theorem giv_lst {σ : L2.St} {H0 : Hp} {K : PySem.W.Frag} {D : Addr} {ta : TA} {xs : List V} {ds : List PyData} (hc : ∀ (H : Hp) (Q : List V → Hp → Prop), Q xs H → ta σ H Q) (hl : xs.length ≤ 10) (hd : ∀ H, DpAll K H xs ds) (nd : (PyData.list ds).hasDict = false) : GivE σ H0 (OddS K D) D (tLst ta) := fun H Q _ c k =>
  hc H _ ⟨by rw [sizeLine_eq]; omega, fun p np => k _ _ (Same.but (same_new np)) (dc_new c np) ⟨.list ds, fun H' b => .lst (SqL.of (b _ _ (new_ne c np) upd_same)) (hd H'), nd, ⟨(fun z e => by cases e), fun ds e => by cases e⟩, rfl⟩⟩
theorem giv_non {σ : L2.St} {H0 : Hp} {K : PySem.W.Frag} {D : Addr} : GivE σ H0 (OddS K D) D (tC .non) := fun H Q _ c k => k _ _ But.refl c ⟨.none, fun _ _ => .non, rfl, ⟨(fun z e => by cases e), fun ds e => by cases e⟩, rfl⟩
/-- x = [..] -/
theorem giv_asg {σ : L2.St} {H0 H : Hp} {R : Hp → V → Prop} {D : Addr} {n i : Nat} {ta : TA} {E : Ends} (g : GivEs σ H0 R D n ta) (mono : ∀ {H H' v}, But D H H' → R H v → R H' v) (hn : n ≤ 100) (b0 : But D H0 H) (c : Dc H D)
    (k : ∀ (L : Addr) (vs : List V) (H' : Hp), L ≠ D → But D H H' → Dc H' D → H' L = some (.lst vs) → vs.length = n → (∀ v ∈ vs, R H' v) → E.nx (σ.set i (some (.ref L))) H') : tAsg (tLst ta) (gName i) E σ H :=
  g H _ b0 c fun vs H1 b1 c1 l r => ⟨by rw [sizeLine_eq]; omega, fun p np => k p vs _ (new_ne c1 np) (b1.trans (Same.but (same_new np))) (dc_new c1 np) upd_same l fun v m => mono (Same.but (same_new np)) (r v m)⟩
/-- x = y + [..] -/
theorem giv_cat {σ : L2.St} {H0 H : Hp} {R : Hp → V → Prop} {D L : Addr} {n i j : Nat} {zs : List V} {ta : TA} {E : Ends} (g : GivEs σ H0 R D n ta) (mono : ∀ {H H' v}, But D H H' → R H v → R H' v) (hn : n ≤ 100) (b0 : But D H0 H) (c : Dc H D) (hj : σ[j]? = some (some (.ref L))) (nL : L ≠ D) (hL : H L = some (.lst zs)) (hz : zs.length ≤ 100) (hr : ∀ v ∈ zs, R H v)
    (k : ∀ (L : Addr) (vs : List V) (H' : Hp), L ≠ D → But D H H' → Dc H' D → H' L = some (.lst vs) → vs.length = zs.length + n → (∀ v ∈ vs, R H' v) → E.nx (σ.set i (some (.ref L))) H') : tAsg (tOp rCat (tVar j) (tLst ta)) (gName i) E σ H :=
  ⟨_, hj, g H _ b0 c fun vs H1 b1 c1 l r => ⟨by rw [sizeLine_eq]; omega, fun p np => by
    have h1 := b1 _ _ nL hL
    have nLp : L ≠ p := ne_of_none h1 np
    refine ⟨L, p, zs, vs, rfl, rfl, by rw [upd_ne nLp]; exact h1, upd_same, by rw [sizeLine_eq]; omega, fun q nq => ?_⟩
    have c2 := dc_new (o := .lst vs) c1 np
    have b2 : But D H1 (upd (upd H1 p (.lst vs)) q (.lst (zs ++ vs))) := (Same.but (same_new np)).trans (Same.but (same_new nq))
    refine k q _ _ (new_ne c2 nq) (b1.trans b2) (dc_new c2 nq) upd_same (by rw [List.length_append, l]) fun v m => ?_
    rcases List.mem_append.mp m with m | m
    · exact mono (b1.trans b2) (hr v m)
    · exact mono b2 (r v m)⟩⟩
/-- return [..] + .. -/
theorem giv_retL {σ : L2.St} {H0 H : Hp} {R : Hp → V → Prop} {D : Addr} {n : Nat} {ta : TA} {tb : TE} {E : Ends} (g : GivEs σ H0 R D n ta) (mono : ∀ {H H' v}, But D H H' → R H v → R H' v) (hn : n ≤ 100) (b0 : But D H0 H) (c : Dc H D)
    (k : ∀ (L : Addr) (vs : List V) (H' : Hp), L ≠ D → But D H H' → Dc H' D → H' L = some (.lst vs) → vs.length = n → (∀ v ∈ vs, R H' v) → tb σ H' fun y H2 => rCat (.ref L) y H2 E.rt) : tRet (tOp rCat (tLst ta) tb) E σ H :=
  g H _ b0 c fun vs H1 b1 c1 l r => ⟨by rw [sizeLine_eq]; omega, fun p np => k p vs _ (new_ne c1 np) (b1.trans (Same.but (same_new np))) (dc_new c1 np) upd_same l fun v m => mono (Same.but (same_new np)) (r v m)⟩
theorem giv_bad {σ : L2.St} {H0 : Hp} {K : PySem.W.Frag} {D : Addr} {v : V} {d : PyData} (hd : ∀ H, Dd K H v d) (hf : Fn 2 d) (hb : madeD d (some []) = false) : GivE σ H0 (BadS K D) D (tC v) := fun H Q _ c k => k _ _ But.refl c ⟨d, fun H' _ => hd H', hf, hb⟩
theorem giv_emp {σ : L2.St} {H0 : Hp} {K : PySem.W.Frag} {D : Addr} : GivE σ H0 (BadS K D) D tDNewK := fun H Q _ c k p np => k _ _ (Same.but (same_new np)) (dc_new c np) ⟨.dict [], fun H' b => .dct (kvs := []) (b _ _ (new_ne c np) upd_same), ⟨(fun z e => by cases e), fun ds e => by cases e⟩, rfl⟩
theorem DpAll.append1 {K : PySem.W.Frag} {H : Hp} : ∀ {xs : List V} {ds : List PyData} {v : V} {d : PyData}, DpAll K H xs ds → Dp K H v d → DpAll K H (xs ++ [v]) (ds ++ [d])
  | _, _, _, _, .nil, h => .cons h .nil
  | _, _, _, _, .cons a b, h => .cons a (DpAll.append1 b h)
theorem noDict1 (d : PyData) (h : d.hasDict = false) : ∀ ts : List Tk, (PyData.tuple (ts.map taskOf ++ [d])).hasDict = false
  | [] => by show (d.hasDict || PyData.hasDictAll []) = false; rw [h]; rfl
  | t :: ts => by
    show ((taskOf t).hasDict || PyData.hasDictAll (ts.map taskOf ++ [d])) = false
    exact noDict1 d h ts
theorem cut_mem {xs : List V} {lo hi : Option Int} {v : V} (h : v ∈ cutV xs lo hi) : v ∈ xs := List.mem_of_mem_drop (List.mem_of_mem_take h)
theorem fn_tup {ds : List PyData} (hl : ds.length ≤ 1000) (h : ∀ d ∈ ds, Fit d) : Fn 1 (.tuple ds) := ⟨(fun z e => by cases e), fun es e => by cases e; exact ⟨hl, h⟩⟩
theorem fit_int {i : Int} : Fit (.int i) := fun z e => by cases e
theorem fit_bool {i : Bool} : Fit (.bool i) := fun z e => by cases e
theorem fit_none : Fit .none := fun z e => by cases e
section
variable {P : Program} {w : World} {K : PySem.W.Frag} {mg : Str → Option Value} {base : Heap}
theorem scBad : FnScope ["dice", "tasks", "one", "odd", "some"] ["dice", "tasks"] (defScope sBad) := ⟨rfl, rfl, rfl, by decide +kernel, rfl, by decide +kernel, by decide +kernel⟩
def spBad (K : PySem.W.Frag) : Sp := fun vs H Q E => ∃ (D ta : Addr) (xs : List V) (ts : List Tk), vs = [.ref D, .ref ta] ∧ Dc H D ∧ SqT K H ta xs ∧ DpAll K H xs (ts.map taskOf) ∧ ts.length ≤ 6 ∧ (∀ t ∈ ts, t.2.2.length ≤ 1000) ∧
  ∀ (L : Addr) (zs : List V) H', L ≠ D → But D H H' → Dc H' D → H' L = some (.lst zs) → zs.length ≤ 30 → (∀ z ∈ zs, BadS K D H' z) → Q (.ref L) H'
theorem ok_bad {f fS : Addr} {fd dS : FuncData} (F : Fun K "_law_bad_tasks" "_law_bad_tasks" sBad f fd) (CS : Cal P w K mg base 2 "_law_shuffled" ["dice", "items"] spShuf fS dS) (zLs : mg "list" = none) : FnOk P w K mg base CX0 3 f fd ["dice", "tasks"] (spBad K) := by
  refine F.ok scBad (fun vs H Q E h => ?_) (fun cdv A outer s H vs Q E hr h => ?_)
  · obtain ⟨D, ta, xs, ts, rfl, _⟩ := h
    rfl
  obtain ⟨D, ta, xs, ts, rfl, hc, hs, hp, hl, hf, k⟩ := h
  refine ⟨_, C8.pss_cut (ps_set (i := 2) scBad.nd rfl (Or.inl rfl) (pe_tup (pa_cons pe_int (pa_cons pe_int (pa_cons pe_str pa_nil)))))
    (C8.pss_cut (ps_set (i := 3) scBad.nd rfl (Or.inl rfl) (pe_lst
      (pa_cons (pe_tup (pa_cons pe_int (pa_cons pe_int (pa_cons pe_str pa_nil))))
      (pa_cons (pe_tup (pa_cons pe_int (pa_cons pe_int (pa_cons pe_str pa_nil))))
      (pa_cons (pe_tup (pa_cons (pe_un un_neg pe_int) (pa_cons pe_int (pa_cons pe_str pa_nil))))
      (pa_cons (pe_tup (pa_cons pe_int (pa_cons (pe_op op_add (pe_op op_powW pe_int pe_int) pe_int) (pa_cons pe_str pa_nil))))
      (pa_cons (pe_tup (pa_cons pe_bl (pa_cons pe_int (pa_cons pe_str pa_nil))))
      (pa_cons (pe_tup (pa_cons pe_int (pa_cons pe_int pa_nil)))
      (pa_cons (pe_tup (pa_cons pe_int (pa_cons pe_int (pa_cons pe_str pa_nil))))
      (pa_cons (pe_tup (pa_cons pe_int (pa_cons pe_int (pa_cons pe_non pa_nil))))
      (pa_cons (pe_lst (pa_cons pe_int (pa_cons pe_int (pa_cons pe_str pa_nil)))) pa_nil)))))))))))
    (C8.pss_cut (ps_set (i := 3) scBad.nd rfl (Or.inl rfl) (pe_op op_cat (pv 3) (pe_lst
      (pa_cons (pe_tup (pa_cons pe_int (pa_cons pe_int (pa_cons pe_str (pa_cons pe_int pa_nil)))))
      (pa_cons (pe_tup (pa_cons pe_str (pa_cons pe_int (pa_cons pe_str pa_nil))))
      (pa_cons pe_non
      (pa_cons (pe_tup (pa_cons pe_int (pa_cons pe_non (pa_cons pe_str pa_nil))))
      (pa_cons (pe_tup (pa_cons pe_int (pa_cons pe_int (pa_cons pe_str pa_nil))))
      (pa_cons (pe_tup (pa_cons pe_int (pa_cons pe_int (pa_cons pe_str pa_nil)))) pa_nil)))))))))
    (pss_one (ps_ret (pe_op op_cat (pe_lst
      (pa_cons pe_non
      (pa_cons pe_int
      (pa_cons (pe_op op_cat (pe_callTy call_list_of (by rfl) zLs (by decide +kernel) (pa_cons (pv 1) pa_nil)) (pe_lst (pa_cons (pv 2) pa_nil)))
      (pa_cons pe_dnewK
      (pa_cons pe_str
      (pa_cons (pv 2) pa_nil)))))))
      (pe_lc (own := [("some", 4)]) (g := gName 4) (tt := tYes) (te := tOp (rCatA K) (tVar 1) (tTup (tCons (tVar 4) tNil))) rfl scBad.nd (pi_list (pe_slice sl_list (pe_cal (E := E0) CS hr rfl (pa_cons (pv 0) (pa_cons (pv 3) pa_nil))) po_none (po_some pe_int))) (blkOk_by (own := [("some", 4)]) (N := ["dice", "tasks", "one", "odd", "some"]) (sc := defScope sBad) (by decide +kernel))
        (fun _ _ _ _ _ => pg_name (i := 4) scBad.nd rfl (Or.inl rfl)) (fun _ _ _ _ _ => pts_nil) (fun _ _ _ _ _ => pe_op op_catA (pv 1) (pe_tup (pa_cons (pv 4) pa_nil))))))))), ?_⟩
  have bA : taskD (.tuple [.int 3, .int 5, .str "A"]) = false := by decide +kernel
  have bD : taskD (.tuple [.int 3, .int 5, .str "dawn"]) = false := by decide +kernel
  have bE : taskD (.tuple [.int 3, .int 5, .str ""]) = false := by decide +kernel
  have fS : ∀ z : Str, z.length ≤ 1000 → Fit (.str z) := fun z h y e => by cases e; exact h
  have f3 : ∀ {a b c : PyData}, Fit a → Fit b → Fit c → Fn 1 (.tuple [a, b, c]) := fun {a b c} x y z => fn_tup (by show 3 ≤ 1000; decide) fun d m => by
    rcases List.mem_cons.mp m with rfl | m
    · exact x
    · rcases List.mem_cons.mp m with rfl | m
      · exact y
      · rcases List.mem_cons.mp m with rfl | m
        · exact z
        · cases m
  refine ⟨fun σ' H' => ∃ po, σ' = [some (.ref D), some (.ref ta), some (.ref po), none, none] ∧ But D H H' ∧ Dc H' D ∧ po ≠ D ∧ H' po = some (.tup [.int 3, .int 5, .str "a"]), ⟨by show 3 ≤ sizeLine; decide, fun po no => ⟨po, rfl, Same.but (same_new no), dc_new hc no, new_ne hc no, upd_same⟩⟩, ?_⟩
  rintro σ1 H1 ⟨po, rfl, b1, c1, npo, hpo⟩
  refine ⟨fun σ' H' => ∃ L vs, σ' = [some (.ref D), some (.ref ta), some (.ref po), some (.ref L), none] ∧ But D H1 H' ∧ Dc H' D ∧ L ≠ D ∧ H' L = some (.lst vs) ∧ vs.length = 9 ∧ ∀ v ∈ vs, OddS K D H' v, ?_, ?_⟩
  · refine giv_asg (H0 := H1) (R := OddS K D) (D := D) (n := 9) ?_ OddS.but (by decide) But.refl c1 fun L vs H' nL b c hL l r => ⟨L, vs, rfl, b, c, nL, hL, l, r⟩
    refine giv_cons OddS.but (giv_tup (xs := [.int 5, .int 5, .str "a"]) (ds := [.int 5, .int 5, .str "a"]) (fun H Q h => h) (by decide) (fun H => .cons (.int _) (.cons (.int _) (.cons (.str _) .nil))) rfl (f3 fit_int fit_int (fS _ (by decide))) (by decide +kernel)) ?_
    refine giv_cons OddS.but (giv_tup (xs := [.int 5, .int 3, .str "a"]) (ds := [.int 5, .int 3, .str "a"]) (fun H Q h => h) (by decide) (fun H => .cons (.int _) (.cons (.int _) (.cons (.str _) .nil))) rfl (f3 fit_int fit_int (fS _ (by decide))) (by decide +kernel)) ?_
    refine giv_cons OddS.but (giv_tup (xs := [.int (-1), .int 5, .str "a"]) (ds := [.int (-1), .int 5, .str "a"]) (fun H Q h => ⟨1, rfl, h⟩) (by decide) (fun H => .cons (.int _) (.cons (.int _) (.cons (.str _) .nil))) rfl (f3 fit_int fit_int (fS _ (by decide))) (by decide +kernel)) ?_
    refine giv_cons OddS.but (giv_tup (xs := [.int 3, .int (10 ^ 34 + 1), .str "a"]) (ds := [.int 3, .int (10 ^ 34 + 1), .str "a"]) (fun H Q h => ⟨_, _, rfl, rfl, ⟨by decide, by decide +kernel⟩, _, _, rfl, rfl, h⟩) (by decide) (fun H => .cons (.int _) (.cons (.int _) (.cons (.str _) .nil))) rfl (f3 fit_int fit_int (fS _ (by decide))) (by decide +kernel)) ?_
    refine giv_cons OddS.but (giv_tup (xs := [.bl true, .int 5, .str "a"]) (ds := [.bool true, .int 5, .str "a"]) (fun H Q h => h) (by decide) (fun H => .cons (.bl _) (.cons (.int _) (.cons (.str _) .nil))) rfl (f3 fit_bool fit_int (fS _ (by decide))) (by decide +kernel)) ?_
    refine giv_cons OddS.but (giv_tup (xs := [.int 3, .int 5]) (ds := [.int 3, .int 5]) (fun H Q h => h) (by decide) (fun H => .cons (.int _) (.cons (.int _) .nil)) rfl (fn_tup (by decide) fun d m => by rcases List.mem_cons.mp m with rfl | m; exact fit_int; rcases List.mem_cons.mp m with rfl | m; exact fit_int; cases m) (by decide +kernel)) ?_
    refine giv_cons OddS.but (giv_tup (xs := [.int 3, .int 5, .str "A"]) (ds := [.int 3, .int 5, .str "A"]) (fun H Q h => h) (by decide) (fun H => .cons (.int _) (.cons (.int _) (.cons (.str _) .nil))) rfl (f3 fit_int fit_int (fS _ (by decide))) bA) ?_
    refine giv_cons OddS.but (giv_tup (xs := [.int 3, .int 5, .non]) (ds := [.int 3, .int 5, .none]) (fun H Q h => h) (by decide) (fun H => .cons (.int _) (.cons (.int _) (.cons .non .nil))) rfl (f3 fit_int fit_int fit_none) (by decide +kernel)) ?_
    exact giv_cons OddS.but (giv_lst (xs := [.int 3, .int 5, .str "a"]) (ds := [.int 3, .int 5, .str "a"]) (fun H Q h => h) (by decide) (fun H => .cons (.int _) (.cons (.int _) (.cons (.str _) .nil))) rfl) giv_nil
  · rintro σ2 H2 ⟨L, vs, rfl, b2, c2, nL, hL, l2, r2⟩
    refine ⟨fun σ' H' => ∃ L vs, σ' = [some (.ref D), some (.ref ta), some (.ref po), some (.ref L), none] ∧ But D H2 H' ∧ Dc H' D ∧ L ≠ D ∧ H' L = some (.lst vs) ∧ vs.length = 15 ∧ ∀ v ∈ vs, OddS K D H' v, ?_, ?_⟩
    · refine giv_cat (H0 := H2) (R := OddS K D) (D := D) (n := 6) (L := L) (zs := vs) ?_ OddS.but (by decide) But.refl c2 rfl nL hL (by omega) r2 fun L vs' H' nL b c hL l r => ⟨L, vs', rfl, b, c, nL, hL, by omega, r⟩
      refine giv_cons OddS.but (giv_tup (xs := [.int 3, .int 5, .str "a", .int 0]) (ds := [.int 3, .int 5, .str "a", .int 0]) (fun H Q h => h) (by decide) (fun H => .cons (.int _) (.cons (.int _) (.cons (.str _) (.cons (.int _) .nil)))) rfl (fn_tup (by decide) fun d m => by rcases List.mem_cons.mp m with rfl | m; exact fit_int; rcases List.mem_cons.mp m with rfl | m; exact fit_int; rcases List.mem_cons.mp m with rfl | m; exact fS _ (by decide); rcases List.mem_cons.mp m with rfl | m; exact fit_int; cases m) (by decide +kernel)) ?_
      refine giv_cons OddS.but (giv_tup (xs := [.str "3", .int 5, .str "a"]) (ds := [.str "3", .int 5, .str "a"]) (fun H Q h => h) (by decide) (fun H => .cons (.str _) (.cons (.int _) (.cons (.str _) .nil))) rfl (f3 (fS _ (by decide)) fit_int (fS _ (by decide))) (by decide +kernel)) ?_
      refine giv_cons OddS.but giv_non ?_
      refine giv_cons OddS.but (giv_tup (xs := [.int 3, .non, .str "a"]) (ds := [.int 3, .none, .str "a"]) (fun H Q h => h) (by decide) (fun H => .cons (.int _) (.cons .non (.cons (.str _) .nil))) rfl (f3 fit_int fit_none (fS _ (by decide))) (by decide +kernel)) ?_
      refine giv_cons OddS.but (giv_tup (xs := [.int 3, .int 5, .str "dawn"]) (ds := [.int 3, .int 5, .str "dawn"]) (fun H Q h => h) (by decide) (fun H => .cons (.int _) (.cons (.int _) (.cons (.str _) .nil))) rfl (f3 fit_int fit_int (fS _ (by decide))) bD) ?_
      exact giv_cons OddS.but (giv_tup (xs := [.int 3, .int 5, .str ""]) (ds := [.int 3, .int 5, .str ""]) (fun H Q h => h) (by decide) (fun H => .cons (.int _) (.cons (.int _) (.cons (.str _) .nil))) rfl (f3 fit_int fit_int (fS _ (by decide))) bE) giv_nil
    · rintro σ3 H3 ⟨L, vs, rfl, b3, c3, nL, hL, l3, r3⟩
      have b13 : But D H1 H3 := b2.trans b3
      have b03 : But D H H3 := b1.trans b13
      have hpo3 := b13 _ _ npo hpo
      have hs3 := sqT_dc hc b03 hs
      have hp3 := tasks_dc hc b03 hp
      refine giv_retL (H0 := H3) (R := BadS K D) (D := D) (n := 6) ?_ BadS.but (by decide) But.refl c3 fun L1 vs1 H4 nL1 b4 c4 hL1 l1 r1 => ?_
      · have nn : ∀ {d : PyData}, (∀ z, d ≠ .str z) → (∀ ds, d ≠ .tuple ds) → Fn 2 d := fun {d} h1 h2 => ⟨fun z e => absurd e (h1 z), fun ds e => absurd e (h2 ds)⟩
        refine giv_cons BadS.but (giv_bad (d := .none) (fun H => .base .non rfl) (nn (fun z e => by cases e) (fun z e => by cases e)) rfl) ?_
        refine giv_cons BadS.but (giv_bad (d := .int 0) (fun H => .base (.int _) rfl) (nn (fun z e => by cases e) (fun z e => by cases e)) rfl) ?_
        refine giv_cons BadS.but ?_ (giv_cons BadS.but giv_emp (giv_cons BadS.but (giv_bad (d := .str "a") (fun H => .base (.str _) rfl) ⟨fS _ (by decide), fun ds e => by cases e⟩ rfl) (giv_cons BadS.but ?_ giv_nil)))
        · intro H5 Q5 b5 c5 k5
          have hs5 := sqT_dc c3 b5 hs3
          have hp5 := tasks_dc c3 b5 hp3
          have hpo5 := b5 _ _ npo hpo3
          refine ⟨_, rfl, ta, xs, rfl, .inr hs5, fun l nl => ⟨_, rfl, by show 1 ≤ sizeLine; decide, fun q nq => ?_⟩⟩
          have c6 := dc_new (o := .lst xs) c5 nl
          have lq : l ≠ q := (ne_of_none upd_same nq)
          have xl : xs.length = ts.length := by rw [DpAll.length hp, List.length_map]
          refine ⟨l, q, xs, [.ref po], rfl, rfl, by rw [upd_ne lq]; exact upd_same, upd_same, by rw [sizeLine_eq, xl]; show ts.length + 1 ≤ _; omega, fun p np => ?_⟩
          have c7 := dc_new (o := .lst [V.ref po]) c6 nq
          have b7 : But D H5 (upd (upd (upd H5 l (.lst xs)) q (.lst [.ref po])) p (.lst (xs ++ [.ref po]))) := ((Same.but (same_new nl)).trans (Same.but (same_new nq))).trans (Same.but (same_new np))
          refine k5 _ _ b7 (dc_new c7 np) ⟨.list (ts.map taskOf ++ [.tuple [.int 3, .int 5, .str "a"]]), fun H' b => ?_, nn (fun z e => by cases e) (fun z e => by cases e), rfl⟩
          have bb := b7.trans b
          refine .base (.lst (SqL.of (b _ _ (new_ne c7 np) upd_same)) (DpAll.append1 (tasks_dc c5 bb hp5) (.tup (SqT.of (bb _ _ npo hpo5)) (.cons (.int _) (.cons (.int _) (.cons (.str _) .nil)))))) ?_
          exact noDict1 (.tuple [.int 3, .int 5, .str "a"]) rfl ts
        · intro H5 Q5 b5 c5 k5
          have hpo5 := b5 _ _ npo hpo3
          refine ⟨_, rfl, k5 _ _ But.refl c5 ⟨.tuple [.int 3, .int 5, .str "a"], fun H' b => .base (.tup (SqT.of (b _ _ npo hpo5)) (.cons (.int _) (.cons (.int _) (.cons (.str _) .nil)))) rfl, ⟨(fun z e => by cases e), fun ds e => by
            cases e
            refine ⟨by decide, fun d m => ?_⟩
            rcases List.mem_cons.mp m with rfl | m
            · exact ⟨fit_int, fun ds e => by cases e⟩
            · rcases List.mem_cons.mp m with rfl | m
              · exact ⟨fit_int, fun ds e => by cases e⟩
              · rcases List.mem_cons.mp m with rfl | m
                · exact ⟨fS _ (by decide), fun ds e => by cases e⟩
                · cases m⟩, by decide +kernel⟩⟩
      · have r4 : ∀ v ∈ vs, OddS K D H4 v := fun v m => (r3 v m).but b4
        refine ⟨_, rfl, _, rfl, D, L, vs, rfl, c4, nL, b4 _ _ nL hL, by omega, fun L2 zs H5 nL2 hL2 pm b5 c5 => ⟨8, rfl, L2, zs, rfl, SqL.of hL2, fun p np => ⟨p, rfl, ⟨_, SqL.of upd_same⟩, fun D2 hD2 => ?_⟩⟩⟩
        have c6 := dc_new (o := .lst (cutV zs none (some 8))) c5 np
        have c7 := dc_new (o := .lst []) c6 hD2
        have b47 : But D H4 (upd (upd H5 p (.lst (cutV zs none (some 8)))) D2 (.lst [])) := (b5.trans (Same.but (same_new np))).trans (Same.but (same_new hD2))
        have nD2 := new_ne c6 hD2
        have hs4 := sqT_dc c3 b4 hs3
        have hp4 := tasks_dc c3 b4 hp3
        have xl : xs.length = ts.length := by rw [DpAll.length hp, List.length_map]
        have pD2 : p ≠ D2 := ne_of_none upd_same hD2
        refine lc_it (walk_list (K := K) (a := p) (xs := cutV zs none (some 8))) (fun i H' => Same (upd H5 p (.lst (cutV zs none (some 8)))) H' ∧ ∃ ys, H' D2 = some (.lst ys) ∧ ys.length = i ∧ ∀ y ∈ ys, ∃ q v, y = .ref q ∧ q ≠ D ∧ q ≠ D2 ∧ H' q = some (.tup (xs ++ [v])) ∧ v ∈ vs) ⟨same_new hD2, [], upd_same, rfl, fun y m => by cases m⟩ (fun i H' _ q => SqL.of (q.1 _ _ upd_same)) (fun i v H0' H' hi q y => ?_) (fun H' q => ?_)
        · obtain ⟨s6, ys, hy, hyl, hyb⟩ := q
          obtain ⟨e, hv⟩ := y
          subst e
          have b46 : But D H4 H' := (b5.trans (Same.but (same_new np))).trans (Same.but s6)
          have c8 : Dc H' D := c6.same s6
          have hvm : v ∈ vs := pm.subset (cut_mem (List.mem_of_getElem? hv))
          have hs6 := sqT_dc c4 b46 hs4
          have cl : (cutV zs none (some 8)).length ≤ 15 := Nat.le_trans (cutV_length _ _ _) (by rw [pm.length_eq, l3]; exact Nat.le_refl _)
          have fin : ∀ (q : Addr) (H2 : Hp), Same H' H2 → H' q = none → H2 q = some (.tup (xs ++ [v])) → ∃ acc, H2 D2 = some (.lst acc) ∧ acc.length < sizeLine ∧ (Same (upd H5 p (.lst (cutV zs none (some 8)))) (upd H2 D2 (.lst (acc ++ [.ref q]))) ∧ ∃ ys, upd H2 D2 (.lst (acc ++ [.ref q])) D2 = some (.lst ys) ∧ ys.length = i + 1 ∧ ∀ y ∈ ys, ∃ q9 v9, y = .ref q9 ∧ q9 ≠ D ∧ q9 ≠ D2 ∧ upd H2 D2 (.lst (acc ++ [.ref q])) q9 = some (.tup (xs ++ [v9])) ∧ v9 ∈ vs) := fun q H2 s nq hq => by
            have yq : D2 ≠ q := ne_of_none hy nq
            refine ⟨ys, s _ _ hy, by rw [sizeLine_eq]; omega, same_mut (Same.trans s6 s) hD2, ys ++ [.ref q], upd_same, by rw [List.length_append, hyl]; rfl, fun y m => ?_⟩
            rcases List.mem_append.mp m with m | m
            · obtain ⟨q', v', e, n1, n2, h, hm⟩ := hyb y m
              refine ⟨q', v', e, n1, n2, ?_, hm⟩
              rw [upd_ne n2]
              exact s _ _ h
            · refine ⟨q, v, List.mem_singleton.mp m, new_ne c8 nq, Ne.symm yq, ?_, hvm⟩
              rw [upd_ne (Ne.symm yq)]
              exact hq
          refine ⟨rfl, tyes ⟨_, rfl, _, rfl, by show 1 ≤ sizeLine; decide, fun q nq => ⟨ta, q, xs, [v], rfl, rfl, sqT_same (same_new nq) hs6, SqT.of upd_same, by rw [sizeLine_eq, xl]; show ts.length + 1 ≤ _; omega, fun e0 => ?_, (fun _ e0 => by cases e0), fun _ _ p2 np2 => ?_⟩⟩⟩
          · subst e0
            exact fin q _ (same_new nq) nq upd_same
          · have s2 := same_new (o := .tup [v]) nq
            exact fin p2 _ (Same.trans s2 (same_new np2)) (none_of s2 np2) upd_same
        · obtain ⟨s6, ys, hy, hyl, hyb⟩ := q
          have b46 : But D H4 H' := (b5.trans (Same.but (same_new np))).trans (Same.but s6)
          have c8 : Dc H' D := c6.same s6
          have cl : (cutV zs none (some 8)).length ≤ 15 := Nat.le_trans (cutV_length _ _ _) (by rw [pm.length_eq, l3]; exact Nat.le_refl _)
          have hp6 := tasks_dc c4 b46 hp4
          have hL1' := b46 _ _ nL1 hL1
          refine ⟨L1, D2, vs1, ys, rfl, rfl, hL1', hy, by rw [sizeLine_eq]; omega, fun q nq => ?_⟩
          have b48 : But D H4 (upd H' q (.lst (vs1 ++ ys))) := b46.trans (Same.but (same_new nq))
          refine k q _ _ (new_ne c8 nq) (b03.trans (b4.trans b48)) (dc_new c8 nq) upd_same (by rw [List.length_append]; omega) fun z m => ?_
          rcases List.mem_append.mp m with m | m
          · exact (r1 z m).but b48
          · obtain ⟨q', v', e, n1, n2, h, hm⟩ := hyb z m
            obtain ⟨d, hd, nd, fd1, td⟩ := (r4 v' hm).but b48
            subst e
            refine ⟨.tuple (ts.map taskOf ++ [d]), fun H3 b3 => .base (.tup (SqT.of (b3 _ _ n1 (Same.but (same_new nq) _ _ n1 h))) (DpAll.append1 (tasks_dc c4 (b48.trans b3) hp4) (hd _ b3))) (noDict1 d nd ts),
              ⟨(fun z e => by cases e), fun es e => by
                cases e
                refine ⟨by rw [List.length_append, List.length_map]; show ts.length + 1 ≤ 1000; omega, fun x m => ?_⟩
                rcases List.mem_append.mp m with m | m
                · obtain ⟨t, ht, rfl⟩ := List.mem_map.mp m
                  exact f3 fit_int fit_int (fS _ (hf t ht))
                · rw [List.mem_singleton.mp m]
                  exact fd1⟩, ?_⟩
            rw [made_eq, List.all_append]
            have e1 : [d].all taskD = false := by show (taskD d && true) = false; rw [td]; rfl
            rw [e1, Bool.and_false, Bool.false_and, Bool.and_false]
end
end K4
namespace K4
open PySem PySem.Spec PyProof.Rows L2 DW
abbrev sDraw : Stmt := top 34
abbrev nDraw : List Str := ["dice", "most", "many", "factor", "places", "spots", "tasks", "walks", "turn", "first", "one", "other", "ticks", "names", "place", "pair", "name"]
abbrev rLen (K : PySem.W.Frag) : List V → Hp → VK → Prop := fun xs H Q => ∃ p ys, xs = [.ref p] ∧ (SqL K H p ys ∨ SqT K H p ys) ∧ Q (.int ys.length) H
abbrev tRoll (i : Nat) (n : Int) : TE := tCall spRoll [] E0 (tCons (tVar i) (tCons (tC (.int n)) tNil))
abbrev rAbs : List V → Hp → VK → Prop := fun xs H Q => ∃ i, xs = [.int i] ∧ Q (.int (if i < 0 then -i else i)) H
abbrev rMax : List V → Hp → VK → Prop := fun xs H Q => ∃ i j, xs = [.int i, .int j] ∧ Q (.int (if j > i then j else i)) H
/-! ### the figures of a drawn crew -/
abbrev S4 : List Str := ["a", "b", "c.1", "gate9"]
abbrev S5 : List Str := ["a", "b", "c.1", "gate9", "far"]
abbrev PS (ps : List Str) : List Str := ps ++ [("far" : Str)]
def distW (sx sy : Str → Int) (a b : Str) : Int := (if sx a - sx b < 0 then -(sx a - sx b) else sx a - sx b) + (if sy a - sy b > 0 then sy a - sy b else 0)
theorem dist_tri (sx sy : Str → Int) (a b m : Str) : distW sx sy a b ≤ distW sx sy a m + distW sx sy m b := by
  unfold distW
  split <;> split <;> split <;> split <;> split <;> split <;> omega
theorem dist_pos (sx sy : Str → Int) (a b : Str) : 0 ≤ distW sx sy a b := by
  unfold distW
  split <;> split <;> omega
theorem dist_self (sx sy : Str → Int) (a : Str) : distW sx sy a a = 0 := by
  unfold distW
  split <;> split <;> omega
/-- where the places lie -/
structure SpotsAt (H : Hp) (kv : List (Key × V)) (sx sy : Str → Int) (S : List Str) : Prop where
  at_ : ∀ z ∈ S, ∃ b, valV kv (.inr z) = some (.ref b) ∧ H b = some (.tup [.int (sx z), .int (sy z)]) ∧ 0 ≤ sx z ∧ sx z < 4 ∧ 0 ≤ sy z ∧ sy z < 3
  key : ∀ p ∈ kv, ∃ z ∈ S, p.1 = .inr z
  len : kv.length ≤ 5
theorem SpotsAt.same {H H' : Hp} {kv : List (Key × V)} {sx sy : Str → Int} {S : List Str} (s : Same H H') (h : SpotsAt H kv sx sy S) : SpotsAt H' kv sx sy S :=
  ⟨fun z m => by obtain ⟨b, e, h1, h2⟩ := h.at_ z m; exact ⟨b, e, s _ _ h1, h2⟩, h.key, h.len⟩
theorem SpotsAt.but {H H' : Hp} {D : Addr} {kv : List (Key × V)} {sx sy : Str → Int} {S : List Str} (c : Dc H D) (s : But D H H') (h : SpotsAt H kv sx sy S) : SpotsAt H' kv sx sy S :=
  ⟨fun z m => by
    obtain ⟨b, e, h1, h2⟩ := h.at_ z m
    obtain ⟨d0, d1, d2, ed⟩ := c
    exact ⟨b, e, s _ _ (ne_of h1 ed (by simp)) h1, h2⟩, h.key, h.len⟩
theorem mem_putK {κ : Type} [DecidableEq κ] {kvs : List (κ × V)} {k : κ} {v : V} {p : κ × V} (h : p ∈ putK kvs k v) : p ∈ kvs ∨ p = (k, v) := by
  unfold putK at h
  split at h
  · obtain ⟨q, hq, e⟩ := List.mem_map.mp h
    by_cases ek : q.1 = k
    · rw [if_pos ek] at e
      exact .inr (by rw [← e, ek])
    · rw [if_neg ek] at e
      exact .inl (by rw [← e]; exact hq)
  · rcases List.mem_append.mp h with h | h
    · exact .inl h
    · exact .inr (List.mem_singleton.mp h)
theorem mem_mergeK : ∀ {more kvs : List (Key × V)} {p : Key × V}, p ∈ mergeK kvs more → p ∈ kvs ∨ p ∈ more
  | [], _, _, h => .inl h
  | q :: more, kvs, p, h => by
    rcases mem_mergeK (more := more) (kvs := putK kvs q.1 q.2) h with h | h
    · rcases mem_putK h with h | h
      · exact .inl h
      · exact .inr (by rw [h]; exact List.mem_cons_self ..)
    · exact .inr (List.mem_cons_of_mem _ h)
theorem mergeK_some : ∀ {more kvs : List (Key × V)} {k : Key}, ((valV kvs k).isSome = true ∨ k ∈ more.map (·.1)) → (valV (mergeK kvs more) k).isSome = true
  | [], _, _, h => h.elim id fun m => by cases m
  | q :: more, kvs, k, h => by
    refine mergeK_some (more := more) (kvs := putK kvs q.1 q.2) ?_
    by_cases e : k = q.1
    · exact .inl (by rw [valV_put, if_pos e]; rfl)
    · rcases h with h | h
      · exact .inl (by rw [valV_put, if_neg e]; exact h)
      · rw [List.map_cons] at h
        rcases List.mem_cons.mp h with h | h
        · exact absurd h e
        · exact .inr h
theorem mergeK_len : ∀ {more kvs : List (Key × V)}, (mergeK kvs more).length ≤ kvs.length + more.length
  | [], _ => Nat.le_refl _
  | q :: more, kvs => by
    have z := mergeK_len (more := more) (kvs := putK kvs q.1 q.2)
    have y := putK_len kvs q.1 q.2
    show (mergeK (putK kvs q.1 q.2) more).length ≤ kvs.length + (more.length + 1)
    omega
/-- a place with its spot: the pair's address, the place, the spot's address, its two numbers -/
abbrev Spe := Addr × Str × Addr × Int × Int
def SpeOk (D D2 : Addr) (H : Hp) (e : Spe) : Prop := H e.1 = some (.tup [.str e.2.1, .ref e.2.2.1]) ∧ H e.2.2.1 = some (.tup [.int e.2.2.2.1, .int e.2.2.2.2]) ∧ 0 ≤ e.2.2.2.1 ∧ e.2.2.2.1 < 4 ∧ 0 ≤ e.2.2.2.2 ∧ e.2.2.2.2 < 3 ∧ e.1 ≠ D ∧ e.1 ≠ D2 ∧ e.2.2.1 ≠ D ∧ e.2.2.1 ≠ D2
theorem SpeOk.but {D D2 : Addr} {H H' : Hp} {e : Spe} (b : But2 D D2 H H') (h : SpeOk D D2 H e) : SpeOk D D2 H' e := by
  obtain ⟨h1, h2, h3, h4, h5, h6, n1, n2, n3, n4⟩ := h
  exact ⟨b _ _ n1 n2 h1, b _ _ n3 n4 h2, h3, h4, h5, h6, n1, n2, n3, n4⟩
def speK (e : Spe) : Key × V := (.inr e.2.1, .ref e.2.2.1)
theorem pairs_spe {K : PySem.W.Frag} {D D2 : Addr} {H : Hp} : ∀ {es : List Spe}, (∀ e ∈ es, SpeOk D D2 H e) → Paired (fun p kv => SqT K H p [kV kv.1, kv.2]) (es.map (·.1)) (es.map speK)
  | [], _ => .nil
  | e :: es, h => .cons (SqT.of (h e (List.mem_cons_self ..)).1) (pairs_spe fun x m => h x (List.mem_cons_of_mem _ m))
def numAt (H : Hp) (kv : List (Key × V)) (f : Int → Int → Int) (z : Str) : Int := match valV kv (.inr z) with
  | some (.ref b) => (match H b with | some (.tup [.int i, .int j]) => f i j | _ => 0) | _ => 0
theorem spots_of {D D2 : Addr} {H : Hp} {es : List Spe} {S : List Str} (h : ∀ e ∈ es, SpeOk D D2 H e) (n : es.map (fun e => e.2.1) = S) (l : es.length ≤ 5) : SpotsAt H (mergeK [] (es.map speK)) (numAt H (mergeK [] (es.map speK)) fun i _ => i) (numAt H (mergeK [] (es.map speK)) fun _ j => j) S := by
  refine ⟨fun z m => ?_, fun p m => ?_, ?_⟩
  · rw [← n] at m
    obtain ⟨e0, he0, ez⟩ := List.mem_map.mp m
    have is : (valV (mergeK [] (es.map speK)) (.inr z)).isSome = true := mergeK_some (.inr (List.mem_map.mpr ⟨speK e0, List.mem_map.mpr ⟨e0, he0, rfl⟩, by show (Sum.inr e0.2.1 : Key) = _; rw [ez]⟩))
    cases ev : valV (mergeK [] (es.map speK)) (.inr z) with
    | none => rw [ev] at is; cases is
    | some v =>
      rcases mem_mergeK (valV_mem ev) with m | m
      · cases m
      · obtain ⟨e, he, ee⟩ := List.mem_map.mp m
        obtain ⟨h1, h2, h3, h4, h5, h6, _⟩ := h e he
        have ev2 : v = .ref e.2.2.1 := (congrArg Prod.snd ee).symm
        subst ev2
        have e1 : numAt H (mergeK [] (es.map speK)) (fun i _ => i) z = e.2.2.2.1 := by unfold numAt; rw [ev]; show (match H e.2.2.1 with | some (.tup [.int i, .int j]) => i | _ => 0) = _; rw [h2]
        have e2 : numAt H (mergeK [] (es.map speK)) (fun _ j => j) z = e.2.2.2.2 := by unfold numAt; rw [ev]; show (match H e.2.2.1 with | some (.tup [.int i, .int j]) => j | _ => 0) = _; rw [h2]
        rw [e1, e2]
        exact ⟨e.2.2.1, rfl, h2, h3, h4, h5, h6⟩
  · rcases mem_mergeK m with m | m
    · cases m
    · obtain ⟨e, he, ee⟩ := List.mem_map.mp m
      exact ⟨e.2.1, by rw [← n]; exact List.mem_map.mpr ⟨e, he, rfl⟩, (congrArg Prod.fst ee).symm⟩
  · have z := mergeK_len (more := es.map speK) (kvs := [])
    rw [List.length_map] at z
    simp at z
    omega
def isTupO : HO → Bool
  | .tup _ => true | .frz _ (.tup _) => true | _ => false
def KeepU (H H' : Hp) : Prop := ∀ b o, isTupO o = true → H b = some o → H' b = some o
theorem sqT_keepU {K : PySem.W.Frag} {H H' : Hp} {a : Addr} {xs : List V} (s : KeepU H H') (h : SqT K H a xs) : SqT K H' a xs := by
  rcases h with (e | ⟨o, e⟩) | h
  · exact .inl (.inl (s _ _ rfl e))
  · exact .inl (.inr ⟨o, s _ _ rfl e⟩)
  · exact .inr h
theorem tasks_keepU {K : PySem.W.Frag} {H H' : Hp} (s : KeepU H H') : ∀ {xs : List V} {ts : List Tk}, DpAll K H xs (ts.map taskOf) → DpAll K H' xs (ts.map taskOf)
  | [], [], _ => .nil
  | _ :: xs, t :: ts, .cons p r => by
    obtain ⟨a, rfl, h⟩ := task_at p
    exact .cons (.tup (sqT_keepU s h) (.cons (.int _) (.cons (.int _) (.cons (.str _) .nil)))) (tasks_keepU s r)
/-- all but some places stay -/
def ButL (X : List Addr) (H H' : Hp) : Prop := ∀ b o, b ∉ X → H b = some o → H' b = some o
theorem ButL.refl {X : List Addr} {H : Hp} : ButL X H H := fun _ _ _ e => e
theorem ButL.trans {X : List Addr} {H H1 H2 : Hp} (x : ButL X H H1) (y : ButL X H1 H2) : ButL X H H2 := fun b o n e => y b o n (x b o n e)
theorem ButL.of {D : Addr} {X : List Addr} {H H' : Hp} (m : D ∈ X) (b : But D H H') : ButL X H H' := fun c o n e => b c o (fun z => n (z ▸ m)) e
theorem ButL.same {X : List Addr} {H H' : Hp} (s : Same H H') : ButL X H H' := fun c o _ e => s c o e
theorem ButL.upd {X : List Addr} {H : Hp} {a : Addr} {o : HO} (m : a ∈ X) : ButL X H (L2.upd H a o) := fun c u n e => by
  have h : c ≠ a := fun z => n (by rw [z]; exact m)
  rw [upd_ne h]
  exact e
theorem ButL.keepU {X : List Addr} {H H' : Hp} (b : ButL X H H') (n : ∀ x ∈ X, ∀ o, H x = some o → isTupO o = false) : KeepU H H' := fun c o ho e => b c o (fun m => by rw [n c m o e] at ho; cases ho) e
theorem SpotsAt.keepU {H H' : Hp} {kv : List (Key × V)} {sx sy : Str → Int} {S : List Str} (s : KeepU H H') (h : SpotsAt H kv sx sy S) : SpotsAt H' kv sx sy S :=
  ⟨fun z m => by obtain ⟨b, e, h1, h2⟩ := h.at_ z m; exact ⟨b, e, s _ _ rfl h1, h2⟩, h.key, h.len⟩
theorem drawn_task {r0 r1 fc : Int} {z : Str} (a0 : 0 ≤ r0) (a1 : r0 < 12) (b0 : 0 ≤ r1) (b1 : r1 < 4) (f0 : 0 < fc) (f1 : fc ≤ 10 ^ 28) (hz : z ∈ S4) : taskD (taskOf (r0 * fc, (r0 + 1 + r1) * fc, z)) = true := by
  have h1 : 0 ≤ r0 * fc := Int.mul_nonneg a0 (by omega)
  have h2 : r0 * fc ≤ 11 * 10 ^ 28 := Int.le_trans (Int.mul_le_mul_of_nonneg_right (by omega : r0 ≤ 11) (by omega)) (Int.mul_le_mul_of_nonneg_left f1 (by decide))
  have h3 : (r0 + 1 + r1) * fc ≤ 15 * 10 ^ 28 := Int.le_trans (Int.mul_le_mul_of_nonneg_right (by omega : r0 + 1 + r1 ≤ 15) (by omega)) (Int.mul_le_mul_of_nonneg_left f1 (by decide))
  have h4 : r0 * fc < (r0 + 1 + r1) * fc := Int.mul_lt_mul_of_pos_right (by omega) f0
  have h5 : isNameD (.str z) = true := by
    simp only [S4, List.mem_cons, List.not_mem_nil, or_false] at hz
    rcases hz with rfl | rfl | rfl | rfl <;> decide +kernel
  show (betD 0 (10 ^ 34) (.int (r0 * fc)) && (betD 0 (10 ^ 34) (.int ((r0 + 1 + r1) * fc)) && (ltI (.int (r0 * fc)) (.int ((r0 + 1 + r1) * fc)) && isNameD (.str z)))) = true
  have g1 : betD 0 (10 ^ 34) (.int (r0 * fc)) = true := by
    show (decide _ && decide _) = true
    rw [decide_eq_true h1, decide_eq_true (Int.le_trans h2 (by decide))]
    rfl
  have g2 : betD 0 (10 ^ 34) (.int ((r0 + 1 + r1) * fc)) = true := by
    show (decide _ && decide _) = true
    rw [decide_eq_true (Int.le_trans h1 (Int.le_of_lt h4)), decide_eq_true (Int.le_trans h3 (by decide))]
    rfl
  have g3 : ltI (.int (r0 * fc)) (.int ((r0 + 1 + r1) * fc)) = true := decide_eq_true h4
  rw [g1, g2, g3, h5]
  rfl
theorem strs_of {S : List Str} : ∀ {vs : List V}, (∀ v ∈ vs, ∃ z ∈ S, v = .str z) → ∃ zs : List Str, vs = zs.map V.str ∧ ∀ z ∈ zs, z ∈ S
  | [], _ => ⟨[], rfl, fun z m => by cases m⟩
  | v :: vs, h => by
    obtain ⟨z, hz, e⟩ := h v (List.mem_cons_self ..)
    obtain ⟨zs, e2, h2⟩ := strs_of fun u m => h u (List.mem_cons_of_mem _ m)
    exact ⟨z :: zs, by rw [e, e2]; rfl, fun y m => by
      rcases List.mem_cons.mp m with rfl | m
      · exact hz
      · exact h2 y m⟩
def nth0 (p : List Str × V) : Str := p.1.getD 0 ""
def nth1 (p : List Str × V) : Str := p.1.getD 1 ""
structure WalkOk (fc : Int) (sx sy : Str → Int) (S : List Str) (ws : Ws) : Prop where
  nd : (ws.map (·.1)).Nodup
  at_ : ∀ p ∈ ws, ∃ a b, p.1 = [a, b] ∧ a ∈ S ∧ b ∈ S ∧ a ≠ b ∧ p.2 = .int (distW sx sy a b * fc)
theorem nodup_putK {κ : Type} [DecidableEq κ] {kvs : List (κ × V)} {k : κ} {v : V} (h : (kvs.map (·.1)).Nodup) : ((putK kvs k v).map (·.1)).Nodup := by
  unfold putK
  split
  · have e : (kvs.map fun kv => if kv.1 = k then (kv.1, v) else kv).map (·.1) = kvs.map (·.1) := by
      rw [List.map_map]
      refine List.map_congr_left fun p _ => ?_
      show (if p.1 = k then (p.1, v) else p).1 = p.1
      split <;> rfl
    rw [e]
    exact h
  · rename_i hn
    rw [List.map_append]
    refine List.nodup_append.mpr ⟨h, List.nodup_cons.mpr ⟨by simp, List.nodup_nil⟩, fun a ha b hb => ?_⟩
    rw [List.map_singleton, List.mem_singleton] at hb
    intro e
    obtain ⟨p, hp, ep⟩ := List.mem_map.mp ha
    exact hn (List.any_eq_true.mpr ⟨p, hp, decide_eq_true (by rw [ep, e, hb])⟩)
theorem tK_put (ws : Ws) (a b : Str) (v : V) : putK (tK ws) [.inr a, .inr b] v = tK (putK ws [a, b] v) := by
  unfold putK tK
  rw [List.any_map]
  have e : ((fun kv : List Key × V => decide (kv.1 = [Sum.inr a, Sum.inr b])) ∘ fun p : List Str × V => (p.1.map Sum.inr, p.2)) = fun kv => decide (kv.1 = [a, b]) := by
    funext p
    show decide (p.1.map Sum.inr = [a, b].map Sum.inr) = decide (p.1 = [a, b])
    by_cases h : p.1 = [a, b]
    · rw [decide_eq_true h, decide_eq_true (by rw [h])]
    · rw [decide_eq_false h, decide_eq_false fun z => h (map_inr z)]
  rw [e]
  split
  · rw [List.map_map, List.map_map]
    refine List.map_congr_left fun p _ => ?_
    show (if p.1.map Sum.inr = [a, b].map Sum.inr then (p.1.map Sum.inr, v) else (p.1.map Sum.inr, p.2)) = ((if p.1 = [a, b] then (p.1, v) else p).1.map Sum.inr, (if p.1 = [a, b] then (p.1, v) else p).2)
    by_cases h : p.1 = [a, b]
    · rw [if_pos (by rw [h]), if_pos h]
    · rw [if_neg fun z => h (map_inr z), if_neg h]
  · rw [List.map_append]
    rfl
theorem WalkOk.put {fc : Int} {sx sy : Str → Int} {S : List Str} {ws : Ws} {a b : Str} (h : WalkOk fc sx sy S ws) (ha : a ∈ S) (hb : b ∈ S) (ne : a ≠ b) : WalkOk fc sx sy S (putK ws [a, b] (.int (distW sx sy a b * fc))) :=
  ⟨nodup_putK h.nd, fun p m => by
    rcases mem_putK m with m | m
    · exact h.at_ p m
    · rw [m]
      exact ⟨a, b, rfl, ha, hb, ne, rfl⟩⟩
theorem nodup_sub {α : Type} [DecidableEq α] : ∀ {l m : List α}, l.Nodup → (∀ x ∈ l, x ∈ m) → l.length ≤ m.length
  | [], _, _, _ => Nat.zero_le _
  | x :: l, m, nd, h => by
    rw [List.nodup_cons] at nd
    have hx := h x (List.mem_cons_self ..)
    have z := nodup_sub (l := l) (m := m.erase x) nd.2 fun y my => (List.mem_erase_of_ne fun e => nd.1 (by rw [← e]; exact my)).mpr (h y (List.mem_cons_of_mem _ my))
    rw [List.length_erase_of_mem hx] at z
    have : 0 < m.length := List.length_pos_of_mem hx
    rw [List.length_cons]
    omega
theorem WalkOk.len {fc : Int} {sx sy : Str → Int} {S : List Str} {ws : Ws} (h : WalkOk fc sx sy S ws) (hS : ∀ z ∈ S, z ∈ S5) : ws.length ≤ 25 := by
  have z := nodup_sub (m := S5.flatMap fun a => S5.map fun b => [a, b]) h.nd fun k m => by
    obtain ⟨p, hp, e⟩ := List.mem_map.mp m
    obtain ⟨a, b, e2, ha, hb, _⟩ := h.at_ p hp
    rw [← e, e2]
    exact List.mem_flatMap.mpr ⟨a, hS a ha, List.mem_map.mpr ⟨b, hS b hb, rfl⟩⟩
  rw [List.length_map] at z
  exact Nat.le_trans z (by decide)
theorem nameS5 {z : Str} (h : z ∈ S5) : nameS z = true := by
  simp only [S5, List.mem_cons, List.not_mem_nil, or_false] at h
  rcases h with rfl | rfl | rfl | rfl | rfl <;> decide +kernel
/-- each two different names with a way between them have it told -/
def Told (sx sy : Str → Int) (ns : List Str) (ws : Ws) (a : Str) : Prop := ∀ b ∈ ns, a ≠ b → 0 < distW sx sy a b → (valV ws [a, b]).isSome = true
theorem wk_eq {fc : Int} {sx sy : Str → Int} {ns : List Str} {ws : Ws} (h : WalkOk fc sx sy ns ws) (hT : ∀ a ∈ ns, Told sx sy ns ws a) {a b : Str} (ha : a ∈ ns) (hb : b ∈ ns) : wk ws a b = distW sx sy a b * fc := by
  unfold wk
  cases e : valV ws [a, b] with
  | some v =>
    obtain ⟨a', b', e1, _, _, _, e2⟩ := h.at_ _ (valV_mem e)
    have e1 : [a, b] = [a', b'] := e1
    injection e1 with e3 e4
    injection e4 with e4
    have e2 : v = .int (distW sx sy a' b' * fc) := e2
    rw [e2, e3, e4]
  | none =>
    by_cases ab : a = b
    · rw [ab, dist_self, Int.zero_mul]
    · have d0 : distW sx sy a b = 0 := by
        have p := dist_pos sx sy a b
        by_cases q : 0 < distW sx sy a b
        · have := hT a ha b hb ab q
          rw [e] at this
          cases this
        · omega
      rw [d0, Int.zero_mul]
theorem walks_ok {fc : Int} {sx sy : Str → Int} {ns PL : List Str} {ws : Ws} (h : WalkOk fc sx sy ns ws) (hT : ∀ a ∈ ns, Told sx sy ns ws a) (h5 : ∀ z ∈ ns, z ∈ S5) (hP : ∀ z ∈ PL, z ∈ ns) (f0 : 0 < fc) (f1 : fc ≤ 10 ^ 28) (hd : ∀ a ∈ ns, ∀ b ∈ ns, distW sx sy a b ≤ 5) : walksB ws PL = true := by
  unfold walksB
  rw [Bool.and_eq_true, List.all_eq_true, List.all_eq_true]
  refine ⟨fun p hp => ?_, fun p hp => ?_⟩
  · obtain ⟨ks, u⟩ := p
    obtain ⟨a, b, e1, ha, hb, ne, e2⟩ := h.at_ _ hp
    have e1 : ks = [a, b] := e1
    have e2 : u = .int (distW sx sy a b * fc) := e2
    subst e1 e2
    rw [pairOk_eq, nameS5 (h5 a ha), nameS5 (h5 b hb), decide_eq_false ne]
    have l0 : 0 ≤ distW sx sy a b * fc := Int.mul_nonneg (dist_pos _ _ _ _) (by omega)
    have l1 : distW sx sy a b * fc ≤ 5 * 10 ^ 28 := Int.le_trans (Int.mul_le_mul_of_nonneg_right (hd a ha b hb) (by omega)) (Int.mul_le_mul_of_nonneg_left f1 (by decide))
    show (true && (true && (!false && (decide _ && decide _)))) = true
    rw [decide_eq_true l0, decide_eq_true (Int.le_trans l1 (by decide))]
    rfl
  · obtain ⟨ks, u⟩ := p
    obtain ⟨a, b, e1, ha, hb, ne, e2⟩ := h.at_ _ hp
    have e1 : ks = [a, b] := e1
    subst e1
    show ((PL ++ namesW ws).all fun m => decide (wk ws a b ≤ wk ws a m + wk ws m b)) = true
    refine List.all_eq_true.mpr fun m hm => decide_eq_true ?_
    have hmn : m ∈ ns := by
      rcases List.mem_append.mp hm with hm | hm
      · exact hP m hm
      · obtain ⟨p, hp2, hm⟩ := List.mem_flatMap.mp hm
        obtain ⟨a', b', e1, ha', hb', _⟩ := h.at_ _ hp2
        rw [e1] at hm
        rcases List.mem_cons.mp hm with hm | hm
        · rw [hm]; exact ha'
        · rw [List.mem_singleton.mp hm]; exact hb'
    rw [wk_eq h hT ha hb, wk_eq h hT ha hmn, wk_eq h hT hmn hb, ← Int.add_mul]
    exact Int.mul_le_mul_of_nonneg_right (dist_tri sx sy a b m) (by omega)
section
variable {P : Program} {w : World} {K : PySem.W.Frag} {mg : Str → Option Value} {base : Heap}
theorem scDraw : FnScope nDraw ["dice", "most"] (defScope sDraw) := ⟨rfl, rfl, rfl, by decide +kernel, rfl, by decide +kernel, by decide +kernel⟩
def spDraw (K : PySem.W.Frag) : Sp := fun vs H Q _ => ∃ D : Addr, vs = [.ref D, .int 6] ∧ Dc H D ∧
  ∀ (p ta wa : Addr) (xs : List V) (ts : List Tk) (ws : Ws) H', But D H H' → Dc H' D → H' p = some (.tup [.ref ta, .ref wa]) → H' ta = some (.tup xs) → DpAll K H' xs (ts.map taskOf) → ts.length ≤ 6 → (ts.map taskOf).all taskD = true →
    H' wa = some (.dT (tK ws)) → WsOk ws → walksB ws (ts.map fun t => t.2.2) = true → (∀ z ∈ (ts.map fun t => t.2.2) ++ namesW ws, z ∈ S5) → Q (.ref p) H'
abbrev tTicks (K : PySem.W.Frag) : TE := tOp (rI0 fun i j => .int (i + j))
  (tCB rAbs (tCons (tOp (rI0 fun i j => .int (i - j)) (tOp (rIxT K) (tDGet (tVar 5) (tVar 10)) (tC (.int 0))) (tOp (rIxT K) (tDGet (tVar 5) (tVar 11)) (tC (.int 0)))) tNil))
  (tCB rMax (tCons (tC (.int 0)) (tCons (tOp (rI0 fun i j => .int (i - j)) (tOp (rIxT K) (tDGet (tVar 5) (tVar 10)) (tC (.int 1))) (tOp (rIxT K) (tDGet (tVar 5) (tVar 11)) (tC (.int 1)))) tNil)))
theorem ok_draw {f fR fP fS : Addr} {fd dR dP dS : FuncData} (F : Fun K "_law_hd_drawn" "_law_hd_drawn" sDraw f fd) (CR' : Cal P w K mg base 1 "_law_roll" ["dice", "total"] spRoll fR dR) (CP : Cal P w K mg base 2 "_law_pick" ["dice", "items"] (spPick K) fP dP) (CS : Cal P w K mg base 2 "_law_shuffled" ["dice", "items"] spShuf fS dS)
    (zD : mg "dict" = none) (zR : mg "range" = none) (zA : mg "abs" = none) (zM : mg "max" = none) (zS : mg "sorted" = none) (zSe : mg "set" = none) (zT : mg "tuple" = none) : FnOk P w K mg base CX0 3 f fd ["dice", "most"] (spDraw K) := by
  refine F.ok scDraw (fun vs H Q E h => ?_) (fun cdv A outer s H vs Q E hr h => ?_)
  · obtain ⟨D, rfl, _⟩ := h
    rfl
  obtain ⟨D, rfl, hc, k⟩ := h
  refine ⟨_, C8.pss_cut (ps_par (i := 2) (j := 3) rfl scDraw.nd rfl rfl (by decide) rfl rfl (pa_cons (pe_cal (E := E0) CR' hr rfl (pa_cons (pv 0) (pa_cons (pe_op op_add (pv 1) pe_int) pa_nil)))
      (pa_cons (pe_cal (E := E0) CP hr rfl (pa_cons (pv 0) (pa_cons (pe_lst (pa_cons pe_int (pa_cons pe_int (pa_cons pe_int (pa_cons pe_int (pa_cons (pe_op op_powW pe_int pe_int) pa_nil)))))) pa_nil))) pa_nil)) (by rfl))
    (C8.pss_cut (ps_set (i := 4) scDraw.nd rfl (Or.inr rfl) (pe_slice sl_list (pe_cal (E := E0) CS hr rfl (pa_cons (pv 0) (pa_cons (pe_lst (pa_cons pe_str (pa_cons pe_str (pa_cons pe_str (pa_cons pe_str pa_nil))))) pa_nil))) po_none (po_some (pe_op op_add pe_int (pe_cal (E := E0) CR' hr rfl (pa_cons (pv 0) (pa_cons pe_int pa_nil)))))))
    (C8.pss_cut (ps_set (i := 5) scDraw.nd rfl (Or.inl rfl) (pe_callTy (call_dictP rfl) (by rfl) zD (by decide +kernel) (pa_cons (pe_lc (own := [("place", 14)]) (g := gName 14) (tt := tYes) (te := tTup (tCons (tVar 14) (tCons (tTup (tCons (tRoll 0 4) (tCons (tRoll 0 3) tNil))) tNil))) rfl scDraw.nd (pi_list (pe_op op_cat (pv 4) (pe_lst (pa_cons pe_str pa_nil)))) (blkOk_by (own := [("place", 14)]) (N := nDraw) (sc := defScope sDraw) (by decide +kernel))
        (fun _ _ _ _ _ => pg_name (i := 14) scDraw.nd rfl (Or.inl rfl)) (fun _ _ _ _ _ => pts_nil) (fun _ _ _ _ _ => pe_tup (pa_cons (pv 14) (pa_cons (pe_tup (pa_cons (pe_cal (E := E0) CR' (hr.mono (by decide)) rfl (pa_cons (pv 0) (pa_cons pe_int pa_nil)) (Nat.le_refl _)) (pa_cons (pe_cal (E := E0) CR' (hr.mono (by decide)) rfl (pa_cons (pv 0) (pa_cons pe_int pa_nil)) (Nat.le_refl _)) pa_nil))) pa_nil)))) pa_nil)))
    (C8.pss_cut (ps_par (i := 6) (j := 7) rfl scDraw.nd rfl rfl (by decide) rfl rfl (pa_cons (pe_lst pa_nil) (pa_cons pe_dnewT pa_nil)) (by rfl))
    (C8.pss_cut (ps_for PassesOwn.never rfl (pi_range1 rfl zR (pa_cons (pv 2) pa_nil)) (pg_name (i := 8) scDraw.nd rfl (.inl rfl))
        (pss_cons (ps_set (i := 9) scDraw.nd rfl (Or.inl rfl) (pe_cal (E := E0) CR' hr rfl (pa_cons (pv 0) (pa_cons pe_int pa_nil))))
        (pss_one (ps_expr (pe_bm PySem.F.plainAttrs_list PySem.F.slot_list_append PySem.F.type_list_append mt_append (pv 6) (pa_cons (pe_tup (pa_cons (pe_op op_mul (pv 9) (pv 3)) (pa_cons (pe_op op_mul (pe_op op_add (pe_op op_add (pv 9) pe_int) (pe_cal (E := E0) CR' hr rfl (pa_cons (pv 0) (pa_cons pe_int pa_nil)))) (pv 3))
          (pa_cons (pe_cal (E := E0) CP hr rfl (pa_cons (pv 0) (pa_cons (pv 4) pa_nil))) pa_nil)))) pa_nil))))))
    (C8.pss_cut (ps_for PassesOwn.never rfl (pi_list (pe_op op_cat (pv 4) (pe_op op_rep (pe_lst (pa_cons pe_str pa_nil)) (pe_cal (E := E0) CR' hr rfl (pa_cons (pv 0) (pa_cons pe_int pa_nil)))))) (pg_name (i := 10) scDraw.nd rfl (.inr rfl))
        (pss_one (ps_for PassesOwn.never rfl (pi_list (pe_lock (pe_lc (own := [("place", 14)]) (g := gName 14) (tt := tAnd (tTest (tOp rNe (tVar 14) (tVar 10))) (tOr (tTest (tOp (rIn K false) (tVar 14) (tVar 4))) (tTest (tOp rEq (tVar 10) (tC (.str "far")))))) (te := tVar 14) rfl scDraw.nd (pi_keys (pv 5)) (blkOk_by (own := [("place", 14)]) (N := nDraw) (sc := defScope sDraw) (by decide +kernel))
            (fun _ _ _ _ _ => pg_name (i := 14) scDraw.nd rfl (Or.inl rfl)) (fun _ _ _ _ _ => pts_one (PW.pt (pw_and (pt_cmpR op_ne (pv 14) (pv 10) (nomark _)) (pw_and1 (PW.pt (pw_or (pt_cmpR op_in_seq (pv 14) (pv 4) (by rfl)) (pw_or1 (pt_cmpR op_eq (pv 10) pe_str (nomark _)))))))))  (fun _ _ _ _ _ => pv 14)))) (pg_name (i := 11) scDraw.nd rfl (.inl rfl))
          (pss_cons (ps_set (i := 12) scDraw.nd rfl (Or.inl rfl) (pe_op op_add (pe_callB call_abs (by rfl) zA (by decide +kernel) (pa_cons (pe_op op_sub (pe_ix (r := rIxT K) ix_tup (pe_dget (hu_of hr) (pv 5) (pv 10) (fun _ _ => rfl)) pe_int (fun _ _ => rfl)) (pe_ix (r := rIxT K) ix_tup (pe_dget (hu_of hr) (pv 5) (pv 11) (fun _ _ => rfl)) pe_int (fun _ _ => rfl))) pa_nil))
              (pe_callB (call_max2 rfl) (by rfl) zM (by decide +kernel) (pa_cons pe_int (pa_cons (pe_op op_sub (pe_ix (r := rIxT K) ix_tup (pe_dget (hu_of hr) (pv 5) (pv 10) (fun _ _ => rfl)) pe_int (fun _ _ => rfl)) (pe_ix (r := rIxT K) ix_tup (pe_dget (hu_of hr) (pv 5) (pv 11) (fun _ _ => rfl)) pe_int (fun _ _ => rfl))) pa_nil)))))
          (pss_one (ps_if (PW.pt (pw_or (pt_cmpR op_gt (pv 12) pe_int (nomark _)) (pw_or1 (pt_cmpR op_eq (pe_cal (E := E0) CR' hr rfl (pa_cons (pv 0) (pa_cons pe_int pa_nil))) pe_int (nomark _)))))
            (pss_one (ps_dput (hu_of hr) (pv 7) (pe_tup (pa_cons (pv 10) (pa_cons (pv 11) pa_nil))) (pe_op op_mul (pv 12) (pv 3)) rfl)) pss_nil))))))
    (C8.pss_cut (ps_set (i := 13) scDraw.nd rfl (Or.inl rfl) (pe_sortSet rfl rfl zS rfl zSe (pe_op op_cat (pe_op op_cat (pe_lock (pe_lc (own := [("pair", 15)]) (g := gName 15) (tt := tYes) (te := tOp (rIxT K) (tVar 15) (tC (.int 0))) rfl scDraw.nd (pi_keys (pv 7)) (blkOk_by (own := [("pair", 15)]) (N := nDraw) (sc := defScope sDraw) (by decide +kernel))
            (fun _ _ _ _ _ => pg_name (i := 15) scDraw.nd rfl (Or.inl rfl)) (fun _ _ _ _ _ => pts_nil) (fun _ _ _ _ _ => pe_ix (r := rIxT K) ix_tup (pv 15) pe_int (fun _ _ => rfl))))
          (pe_lock (pe_lc (own := [("pair", 15)]) (g := gName 15) (tt := tYes) (te := tOp (rIxT K) (tVar 15) (tC (.int 1))) rfl scDraw.nd (pi_keys (pv 7)) (blkOk_by (own := [("pair", 15)]) (N := nDraw) (sc := defScope sDraw) (by decide +kernel))
            (fun _ _ _ _ _ => pg_name (i := 15) scDraw.nd rfl (Or.inl rfl)) (fun _ _ _ _ _ => pts_nil) (fun _ _ _ _ _ => pe_ix (r := rIxT K) ix_tup (pv 15) pe_int (fun _ _ => rfl))))) (pv 4))))
    (C8.pss_cut (ps_for PassesOwn.never rfl (pi_list (pv 13)) (pg_name (i := 10) scDraw.nd rfl (.inr rfl))
        (pss_one (ps_for PassesOwn.never rfl (pi_list (pe_lc (own := [("name", 16)]) (g := gName 16) (tt := tTest (tOp rNe (tVar 16) (tVar 10))) (te := tVar 16) rfl scDraw.nd (pi_list (pv 13)) (blkOk_by (own := [("name", 16)]) (N := nDraw) (sc := defScope sDraw) (by decide +kernel))
            (fun _ _ _ _ _ => pg_name (i := 16) scDraw.nd rfl (Or.inl rfl)) (fun _ _ _ _ _ => pts_one (pt_cmpR op_ne (pv 16) (pv 10) (nomark _))) (fun _ _ _ _ _ => pv 16))) (pg_name (i := 11) scDraw.nd rfl (.inl rfl))
          (pss_cons (ps_set (i := 12) scDraw.nd rfl (Or.inl rfl) (pe_op op_add (pe_callB call_abs (by rfl) zA (by decide +kernel) (pa_cons (pe_op op_sub (pe_ix (r := rIxT K) ix_tup (pe_dget (hu_of hr) (pv 5) (pv 10) (fun _ _ => rfl)) pe_int (fun _ _ => rfl)) (pe_ix (r := rIxT K) ix_tup (pe_dget (hu_of hr) (pv 5) (pv 11) (fun _ _ => rfl)) pe_int (fun _ _ => rfl))) pa_nil))
              (pe_callB (call_max2 rfl) (by rfl) zM (by decide +kernel) (pa_cons pe_int (pa_cons (pe_op op_sub (pe_ix (r := rIxT K) ix_tup (pe_dget (hu_of hr) (pv 5) (pv 10) (fun _ _ => rfl)) pe_int (fun _ _ => rfl)) (pe_ix (r := rIxT K) ix_tup (pe_dget (hu_of hr) (pv 5) (pv 11) (fun _ _ => rfl)) pe_int (fun _ _ => rfl))) pa_nil)))))
          (pss_one (ps_if (pt_cmpR op_gt (pv 12) pe_int (nomark _))
            (pss_one (ps_dput (hu_of hr) (pv 7) (pe_tup (pa_cons (pv 10) (pa_cons (pv 11) pa_nil))) (pe_op op_mul (pv 12) (pv 3)) rfl)) pss_nil))))))
    (pss_one (ps_ret (pe_tup (pa_cons (pe_callTy call_tuple_of (by rfl) zT (by decide +kernel) (pa_cons (pv 6) pa_nil)) (pa_cons (pv 7) pa_nil)))))))))))), ?_⟩
  refine ⟨fun σ' H' => ∃ (m : Int) (fc : Int), σ' = [some (.ref D), some (.int 6), some (.int m), some (.int fc), none, none, none, none, none, none, none, none, none, none, none, none, none] ∧ But D H H' ∧ Dc H' D ∧ 0 ≤ m ∧ m < 7 ∧ 0 < fc ∧ fc ≤ 10 ^ 28, ?_, ?_⟩
  · obtain ⟨d0, d1, d2, eD⟩ := id hc
    refine ⟨_, rfl, _, rfl, _, _, rfl, rfl, D, d0, d1, d2, _, rfl, eD, by decide, by decide, fun m e0 e2 m0 m1 => ?_⟩
    have b1 : But D H (upd H D (.lst [.int e0, .int d1, .int e2])) := But.upd
    have c1 : Dc (upd H D (.lst [.int e0, .int d1, .int e2])) D := ⟨e0, d1, e2, upd_same⟩
    generalize upd H D (.lst [.int e0, .int d1, .int e2]) = H1 at b1 c1 ⊢
    refine ⟨_, rfl, _, _, rfl, rfl, ⟨by decide, by decide +kernel⟩, by show 5 ≤ sizeLine; decide, fun p np => ?_⟩
    have c2 := dc_new (o := .lst [V.int 1, V.int 1, V.int 1, V.int 60, V.int (10 ^ Int.toNat 28)]) c1 np
    refine ⟨D, .ref p, rfl, c2, .inl ⟨p, _, rfl, new_ne c1 np, upd_same, by show 0 < 5; decide, by show 5 < 1000; decide, fun u H2 hu b2 c2 => ⟨_, _, rfl, ?_⟩⟩⟩
    have b02 : But D H H2 := b1.trans ((Same.but (same_new np)).trans b2)
    have : ∃ fc : Int, u = .int fc ∧ 0 < fc ∧ fc ≤ 10 ^ 28 := by
      simp only [List.mem_cons, List.not_mem_nil, or_false] at hu
      rcases hu with rfl | rfl | rfl | rfl | rfl
      · exact ⟨1, rfl, by decide, by decide⟩
      · exact ⟨1, rfl, by decide, by decide⟩
      · exact ⟨1, rfl, by decide, by decide⟩
      · exact ⟨60, rfl, by decide, by decide⟩
      · exact ⟨_, rfl, by decide +kernel, by decide +kernel⟩
    obtain ⟨fc, rfl, f0, f1⟩ := this
    exact ⟨m, fc, rfl, b02, c2, m0, m1, f0, f1⟩
  rintro σ1 H1 ⟨m, fc, rfl, b1, c1, m0, m1, f0, f1⟩
  refine ⟨fun σ' H' => ∃ (pl : Addr) (ps : List Str), σ' = [some (.ref D), some (.int 6), some (.int m), some (.int fc), some (.ref pl), none, none, none, none, none, none, none, none, none, none, none, none] ∧ But D H1 H' ∧ Dc H' D ∧ pl ≠ D ∧ H' pl = some (.lst (ps.map V.str)) ∧ 0 < ps.length ∧ ps.length ≤ 4 ∧ ∀ z ∈ ps, z ∈ S4, ?_, ?_⟩
  · refine ⟨_, rfl, by show 4 ≤ sizeLine; decide, fun p np => ?_⟩
    have c2 := dc_new (o := .lst (S4.map V.str)) c1 np
    refine ⟨D, p, S4.map V.str, rfl, c2, new_ne c1 np, upd_same, by decide, fun L zs H2 nL hL pm b2 c3 => ?_⟩
    obtain ⟨d0, d1, d2, eD⟩ := id c3
    refine ⟨_, rfl, D, d0, d1, d2, _, rfl, eD, by decide, by decide, fun r e0 e2 r0 r1 => ?_⟩
    have b3 : But D H2 (upd H2 D (.lst [.int e0, .int d1, .int e2])) := But.upd
    have c4 : Dc (upd H2 D (.lst [.int e0, .int d1, .int e2])) D := ⟨e0, d1, e2, upd_same⟩
    generalize upd H2 D (.lst [.int e0, .int d1, .int e2]) = H3 at b3 c4 ⊢
    refine ⟨_, _, rfl, rfl, _, rfl, L, zs, rfl, SqL.of (b3 _ _ nL hL), fun q nq => ?_⟩
    have hz : ∀ v ∈ cutV zs none (some (1 + r)), ∃ z ∈ S4, v = .str z := fun v mv => by
      obtain ⟨z, hz, e⟩ := List.mem_map.mp (pm.subset (cut_mem mv))
      exact ⟨z, hz, e.symm⟩
    obtain ⟨ps, ep, hp⟩ := strs_of hz
    have lz : zs.length = 4 := pm.length_eq
    have lp : ps.length = (cutV zs none (some (1 + r))).length := by rw [ep, List.length_map]
    have lc : (cutV zs none (some (1 + r))).length = (1 + r).toNat := by
      obtain ⟨n, rfl⟩ : ∃ n : Nat, r = n := ⟨r.toNat, by omega⟩
      unfold cutV
      rw [HT.sIx_none, show (1 : Int) + (n : Int) = ((1 + n : Nat) : Int) from by omega, HT.sIx_nat, lz, List.length_take, List.length_drop, lz, Int.toNat_natCast]
      omega
    rw [ep]
    exact ⟨q, ps, rfl, ((Same.but (same_new np)).trans (b2.trans b3)).trans (Same.but (same_new nq)), dc_new c4 nq, new_ne c4 nq, upd_same, by omega, by omega, hp⟩
  rintro σ2 H2 ⟨pl, ps, rfl, b2, c2, npl, hpl, lp0, lp4, hps⟩
  refine ⟨fun σ' H' => ∃ (sp : Addr) (kv : List (Key × V)) (sx sy : Str → Int), σ' = [some (.ref D), some (.int 6), some (.int m), some (.int fc), some (.ref pl), some (.ref sp), none, none, none, none, none, none, none, none, none, none, none] ∧ But D H2 H' ∧ Dc H' D ∧ sp ≠ D ∧ H' sp = some (.dK kv) ∧ SpotsAt H' kv sx sy (PS ps), ?_, ?_⟩
  · refine ⟨_, rfl, by show 1 ≤ sizeLine; decide, fun p np => ?_⟩
    have plp : pl ≠ p := ne_of_none hpl np
    refine ⟨pl, p, ps.map V.str, [.str "far"], rfl, rfl, by rw [upd_ne plp]; exact hpl, upd_same, by rw [List.length_map, sizeLine_eq]; show ps.length + 1 ≤ _; omega, fun q nq => ⟨q, rfl, ⟨_, SqL.of upd_same⟩, fun D2 hD2 => ?_⟩⟩
    have c3 := dc_new (o := .lst (ps.map V.str ++ [V.str "far"])) (dc_new (o := .lst [V.str "far"]) c2 np) nq
    have b3 : But D H2 (upd (upd H2 p (.lst [V.str "far"])) q (.lst (ps.map V.str ++ [V.str "far"]))) := (Same.but (same_new np)).trans (Same.but (same_new nq))
    have hq3 : (upd (upd H2 p (.lst [V.str "far"])) q (.lst (ps.map V.str ++ [V.str "far"]))) q = some (.lst (ps.map V.str ++ [V.str "far"])) := upd_same
    have nq3 := new_ne (dc_new (o := .lst [V.str "far"]) c2 np) nq
    have eP : ps.map V.str ++ [V.str "far"] = (PS ps).map V.str := by rw [List.map_append]; rfl
    rw [eP] at hD2 c3 b3 hq3 ⊢
    generalize upd (upd H2 p (.lst [V.str "far"])) q (.lst ((PS ps).map V.str)) = H3 at hD2 c3 b3 hq3 ⊢
    have qD2 : q ≠ D2 := ne_of_none hq3 hD2
    have nD2 := new_ne c3 hD2
    refine lc_it (walk_list (K := K) (a := q) (xs := (PS ps).map V.str)) (fun i H' => But2 D D2 H3 H' ∧ Dc H' D ∧ ∃ es : List Spe, H' D2 = some (.lst (es.map fun e => V.ref e.1)) ∧ es.map (fun e => e.2.1) = (PS ps).take i ∧ ∀ e ∈ es, SpeOk D D2 H' e)
      ⟨fun c o n1 n2 e => by rw [upd_ne n2]; exact e, dc_new c3 hD2, [], upd_same, rfl, fun e m => by cases m⟩ (fun i H' _ z => SqL.of (z.1 _ _ nq3 qD2 hq3)) (fun i v H0' H' hi z y => ?_) (fun H' z => ?_)
    · obtain ⟨b4, c4, es, hes, hn, hok⟩ := z
      obtain ⟨e, hv⟩ := y
      subst e
      rw [List.length_map] at hi
      have hz : (PS ps)[i]? = some (PS ps)[i] := List.getElem?_eq_getElem hi
      rw [List.getElem?_map, hz] at hv
      cases hv
      obtain ⟨d0, d1, d2, eD⟩ := id c4
      refine ⟨rfl, tyes ⟨_, rfl, _, rfl, D, d0, d1, d2, _, rfl, eD, by decide, by decide, fun x e0 e2 x0 x1 => ?_⟩⟩
      have b5 : But D H' (upd H' D (.lst [.int e0, .int d1, .int e2])) := But.upd
      have eD5 : upd H' D (.lst [.int e0, .int d1, .int e2]) D = some (.lst [.int e0, .int d1, .int e2]) := upd_same
      generalize upd H' D (.lst [.int e0, .int d1, .int e2]) = H5 at b5 eD5 ⊢
      refine ⟨_, rfl, D, _, _, _, _, rfl, eD5, by decide, by decide, fun y f0 f2 y0 y1 => ?_⟩
      have b6 : But D H5 (upd H5 D (.lst [.int f0, .int d1, .int f2])) := But.upd
      have c6 : Dc (upd H5 D (.lst [.int f0, .int d1, .int f2])) D := ⟨f0, d1, f2, upd_same⟩
      generalize upd H5 D (.lst [.int f0, .int d1, .int f2]) = H6 at b6 c6 ⊢
      refine ⟨by show 2 ≤ sizeLine; decide, fun b nb => ⟨by show 2 ≤ sizeLine; decide, fun a na => ?_⟩⟩
      have hb : upd H6 b (.tup [V.int x, V.int y]) b = some (.tup [V.int x, V.int y]) := upd_same
      have ba : b ≠ a := ne_of_none hb na
      have b46 : But D H' H6 := b5.trans b6
      have h2 : H6 D2 = some (.lst (es.map fun e => V.ref e.1)) := b46 _ _ nD2 hes
      have D2b : D2 ≠ b := ne_of_none h2 nb
      have h2' : upd H6 b (.tup [V.int x, V.int y]) D2 = some (.lst (es.map fun e => V.ref e.1)) := by rw [upd_ne D2b]; exact h2
      have D2a : D2 ≠ a := ne_of_none h2' na
      have sNew : Same H6 (upd (upd H6 b (.tup [V.int x, V.int y])) a (.tup [.str (PS ps)[i], .ref b])) := Same.trans (same_new nb) (same_new na)
      have bn : But2 D D2 H' (upd (upd (upd H6 b (.tup [V.int x, V.int y])) a (.tup [.str (PS ps)[i], .ref b])) D2 (.lst (es.map (fun e => V.ref e.1) ++ [.ref a]))) := fun c o n1 n2 e => by
        rw [upd_ne n2]
        exact sNew _ _ (b46 c o n1 e)
      have el : es.length = i := by have := congrArg List.length hn; rw [List.length_map, List.length_take] at this; omega
      have lS : (PS ps).length = ps.length + 1 := by rw [List.length_append]; rfl
      refine ⟨es.map fun e => V.ref e.1, sNew _ _ h2, by rw [List.length_map, sizeLine_eq]; omega, fun c o n1 n2 e => bn _ _ n1 n2 (b4 _ _ n1 n2 e), ?_, es ++ [(a, (PS ps)[i], b, x, y)], ?_, ?_, fun e me => ?_⟩
      · obtain ⟨g0, g1, g2, eg⟩ := c6
        exact ⟨g0, g1, g2, by rw [upd_ne (Ne.symm nD2)]; exact sNew _ _ eg⟩
      · rw [upd_same, List.map_append]
        rfl
      · rw [List.map_append, hn, takeSucc hz]
        rfl
      · rcases List.mem_append.mp me with me | me
        · exact (hok e me).but bn
        · rw [List.mem_singleton.mp me]
          refine ⟨by show upd (upd (upd H6 b _) a _) D2 _ a = _; rw [upd_ne (Ne.symm D2a), upd_same], by show upd (upd (upd H6 b _) a _) D2 _ b = _; rw [upd_ne (Ne.symm D2b), upd_ne ba, upd_same], x0, x1, y0, y1, ?_, Ne.symm D2a, ?_, Ne.symm D2b⟩
          · exact new_ne (dc_new c6 nb) na
          · exact new_ne c6 nb
    · obtain ⟨b4, c4, es, hes, hn, hok⟩ := z
      rw [List.length_map, List.take_length] at hn
      have lS : (PS ps).length = ps.length + 1 := by rw [List.length_append]; rfl
      have el : es.length ≤ 5 := by have := congrArg List.length hn; rw [List.length_map] at this; omega
      refine ⟨D2, es.map (·.1), es.map speK, rfl, SqL.of (by rw [hes, List.map_map]; rfl), pairs_spe hok, fun sp nsp => ?_⟩
      have b5 : But D H2 (upd H' sp (.dK (mergeK [] (es.map speK)))) := fun c o nc e => by
        have e3 := b3 c o nc e
        exact same_new nsp _ _ (b4 c o nc (ne_of_none e3 hD2) e3)
      exact ⟨sp, _, _, _, rfl, b5, dc_new c4 nsp, new_ne c4 nsp, upd_same, (spots_of hok hn el).same (same_new nsp)⟩
  rintro σ3 H3 ⟨sp, kv, sx, sy, rfl, b3, c3, nsp, hsp, spo⟩
  have hpl3 := b3 _ _ npl hpl
  refine ⟨fun σ' H' => ∃ (tl wl : Addr), σ' = [some (.ref D), some (.int 6), some (.int m), some (.int fc), some (.ref pl), some (.ref sp), some (.ref tl), some (.ref wl), none, none, none, none, none, none, none, none, none] ∧ Same H3 H' ∧ Dc H' D ∧ tl ≠ D ∧ wl ≠ D ∧ tl ≠ wl ∧ H' tl = some (.lst []) ∧ H' wl = some (.dT []) ∧ H3 tl = none ∧ H3 wl = none, ?_, ?_⟩
  · refine ⟨by show 0 ≤ sizeLine; decide, fun tl ntl => fun wl nwl => ⟨_, _, rfl, tl, wl, rfl, Same.trans (same_new ntl) (same_new nwl), dc_new (dc_new c3 ntl) nwl, new_ne c3 ntl, new_ne (dc_new c3 ntl) nwl, ne_of_none upd_same nwl, ?_, upd_same, ntl, none_of (same_new ntl) nwl⟩⟩
    rw [upd_ne (ne_of_none upd_same nwl)]
    exact upd_same
  rintro σ4 H4 ⟨tl, wl, rfl, s4, c4, ntl, nwl, ntw, htl, hwl, ftl, fwl⟩
  have hpl4 := s4 _ _ hpl3
  have hsp4 := s4 _ _ hsp
  have spo4 := spo.same s4
  have pltl : pl ≠ tl := ne_of_none hpl3 ftl
  have plwl : pl ≠ wl := ne_of_none hpl3 fwl
  have sptl : sp ≠ tl := ne_of_none hsp ftl
  have spwl : sp ≠ wl := ne_of_none hsp fwl
  have nT4 : ∀ x ∈ [D, tl], ∀ o, H4 x = some o → isTupO o = false := fun x mx o e => by
    rcases List.mem_cons.mp mx with rfl | mx
    · obtain ⟨d0, d1, d2, ed⟩ := c4
      rw [ed] at e; cases e; rfl
    · rw [List.mem_singleton.mp mx, htl] at e; cases e; rfl
  refine ⟨fun σ' H' => ∃ (x8 x9 : Option V) (xs : List V) (ts : List Tk), σ' = [some (.ref D), some (.int 6), some (.int m), some (.int fc), some (.ref pl), some (.ref sp), some (.ref tl), some (.ref wl), x8, x9, none, none, none, none, none, none, none] ∧ ButL [D, tl] H4 H' ∧ Dc H' D ∧ H' tl = some (.lst xs) ∧ DpAll K H' xs (ts.map taskOf) ∧ ts.length ≤ 6 ∧ (ts.map taskOf).all taskD = true ∧ ∀ t ∈ ts, t.2.2 ∈ ps, ?_, ?_⟩
  · refine ⟨_, rfl, _, rfl, by omega, by omega, ?_⟩
    refine for_range (lo := 0) (n := m.toNat) (fun i σ H' => ∃ (x8 x9 : Option V) (xs : List V) (ts : List Tk), σ = [some (.ref D), some (.int 6), some (.int m), some (.int fc), some (.ref pl), some (.ref sp), some (.ref tl), some (.ref wl), x8, x9, none, none, none, none, none, none, none] ∧ ButL [D, tl] H4 H' ∧ Dc H' D ∧ H' tl = some (.lst xs) ∧ DpAll K H' xs (ts.map taskOf) ∧ ts.length = i ∧ (ts.map taskOf).all taskD = true ∧ ∀ t ∈ ts, t.2.2 ∈ ps)
      ⟨none, none, [], [], rfl, ButL.refl, c4, htl, .nil, rfl, rfl, fun t mt => by cases mt⟩ (fun i σ H' hi z => ?_) (fun σ H' z => ?_)
    · obtain ⟨x8, x9, xs, ts, rfl, b5, c5, h5, hp5, l5, a5, p5⟩ := z
      obtain ⟨d0, d1, d2, eD⟩ := id c5
      refine ⟨_, rfl, D, d0, d1, d2, _, rfl, eD, by decide, by decide, fun r0 e0 e2 r00 r01 => ?_⟩
      have b6 : But D H' (upd H' D (.lst [.int e0, .int d1, .int e2])) := But.upd
      have eD6 : upd H' D (.lst [.int e0, .int d1, .int e2]) D = some (.lst [.int e0, .int d1, .int e2]) := upd_same
      generalize upd H' D (.lst [.int e0, .int d1, .int e2]) = H6 at b6 eD6 ⊢
      refine ⟨_, rfl, .inl ⟨rfl, _, SqL.of (b6 _ _ ntl h5)⟩, _, rfl, _, rfl, _, _, rfl, rfl, .inl ⟨by omega, by omega⟩, _, rfl, _, _, rfl, rfl, _, rfl, D, _, _, _, _, rfl, eD6, by decide, by decide, fun r1 g0 g2 r10 r11 => ?_⟩
      have b7 : But D H6 (upd H6 D (.lst [.int g0, .int d1, .int g2])) := But.upd
      have c7 : Dc (upd H6 D (.lst [.int g0, .int d1, .int g2])) D := ⟨g0, d1, g2, upd_same⟩
      generalize upd H6 D (.lst [.int g0, .int d1, .int g2]) = H7 at b7 c7 ⊢
      have b57 : But D H' H7 := b6.trans b7
      have hpl7 : H7 pl = some (.lst (ps.map V.str)) := b57 _ _ npl (b5 _ _ (by simp [npl, pltl]) hpl4)
      refine ⟨_, _, rfl, rfl, _, rfl, _, _, rfl, rfl, .inl ⟨by omega, by omega⟩, _, rfl, _, rfl, D, .ref pl, rfl, c7, .inl ⟨pl, _, rfl, npl, hpl7, by rw [List.length_map]; exact lp0, by rw [List.length_map]; omega, fun u H8 hu b8 c8 => ⟨by show 3 ≤ sizeLine; decide, fun p np => ?_⟩⟩⟩
      obtain ⟨z, hz, rfl⟩ := List.mem_map.mp hu
      have b58 : But D H' H8 := b57.trans b8
      have h8 := b58 _ _ ntl h5
      have tlp : tl ≠ p := ne_of_none h8 np
      refine ⟨tl, _, _, rfl, rfl, by rw [upd_ne tlp]; exact h8, by rw [DpAll.length hp5, List.length_map, sizeLine_eq]; omega, ?_⟩
      have sNew : Same H8 (upd H8 p (.tup [V.int (r0 * fc), V.int ((r0 + 1 + r1) * fc), V.str z])) := same_new np
      have bl : ButL [D, tl] H' (upd (upd H8 p (.tup [V.int (r0 * fc), V.int ((r0 + 1 + r1) * fc), V.str z])) tl (.lst (xs ++ [.ref p]))) := (ButL.of (by simp) b58).trans ((ButL.same sNew).trans (ButL.upd (by simp)))
      have nT5 : ∀ x ∈ [D, tl], ∀ o, H' x = some o → isTupO o = false := fun x mx o e => by
        rcases List.mem_cons.mp mx with rfl | mx
        · rw [eD] at e; cases e; rfl
        · rw [List.mem_singleton.mp mx, h5] at e; cases e; rfl
      have kU := bl.keepU nT5
      refine ⟨_, _, xs ++ [.ref p], ts ++ [(r0 * fc, (r0 + 1 + r1) * fc, z)], rfl, b5.trans bl, ?_, upd_same, ?_, by rw [List.length_append, l5]; rfl, ?_, fun t mt => ?_⟩
      · obtain ⟨k0, k1, k2, ek⟩ := c8
        exact ⟨k0, k1, k2, by rw [upd_ne (Ne.symm ntl)]; exact sNew _ _ ek⟩
      · rw [List.map_append]
        exact DpAll.append1 (tasks_keepU kU hp5) (.tup (SqT.of (by rw [upd_ne (Ne.symm tlp), upd_same])) (.cons (.int _) (.cons (.int _) (.cons (.str _) .nil))))
      · rw [List.map_append, List.all_append, a5, Bool.true_and]
        show (taskD (taskOf _) && true) = true
        rw [drawn_task r00 r01 r10 r11 f0 f1 (hps z hz)]
        rfl
      · rcases List.mem_append.mp mt with mt | mt
        · exact p5 t mt
        · rw [List.mem_singleton.mp mt]
          exact hz
    · obtain ⟨x8, x9, xs, ts, rfl, b5, c5, h5, hp5, l5, a5, p5⟩ := z
      exact ⟨x8, x9, xs, ts, rfl, b5, c5, h5, hp5, by omega, a5, p5⟩
  rintro σ5 H5 ⟨x8, x9, xs, ts, rfl, b5, c5, htl5, hp5, lt5, ta5, tp5⟩
  have hpl5 : H5 pl = some (.lst (ps.map V.str)) := b5 _ _ (by simp [npl, pltl]) hpl4
  have hsp5 : H5 sp = some (.dK kv) := b5 _ _ (by simp [nsp, sptl]) hsp4
  have spo5 := spo4.keepU (b5.keepU nT4)
  have hwl5 : H5 wl = some (.dT []) := b5 _ _ (by simp [nwl, Ne.symm ntw]) hwl
  have hfar : ("far" : Str) ∈ PS ps := List.mem_append.mpr (.inr (List.mem_singleton.mpr rfl))
  have hsub : ∀ z ∈ PS ps, z ∈ S5 := fun z mz => by
    rcases List.mem_append.mp mz with mz | mz
    · have := hps z mz
      simp only [S4, S5, List.mem_cons, List.not_mem_nil, or_false] at this ⊢
      rcases this with h | h | h | h <;> simp [h]
    · rw [List.mem_singleton.mp mz]
      simp [S5]
  refine ⟨fun σ' H' => ∃ (x10 x11 x12 : Option V) (ws : Ws), σ' = [some (.ref D), some (.int 6), some (.int m), some (.int fc), some (.ref pl), some (.ref sp), some (.ref tl), some (.ref wl), x8, x9, x10, x11, x12, none, none, none, none] ∧ ButL [D, wl] H5 H' ∧ Dc H' D ∧ H' wl = some (.dT (tK ws)) ∧ WalkOk fc sx sy (PS ps) ws, ?_, ?_⟩
  · refine ⟨_, rfl, by show 1 ≤ sizeLine; decide, fun p np => ?_⟩
    have c6 := dc_new (o := .lst [V.str "far"]) c5 np
    have s56 := same_new (o := .lst [V.str "far"]) np
    have hp6 : upd H5 p (.lst [V.str "far"]) p = some (.lst [V.str "far"]) := upd_same
    have npD := new_ne c5 np
    generalize upd H5 p (.lst [V.str "far"]) = H6 at c6 s56 hp6 ⊢
    obtain ⟨d0, d1, d2, eD⟩ := id c6
    refine ⟨_, rfl, D, d0, d1, d2, _, rfl, eD, by decide, by decide, fun r e0 e2 r0 r1 => ?_⟩
    have b67 : But D H6 (upd H6 D (.lst [.int e0, .int d1, .int e2])) := But.upd
    have c7 : Dc (upd H6 D (.lst [.int e0, .int d1, .int e2])) D := ⟨e0, d1, e2, upd_same⟩
    generalize upd H6 D (.lst [.int e0, .int d1, .int e2]) = H7 at b67 c7 ⊢
    refine ⟨p, r, _, rfl, rfl, b67 _ _ npD hp6, by omega, by omega, by rw [sizeLine_eq]; show 1 * r.toNat ≤ _; omega, fun q nq => ?_⟩
    have hpl7 : H7 pl = some (.lst (ps.map V.str)) := b67 _ _ npl (s56 _ _ hpl5)
    have plq : pl ≠ q := ne_of_none hpl7 nq
    have lrep : ((List.replicate r.toNat [V.str "far"]).flatten).length ≤ 1 := by
      rw [List.length_flatten, List.map_replicate]
      have : r.toNat ≤ 1 := by omega
      rcases Nat.le_one_iff_eq_zero_or_eq_one.mp this with h | h <;> rw [h] <;> decide
    refine ⟨pl, q, ps.map V.str, _, rfl, rfl, by rw [upd_ne plq]; exact hpl7, upd_same, by rw [List.length_map, sizeLine_eq]; omega, fun l nl => ⟨l, rfl, ⟨_, SqL.of upd_same⟩, ?_⟩⟩
    obtain ⟨os, eo, ho⟩ := strs_of (S := PS ps) (vs := ps.map V.str ++ (List.replicate r.toNat [V.str "far"]).flatten) fun v mv => by
      rcases List.mem_append.mp mv with mv | mv
      · obtain ⟨z, hz, e⟩ := List.mem_map.mp mv
        exact ⟨z, List.mem_append.mpr (.inl hz), e.symm⟩
      · obtain ⟨l', hl', hv⟩ := List.mem_flatten.mp mv
        rw [(List.mem_replicate.mp hl').2] at hv
        exact ⟨"far", hfar, List.mem_singleton.mp hv⟩
    have c9 := dc_new (o := .lst (ps.map V.str ++ (List.replicate r.toNat [V.str "far"]).flatten)) (dc_new (o := .lst (List.replicate r.toNat [V.str "far"]).flatten) c7 nq) nl
    have b59 : But D H5 (upd (upd H7 q (.lst (List.replicate r.toNat [V.str "far"]).flatten)) l (.lst (ps.map V.str ++ (List.replicate r.toNat [V.str "far"]).flatten))) := ((Same.but s56).trans b67).trans ((Same.but (same_new nq)).trans (Same.but (same_new nl)))
    have nlD := new_ne (dc_new (o := .lst (List.replicate r.toNat [V.str "far"]).flatten) c7 nq) nl
    have hl9 : upd (upd H7 q (.lst (List.replicate r.toNat [V.str "far"]).flatten)) l (.lst (ps.map V.str ++ (List.replicate r.toNat [V.str "far"]).flatten)) l = some (.lst (os.map V.str)) := by rw [upd_same, eo]
    rw [eo] at hl9 b59 c9 ⊢
    generalize upd (upd H7 q (.lst (List.replicate r.toNat [V.str "far"]).flatten)) l (.lst (os.map V.str)) = H9 at c9 b59 hl9 ⊢
    have wll : l ≠ wl := fun e => by
      have z := b59 _ _ nwl hwl5
      rw [← e, hl9] at z
      cases z
    refine for_it (walk_list (K := K) (xs := os.map V.str)) (fun i σ H' => ∃ (x10 x11 x12 : Option V) (ws : Ws), σ = [some (.ref D), some (.int 6), some (.int m), some (.int fc), some (.ref pl), some (.ref sp), some (.ref tl), some (.ref wl), x8, x9, x10, x11, x12, none, none, none, none] ∧ ButL [D, wl] H9 H' ∧ Dc H' D ∧ H' wl = some (.dT (tK ws)) ∧ WalkOk fc sx sy (PS ps) ws)
      ⟨none, none, none, [], rfl, ButL.refl, c9, b59 _ _ nwl hwl5, ⟨List.nodup_nil, fun p mp => by cases mp⟩⟩ (fun i σ H' _ z => by obtain ⟨_, _, _, _, _, b, _⟩ := z; exact SqL.of (b _ _ (by simp [nlD, wll]) hl9)) (fun i v σ H0' H' hi z y => ?_) (fun σ H' z => ?_)
    · obtain ⟨x10, x11, x12, ws, rfl, b9, c10, hw10, wok⟩ := z
      obtain ⟨e, hv⟩ := y
      subst e
      rw [List.length_map] at hi
      have hz : os[i]? = some os[i] := List.getElem?_eq_getElem hi
      rw [List.getElem?_map, hz] at hv
      cases hv
      have h1S : os[i] ∈ PS ps := ho _ (List.getElem_mem hi)
      generalize os[i] = one at h1S ⊢
      have bl5 : ButL [D, wl] H5 H' := (ButL.of (by simp) b59).trans b9
      have nT5 : ∀ x ∈ [D, wl], ∀ o, H5 x = some o → isTupO o = false := fun x mx o e => by
        rcases List.mem_cons.mp mx with rfl | mx
        · obtain ⟨d0, d1, d2, ed⟩ := c5
          rw [ed] at e; cases e; rfl
        · rw [List.mem_singleton.mp mx, hwl5] at e; cases e; rfl
      have hsp' : H' sp = some (.dK kv) := bl5 _ _ (by simp [nsp, spwl]) hsp5
      have hpl' : H' pl = some (.lst (ps.map V.str)) := bl5 _ _ (by simp [npl, plwl]) hpl5
      refine ⟨sp, .dK kv, hsp', mut_dK, fun od => ⟨_, rfl, sp, od, rfl, .inl ⟨kv, upd_same, fun D2 hD2 => ?_⟩⟩⟩
      have plsp : pl ≠ sp := fun e => by rw [e, hsp'] at hpl'; cases hpl'
      have hplL : upd H' sp (.frz od (.dK kv)) pl = some (.lst (ps.map V.str)) := by rw [upd_ne plsp]; exact hpl'
      have hspL : upd H' sp (.frz od (.dK kv)) sp = some (.frz od (.dK kv)) := upd_same
      refine lc_it (walk_keys (kvs := kv)) (fun i H'' => Same (upd H' sp (.frz od (.dK kv))) H'' ∧ ∃ zs : List Str, H'' D2 = some (.lst (zs.map V.str)) ∧ zs.length ≤ i ∧ ∀ z ∈ zs, z ∈ PS ps ∧ z ≠ one) ⟨same_new hD2, [], upd_same, Nat.le_refl _, fun z mz => by cases mz⟩ (fun i H'' _ z => z.1 _ _ hspL) (fun i v H0'' H'' hi z y => ?_) (fun H'' z => ?_)
      · obtain ⟨s11, zs, hzs, lzs, pzs⟩ := z
        obtain ⟨e, key, u, hku, rfl⟩ := y
        subst e
        obtain ⟨z, hzS, ek⟩ := spo5.key _ (List.mem_of_getElem? hku)
        have ek : key = .inr z := ek
        subst ek
        have lkv := spo5.len
        refine ⟨rfl, _, rfl, _, rfl, rfl, _, rfl, ?_⟩
        rw [show decide (kV (.inr z) = V.str one) = decide (z = one) from dec_strV]
        by_cases ez : z = one
        · rw [decide_eq_true ez]
          exact iteF (iteF ⟨s11, zs, hzs, by omega, pzs⟩)
        · rw [decide_eq_false ez]
          refine iteT ⟨_, rfl, _, rfl, pl, _, rfl, .inl (SqL.of (s11 _ _ hplL)), rfl, by rw [List.all_map]; exact List.all_eq_true.mpr fun _ _ => rfl, _, rfl, ?_⟩
          have app : H'' D2 = some (.lst (zs.map V.str)) ∧ (zs.map V.str).length < sizeLine ∧ Same (upd H' sp (.frz od (.dK kv))) (upd H'' D2 (.lst (zs.map V.str ++ [V.str z]))) ∧ ∃ zs' : List Str, upd H'' D2 (.lst (zs.map V.str ++ [V.str z])) D2 = some (.lst (zs'.map V.str)) ∧ zs'.length ≤ i + 1 ∧ ∀ y ∈ zs', y ∈ PS ps ∧ y ≠ one :=
            ⟨hzs, by rw [List.length_map, sizeLine_eq]; omega, same_mut s11 hD2, zs ++ [z], by rw [upd_same, List.map_append]; rfl, by rw [List.length_append]; show zs.length + 1 ≤ i + 1; omega, fun y my => by
              rcases List.mem_append.mp my with my | my
              · exact pzs y my
              · rw [List.mem_singleton.mp my]
                exact ⟨hzS, ez⟩⟩
          cases inV (kV (.inr z)) (ps.map V.str) with
          | true => exact iteT (iteT ⟨_, rfl, _, app⟩)
          | false =>
            refine iteF ⟨_, rfl, rfl, _, rfl, ?_⟩
            cases decide (V.str one = V.str "far") with
            | true => exact iteT ⟨_, rfl, _, app⟩
            | false => exact iteF ⟨s11, zs, hzs, by omega, pzs⟩
      · obtain ⟨s11, zs, hzs, lzs, pzs⟩ := z
        refine ⟨s11 _ _ hspL, ?_⟩
        have s12 : Same H' (upd H'' sp (.dK kv)) := fun c o e => by
          by_cases cs : c = sp
          · subst cs
            rw [hsp'] at e
            rw [upd_same]
            exact e
          · rw [upd_ne cs]
            exact s11 _ _ (by rw [upd_ne cs]; exact e)
        have D2sp : D2 ≠ sp := (ne_of_none hspL hD2).symm
        have hD12 : upd H'' sp (.dK kv) D2 = some (.lst (zs.map V.str)) := by rw [upd_ne D2sp]; exact hzs
        have fD2 : H' D2 = none := by rw [upd_ne D2sp] at hD2; exact hD2
        generalize upd H'' sp (.dK kv) = H12 at s12 hD12 ⊢
        have nD2 := new_ne c10 fD2
        have nw2 : D2 ≠ wl := (ne_of_none hw10 fD2).symm
        refine ⟨D2, rfl, ⟨_, SqL.of hD12⟩, for_it (walk_list (K := K) (xs := zs.map V.str)) (fun j σ H13 => ∃ (x11 x12 : Option V) (ws : Ws), σ = [some (.ref D), some (.int 6), some (.int m), some (.int fc), some (.ref pl), some (.ref sp), some (.ref tl), some (.ref wl), x8, x9, some (.str one), x11, x12, none, none, none, none] ∧ ButL [D, wl] H12 H13 ∧ Dc H13 D ∧ H13 wl = some (.dT (tK ws)) ∧ WalkOk fc sx sy (PS ps) ws)
          ⟨_, _, ws, rfl, ButL.refl, c10.same s12, s12 _ _ hw10, wok⟩ (fun j σ H13 _ z => by obtain ⟨_, _, _, _, b, _⟩ := z; exact SqL.of (b _ _ (by simp [nD2, nw2]) hD12)) (fun j v σ H0' H13 hj z y => ?_) (fun σ H13 z => ?_)⟩
        · obtain ⟨x11, x12, ws, rfl, b13, c13, hw13, wok⟩ := z
          obtain ⟨e, hv⟩ := y
          subst e
          rw [List.length_map] at hj
          have hz2 : zs[j]? = some zs[j] := List.getElem?_eq_getElem hj
          rw [List.getElem?_map, hz2] at hv
          cases hv
          obtain ⟨h2S, ne2⟩ := pzs _ (List.getElem_mem hj)
          generalize zs[j] = other at h2S ne2 ⊢
          have bl13 : ButL [D, wl] H5 H13 := bl5.trans ((ButL.same s12).trans b13)
          have hsp13 : H13 sp = some (.dK kv) := bl13 _ _ (by simp [nsp, spwl]) hsp5
          have spo13 := spo5.keepU (bl13.keepU nT5)
          obtain ⟨ba, ea, ha, a1, a2, a3, a4⟩ := spo13.at_ one h1S
          obtain ⟨bb, eb, hb, g1, g2, g3, g4⟩ := spo13.at_ other h2S
          have lw := wok.len hsub
          refine ⟨_, rfl, _, rfl, sp, .ref ba, rfl, .inl ⟨kv, .inr one, .inl hsp13, rfl, ea.symm⟩, ba, _, 0, .int (sx one), rfl, rfl, SqT.of ha, atI_nat (j := 0) rfl, _, rfl, _, rfl, sp, .ref bb, rfl, .inl ⟨kv, .inr other, .inl hsp13, rfl, eb.symm⟩, bb, _, 0, .int (sx other), rfl, rfl, SqT.of hb, atI_nat (j := 0) rfl, _, _, rfl, rfl, _, rfl, ?_⟩
          refine ⟨_, rfl, _, rfl, sp, .ref ba, rfl, .inl ⟨kv, .inr one, .inl hsp13, rfl, ea.symm⟩, ba, _, 1, .int (sy one), rfl, rfl, SqT.of ha, atI_nat (j := 1) rfl, _, rfl, _, rfl, sp, .ref bb, rfl, .inl ⟨kv, .inr other, .inl hsp13, rfl, eb.symm⟩, bb, _, 1, .int (sy other), rfl, rfl, SqT.of hb, atI_nat (j := 1) rfl, _, _, rfl, rfl, _, _, rfl, _, _, rfl, rfl, ?_⟩
          have fin : ∀ (Hx : Hp) (q : Addr), ButL [D, wl] H13 Hx → Dc Hx D → Hx wl = some (.dT (tK ws)) → Hx q = none → (upd Hx q (.tup [.str one, .str other])) wl = some (.dT (tK ws)) ∧ (tK ws).length < sizeLine ∧ ∃ (x11 x12 : Option V) (ws' : Ws), [some (.ref D), some (.int 6), some (.int m), some (.int fc), some (.ref pl), some (.ref sp), some (.ref tl), some (.ref wl), x8, x9, some (.str one), some (.str other), some (.int (distW sx sy one other)), none, none, none, none] = [some (.ref D), some (.int 6), some (.int m), some (.int fc), some (.ref pl), some (.ref sp), some (.ref tl), some (.ref wl), x8, x9, some (.str one), x11, x12, none, none, none, none] ∧
              ButL [D, wl] H12 (upd (upd Hx q (.tup [.str one, .str other])) wl (.dT (putK (tK ws) [.inr one, .inr other] (.int (distW sx sy one other * fc))))) ∧ Dc (upd (upd Hx q (.tup [.str one, .str other])) wl (.dT (putK (tK ws) [.inr one, .inr other] (.int (distW sx sy one other * fc))))) D ∧
              (upd (upd Hx q (.tup [.str one, .str other])) wl (.dT (putK (tK ws) [.inr one, .inr other] (.int (distW sx sy one other * fc))))) wl = some (.dT (tK ws')) ∧ WalkOk fc sx sy (PS ps) ws' := fun Hx q bx cx hwx nq => by
            have wq : wl ≠ q := ne_of_none hwx nq
            have cq := dc_new (o := .tup [V.str one, V.str other]) cx nq
            refine ⟨by rw [upd_ne wq]; exact hwx, by rw [tK, List.length_map, sizeLine_eq]; omega, _, _, putK ws [one, other] (.int (distW sx sy one other * fc)), rfl, b13.trans (bx.trans ((ButL.same (same_new nq)).trans (ButL.upd (by simp)))), ?_, by rw [upd_same, tK_put], wok.put h1S h2S (Ne.symm ne2)⟩
            obtain ⟨k0, k1, k2, ek⟩ := cq
            exact ⟨k0, k1, k2, by rw [upd_ne (Ne.symm nwl)]; exact ek⟩
          have dp := dist_pos sx sy one other
          have dl : distW sx sy one other < 2 ^ 64 := by unfold distW; split <;> split <;> omega
          refine ⟨_, rfl, _, _, rfl, rfl, _, rfl, ite2 (fun _ => ?_) (fun _ => ?_)⟩
          · refine iteT ⟨_, rfl, _, rfl, _, _, rfl, rfl, .inl ⟨by omega, dl⟩, _, rfl, _, rfl, _, rfl, by show 2 ≤ sizeLine; decide, fun q nq => ?_⟩
            obtain ⟨f1, f2, f3⟩ := fin H13 q ButL.refl c13 hw13 nq
            exact ⟨wl, _, rfl, DPut.t (k := [.inr one, .inr other]) f1 upd_same f2, f3⟩
          · obtain ⟨d0, d1, d2, eD⟩ := id c13
            refine ⟨_, rfl, D, d0, d1, d2, _, rfl, eD, by decide, by decide, fun r e0 e2 r0 r1 => ?_⟩
            have bD : But D H13 (upd H13 D (.lst [.int e0, .int d1, .int e2])) := But.upd
            have cD : Dc (upd H13 D (.lst [.int e0, .int d1, .int e2])) D := ⟨e0, d1, e2, upd_same⟩
            have hwD : upd H13 D (.lst [.int e0, .int d1, .int e2]) wl = some (.dT (tK ws)) := bD _ _ nwl hw13
            generalize upd H13 D (.lst [.int e0, .int d1, .int e2]) = Hx at bD cD hwD ⊢
            refine ⟨rfl, _, rfl, ite2 (fun _ => ?_) (fun _ => ?_)⟩
            · refine ⟨_, rfl, _, rfl, _, _, rfl, rfl, .inl ⟨by omega, dl⟩, _, rfl, _, rfl, _, rfl, by show 2 ≤ sizeLine; decide, fun q nq => ?_⟩
              obtain ⟨f1, f2, f3⟩ := fin Hx q (ButL.of (by simp) bD) cD hwD nq
              exact ⟨wl, _, rfl, DPut.t (k := [.inr one, .inr other]) f1 upd_same f2, f3⟩
            · exact ⟨_, _, ws, rfl, b13.trans (ButL.of (by simp) bD), cD, hwD, wok⟩
        · obtain ⟨x11, x12, ws, rfl, b13, c13, hw13, wok⟩ := z
          exact ⟨_, _, _, ws, rfl, b9.trans ((ButL.same s12).trans b13), c13, hw13, wok⟩
    · obtain ⟨x10, x11, x12, ws, rfl, b9, c10, hw10, wok⟩ := z
      exact ⟨x10, x11, x12, ws, rfl, (ButL.of (by simp) b59).trans b9, c10, hw10, wok⟩
  rintro σ6 H6 ⟨x10, x11, x12, ws, rfl, b6, c6, hwl6, wok6⟩
  have hpl6 : H6 pl = some (.lst (ps.map V.str)) := b6 _ _ (by simp [npl, plwl]) hpl5
  have lw6 := wok6.len hsub
  refine ⟨fun σ' H' => ∃ (nl : Addr) (ns : List Str), σ' = [some (.ref D), some (.int 6), some (.int m), some (.int fc), some (.ref pl), some (.ref sp), some (.ref tl), some (.ref wl), x8, x9, x10, x11, x12, some (.ref nl), none, none, none] ∧ Same H6 H' ∧ H' nl = some (.lst (ns.map V.str)) ∧ H6 nl = none ∧ ns.length ≤ 54 ∧ ∀ z, z ∈ ns ↔ (∃ p ∈ ws, z ∈ p.1) ∨ z ∈ ps, ?_, ?_⟩
  · skip
    refine ⟨wl, .dT (tK ws), hwl6, mut_dT, fun od1 => ⟨_, rfl, wl, od1, rfl, .inr ⟨tK ws, upd_same, fun D2 hD2 => ?_⟩⟩⟩
    have fr0 : upd H6 wl (.frz od1 (.dT (tK ws))) wl = some (.frz od1 (.dT (tK ws))) := upd_same
    refine lc_it (walk_keysT (kvs := tK ws)) (fun i H' => Same (upd H6 wl (.frz od1 (.dT (tK ws)))) H' ∧ H' D2 = some (.lst (((ws.take i).map nth0).map V.str))) ⟨same_new hD2, upd_same⟩ (fun i H' _ z => z.1 _ _ fr0) (fun i v H0' H' hi z y => ?_) (fun H' z => ?_)
    · obtain ⟨z1, hz⟩ := z
      obtain ⟨e, key, u, q, hku, rfl, hq⟩ := y
      subst e
      have hi2 : i < ws.length := by rw [tK, List.length_map] at hi; exact hi
      have hw : ws[i]? = some ws[i] := List.getElem?_eq_getElem hi2
      rw [tK, List.getElem?_map, hw] at hku
      cases hku
      obtain ⟨a, b, e2, _⟩ := wok6.at_ _ (List.getElem_mem hi2)
      rw [e2] at hq
      refine ⟨rfl, tyes ⟨_, rfl, q, _, 0, _, rfl, rfl, SqT.of hq, atI_nat (j := 0) rfl, _, hz, by rw [List.length_map, List.length_map, List.length_take, sizeLine_eq]; omega, same_mut z1 hD2, ?_⟩⟩
      rw [upd_same, takeSucc hw, List.map_append, List.map_append]
      show _ = some (HO.lst (_ ++ [V.str (nth0 ws[i])]))
      rw [show nth0 ws[i] = a from by unfold nth0; rw [e2]; rfl]
      rfl
    obtain ⟨z0, hz0⟩ := z
    refine ⟨z0 _ _ fr0, ?_⟩
    have s67 : Same H6 (upd H' wl (.dT (tK ws))) := fun c o e => by
      by_cases cs : c = wl
      · subst cs
        rw [hwl6] at e
        rw [upd_same]
        exact e
      · rw [upd_ne cs]
        exact z0 _ _ (by rw [upd_ne cs]; exact e)
    have fD2 : H6 D2 = none := by rw [upd_ne (ne_of_none fr0 hD2).symm] at hD2; exact hD2
    have eD2 : upd H' wl (.dT (tK ws)) D2 = some (.lst ((ws.map nth0).map V.str)) := by
      rw [upd_ne (ne_of_none fr0 hD2).symm, hz0, tK, List.length_map, List.take_length]
    generalize upd H' wl (.dT (tK ws)) = H7 at s67 eD2 ⊢
    refine ⟨wl, .dT (tK ws), (s67 _ _ hwl6), mut_dT, fun od2 => ⟨_, rfl, wl, od2, rfl, .inr ⟨tK ws, upd_same, fun D3 hD3 => ?_⟩⟩⟩
    have fr1 : upd H7 wl (.frz od2 (.dT (tK ws))) wl = some (.frz od2 (.dT (tK ws))) := upd_same
    refine lc_it (walk_keysT (kvs := tK ws)) (fun i H' => Same (upd H7 wl (.frz od2 (.dT (tK ws)))) H' ∧ H' D3 = some (.lst (((ws.take i).map nth1).map V.str))) ⟨same_new hD3, upd_same⟩ (fun i H' _ z => z.1 _ _ fr1) (fun i v H0' H' hi z y => ?_) (fun H' z => ?_)
    · obtain ⟨z1, hz⟩ := z
      obtain ⟨e, key, u, q, hku, rfl, hq⟩ := y
      subst e
      have hi2 : i < ws.length := by rw [tK, List.length_map] at hi; exact hi
      have hw : ws[i]? = some ws[i] := List.getElem?_eq_getElem hi2
      rw [tK, List.getElem?_map, hw] at hku
      cases hku
      obtain ⟨a, b, e2, _⟩ := wok6.at_ _ (List.getElem_mem hi2)
      rw [e2] at hq
      refine ⟨rfl, tyes ⟨_, rfl, q, _, 1, _, rfl, rfl, SqT.of hq, atI_nat (j := 1) rfl, _, hz, by rw [List.length_map, List.length_map, List.length_take, sizeLine_eq]; omega, same_mut z1 hD3, ?_⟩⟩
      rw [upd_same, takeSucc hw, List.map_append, List.map_append]
      show _ = some (HO.lst (_ ++ [V.str (nth1 ws[i])]))
      rw [show nth1 ws[i] = b from by unfold nth1; rw [e2]; rfl]
      rfl
    obtain ⟨z1, hz1⟩ := z
    refine ⟨z1 _ _ fr1, ?_⟩
    have s78 : Same H7 (upd H' wl (.dT (tK ws))) := fun c o e => by
      by_cases cs : c = wl
      · subst cs
        rw [s67 _ _ hwl6] at e
        rw [upd_same]
        exact e
      · rw [upd_ne cs]
        exact z1 _ _ (by rw [upd_ne cs]; exact e)
    have fD3 : H7 D3 = none := by rw [upd_ne (ne_of_none fr1 hD3).symm] at hD3; exact hD3
    have eD3 : upd H' wl (.dT (tK ws)) D3 = some (.lst ((ws.map nth1).map V.str)) := by
      rw [upd_ne (ne_of_none fr1 hD3).symm, hz1, tK, List.length_map, List.take_length]
    generalize upd H' wl (.dT (tK ws)) = H8 at s78 eD3 ⊢
    have e28 : H8 D2 = some (.lst ((ws.map nth0).map V.str)) := s78 _ _ eD2
    refine ⟨D2, D3, _, _, rfl, rfl, e28, eD3, by rw [List.length_map, List.length_map, List.length_map, List.length_map, sizeLine_eq]; omega, fun q nq => ⟨_, rfl, ?_⟩⟩
    have s68 := Same.trans s67 s78
    have plq : pl ≠ q := ne_of_none (s68 _ _ hpl6) nq
    refine ⟨q, pl, _, _, rfl, rfl, upd_same, by rw [upd_ne plq]; exact s68 _ _ hpl6, by rw [List.length_append, List.length_map, List.length_map, List.length_map, List.length_map, List.length_map, sizeLine_eq]; omega, fun r nr => ?_⟩
    refine ⟨r, ws.map nth0 ++ ws.map nth1 ++ ps, rfl, SqL.of (by rw [upd_same, List.map_append, List.map_append]), by rw [List.length_append, List.length_append, List.length_map, List.length_map]; omega, fun ys p hm _ hl np => ?_⟩
    have sN := Same.trans (Same.trans s68 (same_new (o := .lst (List.map V.str (List.map nth0 ws) ++ List.map V.str (List.map nth1 ws))) nq)) (same_new (o := .lst (List.map V.str (List.map nth0 ws) ++ List.map V.str (List.map nth1 ws) ++ List.map V.str ps)) nr)
    refine ⟨p, ys, rfl, Same.trans sN (same_new np), upd_same, none_of sN np, by rw [List.length_append, List.length_append, List.length_map, List.length_map] at hl; omega, fun z => ?_⟩
    rw [hm z, List.mem_append, List.mem_append, List.mem_map, List.mem_map]
    constructor
    · rintro ((⟨p, hp, e⟩ | ⟨p, hp, e⟩) | h)
      · obtain ⟨a, b, e2, _⟩ := wok6.at_ p hp
        exact .inl ⟨p, hp, by rw [e2, ← e]; unfold nth0; rw [e2]; simp⟩
      · obtain ⟨a, b, e2, _⟩ := wok6.at_ p hp
        exact .inl ⟨p, hp, by rw [e2, ← e]; unfold nth1; rw [e2]; simp⟩
      · exact .inr h
    · rintro (⟨p, hp, h⟩ | h)
      · obtain ⟨a, b, e2, _⟩ := wok6.at_ p hp
        rw [e2] at h
        rcases List.mem_cons.mp h with h | h
        · exact .inl (.inl ⟨p, hp, by rw [h]; unfold nth0; rw [e2]; rfl⟩)
        · exact .inl (.inr ⟨p, hp, by rw [List.mem_singleton.mp h]; unfold nth1; rw [e2]; rfl⟩)
      · exact .inr h
  rintro σ7 H7 ⟨nl, ns, rfl, s67, hnl, fnl, lns, hns⟩
  have b57 : ButL [D, wl] H5 H7 := b6.trans (ButL.same s67)
  have hsp7 : H7 sp = some (.dK kv) := b57 _ _ (by simp [nsp, spwl]) hsp5
  have nT5 : ∀ x ∈ [D, wl], ∀ o, H5 x = some o → isTupO o = false := fun x mx o e => by
    rcases List.mem_cons.mp mx with rfl | mx
    · obtain ⟨d0, d1, d2, ed⟩ := c5
      rw [ed] at e; cases e; rfl
    · rw [List.mem_singleton.mp mx, hwl5] at e; cases e; rfl
  have spo7 := spo5.keepU (b57.keepU nT5)
  have hwl7 := s67 _ _ hwl6
  have c7 := c6.same s67
  have nsP : ∀ z ∈ ns, z ∈ PS ps := fun z mz => by
    rcases (hns z).mp mz with ⟨p, hp, h⟩ | h
    · obtain ⟨a, b, e, ha, hb, _⟩ := wok6.at_ p hp
      rw [e] at h
      rcases List.mem_cons.mp h with h | h
      · rw [h]; exact ha
      · rw [List.mem_singleton.mp h]; exact hb
    · exact List.mem_append.mpr (.inl h)
  have wok7 : WalkOk fc sx sy ns ws := ⟨wok6.nd, fun p hp => by
    obtain ⟨a, b, e, ha, hb, ne, e2⟩ := wok6.at_ p hp
    exact ⟨a, b, e, (hns a).mpr (.inl ⟨p, hp, by rw [e]; simp⟩), (hns b).mpr (.inl ⟨p, hp, by rw [e]; simp⟩), ne, e2⟩⟩
  have nlw : nl ≠ wl := (ne_of_none hwl6 fnl).symm
  have spnl : sp ≠ nl := fun e => by rw [e, hnl] at hsp7; cases hsp7
  refine ⟨fun σ' H' => ∃ (x10 x11 x12 : Option V) (ws' : Ws), σ' = [some (.ref D), some (.int 6), some (.int m), some (.int fc), some (.ref pl), some (.ref sp), some (.ref tl), some (.ref wl), x8, x9, x10, x11, x12, some (.ref nl), none, none, none] ∧ ButL [wl] H7 H' ∧ H' wl = some (.dT (tK ws')) ∧ WalkOk fc sx sy ns ws' ∧ ∀ a ∈ ns, Told sx sy ns ws' a, ?_, ?_⟩
  · refine ⟨_, rfl, nl, rfl, ⟨_, SqL.of hnl⟩, for_it (walk_list (K := K) (xs := ns.map V.str)) (fun i σ H' => ∃ (x10 x11 x12 : Option V) (ws' : Ws), σ = [some (.ref D), some (.int 6), some (.int m), some (.int fc), some (.ref pl), some (.ref sp), some (.ref tl), some (.ref wl), x8, x9, x10, x11, x12, some (.ref nl), none, none, none] ∧ ButL [wl] H7 H' ∧ H' wl = some (.dT (tK ws')) ∧ WalkOk fc sx sy ns ws' ∧ ∀ a ∈ ns.take i, Told sx sy ns ws' a)
      ⟨_, _, _, ws, rfl, ButL.refl, hwl7, wok7, fun a ma => by cases ma⟩ (fun i σ H' _ z => by obtain ⟨_, _, _, _, _, b, _⟩ := z; exact SqL.of (b _ _ (by simp [nlw]) hnl)) (fun i v σ H0' H' hi z y => ?_) (fun σ H' z => ?_)⟩
    · obtain ⟨x10, x11, x12, ws, rfl, b8, hw8, wok, told⟩ := z
      obtain ⟨e, hv⟩ := y
      subst e
      rw [List.length_map] at hi
      have hz : ns[i]? = some ns[i] := List.getElem?_eq_getElem hi
      rw [List.getElem?_map, hz] at hv
      cases hv
      have h1S : ns[i] ∈ ns := List.getElem_mem hi
      have tkS : ns.take (i + 1) = ns.take i ++ [ns[i]] := takeSucc hz
      generalize ns[i] = one at h1S tkS ⊢
      have hnl8 : H' nl = some (.lst (ns.map V.str)) := b8 _ _ (by simp [nlw]) hnl
      refine ⟨_, rfl, nl, rfl, ⟨_, SqL.of hnl8⟩, fun D2 hD2 => ?_⟩
      refine lc_it (walk_list (K := K) (a := nl) (xs := ns.map V.str)) (fun i H'' => Same H' H'' ∧ H'' D2 = some (.lst (((ns.take i).filter fun z => !decide (z = one)).map V.str))) ⟨same_new hD2, upd_same⟩ (fun i H'' _ z => SqL.of (z.1 _ _ hnl8)) (fun i v H0'' H'' hi z y => ?_) (fun H'' z => ?_)
      · obtain ⟨s9, h9⟩ := z
        obtain ⟨e, hv⟩ := y
        subst e
        rw [List.length_map] at hi
        have hz : ns[i]? = some ns[i] := List.getElem?_eq_getElem hi
        rw [List.getElem?_map, hz] at hv
        cases hv
        refine ⟨rfl, _, rfl, _, rfl, rfl, _, rfl, ?_⟩
        rw [dec_strV, takeSucc hz, List.filter_append]
        have lf : ((ns.take i).filter fun z => !decide (z = one)).length ≤ 54 := Nat.le_trans (List.length_filter_le _ _) (by rw [List.length_take]; omega)
        by_cases ez : ns[i] = one
        · rw [decide_eq_true ez]
          refine iteF ⟨s9, ?_⟩
          rw [h9, List.filter_cons, decide_eq_true ez]
          simp
        · rw [decide_eq_false ez]
          refine iteT ⟨_, rfl, _, h9, by rw [List.length_map, sizeLine_eq]; omega, same_mut s9 hD2, ?_⟩
          rw [upd_same, List.filter_cons, decide_eq_false ez, List.map_append]
          rfl
      · obtain ⟨s9, h9⟩ := z
        rw [List.length_map, List.take_length] at h9
        obtain ⟨os, eos⟩ : ∃ os, os = ns.filter fun z => !decide (z = one) := ⟨_, rfl⟩
        rw [← eos] at h9
        have pos : ∀ z, z ∈ os ↔ z ∈ ns ∧ z ≠ one := fun z => by
          rw [eos, List.mem_filter]
          simp
        have nw2 : D2 ≠ wl := (ne_of_none hw8 hD2).symm
        refine ⟨D2, rfl, ⟨_, SqL.of h9⟩, for_it (walk_list (K := K) (xs := os.map V.str)) (fun j σ H13 => ∃ (x11 x12 : Option V) (ws' : Ws), σ = [some (.ref D), some (.int 6), some (.int m), some (.int fc), some (.ref pl), some (.ref sp), some (.ref tl), some (.ref wl), x8, x9, some (.str one), x11, x12, some (.ref nl), none, none, none] ∧ ButL [wl] H'' H13 ∧ H13 wl = some (.dT (tK ws')) ∧ WalkOk fc sx sy ns ws' ∧ (∀ a ∈ ns.take i, Told sx sy ns ws' a) ∧ ∀ b ∈ os.take j, 0 < distW sx sy one b → (valV ws' [one, b]).isSome = true)
          ⟨_, _, ws, rfl, ButL.refl, s9 _ _ hw8, wok, told, fun b mb => by cases mb⟩ (fun j σ H13 _ z => by obtain ⟨_, _, _, _, b, _⟩ := z; exact SqL.of (b _ _ (by simp [nw2]) h9)) (fun j v σ H0' H13 hj z y => ?_) (fun σ H13 z => ?_)⟩
        · obtain ⟨x11, x12, ws, rfl, b13, hw13, wok, told, told2⟩ := z
          obtain ⟨e, hv⟩ := y
          subst e
          rw [List.length_map] at hj
          have hz2 : os[j]? = some os[j] := List.getElem?_eq_getElem hj
          rw [List.getElem?_map, hz2] at hv
          cases hv
          obtain ⟨h2S, ne2⟩ := (pos _).mp (List.getElem_mem hj)
          have tkO : os.take (j + 1) = os.take j ++ [os[j]] := takeSucc hz2
          generalize os[j] = other at h2S ne2 tkO ⊢
          have bl13 : ButL [wl] H7 H13 := b8.trans ((ButL.same s9).trans b13)
          have hsp13 : H13 sp = some (.dK kv) := bl13 _ _ (by simp [spwl]) hsp7
          have spo13 := spo7.keepU (bl13.keepU fun x mx o e => by rw [List.mem_singleton.mp mx, hwl7] at e; cases e; rfl)
          obtain ⟨ba, ea, ha, a1, a2, a3, a4⟩ := spo13.at_ one (nsP _ h1S)
          obtain ⟨bb, eb, hb, g1, g2, g3, g4⟩ := spo13.at_ other (nsP _ h2S)
          have lw := wok.len fun z mz => hsub z (nsP z mz)
          refine ⟨_, rfl, _, rfl, sp, .ref ba, rfl, .inl ⟨kv, .inr one, .inl hsp13, rfl, ea.symm⟩, ba, _, 0, .int (sx one), rfl, rfl, SqT.of ha, atI_nat (j := 0) rfl, _, rfl, _, rfl, sp, .ref bb, rfl, .inl ⟨kv, .inr other, .inl hsp13, rfl, eb.symm⟩, bb, _, 0, .int (sx other), rfl, rfl, SqT.of hb, atI_nat (j := 0) rfl, _, _, rfl, rfl, _, rfl, ?_⟩
          refine ⟨_, rfl, _, rfl, sp, .ref ba, rfl, .inl ⟨kv, .inr one, .inl hsp13, rfl, ea.symm⟩, ba, _, 1, .int (sy one), rfl, rfl, SqT.of ha, atI_nat (j := 1) rfl, _, rfl, _, rfl, sp, .ref bb, rfl, .inl ⟨kv, .inr other, .inl hsp13, rfl, eb.symm⟩, bb, _, 1, .int (sy other), rfl, rfl, SqT.of hb, atI_nat (j := 1) rfl, _, _, rfl, rfl, _, _, rfl, _, _, rfl, rfl, ?_⟩
          have dp := dist_pos sx sy one other
          have dl : distW sx sy one other < 2 ^ 64 := by unfold distW; split <;> split <;> omega
          refine ⟨_, rfl, _, _, rfl, rfl, _, rfl, ite2 (fun hgt => ?_) (fun hgt => ?_)⟩
          · refine ⟨_, rfl, _, rfl, _, _, rfl, rfl, .inl ⟨by omega, dl⟩, _, rfl, _, rfl, _, rfl, by show 2 ≤ sizeLine; decide, fun q nq => ?_⟩
            have wq : wl ≠ q := ne_of_none hw13 nq
            refine ⟨wl, _, rfl, DPut.t (k := [.inr one, .inr other]) (by rw [upd_ne wq]; exact hw13) upd_same (by rw [tK, List.length_map, sizeLine_eq]; omega), _, _, putK ws [one, other] (.int (distW sx sy one other * fc)), rfl, b13.trans ((ButL.same (same_new nq)).trans (ButL.upd (by simp))), by rw [upd_same]; exact congrArg (fun z => some (HO.dT z)) (tK_put ws one other _), wok.put h1S h2S (Ne.symm ne2), fun a ma b mb nab hd => ?_, fun b mb hd => ?_⟩
            · rw [valV_put]
              split
              · rfl
              · exact told a ma b mb nab hd
            · rw [valV_put]
              split
              · rfl
              · rename_i hk
                rw [tkO] at mb
                rcases List.mem_append.mp mb with mb | mb
                · exact told2 b mb hd
                · exact absurd (by rw [List.mem_singleton.mp mb]) hk
          · refine ⟨_, _, ws, rfl, b13, hw13, wok, told, fun b mb hd => ?_⟩
            rw [tkO] at mb
            rcases List.mem_append.mp mb with mb | mb
            · exact told2 b mb hd
            · rw [List.mem_singleton.mp mb] at hd
              exact absurd (decide_eq_true hd) hgt
        · obtain ⟨x11, x12, ws, rfl, b13, hw13, wok, told, told2⟩ := z
          rw [List.length_map, List.take_length] at told2
          refine ⟨_, _, _, ws, rfl, b8.trans ((ButL.same s9).trans b13), hw13, wok, fun a ma b mb nab hd => ?_⟩
          rw [tkS] at ma
          rcases List.mem_append.mp ma with ma | ma
          · exact told a ma b mb nab hd
          · rw [List.mem_singleton.mp ma] at hd nab ⊢
            exact told2 b ((pos b).mpr ⟨mb, Ne.symm nab⟩) hd
    · obtain ⟨x10, x11, x12, ws, rfl, b8, hw8, wok, told⟩ := z
      rw [List.length_map, List.take_length] at told
      exact ⟨_, _, _, ws, rfl, b8, hw8, wok, told⟩
  rintro σ8 H8 ⟨y10, y11, y12, ws', rfl, b8, hw8, wok8, told8⟩
  have b58 : ButL [D, wl] H5 H8 := b57.trans fun c o n e => b8 c o (fun z => n (by rw [List.mem_singleton.mp z]; simp)) e
  have htl8 : H8 tl = some (.lst xs) := b58 _ _ (by simp [ntl, ntw]) htl5
  have hp8 := tasks_keepU (b58.keepU nT5) hp5
  have c8 : Dc H8 D := by
    obtain ⟨d0, d1, d2, e⟩ := c7
    exact ⟨d0, d1, d2, b8 _ _ (by simp [Ne.symm nwl]) e⟩
  have bH8 : But D H H8 := fun c o nc e => by
    have e3 := b3 _ _ nc (b2 _ _ nc (b1 _ _ nc e))
    have n1 := ne_of_none e3 ftl
    have n2 := ne_of_none e3 fwl
    exact b58 _ _ (by simp [nc, n2]) (b5 _ _ (by simp [nc, n1]) (s4 _ _ e3))
  refine ⟨_, rfl, tl, xs, rfl, .inl ⟨SqL.of htl8, fun ta nta => ⟨_, rfl, by show 2 ≤ sizeLine; decide, fun p np => ?_⟩⟩⟩
  have sN : Same H8 (upd (upd H8 ta (.tup xs)) p (.tup [V.ref ta, V.ref wl])) := Same.trans (same_new nta) (same_new np)
  have tap : ta ≠ p := ne_of_none upd_same np
  have psN : ∀ z ∈ ps, z ∈ ns := fun z mz => (hns z).mpr (.inr mz)
  have ns5 : ∀ z ∈ ns, z ∈ S5 := fun z mz => hsub z (nsP z mz)
  have plN : ∀ z ∈ (ts.map fun t => t.2.2), z ∈ ns := fun z mz => by
    obtain ⟨t, ht, e⟩ := List.mem_map.mp mz
    rw [← e]
    exact psN _ (tp5 t ht)
  have hd : ∀ a ∈ ns, ∀ b ∈ ns, distW sx sy a b ≤ 5 := fun a ma b mb => by
    obtain ⟨_, _, _, a1, a2, a3, a4⟩ := spo7.at_ a (nsP a ma)
    obtain ⟨_, _, _, g1, g2, g3, g4⟩ := spo7.at_ b (nsP b mb)
    unfold distW
    split <;> split <;> omega
  have lw := wok8.len ns5
  refine k p ta wl xs ts ws' _ (bH8.trans (Same.but sN)) (c8.same sN) upd_same (by rw [upd_ne tap, upd_same]) (DpAll.same sN hp8) lt5 ta5 (sN _ _ hw8) ⟨wok8.nd, fun p hp z hz => ?_, fun p hp => ?_, by omega⟩ (walks_ok wok8 told8 ns5 plN f0 f1 hd) fun z mz => ?_
  · obtain ⟨a, b, e, ha, hb, _⟩ := wok8.at_ p hp
    rw [e] at hz
    have l5 : ∀ y ∈ S5, y.length ≤ 1000 := by decide
    rcases List.mem_cons.mp hz with hz | hz
    · rw [hz]; exact l5 _ (ns5 _ ha)
    · rw [List.mem_singleton.mp hz]; exact l5 _ (ns5 _ hb)
  · obtain ⟨a, b, _, _, _, _, e⟩ := wok8.at_ p hp
    exact .inr (.inr ⟨_, e⟩)
  · rcases List.mem_append.mp mz with mz | mz
    · exact ns5 _ (plN z mz)
    · obtain ⟨p, hp, hm⟩ := List.mem_flatMap.mp mz
      obtain ⟨a, b, e, ha, hb, _⟩ := wok8.at_ p hp
      rw [e] at hm
      rcases List.mem_cons.mp hm with hm | hm
      · rw [hm]; exact ns5 _ ha
      · rw [List.mem_singleton.mp hm]; exact ns5 _ hb
end
end K4
namespace DW
open PySem PySem.Spec PyProof.Rows L2 LamX
/-! ### all but the dice and the tables stays -/
def ButN (D : Addr) (H H' : Hp) : Prop := ∀ b o, b ≠ D → H b = some o → (∀ ps, o ≠ .tbl ps) → H' b = some o
theorem ButN.refl {D : Addr} {H : Hp} : ButN D H H := fun _ _ _ e _ => e
theorem ButN.trans {D : Addr} {H H1 H2 : Hp} (x : ButN D H H1) (y : ButN D H1 H2) : ButN D H H2 := fun b o n e t => y b o n (x b o n e t) t
theorem ExtN.butN {D : Addr} {H H' : Hp} (x : ExtN H H') : ButN D H H' := fun b o _ e t => x b o e t
theorem sqL_ext {K : PySem.W.Frag} {H H' : Hp} {a : Addr} {xs : List V} (s : ExtN H H') (h : SqL K H a xs) : SqL K H' a xs := by
  rcases h with (e | ⟨o, e⟩) | h
  · exact .inl (.inl (s _ _ e fun _ z => nomatch z))
  · exact .inl (.inr ⟨o, s _ _ e fun _ z => nomatch z⟩)
  · exact .inr h
theorem sqT_ext {K : PySem.W.Frag} {H H' : Hp} {a : Addr} {xs : List V} (s : ExtN H H') (h : SqT K H a xs) : SqT K H' a xs := by
  rcases h with (e | ⟨o, e⟩) | h
  · exact .inl (.inl (s _ _ e fun _ z => nomatch z))
  · exact .inl (.inr ⟨o, s _ _ e fun _ z => nomatch z⟩)
  · exact .inr h
mutual
theorem Dp.ext {K : PySem.W.Frag} {H H' : Hp} (s : ExtN H H') : ∀ {v : V} {d : PyData}, Dp K H v d → Dp K H' v d
  | _, _, .non => .non
  | _, _, .bl b => .bl b
  | _, _, .int i => .int i
  | _, _, .str x => .str x
  | _, _, .lst h a => .lst (sqL_ext s h) (DpAll.ext s a)
  | _, _, .tup h a => .tup (sqT_ext s h) (DpAll.ext s a)
theorem DpAll.ext {K : PySem.W.Frag} {H H' : Hp} (s : ExtN H H') : ∀ {vs : List V} {ds : List PyData}, DpAll K H vs ds → DpAll K H' vs ds
  | _, _, .nil => .nil
  | _, _, .cons a b => .cons (Dp.ext s a) (DpAll.ext s b)
end
theorem Dd.ext {K : PySem.W.Frag} {H H' : Hp} {v : V} {d : PyData} (s : ExtN H H') (h : Dd K H v d) : Dd K H' v d := by
  cases h with
  | base h n => exact .base (Dp.ext s h) n
  | dct h => exact .dct (s _ _ h fun _ z => nomatch z)
theorem Same.extN {H H' : Hp} (s : Same H H') : ExtN H H' := fun b o e _ => s b o e
theorem Tabs.same {T : List (Addr × Str)} {H H' : Hp} (t : Tabs T H) (s : Same H H') : Tabs T H' := t.ext fun b o e => s b o e
end DW
namespace K4
open PySem PySem.Spec PyProof.Rows L2 DW LamX
theorem But.butN {D : Addr} {H H' : Hp} (b : But D H H') : ButN D H H' := fun c o n e _ => b c o n e
theorem tabs_but {T : List (Addr × Str)} {H H' : Hp} {D : Addr} (hD : Dc H D) (b : But D H H') (t : Tabs T H) : Tabs T H' := fun p hp => by
  obtain ⟨d0, d1, d2, eD⟩ := hD
  have ne : ∀ {c : Addr} {o : HO}, H c = some o → (∀ xs, o ≠ .lst xs) → c ≠ D := fun e n z => by rw [z, eD] at e; cases e; exact n _ rfl
  obtain ⟨ps, h1, h2, h3⟩ := t p hp
  refine ⟨ps, b _ _ (ne h1 fun xs z => nomatch z) h1, h2, fun pos cv hc => ?_⟩
  obtain ⟨c, e1, e2⟩ := h3 pos cv hc
  refine ⟨c, e1, b _ _ (ne e2 fun xs z => ?_) e2⟩
  unfold CodeO at z
  cases z
theorem Dc.ext {H H' : Hp} {D : Addr} (s : ExtN H H') (h : Dc H D) : Dc H' D := by
  obtain ⟨a, b, c, e⟩ := h
  exact ⟨a, b, c, s _ _ e fun _ z => nomatch z⟩
end K4
namespace DW
open PySem PySem.Spec PyProof.Rows L2
section
variable {P : Program} {w : World} {K : PySem.W.Frag} {mg : Str → Option Value} {base : Heap}
/-- as fng, and the body is told where its code object stands -/
theorem fngL {x qual : Str} {st : Stmt} {f : Addr} {fd : FuncData} {N ps : List Str} {k : Nat} {sp : Sp} (F : Fun K x qual st f fd) (S : FnScope N ps (defScope st)) (len : ∀ vs H Q, sp vs H Q E0 → vs.length = ps.length)
    (hbody : ∀ (cdv : Value) (A : Around) (outer : List Env) (s : Shared) (H : Hp) (vs : List V) (Q : VK), (∃ oc od kV doc pm an ct osl, K.lookup f = some ⟨oc, od, .func (PySem.W.fnOf x qual (defArgs st) (defBody st) (defScope st) .none kV doc pm an cdv ct), osl⟩) →
      Room k (A.deeper (envOfC qual (defScope st) s.heap.objs.size f cdv)) → A.guards = some [] → sp vs H Q E0 →
      ∃ t, PSs (cxOf CX0 P w K mg base N qual (defScope st) f cdv A outer s H E0).nox (defBody st) t ∧ t { nx := fun _ H' => Q .non H', rt := Q } (start N vs) H) : FnG P w K mg base (k + 1) f fd ps sp := by
  obtain ⟨oc, od, kV, doc, pm, an, cdv, ct, osl, rfl, lk, hcd⟩ := F.ex
  refine ⟨len, fun A outer s H args us vs Q hr hg env0 hb r hsp => ?_⟩
  have inK : K.In s.heap := env0.mod.kin.keeps fun a o q => (env0.bs a o q).1
  have lim : s.heap.NoLimit := env0.mod.nolimit.keeps fun a o q => (env0.bs a o q).1
  have hk : ∀ y ∈ ps.zip us, (defScope st).names.lookup y.1 = some .local ∨ ((defScope st).names.lookup y.1 = some .cell ∧ ((cellsFrom (s.heap.objs.size + 1) (defScope st).names []).lookup y.1).isSome = true) := fun ⟨n, v⟩ hy => by
    rcases S.par n (List.of_mem_zip hy).1 with q | q
    · exact Or.inl q
    · exact Or.inr ⟨q, PySem.W.cellsFrom_some _ _ _ (Or.inl q)⟩
  refine codeAny_call_function hr.depth (inK _ _ lk) rfl S.co S.gen rfl (PySem.W.codeRec_of inK hcd) (hb _ _ _ _ (wpAny_newFunctionEnv_cells S.kind hk fun env he s1 x => ?_))
  subst he
  refine ⟨lim.keeps x.toInCall.keep, codeAny_func ?_⟩
  obtain ⟨t, ht, hq⟩ := hbody cdv A outer s H vs Q ⟨oc, od, kV, doc, pm, an, ct, osl, lk⟩ (hr.deeper _) hg hsp
  have I0 : Inv (cxOf CX0 P w K mg base N qual (defScope st) f cdv A outer s H E0) [] (start N vs) H s1 := inv_start S hr.hd env0 (len _ _ _ hsp) r x
  refine wpAny_mono (ht.nox.run [] s1 (start N vs) H _ I0 hq) (fun fl s' hs => ?_) fun e s' z => z
  cases fl with
  | ret u => obtain ⟨v, σ', H', J, rv, q⟩ := hs; exact ⟨v, H', J.os, J.bare, J.base, J.hok, rv, q⟩
  | next => obtain ⟨σ', H', J, q⟩ := hs; exact ⟨V.non, H', J.os, J.bare, J.base, J.hok, rfl, q⟩
  | brk => obtain ⟨_, _, _, q⟩ := hs; exact q.elim
  | cont => obtain ⟨_, _, _, q⟩ := hs; exact q.elim
end
end DW
namespace K4
open PySem PySem.Spec PyProof.Rows L2 DW LamX
/-- what is known of the table of the def's code object -/
structure TkS (K : PySem.W.Frag) (base : Heap) (mg : Str → Option Value) (T : List (Addr × Str)) (x qual : Str) (st : Stmt) (f c Pt : Addr) : Prop where
  tb : TabB base mg c Pt
  mem : (Pt, qual ++ ".<locals>." ++ "<lambda>") ∈ T
  un : ∀ p ∈ T, p.1 = Pt → p.2 = qual ++ ".<locals>." ++ "<lambda>"
  code : ∀ oc od kV doc pm an cdv ct osl, K.lookup f = some ⟨oc, od, .func (PySem.W.fnOf x qual (defArgs st) (defBody st) (defScope st) .none kV doc pm an cdv ct), osl⟩ → cdv = .ref c
theorem CrewAt.ext {K : PySem.W.Frag} {C : Addr} {H H' : Hp} {x : Addr} {ts : List Tk} {ws : Ws} (s : ExtN H H') (h : CrewAt K C H x ts ws) : CrewAt K C H' x ts ws := by
  obtain ⟨dx, ta, wa, pa, xs, kt, kp, h1, h2, h3, h4, h5, h6, h7, h8, h9⟩ := h
  exact ⟨dx, ta, wa, pa, xs, kt, kp, s _ _ h1 (fun _ z => nomatch z), sqT_ext s h2, DpAll.ext s h3, s _ _ h4 (fun _ z => nomatch z), h5, s _ _ h6 (fun _ z => nomatch z), h7, h8, h9⟩
theorem Cp.ext {H H' : Hp} {v : V} {d : PyData} (s : ExtN H H') (h : Cp H v d) : Cp H' v d := h.keep fun b o p e => s b o e fun ps z => by rw [z] at p; cases p
end K4
namespace HNE
open PySem PySem.Spec PyProof.Rows PySem.SeqAt
open AutoSeq1 (wpAny_loadPart')
open MeetsSeq MeetsSeq2 MeetsSeq3
section
variable {M : Model} {prog : Program} {w : World} {A : Around} {E : Value → Shared → Prop} {s : Shared} {K : PySem.W.Frag} {x C f : Addr} {ox : Obj} {od : Option Obj}
theorem ifBound_objNe {args : List Value} {Q : Option Value → Shared → Prop} (X : K.In s.heap) (I : PySem.W.InstAt s.heap x ox C od) (hs : PySem.W.findIn K (.ref C) "__ne__" = some (some (.builtin "object.__ne__")))
    (h : wpAny M A (call (.builtin "object.__ne__") (.ref x :: args)) (fun v => Q (some v)) E s) : wpAny M A (callSpecialIfBound? (.ref x) "__ne__" args) Q E s := by
  simp only [callSpecialIfBound?, bindSpecialIfBound?]
  refine wpAny_holding (wpAny_bind (wpAny_bind (wpAny_bind (I.type.here ((PySem.W.looks_findIn X hs).here ?_)))))
  refine wpAny_bind (wpAny_askSetting (wpAny_ite ?_))
  have fin : wpAny M A (call (.builtin "object.__ne__") ([.ref x] ++ args) >>= fun v => pure (some v)) Q E s := wpAny_bind (wpAny_mono h (fun v s' h' => wpAny_pure h') fun _ _ h' => h')
  split
  · exact wpAny_bind (wpAny_of_eq (F.cmp_object.ne.bind _) (wpAny_pure (by exact fin)))
  · exact wpAny_tryCatch (wpAny_bind (wpAny_of_eq (F.cmp_object.ne.bind _) (wpAny_pure (by exact fin))))
/-- object.__ne__ asks the own __eq__ -/
theorem entry_ne {y : Value} {Q : Fin → Shared → Prop} (hu : A.units < cLine) (X : K.In s.heap) (I : PySem.W.InstAt s.heap x ox C od) (he : PySem.W.findIn K (.ref C) "__eq__" = some (some (.ref f))) (hf : PySem.W.isFn K (.ref f) = true)
    (hcall : wpAny (model prog w) A (call (.ref f) [.ref x, y]) (fun v s' => ∃ b, v = .bool b ∧ Q (.done (.ret (.bool (!b)))) s') E s) : wpAny (model prog w) A (Builtin.«object.__ne__» ⟨[.ref x, y], []⟩) Q E s := by
  unfold Builtin.«object.__ne__»
  repeat (first
    | with_reducible refine wpAny_cRoomFor hu ?_
    | (refine wpAny_bind (m := callSpecialIfBound? (.ref x) (Str.ofString "__eq__") [y])
        (PySem.W.ifBound_K X I he hf (wpAny_mono hcall (fun r s' hr => by
          obtain ⟨b, rfl, hq⟩ := hr
          repeat (first | exact hq | exact wpAny_pure hq | exact wpAny_truthy_bool hq | (refine wpAny_bind (m := truthy (.bool _)) (wpAny_truthy_bool ?_)) | wp_step)) fun _ _ e => e)))
    | wp_step)
theorem call_ne {y : Value} {Q : Value → Shared → Prop} (hu : A.units + 1 < cLine) (X : K.In s.heap) (I : PySem.W.InstAt s.heap x ox C od) (hm : PySem.W.mroIn K C (.type "object") = some true) (he : PySem.W.findIn K (.ref C) "__eq__" = some (some (.ref f))) (hf : PySem.W.isFn K (.ref f) = true)
    (hcall : wpAny (model prog w) A.in1 (call (.ref f) [.ref x, y]) (fun v s' => ∃ b, v = .bool b ∧ Q (.bool (!b)) s') E s) : wpAny (model prog w) A (call (.builtin "object.__ne__") [.ref x, y]) Q E s :=
  wpAny_call (codeAny_call_builtin F.cmp_object.ne.plain F.cmpEntry_ne (PySem.W.check_slot F.cmpKind_ne F.cmpSplit_ne (I.type.andThen (PySem.W.looks_mroIn X hm)) (F.cmpArgs_ne _ _) (entry_ne (A := A.in1) hu X I he hf hcall)))
theorem sub_tup : PySem.W.subIn K (.type "tuple") (.ref C) = some false := by
  have e : fastBuiltinMro "tuple" = some [.type "tuple", .type "object"] := by decide +kernel
  show (fastBuiltinMro "tuple").map (·.contains (.ref C)) = some false
  rw [e]
  first
    | rfl
    | simp
/-- an instance with an own __eq__ against a tuple -/
theorem rc_ins {p : Addr} {Q : Value → Shared → Prop} (hu : A.units + 1 < cLine) (X : K.In s.heap) (I : PySem.W.InstAt s.heap x ox C od) (hm : PySem.W.mroIn K C (.type "object") = some true) (hne : PySem.W.findIn K (.ref C) "__ne__" = some (some (.builtin "object.__ne__"))) (he : PySem.W.findIn K (.ref C) "__eq__" = some (some (.ref f))) (hf : PySem.W.isFn K (.ref f) = true)
    (hp : s.TypeIs (.ref p) "tuple") (hcall : wpAny (model prog w) A.in1 (call (.ref f) [.ref x, .ref p]) (fun v s' => ∃ b, v = .bool b ∧ Q (.bool (!b)) s') E s) : wpAny (model prog w) A (richCompare .NotEq (.ref x) (.ref p)) Q E s := by
  have one : wpAny (model prog w) A (tryCompare (.ref x) "__ne__" (.ref p)) (fun r s' => ∃ b, r = some (.bool b) ∧ Q (.bool b) s') E s := by
    unfold tryCompare
    refine wpAny_bind (ifBound_objNe X I hne (call_ne hu X I hm he hf (wpAny_mono hcall (fun v s' hv => ?_) fun _ _ e => e)))
    obtain ⟨b, rfl, hq⟩ := hv
    exact ⟨b, rfl, wpAny_pure ⟨_, rfl, hq⟩⟩
  simp only [richCompare, cmpInfo_NotEq, oneThing_ref]
  refine wpAny_holding (wpAny_bind (wpAny_cRoomFor (Nat.lt_of_succ_lt hu) ?_))
  refine wpAny_bind (I.type.here ?_)
  refine wpAny_bind (wpAny_typeOf hp ?_)
  split
  · refine wpAny_bind ((PySem.W.looks_subIn X sub_tup).here ?_)
    simp only [Bool.false_eq_true, if_false, Bool.not_false, if_true]
    refine wpAny_bind (m := tryCompare (.ref x) _ (.ref p)) (wpAny_mono one (fun r s1 z => ?_) fun _ _ e => e)
    obtain ⟨b, rfl, hq⟩ := z
    exact wpAny_pure hq
  · rename_i q
    exact absurd (by simp) q
end
section
variable {A : Around} {s : Shared}
theorem dict_ne_declines {l b : Addr} {o o2 : Obj} : Meets (Builtin.«dict.__ne__» ⟨[.ref l, .ref b], []⟩) (fun _ R s => s.heap.get? l = some o ∧ o.cls = .type "dict" ∧ s.heap.get? b = some o2 ∧ o2.cls = .type "tuple" ∧ R (.ok (.ret .notImplemented)) s) :=
  .of_wp fun prog w A R s h => by
    obtain ⟨hp, g, d, tk, os⟩ := s
    obtain ⟨hl, cl, hb, cb, h⟩ := h
    have f1 := F.sub_tuple_dict
    wp_walk using wpAny_loadPart' hl, wpAny_loadPart' hb
    rw [cb, f1]
    wp_walk
    exact ⟨_, rfl, h⟩
theorem tuple_ne_declines {l b : Addr} {o o2 : Obj} : Meets (Builtin.«tuple.__ne__» ⟨[.ref l, .ref b], []⟩) (fun _ R s => s.heap.get? l = some o ∧ o.cls = .type "tuple" ∧ s.heap.get? b = some o2 ∧ o2.cls = .type "dict" ∧ R (.ok (.ret .notImplemented)) s) :=
  .of_wp fun prog w A R s h => by
    obtain ⟨hp, g, d, tk, os⟩ := s
    obtain ⟨hl, cl, hb, cb, h⟩ := h
    have f1 := F.sub_dict_tuple
    wp_walk using wpAny_loadPart' hl, wpAny_loadPart' hb
    rw [cb, f1]
    wp_walk
    exact ⟨_, rfl, h⟩
theorem rc_dict {l b : Addr} {o o2 : Obj} (hl : s.heap.get? l = some o) (cl : o.cls = .type "dict") (hb : s.heap.get? b = some o2) (cb : o2.cls = .type "tuple") (hu : A.units < cLine) : RcNeAt A s (.ref l) (.ref b) true := fun prog w E Q h => by
  have hne : l ≠ b := fun e => by
    subst e
    rw [hl] at hb
    cases hb
    rw [cl] at cb
    injection cb with e
    exact absurd e (by decide)
  exact (rc_ne_decline_or (k := false) ⟨_, hl, cl⟩ ⟨_, hb, cb⟩ (by decide) F.sub_tuple_dict F.slot_dict_ne F.slot_tuple_ne_refl
    (fun _ hq => call_meets F.slot_dict_ne ⟨_, hl, cl⟩ F.entry_dict_ne (F.args_dict_ne_2 _ _) dict_ne_declines ⟨hl, cl, hb, cb, hq⟩)
    (fun _ hq => call_meets F.slot_tuple_ne_refl ⟨_, hb, cb⟩ F.entry_tuple_ne (F.args_tuple_ne_2 _ _) tuple_ne_declines ⟨hb, cb, hl, cl, hq⟩)
    (fun _ hq => wpAny_isSame_ref_other hne hl hb (by rw [cl]; simp) hq) (.inr hu) h)
end
end HNE
namespace K4
open PySem PySem.Spec PyProof.Rows L2 DW LamX
/-- no data, against a tuple: a dict, or an instance of the class at C -/
def UnT (C : Addr) (H : Hp) (v : V) : Prop := (∃ a kvs, v = .ref a ∧ H a = some (.dT kvs)) ∨ (∃ a kvs, v = .ref a ∧ H a = some (.dK kvs)) ∨ ∃ a dx fs, v = .ref a ∧ H a = some (.ins C dx fs)
theorem UnT.ext {C : Addr} {H H' : Hp} {v : V} (s : ExtN H H') (h : UnT C H v) : UnT C H' v := by
  rcases h with ⟨a, kvs, e, ha⟩ | ⟨a, kvs, e, ha⟩ | ⟨a, dx, fs, e, ha⟩
  · exact .inl ⟨a, kvs, e, s _ _ ha fun _ z => nomatch z⟩
  · exact .inr (.inl ⟨a, kvs, e, s _ _ ha fun _ z => nomatch z⟩)
  · exact .inr (.inr ⟨a, dx, fs, e, s _ _ ha fun _ z => nomatch z⟩)
/-- x != y where y is a tuple, or both are data -/
def rNeV (C : Addr) (K : PySem.W.Frag) : R2 := fun x y H Q => rNeD K x y H Q ∨ ∃ b ys, y = .ref b ∧ H b = some (.tup ys) ∧ UnT C H x ∧ Q (.bl true) H
/-- the own __eq__ against a tuple -/
def spNT (C : Addr) : Sp := fun vs H Q _ => ∃ (x b dx : Addr) (fs : List (Str × V)) (ys : List V), vs = [.ref x, .ref b] ∧ H x = some (.ins C dx fs) ∧ H b = some (.tup ys) ∧ Q (.bl false) H
abbrev sEqC : Stmt := mth 12
section
variable {P : Program} {w : World} {K : PySem.W.Frag} {mg : Str → Option Value} {base : Heap}
theorem scEqC : FnScope ["self", "other"] ["self", "other"] (defScope sEqC) := ⟨rfl, rfl, rfl, by decide +kernel, rfl, by decide +kernel, by decide +kernel⟩
theorem ok_eqC {f C : Addr} {fd : FuncData} (F : Fun K "__eq__" "Crew.__eq__" sEqC f fd) (g : mg "Crew" = some (.ref C)) (kt : PySem.W.kitOne K (.type "tuple") (.ref C) = some false) (zI : mg "isinstance" = none) : FnOk P w K mg base CX0 1 f fd ["self", "other"] (spNT C) := by
  refine F.ok scEqC (fun vs H Q E h => ?_) (fun cdv A outer s H vs Q E hr h => ?_)
  · obtain ⟨x, b, dx, fs, ys, rfl, _⟩ := h
    rfl
  · obtain ⟨x, b, dx, fs, ys, rfl, hx, hb, k⟩ := h
    refine ⟨_, pss_cons (ps_if (pt_not (pt_val (pe_callB call_isi (by rfl) zI (by rfl) (pa_cons (pv 1) (pa_cons (pe_glob rfl g (show RelV (.ref C) (.ref C) from rfl)) pa_nil))))) (pss_one (ps_ret pe_bl)) pss_nil) dead, ?_⟩
    exact ⟨_, rfl, _, .ref C, _, _, _, rfl, .own _, .base (.tup hb), kt, _, rfl, iteT k⟩
end
section
variable {X : Cx}
theorem op_neV {C f : Addr} {fd : FuncData} {n : Nat} (hu : X.A.units + 64 < cLine) (F : FnOk X.prog X.w X.K X.mg X.base CX0 n f fd ["self", "other"] (spNT C)) (hr : Room (n + 1) X.A) (hne : PySem.W.findIn X.K (.ref C) "__ne__" = some (some (.builtin "object.__ne__"))) (he : PySem.W.findIn X.K (.ref C) "__eq__" = some (some (.ref f)))
    (hf : PySem.W.isFn X.K (.ref f) = true) (hb : Binds X.K fd ["self", "other"] []) (hm : PySem.W.mroIn X.K C (.type "object") = some true) : OpR X (compareOp .NotEq) (rNeV C X.K) := by
  intro pins s σ H x y v u Q I rx ry h
  rcases h with h | ⟨b, ys, rfl, hb', h, q⟩
  · exact op_neD hu pins s σ H x y v u Q I rx ry h
  · cases ry
    obtain ⟨_, its, rv, o, h1, h2, n, h3⟩ := (show ObjOk X.prog X.w H s.heap b (.tup ys) from I.hok b _ hb')
    show wpAny _ _ (richCompare .NotEq _ _) _ _ _
    rcases h with ⟨a, kvs, rfl, ha⟩ | ⟨a, kvs, rfl, ha⟩ | ⟨a, dx, fs, rfl, ha⟩
    · cases rx
      obtain ⟨_, _, xs, _, o1, es, ep, g1, g2, _⟩ := (show ObjOk X.prog X.w H s.heap a (.dT kvs) from I.hok a _ ha)
      exact HNE.rc_dict g1 g2.1 h1 h2 (by omega) _ _ _ _ ⟨.bl true, H, I, rfl, q⟩
    · cases rx
      obtain ⟨_, _, vs, _, g⟩ := (show ObjOk X.prog X.w H s.heap a (.dK kvs) from I.hok a _ ha)
      obtain ⟨o1, g1, g2⟩ := (g.typeIs : s.TypeIs (.ref a) "dict")
      exact HNE.rc_dict g1 g2 h1 h2 (by omega) _ _ _ _ ⟨.bl true, H, I, rfl, q⟩
    · cases rx
      obtain ⟨mA, J, _⟩ := ins_get I.hok ha
      obtain ⟨od, J, _⟩ := J.look
      refine HNE.rc_ins (by omega) I.kIn J hm hne he hf ⟨_, h1, h2⟩ ?_
      have hsp : spNT C [.ref a, .ref b] H (fun v H' => v = .bl false ∧ H' = H) E0 := ⟨a, b, dx, fs, ys, rfl, ha, hb', rfl, rfl⟩
      have e0 : Env0 X.prog X.w X.K X.mg X.base X.A.in1 X.stack s H := by
        have e := I.env0
        exact ⟨e.frames, e.mod, e.bs, e.bsz, e.funs, e.frf, e.hok, e.bare⟩
      have r2 : Vals [V.ref a, V.ref b] [Value.ref a, Value.ref b] := .cons rfl (.cons rfl .nil)
      refine wpAny_call (codeAny_mono (F.run X.A.in1 X.stack s H ⟨[.ref a, .ref b], []⟩ [.ref a, .ref b] [.ref a, .ref b] _ E0 hr.in1 e0 (by
        have := hb s [.ref a, .ref b] I.kIn rfl
        simpa using this) r2 hsp) fun r s' hq => ?_)
      rcases r with er | fl
      · exact hq.elim
      · cases fl with
        | ret w =>
          obtain ⟨z, H', I', rz, ez, ex⟩ := I.after hq
          subst ez ex
          cases rz
          exact ⟨false, rfl, .bl true, _, I', rfl, q⟩
        | _ => exact False.elim hq
end
end K4
namespace K4
open PySem PySem.Spec PyProof.Rows L2 DW LamX
abbrev sRight : Stmt := top 44
abbrev nRight : List Str := ["dice", "tasks", "walks", "crew", "many", "bad", "more", "step", "long", "told", "index", "name", "number", "due", "some", "value", "one"]
theorem passes0 {X : Cx} {P : Program} {w : World} : Passes (L2.CX P w) X E0 := fun _ _ _ _ _ _ _ h => by
  obtain ⟨_, _, _, _, _, _, _, _, _, _, _, _, z⟩ := h
  exact z.elim
theorem ext_mut {H H' : Hp} {p : Addr} {o : HO} (s : ExtN H H') (h : H p = none) : ExtN H (upd H' p o) := fun b u e n => by
  rw [upd_ne (ne_of_none e h)]
  exact s b u e n
theorem strs_sh (ks : List Str) (h : ∀ z ∈ ks, PyData.strOk z = true) : SeqAt.shaped (.list (ks.map .str)) = true := by
  have h1 : ∀ ks : List Str, (∀ z ∈ ks, PyData.strOk z = true) → PyData.canLayAll0 (ks.map .str) = true := fun ks h => by
    induction ks with
    | nil => rfl
    | cons k r ih => simp [PyData.canLayAll0, PyData.canLay0, ih fun z m => h z (List.mem_cons_of_mem _ m), h k (List.mem_cons_self ..)]
  have h2 : ∀ ks : List Str, PyData.depthAll (ks.map .str) ≤ 1 := fun ks => by
    induction ks with
    | nil => simp [PyData.depthAll]
    | cons k r ih => simp only [List.map_cons, PyData.depthAll, PyData.depth]; omega
  unfold SeqAt.shaped
  rw [Bool.and_eq_true]
  refine ⟨by simp [PyData.canLay0, h1 ks h], decide_eq_true ?_⟩
  have := h2 ks
  simp only [PyData.depth]
  omega
theorem eqv_strs (ks : List Str) : PyData.eqv (.list (ks.map .str)) (.list (ks.map .str)) = true := by
  show PyData.eqvAll _ _ = true
  induction ks with
  | nil => rfl
  | cons k r ih =>
    show (PyData.eqv (.str k) (.str k) && PyData.eqvAll _ _) = true
    rw [ih, Bool.and_true]
    show (k == k) = true
    simp
theorem tabs_lst {T : List (Addr × Str)} {H H' : Hp} {p : Addr} {xs : List V} (hp : H p = some (.lst xs)) (b : But p H H') (t : Tabs T H) : Tabs T H' := fun q hq => by
  have ne : ∀ {c : Addr} {o : HO}, H c = some o → (∀ xs, o ≠ .lst xs) → c ≠ p := fun e n z => by rw [z, hp] at e; cases e; exact n _ rfl
  obtain ⟨ps, h1, h2, h3⟩ := t q hq
  refine ⟨ps, b _ _ (ne h1 fun xs z => nomatch z) h1, h2, fun pos cv hc => ?_⟩
  obtain ⟨c, e1, e2⟩ := h3 pos cv hc
  refine ⟨c, e1, b _ _ (ne e2 fun xs z => ?_) e2⟩
  unfold CodeO at z
  cases z
theorem rep_flat (z : Str) : ∀ n : Nat, (List.replicate n [V.str z]).flatten = (List.replicate n z).map V.str
  | 0 => rfl
  | n + 1 => by rw [List.replicate_succ, List.replicate_succ, List.flatten_cons, rep_flat z n]; rfl
/-- [..] != ['day', ..]: no, they are alike -/
theorem ne_strs {K : PySem.W.Frag} {H : Hp} {p q : Addr} {ks : List Str} {Q : VK} (hp : H p = some (.lst (ks.map V.str))) (hq : H q = some (.lst (ks.map V.str))) (ok : ∀ z ∈ ks, PyData.strOk z = true) (k : Q (.bl false) H) : rNeD K (.ref p) (.ref q) H Q :=
  ⟨.list (ks.map .str), .list (ks.map .str), .lst (SqL.of hp) (dpAll_strs ks), .lst (SqL.of hq) (dpAll_strs ks), strs_sh ks ok, strs_sh ks ok, by rw [eqv_strs]; exact k⟩
theorem ok_rep {z : Str} (h : PyData.strOk z = true) (n : Nat) : ∀ y ∈ List.replicate n z, PyData.strOk y = true := fun y m => by rw [(List.mem_replicate.mp m).2]; exact h
theorem CrewAt.but {K : PySem.W.Frag} {C D : Addr} {H H' : Hp} {x : Addr} {ts : List Tk} {ws : Ws} (c : Dc H D) (s : But D H H') (h : CrewAt K C H x ts ws) : CrewAt K C H' x ts ws := by
  obtain ⟨dx, ta, wa, pa, xs, kt, kp, h1, h2, h3, h4, h5, h6, h7, h8, h9⟩ := h
  obtain ⟨d0, d1, d2, e⟩ := id c
  exact ⟨dx, ta, wa, pa, xs, kt, kp, s _ _ (ne_of h1 e (by simp)) h1, sqT_dc c s h2, tasks_dc c s h3, s _ _ (ne_of h4 e (by simp)) h4, h5, s _ _ (ne_of h6 e (by simp)) h6, h7, h8, h9⟩
theorem task_inj {a b : Tk} (h : taskOf a = taskOf b) : a = b := by
  obtain ⟨a1, a2, a3⟩ := a
  obtain ⟨b1, b2, b3⟩ := b
  unfold taskOf at h
  injection h with h
  injection h with h1 h
  injection h with h2 h
  injection h with h3 h
  injection h1 with h1
  injection h2 with h2
  injection h3 with h3
  exact Prod.ext h1 (Prod.ext h2 h3)
theorem tasks_inj : ∀ {a b : List Tk}, a.map taskOf = b.map taskOf → a = b
  | [], [], _ => rfl
  | [], _ :: _, h => by cases h
  | _ :: _, [], h => by cases h
  | x :: a, y :: b, h => by
    rw [List.map_cons, List.map_cons] at h
    injection h with h1 h2
    rw [task_inj h1, tasks_inj h2]
theorem fn_tasks {ts : List Tk} (hl : ts.length ≤ 1000) (h : ∀ t ∈ ts, t.2.2.length ≤ 1000) : Fn 2 (.tuple (ts.map taskOf)) := ⟨(fun z e => by cases e), fun es e => by
  cases e
  refine ⟨by rw [List.length_map]; exact hl, fun d m => ?_⟩
  obtain ⟨t, ht, rfl⟩ := List.mem_map.mp m
  refine fn_tup (by show 3 ≤ 1000; decide) fun d m => ?_
  rcases List.mem_cons.mp m with rfl | m
  · exact fit_int
  · rcases List.mem_cons.mp m with rfl | m
    · exact fit_int
    · rw [List.mem_singleton.mp m]
      exact fun z e => by cases e; exact h t ht⟩
theorem noDict_tasks : ∀ ts : List Tk, (PyData.tuple (ts.map taskOf)).hasDict = false
  | [] => rfl
  | t :: ts => noDict_tasks ts
/-- what is no dict of walks, whatever befalls the dice -/
def BadWS (K : PySem.W.Frag) (D : Addr) (H : Hp) (z : V) : Prop := ∃ wv, (∀ H', But D H H' → WalkV K H' z wv) ∧ walksO wv [] = false
theorem BadWS.but {K : PySem.W.Frag} {D : Addr} {H H' : Hp} {z : V} (b : But D H H') (h : BadWS K D H z) : BadWS K D H' z := by
  obtain ⟨wv, h1, h2⟩ := h
  exact ⟨wv, fun H2 b2 => h1 H2 (b.trans b2), h2⟩
theorem WalkV.ext {K : PySem.W.Frag} {H H' : Hp} {v : V} (s : ExtN H H') : ∀ {wv : Option Ws}, WalkV K H v wv → WalkV K H' v wv
  | some ws, .inl ⟨e, t, ev, h⟩ => .inl ⟨e, t, ev, sqT_ext s h⟩
  | some ws, .inr ⟨a, ev, h, ok⟩ => .inr ⟨a, ev, s _ _ h (fun _ z => nomatch z), ok⟩
  | none, .inl ⟨d, h, h2⟩ => .inl ⟨d, Dd.ext s h, h2⟩
  | none, .inr ⟨a, z, x, ev, h, hz⟩ => .inr ⟨a, z, x, ev, s _ _ h (fun _ z => nomatch z), hz⟩
theorem gw_c {σ : L2.St} {H0 : Hp} {K : PySem.W.Frag} {D : Addr} {v : V} {d : PyData} (hd : ∀ H, Dd K H v d) (hk : kitB (tyName d) "dict" = some false) (hn : d ≠ .tuple []) : GivE σ H0 (BadWS K D) D (tC v) := fun H Q _ c k => k _ _ But.refl c ⟨none, fun H' _ => .inl ⟨d, hd H', hk, hn⟩, rfl⟩
theorem gw_tup {σ : L2.St} {H0 : Hp} {K : PySem.W.Frag} {D : Addr} {ta : TA} {xs : List V} {ds : List PyData} (hc : ∀ (H : Hp) (Q : List V → Hp → Prop), Q xs H → ta σ H Q) (hl : xs.length ≤ 10) (hd : ∀ H, DpAll K H xs ds) (nd : (PyData.tuple ds).hasDict = false) (hn : ds ≠ []) : GivE σ H0 (BadWS K D) D (tTup ta) := fun H Q _ c k =>
  hc H _ ⟨by rw [sizeLine_eq]; omega, fun p np => k _ _ (Same.but (same_new np)) (dc_new c np) ⟨none, fun H' b => .inl ⟨.tuple ds, .base (.tup (SqT.of (b _ _ (new_ne c np) upd_same)) (hd H')) nd, (show kitB "tuple" "dict" = some false by decide +kernel), fun e => by cases e; exact hn rfl⟩, rfl⟩⟩
theorem gw_lst {σ : L2.St} {H0 : Hp} {K : PySem.W.Frag} {D : Addr} : GivE σ H0 (BadWS K D) D (tLst tNil) := fun H Q _ c k =>
  ⟨by show 0 ≤ sizeLine; decide, fun p np => k _ _ (Same.but (same_new np)) (dc_new c np) ⟨none, fun H' b => .inl ⟨.list [], .base (.lst (SqL.of (b _ _ (new_ne c np) upd_same)) .nil) rfl, (show kitB "list" "dict" = some false by decide +kernel), fun e => by cases e⟩, rfl⟩⟩
theorem gw_dict1 {σ : L2.St} {H0 : Hp} {K : PySem.W.Frag} {D : Addr} {ta : TA} {tv : TE} {key : List Str} {v : V} (hk : ∀ (H : Hp) (Q : List V → Hp → Prop), Q (key.map V.str) H → ta σ H Q) (hl : key.length ≤ 10) (hv : ∀ (H : Hp) (Q : VK), Q v H → tv σ H Q) (ok : WsOk [(key, v)]) (bad : walksB [(key, v)] [] = false) : GivE σ H0 (BadWS K D) D (tDispT [(tTup ta, tv)]) := fun H Q _ c k p np =>
  hk _ _ ⟨by rw [List.length_map, sizeLine_eq]; omega, fun q nq => hv _ _ (by
    have pq : p ≠ q := ne_of_none upd_same nq
    have c1 := dc_new (o := .dT []) c np
    have c2 := dc_new (o := .tup (key.map V.str)) c1 nq
    refine ⟨by rw [upd_ne pq, upd_same], [(key.map Sum.inr, v)], .cons ⟨rfl, q, rfl, by rw [upd_same, List.map_map]; rfl⟩ .nil, by show 1 ≤ 15; decide, ?_⟩
    have b : But D H (upd (upd (upd H p (.dT [])) q (.tup (key.map V.str))) p (.dT (mergeT [] [(key.map Sum.inr, v)]))) := fun cc o nc e => by
      have n1 := ne_of_none e np
      have n2 := ne_of_none (show upd H p (.dT []) cc = some o by rw [upd_ne n1]; exact e) nq
      rw [upd_ne n1, upd_ne n2, upd_ne n1]
      exact e
    have c3 : Dc (upd (upd (upd H p (.dT [])) q (.tup (key.map V.str))) p (.dT (mergeT [] [(key.map Sum.inr, v)]))) D := by
      obtain ⟨d0, d1, d2, e⟩ := c2
      exact ⟨d0, d1, d2, by rw [upd_ne (Ne.symm (new_ne c np))]; exact e⟩
    exact k _ _ b c3 ⟨some [(key, v)], fun H' b' => .inr ⟨p, rfl, b' _ _ (new_ne c np) (by rw [upd_same]; rfl), ok⟩, bad⟩)⟩
theorem gw_disp1 {σ : L2.St} {H0 : Hp} {K : PySem.W.Frag} {D : Addr} {z : Str} {v : V} (hz : z.length ≤ 1000) : GivE σ H0 (BadWS K D) D (tDisp [(tC (.str z), tC v)]) := fun H Q _ c k p np =>
  ⟨upd_same, [(.inr z, v)], rfl, by show 1 ≤ 15; decide, by
    rw [upd_upd]
    exact k _ _ (Same.but (same_new np)) (dc_new c np) ⟨none, fun H' b' => .inr ⟨p, z, v, rfl, b' _ _ (new_ne c np) (by rw [upd_same]; rfl), fun y e => by cases e; exact hz⟩, rfl⟩⟩
theorem ws1 {key : List Str} {v : V} (hk : ∀ z ∈ key, z.length ≤ 1000) (hv : v = .non ∨ (∃ b, v = .bl b) ∨ ∃ i, v = .int i) : WsOk [(key, v)] := ⟨by simp, fun p hp z hz => by rw [List.mem_singleton.mp hp] at hz; exact hk z hz, fun p hp => by rw [List.mem_singleton.mp hp]; exact hv, by show 1 ≤ 100; decide⟩
/-- which error is caught by which clause -/
structure ExW (K : PySem.W.Frag) (CD CN CU : Addr) : Prop where
  dd : PySem.W.exmOne K (.ref CD) (.ref CD) = some true
  nd : PySem.W.exmOne K (.ref CN) (.ref CD) = some false
  nn : PySem.W.exmOne K (.ref CN) (.ref CN) = some true
  ud : PySem.W.exmOne K (.ref CU) (.ref CD) = some false
  un : PySem.W.exmOne K (.ref CU) (.ref CN) = some false
  uu : PySem.W.exmOne K (.ref CU) (.ref CU) = some true
/-- the parts of _law_word -/
structure WordK (P : Program) (w : World) (K : PySem.W.Frag) (mg : Str → Option Value) (base : Heap) (CD CN CU fW : Addr) (dW : FuncData) : Prop where
  F : Fun K "_law_word" "_law_word" sWord fW dW
  kp : PySem.W.keepIn K (.ref fW) = true
  b : Binds K dW ["call"] []
  g : mg "_law_word" = some (.ref fW)
  hD : mg "InvalidDay" = some (.ref CD)
  hN : mg "InvalidNumber" = some (.ref CN)
  hU : mg "UnknownName" = some (.ref CU)
  TN : XfC K CN
  TU : XfC K CU
  nN : PySem.W.findIn K (.ref CN) "given" = some none
  nU : PySem.W.findIn K (.ref CU) "wanted" = some none
/-- the making of a crew -/
structure MakeK (P : Program) (w : World) (K : PySem.W.Frag) (mg : Str → Option Value) (base : Heap) (C CD fI : Addr) (dI : FuncData) (dv : V) (ds : List Value) : Prop where
  M : Mk K C fI
  G : FnOk P w K mg base (L2.CX P w) 4 fI dI ["self", "tasks", "walks"] (spMade K C CD)
  g : mg "Crew" = some (.ref C)
  b : Binds K dI ["self", "tasks", "walks"] ds
  d : Vals [dv] ds
  kb : KBn K dI ["self", "tasks", "walks"] 2 ["walks"] (fun us ws => us ++ ws) (fun vs zs => vs ++ zs)
section
variable {P : Program} {w : World} {K : PySem.W.Frag} {mg : Str → Option Value} {base : Heap}
theorem scRight : FnScope nRight ["dice"] (defScope sRight) := ⟨rfl, rfl, rfl, by decide +kernel, rfl, by decide +kernel, by decide +kernel⟩
def spRight (T : List (Addr × Str)) : Sp := fun vs H Q _ => ∃ D : Addr, vs = [.ref D] ∧ Dc H D ∧ Tabs T H ∧ ∀ H', ButN D H H' → Dc H' D → Tabs T H' → Q (.bl true) H'
abbrev tMade (K : PySem.W.Frag) (T : List (Addr × Str)) (C CD CN CU : Addr) (dv : V) : TE := tLam T (TWord K CD CN CU) fun E => tMake C (spMade K C CD) [dv] E (tCons (tVar 15) tNil)
abbrev tMadeK (K : PySem.W.Frag) (T : List (Addr × Str)) (C CD CN CU : Addr) (ta : TA) : TE := tLam T (TWord K CD CN CU) fun E => tMakeK C 1 1 (spMade K C CD) (fun vs zs => vs ++ zs) E ta (tCons (tVar 15) tNil)
abbrev tPt (n : Int) (z : Str) : TE := tTup (tCons (tC (.int 1)) (tCons (tC (.int 2)) (tCons (tC (.str z)) tNil)))
abbrev tCanF (K : PySem.W.Frag) (T : List (Addr × Str)) (C CD CN CU : Addr) (ta : TA) : TE := tLam T (TWord K CD CN CU) fun E => tMeth C "can_follow" (spCanF K C CN) [] E (tVar 3) ta
abbrev tWalkL (K : PySem.W.Frag) (T : List (Addr × Str)) (C CD CN CU : Addr) (ta : TA) : TE := tLam T (TWord K CD CN CU) fun E => tMeth C "walk" (spWalk K C CU) [] E (tVar 3) ta
abbrev tPapL (K : PySem.W.Frag) (T : List (Addr × Str)) (C CD CN CU : Addr) (ta : TA) : TE := tLam T (TWord K CD CN CU) fun E => tMeth C "paper" (spPap K C CN) [] E (tVar 3) ta
abbrev tIsPapL (K : PySem.W.Frag) (T : List (Addr × Str)) (C CD CN CU : Addr) (ta : TA) : TE := tLam T (TWord K CD CN CU) fun E => tMeth C "is_paper" (spIsPap K C CN) [] E (tVar 3) ta
abbrev tRos2L (K : PySem.W.Frag) (T : List (Addr × Str)) (C CD CN CU : Addr) : TE := tLam T (TWord K CD CN CU) fun E => tMethN C "are_rosters" 1 2 (spRos K C CN) (fun vs zs => vs ++ zs) E (tVar 3) (tCons (tC .non) tNil) (tCons (tVar 12) (tCons (tUn (rU fun i => .int (-i)) (tC (.int 2))) tNil))
abbrev tRos1L (K : PySem.W.Frag) (T : List (Addr × Str)) (C CD CN CU : Addr) (te : TE) : TE := tLam T (TWord K CD CN CU) fun E => tMethN C "are_rosters" 1 1 (spRos K C CN) (fun vs zs => vs ++ [V.non] ++ zs) E (tVar 3) (tCons (tTup tNil) tNil) (tCons te tNil)
def W1 (st : Int) : Ws := [(["a", "b"], .int st)]
def W2 (st : Int) : Ws := [(["a", "b"], .int st), (["b", "c"], .int st)]
def W3 (st : Int) : Ws := [(["a", "c"], .int (3 * st)), (["a", "b"], .int st), (["b", "c"], .int st), (["c", "a"], .int 0), (["b", "a"], .int 0), (["c", "b"], .int 0)]
/-- the pairs of a display, one by one -/
def GP (σ : L2.St) : List (TE × TE) → Ws → Prop
  | [], [] => True
  | tr :: r, p :: ws => (∃ ta, tr.1 = tTup ta ∧ (∀ (H : Hp) (Q : List V → Hp → Prop), Q (p.1.map V.str) H → ta σ H Q) ∧ p.1.length ≤ 10 ∧ ∀ (H : Hp) (Q : VK), Q p.2 H → tr.2 σ H Q) ∧ GP σ r ws
  | _, _ => False
theorem KeyRows.same {H H' : Hp} (s : Same H H') : ∀ {ps : List (V × V)} {kvs : List (List Key × V)}, KeyRows H ps kvs → KeyRows H' ps kvs
  | _, _, .nil => .nil
  | _, _, .cons ⟨e, b, eb, hb⟩ t => .cons ⟨e, b, eb, s _ _ hb⟩ (KeyRows.same s t)
theorem gp_run {σ : L2.St} : ∀ {trs : List (TE × TE)} {ws : Ws}, GP σ trs ws → ∀ (H : Hp) (Q : List (V × V) → Hp → Prop), (∀ ps H', Same H H' → KeyRows H' ps (tK ws) → Q ps H') → tPairs trs σ H Q
  | [], [], _, H, Q, k => k [] H (fun _ _ e => e) .nil
  | tr :: r, p :: ws, g, H, Q, k => by
    obtain ⟨⟨ta, e1, hk, hl, hv⟩, g2⟩ := g
    show tr.1 σ H _
    rw [e1]
    refine hk _ _ ⟨by rw [List.length_map, sizeLine_eq]; omega, fun q nq => hv _ _ (gp_run g2 _ _ fun ps H' s kr => ?_)⟩
    exact k _ _ (Same.trans (same_new nq) s) (.cons ⟨rfl, q, rfl, by rw [s _ _ upd_same, List.map_map]; rfl⟩ kr)
  | [], _ :: _, g, _, _, _ => g.elim
  | _ :: _, [], g, _, _, _ => g.elim
theorem gp_dict {σ : L2.St} {trs : List (TE × TE)} {ws : Ws} (g : GP σ trs ws) (hl : ws.length ≤ 15) (hm : mergeT [] (tK ws) = tK ws) (H : Hp) (Q : VK) (k : ∀ p H', H p = none → Same H H' → H' p = some (.dT (tK ws)) → Q (.ref p) H') : tDispT trs σ H Q := fun p np =>
  gp_run g _ _ fun ps H2 s kr => ⟨s _ _ upd_same, tK ws, kr, by unfold tK; rw [List.length_map]; exact hl, k _ _ np (fun c o e => by
    have n1 := ne_of_none e np
    rw [upd_ne n1]
    exact s _ _ (by rw [upd_ne n1]; exact e)) (by rw [upd_same, hm])⟩
abbrev kt2 (a b : Str) : TE := tTup (tCons (tC (.str a)) (tCons (tC (.str b)) tNil))
theorem kp {σ : L2.St} {tv : TE} {a b : Str} {v : V} {r : List (TE × TE)} {ws : Ws} (hv : ∀ (H : Hp) (Q : VK), Q v H → tv σ H Q) (g : GP σ r ws) : GP σ ((kt2 a b, tv) :: r) (([a, b], v) :: ws) := ⟨⟨tCons (tC (.str a)) (tCons (tC (.str b)) tNil), rfl, fun H Q h => h, by show 2 ≤ 10; decide, hv⟩, g⟩
theorem asg3 {σ : L2.St} {H : Hp} {E : Ends} {i : Nat} {A B C : TE} (h : A σ H fun x H1 => B σ H1 fun y H2 => C σ H2 fun z H3 => [x, y, z].length ≤ sizeLine ∧ ∀ p, H3 p = none → E.nx (σ.set i (some (.ref p))) (upd H3 p (.lst [x, y, z]))) : tAsg (tLst (tCons A (tCons B (tCons C tNil)))) (gName i) E σ H := h
theorem wsOk_of {ws : Ws} (h1 : (ws.map (·.1)).Nodup) (h2 : ∀ k ∈ ws.map (·.1), ∀ z ∈ k, z.length ≤ 1000) (h3 : ∀ v ∈ ws.map (·.2), v = .non ∨ (∃ b, v = .bl b) ∨ ∃ i, v = .int i) (h4 : ws.length ≤ 100) : WsOk ws := ⟨h1, fun p hp => h2 _ (List.mem_map.mpr ⟨p, hp, rfl⟩), fun p hp => h3 _ (List.mem_map.mpr ⟨p, hp, rfl⟩), h4⟩
def resOf (PL : List Str) (ws : Ws) : Str := if walksB ws PL = true then "fine" else "day"
def ptsK : List Tk := [(1, 2, "a"), (1, 2, "b"), (1, 2, "c")]
theorem st_cases {st : Int} : 1 ≤ st → st ≤ 9 → st = 1 ∨ st = 2 ∨ st = 3 ∨ st = 4 ∨ st = 5 ∨ st = 6 ∨ st = 7 ∨ st = 8 ∨ st = 9 := fun _ _ => by omega
theorem told_abc {st : Int} (h1 : 1 ≤ st) (h9 : st ≤ 9) : [W1 st, W2 st, W3 st].map (resOf ["a", "b", "c"]) = (["day", "day", "day"] : List Str) := by
  rcases st_cases h1 h9 with rfl | rfl | rfl | rfl | rfl | rfl | rfl | rfl | rfl <;> decide +kernel
theorem told_non {st : Int} (h1 : 1 ≤ st) (h9 : st ≤ 9) : [W1 st, W2 st, W3 st].map (resOf []) = (["fine", "day", "day"] : List Str) := by
  rcases st_cases h1 h9 with rfl | rfl | rfl | rfl | rfl | rfl | rfl | rfl | rfl <;> decide +kernel
theorem pts_made (ws : Ws) : madeD (.tuple (ptsK.map taskOf)) (some ws) = walksB ws ["a", "b", "c"] := by
  rw [made_eq, places_ts, show (ptsK.map taskOf).all taskD = true by decide +kernel]
  rfl
theorem pts_fn : Fn 2 (.tuple (ptsK.map taskOf)) := fn_tasks (by decide) (by decide)
theorem pts_run {K : PySem.W.Frag} : ∀ (σ : L2.St) (H : Hp) (Q : List V → Hp → Prop), (∀ v H', Same H H' → Dd K H' v (.tuple (ptsK.map taskOf)) → Q [v] H') → (tCons (tTup (tCons (tPt 1 "a") (tCons (tPt 1 "b") (tCons (tPt 1 "c") tNil)))) tNil) σ H Q := fun σ H Q k =>
  have s3 : 3 ≤ sizeLine := by decide
  ⟨s3, fun p1 n1 => ⟨s3, fun p2 n2 => ⟨s3, fun p3 n3 => ⟨s3, fun p4 n4 => k (.ref p4) _ (Same.trans (same_new n1) (Same.trans (same_new n2) (Same.trans (same_new n3) (same_new n4))))
    (.base (.tup (SqT.of upd_same) (.cons (.tup (SqT.of (same_new n4 _ _ (same_new n3 _ _ (same_new n2 _ _ upd_same)))) (.cons (.int _) (.cons (.int _) (.cons (.str _) .nil))))
      (.cons (.tup (SqT.of (same_new n4 _ _ (same_new n3 _ _ upd_same))) (.cons (.int _) (.cons (.int _) (.cons (.str _) .nil))))
        (.cons (.tup (SqT.of (same_new n4 _ _ upd_same)) (.cons (.int _) (.cons (.int _) (.cons (.str _) .nil)))) .nil)))) rfl)⟩⟩⟩⟩
theorem non_made (ws : Ws) : madeD (.tuple (([] : List Tk).map taskOf)) (some ws) = walksB ws [] := by
  rw [made_eq]
  rfl
theorem non_run {K : PySem.W.Frag} : ∀ (σ : L2.St) (H : Hp) (Q : List V → Hp → Prop), (∀ v H', Same H H' → Dd K H' v (.tuple (([] : List Tk).map taskOf)) → Q [v] H') → (tCons (tTup tNil) tNil) σ H Q := fun σ H Q k =>
  ⟨by show 0 ≤ sizeLine; decide, fun p np => k (.ref p) _ (same_new np) (.base (.tup (SqT.of upd_same) .nil) rfl)⟩
theorem tl_by {d : PyData} (h : (d.showable && (decide (d.shown.length ≤ 1000) && decide (d.depth ≤ 60))) = true) : Tellable d := by
  rw [Bool.and_eq_true, Bool.and_eq_true, decide_eq_true_iff, decide_eq_true_iff] at h
  exact h
theorem tl_small {n : Nat} (h : n ≤ 6) : Tellable (.int (n : Nat)) := by
  rcases (by omega : n = 0 ∨ n = 1 ∨ n = 2 ∨ n = 3 ∨ n = 4 ∨ n = 5 ∨ n = 6) with rfl | rfl | rfl | rfl | rfl | rfl | rfl <;> exact tl_by (by decide +kernel)
def TelS (d : PyData) : Prop := Tellable d ∧ PyData.strOk d.shown = true
theorem ts_by {d : PyData} (h : (d.showable && (decide (d.shown.length ≤ 1000) && decide (d.depth ≤ 60))) = true) (h2 : PyData.strOk d.shown = true) : TelS d := ⟨tl_by h, h2⟩
theorem ts_small {n : Nat} (h : n ≤ 6) : TelS (.int (n : Nat)) := by
  rcases (by omega : n = 0 ∨ n = 1 ∨ n = 2 ∨ n = 3 ∨ n = 4 ∨ n = 5 ∨ n = 6) with rfl | rfl | rfl | rfl | rfl | rfl | rfl <;> exact ts_by (by decide +kernel) (by decide +kernel)
/-- a value whose error tells it, whatever befalls the dice -/
def Tel (P : PyData → Bool) (D : Addr) (H : Hp) (v : V) : Prop := ∃ d, (∀ H', But D H H' → Cp H' v d) ∧ TelS d ∧ Fit d ∧ P d = false
theorem Tel.but {P : PyData → Bool} {D : Addr} {H H' : Hp} {v : V} (b : But D H H') (h : Tel P D H v) : Tel P D H' v := by
  obtain ⟨d, h1, h2⟩ := h
  exact ⟨d, fun H2 b2 => h1 H2 (b.trans b2), h2⟩
theorem gl_e {σ : L2.St} {H0 : Hp} {P : PyData → Bool} {D : Addr} {te : TE} {v : V} {d : PyData} (hv : ∀ (H : Hp) (Q : VK), Q v H → te σ H Q) (hd : ∀ H, Td H 4 v d) (t : TelS d) (f : Fit d) (p : P d = false) : GivE σ H0 (Tel P D) D te := fun H Q _ c k => hv _ _ (k _ _ But.refl c ⟨d, fun H' _ => .inl (hd H'), t, f, p⟩)
theorem gl_tup {σ : L2.St} {H0 : Hp} {P : PyData → Bool} {D : Addr} {v : V} {d : PyData} (hd : ∀ H, Td H 3 v d) (t : TelS (.tuple [d])) (p : P (.tuple [d]) = false) : GivE σ H0 (Tel P D) D (tTup (tCons (tC v) tNil)) := fun H Q _ c k =>
  ⟨by show 1 ≤ sizeLine; decide, fun a na => k _ _ (Same.but (same_new na)) (dc_new c na) ⟨.tuple [d], fun H' b => .inl (.inr (.inr (.inr (.inr ⟨a, [v], [d], rfl, rfl, b _ _ (new_ne c na) upd_same, by show 1 < 1000; decide, .cons (hd H') .nil⟩)))), t, (fun z e => by cases e), p⟩⟩
theorem gl_lst {σ : L2.St} {H0 : Hp} {P : PyData → Bool} {D : Addr} {ta : TA} {xs : List V} {ds : List PyData} (hc : ∀ (H : Hp) (Q : List V → Hp → Prop), Q xs H → ta σ H Q) (hl : xs.length ≤ 10) (hd : ∀ H, Paired (Td H 3) xs ds) (t : TelS (.list ds)) (p : P (.list ds) = false) : GivE σ H0 (Tel P D) D (tLst ta) := fun H Q _ c k =>
  hc H _ ⟨by rw [sizeLine_eq]; omega, fun a na => k _ _ (Same.but (same_new na)) (dc_new c na) ⟨.list ds, fun H' b => .inr (.inl ⟨a, xs, ds, rfl, rfl, b _ _ (new_ne c na) upd_same, by omega, hd H'⟩), t, (fun z e => by cases e), p⟩⟩
theorem td_non {H : Hp} {n : Nat} : Td H (n + 1) .non .none := .inl ⟨rfl, rfl⟩
theorem td_bl {H : Hp} {n : Nat} {b : Bool} : Td H (n + 1) (.bl b) (.bool b) := .inr (.inl ⟨b, rfl, rfl⟩)
theorem td_int {H : Hp} {n : Nat} {b : Int} : Td H (n + 1) (.int b) (.int b) := .inr (.inr (.inl ⟨b, rfl, rfl⟩))
theorem td_str {H : Hp} {n : Nat} {b : Str} : Td H (n + 1) (.str b) (.str b) := .inr (.inr (.inr (.inl ⟨b, rfl, rfl⟩)))
/-- x = _law_pick(dice, [..]) -/
theorem pick_asg {K : PySem.W.Frag} {σ : L2.St} {H0 H : Hp} {R : Hp → V → Prop} {D : Addr} {n i : Nat} {ta : TA} {E : Ends} (g : GivEs σ H0 R D n ta) (mono : ∀ {H H' v}, But D H H' → R H v → R H' v) (hn0 : 0 < n) (hn : n ≤ 100) (b0 : But D H0 H) (c : Dc H D) (h0 : σ[0]? = some (some (.ref D)))
    (k : ∀ (u : V) (H' : Hp), But D H H' → Dc H' D → R H' u → E.nx (σ.set i (some u)) H') : tAsg (tCall (spPick K) [] E0 (tCons (tVar 0) (tCons (tLst ta) tNil))) (gName i) E σ H :=
  ⟨_, h0, g H _ b0 c fun vs H1 b1 c1 l r => ⟨by rw [sizeLine_eq]; omega, fun p np => ⟨D, .ref p, rfl, dc_new c1 np, .inl ⟨p, vs, rfl, new_ne c1 np, upd_same, by omega, by omega, fun u H' hu b c' =>
    k u H' (b1.trans ((Same.but (same_new np)).trans b)) c' (mono ((Same.but (same_new np)).trans b) (r u hu))⟩⟩⟩⟩
def numN (d : PyData) : Bool := match d with
  | .none => true | _ => numD d
theorem numN_of {d : PyData} (h : numN d = false) : numD d = false ∧ d ≠ .none := by
  cases d <;> first
    | exact ⟨h, fun e => by cases e⟩
    | cases h
theorem thr_num {K : PySem.W.Frag} {CD CN CU : Addr} {H : Hp} {d : PyData} {Q : VK} (ex : ExW K CD CN CU) (tl : Tellable d) (k : ∀ H', Same H H' → Q (.str ("number " ++ d.shown)) H') : Thrown H CN "given" d (eWord K CD CN CU Q) :=
  ⟨tl, fun H' dx v' s h cp => ⟨false, ex.nd, (fun z => by cases z), fun _ => ⟨true, ex.nn, fun _ => ⟨rfl, dx, _, v', d, rfl, h, rfl, cp, tl, k H' s⟩, (fun z => by cases z)⟩⟩⟩
theorem thr_name {K : PySem.W.Frag} {CD CN CU : Addr} {H : Hp} {d : PyData} {Q : VK} (ex : ExW K CD CN CU) (tl : Tellable d) (k : ∀ H', Same H H' → Q (.str ("name " ++ d.shown)) H') : Thrown H CU "wanted" d (eWord K CD CN CU Q) :=
  ⟨tl, fun H' dx v' s h cp => ⟨false, ex.ud, (fun z => by cases z), fun _ => ⟨false, ex.un, (fun z => by cases z), fun _ => ⟨true, ex.uu, fun _ => ⟨rfl, dx, _, v', d, rfl, h, rfl, cp, tl, k H' s⟩, (fun z => by cases z)⟩⟩⟩⟩
structure Okw (K : PySem.W.Frag) (C x : Addr) (ts : List Tk) (ws : Ws) (v1 v2 v3 : V) (d1 d2 d3 : PyData) (H : Hp) : Prop where
  cr : CrewAt K C H x ts ws
  i : Cp H v1 d1
  n : Cp H v2 d2
  m : Cp H v3 d3
theorem Okw.ext {K : PySem.W.Frag} {C x : Addr} {ts : List Tk} {ws : Ws} {v1 v2 v3 : V} {d1 d2 d3 : PyData} {H H' : Hp} (s : ExtN H H') (h : Okw K C x ts ws v1 v2 v3 d1 d2 d3 H) : Okw K C x ts ws v1 v2 v3 d1 d2 d3 H' := ⟨h.cr.ext s, Cp.ext s h.i, Cp.ext s h.n, Cp.ext s h.m⟩
def GivW (T : List (Addr × Str)) (Ok : Hp → Prop) (σ : L2.St) (te : TE) (z : Str) : Prop := ∀ (H : Hp) (Q : VK), Tabs T H → Ok H → (∀ H', ExtN H H' → Tabs T H' → Q (.str z) H') → te σ H Q
def GivWs (T : List (Addr × Str)) (Ok : Hp → Prop) (σ : L2.St) (ta : TA) (zs : List Str) : Prop := ∀ (H : Hp) (Q : List V → Hp → Prop), Tabs T H → Ok H → (∀ H', ExtN H H' → Tabs T H' → Q (zs.map V.str) H') → ta σ H Q
theorem gvw_nil {T : List (Addr × Str)} {Ok : Hp → Prop} {σ : L2.St} : GivWs T Ok σ tNil [] := fun H Q t _ k => k H (ExtN.refl H) t
theorem gvw_cons {T : List (Addr × Str)} {Ok : Hp → Prop} {σ : L2.St} {te : TE} {z : Str} {ta : TA} {zs : List Str} (mono : ∀ {H H'}, ExtN H H' → Ok H → Ok H') (h : GivW T Ok σ te z) (hs : GivWs T Ok σ ta zs) : GivWs T Ok σ (tCons te ta) (z :: zs) := fun H Q t o k =>
  h H _ t o fun H1 e1 t1 => hs H1 _ t1 (mono e1 o) fun H2 e2 t2 => k H2 (e1.trans e2) t2
theorem told_asg {T : List (Addr × Str)} {Ok : Hp → Prop} {σ : L2.St} {H : Hp} {E : Ends} {i : Nat} {ta : TA} {zs : List Str} (g : GivWs T Ok σ ta zs) (hl : zs.length ≤ 100) (t : Tabs T H) (o : Ok H) (k : ∀ p H', ExtN H H' → Tabs T H' → H' p = some (.lst (zs.map V.str)) → E.nx (σ.set i (some (.ref p))) H') : tAsg (tLst ta) (gName i) E σ H :=
  g H _ t o fun H1 e1 t1 => ⟨by rw [List.length_map, sizeLine_eq]; omega, fun p np => k p _ (e1.trans (Same.extN (same_new np))) (DW.Tabs.same t1 (same_new np)) upd_same⟩
theorem told_cat {T : List (Addr × Str)} {Ok : Hp → Prop} {σ : L2.St} {H : Hp} {E : Ends} {i j : Nat} {ta : TA} {ys zs : List Str} {L : Addr} (g : GivWs T Ok σ ta zs) (hj : σ[j]? = some (some (.ref L))) (hL : H L = some (.lst (ys.map V.str))) (hy : ys.length ≤ 100) (hl : zs.length ≤ 100) (t : Tabs T H) (o : Ok H)
    (k : ∀ p H', ExtN H H' → Tabs T H' → H' p = some (.lst ((ys ++ zs).map V.str)) → E.nx (σ.set i (some (.ref p))) H') : tAsg (tOp rCat (tVar j) (tLst ta)) (gName i) E σ H :=
  ⟨_, hj, g H _ t o fun H1 e1 t1 => ⟨by rw [List.length_map, sizeLine_eq]; omega, fun p np => ⟨L, p, _, _, rfl, rfl, same_new np _ _ (e1 _ _ hL fun _ e => by cases e), upd_same, by rw [List.length_map, List.length_map, sizeLine_eq]; omega, fun q nq =>
    k q _ (e1.trans (Same.extN (Same.trans (same_new np) (same_new nq)))) (DW.Tabs.same t1 (Same.trans (same_new np) (same_new nq))) (by rw [upd_same, List.map_append])⟩⟩⟩
theorem w_canf {K : PySem.W.Frag} {T : List (Addr × Str)} {C CD CN CU x : Addr} {ts : List Tk} {ws : Ws} {v1 v2 v3 : V} {d1 d2 d3 : PyData} {σ : L2.St} (hx : σ[3]? = some (some (.ref x))) (h10 : σ[10]? = some (some v1)) (tl : Tellable d1) (bad : betD 0 (ts.length - 1) d1 = false) (ex : ExW K CD CN CU) : GivW T (Okw K C x ts ws v1 v2 v3 d1 d2 d3) σ (tCanF K T C CD CN CU (tCons (tVar 10) (tCons (tC .non) tNil))) ("number " ++ d1.shown) := fun H Q t o k => ⟨t, fun H1 e1 t1 => ⟨_, hx, by
  have o1 := o.ext e1
  obtain ⟨dx, ta, wa, pa, xs, kt, kp, hi, rest⟩ := id o1.cr
  exact ⟨x, dx, _, rfl, hi, by rfl, _, h10, x, v1, .non, d1, .none, ts, ws, rfl, o1.cr, o1.i, .inl td_non, fun _ => thr_num ex tl fun H' s => k H' (e1.trans (Same.extN s)) (DW.Tabs.same t1 s), fun e => by rw [bad] at e; cases e⟩⟩⟩
theorem w_walk {K : PySem.W.Frag} {T : List (Addr × Str)} {C CD CN CU x : Addr} {ts : List Tk} {ws : Ws} {v1 v2 v3 : V} {d1 d2 d3 : PyData} {σ : L2.St} (hx : σ[3]? = some (some (.ref x))) (h11 : σ[11]? = some (some v2)) (tl : Tellable d2) (bad : inS ((ts.map fun t => t.2.2) ++ namesW ws) d2 = false) (ex : ExW K CD CN CU) : GivW T (Okw K C x ts ws v1 v2 v3 d1 d2 d3) σ (tWalkL K T C CD CN CU (tCons (tVar 11) (tCons (tC (.int 0)) tNil))) ("name " ++ d2.shown) := fun H Q t o k => ⟨t, fun H1 e1 t1 => ⟨_, hx, by
  have o1 := o.ext e1
  obtain ⟨dx, ta, wa, pa, xs, kt, kp, hi, rest⟩ := id o1.cr
  exact ⟨x, dx, _, rfl, hi, by rfl, _, h11, x, v2, .int 0, d2, .int 0, ts, ws, rfl, o1.cr, o1.n, .inl td_int, fun _ => thr_name ex tl fun H' s => k H' (e1.trans (Same.extN s)) (DW.Tabs.same t1 s), fun e => by rw [bad] at e; cases e⟩⟩⟩
theorem w_pap {K : PySem.W.Frag} {T : List (Addr × Str)} {C CD CN CU x : Addr} {ts : List Tk} {ws : Ws} {v1 v2 v3 : V} {d1 d2 d3 : PyData} {σ : L2.St} (hx : σ[3]? = some (some (.ref x))) (h12 : σ[12]? = some (some v3)) (tl : Tellable d3) (ft : Fit d3) (bad : numD d3 = false) (ex : ExW K CD CN CU) : GivW T (Okw K C x ts ws v1 v2 v3 d1 d2 d3) σ (tPapL K T C CD CN CU (tCons (tVar 12) tNil)) ("number " ++ d3.shown) := fun H Q t o k => ⟨t, fun H1 e1 t1 => ⟨_, hx, by
  have o1 := o.ext e1
  obtain ⟨dx, ta, wa, pa, xs, kt, kp, hi, rest⟩ := id o1.cr
  exact ⟨x, dx, _, rfl, hi, by rfl, _, h12, x, v3, d3, ts, ws, rfl, o1.cr, o1.m, ft, bad, thr_num ex tl fun H' s => k H' (e1.trans (Same.extN s)) (DW.Tabs.same t1 s)⟩⟩⟩
theorem w_pap0 {K : PySem.W.Frag} {T : List (Addr × Str)} {C CD CN CU x : Addr} {ts : List Tk} {ws : Ws} {v1 v2 v3 : V} {d1 d2 d3 : PyData} {σ : L2.St} (hx : σ[3]? = some (some (.ref x)))  (ex : ExW K CD CN CU) : GivW T (Okw K C x ts ws v1 v2 v3 d1 d2 d3) σ (tPapL K T C CD CN CU (tCons (tC .non) tNil)) ("number " ++ PyData.none.shown) := fun H Q t o k => ⟨t, fun H1 e1 t1 => ⟨_, hx, by
  have o1 := o.ext e1
  obtain ⟨dx, ta, wa, pa, xs, kt, kp, hi, rest⟩ := id o1.cr
  exact ⟨x, dx, _, rfl, hi, by rfl, x, .non, .none, ts, ws, rfl, o1.cr, .inl td_non, fit_none, rfl, thr_num ex (tl_by (by decide +kernel)) fun H' s => k H' (e1.trans (Same.extN s)) (DW.Tabs.same t1 s)⟩⟩⟩
theorem w_isp {K : PySem.W.Frag} {T : List (Addr × Str)} {C CD CN CU x : Addr} {ts : List Tk} {ws : Ws} {v1 v2 v3 : V} {d1 d2 d3 : PyData} {σ : L2.St} (hx : σ[3]? = some (some (.ref x))) (h12 : σ[12]? = some (some v3)) (tl : Tellable d3) (ft : Fit d3) (bad : numD d3 = false) (ex : ExW K CD CN CU) : GivW T (Okw K C x ts ws v1 v2 v3 d1 d2 d3) σ (tIsPapL K T C CD CN CU (tCons (tVar 12) (tCons (tC .non) tNil))) ("number " ++ d3.shown) := fun H Q t o k => ⟨t, fun H1 e1 t1 => ⟨_, hx, by
  have o1 := o.ext e1
  obtain ⟨dx, ta, wa, pa, xs, kt, kp, hi, rest⟩ := id o1.cr
  exact ⟨x, dx, _, rfl, hi, by rfl, _, h12, x, v3, .non, d3, none, ts, ws, rfl, o1.cr, o1.m, ft, fun _ => thr_num ex tl fun H' s => k H' (e1.trans (Same.extN s)) (DW.Tabs.same t1 s), fun e => by rw [bad] at e; cases e⟩⟩⟩
theorem w_ros2 {K : PySem.W.Frag} {T : List (Addr × Str)} {C CD CN CU x : Addr} {ts : List Tk} {ws : Ws} {v1 v2 v3 : V} {d1 d2 d3 : PyData} {σ : L2.St} (hx : σ[3]? = some (some (.ref x))) (h12 : σ[12]? = some (some v3)) (tl : Tellable d3) (ft : Fit d3) (bad : numD d3 = false) (nn : d3 ≠ .none) (ex : ExW K CD CN CU) : GivW T (Okw K C x ts ws v1 v2 v3 d1 d2 d3) σ (tRos2L K T C CD CN CU) ("number " ++ d3.shown) := fun H Q t o k => ⟨t, fun H1 e1 t1 => ⟨_, hx, by
  have o1 := o.ext e1
  obtain ⟨dx, ta, wa, pa, xs, kt, kp, hi, rest⟩ := id o1.cr
  exact ⟨x, dx, _, rfl, hi, by rfl, _, h12, 2, rfl, rfl, rfl, x, .non, v3, .int (-2), none, d3, .int (-2), ts, ws, rfl, o1.cr, o1.m, ft, .inl td_int, fit_int, fun _ => ⟨bad, thr_num ex tl fun H' s => k H' (e1.trans (Same.extN s)) (DW.Tabs.same t1 s)⟩, fun e => absurd e nn⟩⟩⟩
theorem w_ros1 {K : PySem.W.Frag} {T : List (Addr × Str)} {C CD CN CU x : Addr} {ts : List Tk} {ws : Ws} {v1 v2 v3 : V} {d1 d2 d3 : PyData} {σ : L2.St} (hx : σ[3]? = some (some (.ref x))) (h12 : σ[12]? = some (some v3)) (tl : Tellable d3) (ft : Fit d3) (bad : numD d3 = false) (ex : ExW K CD CN CU) : GivW T (Okw K C x ts ws v1 v2 v3 d1 d2 d3) σ (tLam T (TWord K CD CN CU) fun E => tMethN C "are_rosters" 1 1 (spRos K C CN) (fun vs zs => vs ++ [V.non] ++ zs) E (tVar 3) (tCons (tTup tNil) tNil) (tCons (tVar 12) tNil)) ("number " ++ d3.shown) := fun H Q t o k => ⟨t, fun H1 e1 t1 => ⟨_, hx, by
  have o1 := o.ext e1
  obtain ⟨dx, ta, wa, pa, xs, kt, kp, hi, rest⟩ := id o1.cr
  exact ⟨x, dx, _, rfl, hi, by rfl, by show 0 ≤ sizeLine; decide, fun p np => ⟨_, h12, rfl, rfl, x, .ref p, .non, v3, none, .none, d3, ts, ws, rfl, o1.cr.same (same_new np), .inl td_non, fit_none, Cp.same (same_new np) o1.m, ft, fun e => absurd rfl e, fun _ => ⟨fun _ => thr_num ex tl fun H' s => k H' (e1.trans (Same.extN (Same.trans (same_new np) s))) (DW.Tabs.same t1 (Same.trans (same_new np) s)), fun e => by rw [bad] at e; cases e⟩⟩⟩⟩⟩
theorem w_ros0 {K : PySem.W.Frag} {T : List (Addr × Str)} {C CD CN CU x : Addr} {ts : List Tk} {ws : Ws} {v1 v2 v3 : V} {d1 d2 d3 : PyData} {σ : L2.St} (hx : σ[3]? = some (some (.ref x)))  (ex : ExW K CD CN CU) : GivW T (Okw K C x ts ws v1 v2 v3 d1 d2 d3) σ (tLam T (TWord K CD CN CU) fun E => tMethN C "are_rosters" 1 1 (spRos K C CN) (fun vs zs => vs ++ [V.non] ++ zs) E (tVar 3) (tCons (tTup tNil) tNil) (tCons (tC .non) tNil)) ("number " ++ PyData.none.shown) := fun H Q t o k => ⟨t, fun H1 e1 t1 => ⟨_, hx, by
  have o1 := o.ext e1
  obtain ⟨dx, ta, wa, pa, xs, kt, kp, hi, rest⟩ := id o1.cr
  exact ⟨x, dx, _, rfl, hi, by rfl, by show 0 ≤ sizeLine; decide, fun p np => ⟨rfl, rfl, x, .ref p, .non, .non, none, .none, .none, ts, ws, rfl, o1.cr.same (same_new np), .inl td_non, fit_none, .inl td_non, fit_none, fun e => absurd rfl e, fun _ => ⟨fun _ => thr_num ex (tl_by (by decide +kernel)) fun H' s => k H' (e1.trans (Same.extN (Same.trans (same_new np) s))) (DW.Tabs.same t1 (Same.trans (same_new np) s)), fun e => by cases e⟩⟩⟩⟩⟩
theorem so_app {a b : Str} (ha : PyData.strOk a = true) (hb : PyData.strOk b = true) : PyData.strOk (a ++ b) = true := by
  show (a.cps ++ b.cps).all _ = true
  rw [Array.all_append, Bool.and_eq_true]
  exact ⟨ha, hb⟩
def TasksAt (K : PySem.W.Frag) (H : Hp) (ta : Addr) (ts : List Tk) : Prop := ∃ xs, SqT K H ta xs ∧ DpAll K H xs (ts.map taskOf)
theorem TasksAt.dc {K : PySem.W.Frag} {H H' : Hp} {ta D : Addr} {ts : List Tk} (c : Dc H D) (s : But D H H') (h : TasksAt K H ta ts) : TasksAt K H' ta ts := by
  obtain ⟨d0, d1, d2, e⟩ := id c
  obtain ⟨xs, h1, h2⟩ := h
  exact ⟨xs, sqT_dc c s h1, tasks_dc c s h2⟩
theorem TasksAt.ext {K : PySem.W.Frag} {H H' : Hp} {ta : Addr} {ts : List Tk} (s : ExtN H H') (h : TasksAt K H ta ts) : TasksAt K H' ta ts := by
  obtain ⟨xs, h1, h2⟩ := h
  exact ⟨xs, sqT_ext s h1, DpAll.ext s h2⟩
structure Oky (K : PySem.W.Frag) (C x ta : Addr) (ts : List Tk) (ws : Ws) (v1 v2 v3 : V) (d1 d2 d3 : PyData) (H : Hp) : Prop where
  w : Okw K C x ts ws v1 v2 v3 d1 d2 d3 H
  t : TasksAt K H ta ts
theorem Oky.ext {K : PySem.W.Frag} {C x ta : Addr} {ts : List Tk} {ws : Ws} {v1 v2 v3 : V} {d1 d2 d3 : PyData} {H H' : Hp} (s : ExtN H H') (h : Oky K C x ta ts ws v1 v2 v3 d1 d2 d3 H) : Oky K C x ta ts ws v1 v2 v3 d1 d2 d3 H' := ⟨Okw.ext s h.w, TasksAt.ext s h.t⟩
theorem w_canf2 {K : PySem.W.Frag} {T : List (Addr × Str)} {C CD CN CU x ta : Addr} {ts : List Tk} {ws : Ws} {v1 v2 v3 : V} {d1 d2 d3 : PyData} {σ : L2.St} (hx : σ[3]? = some (some (.ref x))) (h10 : σ[10]? = some (some v1)) (tl : Tellable d1) (bad : betD 0 (ts.length - 1) d1 = false) (hn : 0 < ts.length) (ex : ExW K CD CN CU) : GivW T (Oky K C x ta ts ws v1 v2 v3 d1 d2 d3) σ (tCanF K T C CD CN CU (tCons (tC (.int 0)) (tCons (tVar 10) tNil))) ("number " ++ d1.shown) := fun H Q t o k => ⟨t, fun H1 e1 t1 => ⟨_, hx, by
  have o1 := (Oky.ext e1 o).w
  obtain ⟨dx, ta, wa, pa, xs, kt, kp, hi, rest⟩ := id o1.cr
  have b0 : betD 0 (ts.length - 1) (.int 0) = true := by
    show (decide ((0 : Int) ≤ 0) && decide (0 ≤ (ts.length : Int) - 1)) = true
    rw [decide_eq_true (by omega : (0 : Int) ≤ ts.length - 1)]
    rfl
  exact ⟨x, dx, _, rfl, hi, by rfl, _, h10, x, .int 0, v1, .int 0, d1, ts, ws, rfl, o1.cr, .inl td_int, o1.i, (fun e => by rw [b0] at e; cases e), fun _ => ⟨bad, thr_num ex tl fun H' s => k H' (e1.trans (Same.extN s)) (DW.Tabs.same t1 s)⟩⟩⟩⟩
theorem w_walk2 {K : PySem.W.Frag} {T : List (Addr × Str)} {C CD CN CU x ta : Addr} {ts : List Tk} {ws : Ws} {v1 v2 v3 : V} {d1 d2 d3 : PyData} {σ : L2.St} (hx : σ[3]? = some (some (.ref x))) (h1 : σ[1]? = some (some (.ref ta))) (h11 : σ[11]? = some (some v2)) (tl : Tellable d2) (bad : inS ((ts.map fun t => t.2.2) ++ namesW ws) d2 = false) (hn : 0 < ts.length) (ex : ExW K CD CN CU) : GivW T (Oky K C x ta ts ws v1 v2 v3 d1 d2 d3) σ (tWalkL K T C CD CN CU (tCons (tOp (rIxT K) (tOp (rIxT K) (tVar 1) (tC (.int 0))) (tC (.int 2))) (tCons (tVar 11) tNil))) ("name " ++ d2.shown) := fun H Q t o k => ⟨t, fun H1 e1 t1 => ⟨_, hx, by
  have o0 := Oky.ext e1 o
  have o1 := o0.w
  obtain ⟨dx, ta', wa, pa, xs', kt, kp, hi, rest⟩ := id o1.cr
  obtain ⟨xs, hq, hp⟩ := o0.t
  cases ts with
  | nil => exact absurd hn (by decide)
  | cons t0 tr =>
    cases hp with
    | cons p0 pr =>
    rename_i v0 xr
    have a0 : atI (v0 :: xr) 0 = some v0 := by
      unfold atI ixN
      simp
    obtain ⟨b, eb, hb⟩ := task_at p0
    subst eb
    have i0 : inS (((t0 :: tr).map fun t => t.2.2) ++ namesW ws) (.str t0.2.2) = true := decide_eq_true (by simp)
    exact ⟨x, dx, _, rfl, hi, by rfl, _, h1, ta, _, 0, .ref b, rfl, rfl, hq, a0, b, _, 2, .str t0.2.2, rfl, rfl, hb, by rfl, _, h11, x, .str t0.2.2, v2, .str t0.2.2, d2, t0 :: tr, ws, rfl, o1.cr, .inl td_str, o1.n, (fun e => by rw [i0] at e; cases e), fun _ => ⟨bad, thr_name ex tl fun H' s => k H' (e1.trans (Same.extN s)) (DW.Tabs.same t1 s)⟩⟩⟩⟩
/-- `!= ()` tells b of a value -/
def NeV (K : PySem.W.Frag) (C : Addr) (H : Hp) (v : V) (b : Bool) : Prop := (∃ d, Dp K H v d ∧ SeqAt.shaped d = true ∧ (!PyData.eqv d (.tuple [])) = b) ∨ (b = true ∧ UnT C H v)
theorem NotTup.ext {K : PySem.W.Frag} {H H' : Hp} {v : V} (s : ExtN H H') (h : NotTup K H v) : NotTup K H' v := by
  rcases h with ⟨a, kvs, e, ha⟩ | ⟨a, C, dx, fs, e, ha, k⟩
  · exact .inl ⟨a, kvs, e, s _ _ ha fun _ z => nomatch z⟩
  · exact .inr ⟨a, C, dx, fs, e, s _ _ ha fun _ z => (nomatch z), k⟩
theorem NeV.ext {K : PySem.W.Frag} {C : Addr} {H H' : Hp} {v : V} {b : Bool} (s : ExtN H H') (h : NeV K C H v b) : NeV K C H' v b := by
  rcases h with ⟨d, h1, h2⟩ | ⟨e, h⟩
  · exact .inl ⟨d, Dp.ext s h1, h2⟩
  · exact .inr ⟨e, UnT.ext s h⟩
theorem ValK.ext {n : Nat} {K : PySem.W.Frag} {H H' : Hp} {v : V} (s : ExtN H H') : ∀ {o : Option PyData}, ValK n K H v o → ValK n K H' v o
  | some d, h => ⟨Dd.ext s h.1, h.2⟩
  | none, h => NotTup.ext s h
/-- what is neither a paper nor rosters of n tasks -/
def SomeV (K : PySem.W.Frag) (C : Addr) (n : Nat) (H : Hp) (v : V) : Prop := ∃ o b, ValK 3 K H v o ∧ ValK 2 K H v o ∧ papBad n o = true ∧ NeV K C H v b ∧ ((b || decide (0 < n)) = true → rosBad n o = true)
theorem SomeV.ext {K : PySem.W.Frag} {C : Addr} {n : Nat} {H H' : Hp} {v : V} (s : ExtN H H') (h : SomeV K C n H v) : SomeV K C n H' v := by
  obtain ⟨o, b, h1, h2, h3, h4, h5⟩ := h
  exact ⟨o, b, ValK.ext s h1, ValK.ext s h2, h3, NeV.ext s h4, h5⟩
def fitB (d : PyData) : Bool := match d with
  | .str z => decide (z.length ≤ 1000) | _ => true
def fnB : Nat → PyData → Bool
  | 0, d => fitB d
  | n + 1, d => fitB d && (match d with | .tuple ds => decide (ds.length ≤ 1000) && ds.all (fnB n) | _ => true)
theorem fit_by {d : PyData} (h : fitB d = true) : Fit d := fun z e => by
  subst e
  exact of_decide_eq_true h
theorem fn_by : ∀ {n : Nat} {d : PyData}, fnB n d = true → Fn n d
  | 0, _, h => fit_by h
  | n + 1, d, h => by
    unfold fnB at h
    rw [Bool.and_eq_true] at h
    refine ⟨fit_by h.1, fun ds e => ?_⟩
    subst e
    have h2 := h.2
    simp only [Bool.and_eq_true, decide_eq_true_iff, List.all_eq_true] at h2
    exact ⟨h2.1, fun y m => fn_by (h2.2 y m)⟩
/-- data that is neither -/
theorem some_d {K : PySem.W.Frag} {C : Addr} {n : Nat} {H : Hp} {v : V} {d : PyData} (h : Dp K H v d) (nd : d.hasDict = false) (f3 : fnB 3 d = true) (f2 : fnB 2 d = true) (sh : SeqAt.shaped d = true) (pb : papBad n (some d) = true) (rb : ((!PyData.eqv d (.tuple [])) || decide (0 < n)) = true → rosBad n (some d) = true) : SomeV K C n H v :=
  ⟨some d, _, ⟨.base h nd, fn_by f3⟩, ⟨.base h nd, fn_by f2⟩, pb, .inl ⟨d, h, sh, rfl⟩, rb⟩
/-- a dict of walks, a crew -/
theorem some_w {K : PySem.W.Frag} {C : Addr} {n : Nat} {H : Hp} {a : Addr} {kvs : List (List Key × V)} (h : H a = some (.dT kvs)) : SomeV K C n H (.ref a) := ⟨none, true, .inl ⟨a, kvs, rfl, h⟩, .inl ⟨a, kvs, rfl, h⟩, rfl, .inr ⟨rfl, .inl ⟨a, kvs, rfl, h⟩⟩, fun _ => rfl⟩
theorem some_c {K : PySem.W.Frag} {C : Addr} {n : Nat} {H : Hp} {a dx : Addr} {fs : List (Str × V)} (h : H a = some (.ins C dx fs)) (ik : InsK K C) : SomeV K C n H (.ref a) := ⟨none, true, .inr ⟨a, C, dx, fs, rfl, h, ik⟩, .inr ⟨a, C, dx, fs, rfl, h, ik⟩, rfl, .inr ⟨rfl, .inr (.inr ⟨a, dx, fs, rfl, h⟩)⟩, fun _ => rfl⟩
/-- {} -/
theorem some_e {K : PySem.W.Frag} {C : Addr} {n : Nat} {H : Hp} {a : Addr} (h : H a = some (.dK [])) : SomeV K C n H (.ref a) := ⟨some (.dict []), true, ⟨.dct (kvs := []) h, fn_by rfl⟩, ⟨.dct (kvs := []) h, fn_by rfl⟩, rfl, .inr ⟨rfl, .inr (.inl ⟨a, _, rfl, h⟩)⟩, fun _ => rfl⟩
theorem tasks_rb : ∀ {n : Nat} {ts : List Tk}, (ts ≠ [] ∨ 0 < n) → rosBad n (some (.tuple (ts.map taskOf))) = true
  | n, [], h => decide_eq_true (h.resolve_left fun e => e rfl)
  | n, t :: ts, _ => by
    show (((t :: ts).map taskOf).all (rowBad n)) = true
    rw [List.all_eq_true]
    intro d m
    obtain ⟨u, _, rfl⟩ := List.mem_map.mp m
    show (decide (3 < 1) || !([PyData.int u.1, .int u.2.1, .str u.2.2].all (betD 0 ((n : Int) - 1)))) = true
    simp [betD]
theorem task_sh (t : Tk) (h : PyData.strOk t.2.2 = true) : SeqAt.shaped (taskOf t) = true := by
  unfold SeqAt.shaped taskOf
  simp [PyData.canLay0, PyData.canLayAll0, PyData.depth, PyData.depthAll, h]
theorem tasks_sh (ts : List Tk) (h : ∀ t ∈ ts, PyData.strOk t.2.2 = true) : SeqAt.shaped (.tuple (ts.map taskOf)) = true := by
  have h1 : ∀ ts : List Tk, (∀ t ∈ ts, PyData.strOk t.2.2 = true) → PyData.canLayAll0 (ts.map taskOf) = true := fun ts h => by
    induction ts with
    | nil => rfl
    | cons k r ih => simp [PyData.canLayAll0, PyData.canLay0, taskOf, ih fun z m => h z (List.mem_cons_of_mem _ m), h k (List.mem_cons_self ..)]
  have h2 : ∀ ts : List Tk, PyData.depthAll (ts.map taskOf) ≤ 2 := fun ts => by
    induction ts with
    | nil => simp [PyData.depthAll]
    | cons k r ih => simp only [List.map_cons, PyData.depthAll, PyData.depth, taskOf]; omega
  unfold SeqAt.shaped
  rw [Bool.and_eq_true]
  refine ⟨by simp [PyData.canLay0, h1 ts h], decide_eq_true ?_⟩
  have := h2 ts
  simp only [PyData.depth]
  omega
theorem tasks_pb : ∀ {n : Nat} {ts : List Tk}, (∀ t ∈ ts, PyData.strOk t.2.2 = true) → papBad n (some (.tuple (ts.map taskOf))) = true
  | n, [], _ => rfl
  | n, [t], _ => rfl
  | n, [t, u], h => by
    show (SeqAt.shaped (taskOf t) && (if PyData.eqv (taskOf t) (.str "rosters") = true then _ else if PyData.eqv (taskOf t) (.str "crowd") = true then _ else true)) = true
    rw [show PyData.eqv (taskOf t) (.str "rosters") = false from rfl, show PyData.eqv (taskOf t) (.str "crowd") = false from rfl, task_sh t (h t (List.mem_cons_self ..))]
    rfl
  | n, t :: u :: z :: r, _ => rfl
/-- the tasks themselves are neither; () with no task is left out -/
theorem some_t {K : PySem.W.Frag} {C : Addr} {n : Nat} {H : Hp} {a : Addr} {ts : List Tk} (h : TasksAt K H a ts) (hn : n = ts.length) (hl : ts.length ≤ 1000) (f : ∀ t ∈ ts, t.2.2.length ≤ 1000) (so : ∀ t ∈ ts, PyData.strOk t.2.2 = true) : SomeV K C n H (.ref a) := by
  obtain ⟨xs, h1, h2⟩ := h
  have f2 := fn_tasks hl f
  refine ⟨some (.tuple (ts.map taskOf)), _, ⟨.base (.tup h1 h2) (noDict_tasks ts), ⟨(fun z e => by cases e), (fun ds e => ?_)⟩⟩, ⟨.base (.tup h1 h2) (noDict_tasks ts), f2⟩, tasks_pb so, .inl ⟨_, .tup h1 h2, tasks_sh ts so, rfl⟩, fun _ => tasks_rb ?_⟩
  · cases e
    refine ⟨by rw [List.length_map]; exact hl, fun d m => ?_⟩
    obtain ⟨t, ht, rfl⟩ := List.mem_map.mp m
    refine ⟨(fun z e => by cases e), fun es e => ?_⟩
    cases e
    refine ⟨by show 3 ≤ 1000; decide, fun d m => ?_⟩
    rcases List.mem_cons.mp m with rfl | m
    · exact ⟨fit_int, fun ds e => by cases e⟩
    · rcases List.mem_cons.mp m with rfl | m
      · exact ⟨fit_int, fun ds e => by cases e⟩
      · rw [List.mem_singleton.mp m]
        exact ⟨(fun z e => by cases e; exact f t ht), fun ds e => by cases e⟩
  · rename_i hb
    cases ts with
    | nil =>
      subst hn
      exact absurd hb (by decide)
    | cons t r => exact .inl fun e => by cases e
theorem dT_dc {H H' : Hp} {D a : Addr} {k : List (List Key × V)} (c : Dc H D) (b : But D H H') (h : H a = some (.dT k)) : H' a = some (.dT k) := by
  obtain ⟨d0, d1, d2, e⟩ := id c
  exact b _ _ (ne_of h e (by simp)) h
theorem dT_ext {H H' : Hp} {a : Addr} {k : List (List Key × V)} (s : ExtN H H') (h : H a = some (.dT k)) : H' a = some (.dT k) := s _ _ h fun _ e => nomatch e
theorem SomeV.same {K : PySem.W.Frag} {C : Addr} {n : Nat} {H H' : Hp} {v : V} (s : Same H H') (h : SomeV K C n H v) : SomeV K C n H' v := SomeV.ext (Same.extN s) h
theorem pb_ros {n : Nat} {b : PyData} (h : rosBad n (some b) = true) : papBad n (some (.tuple [.str "rosters", b])) = true := by
  show (SeqAt.shaped (.str "rosters") && (if PyData.eqv (.str "rosters") (.str "rosters") = true then rosBad n (some b) else _)) = true
  rw [h, show SeqAt.shaped (.str "rosters") = true by decide +kernel, show PyData.eqv (.str "rosters") (.str "rosters") = true by decide +kernel]
  rfl
theorem pb_cro {n : Nat} {b : PyData} (h : crowdBad n b = true) : papBad n (some (.tuple [.str "crowd", b])) = true := by
  show (SeqAt.shaped (.str "crowd") && (if PyData.eqv (.str "crowd") (.str "rosters") = true then rosBad n (some b) else if PyData.eqv (.str "crowd") (.str "crowd") = true then crowdBad n b else true)) = true
  rw [h, show SeqAt.shaped (.str "crowd") = true by decide +kernel, show PyData.eqv (.str "crowd") (.str "rosters") = false by decide +kernel, show PyData.eqv (.str "crowd") (.str "crowd") = true by decide +kernel]
  rfl
theorem sh_two {z : Str} {i : Int} (h : PyData.strOk z = true) : SeqAt.shaped (.tuple [.str z, .tuple [.int i]]) = true := by
  unfold SeqAt.shaped
  simp [PyData.canLay0, PyData.canLayAll0, PyData.depth, PyData.depthAll, h]
/-- [_law_word(lambda: Crew(.., walks=value)) for value in long] -/
theorem rd_made {K : PySem.W.Frag} {T : List (Addr × Str)} {C CD CN CU L D2 : Addr} {ta : TA} {tsk : List Tk} {PL : List Str} {zs : List V} {Wi : List Ws} {σ : L2.St} {H : Hp} {Qd : Hp → Prop} (ex : ExW K CD CN CU)
    (hta : ∀ (σ : L2.St) (H : Hp) (Q : List V → Hp → Prop), (∀ v H', Same H H' → Dd K H' v (.tuple (tsk.map taskOf)) → Q [v] H') → ta σ H Q) (hm : ∀ ws, madeD (.tuple (tsk.map taskOf)) (some ws) = walksB ws PL) (hf : Fn 2 (.tuple (tsk.map taskOf))) (hσ : 15 < σ.length)
    (hz : ∀ (i : Nat) (v : V), zs[i]? = some v → ∃ ws, Wi[i]? = some ws ∧ WalkV K H v (some ws)) (hl : Wi.length = zs.length) (h10 : zs.length ≤ 10) (hL : H L = some (.lst zs)) (tb : Tabs T H) (hD2 : H D2 = none)
    (k : ∀ H', ExtN H H' → Tabs T H' → H' D2 = some (.lst ((Wi.map (resOf PL)).map V.str)) → Qd H') :
    ∃ W : Nat → Nat → Hp → Prop, (∃ m, W 0 m (upd H D2 (.lst []))) ∧ ∀ i m H, W i m H →
      ((Itl K L).stop i H ∧ Qd H) ∨ ((Itl K L).go i H ∧ ∃ Nx : Hp → Prop, (∀ H', Nx H' → ∃ m', m' < m ∧ W (i + 1) m' H') ∧ ∀ x H', (Itl K L).yld i H x H' → gName 15 x (wipe σ [15]) H' fun σ2 H2 => wipe σ2 [15] = wipe σ [15] ∧ tYes σ2 H2 fun b H3 =>
        if b = true then tMadeK K T C CD CN CU ta σ2 H3 fun y H4 => ∃ acc, H4 D2 = some (.lst acc) ∧ acc.length < sizeLine ∧ Nx (upd H4 D2 (.lst (acc ++ [y]))) else Nx H3) := by
  refine lc_it (walk_list (K := K) (a := L) (xs := zs)) (fun i H' => ExtN H H' ∧ Tabs T H' ∧ H' D2 = some (.lst (((Wi.take i).map (resOf PL)).map V.str))) ⟨Same.extN (same_new hD2), DW.Tabs.same tb (same_new hD2), upd_same⟩ (fun i H' _ z => SqL.of (z.1 _ _ hL fun _ e => by cases e)) (fun i v H0' H' hi z y => ?_) (fun H' z => ?_)
  · obtain ⟨e4, t4, h4⟩ := z
    obtain ⟨e, hv⟩ := y
    subst e
    obtain ⟨ws, hws, hwv⟩ := hz i v hv
    refine ⟨by simp [gName, wipe], tyes ⟨t4, fun H5 e5 t5 => hta _ _ _ fun tp H6 s6 hd => ⟨_, (by simp [gName, wipe, hσ]; rfl), rfl, rfl, fun y dy ny ndy ne => ?_⟩⟩⟩
    have sN : Same H6 (upd (upd H6 dy (.own y)) y (.ins C dy [])) := fun c o e => by rw [upd_ne (ne_of_none e ny), upd_ne (ne_of_none e ndy)]; exact e
    have e35 : ExtN H H5 := e4.trans e5
    have e36 : ExtN H (upd (upd H6 dy (.own y)) y (.ins C dy [])) := e35.trans (Same.extN (Same.trans s6 sN))
    have fin : ∀ (r : Str) (H7 : Hp), Same H5 H7 → resOf PL ws = r → ∃ acc, H7 D2 = some (.lst acc) ∧ acc.length < sizeLine ∧ ExtN H (upd H7 D2 (.lst (acc ++ [V.str r]))) ∧ Tabs T (upd H7 D2 (.lst (acc ++ [V.str r]))) ∧ upd H7 D2 (.lst (acc ++ [V.str r])) D2 = some (.lst (((Wi.take (i + 1)).map (resOf PL)).map V.str)) := fun r H7 s7 er => by
      have h7 : H7 D2 = some (.lst (((Wi.take i).map (resOf PL)).map V.str)) := s7 _ _ (e5 _ _ h4 fun _ e => by cases e)
      refine ⟨_, h7, by rw [List.length_map, List.length_map, List.length_take, sizeLine_eq]; omega, ext_mut (e35.trans (Same.extN s7)) hD2, tabs_lst h7 But.upd (DW.Tabs.same t5 s7), ?_⟩
      rw [upd_same, takeSucc hws, List.map_append, List.map_append, ← er]
      rfl
    refine ⟨y, dy, tp, v, .tuple (tsk.map taskOf), some ws, rfl, upd_same, Dd.same sN hd, hf, WalkV.ext e36 hwv, fun m H7 s7 => ⟨true, ex.dd, fun _ => ?_, fun z => by cases z⟩, fun ts' ws' e1 e2 m H7 b7 cr => ⟨rfl, ?_⟩⟩
    · refine fin "day" H7 (Same.trans (Same.trans s6 sN) s7) ?_
      rw [hm] at m
      unfold resOf
      rw [m]
      rfl
    · refine fin "fine" H7 (fun c o e => b7 c o (ne_of_none (s6 _ _ e) ny) (sN _ _ (s6 _ _ e))) ?_
      rw [hm] at m
      unfold resOf
      rw [m]
      rfl
  · obtain ⟨e4, t4, h4⟩ := z
    rw [← hl, List.take_length] at h4
    exact k H' e4 t4 h4
/-- the methods of a crew -/
structure MethsK (P : Program) (w : World) (K : PySem.W.Frag) (mg : Str → Option Value) (base : Heap) (C CN CU f1 f2 f3 f4 f5 : Addr) (d1 d2 d3 d4 d5 : FuncData) (ds : List Value) : Prop where
  k : CrK K C
  can : MCal P w K mg base (L2.CX P w) 7 C "can_follow" ["self", "task", "other"] [] (spCanF K C CN) f1 d1
  walk : MCal P w K mg base (L2.CX P w) 7 C "walk" ["self", "place", "other"] [] (spWalk K C CU) f2 d2
  pap : MCal P w K mg base (L2.CX P w) 8 C "paper" ["self", "hands"] [] (spPap K C CN) f3 d3
  isp : MCal P w K mg base (L2.CX P w) 9 C "is_paper" ["self", "hands", "value"] [] (spIsPap K C CN) f4 d4
  ros : MCal P w K mg base (L2.CX P w) 8 C "are_rosters" ["self", "value", "longest", "rest"] ds (spRos K C CN) f5 d5
  dv : Vals [V.non, V.int 0] ds
  kb2 : KBn K d5 ["self", "value", "longest", "rest"] 2 ["longest", "rest"] (fun us ws => us ++ ws) (fun vs zs => vs ++ zs)
  kb1 : ∃ mv : List Value, KBn K d5 ["self", "value", "longest", "rest"] 2 ["rest"] (fun us ws => us ++ mv ++ ws) (fun vs zs => vs ++ [V.non] ++ zs)
end
end K4
namespace K4
open PySem PySem.Spec PyProof.Rows L2 DW LamX
section
variable {P : Program} {w : World} {K : PySem.W.Frag} {mg : Str → Option Value} {base : Heap}
theorem NeV.run {C : Addr} {H : Hp} {v : V} {b : Bool} {p : Addr} {Q : VK} (h : NeV K C H v b) (hp : H p = some (.tup [])) (q : Q (.bl b) H) : rNeV C K v (.ref p) H Q := by
  rcases h with ⟨d, h1, h2, rfl⟩ | ⟨rfl, h⟩
  · exact .inl ⟨d, .tuple [], h1, .tup (SqT.of hp) .nil, h2, by decide +kernel, q⟩
  · exact .inr ⟨p, [], rfl, hp, h, q⟩
theorem slot_ne {σ : L2.St} {i j : Nat} {v : Option V} {u : V} (h : σ[i]? = some v) (n : i ≠ j) : ((wipe σ [j]).set j (some u))[i]? = some v := by
  simp [wipe, List.getElem?_set, n.symm, h]
theorem slot_eq {σ : L2.St} {j : Nat} {u : V} (h : j < σ.length) : ((wipe σ [j]).set j (some u))[j]? = some (some u) := by
  simp [wipe, h]
theorem numD_nat {n : Nat} (h : n ≤ 1000) : numD (.int (n : Nat)) = true := by
  show (decide ((0 : Int) ≤ (n : Nat)) && decide (((n : Nat) : Int) ≤ 10 ^ 40 - 1)) = true
  rw [Bool.and_eq_true, decide_eq_true_iff, decide_eq_true_iff]
  exact ⟨by omega, by omega⟩
theorem rd_isp {C CN x sl : Addr} {ts : List Tk} {ws : Ws} {vs : List V} {σ : L2.St} {H : Hp} {Q : VK} (h3 : σ[3]? = some (some (.ref x))) (h4 : σ[4]? = some (some (.int (ts.length : Nat)))) (h14 : σ[14]? = some (some (.ref sl))) (hσ : 15 < σ.length)
    (cr : CrewAt K C H x ts ws) (hn : ts.length ≤ 1000) (hsl : H sl = some (.lst vs)) (hl : vs.length ≤ 20) (hv : ∀ v ∈ vs, SomeV K C ts.length H v)
    (k : ∀ D2 H', Same H H' → H' D2 = some (.lst (List.replicate vs.length (V.bl false))) → Q (.ref D2) H') :
    tLc (iList K (tVar 14)) (gName 15) tYes (tMeth C "is_paper" (spIsPap K C CN) [] E0 (tVar 3) (tCons (tVar 4) (tCons (tVar 15) tNil))) [15] σ H Q := by
  refine ⟨_, h14, sl, rfl, ⟨_, SqL.of hsl⟩, fun D2 hD2 => ?_⟩
  refine lc_it (walk_list (K := K) (a := sl) (xs := vs)) (fun i H' => Same H H' ∧ H' D2 = some (.lst (List.replicate i (V.bl false)))) ⟨same_new hD2, upd_same⟩ (fun i H' _ z => SqL.of (z.1 _ _ hsl)) (fun i v H0' H' hi z y => ?_) (fun H' z => k D2 H' z.1 z.2)
  obtain ⟨s4, h5⟩ := z
  obtain ⟨e, hv1⟩ := y
  subst e
  obtain ⟨o, b, o1, o2, pb, nb, rb⟩ := SomeV.same s4 (hv v (List.mem_of_getElem? hv1))
  have cr1 := cr.same s4
  obtain ⟨dx, ta, wa, pa, xs, kt, kp, hi, rest⟩ := id cr1
  refine ⟨by simp [gName, wipe], tyes ⟨_, slot_ne h3 (by decide), x, dx, _, rfl, hi, by rfl, _, slot_ne h4 (by decide), _, slot_eq hσ, ?_⟩⟩
  refine ⟨x, .int (ts.length : Nat), v, .int (ts.length : Nat), o, ts, ws, rfl, cr1, .inl td_int, fit_int, (fun e => ?_), fun _ => ⟨o1, pb, fun H2 s2 => ⟨_, s2 _ _ h5, by rw [List.length_replicate, sizeLine_eq]; omega, fun c oo e => ?_, ?_⟩⟩⟩
  · rw [numD_nat hn] at e
    cases e
  · rw [upd_ne (ne_of_none e hD2)]
    exact s2 _ _ (s4 _ _ e)
  · rw [upd_same, List.replicate_succ']
theorem rd_ros {C CN x sl : Addr} {ts : List Tk} {ws : Ws} {vs : List V} {σ : L2.St} {H : Hp} {Q : VK} (h3 : σ[3]? = some (some (.ref x))) (h4 : σ[4]? = some (some (.int (ts.length : Nat)))) (h14 : σ[14]? = some (some (.ref sl))) (hσ : 15 < σ.length)
    (cr : CrewAt K C H x ts ws) (hsl : H sl = some (.lst vs)) (hl : vs.length ≤ 20) (hv : ∀ v ∈ vs, SomeV K C ts.length H v)
    (k : ∀ D2 H' m, m ≤ vs.length → Same H H' → H' D2 = some (.lst (List.replicate m (V.bl false))) → Q (.ref D2) H') :
    tLc (iList K (tVar 14)) (gName 15) (tOr (tTest (tOp (rNeV C K) (tVar 15) (tTup tNil))) (tTest (tOp (rI0 fun i j => .bl (decide (i > j))) (tVar 4) (tC (.int 0))))) (tMeth C "are_rosters" (spRos K C CN) [V.non, V.int 0] E0 (tVar 3) (tCons (tVar 15) tNil)) [15] σ H Q := by
  refine ⟨_, h14, sl, rfl, ⟨_, SqL.of hsl⟩, fun D2 hD2 => ?_⟩
  refine lc_it (walk_list (K := K) (a := sl) (xs := vs)) (fun i H' => Same H H' ∧ ∃ m, m ≤ i ∧ H' D2 = some (.lst (List.replicate m (V.bl false)))) ⟨same_new hD2, 0, by decide, upd_same⟩ (fun i H' _ z => SqL.of (z.1 _ _ hsl)) (fun i v H0' H' hi z y => ?_) (fun H' z => by
    obtain ⟨s, m, hm, h⟩ := z
    exact k D2 H' m hm s h)
  obtain ⟨s4, m, hm, h5⟩ := z
  obtain ⟨e, hv1⟩ := y
  subst e
  have sv := SomeV.same s4 (hv v (List.mem_of_getElem? hv1))
  refine ⟨by simp [gName, wipe], _, slot_eq hσ, by show 0 ≤ sizeLine; decide, fun p np => ?_⟩
  have sp := same_new (o := .tup []) np
  obtain ⟨o, b, o1, o2, pb, nb, rb⟩ := SomeV.same sp sv
  have cr1 := cr.same (Same.trans s4 sp)
  obtain ⟨dx, ta, wa, pa, xs, kt, kp, hi2, rest⟩ := id cr1
  have done : ∀ (Qk : VK), ((b || decide (0 < ts.length)) = true) → (∀ H2, Same (upd H' p (.tup [])) H2 → Qk (.bl false) H2) → tMeth C "are_rosters" (spRos K C CN) [V.non, V.int 0] E0 (tVar 3) (tCons (tVar 15) tNil) ((wipe σ [15]).set 15 (some v)) (upd H' p (.tup [])) Qk := fun Qk hb kk =>
    ⟨_, slot_ne h3 (by decide), x, dx, _, rfl, hi2, by rfl, _, slot_eq hσ, x, v, .non, .int 0, o, .none, .int 0, ts, ws, rfl, cr1, .inl td_non, fit_none, .inl td_int, fit_int, (fun e => absurd rfl e), fun _ => ⟨(fun e => by cases e), fun _ => ⟨o2, rb hb, kk⟩⟩⟩
  have fin : ∀ H2, Same (upd H' p (.tup [])) H2 → ∃ acc, H2 D2 = some (.lst acc) ∧ acc.length < sizeLine ∧ Same H (upd H2 D2 (.lst (acc ++ [V.bl false]))) ∧ ∃ m, m ≤ i + 1 ∧ upd H2 D2 (.lst (acc ++ [V.bl false])) D2 = some (.lst (List.replicate m (V.bl false))) := fun H2 s2 =>
    ⟨_, s2 _ _ (sp _ _ h5), by rw [List.length_replicate, sizeLine_eq]; omega, fun c oo e => by
      rw [upd_ne (ne_of_none e hD2)]
      exact s2 _ _ (sp _ _ (s4 _ _ e)), m + 1, by omega, by rw [upd_same, List.replicate_succ']⟩
  refine NeV.run nb upd_same ⟨b, rfl, ?_⟩
  cases b with
  | true => exact iteT (iteT (done _ rfl fin))
  | false =>
    refine iteF ⟨_, slot_ne h4 (by decide), _, _, rfl, rfl, _, rfl, ?_⟩
    by_cases h0 : 0 < ts.length
    · rw [show decide (((ts.length : Nat) : Int) > 0) = true from decide_eq_true (by omega)]
      exact iteT (done _ (by rw [decide_eq_true h0]; rfl) fin)
    · rw [show decide (((ts.length : Nat) : Int) > 0) = false from decide_eq_false (by omega)]
      exact iteF ⟨Same.trans s4 sp, m, by omega, sp _ _ h5⟩
theorem rd_isF {tl : Addr} {vs : List V} {σ : L2.St} {H : Hp} {Q : VK} (h9 : σ[9]? = some (some (.ref tl))) (hσ : 16 < σ.length) (hsl : H tl = some (.lst vs)) (hv : ∀ v ∈ vs, v = .bl false) (k : ∀ D2 H', Same H H' → H' D2 = some (.lst []) → Q (.ref D2) H') :
    tLc (iList K (tVar 9)) (gName 16) (tTest (tOp rNotB (tVar 16) (tC (.bl false)))) (tVar 16) [16] σ H Q := by
  refine ⟨_, h9, tl, rfl, ⟨_, SqL.of hsl⟩, fun D2 hD2 => ?_⟩
  refine lc_it (walk_list (K := K) (a := tl) (xs := vs)) (fun i H' => Same H H' ∧ H' D2 = some (.lst [])) ⟨same_new hD2, upd_same⟩ (fun i H' _ z => SqL.of (z.1 _ _ hsl)) (fun i v H0' H' hi z y => ?_) (fun H' z => k D2 H' z.1 z.2)
  obtain ⟨e, hv1⟩ := y
  subst e
  cases hv v (List.mem_of_getElem? hv1)
  exact ⟨by simp [gName, wipe], _, slot_eq hσ, false, false, rfl, rfl, _, rfl, iteF z⟩
end
end K4
namespace K4
open PySem PySem.Spec PyProof.Rows L2 DW LamX
section
variable {P : Program} {w : World} {K : PySem.W.Frag} {mg : Str → Option Value} {base : Heap}
theorem asg_op {r : R2} {ta tb : TE} {g : TG} {D : Ends} {σ : L2.St} {H : Hp} (h : ta σ H fun x H1 => tb σ H1 fun y H2 => r x y H2 fun z H3 => g z σ H3 D.nx) : tAsg (tOp r ta tb) g D σ H := h
theorem ret_op {r : R2} {ta tb : TE} {D : Ends} {σ : L2.St} {H : Hp} (h : ta σ H fun x H1 => tb σ H1 fun y H2 => r x y H2 D.rt) : tRet (tOp r ta tb) D σ H := h
/-- all but the dice and the tables stays, the dice are dice -/
def BD (D : Addr) (H H' : Hp) : Prop := ButN D H H' ∧ Dc H' D
theorem BD.ext {D : Addr} {H H1 H2 : Hp} (b : BD D H H1) (e : ExtN H1 H2) : BD D H H2 := ⟨b.1.trans (DW.ExtN.butN e), Dc.ext e b.2⟩
theorem ok_right {T : List (Addr × Str)} {f fH fR fB fW fI fP f1 f2 f3 f4 f5 c Pt C CD CN CU : Addr} {fd dH dR dB dW dI dP d1 d2 d3 d4 d5 : FuncData} {dv : V} {ds dsR : List Value} (F : Fun K "_law_right" "_law_right" sRight f fd) (tk : TkS K base mg T "_law_right" "_law_right" sRight f c Pt)
    (CH : Cal P w K mg base 3 "_law_hd_drawn" ["dice", "most"] (spDraw K) fH dH) (CR' : Cal P w K mg base 1 "_law_roll" ["dice", "total"] spRoll fR dR) (CB : Cal P w K mg base 3 "_law_bad_tasks" ["dice", "tasks"] (spBad K) fB dB) (W : WordK P w K mg base CD CN CU fW dW) (MK : MakeK P w K mg base C CD fI dI dv ds)
    (CP : Cal P w K mg base 2 "_law_pick" ["dice", "items"] (spPick K) fP dP) (ME : MethsK P w K mg base C CN CU f1 f2 f3 f4 f5 d1 d2 d3 d4 d5 dsR) {fE : Addr} {dE : FuncData} (EQ : FnOk P w K mg base CX0 1 fE dE ["self", "other"] (spNT C)) (hne : PySem.W.findIn K (.ref C) "__ne__" = some (some (.builtin "object.__ne__"))) (heq : PySem.W.findIn K (.ref C) "__eq__" = some (some (.ref fE))) (hfE : PySem.W.isFn K (.ref fE) = true) (hbE : Binds K dE ["self", "other"] []) (hmo : PySem.W.mroIn K C (.type "object") = some true) (ex : ExW K CD CN CU) {t0 : Addr} (edv : dv = .ref t0) (hdv : ∀ H, SqT K H t0 []) (ik : InsK K C) (zL : mg "len" = none) (zRp : mg "repr" = none) : FnG P w K mg base 12 f fd ["dice"] (spRight T) := by
  obtain ⟨ocM, odM, kVM, docM, pmM, anM, cdM, ctM, oslM, edW, lkM, hcdM⟩ := W.F.ex
  refine fngL F scRight (fun vs H Q h => ?_) (fun cdv A outer s H vs Q hlk hr hgu h => ?_)
  · obtain ⟨D, rfl, _⟩ := h
    rfl
  · obtain ⟨oc, od, kV, doc, pm, an, ct, osl, lk⟩ := hlk
    obtain rfl := tk.code _ _ _ _ _ _ _ _ _ lk
    obtain ⟨D, rfl, hD, tb, k⟩ := h
    subst edW
    obtain ⟨mvR, kbR⟩ := ME.kb1
    refine ⟨_, C8.pss_cut (ps_asg (pe_cal (E := E0) CH hr rfl (pa_cons (pv 0) (pa_cons pe_int pa_nil))) (pg_tup rfl (pgs_cons (pg_name (i := 1) scRight.nd rfl (.inr rfl)) (pgs_cons (pg_name (i := 2) scRight.nd rfl (.inl rfl)) pgs_nil))))
      (C8.pss_cut (ps_asg (pe_tup (pa_cons (pe_makeK (E := E0) MK.M MK.G (hr.mono (by decide)) rfl MK.g MK.kb passes0 (pa_cons (pv 1) pa_nil) (pk_cons (pv 2) pk_nil)) (pa_cons (pe_callB call_len_seq (by rfl) zL PySem.boot_len (pa_cons (pv 1) pa_nil)) pa_nil))) (pg_tup rfl (pgs_cons (pg_name (i := 3) scRight.nd rfl (.inr rfl)) (pgs_cons (pg_name (i := 4) scRight.nd rfl (.inr rfl)) pgs_nil))))
      (C8.pss_cut (ps_set (i := 5) scRight.nd rfl (Or.inl rfl) (pe_cal (E := E0) CB hr rfl (pa_cons (pv 0) (pa_cons (pv 1) pa_nil))))
      (C8.pss_cut (ps_if (pt_cmpR (op_neD hr.units) (pe_lc (own := [("value", 15)]) (g := gName 15) (tt := tYes) (te := tMade K T C CD CN CU dv) rfl scRight.nd (pi_list (pv 5)) (blkOk_by (own := [("value", 15)]) (N := nRight) (sc := defScope sRight) (by decide +kernel))
            (fun _ _ _ _ _ => pg_name (i := 15) scRight.nd rfl (Or.inr rfl)) (fun _ _ _ _ _ => pts_nil)
            (fun _ _ _ _ _ => pe_lamcallG (T := T) (Ng := ["call", "error"]) rfl W.g W.kp hgu lkM hcdM W.b scWord rfl (.inl rfl) (word_gives hgu (hr.mono (by decide)) W.hD W.hN W.hU W.TN W.TU W.nN W.nU zRp) tk.tb rfl tk.mem tk.un (hr.mono (by decide)) (lamS_by (by rfl)) rfl (fun _ _ _ _ _ => rfl)
              (fun A outer s H E f c' hr2 hg2 => pe_make (k := 4) MK.M MK.G hr2 rfl MK.g MK.b MK.d (passE (takes_of rfl rfl rfl rfl)) (pa_cons (pv 15) pa_nil))))
          (pe_op op_rep (pe_lst (pa_cons pe_str pa_nil)) (pe_callB call_len_seq (by rfl) zL PySem.boot_len (pa_cons (pv 5) pa_nil))) (nomark _)) (pss_one (ps_ret pe_bl)) pss_nil)
      (C8.pss_cut (ps_set (i := 6) scRight.nd rfl (Or.inl rfl) (pe_lst (pa_cons pe_non (pa_cons pe_int (pa_cons (pe_tup (pa_cons pe_non pa_nil)) (pa_cons (pe_lst pa_nil) (pa_cons (pe_dispT (hu_of hr) (pps_cons (pe_tup (pa_cons pe_str (pa_cons pe_str pa_nil))) pe_int pps_nil) (by rfl) (by rfl) (fun z => by cases z) (by decide)) (pa_cons (pe_dispT (hu_of hr) (pps_cons (pe_tup (pa_cons pe_str pa_nil)) pe_int pps_nil) (by rfl) (by rfl) (fun z => by cases z) (by decide)) (pa_cons (pe_disp (pps_cons pe_str pe_int pps_nil) (by rfl) (by rfl) (fun z => by cases z) (by decide)) (pa_cons (pe_dispT (hu_of hr) (pps_cons (pe_tup (pa_cons pe_str (pa_cons pe_str pa_nil))) pe_int pps_nil) (by rfl) (by rfl) (fun z => by cases z) (by decide)) (pa_cons (pe_dispT (hu_of hr) (pps_cons (pe_tup (pa_cons pe_str (pa_cons pe_str pa_nil))) (pe_un un_neg pe_int) pps_nil) (by rfl) (by rfl) (fun z => by cases z) (by decide)) (pa_cons (pe_dispT (hu_of hr) (pps_cons (pe_tup (pa_cons pe_str (pa_cons pe_str pa_nil))) pe_bl pps_nil) (by rfl) (by rfl) (fun z => by cases z) (by decide)) pa_nil))))))))))))
      (C8.pss_cut (ps_set (i := 6) scRight.nd rfl (Or.inl rfl) (pe_op op_cat (pv 6) (pe_lst (pa_cons (pe_dispT (hu_of hr) (pps_cons (pe_tup (pa_cons pe_str (pa_cons pe_str pa_nil))) (pe_op op_add (pe_op op_powW pe_int pe_int) pe_int) pps_nil) (by rfl) (by rfl) (fun z => by cases z) (by decide)) (pa_cons (pe_dispT (hu_of hr) (pps_cons (pe_tup (pa_cons pe_str (pa_cons pe_str pa_nil))) pe_non pps_nil) (by rfl) (by rfl) (fun z => by cases z) (by decide)) (pa_cons (pe_dispT (hu_of hr) (pps_cons (pe_tup (pa_cons pe_str (pa_cons pe_str pa_nil))) pe_int pps_nil) (by rfl) (by rfl) (fun z => by cases z) (by decide)) (pa_cons (pe_dispT (hu_of hr) (pps_cons (pe_tup (pa_cons pe_str (pa_cons pe_str (pa_cons pe_str pa_nil)))) pe_int pps_nil) (by rfl) (by rfl) (fun z => by cases z) (by decide)) pa_nil)))))))
      (C8.pss_cut (ps_if (pt_cmpR (op_neD hr.units) (pe_lc (own := [("value", 15)]) (g := gName 15) (tt := tYes) (te := tMadeK K T C CD CN CU (tCons (tTup tNil) tNil)) rfl scRight.nd (pi_list (pv 6)) (blkOk_by (own := [("value", 15)]) (N := nRight) (sc := defScope sRight) (by decide +kernel))
            (fun _ _ _ _ _ => pg_name (i := 15) scRight.nd rfl (Or.inr rfl)) (fun _ _ _ _ _ => pts_nil)
            (fun _ _ _ _ _ => pe_lamcallG (T := T) (Ng := ["call", "error"]) rfl W.g W.kp hgu lkM hcdM W.b scWord rfl (.inl rfl) (word_gives hgu (hr.mono (by decide)) W.hD W.hN W.hU W.TN W.TU W.nN W.nU zRp) tk.tb rfl tk.mem tk.un (hr.mono (by decide)) (lamS_by (by rfl)) rfl (fun _ _ _ _ _ => rfl)
              (fun A outer s H E f c' hr2 hg2 => pe_makeK (k := 4) (n := 1) (ks := ["walks"]) MK.M MK.G hr2 rfl MK.g MK.kb (passE (takes_of rfl rfl rfl rfl)) (pa_cons (pe_tup pa_nil) pa_nil) (pk_cons (pv 15) pk_nil))))
          (pe_op op_rep (pe_lst (pa_cons pe_str pa_nil)) (pe_callB call_len_seq (by rfl) zL PySem.boot_len (pa_cons (pv 6) pa_nil))) (nomark _)) (pss_one (ps_ret pe_bl)) pss_nil)
      (C8.pss_cut (ps_set (i := 7) scRight.nd rfl (Or.inl rfl) (pe_op op_add pe_int (pe_cal (E := E0) CR' hr rfl (pa_cons (pv 0) (pa_cons pe_int pa_nil)))))
      (C8.pss_cut (ps_set (i := 8) scRight.nd rfl (Or.inl rfl) (pe_lst (pa_cons (pe_dispT (hu_of hr) (pps_cons (pe_tup (pa_cons pe_str (pa_cons pe_str pa_nil))) (pv 7) pps_nil) (by rfl) (by rfl) (fun z => by cases z) (by decide)) (pa_cons (pe_dispT (hu_of hr) (pps_cons (pe_tup (pa_cons pe_str (pa_cons pe_str pa_nil))) (pv 7) (pps_cons (pe_tup (pa_cons pe_str (pa_cons pe_str pa_nil))) (pv 7) pps_nil)) (by rfl) (by rfl) (fun z => by cases z) (by decide)) (pa_cons (pe_dispT (hu_of hr) (pps_cons (pe_tup (pa_cons pe_str (pa_cons pe_str pa_nil))) (pe_op op_mul pe_int (pv 7)) (pps_cons (pe_tup (pa_cons pe_str (pa_cons pe_str pa_nil))) (pv 7) (pps_cons (pe_tup (pa_cons pe_str (pa_cons pe_str pa_nil))) (pv 7) (pps_cons (pe_tup (pa_cons pe_str (pa_cons pe_str pa_nil))) pe_int (pps_cons (pe_tup (pa_cons pe_str (pa_cons pe_str pa_nil))) pe_int (pps_cons (pe_tup (pa_cons pe_str (pa_cons pe_str pa_nil))) pe_int pps_nil)))))) (by rfl) (by rfl) (fun z => by cases z) (by decide)) pa_nil)))))
      (C8.pss_cut (ps_setLc (i := 9) (own := [("value", 15)]) (g := gName 15) (tt := tYes) (te := tMadeK K T C CD CN CU (tCons (tTup (tCons (tPt 1 "a") (tCons (tPt 1 "b") (tCons (tPt 1 "c") tNil)))) tNil)) rfl scRight.nd rfl rfl (sw_true rfl rfl rfl (by decide +kernel)) (pi_list (pv 8)) (blkOk_by (own := [("value", 15)]) (N := nRight) (sc := defScope sRight) (by decide +kernel))
            (fun _ _ _ _ _ => pg_name (i := 15) scRight.nd rfl (Or.inr rfl)) (fun _ _ _ _ _ => pts_nil)
            (fun _ _ _ _ _ => pe_lamcallG (T := T) (Ng := ["call", "error"]) rfl W.g W.kp hgu lkM hcdM W.b scWord rfl (.inl rfl) (word_gives hgu (hr.mono (by decide)) W.hD W.hN W.hU W.TN W.TU W.nN W.nU zRp) tk.tb rfl tk.mem tk.un (hr.mono (by decide)) (lamS_by (by rfl)) rfl (fun _ _ _ _ _ => rfl)
              (fun A outer s H E f c' hr2 hg2 => pe_makeK (k := 4) (n := 1) (ks := ["walks"]) MK.M MK.G hr2 rfl MK.g MK.kb (passE (takes_of rfl rfl rfl rfl)) (pa_cons (pe_tup (pa_cons (pe_tup (pa_cons pe_int (pa_cons pe_int (pa_cons pe_str pa_nil)))) (pa_cons (pe_tup (pa_cons pe_int (pa_cons pe_int (pa_cons pe_str pa_nil)))) (pa_cons (pe_tup (pa_cons pe_int (pa_cons pe_int (pa_cons pe_str pa_nil)))) pa_nil)))) pa_nil) (pk_cons (pv 15) pk_nil))))
      (C8.pss_cut (ps_set (i := 9) scRight.nd rfl (Or.inl rfl) (pe_op op_cat (pv 9) (pe_lc (own := [("value", 15)]) (g := gName 15) (tt := tYes) (te := tMadeK K T C CD CN CU (tCons (tTup tNil) tNil)) rfl scRight.nd (pi_list (pv 8)) (blkOk_by (own := [("value", 15)]) (N := nRight) (sc := defScope sRight) (by decide +kernel))
            (fun _ _ _ _ _ => pg_name (i := 15) scRight.nd rfl (Or.inr rfl)) (fun _ _ _ _ _ => pts_nil)
            (fun _ _ _ _ _ => pe_lamcallG (T := T) (Ng := ["call", "error"]) rfl W.g W.kp hgu lkM hcdM W.b scWord rfl (.inl rfl) (word_gives hgu (hr.mono (by decide)) W.hD W.hN W.hU W.TN W.TU W.nN W.nU zRp) tk.tb rfl tk.mem tk.un (hr.mono (by decide)) (lamS_by (by rfl)) rfl (fun _ _ _ _ _ => rfl)
              (fun A outer s H E f c' hr2 hg2 => pe_makeK (k := 4) (n := 1) (ks := ["walks"]) MK.M MK.G hr2 rfl MK.g MK.kb (passE (takes_of rfl rfl rfl rfl)) (pa_cons (pe_tup pa_nil) pa_nil) (pk_cons (pv 15) pk_nil))))))
      (C8.pss_cut (ps_if (pt_cmpR (op_neD hr.units) (pv 9) (pe_op op_cat (pe_op op_rep (pe_lst (pa_cons pe_str pa_nil)) pe_int) (pe_lst (pa_cons pe_str (pa_cons pe_str (pa_cons pe_str pa_nil))))) (nomark _)) (pss_one (ps_ret pe_bl)) pss_nil)
      (C8.pss_cut (ps_set (i := 10) scRight.nd rfl (Or.inr rfl) (pe_cal (E := E0) CP hr rfl (pa_cons (pv 0) (pa_cons (pe_lst (pa_cons pe_non (pa_cons pe_bl (pa_cons (pe_un un_neg pe_int) (pa_cons (pv 4) (pa_cons pe_str (pa_cons (pe_tup (pa_cons pe_int pa_nil)) (pa_cons (pe_op op_powW pe_int pe_int) pa_nil)))))))) pa_nil))))
      (C8.pss_cut (ps_set (i := 11) scRight.nd rfl (Or.inr rfl) (pe_cal (E := E0) CP hr rfl (pa_cons (pv 0) (pa_cons (pe_lst (pa_cons pe_non (pa_cons pe_int (pa_cons pe_str (pa_cons pe_str (pa_cons (pe_tup (pa_cons pe_str pa_nil)) (pa_cons (pe_lst pa_nil) (pa_cons pe_bl pa_nil)))))))) pa_nil))))
      (C8.pss_cut (ps_set (i := 12) scRight.nd rfl (Or.inr rfl) (pe_cal (E := E0) CP hr rfl (pa_cons (pv 0) (pa_cons (pe_lst (pa_cons (pe_un un_neg pe_int) (pa_cons pe_bl (pa_cons pe_str (pa_cons (pe_tup (pa_cons pe_int pa_nil)) (pa_cons (pe_op op_powW pe_int pe_int) (pa_cons (pe_lst (pa_cons pe_int pa_nil)) pa_nil))))))) pa_nil))))
      (C8.pss_cut (ps_set (i := 9) scRight.nd rfl (Or.inl rfl) (pe_lst (pa_cons (pe_lamcallG (k := 9) (T := T) (Ng := ["call", "error"]) (TT := TWord K CD CN CU) (t := fun E => tMeth C "can_follow" (spCanF K C CN) [] E (tVar 3) (tCons (tVar 10) (tCons (tC .non) tNil))) rfl W.g W.kp hgu lkM hcdM W.b scWord rfl (.inl rfl) (word_gives hgu (hr.mono (by decide)) W.hD W.hN W.hU W.TN W.TU W.nN W.nU zRp) tk.tb rfl tk.mem tk.un (hr.mono (by decide)) (lamS_by (by rfl)) rfl (fun _ _ _ _ _ => rfl)
              (fun A outer s H E f c' hr2 hg2 => pe_methX (k := 7) (pv 3) ME.k.c ME.can.m ME.can.G (hr2.mono (by decide)) hg2 ME.can.b .nil (passE (takes_of rfl rfl rfl rfl)) (pa_cons (pv 10) (pa_cons pe_non pa_nil)))) (pa_cons (pe_lamcallG (k := 9) (T := T) (Ng := ["call", "error"]) (TT := TWord K CD CN CU) (t := fun E => tMeth C "walk" (spWalk K C CU) [] E (tVar 3) (tCons (tVar 11) (tCons (tC (.int 0)) tNil))) rfl W.g W.kp hgu lkM hcdM W.b scWord rfl (.inl rfl) (word_gives hgu (hr.mono (by decide)) W.hD W.hN W.hU W.TN W.TU W.nN W.nU zRp) tk.tb rfl tk.mem tk.un (hr.mono (by decide)) (lamS_by (by rfl)) rfl (fun _ _ _ _ _ => rfl)
              (fun A outer s H E f c' hr2 hg2 => pe_methX (k := 7) (pv 3) ME.k.c ME.walk.m ME.walk.G (hr2.mono (by decide)) hg2 ME.walk.b .nil (passE (takes_of rfl rfl rfl rfl)) (pa_cons (pv 11) (pa_cons pe_int pa_nil)))) (pa_cons (pe_lamcallG (k := 9) (T := T) (Ng := ["call", "error"]) (TT := TWord K CD CN CU) (t := fun E => tMeth C "paper" (spPap K C CN) [] E (tVar 3) (tCons (tVar 12) tNil)) rfl W.g W.kp hgu lkM hcdM W.b scWord rfl (.inl rfl) (word_gives hgu (hr.mono (by decide)) W.hD W.hN W.hU W.TN W.TU W.nN W.nU zRp) tk.tb rfl tk.mem tk.un (hr.mono (by decide)) (lamS_by (by rfl)) rfl (fun _ _ _ _ _ => rfl)
              (fun A outer s H E f c' hr2 hg2 => pe_methX (k := 8) (pv 3) ME.k.c ME.pap.m ME.pap.G (hr2.mono (by decide)) hg2 ME.pap.b .nil (passE (takes_of rfl rfl rfl rfl)) (pa_cons (pv 12) pa_nil))) pa_nil)))))
      (C8.pss_cut (ps_set (i := 9) scRight.nd rfl (Or.inl rfl) (pe_op op_cat (pv 9) (pe_lst (pa_cons (pe_lamcallG (k := 9) (T := T) (Ng := ["call", "error"]) (TT := TWord K CD CN CU) (t := fun E => tMeth C "is_paper" (spIsPap K C CN) [] E (tVar 3) (tCons (tVar 12) (tCons (tC .non) tNil))) rfl W.g W.kp hgu lkM hcdM W.b scWord rfl (.inl rfl) (word_gives hgu (hr.mono (by decide)) W.hD W.hN W.hU W.TN W.TU W.nN W.nU zRp) tk.tb rfl tk.mem tk.un (hr.mono (by decide)) (lamS_by (by rfl)) rfl (fun _ _ _ _ _ => rfl)
              (fun A outer s H E f c' hr2 hg2 => pe_methX (k := 9) (pv 3) ME.k.c ME.isp.m ME.isp.G (hr2.mono (by decide)) hg2 ME.isp.b .nil (passE (takes_of rfl rfl rfl rfl)) (pa_cons (pv 12) (pa_cons pe_non pa_nil)))) (pa_cons (pe_lamcallG (k := 9) (T := T) (Ng := ["call", "error"]) (TT := TWord K CD CN CU) (t := fun E => tMethN C "are_rosters" 1 2 (spRos K C CN) (fun vs zs => vs ++ zs) E (tVar 3) (tCons (tC .non) tNil) (tCons (tVar 12) (tCons (tUn (rU fun i => .int (-i)) (tC (.int 2))) tNil))) rfl W.g W.kp hgu lkM hcdM W.b scWord rfl (.inl rfl) (word_gives hgu (hr.mono (by decide)) W.hD W.hN W.hU W.TN W.TU W.nN W.nU zRp) tk.tb rfl tk.mem tk.un (hr.mono (by decide)) (lamS_by (by rfl)) rfl (fun _ _ _ _ _ => rfl)
              (fun A outer s H E f c' hr2 hg2 => pe_methXN (k := 8) (n := 1) (ks := ["longest", "rest"]) (pv 3) ME.k.c ME.ros.m ME.ros.G (hr2.mono (by decide)) hg2 ME.kb2 (passE (takes_of rfl rfl rfl rfl)) (pa_cons pe_non pa_nil) (pk_cons (pv 12) (pk_cons (pe_un un_neg pe_int) pk_nil)))) pa_nil)))))
      (C8.pss_cut (ps_set (i := 9) scRight.nd rfl (Or.inl rfl) (pe_op op_cat (pv 9) (pe_lst (pa_cons (pe_lamcallG (k := 9) (T := T) (Ng := ["call", "error"]) (TT := TWord K CD CN CU) (t := fun E => tMethN C "are_rosters" 1 1 (spRos K C CN) (fun vs zs => vs ++ [V.non] ++ zs) E (tVar 3) (tCons (tTup tNil) tNil) (tCons (tVar 12) tNil)) rfl W.g W.kp hgu lkM hcdM W.b scWord rfl (.inl rfl) (word_gives hgu (hr.mono (by decide)) W.hD W.hN W.hU W.TN W.TU W.nN W.nU zRp) tk.tb rfl tk.mem tk.un (hr.mono (by decide)) (lamS_by (by rfl)) rfl (fun _ _ _ _ _ => rfl)
              (fun A outer s H E f c' hr2 hg2 => pe_methXN (k := 8) (n := 1) (ks := ["rest"]) (pv 3) ME.k.c ME.ros.m ME.ros.G (hr2.mono (by decide)) hg2 kbR (passE (takes_of rfl rfl rfl rfl)) (pa_cons (pe_tup pa_nil) pa_nil) (pk_cons (pv 12) pk_nil))) (pa_cons (pe_lamcallG (k := 9) (T := T) (Ng := ["call", "error"]) (TT := TWord K CD CN CU) (t := fun E => tMeth C "paper" (spPap K C CN) [] E (tVar 3) (tCons (tC .non) tNil)) rfl W.g W.kp hgu lkM hcdM W.b scWord rfl (.inl rfl) (word_gives hgu (hr.mono (by decide)) W.hD W.hN W.hU W.TN W.TU W.nN W.nU zRp) tk.tb rfl tk.mem tk.un (hr.mono (by decide)) (lamS_by (by rfl)) rfl (fun _ _ _ _ _ => rfl)
              (fun A outer s H E f c' hr2 hg2 => pe_methX (k := 8) (pv 3) ME.k.c ME.pap.m ME.pap.G (hr2.mono (by decide)) hg2 ME.pap.b .nil (passE (takes_of rfl rfl rfl rfl)) (pa_cons pe_non pa_nil))) (pa_cons (pe_lamcallG (k := 9) (T := T) (Ng := ["call", "error"]) (TT := TWord K CD CN CU) (t := fun E => tMethN C "are_rosters" 1 1 (spRos K C CN) (fun vs zs => vs ++ [V.non] ++ zs) E (tVar 3) (tCons (tTup tNil) tNil) (tCons (tC .non) tNil)) rfl W.g W.kp hgu lkM hcdM W.b scWord rfl (.inl rfl) (word_gives hgu (hr.mono (by decide)) W.hD W.hN W.hU W.TN W.TU W.nN W.nU zRp) tk.tb rfl tk.mem tk.un (hr.mono (by decide)) (lamS_by (by rfl)) rfl (fun _ _ _ _ _ => rfl)
              (fun A outer s H E f c' hr2 hg2 => pe_methXN (k := 8) (n := 1) (ks := ["rest"]) (pv 3) ME.k.c ME.ros.m ME.ros.G (hr2.mono (by decide)) hg2 kbR (passE (takes_of rfl rfl rfl rfl)) (pa_cons (pe_tup pa_nil) pa_nil) (pk_cons pe_non pk_nil))) pa_nil))))))
      (C8.pss_cut (ps_set (i := 13) scRight.nd rfl (Or.inl rfl) (pe_op op_cat (pe_op op_cat (pe_lst (pa_cons (pe_op op_add_str pe_str (pe_callB (call_repr hgu hr.units) (by rfl) zRp (by decide +kernel) (pa_cons (pv 10) pa_nil))) (pa_cons (pe_op op_add_str pe_str (pe_callB (call_repr hgu hr.units) (by rfl) zRp (by decide +kernel) (pa_cons (pv 11) pa_nil))) pa_nil))) (pe_op op_rep (pe_lst (pa_cons (pe_op op_add_str pe_str (pe_callB (call_repr hgu hr.units) (by rfl) zRp (by decide +kernel) (pa_cons (pv 12) pa_nil))) pa_nil)) pe_int)) (pe_op op_rep (pe_lst (pa_cons pe_str pa_nil)) pe_int)))
      (C8.pss_cut (ps_if (pt_cmpR (op_neD hr.units) (pv 9) (pv 13) (nomark _)) (pss_one (ps_ret pe_bl)) pss_nil)
      (C8.pss_cut (ps_if (pt_cmpR op_gt (pv 4) pe_int (nomark _))
          (C8.pss_cut (ps_set (i := 9) scRight.nd rfl (Or.inl rfl) (pe_lst (pa_cons (pe_lamcallG (k := 9) (T := T) (Ng := ["call", "error"]) (TT := TWord K CD CN CU) (t := fun E => tMeth C "can_follow" (spCanF K C CN) [] E (tVar 3) (tCons (tC (.int 0)) (tCons (tVar 10) tNil))) rfl W.g W.kp hgu lkM hcdM W.b scWord rfl (.inl rfl) (word_gives hgu (hr.mono (by decide)) W.hD W.hN W.hU W.TN W.TU W.nN W.nU zRp) tk.tb rfl tk.mem tk.un (hr.mono (by decide)) (lamS_by (by rfl)) rfl (fun _ _ _ _ _ => rfl)
              (fun A outer s H E f c' hr2 hg2 => pe_methX (k := 7) (pv 3) ME.k.c ME.can.m ME.can.G (hr2.mono (by decide)) hg2 ME.can.b .nil (passE (takes_of rfl rfl rfl rfl)) (pa_cons pe_int (pa_cons (pv 10) pa_nil)))) (pa_cons (pe_lamcallG (k := 9) (T := T) (Ng := ["call", "error"]) (TT := TWord K CD CN CU) (t := fun E => tMeth C "walk" (spWalk K C CU) [] E (tVar 3) (tCons (tOp (rIxT K) (tOp (rIxT K) (tVar 1) (tC (.int 0))) (tC (.int 2))) (tCons (tVar 11) tNil))) rfl W.g W.kp hgu lkM hcdM W.b scWord rfl (.inl rfl) (word_gives hgu (hr.mono (by decide)) W.hD W.hN W.hU W.TN W.TU W.nN W.nU zRp) tk.tb rfl tk.mem tk.un (hr.mono (by decide)) (lamS_by (by rfl)) rfl (fun _ _ _ _ _ => rfl)
              (fun A outer s H E f c' hr2 hg2 => pe_methX (k := 7) (pv 3) ME.k.c ME.walk.m ME.walk.G (hr2.mono (by decide)) hg2 ME.walk.b .nil (passE (takes_of rfl rfl rfl rfl)) (pa_cons (pe_ix (r := rIxT K) ix_tup (pe_ix (r := rIxT K) ix_tup (pv 1) pe_int (fun _ _ => rfl)) pe_int (fun _ _ => rfl)) (pa_cons (pv 11) pa_nil)))) pa_nil))))
          (pss_one (ps_if (pt_cmpR (op_neD hr.units) (pv 9) (pe_lst (pa_cons (pe_op op_add_str pe_str (pe_callB (call_repr hgu hr.units) (by rfl) zRp (by decide +kernel) (pa_cons (pv 10) pa_nil))) (pa_cons (pe_op op_add_str pe_str (pe_callB (call_repr hgu hr.units) (by rfl) zRp (by decide +kernel) (pa_cons (pv 11) pa_nil))) pa_nil))) (nomark _)) (pss_one (ps_ret pe_bl)) pss_nil))) pss_nil)
      (C8.pss_cut (ps_set (i := 14) scRight.nd rfl (Or.inl rfl) (pe_lst (pa_cons pe_non (pa_cons pe_int (pa_cons (pe_tup pa_nil) (pa_cons pe_dnewK (pa_cons (pv 1) (pa_cons (pv 2) (pa_cons (pv 3) (pa_cons pe_str (pa_cons (pe_tup (pa_cons pe_str pa_nil)) (pa_cons (pe_tup (pa_cons pe_str (pa_cons pe_non pa_nil))) (pa_cons (pe_tup (pa_cons pe_str (pa_cons pe_non pa_nil))) (pa_cons (pe_tup (pa_cons pe_str (pa_cons (pe_tup (pa_cons (pv 4) pa_nil)) pa_nil))) pa_nil))))))))))))))
      (C8.pss_cut (ps_set (i := 9) scRight.nd rfl (Or.inl rfl) (pe_op op_cat (pe_lc (own := [("value", 15)]) (g := gName 15) (tt := tYes) (te := tMeth C "is_paper" (spIsPap K C CN) [] E0 (tVar 3) (tCons (tVar 4) (tCons (tVar 15) tNil))) rfl scRight.nd (pi_list (pv 14)) (blkOk_by (own := [("value", 15)]) (N := nRight) (sc := defScope sRight) (by decide +kernel))
            (fun _ _ _ _ _ => pg_name (i := 15) scRight.nd rfl (Or.inl rfl)) (fun _ _ _ _ _ => pts_nil) (fun _ _ _ _ _ => pe_methX (k := 9) (pv 3) ME.k.c ME.isp.m ME.isp.G (hr.mono (by decide)) hgu ME.isp.b .nil passes0 (pa_cons (pv 4) (pa_cons (pv 15) pa_nil))))
          (pe_lc (own := [("value", 15)]) (g := gName 15) (tt := tOr (tTest (tOp (rNeV C K) (tVar 15) (tTup tNil))) (tTest (tOp (rI0 fun i j => .bl (decide (i > j))) (tVar 4) (tC (.int 0))))) (te := tMeth C "are_rosters" (spRos K C CN) [V.non, V.int 0] E0 (tVar 3) (tCons (tVar 15) tNil)) rfl scRight.nd (pi_list (pv 14)) (blkOk_by (own := [("value", 15)]) (N := nRight) (sc := defScope sRight) (by decide +kernel))
            (fun _ _ _ _ _ => pg_name (i := 15) scRight.nd rfl (Or.inl rfl)) (fun _ _ _ _ _ => pts_one (PW.pt (pw_or (pt_cmpR (op_neV hr.units EQ (hr.mono (by decide)) hne heq hfE hbE hmo) (pv 15) (pe_tup pa_nil) (nomark _)) (pw_or1 (pt_cmpR op_gt (pv 4) pe_int (nomark _)))))) (fun _ _ _ _ _ => pe_methX (k := 8) (pv 3) ME.k.c ME.ros.m ME.ros.G (hr.mono (by decide)) hgu ME.ros.b ME.dv passes0 (pa_cons (pv 15) pa_nil)))))
      (pss_one (ps_ret (pe_cmpR (op_eqD hr.units) (pe_lc (own := [("one", 16)]) (g := gName 16) (tt := tTest (tOp rNotB (tVar 16) (tC (.bl false)))) (te := tVar 16) rfl scRight.nd (pi_list (pv 9)) (blkOk_by (own := [("one", 16)]) (N := nRight) (sc := defScope sRight) (by decide +kernel))
            (fun _ _ _ _ _ => pg_name (i := 16) scRight.nd rfl (Or.inl rfl)) (fun _ _ _ _ _ => pts_one (pt_cmpR op_notBl (pv 16) pe_bl (nomark _))) (fun _ _ _ _ _ => pv 16)) (pe_lst pa_nil) (nomark _)))))))))))))))))))))))))), ?_⟩
    refine ⟨fun σ' H' => ∃ (ta wa : Addr) (xs : List V) (ts : List Tk) (ws : Ws), σ' = [some (.ref D), some (.ref ta), some (.ref wa), none, none, none, none, none, none, none, none, none, none, none, none, none, none] ∧ But D H H' ∧ Dc H' D ∧ Tabs T H' ∧ H' ta = some (.tup xs) ∧ DpAll K H' xs (ts.map taskOf) ∧ ts.length ≤ 6 ∧ (ts.map taskOf).all taskD = true ∧
        H' wa = some (.dT (tK ws)) ∧ WsOk ws ∧ walksB ws (ts.map fun t => t.2.2) = true ∧ ∀ z ∈ (ts.map fun t => t.2.2) ++ namesW ws, z ∈ S5, ?_, ?_⟩
    · refine ⟨_, rfl, D, rfl, hD, fun p ta wa xs ts ws H' b c hp hta hxs hl hall hwa wok wb hn => ?_⟩
      exact ⟨p, _, rfl, SqT.of hp, rfl, _, _, rfl, _, _, rfl, rfl, ta, wa, xs, ts, ws, rfl, b, c, tabs_but hD b tb, hta, hxs, hl, hall, hwa, wok, wb, hn⟩
    rintro σ1 H1 ⟨ta, wa, xs, ts, ws, rfl, b1, c1, tb1, hta, hxs, hl, hall, hwa, wok, wb, hn⟩
    have l5 : ∀ y ∈ S5, y.length ≤ 1000 := by decide
    have fts : ∀ t ∈ ts, t.2.2.length ≤ 1000 := fun t ht => l5 _ (hn _ (List.mem_append.mpr (.inl (List.mem_map.mpr ⟨t, ht, rfl⟩))))
    refine ⟨fun σ' H' => ∃ (x : Addr), σ' = [some (.ref D), some (.ref ta), some (.ref wa), some (.ref x), some (.int (ts.length : Nat)), none, none, none, none, none, none, none, none, none, none, none, none] ∧ Same H1 H' ∧ CrewAt K C H' x ts ws, ?_, ?_⟩
    · refine ⟨_, rfl, _, rfl, rfl, rfl, fun x dx nx ndx ne => ?_⟩
      have sN : Same H1 (upd (upd H1 dx (.own x)) x (.ins C dx [])) := fun c o e => by rw [upd_ne (ne_of_none e nx), upd_ne (ne_of_none e ndx)]; exact e
      refine ⟨x, dx, .ref ta, .ref wa, .tuple (ts.map taskOf), some ws, rfl, upd_same, .base (.tup (SqT.of (sN _ _ hta)) (DpAll.same sN hxs)) (noDict_tasks ts), fn_tasks (by omega) fts, .inr ⟨wa, rfl, sN _ _ hwa, wok⟩, fun m => ?_, fun ts' ws' e1 e2 _ H2 b2 cr => ⟨rfl, ?_⟩⟩
      · rw [made_eq, hall, places_ts, decide_eq_true (by rw [List.length_map]; omega)] at m
        have m : walksB ws (ts.map fun t => t.2.2) = false := m
        rw [wb] at m
        cases m
      · injection e1 with e1
        cases tasks_inj e1
        cases e2
        have s2 : Same H1 H2 := fun c o e => b2 c o (ne_of_none e nx) (sN c o e)
        refine ⟨_, rfl, ta, xs, rfl, .inr (SqT.of (s2 _ _ hta)), by show 2 ≤ sizeLine; decide, fun p np => ⟨p, _, rfl, SqT.of upd_same, rfl, _, _, rfl, _, _, rfl, rfl, x, ?_, Same.trans s2 (same_new np), cr.same (same_new np)⟩⟩
        rw [DpAll.length hxs, List.length_map]
        rfl
    rintro σ2 H2 ⟨x, rfl, s2, cr2⟩
    have c2 := c1.same s2
    refine ⟨fun σ' H' => ∃ (bl : Addr) (zs : List V), σ' = [some (.ref D), some (.ref ta), some (.ref wa), some (.ref x), some (.int (ts.length : Nat)), some (.ref bl), none, none, none, none, none, none, none, none, none, none, none] ∧ But D H2 H' ∧ Dc H' D ∧ bl ≠ D ∧ H' bl = some (.lst zs) ∧ zs.length ≤ 30 ∧ ∀ z ∈ zs, BadS K D H' z, ?_, ?_⟩
    · exact ⟨_, rfl, _, rfl, D, ta, xs, ts, rfl, c2, SqT.of (s2 _ _ hta), DpAll.same s2 hxs, hl, fts, fun L zs H' nL b c hL lz hz => ⟨L, zs, rfl, b, c, nL, hL, lz, hz⟩⟩
    rintro σ3 H3 ⟨bl, zs, rfl, b3, c3, nbl, hbl, lzs, hzs⟩
    have tb3 := tabs_but c2 b3 (DW.Tabs.same tb1 s2)
    have cr3 := cr2.but c2 b3
    refine ⟨fun σ' H' => σ' = [some (.ref D), some (.ref ta), some (.ref wa), some (.ref x), some (.int (ts.length : Nat)), some (.ref bl), none, none, none, none, none, none, none, none, none, none, none] ∧ ExtN H3 H' ∧ Tabs T H', ?_, ?_⟩
    · refine ⟨_, rfl, bl, rfl, ⟨_, SqL.of hbl⟩, fun D2 hD2 => ?_⟩
      refine lc_it (walk_list (K := K) (a := bl) (xs := zs)) (fun i H' => ExtN H3 H' ∧ Tabs T H' ∧ H' D2 = some (.lst ((List.replicate i ("day" : Str)).map V.str))) ⟨Same.extN (same_new hD2), DW.Tabs.same tb3 (same_new hD2), upd_same⟩ (fun i H' _ z => SqL.of (z.1 _ _ hbl fun _ e => by cases e)) (fun i v H0' H' hi z y => ?_) (fun H' z => ?_)
      · obtain ⟨e4, t4, h4⟩ := z
        obtain ⟨e, hv⟩ := y
        subst e
        obtain ⟨d, hd, hfn, hbad⟩ := hzs v (List.mem_of_getElem? hv)
        refine ⟨rfl, tyes ⟨t4, fun H5 e5 t5 => ⟨_, rfl, fun y dy ny ndy ne => ?_⟩⟩⟩
        have sN : Same H5 (upd (upd H5 dy (.own y)) y (.ins C dy [])) := fun c o e => by rw [upd_ne (ne_of_none e ny), upd_ne (ne_of_none e ndy)]; exact e
        have e35 : ExtN H3 H5 := e4.trans e5
        refine ⟨y, dy, v, dv, d, some [], rfl, upd_same, Dd.same sN (Dd.ext e35 (hd H3 But.refl)), hfn, .inl ⟨rfl, t0, edv, hdv _⟩, fun _ H6 s6 => ⟨true, ex.dd, fun _ => ?_, fun z => by cases z⟩, fun ts' ws' _ e2 m => by rw [hbad] at m; cases m⟩
        have e36 : ExtN H3 H6 := e35.trans (Same.extN (Same.trans sN s6))
        have h6 : H6 D2 = some (.lst ((List.replicate i ("day" : Str)).map V.str)) := Same.trans sN s6 _ _ (e5 _ _ h4 fun _ e => by cases e)
        have t6 := DW.Tabs.same t5 (Same.trans sN s6)
        refine ⟨_, h6, by rw [List.length_map, List.length_replicate, sizeLine_eq]; omega, ext_mut e36 hD2, tabs_lst h6 But.upd t6, ?_⟩
        rw [upd_same, List.replicate_succ', List.map_append]
        rfl
      · obtain ⟨e4, t4, h4⟩ := z
        refine ⟨by show 1 ≤ sizeLine; decide, fun p np => ⟨_, rfl, bl, zs, rfl, .inl (SqL.of (same_new np _ _ (e4 _ _ hbl fun _ e => by cases e))), p, _, _, rfl, rfl, upd_same, by omega, by omega, by rw [sizeLine_eq]; show 1 * _ ≤ _; omega, fun q nq => ?_⟩⟩
        have sN := Same.trans (same_new (o := .lst [V.str "day"]) np) (same_new (o := .lst (List.replicate ((zs.length : Nat) : Int).toNat [V.str "day"]).flatten) nq)
        refine ne_strs (ks := List.replicate zs.length "day") (sN _ _ h4) (by rw [upd_same, Int.toNat_natCast, rep_flat]) (ok_rep (by decide +kernel) _) ⟨_, rfl, iteF ⟨rfl, e4.trans (Same.extN sN), DW.Tabs.same t4 sN⟩⟩
    rintro σ4 H4 ⟨rfl, e4, tb4⟩
    have c4 := Dc.ext e4 c3
    have cr4 := cr3.ext e4
    have vi : ∀ i : Int, (V.int i) = .non ∨ (∃ b, V.int i = .bl b) ∨ ∃ j, V.int i = .int j := fun i => .inr (.inr ⟨i, rfl⟩)
    refine ⟨fun σ' H' => ∃ (ml : Addr) (zs : List V), σ' = [some (.ref D), some (.ref ta), some (.ref wa), some (.ref x), some (.int (ts.length : Nat)), some (.ref bl), some (.ref ml), none, none, none, none, none, none, none, none, none, none] ∧ But D H4 H' ∧ Dc H' D ∧ ml ≠ D ∧ H' ml = some (.lst zs) ∧ zs.length = 10 ∧ ∀ z ∈ zs, BadWS K D H' z, ?_, ?_⟩
    · refine giv_asg (H0 := H4) (R := BadWS K D) (D := D) (n := 10) ?_ BadWS.but (by decide) But.refl c4 fun L vs H' nL b c hL l r => ⟨L, vs, rfl, b, c, nL, hL, l, r⟩
      refine giv_cons BadWS.but (gw_c (d := .none) (fun H => .base .non rfl) (show kitB "NoneType" "dict" = some false by decide +kernel) (fun e => by cases e)) ?_
      refine giv_cons BadWS.but (gw_c (d := .int 0) (fun H => .base (.int _) rfl) (show kitB "int" "dict" = some false by decide +kernel) (fun e => by cases e)) ?_
      refine giv_cons BadWS.but (gw_tup (xs := [.non]) (ds := [.none]) (fun H Q h => h) (by decide) (fun H => .cons .non .nil) rfl (fun e => by cases e)) ?_
      refine giv_cons BadWS.but gw_lst ?_
      refine giv_cons BadWS.but (gw_dict1 (key := ["a", "a"]) (v := .int 1) (fun H Q h => h) (by decide) (fun H Q h => h) (ws1 (by decide) (vi 1)) (by decide +kernel)) ?_
      refine giv_cons BadWS.but (gw_dict1 (key := ["a"]) (v := .int 1) (fun H Q h => h) (by decide) (fun H Q h => h) (ws1 (by decide) (vi 1)) (by decide +kernel)) ?_
      refine giv_cons BadWS.but (gw_disp1 (by decide)) ?_
      refine giv_cons BadWS.but (gw_dict1 (key := ["a", "B"]) (v := .int 1) (fun H Q h => h) (by decide) (fun H Q h => h) (ws1 (by decide) (vi 1)) (by decide +kernel)) ?_
      refine giv_cons BadWS.but (gw_dict1 (key := ["a", "b"]) (v := .int (-1)) (fun H Q h => h) (by decide) (fun H Q h => ⟨1, rfl, h⟩) (ws1 (by decide) (vi (-1))) (by decide +kernel)) ?_
      exact giv_cons BadWS.but (gw_dict1 (key := ["a", "b"]) (v := .bl true) (fun H Q h => h) (by decide) (fun H Q h => h) (ws1 (by decide) (.inr (.inl ⟨true, rfl⟩))) (by decide +kernel)) giv_nil
    rintro σ5 H5 ⟨ml0, zs0, rfl, b5, c5, nml0, hml0, lzs0, hzs0⟩
    have tb5 := tabs_but c4 b5 tb4
    have cr5 := cr4.but c4 b5
    refine ⟨fun σ' H' => ∃ (ml : Addr) (zs : List V), σ' = [some (.ref D), some (.ref ta), some (.ref wa), some (.ref x), some (.int (ts.length : Nat)), some (.ref bl), some (.ref ml), none, none, none, none, none, none, none, none, none, none] ∧ But D H5 H' ∧ Dc H' D ∧ ml ≠ D ∧ H' ml = some (.lst zs) ∧ zs.length = 14 ∧ ∀ z ∈ zs, BadWS K D H' z, ?_, ?_⟩
    · refine giv_cat (H0 := H5) (R := BadWS K D) (D := D) (n := 4) (L := ml0) (zs := zs0) ?_ BadWS.but (by decide) But.refl c5 rfl nml0 hml0 (by omega) hzs0 fun L vs H' nL b c hL l r => ⟨L, vs, rfl, b, c, nL, hL, by omega, r⟩
      refine giv_cons BadWS.but (gw_dict1 (key := ["a", "b"]) (v := .int (10 ^ 30 + 1)) (fun H Q h => h) (by decide) (fun H Q h => ⟨_, _, rfl, rfl, ⟨by decide, by decide +kernel⟩, _, _, rfl, rfl, h⟩) (ws1 (by decide) (vi _)) (by decide +kernel)) ?_
      refine giv_cons BadWS.but (gw_dict1 (key := ["a", "b"]) (v := .non) (fun H Q h => h) (by decide) (fun H Q h => h) (ws1 (by decide) (.inl rfl)) (by decide +kernel)) ?_
      refine giv_cons BadWS.but (gw_dict1 (key := ["a", "dawn"]) (v := .int 1) (fun H Q h => h) (by decide) (fun H Q h => h) (ws1 (by decide) (vi 1)) (by decide +kernel)) ?_
      exact giv_cons BadWS.but (gw_dict1 (key := ["a", "b", "c"]) (v := .int 1) (fun H Q h => h) (by decide) (fun H Q h => h) (ws1 (by decide) (vi 1)) (by decide +kernel)) giv_nil
    rintro σ6 H6 ⟨ml, zs, rfl, b6, c6, nml, hml, lzs2, hzs2⟩
    have tb6 := tabs_but c5 b6 tb5
    have cr6 := cr5.but c5 b6
    refine ⟨fun σ' H' => σ' = [some (.ref D), some (.ref ta), some (.ref wa), some (.ref x), some (.int (ts.length : Nat)), some (.ref bl), some (.ref ml), none, none, none, none, none, none, none, none, none, none] ∧ ExtN H6 H' ∧ Tabs T H', ?_, ?_⟩
    · refine ⟨_, rfl, ml, rfl, ⟨_, SqL.of hml⟩, fun D2 hD2 => ?_⟩
      refine lc_it (walk_list (K := K) (a := ml) (xs := zs)) (fun i H' => ExtN H6 H' ∧ Tabs T H' ∧ H' D2 = some (.lst ((List.replicate i ("day" : Str)).map V.str))) ⟨Same.extN (same_new hD2), DW.Tabs.same tb6 (same_new hD2), upd_same⟩ (fun i H' _ z => SqL.of (z.1 _ _ hml fun _ e => by cases e)) (fun i v H0' H' hi z y => ?_) (fun H' z => ?_)
      · obtain ⟨e4, t4, h4⟩ := z
        obtain ⟨e, hv⟩ := y
        subst e
        obtain ⟨wv, hwv, hbad⟩ := hzs2 v (List.mem_of_getElem? hv)
        refine ⟨rfl, tyes ⟨t4, fun H5 e5 t5 => ⟨by show 0 ≤ sizeLine; decide, fun tp ntp => ⟨_, rfl, rfl, rfl, fun y dy ny ndy ne => ?_⟩⟩⟩⟩
        have sT := same_new (o := .tup []) ntp
        have sN : Same (upd H5 tp (.tup [])) (upd (upd (upd H5 tp (.tup [])) dy (.own y)) y (.ins C dy [])) := fun c o e => by rw [upd_ne (ne_of_none e ny), upd_ne (ne_of_none e ndy)]; exact e
        have e35 : ExtN H6 H5 := e4.trans e5
        have e36 : ExtN H6 (upd (upd (upd H5 tp (.tup [])) dy (.own y)) y (.ins C dy [])) := e35.trans (Same.extN (Same.trans sT sN))
        refine ⟨y, dy, .ref tp, v, .tuple [], wv, rfl, upd_same, .base (.tup (SqT.of (sN _ _ upd_same)) .nil) rfl, fn_tasks (ts := []) (by decide) (fun t ht => by cases ht), WalkV.ext e36 (hwv H6 But.refl), fun _ H7 s7 => ⟨true, ex.dd, fun _ => ?_, fun z => by cases z⟩, fun ts' ws' _ e2 m => by rw [made_eq] at m; have m : walksO wv [] = true := m; rw [hbad] at m; cases m⟩
        have sAll := Same.trans (Same.trans sT sN) s7
        have h7 : H7 D2 = some (.lst ((List.replicate i ("day" : Str)).map V.str)) := sAll _ _ (e5 _ _ h4 fun _ e => by cases e)
        refine ⟨_, h7, by rw [List.length_map, List.length_replicate, sizeLine_eq]; omega, ext_mut (e35.trans (Same.extN sAll)) hD2, tabs_lst h7 But.upd (DW.Tabs.same t5 sAll), ?_⟩
        rw [upd_same, List.replicate_succ', List.map_append]
        rfl
      · obtain ⟨e4, t4, h4⟩ := z
        refine ⟨by show 1 ≤ sizeLine; decide, fun p np => ⟨_, rfl, ml, zs, rfl, .inl (SqL.of (same_new np _ _ (e4 _ _ hml fun _ e => by cases e))), p, _, _, rfl, rfl, upd_same, by omega, by omega, by rw [sizeLine_eq]; show 1 * _ ≤ _; omega, fun q nq => ?_⟩⟩
        have sN := Same.trans (same_new (o := .lst [V.str "day"]) np) (same_new (o := .lst (List.replicate ((zs.length : Nat) : Int).toNat [V.str "day"]).flatten) nq)
        refine ne_strs (ks := List.replicate zs.length "day") (sN _ _ h4) (by rw [upd_same, Int.toNat_natCast, rep_flat]) (ok_rep (by decide +kernel) _) ⟨_, rfl, iteF ⟨rfl, e4.trans (Same.extN sN), DW.Tabs.same t4 sN⟩⟩
    rintro σ7 H7 ⟨rfl, e7, tb7⟩
    have c7 := Dc.ext e7 c6
    have cr7 := cr6.ext e7
    refine ⟨fun σ' H' => ∃ st : Int, σ' = [some (.ref D), some (.ref ta), some (.ref wa), some (.ref x), some (.int (ts.length : Nat)), some (.ref bl), some (.ref ml), some (.int st), none, none, none, none, none, none, none, none, none] ∧ But D H7 H' ∧ Dc H' D ∧ 1 ≤ st ∧ st ≤ 9, ?_, ?_⟩
    · obtain ⟨d0, d1, d2, eD⟩ := id c7
      refine ⟨_, rfl, D, d0, d1, d2, _, rfl, eD, by decide, by decide, fun r e0 e2 r0 r1 => ⟨_, _, rfl, rfl, _, rfl, But.upd, ⟨e0, d1, e2, upd_same⟩, by omega, by omega⟩⟩
    rintro σ8 H8 ⟨st, rfl, b8, c8, st1, st9⟩
    have tb8 := tabs_but c7 b8 tb7
    have cr8 := cr7.but c7 b8
    refine ⟨fun σ' H' => ∃ (ll y1 y2 y3 : Addr), σ' = [some (.ref D), some (.ref ta), some (.ref wa), some (.ref x), some (.int (ts.length : Nat)), some (.ref bl), some (.ref ml), some (.int st), some (.ref ll), none, none, none, none, none, none, none, none] ∧ Same H8 H' ∧ H' ll = some (.lst [.ref y1, .ref y2, .ref y3]) ∧ H' y1 = some (.dT (tK (W1 st))) ∧ H' y2 = some (.dT (tK (W2 st))) ∧ H' y3 = some (.dT (tK (W3 st))), ?_, ?_⟩
    · have g1 : GP [some (.ref D), some (.ref ta), some (.ref wa), some (.ref x), some (.int (ts.length : Nat)), some (.ref bl), some (.ref ml), some (.int st), none, none, none, none, none, none, none, none, none] [(kt2 "a" "b", tVar 7)] (W1 st) := kp (fun H Q h => ⟨_, rfl, h⟩) trivial
      have g2 : GP [some (.ref D), some (.ref ta), some (.ref wa), some (.ref x), some (.int (ts.length : Nat)), some (.ref bl), some (.ref ml), some (.int st), none, none, none, none, none, none, none, none, none] [(kt2 "a" "b", tVar 7), (kt2 "b" "c", tVar 7)] (W2 st) := kp (fun H Q h => ⟨_, rfl, h⟩) (kp (fun H Q h => ⟨_, rfl, h⟩) trivial)
      have g3 : GP [some (.ref D), some (.ref ta), some (.ref wa), some (.ref x), some (.int (ts.length : Nat)), some (.ref bl), some (.ref ml), some (.int st), none, none, none, none, none, none, none, none, none] [(kt2 "a" "c", tOp (rI CMul fun i j => .int (i * j)) (tC (.int 3)) (tVar 7)), (kt2 "a" "b", tVar 7), (kt2 "b" "c", tVar 7), (kt2 "c" "a", tC (.int 0)), (kt2 "b" "a", tC (.int 0)), (kt2 "c" "b", tC (.int 0))] (W3 st) := kp (fun H Q h => ⟨_, rfl, _, _, rfl, rfl, .inl ⟨by decide, by decide⟩, h⟩) (kp (fun H Q h => ⟨_, rfl, h⟩) (kp (fun H Q h => ⟨_, rfl, h⟩) (kp (fun H Q h => h) (kp (fun H Q h => h) (kp (fun H Q h => h) trivial)))))
      refine asg3 ?_
      refine gp_dict g1 (by show 1 ≤ 15; decide) rfl _ _ fun y1 Ha n1 sa h1 => ?_
      refine gp_dict g2 (by show 2 ≤ 15; decide) rfl _ _ fun y2 Hb n2 sb h2 => ?_
      refine gp_dict g3 (by show 6 ≤ 15; decide) rfl _ _ fun y3 Hc n3 sc h3 => ?_
      refine ⟨by show 3 ≤ sizeLine; decide, fun p np => ?_⟩
      exact ⟨p, y1, y2, y3, rfl, Same.trans sa (Same.trans sb (Same.trans sc (same_new np))), upd_same, same_new np _ _ (sc _ _ (sb _ _ h1)), same_new np _ _ (sc _ _ h2), same_new np _ _ h3⟩
    rintro σ9 H9 ⟨ll, y1, y2, y3, rfl, s9, hll, hy1, hy2, hy3⟩
    have tb9 := DW.Tabs.same tb8 s9
    have cr9 := cr8.same s9
    have c9 := c8.same s9
    have wok1 : WsOk (W1 st) := ws1 (by decide) (vi st)
    have wok2 : WsOk (W2 st) := wsOk_of (by show (["a", "b"] :: [["b", "c"]] : List (List Str)).Nodup; decide) (by show ∀ k ∈ ([["a", "b"], ["b", "c"]] : List (List Str)), ∀ z ∈ k, z.length ≤ 1000; decide) (by show ∀ v ∈ [V.int st, V.int st], _; intro v hv; simp at hv; exact hv ▸ vi _) (by show 2 ≤ 100; decide)
    have wok3 : WsOk (W3 st) := wsOk_of (by show ([["a", "c"], ["a", "b"], ["b", "c"], ["c", "a"], ["b", "a"], ["c", "b"]] : List (List Str)).Nodup; decide) (by show ∀ k ∈ ([["a", "c"], ["a", "b"], ["b", "c"], ["c", "a"], ["b", "a"], ["c", "b"]] : List (List Str)), ∀ z ∈ k, z.length ≤ 1000; decide) (by show ∀ v ∈ [V.int (3 * st), V.int st, V.int st, V.int 0, V.int 0, V.int 0], _; intro v hv; simp at hv; rcases hv with h | h | h <;> exact h ▸ vi _) (by show 6 ≤ 100; decide)
    have hz9 : ∀ (i : Nat) (v : V), [V.ref y1, V.ref y2, V.ref y3][i]? = some v → ∃ ws, [W1 st, W2 st, W3 st][i]? = some ws ∧ WalkV K H9 v (some ws) := fun i v hv => by
      match i, hv with
      | 0, hv => cases hv; exact ⟨_, rfl, .inr ⟨_, rfl, hy1, wok1⟩⟩
      | 1, hv => cases hv; exact ⟨_, rfl, .inr ⟨_, rfl, hy2, wok2⟩⟩
      | 2, hv => cases hv; exact ⟨_, rfl, .inr ⟨_, rfl, hy3, wok3⟩⟩
    refine ⟨fun σ' H' => ∃ (tl : Addr), σ' = [some (.ref D), some (.ref ta), some (.ref wa), some (.ref x), some (.int (ts.length : Nat)), some (.ref bl), some (.ref ml), some (.int st), some (.ref ll), some (.ref tl), none, none, none, none, none, none, none] ∧ ExtN H9 H' ∧ Tabs T H' ∧ H' tl = some (.lst ((["day", "day", "day"] : List Str).map V.str)), ?_, ?_⟩
    · refine ⟨_, rfl, ll, rfl, ⟨_, SqL.of hll⟩, fun D2 hD2 => ?_⟩
      refine rd_made (tsk := ptsK) (PL := ["a", "b", "c"]) (Wi := [W1 st, W2 st, W3 st]) ex pts_run pts_made pts_fn (by show 15 < 17; decide) hz9 rfl (by show 3 ≤ 10; decide) hll tb9 hD2 fun H' e t h => ?_
      exact ⟨D2, rfl, e, t, by rw [h, told_abc st1 st9]⟩
    rintro σ10 H10 ⟨tl, rfl, e10, tb10, htl⟩
    have c10 := Dc.ext e10 c9
    have cr10 := cr9.ext e10
    have hll10 := e10 _ _ hll fun _ e => by cases e
    have hz10 : ∀ (i : Nat) (v : V), [V.ref y1, V.ref y2, V.ref y3][i]? = some v → ∃ ws, [W1 st, W2 st, W3 st][i]? = some ws ∧ WalkV K H10 v (some ws) := fun i v hv => by
      obtain ⟨ws, h1, h2⟩ := hz9 i v hv
      exact ⟨ws, h1, WalkV.ext e10 h2⟩
    refine ⟨fun σ' H' => ∃ (tl : Addr), σ' = [some (.ref D), some (.ref ta), some (.ref wa), some (.ref x), some (.int (ts.length : Nat)), some (.ref bl), some (.ref ml), some (.int st), some (.ref ll), some (.ref tl), none, none, none, none, none, none, none] ∧ ExtN H10 H' ∧ Tabs T H' ∧ H' tl = some (.lst ((["day", "day", "day", "fine", "day", "day"] : List Str).map V.str)), ?_, ?_⟩
    · refine ⟨_, rfl, _, rfl, ll, rfl, ⟨_, SqL.of hll10⟩, fun D2 hD2 => ?_⟩
      refine rd_made (tsk := []) (PL := []) (Wi := [W1 st, W2 st, W3 st]) ex non_run non_made (fn_tasks (ts := []) (by decide) (fun t ht => by cases ht)) (by show 15 < 17; decide) hz10 rfl (by show 3 ≤ 10; decide) hll10 tb10 hD2 fun H' e t h => ?_
      have htl' := e _ _ htl fun _ e => by cases e
      rw [told_non st1 st9] at h
      exact ⟨tl, D2, _, _, rfl, rfl, htl', h, by show 3 + 3 ≤ sizeLine; decide, fun q nq => ⟨q, rfl, e.trans (Same.extN (same_new nq)), DW.Tabs.same t (same_new nq), by rw [upd_same]; rfl⟩⟩
    rintro σ11 H11 ⟨tl2, rfl, e11, tb11, htl2⟩
    have c11 := Dc.ext e11 c10
    have cr11 := cr10.ext e11
    refine ⟨fun σ' H' => σ' = [some (.ref D), some (.ref ta), some (.ref wa), some (.ref x), some (.int (ts.length : Nat)), some (.ref bl), some (.ref ml), some (.int st), some (.ref ll), some (.ref tl2), none, none, none, none, none, none, none] ∧ Same H11 H', ?_, ?_⟩
    · refine ⟨_, rfl, by show 1 ≤ sizeLine; decide, fun p np => ⟨p, _, _, rfl, rfl, upd_same, by decide, by decide, by rw [sizeLine_eq]; show 1 * _ ≤ _; decide, fun q nq => ⟨by show 3 ≤ sizeLine; decide, fun r nr => ⟨q, r, _, _, rfl, rfl, same_new nr _ _ upd_same, upd_same, by show 3 + 3 ≤ sizeLine; decide, fun t nt => ?_⟩⟩⟩⟩
      have sN := Same.trans (same_new (o := .lst [V.str "day"]) np) (Same.trans (same_new nq) (Same.trans (same_new nr) (same_new (o := .lst ((List.replicate (Int.toNat 3) [V.str "day"]).flatten ++ [V.str "fine", V.str "day", V.str "day"])) nt)))
      refine ne_strs (ks := (["day", "day", "day", "fine", "day", "day"] : List Str)) (sN _ _ htl2) upd_same (by decide +kernel) ⟨_, rfl, iteF ⟨rfl, sN⟩⟩
    rintro σ12 H12 ⟨rfl, s12⟩
    have tb12 := DW.Tabs.same tb11 s12
    have c12 := c11.same s12
    have cr12 := cr11.same s12
    have pI : ∀ i : Int, (i < 0 ∨ (ts.length : Int) - 1 < i) → betD 0 (ts.length - 1) (.int i) = false := fun i h => by
      show (decide (0 ≤ i) && decide (i ≤ (ts.length : Int) - 1)) = false
      rw [Bool.and_eq_false_iff, decide_eq_false_iff_not, decide_eq_false_iff_not]
      omega
    refine ⟨fun σ' H' => ∃ (u : V), σ' = [some (.ref D), some (.ref ta), some (.ref wa), some (.ref x), some (.int (ts.length : Nat)), some (.ref bl), some (.ref ml), some (.int st), some (.ref ll), some (.ref tl2), some u, none, none, none, none, none, none] ∧ But D H12 H' ∧ Dc H' D ∧ Tel (betD 0 (ts.length - 1)) D H' u, ?_, ?_⟩
    · refine pick_asg (H0 := H12) (R := Tel (betD 0 (ts.length - 1)) D) (n := 7) ?_ Tel.but (by decide) (by decide) But.refl c12 rfl fun u H' b c r => ⟨u, rfl, b, c, r⟩
      refine giv_cons Tel.but (gl_e (v := .non) (d := .none) (fun H Q h => h) (fun _ => td_non) (ts_by (by decide +kernel) (by decide +kernel)) fit_none rfl) ?_
      refine giv_cons Tel.but (gl_e (v := .bl true) (d := .bool true) (fun H Q h => h) (fun _ => td_bl) (ts_by (by decide +kernel) (by decide +kernel)) fit_bool rfl) ?_
      refine giv_cons Tel.but (gl_e (v := .int (-1)) (d := .int (-1)) (fun H Q h => ⟨1, rfl, h⟩) (fun _ => td_int) (ts_by (by decide +kernel) (by decide +kernel)) fit_int (pI _ (.inl (by decide)))) ?_
      refine giv_cons Tel.but (gl_e (v := .int (ts.length : Nat)) (d := .int (ts.length : Nat)) (fun H Q h => ⟨_, rfl, h⟩) (fun _ => td_int) (ts_small hl) fit_int (pI _ (.inr (by omega)))) ?_
      refine giv_cons Tel.but (gl_e (v := .str "0") (d := .str "0") (fun H Q h => h) (fun _ => td_str) (ts_by (by decide +kernel) (by decide +kernel)) (fun z e => by cases e; decide) rfl) ?_
      refine giv_cons Tel.but (gl_tup (v := .int 0) (d := .int 0) (fun _ => td_int) (ts_by (by decide +kernel) (by decide +kernel)) rfl) ?_
      exact giv_cons Tel.but (gl_e (v := .int (10 ^ 39)) (d := .int (10 ^ 39)) (fun H Q h => ⟨_, _, rfl, rfl, ⟨by decide, by decide +kernel⟩, h⟩) (fun _ => td_int) (ts_by (by decide +kernel) (by decide +kernel)) fit_int (pI _ (.inr (by omega)))) giv_nil
    rintro σ13 H13 ⟨ui, rfl, b13, c13, ti13⟩
    have tb13 := tabs_but c12 b13 tb12
    have cr13 := cr12.but c12 b13
    have pN : ∀ z : Str, z ∉ S5 → inS ((ts.map fun t => t.2.2) ++ namesW ws) (.str z) = false := fun z h => decide_eq_false fun m => h (hn _ m)
    refine ⟨fun σ' H' => ∃ (u : V), σ' = [some (.ref D), some (.ref ta), some (.ref wa), some (.ref x), some (.int (ts.length : Nat)), some (.ref bl), some (.ref ml), some (.int st), some (.ref ll), some (.ref tl2), some ui, some u, none, none, none, none, none] ∧ But D H13 H' ∧ Dc H' D ∧ Tel (inS ((ts.map fun t => t.2.2) ++ namesW ws)) D H' u, ?_, ?_⟩
    · refine pick_asg (H0 := H13) (R := Tel (inS ((ts.map fun t => t.2.2) ++ namesW ws)) D) (n := 7) ?_ Tel.but (by decide) (by decide) But.refl c13 rfl fun u H' b c r => ⟨u, rfl, b, c, r⟩
      refine giv_cons Tel.but (gl_e (v := .non) (d := .none) (fun H Q h => h) (fun _ => td_non) (ts_by (by decide +kernel) (by decide +kernel)) fit_none rfl) ?_
      refine giv_cons Tel.but (gl_e (v := .int 0) (d := .int 0) (fun H Q h => h) (fun _ => td_int) (ts_by (by decide +kernel) (by decide +kernel)) fit_int rfl) ?_
      refine giv_cons Tel.but (gl_e (v := .str "zz") (d := .str "zz") (fun H Q h => h) (fun _ => td_str) (ts_by (by decide +kernel) (by decide +kernel)) (fun z e => by cases e; decide) (pN _ (by decide))) ?_
      refine giv_cons Tel.but (gl_e (v := .str "") (d := .str "") (fun H Q h => h) (fun _ => td_str) (ts_by (by decide +kernel) (by decide +kernel)) (fun z e => by cases e; decide) (pN _ (by decide))) ?_
      refine giv_cons Tel.but (gl_tup (v := .str "a") (d := .str "a") (fun _ => td_str) (ts_by (by decide +kernel) (by decide +kernel)) rfl) ?_
      refine giv_cons Tel.but (gl_lst (xs := []) (ds := []) (fun H Q h => h) (by decide) (fun _ => .nil) (ts_by (by decide +kernel) (by decide +kernel)) rfl) ?_
      exact giv_cons Tel.but (gl_e (v := .bl true) (d := .bool true) (fun H Q h => h) (fun _ => td_bl) (ts_by (by decide +kernel) (by decide +kernel)) fit_bool rfl) giv_nil
    rintro σ14 H14 ⟨un, rfl, b14, c14, tn14⟩
    have tb14 := tabs_but c13 b14 tb13
    have cr14 := cr13.but c13 b14
    have ti14 := Tel.but b14 ti13
    refine ⟨fun σ' H' => ∃ (u : V), σ' = [some (.ref D), some (.ref ta), some (.ref wa), some (.ref x), some (.int (ts.length : Nat)), some (.ref bl), some (.ref ml), some (.int st), some (.ref ll), some (.ref tl2), some ui, some un, some u, none, none, none, none] ∧ But D H14 H' ∧ Dc H' D ∧ Tel numN D H' u, ?_, ?_⟩
    · refine pick_asg (H0 := H14) (R := Tel numN D) (n := 6) ?_ Tel.but (by decide) (by decide) But.refl c14 rfl fun u H' b c r => ⟨u, rfl, b, c, r⟩
      refine giv_cons Tel.but (gl_e (v := .int (-1)) (d := .int (-1)) (fun H Q h => ⟨1, rfl, h⟩) (fun _ => td_int) (ts_by (by decide +kernel) (by decide +kernel)) fit_int (by decide +kernel)) ?_
      refine giv_cons Tel.but (gl_e (v := .bl true) (d := .bool true) (fun H Q h => h) (fun _ => td_bl) (ts_by (by decide +kernel) (by decide +kernel)) fit_bool rfl) ?_
      refine giv_cons Tel.but (gl_e (v := .str "1") (d := .str "1") (fun H Q h => h) (fun _ => td_str) (ts_by (by decide +kernel) (by decide +kernel)) (fun z e => by cases e; decide) rfl) ?_
      refine giv_cons Tel.but (gl_tup (v := .int 1) (d := .int 1) (fun _ => td_int) (ts_by (by decide +kernel) (by decide +kernel)) rfl) ?_
      refine giv_cons Tel.but (gl_e (v := .int (10 ^ 40)) (d := .int (10 ^ 40)) (fun H Q h => ⟨_, _, rfl, rfl, ⟨by decide, by decide +kernel⟩, h⟩) (fun _ => td_int) (ts_by (by decide +kernel) (by decide +kernel)) fit_int (by decide +kernel)) ?_
      exact giv_cons Tel.but (gl_lst (xs := [.int 0]) (ds := [.int 0]) (fun H Q h => h) (by decide) (fun _ => .cons td_int .nil) (ts_by (by decide +kernel) (by decide +kernel)) rfl) giv_nil
    rintro σ15 H15 ⟨um, rfl, b15, c15, tm15⟩
    have tb15 := tabs_but c14 b15 tb14
    have cr15 := cr14.but c14 b15
    have ti15 := Tel.but b15 ti14
    have tn15 := Tel.but b15 tn14
    obtain ⟨di, hdi, ⟨tdi, sdi⟩, fdi, pdi⟩ := ti15
    obtain ⟨dn, hdn, ⟨tdn, sdn⟩, fdn, pdn⟩ := tn15
    obtain ⟨dm, hdm, ⟨tdm, sdm⟩, fdm, pdm⟩ := tm15
    obtain ⟨ndm, nndm⟩ := numN_of pdm
    have ok15 : Okw K C x ts ws ui un um di dn dm H15 := ⟨cr15, hdi _ But.refl, hdn _ But.refl, hdm _ But.refl⟩
    refine ⟨fun σ' H' => ∃ tq : Addr, σ' = [some (.ref D), some (.ref ta), some (.ref wa), some (.ref x), some (.int (ts.length : Nat)), some (.ref bl), some (.ref ml), some (.int st), some (.ref ll), some (.ref tq), some ui, some un, some um, none, none, none, none] ∧ ExtN H15 H' ∧ Tabs T H' ∧ H' tq = some (.lst ((["number " ++ di.shown, "name " ++ dn.shown, "number " ++ dm.shown] : List Str).map V.str)), ?_, ?_⟩
    · exact told_asg (Ok := Okw K C x ts ws ui un um di dn dm) (zs := ["number " ++ di.shown, "name " ++ dn.shown, "number " ++ dm.shown]) (gvw_cons Okw.ext (w_canf rfl rfl tdi pdi ex) (gvw_cons Okw.ext (w_walk rfl rfl tdn pdn ex) (gvw_cons Okw.ext (w_pap rfl rfl tdm fdm ndm ex) gvw_nil))) (by show 3 ≤ 100; decide) tb15 ok15 fun p H' e t h => ⟨p, rfl, e, t, h⟩
    rintro σ16 H16 ⟨tl16, rfl, e16, tb16, htl16⟩
    have ok16 := Okw.ext e16 ok15
    refine ⟨fun σ' H' => ∃ tq : Addr, σ' = [some (.ref D), some (.ref ta), some (.ref wa), some (.ref x), some (.int (ts.length : Nat)), some (.ref bl), some (.ref ml), some (.int st), some (.ref ll), some (.ref tq), some ui, some un, some um, none, none, none, none] ∧ ExtN H16 H' ∧ Tabs T H' ∧ H' tq = some (.lst ((["number " ++ di.shown, "name " ++ dn.shown, "number " ++ dm.shown, "number " ++ dm.shown, "number " ++ dm.shown] : List Str).map V.str)), ?_, ?_⟩
    · exact told_cat (Ok := Okw K C x ts ws ui un um di dn dm) (ys := ["number " ++ di.shown, "name " ++ dn.shown, "number " ++ dm.shown]) (zs := ["number " ++ dm.shown, "number " ++ dm.shown]) (gvw_cons Okw.ext (w_isp rfl rfl tdm fdm ndm ex) (gvw_cons Okw.ext (w_ros2 rfl rfl tdm fdm ndm nndm ex) gvw_nil)) rfl htl16 (by show 3 ≤ 100; decide) (by show 2 ≤ 100; decide) tb16 ok16 fun p H' e t h => ⟨p, rfl, e, t, h⟩
    rintro σ17 H17 ⟨tl17, rfl, e17, tb17, htl17⟩
    have ok17 := Okw.ext e17 ok16
    refine ⟨fun σ' H' => ∃ tq : Addr, σ' = [some (.ref D), some (.ref ta), some (.ref wa), some (.ref x), some (.int (ts.length : Nat)), some (.ref bl), some (.ref ml), some (.int st), some (.ref ll), some (.ref tq), some ui, some un, some um, none, none, none, none] ∧ ExtN H17 H' ∧ Tabs T H' ∧ H' tq = some (.lst ((["number " ++ di.shown, "name " ++ dn.shown, "number " ++ dm.shown, "number " ++ dm.shown, "number " ++ dm.shown, "number " ++ dm.shown, "number " ++ PyData.none.shown, "number " ++ PyData.none.shown] : List Str).map V.str)), ?_, ?_⟩
    · exact told_cat (Ok := Okw K C x ts ws ui un um di dn dm) (ys := ["number " ++ di.shown, "name " ++ dn.shown, "number " ++ dm.shown, "number " ++ dm.shown, "number " ++ dm.shown]) (zs := ["number " ++ dm.shown, "number " ++ PyData.none.shown, "number " ++ PyData.none.shown]) (gvw_cons Okw.ext (w_ros1 rfl rfl tdm fdm ndm ex) (gvw_cons Okw.ext (w_pap0 rfl ex) (gvw_cons Okw.ext (w_ros0 rfl ex) gvw_nil))) rfl htl17 (by show 5 ≤ 100; decide) (by show 3 ≤ 100; decide) tb17 ok17 fun p H' e t h => ⟨p, rfl, e, t, h⟩
    rintro σ18 H18 ⟨tl18, rfl, e18, tb18, htl18⟩
    have ok18 := Okw.ext e18 ok17
    have tb18 := tb18
    have lN : ∀ d, Tellable d → ("number " : Str).length + d.shown.length ≤ sizeLine := fun d h => by
      have := h.2.1
      rw [sizeLine_eq, show ("number " : Str).length = 7 by decide +kernel]
      omega
    have lM : ∀ d, Tellable d → ("name " : Str).length + d.shown.length ≤ sizeLine := fun d h => by
      have := h.2.1
      rw [sizeLine_eq, show ("name " : Str).length = 5 by decide +kernel]
      omega
    have lS : ∀ d, Tellable d → d.shown.length ≤ sizeLine := fun d h => by
      have := h.2.1
      rw [sizeLine_eq]
      omega
    refine ⟨fun σ' H' => ∃ du : Addr, σ' = [some (.ref D), some (.ref ta), some (.ref wa), some (.ref x), some (.int (ts.length : Nat)), some (.ref bl), some (.ref ml), some (.int st), some (.ref ll), some (.ref tl18), some ui, some un, some um, some (.ref du), none, none, none] ∧ Same H18 H' ∧ H' du = some (.lst ((["number " ++ di.shown, "name " ++ dn.shown, "number " ++ dm.shown, "number " ++ dm.shown, "number " ++ dm.shown, "number " ++ dm.shown, "number " ++ PyData.none.shown, "number " ++ PyData.none.shown] : List Str).map V.str)), ?_, ?_⟩
    · refine ⟨_, rfl, ui, di, rfl, Cp.dd ok18.i, tdi.1, lS _ tdi, tdi.2.2, _, _, rfl, rfl, lN _ tdi, ?_⟩
      refine ⟨_, rfl, un, dn, rfl, Cp.dd ok18.n, tdn.1, lS _ tdn, tdn.2.2, _, _, rfl, rfl, lM _ tdn, ?_⟩
      refine ⟨by show 2 ≤ sizeLine; decide, fun p0 n0 => ?_⟩
      refine ⟨_, rfl, um, dm, rfl, Cp.dd (Cp.same (same_new n0) ok18.m), tdm.1, lS _ tdm, tdm.2.2, _, _, rfl, rfl, lN _ tdm, ?_⟩
      refine ⟨by show 1 ≤ sizeLine; decide, fun p1 n1 => ⟨p1, _, _, rfl, rfl, upd_same, by decide, by decide, by rw [sizeLine_eq]; show 1 * 4 ≤ _; decide, fun p2 n2 => ?_⟩⟩
      refine ⟨p0, p2, _, _, rfl, rfl, same_new n2 _ _ (same_new n1 _ _ upd_same), upd_same, by show 2 + 4 ≤ sizeLine; decide, fun p3 n3 => ?_⟩
      refine ⟨by show 1 ≤ sizeLine; decide, fun p4 n4 => ⟨p4, _, _, rfl, rfl, upd_same, by decide, by decide, by rw [sizeLine_eq]; show 1 * 2 ≤ _; decide, fun p5 n5 => ?_⟩⟩
      refine ⟨p3, p5, _, _, rfl, rfl, same_new n5 _ _ (same_new n4 _ _ upd_same), upd_same, by show 6 + 2 ≤ sizeLine; decide, fun p6 n6 => ?_⟩
      refine ⟨p6, rfl, Same.trans (same_new n0) (Same.trans (same_new n1) (Same.trans (same_new n2) (Same.trans (same_new n3) (Same.trans (same_new n4) (Same.trans (same_new n5) (same_new n6)))))), ?_⟩
      rw [upd_same, show ("number None" : Str) = "number " ++ PyData.none.shown by decide +kernel]
      rfl
    rintro σ19 H19 ⟨du, rfl, s19, hdu⟩
    have tb19 := DW.Tabs.same tb18 s19
    have ok19 := Okw.ext (Same.extN s19) ok18
    have soN : ∀ d : PyData, PyData.strOk d.shown = true → PyData.strOk (("number " : Str) ++ d.shown) = true := fun d h => so_app (by decide +kernel) h
    have soM : PyData.strOk (("name " : Str) ++ dn.shown) = true := so_app (by decide +kernel) sdn
    have so0 : PyData.strOk (("number " : Str) ++ PyData.none.shown) = true := by decide +kernel
    refine ⟨fun σ' H' => σ' = [some (.ref D), some (.ref ta), some (.ref wa), some (.ref x), some (.int (ts.length : Nat)), some (.ref bl), some (.ref ml), some (.int st), some (.ref ll), some (.ref tl18), some ui, some un, some um, some (.ref du), none, none, none] ∧ H' = H19, ?_, ?_⟩
    · refine ⟨_, rfl, _, rfl, ne_strs (ks := (["number " ++ di.shown, "name " ++ dn.shown, "number " ++ dm.shown, "number " ++ dm.shown, "number " ++ dm.shown, "number " ++ dm.shown, "number " ++ PyData.none.shown, "number " ++ PyData.none.shown] : List Str)) (s19 _ _ htl18) hdu (fun z hz => ?_) ⟨_, rfl, iteF ⟨rfl, rfl⟩⟩⟩
      simp only [List.mem_cons, List.not_mem_nil, or_false] at hz
      rcases hz with rfl | rfl | rfl | rfl | rfl | rfl | rfl | rfl
      · exact soN _ sdi
      · exact soM
      · exact soN _ sdm
      · exact soN _ sdm
      · exact soN _ sdm
      · exact soN _ sdm
      · exact so0
      · exact so0
    rintro σ20 H20 ⟨rfl, rfl⟩
    have ta15 : TasksAt K H15 ta ts := TasksAt.dc c14 b15 (TasksAt.dc c13 b14 (TasksAt.dc c12 b13 (TasksAt.ext (((Same.extN s9).trans e10).trans (e11.trans (Same.extN s12))) (TasksAt.dc c7 b8 (TasksAt.ext e7 (TasksAt.dc c5 b6 (TasksAt.dc c4 b5 (TasksAt.ext e4 (TasksAt.dc c2 b3 (TasksAt.ext (Same.extN s2) ⟨xs, SqT.of hta, hxs⟩))))))))))
    have oy20 := (⟨ok19, TasksAt.ext (((e16.trans e17).trans e18).trans (Same.extN s19)) ta15⟩ : Oky K C x ta ts ws ui un um di dn dm _)
    have bn15 : ButN D H H15 := (((((((((((But.butN b1).trans (DW.ExtN.butN (Same.extN s2))).trans (But.butN b3)).trans (DW.ExtN.butN e4)).trans ((But.butN b5).trans (But.butN b6))).trans (DW.ExtN.butN e7)).trans (But.butN b8)).trans (DW.ExtN.butN (((Same.extN s9).trans e10).trans (e11.trans (Same.extN s12))))).trans (But.butN b13)).trans (But.butN b14)).trans (But.butN b15))
    have bn20 : BD D H _ := ⟨bn15.trans (DW.ExtN.butN (((e16.trans e17).trans e18).trans (Same.extN s19))), Dc.ext (((e16.trans e17).trans e18).trans (Same.extN s19)) c15⟩
    have hw15 : H15 wa = some (.dT (tK ws)) := dT_dc c14 b15 (dT_dc c13 b14 (dT_dc c12 b13 (dT_ext (((Same.extN s9).trans e10).trans (e11.trans (Same.extN s12))) (dT_dc c7 b8 (dT_ext e7 (dT_dc c5 b6 (dT_dc c4 b5 (dT_ext e4 (dT_dc c2 b3 (dT_ext (Same.extN s2) hwa))))))))))
    have hw20 := dT_ext (((e16.trans e17).trans e18).trans (Same.extN s19)) hw15
    refine ⟨fun σ' H' => ∃ t9 : Addr, σ' = [some (.ref D), some (.ref ta), some (.ref wa), some (.ref x), some (.int (ts.length : Nat)), some (.ref bl), some (.ref ml), some (.int st), some (.ref ll), some (.ref t9), some ui, some un, some um, some (.ref du), none, none, none] ∧ Oky K C x ta ts ws ui un um di dn dm H' ∧ Tabs T H' ∧ H' wa = some (.dT (tK ws)) ∧ BD D H H', ?_, ?_⟩
    · refine ⟨_, rfl, _, _, rfl, rfl, ?_⟩
      by_cases h0 : 0 < ts.length
      · refine ⟨true, congrArg V.bl (decide_eq_true (by omega)), iteT ?_⟩
        refine ⟨fun σ' H' => ∃ tq : Addr, σ' = [some (.ref D), some (.ref ta), some (.ref wa), some (.ref x), some (.int (ts.length : Nat)), some (.ref bl), some (.ref ml), some (.int st), some (.ref ll), some (.ref tq), some ui, some un, some um, some (.ref du), none, none, none] ∧ Oky K C x ta ts ws ui un um di dn dm H' ∧ Tabs T H' ∧ H' wa = some (.dT (tK ws)) ∧ BD D H H' ∧ H' tq = some (.lst ((["number " ++ di.shown, "name " ++ dn.shown] : List Str).map V.str)), ?_, ?_⟩
        · exact told_asg (Ok := Oky K C x ta ts ws ui un um di dn dm) (zs := ["number " ++ di.shown, "name " ++ dn.shown]) (gvw_cons Oky.ext (w_canf2 rfl rfl tdi pdi h0 ex) (gvw_cons Oky.ext (w_walk2 rfl rfl rfl tdn pdn h0 ex) gvw_nil)) (by show 2 ≤ 100; decide) tb19 oy20 fun p H' e t h => ⟨p, rfl, Oky.ext e oy20, t, dT_ext e hw20, bn20.ext e, h⟩
        rintro σ21 H21 ⟨tq, rfl, oy21, tb21, hw21, bn21, htq⟩
        refine ⟨_, rfl, _, rfl, ui, di, rfl, Cp.dd oy21.w.i, tdi.1, lS _ tdi, tdi.2.2, _, _, rfl, rfl, lN _ tdi, ?_⟩
        refine ⟨_, rfl, un, dn, rfl, Cp.dd oy21.w.n, tdn.1, lS _ tdn, tdn.2.2, _, _, rfl, rfl, lM _ tdn, ?_⟩
        refine ⟨by show 2 ≤ sizeLine; decide, fun p np => ne_strs (ks := (["number " ++ di.shown, "name " ++ dn.shown] : List Str)) (same_new np _ _ htq) upd_same (fun z hz => ?_) ⟨_, rfl, iteF ⟨tq, rfl, Oky.ext (Same.extN (same_new np)) oy21, DW.Tabs.same tb21 (same_new np), same_new np _ _ hw21, bn21.ext (Same.extN (same_new np))⟩⟩⟩
        simp only [List.mem_cons, List.not_mem_nil, or_false] at hz
        rcases hz with rfl | rfl
        · exact soN _ sdi
        · exact soM
      · exact ⟨false, congrArg V.bl (decide_eq_false (by omega)), iteF ⟨tl18, rfl, oy20, tb19, hw20, bn20⟩⟩
    rintro σ22 H22 ⟨t9, rfl, oy22, tb22, hw22, bn22⟩
    have soS : ∀ y ∈ S5, PyData.strOk y = true := by decide +kernel
    have sts : ∀ t ∈ ts, PyData.strOk t.2.2 = true := fun t ht => soS _ (hn _ (List.mem_append.mpr (.inl (List.mem_map.mpr ⟨t, ht, rfl⟩))))
    have nT : SomeV K C ts.length H22 (.ref ta) := some_t oy22.t rfl (by omega) fts sts
    have nC : SomeV K C ts.length H22 (.ref x) := by
      obtain ⟨dx, ta', wa', pa', xs', kt, kp, hi, rest⟩ := id oy22.w.cr
      exact some_c hi ik
    have nW : SomeV K C ts.length H22 (.ref wa) := some_w hw22
    have cN : ∀ H, SomeV K C ts.length H .non := fun H => some_d (d := .none) .non rfl rfl rfl rfl rfl fun _ => rfl
    have cI : ∀ H, SomeV K C ts.length H (.int 0) := fun H => some_d (d := .int 0) (.int _) rfl rfl rfl rfl rfl fun _ => rfl
    have cS : ∀ H, SomeV K C ts.length H (.str "rosters") := fun H => some_d (d := .str "rosters") (.str _) rfl (by decide) (by decide) (by decide +kernel) rfl fun _ => rfl
    have cb : crowdBad ts.length (.tuple [.int (ts.length : Nat)]) = true := by
      show (!(betD 0 ((ts.length : Int) - 1) (.int (ts.length : Nat)) && true)) = true
      rw [pI _ (.inr (by omega))]
      rfl
    have rb : rosBad ts.length (some (.tuple [.str "crowd", .tuple [.int (ts.length : Nat)]])) = true := by
      show (rowBad ts.length (.str "crowd") && (rowBad ts.length (.tuple [.int (ts.length : Nat)]) && true)) = true
      show (true && ((decide (1 < 1) || !(betD 0 ((ts.length : Int) - 1) (.int (ts.length : Nat)) && true)) && true)) = true
      rw [pI _ (.inr (by omega))]
      rfl
    refine ⟨fun σ' H' => ∃ (sl : Addr) (vs : List V), σ' = [some (.ref D), some (.ref ta), some (.ref wa), some (.ref x), some (.int (ts.length : Nat)), some (.ref bl), some (.ref ml), some (.int st), some (.ref ll), some (.ref t9), some ui, some un, some um, some (.ref du), some (.ref sl), none, none] ∧ Oky K C x ta ts ws ui un um di dn dm H' ∧ Tabs T H' ∧ H' sl = some (.lst vs) ∧ vs.length = 12 ∧ BD D H H' ∧ ∀ v ∈ vs, SomeV K C ts.length H' v, ?_, ?_⟩
    · refine ⟨by show 0 ≤ sizeLine; decide, fun p1 n1 p2 n2 => ⟨_, rfl, _, rfl, _, rfl, by show 1 ≤ sizeLine; decide, fun p3 n3 => ⟨by show 2 ≤ sizeLine; decide, fun p4 n4 => ⟨by show 2 ≤ sizeLine; decide, fun p5 n5 => ⟨_, rfl, by show 1 ≤ sizeLine; decide, fun p6 n6 => ⟨by show 2 ≤ sizeLine; decide, fun p7 n7 => ⟨by show 12 ≤ sizeLine; decide, fun p8 n8 => ?_⟩⟩⟩⟩⟩⟩⟩
      have q8 := same_new (o := .lst [.non, .int 0, .ref p1, .ref p2, .ref ta, .ref wa, .ref x, .str "rosters", .ref p3, .ref p4, .ref p5, .ref p7]) n8
      have q7 := Same.trans (same_new n7) q8
      have q6 := Same.trans (same_new n6) q7
      have q5 := Same.trans (same_new n5) q6
      have q4 := Same.trans (same_new n4) q5
      have q3 := Same.trans (same_new n3) q4
      have q2 := Same.trans (same_new n2) q3
      have q1 := Same.trans (same_new n1) q2
      refine ⟨p8, _, rfl, Oky.ext (Same.extN q1) oy22, DW.Tabs.same tb22 q1, upd_same, rfl, bn22.ext (Same.extN q1), fun v hv => ?_⟩
      simp only [List.mem_cons, List.not_mem_nil, or_false] at hv
      rcases hv with rfl | rfl | rfl | rfl | rfl | rfl | rfl | rfl | rfl | rfl | rfl | rfl
      · exact cN _
      · exact cI _
      · exact some_d (d := .tuple []) (.tup (SqT.of (q2 _ _ upd_same)) .nil) rfl rfl rfl (by decide +kernel) rfl fun h => h
      · exact some_e (q3 _ _ upd_same)
      · exact nT.same q1
      · exact nW.same q1
      · exact nC.same q1
      · exact cS _
      · exact some_d (d := .tuple [.str "crowd"]) (.tup (SqT.of (q4 _ _ upd_same)) (.cons (.str _) .nil)) rfl (by decide) (by decide) (by decide +kernel) rfl fun _ => rfl
      · exact some_d (d := .tuple [.str "rosters", .none]) (.tup (SqT.of (q5 _ _ upd_same)) (.cons (.str _) (.cons .non .nil))) rfl (by decide) (by decide) (by decide +kernel) (pb_ros rfl) fun _ => rfl
      · exact some_d (d := .tuple [.str "crowd", .none]) (.tup (SqT.of (q6 _ _ upd_same)) (.cons (.str _) (.cons .non .nil))) rfl (by decide) (by decide) (by decide +kernel) (pb_cro rfl) fun _ => rfl
      · exact some_d (d := .tuple [.str "crowd", .tuple [.int (ts.length : Nat)]]) (.tup (SqT.of (q8 _ _ upd_same)) (.cons (.str _) (.cons (.tup (SqT.of (q7 _ _ upd_same)) (.cons (.int _) .nil)) .nil))) rfl rfl rfl (sh_two (by decide +kernel)) (pb_cro cb) fun _ => rb
    rintro σ23 H23 ⟨sl, vs, rfl, oy23, tb23, hsl, lvs, bn23, hvs⟩
    refine ⟨fun σ' H' => ∃ (tq : Addr) (zs : List V), σ' = [some (.ref D), some (.ref ta), some (.ref wa), some (.ref x), some (.int (ts.length : Nat)), some (.ref bl), some (.ref ml), some (.int st), some (.ref ll), some (.ref tq), some ui, some un, some um, some (.ref du), some (.ref sl), none, none] ∧ Same H23 H' ∧ H' tq = some (.lst zs) ∧ (∀ z ∈ zs, z = V.bl false), ?_, ?_⟩
    · refine asg_op ?_
      refine rd_isp (K := K) (σ := [some (.ref D), some (.ref ta), some (.ref wa), some (.ref x), some (.int (ts.length : Nat)), some (.ref bl), some (.ref ml), some (.int st), some (.ref ll), some (.ref t9), some ui, some un, some um, some (.ref du), some (.ref sl), none, none]) rfl rfl rfl (by show 15 < 17; decide) oy23.w.cr (by omega) hsl (by omega) hvs fun D2 H2 s2' hD2 => ?_
      refine rd_ros (K := K) (σ := [some (.ref D), some (.ref ta), some (.ref wa), some (.ref x), some (.int (ts.length : Nat)), some (.ref bl), some (.ref ml), some (.int st), some (.ref ll), some (.ref t9), some ui, some un, some um, some (.ref du), some (.ref sl), none, none]) rfl rfl rfl (by show 15 < 17; decide) (oy23.w.cr.same s2') (s2' _ _ hsl) (by omega) (fun v m => (hvs v m).same s2') fun D3 H3' m hm s3' hD3 => ?_
      refine ⟨D2, D3, _, _, rfl, rfl, s3' _ _ hD2, hD3, by rw [List.length_replicate, List.length_replicate, sizeLine_eq]; omega, fun q nq => ⟨q, _, rfl, Same.trans s2' (Same.trans s3' (same_new nq)), upd_same, fun z hz => ?_⟩⟩
      rcases List.mem_append.mp hz with h | h <;> exact (List.mem_replicate.mp h).2
    rintro σ24 H24 ⟨tq, zs2, rfl, s24, htq, hz2⟩
    refine ret_op ?_
    refine rd_isF (K := K) (σ := [some (.ref D), some (.ref ta), some (.ref wa), some (.ref x), some (.int (ts.length : Nat)), some (.ref bl), some (.ref ml), some (.int st), some (.ref ll), some (.ref tq), some ui, some un, some um, some (.ref du), some (.ref sl), none, none]) rfl (by show 16 < 17; decide) htq hz2 fun D2 H2 s2' hD2 => ?_
    refine ⟨by show 0 ≤ sizeLine; decide, fun p np => ⟨.list [], .list [], .lst (SqL.of (same_new np _ _ hD2)) .nil, .lst (SqL.of upd_same) .nil, by decide +kernel, by decide +kernel, ?_⟩⟩
    have sN := Same.trans s24 (Same.trans s2' (same_new (o := .lst []) np))
    exact k _ (bn23.ext (Same.extN sN)).1 (bn23.ext (Same.extN sN)).2 (DW.Tabs.same tb23 sN)
end
end K4
namespace K4
open PySem PySem.Spec PyProof.Rows L2 DW LamX
abbrev sLaw : Stmt := top 45
abbrev lawN : List Str := ["script", "spot", "most", "told", "at"]
theorem scLaw : FnScope lawN ["script"] (defScope sLaw) := ⟨rfl, rfl, rfl, by decide +kernel, rfl, by decide +kernel, by decide +kernel⟩
def spLaw (K : PySem.W.Frag) (T : List (Addr × Str)) : Sp := fun vs H Q _ => ∃ (a : Addr) (ns : List Int), vs = [.ref a] ∧ SqL K H a (ns.map V.int) ∧ ns.length ≤ 1000 ∧ Tabs T H ∧ ∀ H', Q (.bl true) H'
/-- the first i of the chain -/
def chT (i : Nat) : List Tk := (List.range i).map fun (i : Nat) => ((i : Int), (i : Int) + 1, ("a" : Str))
theorem chT_60 : chT 60 = chainT := rfl
theorem chT_succ (i : Nat) : chT (i + 1) = chT i ++ [((i : Int), (i : Int) + 1, ("a" : Str))] := by
  unfold chT
  rw [List.range_succ, List.map_append]
  rfl
def chain61 : List Tk := chainT ++ [((1, 2, "a") : Tk)]
theorem chain_made : madeD (.tuple (chainT.map taskOf)) (some []) = true := by decide +kernel
theorem chain_more : madeD (.tuple (chain61.map taskOf)) (some []) = false := by decide +kernel
theorem chain_fn : Fn 2 (.tuple (chainT.map taskOf)) := fn_tasks (by rw [chain_len]; decide) (by decide)
theorem more_fn : Fn 2 (.tuple (chain61.map taskOf)) := fn_tasks (by decide) (by decide)
section
variable {P : Program} {w : World} {K : PySem.W.Frag} {mg : Str → Option Value} {base : Heap}
theorem dpAll_snoc {H : Hp} : ∀ {vs : List V} {ds : List PyData} {v : V} {d : PyData}, DpAll K H vs ds → Dp K H v d → DpAll K H (vs ++ [v]) (ds ++ [d])
  | _, _, _, _, .nil, h => .cons h .nil
  | _, _, _, _, .cons a b, h => .cons a (dpAll_snoc b h)
abbrev tMk (K : PySem.W.Frag) (C CD : Addr) (dv : V) (E : XK) (te : TE) : TE := tMake C (spMade K C CD) [dv] E (tCons te tNil)
/-- what the first lambda's word is -/
theorem w_most {T : List (Addr × Str)} {C CD CN CU tm : Addr} {dv : V} {t0 : Addr} {σ : L2.St} (h2 : σ[2]? = some (some (.ref tm))) (edv : dv = .ref t0) (hdv : ∀ H, SqT K H t0 []) (ex : ExW K CD CN CU) :
    GivW T (fun H => TasksAt K H tm chainT) σ (tLam T (TWord K CD CN CU) fun E => tMk K C CD dv E (tVar 2)) "fine" := fun H Q t o k => ⟨t, fun H1 e1 t1 => ⟨_, h2, fun y dy ny ndy ne => by
  have sN : Same H1 (upd (upd H1 dy (.own y)) y (.ins C dy [])) := fun c o e => by rw [upd_ne (ne_of_none e ny), upd_ne (ne_of_none e ndy)]; exact e
  obtain ⟨xs, hq, hp⟩ := TasksAt.ext (e1.trans (Same.extN sN)) o
  exact ⟨y, dy, .ref tm, dv, .tuple (chainT.map taskOf), some [], rfl, upd_same, .base (.tup hq hp) (noDict_tasks _), chain_fn, .inl ⟨rfl, t0, edv, hdv _⟩, (fun m => by rw [chain_made] at m; cases m), fun ts' ws' e1' e2' m H7 b7 cr => ⟨rfl, k H7 (e1.trans (Same.extN fun c o e => b7 c o (ne_of_none e ny) (sN _ _ e))) (DW.Tabs.same t1 fun c o e => b7 c o (ne_of_none e ny) (sN _ _ e))⟩⟩⟩⟩
theorem w_more {T : List (Addr × Str)} {C CD CN CU tm : Addr} {dv : V} {t0 : Addr} {σ : L2.St} (h2 : σ[2]? = some (some (.ref tm))) (edv : dv = .ref t0) (hdv : ∀ H, SqT K H t0 []) (ex : ExW K CD CN CU) :
    GivW T (fun H => TasksAt K H tm chainT) σ (tLam T (TWord K CD CN CU) fun E => tMk K C CD dv E (tOp (rCatT K) (tVar 2) (tTup (tCons (tPt 1 "a") tNil)))) "day" := fun H Q t o k => ⟨t, fun H1 e1 t1 => ⟨_, h2, by show 3 ≤ sizeLine; decide, fun p np => ⟨by show 1 ≤ sizeLine; decide, fun q nq => by
  have s1 := same_new (o := .tup [.int 1, .int 2, .str "a"]) np
  have s2 := same_new (o := .tup [.ref p]) nq
  obtain ⟨xs, hq, hp⟩ := TasksAt.ext (e1.trans (Same.extN (Same.trans s1 s2))) o
  have lx : xs.length = 60 := by rw [DpAll.length hp, List.length_map, chain_len]
  refine ⟨tm, q, xs, [.ref p], rfl, rfl, hq, SqT.of upd_same, (fun e => by rw [e] at lx; cases lx), by rw [lx, sizeLine_eq]; show 60 + 1 ≤ 16777216; decide, (fun e => by cases e), fun _ r nr y dy ny ndy ne => ?_⟩
  have s3 := same_new (o := .tup (xs ++ [.ref p])) nr
  have sN := Same.trans s3 (fun c o e => by rw [upd_ne (ne_of_none e ny), upd_ne (ne_of_none e ndy)]; exact e : Same (upd (upd (upd H1 p (.tup [.int 1, .int 2, .str "a"])) q (.tup [.ref p])) r (.tup (xs ++ [.ref p]))) (upd (upd (upd (upd (upd H1 p (.tup [.int 1, .int 2, .str "a"])) q (.tup [.ref p])) r (.tup (xs ++ [.ref p]))) dy (.own y)) y (.ins C dy [])))
  have u1 := sN _ _ (s2 _ _ (upd_same (H := H1) (a := p) (o := .tup [.int 1, .int 2, .str "a"])))
  have u2 := (fun c o e => by rw [upd_ne (ne_of_none e ny), upd_ne (ne_of_none e ndy)]; exact e : Same (upd (upd (upd H1 p (.tup [.int 1, .int 2, .str "a"])) q (.tup [.ref p])) r (.tup (xs ++ [.ref p]))) (upd (upd (upd (upd (upd H1 p (.tup [.int 1, .int 2, .str "a"])) q (.tup [.ref p])) r (.tup (xs ++ [.ref p]))) dy (.own y)) y (.ins C dy []))) r _ upd_same
  have hr := (.tup (SqT.of u2) (by
    show DpAll K _ _ ((chainT ++ [((1, 2, "a") : Tk)]).map taskOf)
    rw [List.map_append]
    exact dpAll_snoc (DpAll.same sN hp) (.tup (SqT.of u1) (.cons (.int _) (.cons (.int _) (.cons (.str _) .nil))))) : Dp K _ (.ref r) (.tuple (chain61.map taskOf)))
  exact ⟨y, dy, .ref r, dv, .tuple (chain61.map taskOf), some [], rfl, upd_same, .base hr (noDict_tasks _), more_fn, .inl ⟨rfl, t0, edv, hdv _⟩, (fun m H7 s7 => ⟨true, ex.dd, fun _ => k H7 (e1.trans (Same.extN (Same.trans s1 (Same.trans s2 (Same.trans sN s7))))) (DW.Tabs.same t1 (Same.trans s1 (Same.trans s2 (Same.trans sN s7)))), fun z => by cases z⟩), fun ts' ws' e1' e2' m => by rw [chain_more] at m; cases m⟩⟩⟩⟩
abbrev tMost (K : PySem.W.Frag) : TE := tCB (fun xs H Q => ∃ p ys, xs = [.ref p] ∧ ((SqL K H p ys ∧ ∀ l, H l = none → Q (.ref l) (upd H l (.tup ys))) ∨ (SqT K H p ys ∧ Q (.ref p) H))) (tCons (tLc (iRng1 (tCons (tC (.int 60)) tNil)) (gName 4) tYes (tTup (tCons (tVar 4) (tCons (tOp (rI0 fun i j => .int (i + j)) (tVar 4) (tC (.int 1))) (tCons (tC (.str "a")) tNil)))) [4]) tNil)
theorem rd_most {σ : L2.St} {H : Hp} {Q : VK} (hσ : 4 < σ.length) (k : ∀ tm H', Same H H' → TasksAt K H' tm chainT → Q (.ref tm) H') : tMost K σ H Q := by
  refine ⟨60, rfl, by decide, by decide, fun D hD => ?_⟩
  refine lc_range (lo := 0) (n := 60) (fun i H' => Same H H' ∧ ∃ vs, H' D = some (.lst vs) ∧ vs.length = i ∧ DpAll K H' vs ((chT i).map taskOf)) ⟨same_new hD, [], upd_same, rfl, .nil⟩ (fun i H' hi z => ?_) (fun H' z => ?_)
  · obtain ⟨s1, vs, h1, lv, h2⟩ := z
    have z0 : (0 : Int) + (i : Nat) = ((i : Nat) : Int) := by omega
    rw [z0]
    refine ⟨by simp [gName, wipe], tyes ⟨_, slot_eq hσ, _, slot_eq hσ, _, _, rfl, rfl, by show 3 ≤ sizeLine; decide, fun p np => ?_⟩⟩
    have s2 := same_new (o := .tup [.int (i : Nat), .int ((i : Nat) + 1), .str "a"]) np
    have nD : D ≠ p := ne_of_none h1 np
    have sD : ∀ (acc : List V) c o, c ≠ D → upd H' p (.tup [.int (i : Nat), .int ((i : Nat) + 1), .str "a"]) c = some o → upd (upd H' p (.tup [.int (i : Nat), .int ((i : Nat) + 1), .str "a"])) D (.lst acc) c = some o := fun acc c o n e => by rw [upd_ne n]; exact e
    refine ⟨vs, s2 _ _ h1, by rw [lv, sizeLine_eq]; omega, fun c o e => sD _ c o (ne_of_none e hD) (s2 _ _ (s1 _ _ e)), _, upd_same, by rw [List.length_append, lv]; rfl, ?_⟩
    rw [chT_succ, List.map_append]
    refine dpAll_snoc (tasks_keepU (fun c o ho e => sD _ c o (fun z => by rw [z, s2 _ _ h1] at e; cases e; cases ho) e) (DpAll.same s2 h2)) (.tup (SqT.of ?_) (.cons (.int _) (.cons (.int _) (.cons (.str _) .nil))))
    exact sD _ _ _ nD.symm upd_same
  · obtain ⟨s1, vs, h1, lv, h2⟩ := z
    refine ⟨D, vs, rfl, .inl ⟨SqL.of h1, fun l nl => k l _ (Same.trans s1 (same_new nl)) ⟨vs, SqT.of upd_same, DpAll.same (same_new nl) h2⟩⟩⟩
theorem asg_te {te : TE} {g : TG} {D : Ends} {σ : L2.St} {H : Hp} (h : te σ H fun x H1 => g x σ H1 D.nx) : tAsg te g D σ H := h
structure CalG (P : Program) (w : World) (K : PySem.W.Frag) (mg : Str → Option Value) (base : Heap) (k : Nat) (x : Str) (ps : List Str) (sp : Sp) (f : Addr) (fd : FuncData) : Prop where
  G : FnG P w K mg base k f fd ps sp
  kp : PySem.W.keepIn K (.ref f) = true
  b : Binds K fd ps []
  g : mg x = some (.ref f)
abbrev cEnd : PyData := .list [.str "fine", .str "day", .int 60, .int 1]
theorem cEnd_tl : Tellable cEnd := tl_by (by decide +kernel)
theorem ok_law {T : List (Addr × Str)} {f fR fD fW fI fF c Pt C CD CN CU : Addr} {fd dR dD dW dI dF : FuncData} {dv : V} {ds : List Value} (F : Fun K "law" "law" sLaw f fd) (tk : TkS K base mg T "law" "law" sLaw f c Pt)
    (CR : CalG P w K mg base 12 "_law_right" ["dice"] (spRight T) fR dR) (CD' : Cal P w K mg base 1 "_law_dice" ["script", "spot"] (spDice K) fD dD) (W : WordK P w K mg base CD CN CU fW dW) (MK : MakeK P w K mg base C CD fI dI dv ds)
    (cC : Cls K C) (mF : Meth K C "fewest" fF) (GF : FnOk P w K mg base CX0 5 fF dF ["self"] (spFewest K C)) (bF : Binds K dF ["self"] []) (ex : ExW K CD CN CU) {t0 : Addr} (edv : dv = .ref t0) (hdv : ∀ H, SqT K H t0 []) (gX : ∃ t, mg "MAX_TASKS" = some (.int 60 t))
    (zL : mg "len" = none) (zM : mg "max" = none) (zN : mg "min" = none) (zR : mg "range" = none) (zP : mg "repr" = none) (zT : mg "tuple" = none) : FnG P w K mg base 13 f fd ["script"] (spLaw K T) := by
  obtain ⟨ocM, odM, kVM, docM, pmM, anM, cdM, ctM, oslM, edW, lkM, hcdM⟩ := W.F.ex
  refine fngL F scLaw (fun vs H Q h => ?_) (fun cdv A outer s H vs Q hlk hr hgu h => ?_)
  · obtain ⟨a, ns, rfl, _⟩ := h
    rfl
  · obtain ⟨oc, od, kV, doc, pm, an, ct, osl, lk⟩ := hlk
    obtain rfl := tk.code _ _ _ _ _ _ _ _ _ lk
    obtain ⟨a, ns, rfl, hS, hlen, tb, k⟩ := h
    subst edW
    obtain ⟨tX, gX⟩ := gX
    refine ⟨_, C8.pss_cut (ps_for PassesOwn.never rfl (pi_range1 rfl zR (pa_cons (pe_callB (call_max2 rfl) (by rfl) zM (by decide +kernel) (pa_cons pe_int (pa_cons (pe_callB (call_min2 rfl) (by rfl) zN (by decide +kernel) (pa_cons pe_int (pa_cons (pe_callB call_len_seq (by rfl) zL PySem.boot_len (pa_cons (pv 0) pa_nil)) pa_nil))) pa_nil))) pa_nil)) (pg_name (i := 1) scLaw.nd rfl (Or.inl rfl))
        (pss_one (ps_if (pt_not (pt_val (pe_g CR.G (hr.mono (by decide)) hgu rfl CR.g CR.kp CR.b (pa_cons (pe_cal (E := E0) CD' hr rfl (pa_cons (pv 0) (pa_cons (pv 1) pa_nil))) pa_nil)))) (pss_one (ps_ret pe_bl)) pss_nil)))
      (C8.pss_cut (ps_set (i := 2) scLaw.nd rfl (Or.inr rfl) (pe_callTy call_tuple_of (by rfl) zT (by decide +kernel) (pa_cons (pe_lc (own := [("at", 4)]) (g := gName 4) (tt := tYes) rfl scLaw.nd (pi_range1 rfl zR (pa_cons pe_int pa_nil)) (blkOk_by (own := [("at", 4)]) (N := lawN) (sc := defScope sLaw) (by decide +kernel))
            (fun _ _ _ _ _ => pg_name (i := 4) scLaw.nd rfl (Or.inl rfl)) (fun _ _ _ _ _ => pts_nil) (fun _ _ _ _ _ => pe_tup (pa_cons (pv 4) (pa_cons (pe_op op_add (pv 4) pe_int) (pa_cons pe_str pa_nil))))) pa_nil)))
      (C8.pss_cut (ps_set (i := 3) scLaw.nd rfl (Or.inl rfl) (pe_lst (pa_cons (pe_lamcallG (k := 9) (T := T) (Ng := ["call", "error"]) (TT := TWord K CD CN CU) (t := fun E => tMk K C CD dv E (tVar 2)) rfl W.g W.kp hgu lkM hcdM W.b scWord rfl (.inl rfl) (word_gives hgu (hr.mono (by decide)) W.hD W.hN W.hU W.TN W.TU W.nN W.nU zP) tk.tb rfl tk.mem tk.un (hr.mono (by decide)) (lamS_by (by rfl)) rfl (fun _ _ _ _ _ => rfl)
              (fun A outer s H E f c' hr2 hg2 => pe_make (k := 4) MK.M MK.G (hr2.mono (by decide)) rfl MK.g MK.b MK.d (passE (takes_of rfl rfl rfl rfl)) (pa_cons (pv 2) pa_nil)))
          (pa_cons (pe_lamcallG (k := 9) (T := T) (Ng := ["call", "error"]) (TT := TWord K CD CN CU) (t := fun E => tMk K C CD dv E (tOp (rCatT K) (tVar 2) (tTup (tCons (tPt 1 "a") tNil)))) rfl W.g W.kp hgu lkM hcdM W.b scWord rfl (.inl rfl) (word_gives hgu (hr.mono (by decide)) W.hD W.hN W.hU W.TN W.TU W.nN W.nU zP) tk.tb rfl tk.mem tk.un (hr.mono (by decide)) (lamS_by (by rfl)) rfl (fun _ _ _ _ _ => rfl)
              (fun A outer s H E f c' hr2 hg2 => pe_make (k := 4) MK.M MK.G (hr2.mono (by decide)) rfl MK.g MK.b MK.d (passE (takes_of rfl rfl rfl rfl)) (pa_cons (pe_op (r := rCatT K) op_catT (pv 2) (pe_tup (pa_cons (pe_tup (pa_cons pe_int (pa_cons pe_int (pa_cons pe_str pa_nil)))) pa_nil))) pa_nil)))
          (pa_cons (pe_glob rfl gX (show RelV (.int 60) (.int 60 tX) from ⟨_, rfl⟩))
          (pa_cons (pe_meth0 (pe_make (E := E0) (k := 4) MK.M MK.G (hr.mono (by decide)) rfl MK.g MK.b MK.d passes0 (pa_cons (pv 2) pa_nil)) cC mF GF (hr.mono (by decide)) bF .nil pass0) pa_nil))))))
      (pss_one (ps_ret (pe_cmpR op_eq (pe_callB (call_repr hgu hr.units) (by rfl) zP (by decide +kernel) (pa_cons (pv 3) pa_nil)) (pe_callB (call_repr hgu hr.units) (by rfl) zP (by decide +kernel) (pa_cons (pe_lst (pa_cons pe_str (pa_cons pe_str (pa_cons pe_int (pa_cons pe_int pa_nil))))) pa_nil)) (nomark _)))))), ?_⟩
    have bd : ∀ j : Int, (if (if j < 8 then j else 8) > 1 then (if j < 8 then j else 8) else 1) ≤ 8 ∧ 1 ≤ (if (if j < 8 then j else 8) > 1 then (if j < 8 then j else 8) else 1) := fun j => by
      split <;> split <;> constructor <;> omega
    refine ⟨fun σ' H' => (∃ x1, σ' = [some (.ref a), x1, none, none, none]) ∧ Tabs T H', ?_, ?_⟩
    · refine ⟨_, rfl, a, _, rfl, .inl hS, _, _, rfl, _, _, rfl, _, rfl, ?_, ?_, ?_⟩
      · have z := (bd ((ns.map V.int).length : Nat)).2
        omega
      · have z := (bd ((ns.map V.int).length : Nat)).1
        omega
      have top8 : (if (if (((ns.map V.int).length : Nat) : Int) < 8 then (((ns.map V.int).length : Nat) : Int) else 8) > 1 then (if (((ns.map V.int).length : Nat) : Int) < 8 then (((ns.map V.int).length : Nat) : Int) else 8) else 1).toNat ≤ 8 := by
        have z := (bd ((ns.map V.int).length : Nat)).1
        omega
      generalize (if (if (((ns.map V.int).length : Nat) : Int) < 8 then (((ns.map V.int).length : Nat) : Int) else 8) > 1 then (if (((ns.map V.int).length : Nat) : Int) < 8 then (((ns.map V.int).length : Nat) : Int) else 8) else 1).toNat = many at top8 ⊢
      refine for_range (lo := 0) (n := many) (fun i σ H' => ExtN H H' ∧ Tabs T H' ∧ ∃ x1, σ = [some (.ref a), x1, none, none, none]) ⟨ExtN.refl H, tb, _, rfl⟩ ?_ ?_
      · rintro i _ H1 hi ⟨e1, t1, x1, rfl⟩
        refine ⟨_, rfl, _, rfl, a, ns, _, rfl, sqL_ext e1 hS, by omega, by omega, fun D d0 d1 nD => ?_⟩
        have s1 := same_new (o := .lst [.int d0, .int d1, .int 0]) nD
        refine ⟨D, rfl, ⟨d0, d1, 0, upd_same⟩, DW.Tabs.same t1 s1, fun H2 b2 c2 t2 => ⟨true, rfl, ?_⟩⟩
        exact iteF ⟨fun b o e n => b2 b o (ne_of_none (e1 b o e n) nD) (s1 _ _ (e1 b o e n)) n, t2, _, rfl⟩
      · rintro _ H1 ⟨_, t1, x1, rfl⟩
        exact ⟨⟨_, rfl⟩, t1⟩
    rintro σ1 H1 ⟨⟨x1, rfl⟩, tb1⟩
    refine ⟨fun σ' H' => ∃ tm : Addr, σ' = [some (.ref a), x1, some (.ref tm), none, none] ∧ Tabs T H' ∧ TasksAt K H' tm chainT, ?_, ?_⟩
    · refine asg_te ?_
      exact rd_most (K := K) (by show 4 < 5; decide) fun tm H' s t => ⟨tm, rfl, DW.Tabs.same tb1 s, t⟩
    rintro σ2 H2 ⟨tm, rfl, tb2, ok2⟩
    refine ⟨fun σ' H' => ∃ tl : Addr, σ' = [some (.ref a), x1, some (.ref tm), some (.ref tl), none] ∧ H' tl = some (.lst [.str "fine", .str "day", .int 60, .int 1]), ?_, ?_⟩
    · refine w_most (σ := [some (.ref a), x1, some (.ref tm), none, none]) rfl edv hdv ex H2 _ tb2 ok2 fun H3 e3 tb3 => ?_
      refine w_more (σ := [some (.ref a), x1, some (.ref tm), none, none]) rfl edv hdv ex H3 _ tb3 (TasksAt.ext e3 ok2) fun H4 e4 tb4 => ?_
      obtain ⟨xs, hq, hp⟩ := TasksAt.ext (e3.trans e4) ok2
      refine ⟨_, rfl, fun y dy ny ndy ne => ?_⟩
      have sN : Same H4 (upd (upd H4 dy (.own y)) y (.ins C dy [])) := fun c o e => by rw [upd_ne (ne_of_none e ny), upd_ne (ne_of_none e ndy)]; exact e
      refine ⟨y, dy, .ref tm, dv, .tuple (chainT.map taskOf), some [], rfl, upd_same, .base (.tup (sqT_ext (Same.extN sN) hq) (DpAll.same sN hp)) (noDict_tasks _), chain_fn, .inl ⟨rfl, t0, edv, hdv _⟩, (fun m => by rw [chain_made] at m; cases m), fun ts' ws' e1' e2' m H7 b7 cr => ⟨rfl, ?_⟩⟩
      injection e1' with e1'
      cases tasks_inj e1'
      cases e2'
      obtain ⟨dx, ta, wa, pa, xs', kt, kp, hi, rest⟩ := id cr
      refine ⟨y, dx, _, rfl, hi, by rfl, y, rfl, cr, fun H8 s8 => ⟨by show 4 ≤ sizeLine; decide, fun p np => ⟨p, rfl, upd_same⟩⟩⟩
    rintro σ3 H3 ⟨tl, rfl, htl⟩
    have dd : ∀ {p : Addr} {H' : Hp}, H' p = some (.lst [.str "fine", .str "day", .int 60, .int 1]) → Dd K H' (.ref p) cEnd := fun h => .base (.lst (SqL.of h) (.cons (.str _) (.cons (.str _) (.cons (.int _) (.cons (.int _) .nil))))) rfl
    have lS : cEnd.shown.length ≤ sizeLine := by
      have := cEnd_tl.2.1
      rw [sizeLine_eq]
      omega
    refine ⟨_, rfl, .ref tl, cEnd, rfl, dd htl, cEnd_tl.1, lS, cEnd_tl.2.2, ?_⟩
    refine ⟨by show 4 ≤ sizeLine; decide, fun p np => ⟨.ref p, cEnd, rfl, dd upd_same, cEnd_tl.1, lS, cEnd_tl.2.2, rfl, ?_⟩⟩
    rw [decide_eq_true rfl]
    exact k _
end
end K4
namespace DW
open PySem PySem.Spec PyProof.Rows L2 LamX
/-! ### the end for a promise that asks for tables, and that no repr is under way -/
section
variable {P : Program} {w : World} {K : PySem.W.Frag} {mg mb : Str → Option Value} {k : Nat} {fa a : Addr} {fd : FuncData} {x : Str} {sp : Sp} {s : Shared} {vs : List Value} {ns : List Int} {cs : List (Addr × Addr)}
abbrev tabO : Obj := { cls := .none, data := .fields #[] }
noncomputable def tabH (K : PySem.W.Frag) (a : Addr) (vs : List Value) (ns : List Int) (cs : List (Addr × Addr)) : Hp := fun b => if b ∈ cs.map (·.2) then some (.tbl #[]) else scrH K a vs ns b
theorem tab_in {b : Addr} (h : b ∈ cs.map (·.2)) : tabH K a vs ns cs b = some (.tbl #[]) := if_pos h
theorem tab_out {b : Addr} (h : b ∉ cs.map (·.2)) : tabH K a vs ns cs b = scrH K a vs ns b := if_neg h
theorem tab_has {b : Addr} {u : HO} (e : tabH K a vs ns cs b = some u) : (b ∈ cs.map (·.2) ∧ u = .tbl #[]) ∨ (b ∉ cs.map (·.2) ∧ scrH K a vs ns b = some u) := by
  by_cases h : b ∈ cs.map (·.2)
  · rw [tab_in h] at e
    exact .inl ⟨h, (Option.some.inj e).symm⟩
  · rw [tab_out h] at e
    exact .inr ⟨h, e⟩
theorem lawGT (KX : K.In s.heap) (hm : s.heap.Ns mainGlobals mg) (hb : s.heap.Ns builtinsNs mb) (hq : ∀ y : Str, y ≠ "__name__" → mb y = bootBuiltins y) (nl : s.heap.NoLimit) (hg : s.gens = #[]) (hT : ∀ p ∈ cs, s.heap.get? p.2 = some tabO) (nT : ∀ p ∈ cs, K.lookup p.2 = none)
    (cd : ∀ p ∈ cs, PySem.W.CodeHd s.heap p.1 p.2) (bmain : ∃ (bm : Addr) (ob : Obj), mg "__builtins__" = some (.ref bm) ∧ bm ≠ builtinsNs ∧ s.heap.get? bm = some ob ∧ ob.cls = .type "module" ∧ ob.dict = some builtinsNs ∧ ob.data = .plain)
    (ha : s.heap.get? a = some (scrO vs)) (hi : IntsAre vs ns) (hl : ns.length ≤ sizeLine) (hr : Room k callerA) (F : ∀ base : Heap, K.In base → (∀ p ∈ cs, TabB base mg p.1 p.2) → FnG P w K mg base k fa fd [x] sp) (hbind : ∀ (t : Shared) (u : Value), BindsTo t fd ⟨[u], []⟩ [(x, u)])
    (hsp : ∀ H : Hp, SqL K H a (ns.map V.int) → (∀ p ∈ cs, H p.2 = some (.tbl #[])) → sp [.ref a] H (fun v _ => v = .bl true) E0) :
    codeAny (model P w) callerA (.call (.ref fa) ⟨[.ref a], []⟩) (fun r s' => r = .ok (.ret (.bool true)) ∧ OldK s.heap s'.heap ∧ s'.os = s.os ∧ AllBare s'.gens) s := by
  have empty : ∀ {b : Addr}, b ∈ cs.map (·.2) → s.heap.get? b = some tabO := fun {b} h => by
    obtain ⟨p, hp, rfl⟩ := List.mem_map.mp h
    exact hT p hp
  have notK : ∀ {b : Addr}, b ∈ cs.map (·.2) → K.lookup b = none := fun {b} h => by
    obtain ⟨p, hp, rfl⟩ := List.mem_map.mp h
    exact nT p hp
  have mem : ∀ p ∈ cs, p.2 ∈ cs.map (·.2) := fun p hp => List.mem_map.mpr ⟨p, hp, rfl⟩
  have aOut : a ∉ cs.map (·.2) := fun h => by
    have z := (empty h).symm.trans ha
    have z' : Data.fields #[] = Data.seq vs.toArray _ := congrArg Obj.data (Option.some.inj z)
    cases z'
  have stay : ∀ {b : Addr} {o : Obj}, s.heap.get? b = some o → tabH K a vs ns cs b = none → (hidT s.heap (tabH K a vs ns cs)).get? b = some o := fun e n => hidT_get e n
  have plain : ∀ {b : Addr} {o : Obj}, s.heap.get? b = some o → o ≠ scrO vs → o ≠ tabO → tabH K a vs ns cs b = none := fun {b o} e n1 n2 => by
    rw [tab_out fun h => n2 (Option.some.inj (e.symm.trans (empty h)))]
    exact scr_out fun z => by
      rw [z.1, ha] at e
      exact n1 (Option.some.inj e).symm
  have byData : ∀ {b : Addr} {o : Obj}, s.heap.get? b = some o → o.data ≠ (scrO vs).data → o.data ≠ .fields #[] → tabH K a vs ns cs b = none := fun e n1 n2 => plain e (fun z => n1 (by rw [z])) fun z => n2 (by rw [z])
  have nsS : ∀ {b : Addr} {m : Str → Option Value}, s.heap.Ns b m → (hidT s.heap (tabH K a vs ns cs)).Ns b m := fun {b m} ⟨o, es, ep, e, d, r⟩ =>
    ⟨o, es, ep, stay e (byData e (fun z => by rw [d] at z; have z' : Data.dict es ep = Data.seq vs.toArray _ := z; cases z') fun z => by rw [d] at z; cases z), d, r⟩
  have KB : K.In (hidT s.heap (tabH K a vs ns cs)) := fun b o e => stay (KX b o e) (by
    rw [tab_out fun h => by rw [notK h] at e; cases e]
    exact scr_out fun z => by rw [z.1, z.2] at e; cases e)
  have md : Mod K mg (hidT s.heap (tabH K a vs ns cs)) := ⟨KB, nsS hm, ⟨mb, nsS hb, hq⟩, let ⟨c, h1, h2⟩ := nl; ⟨c, nsS h1, h2⟩⟩
  have hok : HOk P w (tabH K a vs ns cs) s.heap := fun b u e => by
    rcases tab_has e with ⟨h, rfl⟩ | ⟨h, e'⟩
    · exact empty h
    · obtain ⟨rfl, _, rfl⟩ := scr_in e'
      exact ⟨ha, by rw [List.length_map]; exact hl, vs, _, scr_vals hi, ha⟩
  have ev : Env0 P w K mg (hidT s.heap (tabH K a vs ns cs)) callerA [] s (tabH K a vs ns cs) :=
    ⟨rfl, md, fun b o e => of_hidT e, Nat.le_of_eq (hidT_size _ _), trivial, fun b z => absurd (show b ∈ ([] : List Addr) from z) (by simp), hok, .of_eq hg⟩
  have tabs : ∀ p ∈ cs, TabB (hidT s.heap (tabH K a vs ns cs)) mg p.1 p.2 := fun p hp => by
    refine ⟨?_, ?_, fun z => ?_⟩
    · obtain ⟨o, us, v1, v2, v3, v4, v5, v6, v7, e, c, d, g, rest⟩ := cd p hp
      refine ⟨o, us, v1, v2, v3, v4, v5, v6, v7, stay e (byData e (fun z => by rw [d] at z; have z' : Data.fields us = Data.seq vs.toArray _ := z; cases z') fun z => ?_), c, d, g, rest⟩
      rw [d] at z
      cases z
      simp at g
    · obtain ⟨bm, ob, m1, m2, m3, m4, m5, m6⟩ := bmain
      refine ⟨bm, ob, m1, m2, fun z => ?_, fun z => ?_, stay m3 (byData m3 (fun z => by rw [m6] at z; have z' : Data.plain = Data.seq vs.toArray _ := z; cases z') fun z => by rw [m6] at z; cases z), m4, m5, m6⟩
      · obtain ⟨o, es, ep, e, d, _⟩ := hm
        rw [z, e] at m3
        cases m3
        rw [d] at m6
        cases m6
      · rw [z, hT p hp] at m3
        cases m3
        cases m6
    · obtain ⟨o, es, ep, e, d, _⟩ := hm
      rw [z, hT p hp] at e
      cases e
      cases d
  have seq : SqL K (tabH K a vs ns cs) a (ns.map V.int) := by
    rcases scr_seq (K := K) KX ha hi hl with (z | ⟨o, z⟩) | z
    · exact .inl (.inl (by rw [tab_out aOut]; exact z))
    · exact .inl (.inr ⟨o, by rw [tab_out aOut]; exact z⟩)
    · exact .inr z
  have go := (F _ KB tabs).run callerA [] s (tabH K a vs ns cs) ⟨[.ref a], []⟩ [.ref a] [.ref a] _ hr rfl ev (hbind s (.ref a)) (Paired.cons rfl Paired.nil) (hsp _ seq fun p hp => tab_in (mem p hp))
  refine codeAny_mono go fun r s' h => ?_
  match r, h with
  | .ok (.ret u), ⟨v, H', os, bare, un, ok', rv, q⟩ =>
    cases (show v = V.bl true from q)
    cases (show u = Value.bool true from rv)
    have same : ∀ b o, b ∉ cs.map (·.2) → s.heap.get? b = some o → s'.heap.get? b = some o := fun b o out e => by
      cases z : tabH K a vs ns cs b with
      | none => exact un.keep b o e z (by intro y; exact absurd (show b ∈ ([] : List Addr) from y) (by simp)) (by simp)
      | some u =>
        rcases tab_has z with ⟨h, _⟩ | ⟨_, z'⟩
        · exact absurd h out
        · obtain ⟨rfl, _, rfl⟩ := scr_in z'
          obtain ⟨e1, _⟩ := ok' b _ (un.frzs b (scrO vs) _ z)
          rw [ha] at e
          cases e
          exact e1
    have grown : ∀ p ∈ cs, ∃ more : Array Value, s'.heap.get? p.2 = some { cls := .none, data := .fields more } := fun p hp => by
      obtain ⟨more, z⟩ := un.tbls p.2 #[] (tab_in (mem p hp))
      exact ⟨_, ok' p.2 _ z⟩
    refine ⟨rfl, ⟨fun b o e => ?_, fun b o e => ?_⟩, os, bare⟩
    · by_cases h : b ∈ cs.map (·.2)
      · obtain ⟨p, hp, rfl⟩ := List.mem_map.mp h
        obtain ⟨more, g⟩ := grown p hp
        rw [hT p hp] at e
        cases e
        exact .inr (.inl ⟨((cd p hp).tab (hT p hp)).isCodeTable, rfl, #[], more, rfl, by rw [Array.empty_append]; exact g⟩)
      · exact .inl (same b o h e)
    · by_cases h : b ∈ cs.map (·.2)
      · obtain ⟨p, hp, rfl⟩ := List.mem_map.mp h
        obtain ⟨more, g⟩ := grown p hp
        exact ⟨_, g⟩
      · exact ⟨o, same b o h e⟩
end
/-- what k_head leaves, from such a promise -/
theorem walkGT {l : PySem.W.OpenLaw} {n k : Nat} {q : Program} {loose : List Str} {XP : (Str → Option Value) → Heap → Prop} {YP : World → Heap → Prop} {d : DefRec} {K : Params → PySem.W.Frag} {x : Str} (hn : l.most = some n) (hz : n ≤ sizeLine)
    (hd : d.params.defaults = []) (hr : Room k callerA) (hY : ∀ (w : World) (h : Heap), YP w h → (K w.params).In h)
    (F : ∀ (w : World) (mg : Str → Option Value) (fa : Addr) (h : Heap), YP w h → (K w.params).In h → h.Ns mainGlobals mg → mg d.name = some (.ref fa) →
      ∃ (fd : FuncData) (cs : List (Addr × Addr)) (sp : Sp), (∀ p ∈ cs, h.get? p.2 = some tabO) ∧ (∀ p ∈ cs, (K w.params).lookup p.2 = none) ∧ (∀ p ∈ cs, PySem.W.CodeHd h p.1 p.2) ∧ (∀ (t : Shared) (u : Value), BindsTo t fd ⟨[u], []⟩ [(x, u)]) ∧
        (∀ (H : Hp) (a : Addr) (ns : List Int), ns.length ≤ n → SqL (K w.params) H a (ns.map V.int) → (∀ p ∈ cs, H p.2 = some (.tbl #[])) → sp [.ref a] H (fun v _ => v = .bl true) E0) ∧
        ∀ base : Heap, (K w.params).In base → (∀ p ∈ cs, TabB base mg p.1 p.2) → FnG l.prog w (K w.params) mg base k fa fd [x] sp) :
    PySem.W.WalkO q loose XP YP l.row.toRowW d [] (fun f vs => PySem.call f vs) := by
  refine Att.attach_call hn hd fun w _ s mg mb fa _ _ _ _ a vs ns G Y _ _ _ hmg ho hi hl hg => ?_
  have KX := hY w _ Y
  obtain ⟨fd, cs, sp, hT, nT, cd, hbind, hsp, hF⟩ := F w mg fa _ Y KX G.T.g hmg
  exact lawGT KX G.T.g G.T.b G.T.builtins G.T.nolimit hg hT nT cd G.T.bmain ho hi (Nat.le_trans hl hz) hr hF hbind fun H hS hH => hsp H a ns hl hS hH
end DW
namespace K4
open PySem PySem.Spec PyProof.Rows L2 DW LamX
def exkB (K : PySem.W.Frag) (C : Addr) : Bool :=
  PySem.W.keepIn K (.ref C) && ((PySem.W.clsIn K C).isSome && (PySem.W.hasDictIn K C && (PySem.W.findIn K (.ref C) "__getattribute__" == some (some (.builtin "BaseException.__getattribute__")) &&
  (PySem.W.findIn K (.ref C) "__getattr__" == some none && (PySem.W.findIn K (.ref C) "__setattr__" == some (some (.builtin "object.__setattr__")) &&
  ((PySem.W.findIn K (.ref C) "__str__" == some (some (.builtin "BaseException.__str__")) || PySem.W.findIn K (.ref C) "__str__" == some (some (.builtin "KeyError.__str__"))) &&
  (PySem.W.subIn K (.ref C) (.type "BaseException") == some true && (PySem.W.findIn K (.ref C) "__class__" == some (some (.builtin "object.__class__")) &&
  (PySem.W.specialIn K (.builtin "object.__class__") "__get__" == some (some (.builtin "getset_descriptor.__get__")) && (PySem.W.takesIn K (.builtin "object.__class__") == some true &&
  PySem.W.mroIn K C (.type "object") == some true))))))))))
theorem exk_of {K : PySem.W.Frag} {C : Addr} (h : exkB K C = true) : ExK K C := by
  unfold exkB at h
  simp only [Bool.and_eq_true, Bool.or_eq_true, beq_iff_eq] at h
  obtain ⟨a, b, c, d, e, f, g, i, j, k, l, m⟩ := h
  exact ⟨a, b, c, d, e, f, g, i, j, k, l, m⟩
def plB (K : PySem.W.Frag) (C : Addr) : Bool := PySem.W.excInitIn K C bmV "ValueError.__new__" && (PySem.W.findIn K (.ref C) "__init__" == some (some (.builtin "ValueError.__init__")) && PySem.W.typeIn K (.ref C) == some (.type "type"))
theorem pl_of {K : PySem.W.Frag} {mg : Str → Option Value} {nm : Str} {C : Addr} (e : exkB K C = true) (h : plB K C = true) (g : mg nm = some (.ref C)) : Pl K mg nm C := by
  unfold plB at h
  simp only [Bool.and_eq_true, beq_iff_eq] at h
  exact ⟨exk_of e, g, h.1, h.2.1, h.2.2⟩
def owN (K : PySem.W.Frag) (C fI : Addr) : Bool :=
  exnB K C "RuntimeError.__new__" "RuntimeError" "RuntimeError" && (PySem.W.typeIn K (.ref fI) == some (.type "function") && (PySem.W.findIn K (.ref C) "given" == some none && (PySem.W.excOver K C [.type "RuntimeError", .type "Exception", .type "BaseException", .type "object"] &&
  (PySem.W.takerIn K C "given" == some none && PySem.W.typeIn K (.ref C) == some (.type "type")))))
theorem owN_of {K : PySem.W.Frag} {C fI : Addr} (h : owN K C fI = true) : exnB K C "RuntimeError.__new__" "RuntimeError" "RuntimeError" = true ∧ PySem.W.typeIn K (.ref fI) = some (.type "function") ∧ PySem.W.findIn K (.ref C) "given" = some none ∧
    PySem.W.excOver K C [.type "RuntimeError", .type "Exception", .type "BaseException", .type "object"] = true ∧ PySem.W.takerIn K C "given" = some none ∧ PySem.W.typeIn K (.ref C) = some (.type "type") := by
  unfold owN at h
  simpa only [Bool.and_eq_true, beq_iff_eq] using h
def owU (K : PySem.W.Frag) (C fI : Addr) : Bool :=
  exnB K C "LookupError.__new__" "LookupError" "KeyError" && (PySem.W.typeIn K (.ref fI) == some (.type "function") && (PySem.W.findIn K (.ref C) "wanted" == some none && (PySem.W.excOver K C [.type "KeyError", .type "LookupError", .type "Exception", .type "BaseException", .type "object"] &&
  (PySem.W.takerIn K C "wanted" == some none && PySem.W.typeIn K (.ref C) == some (.type "type")))))
theorem owU_of {K : PySem.W.Frag} {C fI : Addr} (h : owU K C fI = true) : exnB K C "LookupError.__new__" "LookupError" "KeyError" = true ∧ PySem.W.typeIn K (.ref fI) = some (.type "function") ∧ PySem.W.findIn K (.ref C) "wanted" = some none ∧
    PySem.W.excOver K C [.type "KeyError", .type "LookupError", .type "Exception", .type "BaseException", .type "object"] = true ∧ PySem.W.takerIn K C "wanted" = some none ∧ PySem.W.typeIn K (.ref C) = some (.type "type") := by
  unfold owU at h
  simpa only [Bool.and_eq_true, beq_iff_eq] using h
def exwB (K : PySem.W.Frag) (CD CN CU : Addr) : Bool := PySem.W.exmOne K (.ref CD) (.ref CD) == some true && (PySem.W.exmOne K (.ref CN) (.ref CD) == some false && (PySem.W.exmOne K (.ref CN) (.ref CN) == some true && (PySem.W.exmOne K (.ref CU) (.ref CD) == some false &&
  (PySem.W.exmOne K (.ref CU) (.ref CN) == some false && PySem.W.exmOne K (.ref CU) (.ref CU) == some true))))
theorem exw_of {K : PySem.W.Frag} {CD CN CU : Addr} (h : exwB K CD CN CU = true) : ExW K CD CN CU := by
  unfold exwB at h
  simp only [Bool.and_eq_true, beq_iff_eq] at h
  exact ⟨h.1, h.2.1, h.2.2.1, h.2.2.2.1, h.2.2.2.2.1, h.2.2.2.2.2⟩
/-- what is asked of the class Crew -/
def crwB (K : PySem.W.Frag) (C : Addr) : Bool := PySem.W.plainGet K C Str.empty && (PySem.W.hasDictIn K C && (PySem.W.plainOver K C && (PySem.W.findIn K (.ref C) "__setattr__" == some (some (.builtin "object.__setattr__")) &&
  (PySem.W.findIn K (.ref C) "_tasks" == some none && (PySem.W.findIn K (.ref C) "_walks" == some none && (PySem.W.findIn K (.ref C) "_places" == some none && (PySem.W.makesIn K C && (PySem.W.keepIn K (.ref C) &&
  (PySem.W.findIn K (.ref C) "__ne__" == some (some (.builtin "object.__ne__")) && (PySem.W.mroIn K C (.type "object") == some true && (PySem.W.findIn K (.ref C) "__class__" == some (some (.builtin "object.__class__")) &&
  (PySem.W.specialIn K (.builtin "object.__class__") "__get__" == some (some (.builtin "getset_descriptor.__get__")) && (PySem.W.takesIn K (.builtin "object.__class__") == some true && (PySem.W.kitOne K (.ref C) (.type "tuple") == some false &&
  PySem.W.kitOne K (.type "tuple") (.ref C) == some false))))))))))))))
structure CrwK (K : PySem.W.Frag) (C : Addr) : Prop where
  k : CrK K C
  mks : PySem.W.makesIn K C = true
  kp : PySem.W.keepIn K (.ref C) = true
  ne : PySem.W.findIn K (.ref C) "__ne__" = some (some (.builtin "object.__ne__"))
  mo : PySem.W.mroIn K C (.type "object") = some true
  ik : InsK K C
  kt : PySem.W.kitOne K (.type "tuple") (.ref C) = some false
theorem crw_of {K : PySem.W.Frag} {C : Addr} (h : crwB K C = true) : CrwK K C := by
  unfold crwB at h
  simp only [Bool.and_eq_true, beq_iff_eq] at h
  obtain ⟨a1, a2, a3, a4, a5, a6, a7, a8, a9, b1, b2, b3, b4, b5, b6, b7⟩ := h
  exact ⟨⟨⟨a1, a2, a3, a4⟩, a5, a6, a7⟩, a8, a9, b1, b2, ⟨fun e => .ins e ⟨a1, a2, a3, a4⟩ b3 b4 b5 b2, b6⟩, b7⟩
theorem two_all {α : Type} {x y : α} {R : α → Prop} (a : R x) (b : R y) : ∀ p ∈ [x, y], R p := fun p hp => by
  rcases List.mem_cons.mp hp with rfl | hp
  · exact a
  rcases List.mem_cons.mp hp with rfl | hp
  · exact b
  · cases hp
theorem un_two {a b : Addr} {x y : Str} (ne : a ≠ b) : (∀ p ∈ [(a, x), (b, y)], p.1 = a → p.2 = x) ∧ (∀ p ∈ [(a, x), (b, y)], p.1 = b → p.2 = y) :=
  ⟨two_all (R := fun p : Addr × Str => p.1 = a → p.2 = x) (fun _ => rfl) (fun z => absurd z.symm ne), two_all (R := fun p : Addr × Str => p.1 = b → p.2 = y) (fun z => absurd z ne) (fun _ => rfl)⟩
theorem code_is {K : PySem.W.Frag} {f c : Addr} {x x' q q' : Str} {ar ar' : Arguments} {bd bd' : List Stmt} {sc sc' : Scope} {oc oc' cdv ct ct' dV dV' kV kV' doc doc' pm pm' : Value} {od od' an an' : Option Addr} {osl osl' : Array (Option Value)}
    (h1 : K.lookup f = some ⟨oc, od, .func (PySem.W.fnOf x q ar bd sc dV kV doc pm an cdv ct), osl⟩) (h2 : K.lookup f = some ⟨oc', od', .func (PySem.W.fnOf x' q' ar' bd' sc' dV' kV' doc' pm' an' (.ref c) ct'), osl'⟩) : cdv = .ref c := by
  have z := congrArg (fun o : Option Obj => match o with | some ⟨_, _, .func fd, _⟩ => fd.code | _ => Value.none) (h1.symm.trans h2)
  exact z
abbrev QR : Str := "_law_right" ++ ".<locals>." ++ "<lambda>"
abbrev QL : Str := "law" ++ ".<locals>." ++ "<lambda>"
theorem all_mk {l : PySem.W.OpenLaw} {w : World} {K : PySem.W.Frag} {h : Heap} {mg : Str → Option Value} {fa fLa fBt fIi fIn fIt fIa fIp fCo fRo fDi fPi fSh fTa fSt fWa fNd fWd fBd fDw fRi fUn fNu fMk fCf fWm fFw fRs fPp fIq fAr fEq fFo fRw fCd fMd fMt uRi pRi uLa pLa DMk DAr cDy cUn cNu cCr : Addr} {odBt anBt odIi anIi odIn anIn odIt anIt odIa anIa odIp anIp odCo anCo odRo anRo odDi anDi odPi anPi odSh anSh odTa anTa odSt anSt odWa anWa odNd anNd odWd anWd odBd anBd odDw anDw odRi anRi odLa anLa odUn anUn odNu anNu odMk anMk odCf anCf odWm anWm odFw anFw odRs anRs odPp anPp odIq anIq odAr anAr odEq anEq odFo anFo odRw anRw odCd anCd odMd anMd odMt anMt : Option Addr} {slBt slIi slIn slIt slIa slIp slCo slRo slDi slPi slSh slTa slSt slWa slNd slWd slBd slDw slRi slLa slUn slNu slMk slCf slWm slFw slRs slPp slIq slAr slEq slFo slRw slCd slMd slMt : Array (Option Value)} {ocBt dcBt pmBt ctBt kVBt cdBt ocIi dcIi pmIi ctIi kVIi cdIi ocIn dcIn pmIn ctIn kVIn cdIn ocIt dcIt pmIt ctIt kVIt cdIt ocIa dcIa pmIa ctIa kVIa cdIa ocIp dcIp pmIp ctIp kVIp cdIp ocCo dcCo pmCo ctCo kVCo cdCo ocRo dcRo pmRo ctRo kVRo cdRo ocDi dcDi pmDi ctDi kVDi cdDi ocPi dcPi pmPi ctPi kVPi cdPi ocSh dcSh pmSh ctSh kVSh cdSh ocTa dcTa pmTa ctTa kVTa cdTa ocSt dcSt pmSt ctSt kVSt cdSt ocWa dcWa pmWa ctWa kVWa cdWa ocNd dcNd pmNd ctNd kVNd cdNd ocWd dcWd pmWd ctWd kVWd cdWd ocBd dcBd pmBd ctBd kVBd cdBd ocDw dcDw pmDw ctDw kVDw cdDw ocRi dcRi pmRi ctRi kVRi ocLa dcLa pmLa ctLa kVLa ocUn dcUn pmUn ctUn kVUn cdUn ocNu dcNu pmNu ctNu kVNu cdNu ocMk dcMk pmMk ctMk cdMk ocCf dcCf pmCf ctCf kVCf cdCf ocWm dcWm pmWm ctWm kVWm cdWm ocFw dcFw pmFw ctFw kVFw cdFw ocRs dcRs pmRs ctRs kVRs cdRs ocPp dcPp pmPp ctPp kVPp cdPp ocIq dcIq pmIq ctIq kVIq cdIq ocAr dcAr pmAr ctAr cdAr ocEq dcEq pmEq ctEq kVEq cdEq ocFo dcFo pmFo ctFo kVFo cdFo ocRw dcRw pmRw ctRw kVRw cdRw ocCd dcCd pmCd ctCd kVCd cdCd ocMd dcMd pmMd ctMd kVMd cdMd ocMt dcMt pmMt ctMt kVMt cdMt : Value} {tkArrest tcFar tcTick tcLett tcDawn tcFst tcAll tcLen tcMax : Tok} {t0 : Addr} {dT0 : Option Addr} {nT0 : Nat} {sT0 : Array (Option Value)} (X : K.In h) (G : h.Ns mainGlobals mg) (hfa : mg "law" = some (.ref fa))
    (gDy : PySem.W.nsIn K mainGlobals "InvalidDay" = some (some (.ref cDy)))
    (gUn : PySem.W.nsIn K mainGlobals "UnknownName" = some (some (.ref cUn)))
    (gNu : PySem.W.nsIn K mainGlobals "InvalidNumber" = some (some (.ref cNu)))
    (gCr : PySem.W.nsIn K mainGlobals "Crew" = some (some (.ref cCr)))
    (aBt : PySem.W.nsIn K mainGlobals "is_between" = some (some (.ref fBt)))
    (lBt : K.lookup fBt = some ⟨ocBt, odBt, .func (PySem.W.fnOf "is_between" "is_between" (defArgs sBet) (defBody sBet) (defScope sBet) .none kVBt dcBt pmBt anBt cdBt ctBt), slBt⟩)
    (dBt : PySem.W.codeIn K cdBt "is_between" = true)
    (kBt : PySem.W.keepIn K (.ref fBt) = true)
    (aIi : PySem.W.nsIn K mainGlobals "is_integer" = some (some (.ref fIi)))
    (lIi : K.lookup fIi = some ⟨ocIi, odIi, .func (PySem.W.fnOf "is_integer" "is_integer" (defArgs sIsInt) (defBody sIsInt) (defScope sIsInt) .none kVIi dcIi pmIi anIi cdIi ctIi), slIi⟩)
    (dIi : PySem.W.codeIn K cdIi "is_integer" = true)
    (kIi : PySem.W.keepIn K (.ref fIi) = true)
    (aIn : PySem.W.nsIn K mainGlobals "is_name" = some (some (.ref fIn)))
    (lIn : K.lookup fIn = some ⟨ocIn, odIn, .func (PySem.W.fnOf "is_name" "is_name" (defArgs sIsName) (defBody sIsName) (defScope sIsName) .none kVIn dcIn pmIn anIn cdIn ctIn), slIn⟩)
    (dIn : PySem.W.codeIn K cdIn "is_name" = true)
    (kIn : PySem.W.keepIn K (.ref fIn) = true)
    (aIt : PySem.W.nsIn K mainGlobals "is_tick" = some (some (.ref fIt)))
    (lIt : K.lookup fIt = some ⟨ocIt, odIt, .func (PySem.W.fnOf "is_tick" "is_tick" (defArgs sIsTick) (defBody sIsTick) (defScope sIsTick) .none kVIt dcIt pmIt anIt cdIt ctIt), slIt⟩)
    (dIt : PySem.W.codeIn K cdIt "is_tick" = true)
    (kIt : PySem.W.keepIn K (.ref fIt) = true)
    (aIa : PySem.W.nsIn K mainGlobals "is_ascending" = some (some (.ref fIa)))
    (lIa : K.lookup fIa = some ⟨ocIa, odIa, .func (PySem.W.fnOf "is_ascending" "is_ascending" (defArgs sAsc) (defBody sAsc) (defScope sAsc) .none kVIa dcIa pmIa anIa cdIa ctIa), slIa⟩)
    (dIa : PySem.W.codeIn K cdIa "is_ascending" = true)
    (kIa : PySem.W.keepIn K (.ref fIa) = true)
    (aIp : PySem.W.nsIn K mainGlobals "is_pair" = some (some (.ref fIp)))
    (lIp : K.lookup fIp = some ⟨ocIp, odIp, .func (PySem.W.fnOf "is_pair" "is_pair" (defArgs sIsPair) (defBody sIsPair) (defScope sIsPair) .none kVIp dcIp pmIp anIp cdIp ctIp), slIp⟩)
    (dIp : PySem.W.codeIn K cdIp "is_pair" = true)
    (kIp : PySem.W.keepIn K (.ref fIp) = true)
    (aCo : PySem.W.nsIn K mainGlobals "own_copy" = some (some (.ref fCo)))
    (lCo : K.lookup fCo = some ⟨ocCo, odCo, .func (PySem.W.fnOf "own_copy" "own_copy" (defArgs sCopy) (defBody sCopy) (defScope sCopy) .none kVCo dcCo pmCo anCo cdCo ctCo), slCo⟩)
    (dCo : PySem.W.codeIn K cdCo "own_copy" = true)
    (kCo : PySem.W.keepIn K (.ref fCo) = true)
    (aRo : PySem.W.nsIn K mainGlobals "_law_roll" = some (some (.ref fRo)))
    (lRo : K.lookup fRo = some ⟨ocRo, odRo, .func (PySem.W.fnOf "_law_roll" "_law_roll" (defArgs sRoll) (defBody sRoll) (defScope sRoll) .none kVRo dcRo pmRo anRo cdRo ctRo), slRo⟩)
    (dRo : PySem.W.codeIn K cdRo "_law_roll" = true)
    (kRo : PySem.W.keepIn K (.ref fRo) = true)
    (aDi : PySem.W.nsIn K mainGlobals "_law_dice" = some (some (.ref fDi)))
    (lDi : K.lookup fDi = some ⟨ocDi, odDi, .func (PySem.W.fnOf "_law_dice" "_law_dice" (defArgs sDice) (defBody sDice) (defScope sDice) .none kVDi dcDi pmDi anDi cdDi ctDi), slDi⟩)
    (dDi : PySem.W.codeIn K cdDi "_law_dice" = true)
    (kDi : PySem.W.keepIn K (.ref fDi) = true)
    (aPi : PySem.W.nsIn K mainGlobals "_law_pick" = some (some (.ref fPi)))
    (lPi : K.lookup fPi = some ⟨ocPi, odPi, .func (PySem.W.fnOf "_law_pick" "_law_pick" (defArgs sPick) (defBody sPick) (defScope sPick) .none kVPi dcPi pmPi anPi cdPi ctPi), slPi⟩)
    (dPi : PySem.W.codeIn K cdPi "_law_pick" = true)
    (kPi : PySem.W.keepIn K (.ref fPi) = true)
    (aSh : PySem.W.nsIn K mainGlobals "_law_shuffled" = some (some (.ref fSh)))
    (lSh : K.lookup fSh = some ⟨ocSh, odSh, .func (PySem.W.fnOf "_law_shuffled" "_law_shuffled" (defArgs sShuf) (defBody sShuf) (defScope sShuf) .none kVSh dcSh pmSh anSh cdSh ctSh), slSh⟩)
    (dSh : PySem.W.codeIn K cdSh "_law_shuffled" = true)
    (kSh : PySem.W.keepIn K (.ref fSh) = true)
    (aTa : PySem.W.nsIn K mainGlobals "_is_task" = some (some (.ref fTa)))
    (lTa : K.lookup fTa = some ⟨ocTa, odTa, .func (PySem.W.fnOf "_is_task" "_is_task" (defArgs sTask) (defBody sTask) (defScope sTask) .none kVTa dcTa pmTa anTa cdTa ctTa), slTa⟩)
    (dTa : PySem.W.codeIn K cdTa "_is_task" = true)
    (kTa : PySem.W.keepIn K (.ref fTa) = true)
    (aSt : PySem.W.nsIn K mainGlobals "_is_shortest" = some (some (.ref fSt)))
    (lSt : K.lookup fSt = some ⟨ocSt, odSt, .func (PySem.W.fnOf "_is_shortest" "_is_shortest" (defArgs sShort) (defBody sShort) (defScope sShort) .none kVSt dcSt pmSt anSt cdSt ctSt), slSt⟩)
    (dSt : PySem.W.codeIn K cdSt "_is_shortest" = true)
    (kSt : PySem.W.keepIn K (.ref fSt) = true)
    (aWa : PySem.W.nsIn K mainGlobals "_are_walks" = some (some (.ref fWa)))
    (lWa : K.lookup fWa = some ⟨ocWa, odWa, .func (PySem.W.fnOf "_are_walks" "_are_walks" (defArgs sWalks) (defBody sWalks) (defScope sWalks) .none kVWa dcWa pmWa anWa cdWa ctWa), slWa⟩)
    (dWa : PySem.W.codeIn K cdWa "_are_walks" = true)
    (kWa : PySem.W.keepIn K (.ref fWa) = true)
    (aNd : PySem.W.nsIn K mainGlobals "_need_number" = some (some (.ref fNd)))
    (lNd : K.lookup fNd = some ⟨ocNd, odNd, .func (PySem.W.fnOf "_need_number" "_need_number" (defArgs sNeedN) (defBody sNeedN) (defScope sNeedN) .none kVNd dcNd pmNd anNd cdNd ctNd), slNd⟩)
    (dNd : PySem.W.codeIn K cdNd "_need_number" = true)
    (kNd : PySem.W.keepIn K (.ref fNd) = true)
    (aWd : PySem.W.nsIn K mainGlobals "_law_word" = some (some (.ref fWd)))
    (lWd : K.lookup fWd = some ⟨ocWd, odWd, .func (PySem.W.fnOf "_law_word" "_law_word" (defArgs sWord) (defBody sWord) (defScope sWord) .none kVWd dcWd pmWd anWd cdWd ctWd), slWd⟩)
    (dWd : PySem.W.codeIn K cdWd "_law_word" = true)
    (kWd : PySem.W.keepIn K (.ref fWd) = true)
    (aBd : PySem.W.nsIn K mainGlobals "_law_bad_tasks" = some (some (.ref fBd)))
    (lBd : K.lookup fBd = some ⟨ocBd, odBd, .func (PySem.W.fnOf "_law_bad_tasks" "_law_bad_tasks" (defArgs sBad) (defBody sBad) (defScope sBad) .none kVBd dcBd pmBd anBd cdBd ctBd), slBd⟩)
    (dBd : PySem.W.codeIn K cdBd "_law_bad_tasks" = true)
    (kBd : PySem.W.keepIn K (.ref fBd) = true)
    (aDw : PySem.W.nsIn K mainGlobals "_law_hd_drawn" = some (some (.ref fDw)))
    (lDw : K.lookup fDw = some ⟨ocDw, odDw, .func (PySem.W.fnOf "_law_hd_drawn" "_law_hd_drawn" (defArgs sDraw) (defBody sDraw) (defScope sDraw) .none kVDw dcDw pmDw anDw cdDw ctDw), slDw⟩)
    (dDw : PySem.W.codeIn K cdDw "_law_hd_drawn" = true)
    (kDw : PySem.W.keepIn K (.ref fDw) = true)
    (aRi : PySem.W.nsIn K mainGlobals "_law_right" = some (some (.ref fRi)))
    (lRi : K.lookup fRi = some ⟨ocRi, odRi, .func (PySem.W.fnOf "_law_right" "_law_right" (defArgs sRight) (defBody sRight) (defScope sRight) .none kVRi dcRi pmRi anRi (.ref uRi) ctRi), slRi⟩)
    (dRi : PySem.W.codeIn K (.ref uRi) "_law_right" = true)
    (kRi : PySem.W.keepIn K (.ref fRi) = true)
    (aLa : PySem.W.nsIn K mainGlobals "law" = some (some (.ref fLa)))
    (lLa : K.lookup fLa = some ⟨ocLa, odLa, .func (PySem.W.fnOf "law" "law" (defArgs sLaw) (defBody sLaw) (defScope sLaw) .none kVLa dcLa pmLa anLa (.ref uLa) ctLa), slLa⟩)
    (dLa : PySem.W.codeIn K (.ref uLa) "law" = true)
    (kLa : PySem.W.keepIn K (.ref fLa) = true)
    (aUn : PySem.W.findIn K (.ref cUn) "__init__" = some (some (.ref fUn)))
    (iUn : PySem.W.isFn K (.ref fUn) = true)
    (lUn : K.lookup fUn = some ⟨ocUn, odUn, .func (PySem.W.fnOf "__init__" "UnknownName.__init__" (defArgs (iniOf 3)) (defBody (iniOf 3)) (defScope (iniOf 3)) .none kVUn dcUn pmUn anUn cdUn ctUn), slUn⟩)
    (dUn : PySem.W.codeIn K cdUn "UnknownName.__init__" = true)
    (kUn : PySem.W.keepIn K (.ref fUn) = true)
    (aNu : PySem.W.findIn K (.ref cNu) "__init__" = some (some (.ref fNu)))
    (iNu : PySem.W.isFn K (.ref fNu) = true)
    (lNu : K.lookup fNu = some ⟨ocNu, odNu, .func (PySem.W.fnOf "__init__" "InvalidNumber.__init__" (defArgs (iniOf 4)) (defBody (iniOf 4)) (defScope (iniOf 4)) .none kVNu dcNu pmNu anNu cdNu ctNu), slNu⟩)
    (dNu : PySem.W.codeIn K cdNu "InvalidNumber.__init__" = true)
    (kNu : PySem.W.keepIn K (.ref fNu) = true)
    (aMk : PySem.W.findIn K (.ref cCr) "__init__" = some (some (.ref fMk)))
    (iMk : PySem.W.isFn K (.ref fMk) = true)
    (lMk : K.lookup fMk = some ⟨ocMk, odMk, .func (PySem.W.fnOf "__init__" "Crew.__init__" (defArgs sIni) (defBody sIni) (defScope sIni) .none (.ref DMk) dcMk pmMk anMk cdMk ctMk), slMk⟩)
    (dMk : PySem.W.codeIn K cdMk "Crew.__init__" = true)
    (kMk : PySem.W.keepIn K (.ref fMk) = true)
    (wMk_walks : PySem.W.nsIn K DMk "walks" = some (some (.ref t0)))
    (aCf : PySem.W.findIn K (.ref cCr) "can_follow" = some (some (.ref fCf)))
    (iCf : PySem.W.isFn K (.ref fCf) = true)
    (lCf : K.lookup fCf = some ⟨ocCf, odCf, .func (PySem.W.fnOf "can_follow" "Crew.can_follow" (defArgs sCanF) (defBody sCanF) (defScope sCanF) .none kVCf dcCf pmCf anCf cdCf ctCf), slCf⟩)
    (dCf : PySem.W.codeIn K cdCf "Crew.can_follow" = true)
    (kCf : PySem.W.keepIn K (.ref fCf) = true)
    (aWm : PySem.W.findIn K (.ref cCr) "walk" = some (some (.ref fWm)))
    (iWm : PySem.W.isFn K (.ref fWm) = true)
    (lWm : K.lookup fWm = some ⟨ocWm, odWm, .func (PySem.W.fnOf "walk" "Crew.walk" (defArgs sWalk) (defBody sWalk) (defScope sWalk) .none kVWm dcWm pmWm anWm cdWm ctWm), slWm⟩)
    (dWm : PySem.W.codeIn K cdWm "Crew.walk" = true)
    (kWm : PySem.W.keepIn K (.ref fWm) = true)
    (aFw : PySem.W.findIn K (.ref cCr) "fewest" = some (some (.ref fFw)))
    (iFw : PySem.W.isFn K (.ref fFw) = true)
    (lFw : K.lookup fFw = some ⟨ocFw, odFw, .func (PySem.W.fnOf "fewest" "Crew.fewest" (defArgs sFewest) (defBody sFewest) (defScope sFewest) .none kVFw dcFw pmFw anFw cdFw ctFw), slFw⟩)
    (dFw : PySem.W.codeIn K cdFw "Crew.fewest" = true)
    (kFw : PySem.W.keepIn K (.ref fFw) = true)
    (aRs : PySem.W.findIn K (.ref cCr) "rosters" = some (some (.ref fRs)))
    (iRs : PySem.W.isFn K (.ref fRs) = true)
    (lRs : K.lookup fRs = some ⟨ocRs, odRs, .func (PySem.W.fnOf "rosters" "Crew.rosters" (defArgs sRosters) (defBody sRosters) (defScope sRosters) .none kVRs dcRs pmRs anRs cdRs ctRs), slRs⟩)
    (dRs : PySem.W.codeIn K cdRs "Crew.rosters" = true)
    (kRs : PySem.W.keepIn K (.ref fRs) = true)
    (aPp : PySem.W.findIn K (.ref cCr) "paper" = some (some (.ref fPp)))
    (iPp : PySem.W.isFn K (.ref fPp) = true)
    (lPp : K.lookup fPp = some ⟨ocPp, odPp, .func (PySem.W.fnOf "paper" "Crew.paper" (defArgs sPaper) (defBody sPaper) (defScope sPaper) .none kVPp dcPp pmPp anPp cdPp ctPp), slPp⟩)
    (dPp : PySem.W.codeIn K cdPp "Crew.paper" = true)
    (kPp : PySem.W.keepIn K (.ref fPp) = true)
    (aIq : PySem.W.findIn K (.ref cCr) "is_paper" = some (some (.ref fIq)))
    (iIq : PySem.W.isFn K (.ref fIq) = true)
    (lIq : K.lookup fIq = some ⟨ocIq, odIq, .func (PySem.W.fnOf "is_paper" "Crew.is_paper" (defArgs sIsPap) (defBody sIsPap) (defScope sIsPap) .none kVIq dcIq pmIq anIq cdIq ctIq), slIq⟩)
    (dIq : PySem.W.codeIn K cdIq "Crew.is_paper" = true)
    (kIq : PySem.W.keepIn K (.ref fIq) = true)
    (aAr : PySem.W.findIn K (.ref cCr) "are_rosters" = some (some (.ref fAr)))
    (iAr : PySem.W.isFn K (.ref fAr) = true)
    (lAr : K.lookup fAr = some ⟨ocAr, odAr, .func (PySem.W.fnOf "are_rosters" "Crew.are_rosters" (defArgs sAreR) (defBody sAreR) (defScope sAreR) .none (.ref DAr) dcAr pmAr anAr cdAr ctAr), slAr⟩)
    (dAr : PySem.W.codeIn K cdAr "Crew.are_rosters" = true)
    (kAr : PySem.W.keepIn K (.ref fAr) = true)
    (wAr_longest : PySem.W.nsIn K DAr "longest" = some (some .none))
    (wAr_rest : PySem.W.nsIn K DAr "rest" = some (some (.int 0 tkArrest)))
    (aEq : PySem.W.findIn K (.ref cCr) "__eq__" = some (some (.ref fEq)))
    (iEq : PySem.W.isFn K (.ref fEq) = true)
    (lEq : K.lookup fEq = some ⟨ocEq, odEq, .func (PySem.W.fnOf "__eq__" "Crew.__eq__" (defArgs sEqC) (defBody sEqC) (defScope sEqC) .none kVEq dcEq pmEq anEq cdEq ctEq), slEq⟩)
    (dEq : PySem.W.codeIn K cdEq "Crew.__eq__" = true)
    (kEq : PySem.W.keepIn K (.ref fEq) = true)
    (aFo : PySem.W.findIn K (.ref cCr) "_follows" = some (some (.ref fFo)))
    (iFo : PySem.W.isFn K (.ref fFo) = true)
    (lFo : K.lookup fFo = some ⟨ocFo, odFo, .func (PySem.W.fnOf "_follows" "Crew._follows" (defArgs sFol) (defBody sFol) (defScope sFol) .none kVFo dcFo pmFo anFo cdFo ctFo), slFo⟩)
    (dFo : PySem.W.codeIn K cdFo "Crew._follows" = true)
    (kFo : PySem.W.keepIn K (.ref fFo) = true)
    (aRw : PySem.W.findIn K (.ref cCr) "_is_row" = some (some (.ref fRw)))
    (iRw : PySem.W.isFn K (.ref fRw) = true)
    (lRw : K.lookup fRw = some ⟨ocRw, odRw, .func (PySem.W.fnOf "_is_row" "Crew._is_row" (defArgs sIsRow) (defBody sIsRow) (defScope sIsRow) .none kVRw dcRw pmRw anRw cdRw ctRw), slRw⟩)
    (dRw : PySem.W.codeIn K cdRw "Crew._is_row" = true)
    (kRw : PySem.W.keepIn K (.ref fRw) = true)
    (aCd : PySem.W.findIn K (.ref cCr) "_is_crowd" = some (some (.ref fCd)))
    (iCd : PySem.W.isFn K (.ref fCd) = true)
    (lCd : K.lookup fCd = some ⟨ocCd, odCd, .func (PySem.W.fnOf "_is_crowd" "Crew._is_crowd" (defArgs sIsCrowd) (defBody sIsCrowd) (defScope sIsCrowd) .none kVCd dcCd pmCd anCd cdCd ctCd), slCd⟩)
    (dCd : PySem.W.codeIn K cdCd "Crew._is_crowd" = true)
    (kCd : PySem.W.keepIn K (.ref fCd) = true)
    (aMd : PySem.W.findIn K (.ref cCr) "_matched" = some (some (.ref fMd)))
    (iMd : PySem.W.isFn K (.ref fMd) = true)
    (lMd : K.lookup fMd = some ⟨ocMd, odMd, .func (PySem.W.fnOf "_matched" "Crew._matched" (defArgs sMatched) (defBody sMatched) (defScope sMatched) .none kVMd dcMd pmMd anMd cdMd ctMd), slMd⟩)
    (dMd : PySem.W.codeIn K cdMd "Crew._matched" = true)
    (kMd : PySem.W.keepIn K (.ref fMd) = true)
    (aMt : PySem.W.findIn K (.ref cCr) "_match" = some (some (.ref fMt)))
    (iMt : PySem.W.isFn K (.ref fMt) = true)
    (lMt : K.lookup fMt = some ⟨ocMt, odMt, .func (PySem.W.fnOf "_match" "Crew._match" (defArgs sMatch) (defBody sMatch) (defScope sMatch) .none kVMt dcMt pmMt anMt cdMt ctMt), slMt⟩)
    (dMt : PySem.W.codeIn K cdMt "Crew._match" = true)
    (kMt : PySem.W.keepIn K (.ref fMt) = true)
    (lT0 : K.lookup t0 = some ⟨.type "tuple", dT0, .seq #[] nT0, sT0⟩)
    (eDy : exkB K cDy = true)
    (eUn : exkB K cUn = true)
    (eNu : exkB K cNu = true)
    (pDy : plB K cDy = true)
    (oUn : owU K cUn fUn = true)
    (oNu : owN K cNu fNu = true)
    (xUn : xfB K cUn = true)
    (xNu : xfB K cNu = true)
    (xm : exwB K cDy cNu cUn = true)
    (cr : crwB K cCr = true)
    (vUn : PySem.W.findCls K (.type "KeyError") (.type "type") "__init__" = some (.val (.builtin "KeyError.__init__")))
    (vNu : PySem.W.findCls K (.type "RuntimeError") (.type "type") "__init__" = some (.val (.builtin "RuntimeError.__init__")))
    (tRi : PySem.W.codeHdIn K uRi pRi = true)
    (nRi : K.lookup pRi = none)
    (tLa : PySem.W.codeHdIn K uLa pLa = true)
    (nLa : K.lookup pLa = none)
    (neRiLa : decide (pRi = pLa) = false)
    (c_Far : PySem.W.nsIn K mainGlobals "_TOO_LONG" = some (some (.int (10 ^ 40) tcFar)))
    (c_Tick : PySem.W.nsIn K mainGlobals "MAX_TICK" = some (some (.int (10 ^ 34) tcTick)))
    (c_Lett : PySem.W.nsIn K mainGlobals "MAX_LETTERS" = some (some (.int 12 tcLett)))
    (c_Dawn : PySem.W.nsIn K mainGlobals "DAWN" = some (some (.str "dawn" tcDawn)))
    (c_Fst : PySem.W.nsIn K mainGlobals "_FIRST_LETTERS" = some (some (.str firstL tcFst)))
    (c_All : PySem.W.nsIn K mainGlobals "_LETTERS" = some (some (.str lettL tcAll)))
    (c_Len : PySem.W.nsIn K mainGlobals "MAX_LENGTH" = some (some (.int (10 ^ 30) tcLen)))
    (c_Max : PySem.W.nsIn K mainGlobals "MAX_TASKS" = some (some (.int 60 tcMax)))
    (z_isinstance : PySem.W.nsIn K mainGlobals "isinstance" = some none)
    (z_int : PySem.W.nsIn K mainGlobals "int" = some none)
    (z_bool : PySem.W.nsIn K mainGlobals "bool" = some none)
    (z_str : PySem.W.nsIn K mainGlobals "str" = some none)
    (z_len : PySem.W.nsIn K mainGlobals "len" = some none)
    (z_all : PySem.W.nsIn K mainGlobals "all" = some none)
    (z_range : PySem.W.nsIn K mainGlobals "range" = some none)
    (z_tuple : PySem.W.nsIn K mainGlobals "tuple" = some none)
    (z_list : PySem.W.nsIn K mainGlobals "list" = some none)
    (z_dict : PySem.W.nsIn K mainGlobals "dict" = some none)
    (z_set : PySem.W.nsIn K mainGlobals "set" = some none)
    (z_abs : PySem.W.nsIn K mainGlobals "abs" = some none)
    (z_max : PySem.W.nsIn K mainGlobals "max" = some none)
    (z_min : PySem.W.nsIn K mainGlobals "min" = some none)
    (z_sorted : PySem.W.nsIn K mainGlobals "sorted" = some none)
    (z_repr : PySem.W.nsIn K mainGlobals "repr" = some none)
    (z_RuntimeError : PySem.W.nsIn K mainGlobals "RuntimeError" = some none)
    (z_KeyError : PySem.W.nsIn K mainGlobals "KeyError" = some none)
    (hRi : h.get? pRi = some tabO)
    (hLa : h.get? pLa = some tabO)
    : ∃ (fd : FuncData) (cs : List (Addr × Addr)) (sp : Sp), (∀ p ∈ cs, h.get? p.2 = some tabO) ∧ (∀ p ∈ cs, K.lookup p.2 = none) ∧ (∀ p ∈ cs, PySem.W.CodeHd h p.1 p.2) ∧ (∀ (t : Shared) (u : Value), BindsTo t fd ⟨[u], []⟩ [("script", u)]) ∧
        (∀ (H : Hp) (a : Addr) (ns : List Int), ns.length ≤ 63 → SqL K H a (ns.map V.int) → (∀ p ∈ cs, H p.2 = some (.tbl #[])) → sp [.ref a] H (fun v _ => v = .bl true) E0) ∧
        ∀ base : Heap, K.In base → (∀ p ∈ cs, TabB base mg p.1 p.2) → FnG l.prog w K mg base 13 fa fd ["script"] sp := by
  have e := hfa.symm.trans (PySem.W.mg_of X G aLa)
  cases e
  have y_isinstance := PySem.W.mg_none_of X G z_isinstance
  have y_int := PySem.W.mg_none_of X G z_int
  have y_bool := PySem.W.mg_none_of X G z_bool
  have y_str := PySem.W.mg_none_of X G z_str
  have y_len := PySem.W.mg_none_of X G z_len
  have y_all := PySem.W.mg_none_of X G z_all
  have y_range := PySem.W.mg_none_of X G z_range
  have y_tuple := PySem.W.mg_none_of X G z_tuple
  have y_list := PySem.W.mg_none_of X G z_list
  have y_dict := PySem.W.mg_none_of X G z_dict
  have y_set := PySem.W.mg_none_of X G z_set
  have y_abs := PySem.W.mg_none_of X G z_abs
  have y_max := PySem.W.mg_none_of X G z_max
  have y_min := PySem.W.mg_none_of X G z_min
  have y_sorted := PySem.W.mg_none_of X G z_sorted
  have y_repr := PySem.W.mg_none_of X G z_repr
  have y_RuntimeError := PySem.W.mg_none_of X G z_RuntimeError
  have y_KeyError := PySem.W.mg_none_of X G z_KeyError
  have mDy := PySem.W.mg_of X G gDy
  have mUn := PySem.W.mg_of X G gUn
  have mNu := PySem.W.mg_of X G gNu
  have mCr := PySem.W.mg_of X G gCr
  have FBt : Fun K "is_between" "is_between" sBet fBt _ := fun_mk (st := sBet) lBt dBt kBt
  have bBt := FBt.binds (ps := ["value", "least", "most"]) fun _ _ _ _ _ _ us hl => match us, hl with | [_, _, _], _ => rfl
  have mBt := PySem.W.mg_of X G aBt
  have FIi : Fun K "is_integer" "is_integer" sIsInt fIi _ := fun_mk (st := sIsInt) lIi dIi kIi
  have bIi := FIi.binds (ps := ["value"]) fun _ _ _ _ _ _ us hl => match us, hl with | [_], _ => rfl
  have mIi := PySem.W.mg_of X G aIi
  have FIn : Fun K "is_name" "is_name" sIsName fIn _ := fun_mk (st := sIsName) lIn dIn kIn
  have bIn := FIn.binds (ps := ["value"]) fun _ _ _ _ _ _ us hl => match us, hl with | [_], _ => rfl
  have mIn := PySem.W.mg_of X G aIn
  have FIt : Fun K "is_tick" "is_tick" sIsTick fIt _ := fun_mk (st := sIsTick) lIt dIt kIt
  have bIt := FIt.binds (ps := ["value"]) fun _ _ _ _ _ _ us hl => match us, hl with | [_], _ => rfl
  have mIt := PySem.W.mg_of X G aIt
  have FIa : Fun K "is_ascending" "is_ascending" sAsc fIa _ := fun_mk (st := sAsc) lIa dIa kIa
  have bIa := FIa.binds (ps := ["values"]) fun _ _ _ _ _ _ us hl => match us, hl with | [_], _ => rfl
  have mIa := PySem.W.mg_of X G aIa
  have FIp : Fun K "is_pair" "is_pair" sIsPair fIp _ := fun_mk (st := sIsPair) lIp dIp kIp
  have bIp := FIp.binds (ps := ["value"]) fun _ _ _ _ _ _ us hl => match us, hl with | [_], _ => rfl
  have mIp := PySem.W.mg_of X G aIp
  have FCo : Fun K "own_copy" "own_copy" sCopy fCo _ := fun_mk (st := sCopy) lCo dCo kCo
  have bCo := FCo.binds (ps := ["value"]) fun _ _ _ _ _ _ us hl => match us, hl with | [_], _ => rfl
  have mCo := PySem.W.mg_of X G aCo
  have FRo : Fun K "_law_roll" "_law_roll" sRoll fRo _ := fun_mk (st := sRoll) lRo dRo kRo
  have bRo := FRo.binds (ps := ["dice", "total"]) fun _ _ _ _ _ _ us hl => match us, hl with | [_, _], _ => rfl
  have mRo := PySem.W.mg_of X G aRo
  have FDi : Fun K "_law_dice" "_law_dice" sDice fDi _ := fun_mk (st := sDice) lDi dDi kDi
  have bDi := FDi.binds (ps := ["script", "spot"]) fun _ _ _ _ _ _ us hl => match us, hl with | [_, _], _ => rfl
  have mDi := PySem.W.mg_of X G aDi
  have FPi : Fun K "_law_pick" "_law_pick" sPick fPi _ := fun_mk (st := sPick) lPi dPi kPi
  have bPi := FPi.binds (ps := ["dice", "items"]) fun _ _ _ _ _ _ us hl => match us, hl with | [_, _], _ => rfl
  have mPi := PySem.W.mg_of X G aPi
  have FSh : Fun K "_law_shuffled" "_law_shuffled" sShuf fSh _ := fun_mk (st := sShuf) lSh dSh kSh
  have bSh := FSh.binds (ps := ["dice", "items"]) fun _ _ _ _ _ _ us hl => match us, hl with | [_, _], _ => rfl
  have mSh := PySem.W.mg_of X G aSh
  have FTa : Fun K "_is_task" "_is_task" sTask fTa _ := fun_mk (st := sTask) lTa dTa kTa
  have bTa := FTa.binds (ps := ["value"]) fun _ _ _ _ _ _ us hl => match us, hl with | [_], _ => rfl
  have mTa := PySem.W.mg_of X G aTa
  have FSt : Fun K "_is_shortest" "_is_shortest" sShort fSt _ := fun_mk (st := sShort) lSt dSt kSt
  have bSt := FSt.binds (ps := ["walks", "pair", "mid"]) fun _ _ _ _ _ _ us hl => match us, hl with | [_, _, _], _ => rfl
  have mSt := PySem.W.mg_of X G aSt
  have FWa : Fun K "_are_walks" "_are_walks" sWalks fWa _ := fun_mk (st := sWalks) lWa dWa kWa
  have bWa := FWa.binds (ps := ["walks", "places"]) fun _ _ _ _ _ _ us hl => match us, hl with | [_, _], _ => rfl
  have mWa := PySem.W.mg_of X G aWa
  have FNd : Fun K "_need_number" "_need_number" sNeedN fNd _ := fun_mk (st := sNeedN) lNd dNd kNd
  have bNd := FNd.binds (ps := ["value"]) fun _ _ _ _ _ _ us hl => match us, hl with | [_], _ => rfl
  have mNd := PySem.W.mg_of X G aNd
  have FWd : Fun K "_law_word" "_law_word" sWord fWd _ := fun_mk (st := sWord) lWd dWd kWd
  have bWd := FWd.binds (ps := ["call"]) fun _ _ _ _ _ _ us hl => match us, hl with | [_], _ => rfl
  have mWd := PySem.W.mg_of X G aWd
  have FBd : Fun K "_law_bad_tasks" "_law_bad_tasks" sBad fBd _ := fun_mk (st := sBad) lBd dBd kBd
  have bBd := FBd.binds (ps := ["dice", "tasks"]) fun _ _ _ _ _ _ us hl => match us, hl with | [_, _], _ => rfl
  have mBd := PySem.W.mg_of X G aBd
  have FDw : Fun K "_law_hd_drawn" "_law_hd_drawn" sDraw fDw _ := fun_mk (st := sDraw) lDw dDw kDw
  have bDw := FDw.binds (ps := ["dice", "most"]) fun _ _ _ _ _ _ us hl => match us, hl with | [_, _], _ => rfl
  have mDw := PySem.W.mg_of X G aDw
  have FRi : Fun K "_law_right" "_law_right" sRight fRi _ := fun_mk (st := sRight) lRi dRi kRi
  have bRi := FRi.binds (ps := ["dice"]) fun _ _ _ _ _ _ us hl => match us, hl with | [_], _ => rfl
  have mRi := PySem.W.mg_of X G aRi
  have FLa : Fun K "law" "law" sLaw fa _ := fun_mk (st := sLaw) lLa dLa kLa
  have bLa := FLa.binds (ps := ["script"]) fun _ _ _ _ _ _ us hl => match us, hl with | [_], _ => rfl
  have mLa := PySem.W.mg_of X G aLa
  have FUn : Fun K "__init__" "UnknownName.__init__" (iniOf 3) fUn _ := fun_mk (st := (iniOf 3)) lUn dUn kUn
  have bUn := FUn.binds (ps := ["self", "wanted"]) fun _ _ _ _ _ _ us hl => match us, hl with | [_, _], _ => rfl
  have mtUn : Meth K cUn "__init__" fUn := ⟨aUn, iUn, kUn⟩
  have FNu : Fun K "__init__" "InvalidNumber.__init__" (iniOf 4) fNu _ := fun_mk (st := (iniOf 4)) lNu dNu kNu
  have bNu := FNu.binds (ps := ["self", "given"]) fun _ _ _ _ _ _ us hl => match us, hl with | [_, _], _ => rfl
  have mtNu : Meth K cNu "__init__" fNu := ⟨aNu, iNu, kNu⟩
  have FMk : FunD K "__init__" "Crew.__init__" (defArgs sIni) (defBody sIni) (defScope sIni) [] [("walks", .ref t0)] fMk _ := ⟨⟨_, _, _, _, _, _, _, _, _, _, rfl, lMk, dMk, .inl ⟨rfl, rfl⟩, .inr ⟨DMk, rfl, fun q hq => by
    simp only [List.mem_cons, List.not_mem_nil, or_false] at hq
    rcases hq with rfl
    · exact ⟨_, wMk_walks, rfl⟩⟩⟩, kMk⟩
  have mtMk : Meth K cCr "__init__" fMk := ⟨aMk, iMk, kMk⟩
  have FCf : Fun K "can_follow" "Crew.can_follow" sCanF fCf _ := fun_mk (st := sCanF) lCf dCf kCf
  have bCf := FCf.binds (ps := ["self", "task", "other"]) fun _ _ _ _ _ _ us hl => match us, hl with | [_, _, _], _ => rfl
  have mtCf : Meth K cCr "can_follow" fCf := ⟨aCf, iCf, kCf⟩
  have FWm : Fun K "walk" "Crew.walk" sWalk fWm _ := fun_mk (st := sWalk) lWm dWm kWm
  have bWm := FWm.binds (ps := ["self", "place", "other"]) fun _ _ _ _ _ _ us hl => match us, hl with | [_, _, _], _ => rfl
  have mtWm : Meth K cCr "walk" fWm := ⟨aWm, iWm, kWm⟩
  have FFw : Fun K "fewest" "Crew.fewest" sFewest fFw _ := fun_mk (st := sFewest) lFw dFw kFw
  have bFw := FFw.binds (ps := ["self"]) fun _ _ _ _ _ _ us hl => match us, hl with | [_], _ => rfl
  have mtFw : Meth K cCr "fewest" fFw := ⟨aFw, iFw, kFw⟩
  have FRs : Fun K "rosters" "Crew.rosters" sRosters fRs _ := fun_mk (st := sRosters) lRs dRs kRs
  have bRs := FRs.binds (ps := ["self"]) fun _ _ _ _ _ _ us hl => match us, hl with | [_], _ => rfl
  have mtRs : Meth K cCr "rosters" fRs := ⟨aRs, iRs, kRs⟩
  have FPp : Fun K "paper" "Crew.paper" sPaper fPp _ := fun_mk (st := sPaper) lPp dPp kPp
  have bPp := FPp.binds (ps := ["self", "hands"]) fun _ _ _ _ _ _ us hl => match us, hl with | [_, _], _ => rfl
  have mtPp : Meth K cCr "paper" fPp := ⟨aPp, iPp, kPp⟩
  have FIq : Fun K "is_paper" "Crew.is_paper" sIsPap fIq _ := fun_mk (st := sIsPap) lIq dIq kIq
  have bIq := FIq.binds (ps := ["self", "hands", "value"]) fun _ _ _ _ _ _ us hl => match us, hl with | [_, _, _], _ => rfl
  have mtIq : Meth K cCr "is_paper" fIq := ⟨aIq, iIq, kIq⟩
  have FAr : FunD K "are_rosters" "Crew.are_rosters" (defArgs sAreR) (defBody sAreR) (defScope sAreR) [] [("longest", .non), ("rest", .int 0)] fAr _ := ⟨⟨_, _, _, _, _, _, _, _, _, _, rfl, lAr, dAr, .inl ⟨rfl, rfl⟩, .inr ⟨DAr, rfl, fun q hq => by
    simp only [List.mem_cons, List.not_mem_nil, or_false] at hq
    rcases hq with rfl | rfl
    · exact ⟨_, wAr_longest, rfl⟩
    · exact ⟨_, wAr_rest, ⟨_, rfl⟩⟩⟩⟩, kAr⟩
  have mtAr : Meth K cCr "are_rosters" fAr := ⟨aAr, iAr, kAr⟩
  have FEq : Fun K "__eq__" "Crew.__eq__" sEqC fEq _ := fun_mk (st := sEqC) lEq dEq kEq
  have bEq := FEq.binds (ps := ["self", "other"]) fun _ _ _ _ _ _ us hl => match us, hl with | [_, _], _ => rfl
  have mtEq : Meth K cCr "__eq__" fEq := ⟨aEq, iEq, kEq⟩
  have FFo : Fun K "_follows" "Crew._follows" sFol fFo _ := fun_mk (st := sFol) lFo dFo kFo
  have bFo := FFo.binds (ps := ["self", "task", "other", "rest"]) fun _ _ _ _ _ _ us hl => match us, hl with | [_, _, _, _], _ => rfl
  have mtFo : Meth K cCr "_follows" fFo := ⟨aFo, iFo, kFo⟩
  have FRw : Fun K "_is_row" "Crew._is_row" sIsRow fRw _ := fun_mk (st := sIsRow) lRw dRw kRw
  have bRw := FRw.binds (ps := ["self", "value", "rest"]) fun _ _ _ _ _ _ us hl => match us, hl with | [_, _, _], _ => rfl
  have mtRw : Meth K cCr "_is_row" fRw := ⟨aRw, iRw, kRw⟩
  have FCd : Fun K "_is_crowd" "Crew._is_crowd" sIsCrowd fCd _ := fun_mk (st := sIsCrowd) lCd dCd kCd
  have bCd := FCd.binds (ps := ["self", "value"]) fun _ _ _ _ _ _ us hl => match us, hl with | [_, _], _ => rfl
  have mtCd : Meth K cCr "_is_crowd" fCd := ⟨aCd, iCd, kCd⟩
  have FMd : Fun K "_matched" "Crew._matched" sMatched fMd _ := fun_mk (st := sMatched) lMd dMd kMd
  have bMd := FMd.binds (ps := ["self"]) fun _ _ _ _ _ _ us hl => match us, hl with | [_], _ => rfl
  have mtMd : Meth K cCr "_matched" fMd := ⟨aMd, iMd, kMd⟩
  have FMt : Fun K "_match" "Crew._match" sMatch fMt _ := fun_mk (st := sMatch) lMt dMt kMt
  have bMt := FMt.binds (ps := ["self", "behind", "tried", "task"]) fun _ _ _ _ _ _ us hl => match us, hl with | [_, _, _, _], _ => rfl
  have mtMt : Meth K cCr "_match" fMt := ⟨aMt, iMt, kMt⟩
  have tUn := exk_of eUn
  have tNu := exk_of eNu
  have qD : Pl K mg "InvalidDay" cDy := pl_of eDy pDy mDy
  obtain ⟨xqN, tfN, nfN, ovN, tkN, tyN⟩ := owN_of oNu
  obtain ⟨xqU, tfU, nfU, ovU, tkU, tyU⟩ := owU_of oUn
  have crw := crw_of cr
  have glo : Glo mg := ⟨⟨_, PySem.W.mg_of X G c_Far⟩, ⟨_, PySem.W.mg_of X G c_Tick⟩, ⟨_, PySem.W.mg_of X G c_Lett⟩, ⟨_, PySem.W.mg_of X G c_Dawn⟩, ⟨_, PySem.W.mg_of X G c_Fst⟩, ⟨_, PySem.W.mg_of X G c_All⟩⟩
  have gLen := PySem.W.mg_of X G c_Len
  have gMax := PySem.W.mg_of X G c_Max
  have ne' : pRi ≠ pLa := of_decide_eq_false neRiLa
  have hdv : ∀ H : Hp, SqT K H t0 [] := fun H => .inr ⟨_, #[], nT0, lT0, rfl, rfl, by show 0 ≤ sizeLine; decide, .nil⟩
  obtain ⟨dMk, vMk, bMk⟩ := FMk.binds0 (ps := ["self", "tasks", "walks"]) 2 (by simp) rfl (fun D doc pm an cdv ct us ks hu hk => match us, ks, hu, hk with | [_, _], [_], _, _ => ⟨_, _, _, _, _, _, rfl, rfl, rfl⟩)
  obtain ⟨_, kbMk⟩ := FMk.kbinds0 (ps := ["self", "tasks", "walks"]) 2 ["walks"] [] (fun us _ ws => us ++ ws) (by simp) (fun q hq => by cases hq) (fun a _ b => a.append b) (fun D doc pm an cdv ct us mv ws hu hm hw => match us, mv, ws, hu, hm, hw with | [_, _], [], [_], _, _, _ => rfl)
  obtain ⟨dAr, vAr, bAr⟩ := FAr.binds0 (ps := ["self", "value", "longest", "rest"]) 2 (by simp) rfl (fun D doc pm an cdv ct us ks hu hk => match us, ks, hu, hk with | [_, _], [_, _], _, _ => ⟨_, _, _, _, _, _, rfl, rfl, _, _, _, _, _, _, rfl, rfl, rfl⟩)
  obtain ⟨_, kbA2⟩ := FAr.kbinds0 (ps := ["self", "value", "longest", "rest"]) 2 ["longest", "rest"] [] (fun us _ ws => us ++ ws) (by simp) (fun q hq => by cases hq) (fun a _ b => a.append b) (fun D doc pm an cdv ct us mv ws hu hm hw => match us, mv, ws, hu, hm, hw with | [_, _], [], [_, _], _, _, _ => rfl)
  have kbA1 := FAr.kbinds0 (ps := ["self", "value", "longest", "rest"]) 2 ["rest"] [("longest", .non)] (fun us mv ws => us ++ mv ++ ws) (by simp) (fun q hq => by rw [List.mem_singleton.mp hq]; exact List.mem_cons_self ..) (fun a b c => (a.append b).append c) (fun D doc pm an cdv ct us mv ws hu hm hw => match us, mv, ws, hu, hm, hw with | [_, _], [_], [_], _, _, _ => ⟨_, _, _, _, _, _, rfl, rfl, rfl⟩)
  refine ⟨PySem.W.fnOf "law" "law" (defArgs sLaw) (defBody sLaw) (defScope sLaw) .none kVLa dcLa pmLa anLa (.ref uLa) ctLa, [(uRi, pRi), (uLa, pLa)], spLaw K [(pRi, QR), (pLa, QL)], ?_, ?_, ?_, fun t v => .of_eq rfl, fun H a ns hl hS hH => ?_, fun base _ TB => ?_⟩
  · exact two_all hRi hLa
  · exact two_all nRi nLa
  · exact two_all (PySem.W.codeHd_of_K X tRi) (PySem.W.codeHd_of_K X tLa)
  · exact ⟨a, ns, rfl, hS, by omega, two_all (LamX.TabS.nil (hH (uRi, pRi) (by simp))) (LamX.TabS.nil (hH (uLa, pLa) (by simp))), fun _ => rfl⟩
  have tbR := TB (uRi, pRi) (by simp)
  have tbL := TB (uLa, pLa) (by simp)
  have GBt := ok_bet (P := l.prog) (w := w) (mg := mg) (base := base) FBt y_isinstance y_int y_bool
  have GIi := ok_int (P := l.prog) (w := w) (mg := mg) (base := base) FIi GBt FBt.kp bBt mBt glo
  have GIt := ok_tick (P := l.prog) (w := w) (mg := mg) (base := base) FIt GBt FBt.kp bBt mBt glo
  have GIn := ok_name (P := l.prog) (w := w) (mg := mg) (base := base) FIn glo y_isinstance y_str y_len y_all
  have GIa := ok_asc (P := l.prog) (w := w) (mg := mg) (base := base) FIa y_all y_range y_len
  have GIp := ok_pair (P := l.prog) (w := w) (mg := mg) (base := base) FIp y_isinstance y_tuple y_len
  have GI2 := ok_pair2 (P := l.prog) (w := w) (mg := mg) (base := base) FIp y_isinstance y_tuple y_len
  have GCo := ok_copyN (P := l.prog) (w := w) (mg := mg) (base := base) FCo bCo mCo y_isinstance y_list y_tuple y_dict 4
  have CK : CopyK l.prog w K mg base fCo _ := ⟨GCo, bCo, mCo, FCo.kp⟩
  have GUn := ok_unknown (P := l.prog) (w := w) (mg := mg) (base := base) FUn CK tUn xqU ovU tkU y_KeyError vUn
  have GNu := ok_number (P := l.prog) (w := w) (mg := mg) (base := base) FNu CK tNu xqN ovN tkN y_RuntimeError vNu
  have oN : OwG l.prog w K mg base "InvalidNumber" "given" "RuntimeError.__new__" "RuntimeError" "RuntimeError" cNu fNu _ := ⟨tNu, mNu, xqN, aNu, tfN, bNu, GNu, tyN⟩
  have oU : OwG l.prog w K mg base "UnknownName" "wanted" "LookupError.__new__" "LookupError" "KeyError" cUn fUn _ := ⟨tUn, mUn, xqU, aUn, tfU, bUn, GUn, tyU⟩
  have GRo := ok_roll (P := l.prog) (w := w) (mg := mg) (base := base) FRo
  have GDi := ok_dice (P := l.prog) (w := w) (mg := mg) (base := base) FDi y_len y_int y_abs y_max
  have GPi := ok_pick (P := l.prog) (w := w) (mg := mg) (base := base) FPi FRo bRo mRo y_len
  have GSh := ok_shuf (P := l.prog) (w := w) (mg := mg) (base := base) FSh GRo FRo.kp bRo mRo y_list y_range y_len
  have GTa := ok_task (P := l.prog) (w := w) (mg := mg) (base := base) FTa ⟨GIt, FIt.kp, bIt, mIt⟩ ⟨GIn, FIn.kp, bIn, mIn⟩ y_isinstance y_tuple y_len
  have GSt := ok_short (P := l.prog) (w := w) (mg := mg) (base := base) FSt
  have GWa := ok_walks (P := l.prog) (w := w) (mg := mg) (base := base) FWa ⟨GIp, FIp.kp, bIp, mIp⟩ ⟨GIn, FIn.kp, bIn, mIn⟩ ⟨GBt, FBt.kp, bBt, mBt⟩ ⟨GSt, FSt.kp, bSt, mSt⟩ gLen y_isinstance y_dict y_all
  have GNd := ok_needN (P := l.prog) (w := w) (mg := mg) (base := base) FNd ⟨GIi, FIi.kp, bIi, mIi⟩ oN
  have GMk := ok_init (P := l.prog) (w := w) (mg := mg) (base := base) FMk ⟨GTa, FTa.kp, bTa, mTa⟩ ⟨GWa, FWa.kp, bWa, mWa⟩ qD gMax crw.k.c crw.k.nT crw.k.nW crw.k.nP y_isinstance y_tuple y_len y_all y_sorted
  have GCf := ok_canF (P := l.prog) (w := w) (mg := mg) (base := base) FCf crw.k ⟨GBt, FBt.kp, bBt, mBt⟩ oN y_len
  have GWm := ok_walk (P := l.prog) (w := w) (mg := mg) (base := base) FWm crw.k oU y_isinstance y_str
  have GRw := ok_row (P := l.prog) (w := w) (mg := mg) (base := base) FRw crw.k ⟨GBt, FBt.kp, bBt, mBt⟩ y_isinstance y_tuple y_len y_all
  have GCd := ok_crowd (P := l.prog) (w := w) (mg := mg) (base := base) FCd crw.k ⟨GBt, FBt.kp, bBt, mBt⟩ y_isinstance y_tuple y_len y_all
  have GAr := ok_areR (P := l.prog) (w := w) (mg := mg) (base := base) FAr crw.k ⟨GNd, FNd.kp, bNd, mNd⟩ ⟨FnGX.of GRw, mtRw, bRw⟩ ⟨GIa, FIa.kp, bIa, mIa⟩ y_isinstance y_tuple y_len y_all y_sorted y_list y_range
  have GPp := ok_paper (P := l.prog) (w := w) (mg := mg) (base := base) (C := cCr) FPp ⟨GNd, FNd.kp, bNd, mNd⟩
  have GIq := ok_isPap (P := l.prog) (w := w) (mg := mg) (base := base) FIq crw.k ⟨GNd, FNd.kp, bNd, mNd⟩ ⟨GI2, FIp.kp, bIp, mIp⟩ ⟨GAr, mtAr, bAr⟩ vAr ⟨FnGX.of GCd, mtCd, bCd⟩
  have GFo := ok_fol (P := l.prog) (w := w) (mg := mg) (base := base) FFo crw.k
  have GMt := ok_match (P := l.prog) (w := w) (mg := mg) (base := base) FMt crw.k GFo mtFo bFo y_range y_len
  have GMd := ok_matched (P := l.prog) (w := w) (mg := mg) (base := base) FMd crw.k GMt mtMt bMt y_range y_len
  have GRs := ok_rosters (P := l.prog) (w := w) (mg := mg) (base := base) FRs crw.k GMd mtMd bMd y_range y_len y_tuple
  have GFw := ok_fewest (P := l.prog) (w := w) (mg := mg) (base := base) FFw crw.k GRs mtRs bRs y_len
  have GEq := ok_eqC (P := l.prog) (w := w) (mg := mg) (base := base) FEq mCr crw.kt y_isinstance
  have GBd := ok_bad (P := l.prog) (w := w) (mg := mg) (base := base) FBd ⟨GSh, FSh.kp, bSh, mSh⟩ y_list
  have GDw := ok_draw (P := l.prog) (w := w) (mg := mg) (base := base) FDw ⟨GRo, FRo.kp, bRo, mRo⟩ ⟨GPi, FPi.kp, bPi, mPi⟩ ⟨GSh, FSh.kp, bSh, mSh⟩ y_dict y_range y_abs y_max y_sorted y_set y_tuple
  have W : WordK l.prog w K mg base cDy cNu cUn fWd _ := ⟨FWd, FWd.kp, bWd, mWd, mDy, mNu, mUn, xfB_ok xNu, xfB_ok xUn, nfN, nfU⟩
  have MK : MakeK l.prog w K mg base cCr cDy fMk _ (.ref t0) dMk := ⟨⟨crw.mks, aMk, iMk, crw.kp⟩, GMk, mCr, bMk, vMk, kbMk⟩
  have ME : MethsK l.prog w K mg base cCr cNu cUn fCf fWm fPp fIq fAr _ _ _ _ _ dAr := ⟨crw.k, ⟨GCf, mtCf, bCf⟩, ⟨GWm, mtWm, bWm⟩, ⟨GPp, mtPp, bPp⟩, ⟨GIq, mtIq, bIq⟩, ⟨GAr, mtAr, bAr⟩, vAr, kbA2, kbA1⟩
  have tkR : TkS K base mg [(pRi, QR), (pLa, QL)] "_law_right" "_law_right" sRight fRi uRi pRi := ⟨tbR, by simp, un_two ne' |>.1, fun oc od kV doc pm an cdv ct osl lk => code_is lk lRi⟩
  have tkL : TkS K base mg [(pRi, QR), (pLa, QL)] "law" "law" sLaw fa uLa pLa := ⟨tbL, by simp, un_two ne' |>.2, fun oc od kV doc pm an cdv ct osl lk => code_is lk lLa⟩
  have GRi := ok_right (P := l.prog) (w := w) FRi tkR ⟨GDw, FDw.kp, bDw, mDw⟩ ⟨GRo, FRo.kp, bRo, mRo⟩ ⟨GBd, FBd.kp, bBd, mBd⟩ W MK ⟨GPi, FPi.kp, bPi, mPi⟩ ME GEq crw.ne aEq iEq bEq crw.mo (exw_of xm) rfl hdv crw.ik y_len y_repr
  exact ok_law (P := l.prog) (w := w) FLa tkL ⟨GRi, FRi.kp, bRi, mRi⟩ ⟨GDi, FDi.kp, bDi, mDi⟩ W MK crw.k.c mtFw GFw bFw (exw_of xm) rfl hdv ⟨_, gMax⟩ y_len y_max y_min y_range y_repr y_tuple
theorem walk {l : PySem.W.OpenLaw} {q : Program} {loose : List Str} {XP : (Str → Option Value) → Heap → Prop} {YP : World → Heap → Prop} {d : DefRec} {K : Params → PySem.W.Frag} (hn : l.most = some 63) (hdf : d.params.defaults = [])
    (hY : ∀ (w : World) (h : Heap), YP w h → (K w.params).In h)
    (F : ∀ (w : World) (mg : Str → Option Value) (fa : Addr) (h : Heap), YP w h → (K w.params).In h → h.Ns mainGlobals mg → mg d.name = some (.ref fa) →
      ∃ (fd : FuncData) (cs : List (Addr × Addr)) (sp : Sp), (∀ p ∈ cs, h.get? p.2 = some tabO) ∧ (∀ p ∈ cs, (K w.params).lookup p.2 = none) ∧ (∀ p ∈ cs, PySem.W.CodeHd h p.1 p.2) ∧ (∀ (t : Shared) (u : Value), BindsTo t fd ⟨[u], []⟩ [("script", u)]) ∧
        (∀ (H : Hp) (a : Addr) (ns : List Int), ns.length ≤ 63 → SqL (K w.params) H a (ns.map V.int) → (∀ p ∈ cs, H p.2 = some (.tbl #[])) → sp [.ref a] H (fun v _ => v = .bl true) E0) ∧
        ∀ base : Heap, (K w.params).In base → (∀ p ∈ cs, TabB base mg p.1 p.2) → FnG l.prog w (K w.params) mg base 13 fa fd ["script"] sp) :
    PySem.W.WalkO q loose XP YP l.row.toRowW d [] (fun f vs => PySem.call f vs) :=
  walkGT (n := 63) (k := 13) (x := "script") hn (by decide) hdf ⟨rfl, by decide, by decide⟩ hY F
end K4
open PySem PySem.W PyProof.Rows in
set_option maxRecDepth 100000 in
set_option maxHeartbeats 0 in
theorem PySem.Challenge.cw_dawnway_k64_errors_of_crews_holds : PySem.Challenge.rw_dawnway_k64_errors_of_crews.Holds := by
  w_on; o_law; k_head; (case hw => w_witness2)
  k_fill
  refine K4.walk (l := PySem.Challenge.rw_dawnway_k64_errors_of_crews) rfl rfl (fun w h Y => PySem.W.km_in_of Y) ?F
  case F =>
    intro w mg fa h Y KX G hmg
    have hT8 := PySem.W.km_tabs_of Y
    refine' K4.all_mk (pRi := 391) (pLa := 396) KX G hmg ?q7_gDy ?q7_gUn ?q7_gNu ?q7_gCr ?q7_aBt ?q7_lBt ?q7_dBt ?q7_kBt ?q7_aIi ?q7_lIi ?q7_dIi ?q7_kIi ?q7_aIn ?q7_lIn ?q7_dIn ?q7_kIn ?q7_aIt ?q7_lIt ?q7_dIt ?q7_kIt ?q7_aIa ?q7_lIa ?q7_dIa ?q7_kIa ?q7_aIp ?q7_lIp ?q7_dIp ?q7_kIp ?q7_aCo ?q7_lCo ?q7_dCo ?q7_kCo ?q7_aRo ?q7_lRo ?q7_dRo ?q7_kRo ?q7_aDi ?q7_lDi ?q7_dDi ?q7_kDi ?q7_aPi ?q7_lPi ?q7_dPi ?q7_kPi ?q7_aSh ?q7_lSh ?q7_dSh ?q7_kSh ?q7_aTa ?q7_lTa ?q7_dTa ?q7_kTa ?q7_aSt ?q7_lSt ?q7_dSt ?q7_kSt ?q7_aWa ?q7_lWa ?q7_dWa ?q7_kWa ?q7_aNd ?q7_lNd ?q7_dNd ?q7_kNd ?q7_aWd ?q7_lWd ?q7_dWd ?q7_kWd ?q7_aBd ?q7_lBd ?q7_dBd ?q7_kBd ?q7_aDw ?q7_lDw ?q7_dDw ?q7_kDw ?q7_aRi ?q7_lRi ?q7_dRi ?q7_kRi ?q7_aLa ?q7_lLa ?q7_dLa ?q7_kLa ?q7_aUn ?q7_iUn ?q7_lUn ?q7_dUn ?q7_kUn ?q7_aNu ?q7_iNu ?q7_lNu ?q7_dNu ?q7_kNu ?q7_aMk ?q7_iMk ?q7_lMk ?q7_dMk ?q7_kMk ?q7_wMk_walks ?q7_aCf ?q7_iCf ?q7_lCf ?q7_dCf ?q7_kCf ?q7_aWm ?q7_iWm ?q7_lWm ?q7_dWm ?q7_kWm ?q7_aFw ?q7_iFw ?q7_lFw ?q7_dFw ?q7_kFw ?q7_aRs ?q7_iRs ?q7_lRs ?q7_dRs ?q7_kRs ?q7_aPp ?q7_iPp ?q7_lPp ?q7_dPp ?q7_kPp ?q7_aIq ?q7_iIq ?q7_lIq ?q7_dIq ?q7_kIq ?q7_aAr ?q7_iAr ?q7_lAr ?q7_dAr ?q7_kAr ?q7_wAr_longest ?q7_wAr_rest ?q7_aEq ?q7_iEq ?q7_lEq ?q7_dEq ?q7_kEq ?q7_aFo ?q7_iFo ?q7_lFo ?q7_dFo ?q7_kFo ?q7_aRw ?q7_iRw ?q7_lRw ?q7_dRw ?q7_kRw ?q7_aCd ?q7_iCd ?q7_lCd ?q7_dCd ?q7_kCd ?q7_aMd ?q7_iMd ?q7_lMd ?q7_dMd ?q7_kMd ?q7_aMt ?q7_iMt ?q7_lMt ?q7_dMt ?q7_kMt ?q7_lT0 ?q7_eDy ?q7_eUn ?q7_eNu ?q7_pDy ?q7_oUn ?q7_oNu ?q7_xUn ?q7_xNu ?q7_xm ?q7_cr ?q7_vUn ?q7_vNu ?q7_tRi ?q7_nRi ?q7_tLa ?q7_nLa ?q7_neRiLa ?q7_c_Far ?q7_c_Tick ?q7_c_Lett ?q7_c_Dawn ?q7_c_Fst ?q7_c_All ?q7_c_Len ?q7_c_Max ?q7_z_isinstance ?q7_z_int ?q7_z_bool ?q7_z_str ?q7_z_len ?q7_z_all ?q7_z_range ?q7_z_tuple ?q7_z_list ?q7_z_dict ?q7_z_set ?q7_z_abs ?q7_z_max ?q7_z_min ?q7_z_sorted ?q7_z_repr ?q7_z_RuntimeError ?q7_z_KeyError ?q7_hRi ?q7_hLa
    (case q7_gDy => k_is)
    (case q7_gUn => k_is)
    (case q7_gNu => k_is)
    (case q7_gCr => k_is)
    (case q7_aBt => k_is)
    (case q7_lBt => k_is)
    (case q7_dBt => k_is)
    (case q7_kBt => k_is)
    (case q7_aIi => k_is)
    (case q7_lIi => k_is)
    (case q7_dIi => k_is)
    (case q7_kIi => k_is)
    (case q7_aIn => k_is)
    (case q7_lIn => k_is)
    (case q7_dIn => k_is)
    (case q7_kIn => k_is)
    (case q7_aIt => k_is)
    (case q7_lIt => k_is)
    (case q7_dIt => k_is)
    (case q7_kIt => k_is)
    (case q7_aIa => k_is)
    (case q7_lIa => k_is)
    (case q7_dIa => k_is)
    (case q7_kIa => k_is)
    (case q7_aIp => k_is)
    (case q7_lIp => k_is)
    (case q7_dIp => k_is)
    (case q7_kIp => k_is)
    (case q7_aCo => k_is)
    (case q7_lCo => k_is)
    (case q7_dCo => k_is)
    (case q7_kCo => k_is)
    (case q7_aRo => k_is)
    (case q7_lRo => k_is)
    (case q7_dRo => k_is)
    (case q7_kRo => k_is)
    (case q7_aDi => k_is)
    (case q7_lDi => k_is)
    (case q7_dDi => k_is)
    (case q7_kDi => k_is)
    (case q7_aPi => k_is)
    (case q7_lPi => k_is)
    (case q7_dPi => k_is)
    (case q7_kPi => k_is)
    (case q7_aSh => k_is)
    (case q7_lSh => k_is)
    (case q7_dSh => k_is)
    (case q7_kSh => k_is)
    (case q7_aTa => k_is)
    (case q7_lTa => k_is)
    (case q7_dTa => k_is)
    (case q7_kTa => k_is)
    (case q7_aSt => k_is)
    (case q7_lSt => k_is)
    (case q7_dSt => k_is)
    (case q7_kSt => k_is)
    (case q7_aWa => k_is)
    (case q7_lWa => k_is)
    (case q7_dWa => k_is)
    (case q7_kWa => k_is)
    (case q7_aNd => k_is)
    (case q7_lNd => k_is)
    (case q7_dNd => k_is)
    (case q7_kNd => k_is)
    (case q7_aWd => k_is)
    (case q7_lWd => k_is)
    (case q7_dWd => k_is)
    (case q7_kWd => k_is)
    (case q7_aBd => k_is)
    (case q7_lBd => k_is)
    (case q7_dBd => k_is)
    (case q7_kBd => k_is)
    (case q7_aDw => k_is)
    (case q7_lDw => k_is)
    (case q7_dDw => k_is)
    (case q7_kDw => k_is)
    (case q7_aRi => k_is)
    (case q7_lRi => k_is)
    (case q7_dRi => k_is)
    (case q7_kRi => k_is)
    (case q7_aLa => k_is)
    (case q7_lLa => k_is)
    (case q7_dLa => k_is)
    (case q7_kLa => k_is)
    (case q7_aUn => k_is)
    (case q7_iUn => k_is)
    (case q7_lUn => k_is)
    (case q7_dUn => k_is)
    (case q7_kUn => k_is)
    (case q7_aNu => k_is)
    (case q7_iNu => k_is)
    (case q7_lNu => k_is)
    (case q7_dNu => k_is)
    (case q7_kNu => k_is)
    (case q7_aMk => k_is)
    (case q7_iMk => k_is)
    (case q7_lMk => k_is)
    (case q7_dMk => k_is)
    (case q7_kMk => k_is)
    (case q7_wMk_walks => k_is)
    (case q7_aCf => k_is)
    (case q7_iCf => k_is)
    (case q7_lCf => k_is)
    (case q7_dCf => k_is)
    (case q7_kCf => k_is)
    (case q7_aWm => k_is)
    (case q7_iWm => k_is)
    (case q7_lWm => k_is)
    (case q7_dWm => k_is)
    (case q7_kWm => k_is)
    (case q7_aFw => k_is)
    (case q7_iFw => k_is)
    (case q7_lFw => k_is)
    (case q7_dFw => k_is)
    (case q7_kFw => k_is)
    (case q7_aRs => k_is)
    (case q7_iRs => k_is)
    (case q7_lRs => k_is)
    (case q7_dRs => k_is)
    (case q7_kRs => k_is)
    (case q7_aPp => k_is)
    (case q7_iPp => k_is)
    (case q7_lPp => k_is)
    (case q7_dPp => k_is)
    (case q7_kPp => k_is)
    (case q7_aIq => k_is)
    (case q7_iIq => k_is)
    (case q7_lIq => k_is)
    (case q7_dIq => k_is)
    (case q7_kIq => k_is)
    (case q7_aAr => k_is)
    (case q7_iAr => k_is)
    (case q7_lAr => k_is)
    (case q7_dAr => k_is)
    (case q7_kAr => k_is)
    (case q7_wAr_longest => k_is)
    (case q7_wAr_rest => k_is)
    (case q7_aEq => k_is)
    (case q7_iEq => k_is)
    (case q7_lEq => k_is)
    (case q7_dEq => k_is)
    (case q7_kEq => k_is)
    (case q7_aFo => k_is)
    (case q7_iFo => k_is)
    (case q7_lFo => k_is)
    (case q7_dFo => k_is)
    (case q7_kFo => k_is)
    (case q7_aRw => k_is)
    (case q7_iRw => k_is)
    (case q7_lRw => k_is)
    (case q7_dRw => k_is)
    (case q7_kRw => k_is)
    (case q7_aCd => k_is)
    (case q7_iCd => k_is)
    (case q7_lCd => k_is)
    (case q7_dCd => k_is)
    (case q7_kCd => k_is)
    (case q7_aMd => k_is)
    (case q7_iMd => k_is)
    (case q7_lMd => k_is)
    (case q7_dMd => k_is)
    (case q7_kMd => k_is)
    (case q7_aMt => k_is)
    (case q7_iMt => k_is)
    (case q7_lMt => k_is)
    (case q7_dMt => k_is)
    (case q7_kMt => k_is)
    (case q7_lT0 => k_is)
    (case q7_eDy => first | kernel_rfl | k_is)
    (case q7_eUn => first | kernel_rfl | k_is)
    (case q7_eNu => first | kernel_rfl | k_is)
    (case q7_pDy => first | kernel_rfl | k_is)
    (case q7_oUn => first | kernel_rfl | k_is)
    (case q7_oNu => first | kernel_rfl | k_is)
    (case q7_xUn => first | kernel_rfl | k_is)
    (case q7_xNu => first | kernel_rfl | k_is)
    (case q7_xm => first | kernel_rfl | k_is)
    (case q7_cr => first | kernel_rfl | k_is)
    (case q7_vUn => k_is)
    (case q7_vNu => k_is)
    (case q7_tRi => first | kernel_rfl | k_is)
    (case q7_nRi => first | kernel_rfl | k_is)
    (case q7_tLa => first | kernel_rfl | k_is)
    (case q7_nLa => first | kernel_rfl | k_is)
    (case q7_neRiLa => first | kernel_rfl | k_is)
    (case q7_c_Far => k_is)
    (case q7_c_Tick => k_is)
    (case q7_c_Lett => k_is)
    (case q7_c_Dawn => k_is)
    (case q7_c_Fst => k_is)
    (case q7_c_All => k_is)
    (case q7_c_Len => k_is)
    (case q7_c_Max => k_is)
    (case q7_z_isinstance => k_is)
    (case q7_z_int => k_is)
    (case q7_z_bool => k_is)
    (case q7_z_str => k_is)
    (case q7_z_len => k_is)
    (case q7_z_all => k_is)
    (case q7_z_range => k_is)
    (case q7_z_tuple => k_is)
    (case q7_z_list => k_is)
    (case q7_z_dict => k_is)
    (case q7_z_set => k_is)
    (case q7_z_abs => k_is)
    (case q7_z_max => k_is)
    (case q7_z_min => k_is)
    (case q7_z_sorted => k_is)
    (case q7_z_repr => k_is)
    (case q7_z_RuntimeError => k_is)
    (case q7_z_KeyError => k_is)
    (case q7_hRi => exact hT8 _ (by k_mem))
    (case q7_hLa => exact hT8 _ (by k_mem))
