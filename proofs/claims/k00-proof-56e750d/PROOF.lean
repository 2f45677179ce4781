import PyProof.Rows.All
import Wide.All
import OpenK.AllK
import Wide.FinOn
import PyProof.EqAt
import PyProof.EqKinds
import PyProof.TupleCall
import PyProof.ReprRoads
import PyProof.Rows.RuleB_pow
import KE.KExcMore
import KE.KExcMake
import KE.KExcIs
import KE.KDictCopyH
import HandS.ForMost
import HandS.Exc
import HandS.ExcOwn
import HandS.ExcValue
import HandS.ExcInit
import HandS.IsInst
import HandS.DictComp
import HandS.FStr
import HandS.RaiseMore
import HandS.Style
import PyProof.Rows.FactsExc_KeyError
import HandS.Wide
import HandS.Small
import PySem.Challenge.RW_dawnway_k00_names_ticks_and_what_is_seen
import KE.DataCmp
import HandS.Strs
import HandS.CallLocal
import HandS.Zip
import HandS.TupAny
import KE.KxText
import PyProof.Rows.RegFStrParts
import KE.SortData
import KE.KDictZip
import HandS.TryMany
import HandS.ExcField
import HandS.Lambda
import HandS.WordsExc
import KE.KNestM
set_option Elab.async false
set_option linter.all false
set_option maxRecDepth 100000
set_option maxHeartbeats 4000000
namespace DW
open PySem PySem.Spec PyProof.Rows L2

/-! ### promises of defs that may write out data: no repr is under way -/
structure FnG (P : Program) (w : World) (K : PySem.W.Frag) (mg : Str → Option Value) (base : Heap) (k : Nat) (f : Addr) (fd : FuncData) (ps : List Str) (sp : Sp) : Prop where
  len : ∀ vs H Q, sp vs H Q E0 → vs.length = ps.length
  run : ∀ (A : Around) (outer : List Env) (s : Shared) (H : Hp) (args : Args) (us : List Value) (vs : List V) (Q : VK),
    Room k A → A.guards = some [] → Env0 P w K mg base A outer s H → BindsTo s fd args (ps.zip us) → Vals vs us →
    sp vs H Q E0 → codeAny (model P w) A (.call (.ref f) args) (CR CX0 outer P w H s Q E0) s

section
variable {P : Program} {w : World} {K : PySem.W.Frag} {mg : Str → Option Value} {base : Heap}
theorem FnG.of {k : Nat} {f : Addr} {fd : FuncData} {ps : List Str} {sp : Sp} (F : FnOk P w K mg base CX0 k f fd ps sp) : FnG P w K mg base k f fd ps sp :=
  ⟨fun vs H Q h => F.len vs H Q E0 h, fun A outer s H args us vs Q hr _ e0 hb r h => F.run A outer s H args us vs Q E0 hr e0 hb r h⟩

theorem fng {x qual : Str} {st : Stmt} {f : Addr} {fd : FuncData} {N ps : List Str} {k : Nat} {sp : Sp} (F : Fun K x qual st f fd) (S : FnScope N ps (defScope st))
    (len : ∀ vs H Q, sp vs H Q E0 → vs.length = ps.length)
    (hbody : ∀ (cdv : Value) (A : Around) (outer : List Env) (s : Shared) (H : Hp) (vs : List V) (Q : VK),
      Room k (A.deeper (envOfC qual (defScope st) s.heap.objs.size f cdv)) → A.guards = some [] → sp vs H Q E0 →
      ∃ t, PSs (cxOf CX0 P w K mg base N qual (defScope st) f cdv A outer s H E0).nox (defBody st) t ∧
        t { nx := fun _ H' => Q .non H', rt := Q } (start N vs) H) : FnG P w K mg base (k + 1) f fd ps sp := by
  obtain ⟨oc, od, kV, doc, pm, an, cdv, ct, osl, rfl, lk, hcd⟩ := F.ex
  refine ⟨len, fun A outer s H args us vs Q hr hg env0 hb r hsp => ?_⟩
  have hlen := len _ _ _ hsp
  have inK : K.In s.heap := env0.mod.kin.keeps fun a o q => (env0.bs a o q).1
  have lim : s.heap.NoLimit := env0.mod.nolimit.keeps fun a o q => (env0.bs a o q).1
  have hk : ∀ y ∈ ps.zip us, (defScope st).names.lookup y.1 = some .local ∨
      ((defScope st).names.lookup y.1 = some .cell ∧ ((cellsFrom (s.heap.objs.size + 1) (defScope st).names []).lookup y.1).isSome = true) := by
    rintro ⟨n, v⟩ hy
    rcases S.par n (List.of_mem_zip hy).1 with q | q
    · exact Or.inl q
    · exact Or.inr ⟨q, PySem.W.cellsFrom_some _ _ _ (Or.inl q)⟩
  refine codeAny_call_function hr.depth (inK _ _ lk) rfl S.co S.gen rfl (PySem.W.codeRec_of inK hcd) (hb _ _ _ _ ?_)
  refine wpAny_newFunctionEnv_cells S.kind hk fun env he s1 x => ?_
  subst he
  refine ⟨lim.keeps x.toInCall.keep, codeAny_func ?_⟩
  obtain ⟨t, ht, hq⟩ := hbody cdv A outer s H vs Q (hr.deeper _) hg hsp
  have I0 : Inv (cxOf CX0 P w K mg base N qual (defScope st) f cdv A outer s H E0) [] (start N vs) H s1 := inv_start S hr.hd env0 hlen r x
  refine wpAny_mono (ht.nox.run [] s1 (start N vs) H _ I0 hq) (fun fl s' hs => ?_) fun e s' z => z
  cases fl with
  | brk =>
    obtain ⟨_, _, _, q⟩ := hs
    exact q.elim
  | cont =>
    obtain ⟨_, _, _, q⟩ := hs
    exact q.elim
  | next =>
    obtain ⟨σ', H', J, q⟩ := hs
    exact ⟨V.non, H', J.os, J.bare, J.base, J.hok, rfl, q⟩
  | ret u =>
    obtain ⟨v, σ', H', J, rv, q⟩ := hs
    exact ⟨v, H', J.os, J.bare, J.base, J.hok, rv, q⟩
end

section
variable {X : Cx} {k : Nat} {f C : Addr} {fd : FuncData} {ps : List Str} {sp : Sp} {x : Str} {p pos : Pos} {e : Expr} {es : List Expr} {t : TA}
theorem run_g {pins : List (Addr × Obj)} {σ : L2.St} {H : Hp} {s : Shared} {Q : VK} {us : List Value} {vs : List V} (F : FnG X.prog X.w X.K X.mg X.base k f fd ps sp)
    (hr : Room k X.A) (hg : X.A.guards = some []) (hb : Binds X.K fd ps []) (I : Inv X pins σ H s) (r : Vals vs us) (h : sp vs H Q E0) :
    wpAny (model X.prog X.w) X.A (call (.ref f) us) (EP X pins σ Q) X.xe s := by
  have hl : us.length = ps.length := r.length.symm.trans (F.len _ _ _ h)
  have b := hb s us I.kIn (by rw [List.append_nil]; exact hl)
  rw [List.append_nil] at b
  refine wpAny_call (codeAny_mono (F.run X.A X.stack s H ⟨us, []⟩ us vs Q hr hg I.env0 b r h) fun r s' hq => ?_)
  rcases r with er | fl
  · exact hq.elim
  · cases fl with
    | ret u => exact I.after hq
    | _ => exact False.elim hq
/-- a call of such a def -/
theorem pe_g (F : FnG X.prog X.w X.K X.mg X.base k f fd ps sp) (hr : Room k X.A) (hgu : X.A.guards = some []) (hg : Gl X x) (hm : X.mg x = some (.ref f))
    (hk : PySem.W.keepIn X.K (.ref f) = true) (hb : Binds X.K fd ps []) (ha : PA X (e :: es) t) (hdb : (x == ("__debug__" : Str)) = false := by decide)
    (he : starEach (e :: es) X.env = (false, eval e X.env) :: starEach es X.env := by rfl) (hpl : (backTo pos (starEach es X.env)).any (·.1) = false := by rfl) :
    PE X (.Call (.Name x p) (e :: es) [] pos) (tCall sp [] E0 t) := by
  refine ⟨fun pins s σ H Q I h => ?_⟩
  refine wpAny_Call_Name_kw (ld_glob I hg hm ?_ hdb)
  refine PySem.W.callWith_K (h₀ := X.base) I.ok.mod.kin hk (thn (ha.run pos pins s σ H _ I h) ?_) he hpl
  rintro us s1 ⟨vs, H1, I1, r, q⟩
  rw [List.append_nil] at q
  exact ⟨I1.kIn, run_g F hr hgu hb I1 r q⟩
end

/-! ### two new objects at once -/
section
variable {X : Cx} {pins : List (Addr × Obj)} {σ : L2.St} {H : Hp} {s : Shared}
theorem laid2 {h' : Heap} {a t : Addr} {o u : HO} {tk : Nat} (I : Inv X pins σ H s) (k : ∀ b v, s.heap.get? b = some v → h'.get? b = some v)
    (ha : s.heap.objs.size ≤ a) (ht : s.heap.objs.size ≤ t) (ne : t ≠ a) (n1 : ObjOk X.prog X.w (upd (upd H t u) a o) h' t u) (n2 : ObjOk X.prog X.w (upd (upd H t u) a o) h' a o) :
    Inv X pins σ (upd (upd H t u) a o) { s with heap := h', toks := tk } := by
  have na : H a = none := I.hok.fresh ha
  have nt : H t = none := I.hok.fresh ht
  have old : ∀ b v, H b = some v → upd (upd H t u) a o b = some v := fun b v q => by
    rw [upd_ne (ne_of_none q na), upd_ne (ne_of_none q nt)]; exact q
  have there : ∀ b v, s.heap.get? b = some v → b ≠ a ∧ b ≠ t := fun b v q =>
    ⟨Nat.ne_of_lt (Nat.lt_of_lt_of_le (Heap.lt_size q) ha), Nat.ne_of_lt (Nat.lt_of_lt_of_le (Heap.lt_size q) ht)⟩
  refine I.un ⟨fun b v q _ _ _ => k b v q, fun b v q _ _ _ => ⟨v.slots, k b v q⟩, fun b v q n _ => ?_, fun b v q _ => ⟨v, k b v q⟩,
    fun b xs q => old b _ q, fun b ob xs q => old b _ q, fun b qs q => ⟨#[], by rw [old b _ q]; simp⟩⟩ fun b v q => ?_
  · rw [upd_ne (there b v q).1, upd_ne (there b v q).2]; exact n
  · by_cases hb : b = a
    · subst hb; rw [upd_same] at q; cases q; exact n2
    · rw [upd_ne hb] at q
      by_cases hc : b = t
      · subst hc; rw [upd_same] at q; cases q; exact n1
      · rw [upd_ne hc] at q
        exact (I.hok b v q).stay (fun c z _ y => k c z y) (fun c y => old c _ y) fun c xs y => old c _ y
end

/-! ### exceptions that are held as values -/
abbrev exr (C : Addr) (d : Option Addr) (t : Addr) : Obj := { cls := .ref C, dict := d, data := .fields #[.ref t, .none, .none, .none, .bool false, .none] }
/-- at a: an exception of the class at C, its dict, its args at t -/
def exq (a C : Addr) (d : Option Addr) (t : Addr) : HO := .ext fun h => h.get? a = some (exr C d t)
theorem exq_ok {P : Program} {w : World} {H : Hp} {h : Heap} {a C t : Addr} {d : Option Addr} (e : h.get? a = some (exr C d t)) : ObjOk P w H h a (exq a C d t) :=
  ⟨e, ⟨_, e⟩, fun _ _ z q => q _ z⟩
theorem exq_at {P : Program} {w : World} {H : Hp} {h : Heap} {a C t : Addr} {d : Option Addr} (x : HOk P w H h) (e : H a = some (exq a C d t)) : h.get? a = some (exr C d t) := by
  have z : ObjOk P w H h a (.ext fun h => h.get? a = some (exr C d t)) := x a _ e
  exact z.1
theorem exq_tup {a C t : Addr} {d : Option Addr} {xs : List V} : exq a C d t ≠ .tup xs := fun z => by
  have y : HO.ext _ = HO.tup xs := z
  cases y
theorem exq_own {a C t b : Addr} {d : Option Addr} : exq a C d t ≠ .own b := fun z => by
  have y : HO.ext _ = HO.own b := z
  cases y
theorem exq_frz {a C t : Addr} {d : Option Addr} {o : Obj} {u : HO} : exq a C d t ≠ .frz o u := fun z => by
  have y : HO.ext _ = HO.frz o u := z
  cases y
theorem exq_tbl {a C t : Addr} {d : Option Addr} {qs : Array Value} : exq a C d t ≠ .tbl qs := fun z => by
  have y : HO.ext _ = HO.tbl qs := z
  cases y
/-- what the written part says of an exception class that is made, read and asked -/
structure ExK (K : PySem.W.Frag) (C : Addr) : Prop where
  kC : PySem.W.keepIn K (.ref C) = true
  cl : (PySem.W.clsIn K C).isSome = true
  hd : PySem.W.hasDictIn K C = true
  ga : PySem.W.findIn K (.ref C) "__getattribute__" = some (some (.builtin "BaseException.__getattribute__"))
  gg : PySem.W.findIn K (.ref C) "__getattr__" = some none
  sa : PySem.W.findIn K (.ref C) "__setattr__" = some (some (.builtin "object.__setattr__"))
  st : PySem.W.findIn K (.ref C) "__str__" = some (some (.builtin "BaseException.__str__")) ∨ PySem.W.findIn K (.ref C) "__str__" = some (some (.builtin "KeyError.__str__"))
  ex : PySem.W.subIn K (.ref C) (.type "BaseException") = some true
  cc : PySem.W.findIn K (.ref C) "__class__" = some (some (.builtin "object.__class__"))
  cg : PySem.W.specialIn K (.builtin "object.__class__") "__get__" = some (some (.builtin "getset_descriptor.__get__"))
  ct : PySem.W.takesIn K (.builtin "object.__class__") = some true
  ob : PySem.W.mroIn K C (.type "object") = some true
section
variable {X : Cx} {C fI : Addr} {bmB : List Value} {B newId initId : String} {x : Str} {e : Expr} {te : TE} {p pos : Pos}
/-- X(e), no __init__ of its own -/
def tExP (C : Addr) (te : TE) : TE := fun σ H Q => te σ H fun v H1 => ∀ a t, H1 a = none → H1 t = none → t ≠ a → Q (.ref a) (upd (upd H1 t (.tup [v])) a (exq a C none t))
theorem pe_exP (FB : ExcBaseFacts B newId initId bmB) (q : PySem.W.excInitIn X.K C bmB newId = true) (hi : PySem.W.findIn X.K (.ref C) "__init__" = some (some (.builtin initId)))
    (kC : PySem.W.keepIn X.K (.ref C) = true) (gC : X.mg x = some (.ref C)) (hg : Gl X x) (he : PE X e te)
    (hs : starEach [e] X.env = (false, eval e X.env) :: starEach [] X.env := by rfl) (hdb : (x == ("__debug__" : Str)) = false := by decide) :
    PE X (.Call (.Name x p) [e] [] pos) (tExP C te) := by
  refine ⟨fun pins s σ H Q I h => ?_⟩
  refine wpAny_Call_Name_kw (ld_glob I hg gC ?_ hdb)
  refine PySem.W.callWith_K (h₀ := X.base) I.ok.mod.kin kC ?_ hs (by rfl)
  rw [hs]
  show wpAny _ _ (spliced ((false, eval e X.env) :: backTo pos (starEach [] X.env))) _ _ s
  refine Calls.spliced_cons (thn (he.run pins s σ H _ I h) ?_)
  rintro u s1 ⟨v, H1, I1, r1, q1⟩
  refine Calls.spliced_nil ⟨I1.kIn, ?_⟩
  show wpAny _ _ (call (.ref C) [u]) _ _ _
  obtain ⟨nm, N, qn, bs, bm, hdct, sn, sub, ab, col, dd, k0, k1, k2, k3, k5, hC, hT⟩ := PySem.W.excInit_of I1.kIn q
  have hi' : PySem.W.Looks (model X.prog X.w) s1.heap (typeLookup (.ref C) "__init__") (some (.builtin initId)) := PySem.W.looks_findIn I1.kIn hi
  obtain ⟨hp, g, d, tk, os⟩ := s1
  refine PySem.W.call_B FB hT hC hi' (by show 1 ≤ sizeLine; rw [sizeLine_eq]; omega) fun h' k ea et => ?_
  have n1 : H1 (hp.objs.size + 1) = none := I1.hok.fresh (Nat.le_succ _)
  have n2 : H1 (hp.objs.size + 2) = none := I1.hok.fresh (Nat.le_add_right _ 2)
  have ne : hp.objs.size + 2 ≠ hp.objs.size + 1 := Nat.ne_of_gt (Nat.lt_succ_self _)
  refine ⟨.ref (hp.objs.size + 1), _, laid2 (tk := tk) I1 k (Nat.le_succ _) (Nat.le_add_right _ 2) ne ?_ (exq_ok ea), rfl, q1 _ _ n1 n2 ne⟩
  exact ⟨by show 1 ≤ sizeLine; rw [sizeLine_eq]; omega, [u], .cons r1 .nil, ⟨_, et, rfl, _, rfl⟩⟩
end
end DW

namespace DW
open PySem PySem.Spec PyProof.Rows L2

/-! ### data, a flat dict too -/
def keyD : Key → PyData
  | .inl i => .int i
  | .inr x => .str x
inductive Dd (K : PySem.W.Frag) (H : Hp) : V → PyData → Prop where
  | base {v : V} {d : PyData} (h : Dp K H v d) (n : d.hasDict = false) : Dd K H v d
  | dct {a : Addr} {kvs : List (Key × Int)} (h : H a = some (.dK (kvs.map fun p => (p.1, V.int p.2)))) :
      Dd K H (.ref a) (.dict (kvs.map fun p => (keyD p.1, PyData.int p.2)))
section
variable {X : Cx} {pins : List (Addr × Obj)} {σ : L2.St} {H : Hp} {s : Shared}
theorem key_reads {h : Heap} {k : Key} {u : Value} (e : keyIs k u = true) : Reads h u (keyD k) [] := by
  rcases keyIs_shape e with ⟨i, t, rfl, rfl⟩ | ⟨x, t, rfl, rfl⟩
  · exact .int i t
  · exact .str x t
theorem pairs_reads {h : Heap} {P : Program} {w : World} : ∀ {kvs : List (Key × Int)} {es : List DictEntry} {vs : List (Key × Value)},
    KV (kvs.map fun p => (p.1, V.int p.2)) vs → Pairs (mixKind P w) es vs →
    ReadsAll h (es.map (·.key)) ((kvs.map fun p => (keyD p.1, PyData.int p.2)).map (·.1)) [] ∧
    ReadsAll h (es.map (·.val)) ((kvs.map fun p => (keyD p.1, PyData.int p.2)).map (·.2)) []
  | [], _, _, r, q => by
    cases r
    cases q
    exact ⟨.nil, .nil⟩
  | p :: l, _, _, r, q => by
    cases r with
    | cons r1 r2 =>
      cases q with
      | cons q1 q2 q3 =>
        obtain ⟨z1, z2⟩ := pairs_reads (h := h) r2 q3
        obtain ⟨e1, e2⟩ := r1
        refine ⟨?_, ?_⟩
        · have y := key_reads (h := h) (by rw [← e1] at q1; exact q1)
          exact ReadsAll.cons (as := []) y z1
        · obtain ⟨t, e2⟩ := e2
          refine ReadsAll.cons (as := []) ?_ z2
          dsimp only
          rw [q2, e2]
          exact Reads.int p.2 t
theorem Dd.reads {v : V} {u : Value} {d : PyData} (I : Inv X pins σ H s) (h : Dd X.K H v d) (r : RelV v u) :
    ∃ as, Reads s.heap u d as ∧ (d.hasDict = true → sysModules ∉ as) := by
  cases h with
  | base h n =>
    obtain ⟨as, q⟩ := Dp.reads I d v u h r
    exact ⟨as, q, fun z => by rw [n] at z; cases z⟩
  | @dct a kvs h =>
    cases r
    obtain ⟨_, hs, vs, rel, o, es, ep, ho, hx, hd, _, hp, _⟩ := (show ObjOk X.prog X.w H s.heap a (.dK _) from I.hok a _ h)
    obtain ⟨z1, z2⟩ := pairs_reads (h := s.heap) rel hp
    refine ⟨_, Reads.dict ho hx.1 hd z1 z2, fun _ hm => ?_⟩
    have e : sysModules = a := by simpa using hm
    rw [e] at hs
    simp at hs
/-- repr(x) of data -/
def rRepr (K : PySem.W.Frag) : List V → Hp → VK → Prop := fun xs H Q => ∃ v d, xs = [v] ∧ Dd K H v d ∧ d.showable = true ∧ d.shown.length ≤ sizeLine ∧ d.depth ≤ 60 ∧ Q (.str d.shown) H
theorem call_repr (hg : X.A.guards = some []) (hu : X.A.units + 64 < cLine) : CallR X (.builtin "repr") (rRepr X.K) := by
  intro pins s σ H xs us Q I r h
  obtain ⟨v, d, rfl, hd, hs, hz, hp, q⟩ := h
  obtain ⟨u, rfl, r1⟩ := vals1 r
  obtain ⟨as, hr, hm⟩ := hd.reads I r1
  cases hr with
  | none => exact PySem.P.repr_of_none ⟨.str _, H, I.tok _, ⟨_, rfl⟩, q⟩
  | bool b => exact PySem.P.repr_of_bool ⟨.str _, H, I.tok _, ⟨_, rfl⟩, q⟩
  | int i t => exact PySem.P.repr_of_int (by simpa [PyData.showable] using hs) ⟨.str _, H, I.tok _, ⟨_, rfl⟩, q⟩
  | str x t => exact PySem.P.repr_of_str ⟨.str _, H, I.tok _, ⟨_, rfl⟩, q⟩ hz
  | list h1 h2 h3 h4 => exact repr_of_reads' (Reads.list h1 h2 h3 h4) hs hm hg (by omega) (fun _ _ z => z) (fun h' t tk k => ⟨.str _, H, I.kept (t' := tk) k, ⟨_, rfl⟩, q⟩) hz
  | tuple h1 h2 h3 h4 => exact repr_of_reads' (Reads.tuple h1 h2 h3 h4) hs hm hg (by omega) (fun _ _ z => z) (fun h' t tk k => ⟨.str _, H, I.kept (t' := tk) k, ⟨_, rfl⟩, q⟩) hz
  | dict h1 h2 h3 h4 h5 => exact repr_of_reads' (Reads.dict h1 h2 h3 h4 h5) hs hm hg (by omega) (fun _ _ z => z) (fun h' t tk k => ⟨.str _, H, I.kept (t' := tk) k, ⟨_, rfl⟩, q⟩) hz
/-- {x!r} of data -/
def tFmtD (K : PySem.W.Frag) (te : TE) : TE := fun σ H Q => te σ H fun v H1 => ∃ d, Dd K H1 v d ∧ d.showable = true ∧ d.shown.length ≤ sizeLine ∧ d.depth ≤ 60 ∧ Q (.str d.shown) H1
theorem pe_fmtD {e : Expr} {te : TE} {pos : Pos} (hg : X.A.guards = some []) (hu : X.A.units + 64 < cLine) (he : PE X e te) : PE X (.FormattedValue e 114 none pos) (tFmtD X.K te) := by
  refine ⟨fun pins s σ H Q I h => ?_⟩
  refine wpAny_FormattedValue_repr (thn (he.run pins s σ H _ I h) ?_)
  rintro u s1 ⟨v, H1, I1, r1, d, hd, hs, hz, hp, q⟩
  obtain ⟨as, hr, hm⟩ := hd.reads I1 r1
  have fin : ∀ (h' : Heap) (t tk : Nat), (∀ b o, s1.heap.get? b = some o → h'.get? b = some o) →
      wpAny (model X.prog X.w) X.A (formatField (.str d.shown t) Str.empty) (EP X pins σ Q) X.xe { s1 with heap := h', toks := tk } := fun h' t tk k =>
    wpAny_formatField_str ⟨.str d.shown, H1, (I1.kept (t' := tk) k).tok _, ⟨_, rfl⟩, q⟩ ⟨.str d.shown, H1, (I1.kept (t' := tk) k).tok _, ⟨_, rfl⟩, q⟩ hz
  cases hr with
  | none => exact pyReprObj_none (fin _ _ _ fun _ _ z => z)
  | bool b => exact pyReprObj_bool (fin _ _ _ fun _ _ z => z)
  | int i t => exact pyReprObj_int (by simpa [PyData.showable] using hs) (fin _ _ _ fun _ _ z => z)
  | str x t => exact pyReprObj_str (fin _ _ _ fun _ _ z => z) hz
  | list h1 h2 h3 h4 => exact pyReprObj_of_reads (Reads.list h1 h2 h3 h4) hs hm hg (by omega) (fun _ _ z => z) (fun h' t tk k => fin h' t tk k) hz
  | tuple h1 h2 h3 h4 => exact pyReprObj_of_reads (Reads.tuple h1 h2 h3 h4) hs hm hg (by omega) (fun _ _ z => z) (fun h' t tk k => fin h' t tk k) hz
  | dict h1 h2 h3 h4 h5 => exact pyReprObj_of_reads (Reads.dict h1 h2 h3 h4 h5) hs hm hg (by omega) (fun _ _ z => z) (fun h' t tk k => fin h' t tk k) hz
end

/-! ### isinstance, str, a field of an exception that is held -/
section
variable {X : Cx}
def rIsX (K : PySem.W.Frag) : List V → Hp → VK → Prop := fun xs H Q => ∃ (a C : Addr) (d : Option Addr) (t : Addr) (c : V) (u : Value) (b : Bool), xs = [.ref a, c] ∧ ClsV c u ∧ H a = some (exq a C d t) ∧
  (∀ x, d = some x → ∃ fs, H x = some (exd x fs)) ∧ ExK K C ∧ PySem.W.kitOne K (.ref C) u = some b ∧ Q (.bl b) H
theorem exq_inst {pins : List (Addr × Obj)} {σ : L2.St} {H : Hp} {s : Shared} {a C t : Addr} {d : Option Addr} (I : Inv X pins σ H s) (e : H a = some (exq a C d t))
    (hd : ∀ x, d = some x → ∃ fs, H x = some (exd x fs)) : ∃ od, PySem.W.InstAt s.heap a (exr C d t) C od := by
  have z := exq_at I.hok e
  cases d with
  | none => exact ⟨none, z, rfl, rfl, trivial⟩
  | some x =>
    obtain ⟨fs, ex⟩ := hd x rfl
    obtain ⟨mA, ⟨o, es, ep, ho, _⟩, _⟩ := exd_at I.hok ex
    exact ⟨some o, z, rfl, rfl, ho⟩
theorem call_isX : CallR X (.builtin "isinstance") (rIsX X.K) := by
  intro pins s σ H xs us Q I r h
  obtain ⟨a, C, d, t, c, u, b, rfl, hc, ha, hd, T, hk, q⟩ := h
  obtain ⟨u1, u2, rfl, r1, r2⟩ := vals2 r
  cases (show u1 = Value.ref a from r1)
  have e2 := hc.eq r2
  subst e2
  obtain ⟨od, J⟩ := exq_inst I ha hd
  exact PySem.W.kia_one (PySem.W.kitx_exc T.cl T.ga T.gg T.ex T.cc T.cg T.ct T.ob) I.kIn J hk (fun z => nomatch z) fun tk => ⟨.bl b, H, I.tok tk, rfl, q⟩
/-- str(e) -/
def rStrX (K : PySem.W.Frag) : List V → Hp → VK → Prop := fun xs H Q => ∃ (a C : Addr) (d : Option Addr) (t : Addr) (m : Str), xs = [.ref a] ∧ H a = some (exq a C d t) ∧ H t = some (.tup [.str m]) ∧
  ExK K C ∧ PySem.W.findIn K (.ref C) "__str__" = some (some (.builtin "BaseException.__str__")) ∧ Q (.str m) H
theorem call_strX (hu : X.A.units + 64 < cLine) : CallR X (.type "str") (rStrX X.K) := by
  intro pins s σ H xs us Q I r h
  obtain ⟨a, C, d, t, m, rfl, ha, ht, T, hs, q⟩ := h
  obtain ⟨u1, rfl, r1⟩ := vals1 r
  cases (show u1 = Value.ref a from r1)
  have z := exq_at I.hok ha
  obtain ⟨_, its, rv, o, ho, hc, n, hdt⟩ := (show ObjOk X.prog X.w H s.heap t (.tup [.str m]) from I.hok t _ ht)
  cases rv with
  | cons r2 r3 =>
    cases r3
    obtain ⟨tk, rfl⟩ := r2
    exact PySem.P.str_of_C_one (C := C) (by omega) ⟨I.kIn, _, _, z, rfl, rfl, rfl⟩ ⟨o, n, ho, hc, hdt⟩ hs T.ex ⟨.str m, H, I, ⟨_, rfl⟩, q⟩
/-- e.f -/
def tXfld (K : PySem.W.Frag) (f : Str) (te : TE) : TE := fun σ H Q => te σ H fun x H1 => ∃ (a C dx t : Addr) (fs : List (Str × V)) (v : V), x = .ref a ∧ H1 a = some (exq a C (some dx) t) ∧ H1 dx = some (exd dx fs) ∧
  ExK K C ∧ PySem.W.findIn K (.ref C) f = some none ∧ fs.lookup f = some v ∧ Q v H1
theorem pe_xfld {e : Expr} {te : TE} {pos : Pos} {f : Str} (he : PE X e te) (hb : attributeBase e f X.env (eval e X.env) = eval e X.env := by rfl) : PE X (.Attribute e f pos) (tXfld X.K f te) := by
  refine ⟨fun pins s σ H Q I h => ?_⟩
  refine attr_of hb (thn (he.run pins s σ H _ I h) ?_)
  rintro u s1 ⟨x, H1, I1, rx, a, C, dx, t, fs, v, rfl, ha, hx, T, hno, l, q⟩
  cases (show u = Value.ref a from rx)
  have z := exq_at I1.hok ha
  obtain ⟨mA, hns, hr⟩ := exd_at I1.hok hx
  obtain ⟨od, ho, hl⟩ := lookIn_ns hns
  obtain ⟨u, hu, ru⟩ := RelO.some_of (v := v) (o := mA f) (by rw [← l]; exact hr f)
  have J : PySem.W.InstAt s1.heap a (exr C (some dx) t) C (some od) := ⟨z, rfl, rfl, ho⟩
  exact PySem.PX.exc_get I1.kIn J T.ga T.gg T.ex (PySem.W.findObj_own T.hd hno rfl (by rw [hl, hu])) (handed_of ru) ⟨v, H1, I1.tok _, ru, q⟩
end

/-! ### self.f = e on an exception that has no dict yet -/
section
variable {X : Cx} {o e : Expr} {to te : TE} {f : Str} {p' pos : Pos}
def tXst (K : PySem.W.Frag) (bmB : List Value) (f : Str) (to te : TE) : TS := fun D σ H => te σ H fun y H1 => to σ H1 fun x H2 => ∃ a C t : Addr, x = .ref a ∧ ExK K C ∧ PySem.W.excOver K C bmB = true ∧ PySem.W.takerIn K C f = some none ∧
  H2 a = some (exq a C none t) ∧ ∀ dx, H2 dx = none → dx ≠ a → D.nx σ (upd (upd H2 dx (exd dx [(f, y)])) a (exq a C (some dx) t))
theorem ps_xst {B : String} {bmB : List Value} (SF : StoreFacts B bmB "object.__setattr__" "object") (ho : PE X o to) (he : PE X e te)
    (hs : swapsWith e (some (.Attribute o f p')) pos.line X.env = pure false := by rfl) : PS X (.Assign [.Attribute o f p'] e pos) (tXst X.K bmB f to te) := by
  refine ⟨fun pins s σ H D I h => ?_⟩
  refine plainObj_wpAny_Assign_Attribute (thn (he.run pins s σ H _ I h) fun u s1 h1 => ?_) hs
  obtain ⟨y, H1, I1, r1, q1⟩ := h1
  refine thn (ho.run pins s1 σ H1 _ I1 q1) fun v s2 h2 => ?_
  obtain ⟨x, H2, I2, r2, a, C, t, rfl, T, hov, htk, ea, q⟩ := h2
  cases (show v = Value.ref a from r2)
  have z := exq_at I2.hok ea
  obtain ⟨cd, hcd, hh⟩ := PySem.W.any_some T.hd
  have Lc : PySem.W.Looks (model X.prog X.w) s2.heap (classData C) cd := PySem.W.looks_clsIn I2.kIn hcd
  have hn : H2 s2.heap.objs.size = none := I2.hok.fresh (Nat.le_refl _)
  have hlt : a < s2.heap.objs.size := Heap.lt_size z
  have hne : s2.heap.objs.size ≠ a := Nat.ne_of_gt hlt
  have q := q _ hn hne
  obtain ⟨hp, g, d, tk, os⟩ := s2
  dsimp only at z hn hlt hne q Lc
  refine PySem.W.set_plain (od := none) I2.kIn ⟨z, rfl, rfl, trivial⟩ T.sa ?_
  refine PySem.W.osa_openX (s := ⟨hp, g, d, tk + 1, os⟩) (od := none) (r := none) SF I2.kIn ⟨z, rfl, rfl, trivial⟩ hov htk fun b => ?_
  refine wpAny_bind (wpAny_pure (wpAny_bind (PySem.W.instanceDict_exc (s := ⟨hp, g, d, tk + 1, os⟩) z Lc hh ?_)))
  show wpAny _ _ (Builtin.ObjectAttr.storeInDict hp.objs.size (.str f tk) f u) _ _ _
  have hget : ((hp.push (PySem.W.dictOf [] 0)).update a fun o => { o with dict := some hp.objs.size }).get? hp.objs.size = some (PySem.W.dictOf [] 0) := by
    rw [Heap.get?_update_other _ _ (Ne.symm hne)]
    exact Heap.get?_push_size hp rfl
  have hga : ((hp.push (PySem.W.dictOf [] 0)).update a fun o => { o with dict := some hp.objs.size }).get? a = some (exr C (some hp.objs.size) t) :=
    Heap.get?_update_self _ (Heap.get?_push_of_some _ z) rfl
  refine PySem.PX.store_in_new ⟨_, #[], 0, hget, rfl, fun e he => absurd he (by simp), fun _ => rfl⟩ fun h' tk' hns sb => ?_
  have keep : ∀ c v, c ≠ a → hp.get? c = some v → h'.get? c = some v := fun c v hc y => by
    have hcs : c ≠ hp.objs.size := Nat.ne_of_lt (Heap.lt_size y)
    rw [sb.2 c hcs, Heap.get?_update_other _ _ (Ne.symm hc)]
    exact Heap.get?_push_of_some _ y
  have ga' : h'.get? a = some (exr C (some hp.objs.size) t) := (sb.2 a (Ne.symm hne)).trans hga
  have na : ∀ {c : Addr}, H2 c = none → c ≠ a := fun {c} n y => by rw [y, ea] at n; cases n
  have nd : ∀ {c : Addr} {v : Obj}, hp.get? c = some v → c ≠ hp.objs.size := fun y => Nat.ne_of_lt (Heap.lt_size y)
  show SP X pins D .next ⟨h', g, d, tk', os⟩
  refine ⟨σ, _, I2.un (t' := tk') ⟨fun c v y n _ _ => keep c v (na n) y, fun c v y n _ _ => ⟨v.slots, keep c v (na n) y⟩, fun c v y n _ => ?_, fun c v y _ => ?_,
    fun c xs y => ?_, fun c ob xs y => ?_, fun c qs y => ⟨#[], ?_⟩⟩ fun c v y => ?_, q⟩
  · rw [upd_ne (na n), upd_ne (nd y)]; exact n
  · by_cases hc : c = a
    · exact ⟨_, by rw [hc]; exact ga'⟩
    · exact ⟨v, keep c v hc y⟩
  · rw [upd_ne (at_ne ea y exq_tup), upd_ne (ne_of_none y hn)]; exact y
  · rw [upd_ne (at_ne ea y exq_frz), upd_ne (ne_of_none y hn)]; exact y
  · rw [upd_ne (at_ne ea y exq_tbl), upd_ne (ne_of_none y hn), y]; simp
  · by_cases hc : c = a
    · subst hc; rw [upd_same] at y; cases y; exact exq_ok ga'
    · rw [upd_ne hc] at y
      by_cases hd : c = hp.objs.size
      · subst hd; rw [upd_same] at y; cases y
        exact exd_ok hns (relO_put (fs := []) r1 fun g => True.intro)
      · rw [upd_ne hd] at y
        refine (I2.hok c v y).stay (fun b v' hb y' => keep b v' ?_ y') (fun b y' => ?_) fun b xs y' => ?_
        · rcases hb with hb | hb
          · rw [hb]; exact hc
          · exact at_ne ea hb exq_own
        · rw [upd_ne (at_ne ea y' exq_own), upd_ne (ne_of_none y' hn)]; exact y'
        · rw [upd_ne (at_ne ea y' exq_tup), upd_ne (ne_of_none y' hn)]; exact y'
end
end DW

namespace DW
open PySem PySem.Spec PyProof.Rows L2

/-! ### X(e), X with an __init__ of its own, over any built-in base -/
/-- the class object at C: its __new__ is that of Bn, its built-in base B -/
def exnB (K : PySem.W.Frag) (C : Addr) (newId : String) (Bn B : String) : Bool := match K.lookup C with
  | some ⟨.type "type", _, .cls cd, sl⟩ => (match cd.mro, sl.toList with
    | .ref C' :: bm, [_, _, _, _, some (.builtin n), _] => C' == C && (n == newId && (!cd.hasDel && (bm.contains (.type Bn) && (bm.contains (.type B) &&
        (!bm.contains (.type "AttributeError") && !bm.contains (.type "NameError"))))))
    | _, _ => false)
  | _ => false
structure Bm (bm : List Value) (Bn B : String) : Prop where
  n : bm.contains (.type Bn) = true
  b : bm.contains (.type B) = true
  a : bm.contains (.type "AttributeError") = false
  m : bm.contains (.type "NameError") = false
theorem exn_of {K : PySem.W.Frag} {h : Heap} {C : Addr} {newId Bn B : String} (X : K.In h) (q : exnB K C newId Bn B = true) :
    ∃ nm N qn bs bm hdct sn sub ab col dd k0 k1 k2 k3 k5, h.get? C = some (excClassObj nm qn C N bs bm hdct sn sub ab col dd k0 k1 k2 k3 k5 newId) ∧ Bm bm Bn B := by
  unfold exnB at q
  split at q
  · rename_i dd cd sl ho
    split at q
    · rename_i C' bm k0 k1 k2 k3 n k5 hm hs
      simp only [Bool.and_eq_true, beq_iff_eq, Bool.not_eq_true'] at q
      obtain ⟨rfl, rfl, hdel, x1, x2, x3, x4⟩ := q
      obtain ⟨nm, bs, mro, ns, qn, hd, sn, sub, ab, col, del⟩ := cd
      dsimp only at hm hdel
      subst hm hdel
      obtain rfl : sl = #[k0, k1, k2, k3, some (.builtin n), k5] := by
        obtain ⟨l⟩ := sl
        simp only at hs
        rw [hs]
      exact ⟨nm, ns, qn, bs, bm, hd, sn, sub, ab, col, dd, k0, k1, k2, k3, k5, X _ _ ho, x1, x2, x3, x4⟩
    · cases q
  · cases q
/-- what is known of a built-in's __init__ -/
structure IniF (B initId : String) : Prop where
  pl : plainId initId = true
  en : entryFor table initId = some Builtin.«BaseException.__init__»
  sp : splitId initId = some (B, "__init__")
  kd : builtinKind initId = some .slot
  rw' : Manifest.signature? initId = some ⟨.positional, "*", B, .self, [⟨"args", .varPos, false⟩]⟩
  ns : (B != "*") = true
theorem IniF.of {B newId initId : String} {bm : List Value} (F : ExcBaseFacts B newId initId bm) : IniF B initId := ⟨F.init.plain, F.initEntry, F.initSplit, F.initKind, F.initRow, F.noStar⟩
theorem ini_key : IniF "KeyError" "KeyError.__init__" :=
  ⟨PyProof.Rows.excClass_KeyError.init.plain, PyProof.Rows.excClass_KeyError.initEntry, PyProof.Rows.excClass_KeyError.initSplit, PyProof.Rows.excClass_KeyError.initKind, PyProof.Rows.excClass_KeyError.initSig, PyProof.Rows.excClass_KeyError.notStar⟩

section
variable {prog : Program} {w : World} {M : Model} {A : Around} {E : Value → Shared → Prop} {R : Result → Shared → Prop} {h : Heap} {g : Array GenState} {d : Drawn} {t : Nat} {os : OsState}
variable {nm q : Str} {C N : Addr} {bs bm bmN : List Value} {hdct : Bool} {sn : List Str} {sub : List Value} {ab : Bool} {col : Option Bool} {dd : Option Addr} {k0 k1 k2 k3 k5 : Option Value} {Bn B newId inN initId : String}
variable {rest : List Value} {fI : Addr}
theorem newU_check (F : ExcBaseFacts Bn newId inN bmN) (b : Bm bm Bn B) (hC : h.get? C = some (excClassObj nm q C N bs bm hdct sn sub ab col dd k0 k1 k2 k3 k5 newId))
    {Q : Unit → Shared → Prop} (k : Q () ⟨h, g, d, t, os⟩) : wpAny M A (checkBuiltinCall newId ⟨.ref C :: rest, []⟩) Q E ⟨h, g, d, t, os⟩ := by
  have c1 : (Value.ref C :: bm).contains (.type Bn) = true := by
    rw [List.contains_cons, b.n]
    exact Bool.or_true _
  have s1 := F.noStar
  simp only [checkBuiltinCall, F.newKind, F.newSplit, F.newRow]
  repeat (first
    | refine wpAny_loadPart_at hC ?_
    | (refine wpAny_isSubtype_exc hC ?_; rw [c1])
    | refine wpAny_staticBase_exc hC ?_
    | refine wpAny_madeBy_exc hC ?_
    | simp only [bne_self_eq_false, Bool.false_eq_true, if_false]
    | wp_step)
  exact k
theorem newU (F : ExcBaseFacts Bn newId inN bmN) (b : Bm bm Bn B) (hC : h.get? C = some (excClassObj nm q C N bs bm hdct sn sub ab col dd k0 k1 k2 k3 k5 newId)) (hz : rest.length ≤ sizeLine)
    (k : R (.ok (.ret (.ref (h.objs.size + 1)))) ⟨(h.push (PySem.W.excTup rest)).push (exr C none h.objs.size), g, d, t, os⟩) : codeAny (model prog w) A (.builtin newId ⟨.ref C :: rest, []⟩) R ⟨h, g, d, t, os⟩ := by
  have e1 := F.ends
  have c1 : (Value.ref C :: bm).contains (.type Bn) = true := by
    rw [List.contains_cons, b.n]
    exact Bool.or_true _
  have c2 : (Value.ref C :: bm).contains (.type "AttributeError") = false := by
    rw [List.contains_cons, b.a]
    rfl
  have c3 : (Value.ref C :: bm).contains (.type "NameError") = false := by
    rw [List.contains_cons, b.m]
    rfl
  refine codeAny_builtinAt F.entry ?_
  unfold Builtin.«BaseException.__new__»
  refine PySem.wpAt_bind ?_
  show PySem.wpAt _ _ _ (stack >>= _) _ _ _
  refine PySem.wpAt_bind (PySem.wpAt_stack fun p below => PySem.wpAt_of_wpAny ?_)
  wp_walk
  refine PySem.wpAt_of_wpAny ?_
  rw [F.owner]
  repeat (first
    | with_reducible refine wpAny_madeHere_exc F.canon hC ?_
    | with_reducible refine wpAny_loadPart_at hC ?_
    | (with_reducible refine wpAny_isSubtype_exc hC ?_; first | rw [c1] | rw [c2] | rw [c3])
    | wp_step)
  show R _ _
  rw [Heap.size_push]
  exact k
theorem typeU (F : ExcBaseFacts Bn newId inN bmN) (b : Bm bm Bn B) (hC : h.get? C = some (excClassObj nm q C N bs bm hdct sn sub ab col dd k0 k1 k2 k3 k5 newId)) (hz : rest.length ≤ sizeLine)
    (hi : PySem.W.Looks (model prog w) h (typeLookup (.ref C) "__init__") (some (.ref fI))) (hb : ∀ self, PySem.W.Looks (model prog w) h (bindSpecial (.ref fI) self) (.ref fI, [self])) {Q : Fin → Shared → Prop}
    (k : codeAny (model prog w) A (.call (.ref fI) ⟨.ref (h.objs.size + 1) :: rest, []⟩)
      (fun r s' => match r with | .ok (.ret v) => v = .none ∧ Q (.done (.ret (.ref (h.objs.size + 1)))) s' | .ok _ => False | .error e => E e s')
      ⟨(h.push (PySem.W.excTup rest)).push (exr C none h.objs.size), g, d, t, os⟩) : wpAny (model prog w) A (Builtin.«type.__call__» ⟨.ref C :: rest, []⟩) Q E ⟨h, g, d, t, os⟩ := by
  repeat (first
    | with_reducible refine wpAny_loadPart_at hC ?_
    | with_reducible refine wpAny_madeBy_exc hC ?_
    | wp_step)
  refine codeAny_call_builtin_code (Code.quiet_builtin _ F.quiet) (newU_check F b hC (newU F b hC hz ?_))
  show wpAny _ _ _ _ _ _
  have kp : ∀ c o, h.get? c = some o → ((h.push (PySem.W.excTup rest)).push (exr C none h.objs.size)).get? c = some o := fun c o e => Heap.get?_push_of_some _ (Heap.get?_push_of_some _ e)
  have gC := kp _ _ hC
  have gX : ((h.push (PySem.W.excTup rest)).push (exr C none h.objs.size)).get? (h.objs.size + 1) = some (exr C none h.objs.size) := by heap_get
  have cC : (Value.ref C :: bm).contains (.ref C) = true := by simp
  have i1 := hi.keeps kp
  have b1 := (hb (.ref (h.objs.size + 1))).keeps kp
  unfold isInstance
  repeat (first
    | with_reducible refine wpAny_loadPart_at gX ?_
    | (with_reducible refine wpAny_isSubtype_exc gC ?_; rw [cC])
    | wp_step)
  show wpAny _ _ (typeLookup (.ref C) _) _ _ _
  refine i1.at (wpAny_holding (wpAny_bind (b1.at ?_)))
  refine wpAny_bind (wpAny_call (codeAny_mono k fun r s' z => ?_))
  cases r with
  | error e => exact z
  | ok fl =>
    cases fl with
    | ret v =>
      obtain ⟨rfl, z⟩ := z
      first
        | exact wpAny_pure (wpAny_pure z)
        | (wp_walk; exact z)
    | _ => exact False.elim z
theorem callU (F : ExcBaseFacts Bn newId inN bmN) (b : Bm bm Bn B) (hC : h.get? C = some (excClassObj nm q C N bs bm hdct sn sub ab col dd k0 k1 k2 k3 k5 newId)) (hz : rest.length ≤ sizeLine)
    (hi : PySem.W.Looks (model prog w) h (typeLookup (.ref C) "__init__") (some (.ref fI))) (hb : ∀ self, PySem.W.Looks (model prog w) h (bindSpecial (.ref fI) self) (.ref fI, [self]))
    (k : codeAny (model prog w) (A.under (.builtin "type.__call__" ⟨.ref C :: rest, []⟩)) (.call (.ref fI) ⟨.ref (h.objs.size + 1) :: rest, []⟩) (PySem.W.InitBack (h.objs.size + 1) R)
      ⟨(h.push (PySem.W.excTup rest)).push (exr C none h.objs.size), g, d, t, os⟩) : codeAny (model prog w) A (.call (.ref C) ⟨rest, []⟩) R ⟨h, g, d, t, os⟩ := by
  have f1 := tc_lookup
  have f2 := tc_bind (.ref C)
  have ty : (⟨h, g, d, t, os⟩ : Shared).TypeIs (.ref C) "type" := ⟨_, hC, rfl⟩
  refine codeAny_of_tree ?_
  show wpAny _ _ (callAny (.ref C) _) _ _ _
  repeat (any_goals (first
    | assumption
    | with_reducible refine wpAny_loadPart_at hC ?_
    | wp_step))
  refine ⟨rfl, codeAny_call_builtin_at (Code.quiet_builtin _ (by decide +kernel)) entry_typeCall (wpAny_check_type_call_sub hC (typeU F b hC hz hi hb ?_))⟩
  refine codeAny_mono k fun r s' z => ?_
  rcases r with e | (v | _ | _ | _) <;> exact z
/-- B.__init__(e, ..) -/
theorem initU {a t0 : Addr} (F : IniF B initId) (b : Bm bm Bn B) (hC : h.get? C = some (excClassObj nm q C N bs bm hdct sn sub ab col dd k0 k1 k2 k3 k5 newId)) (ha : h.get? a = some (exr C none t0)) (hz : rest.length ≤ sizeLine)
    (k : ∀ h' t1, (∀ c o, c ≠ a → h.get? c = some o → h'.get? c = some o) → h'.get? a = some (exr C none t1) → R (.ok (.ret .none)) ⟨h', g, d, t, os⟩) :
    codeAny (model prog w) A (.call (.builtin initId) ⟨.ref a :: rest, []⟩) R ⟨h, g, d, t, os⟩ := by
  have c1 : (Value.ref C :: bm).contains (.type B) = true := by
    rw [List.contains_cons, b.b]
    exact Bool.or_true _
  have s1 := F.ns
  refine codeAny_call_builtin F.pl F.en ?_
  simp only [checkBuiltinCall, F.kd, F.sp, F.rw']
  repeat (first
    | (with_reducible refine wpAny_loadPart_at ha ?_; dsimp only)
    | with_reducible refine wpAny_loadPart_at hC ?_
    | (with_reducible refine wpAny_isSubtype_exc hC ?_; rw [c1])
    | wp_step)
  refine wpAny_onRaise ?_
  have ck : ∀ (x y : String) (n : Nat), Bind.check ⟨.positional, "*", B, .self, [⟨"args", .varPos, false⟩]⟩ x y n (List.map (fun z => z.fst) ({ pos := Value.ref a :: rest } : Args).kw) = pure () :=
    fun x y n => check_star_args _ _ _ _ _ _
  rw [ck]
  refine wpAny_pure (PySem.W.exc_init_tree (cls := .ref C) (t0 := t0) (dv := none) (c2 := .none) (c3 := .none) (b4 := .bool false) ha hz fun h' kp ea _ => ?_)
  exact k h' _ kp ea
end

section
variable {X : Cx} {k : Nat} {C fI : Addr} {fd : FuncData} {ps : List Str} {sp : Sp} {Bn B newId inN initId : String} {bmN : List Value} {x : Str} {e : Expr} {es : List Expr} {te : TE} {ta : TA} {p p1 p2 pos : Pos}
def tExI (C : Addr) (sp : Sp) (te : TE) : TE := fun σ H Q => te σ H fun v H1 => ∀ a t, H1 a = none → H1 t = none → t ≠ a →
  sp [.ref a, v] (upd (upd H1 t (.tup [v])) a (exq a C none t)) (fun u H2 => u = .non ∧ Q (.ref a) H2) E0
theorem pe_exI (F : ExcBaseFacts Bn newId inN bmN) (q : exnB X.K C newId Bn B = true) (hi : PySem.W.findIn X.K (.ref C) "__init__" = some (some (.ref fI))) (tf : PySem.W.typeIn X.K (.ref fI) = some (.type "function"))
    (kC : PySem.W.keepIn X.K (.ref C) = true) (gC : X.mg x = some (.ref C)) (hg : Gl X x) (G : FnG X.prog X.w X.K X.mg X.base k fI fd ps sp) (hr : Room (k + 1) X.A) (hgu : X.A.guards = some []) (hb : Binds X.K fd ps []) (he : PE X e te)
    (hs : starEach [e] X.env = (false, eval e X.env) :: starEach [] X.env := by rfl) (hdb : (x == ("__debug__" : Str)) = false := by decide) :
    PE X (.Call (.Name x p) [e] [] pos) (tExI C sp te) := by
  refine ⟨fun pins s σ H Q I h => ?_⟩
  refine wpAny_Call_Name_kw (ld_glob I hg gC ?_ hdb)
  refine PySem.W.callWith_K (h₀ := X.base) I.ok.mod.kin kC ?_ hs (by rfl)
  rw [hs]
  show wpAny _ _ (spliced ((false, eval e X.env) :: backTo pos (starEach [] X.env))) _ _ s
  refine Calls.spliced_cons (thn (he.run pins s σ H _ I h) ?_)
  rintro u s1 ⟨v, H1, I1, r1, q1⟩
  refine Calls.spliced_nil ⟨I1.kIn, ?_⟩
  show wpAny _ _ (call (.ref C) [u]) _ _ _
  obtain ⟨nm, N, qn, bs, bm, hdct, sn, sub, ab, col, dd, k0, k1, k2, k3, k5, hC, hT⟩ := exn_of I1.kIn q
  have hi' : PySem.W.Looks (model X.prog X.w) s1.heap (typeLookup (.ref C) "__init__") (some (.ref fI)) := PySem.W.looks_findIn I1.kIn hi
  have hbi := fun self => PySem.W.bind_fn (M := model X.prog X.w) I1.kIn self tf
  obtain ⟨hp, g, d, tk, os⟩ := s1
  have n1 : H1 (hp.objs.size + 1) = none := I1.hok.fresh (Nat.le_succ _)
  have n2 : H1 hp.objs.size = none := I1.hok.fresh (Nat.le_refl _)
  have ne : hp.objs.size ≠ hp.objs.size + 1 := Nat.ne_of_lt (Nat.lt_succ_self _)
  have kp : ∀ b o, hp.get? b = some o → ((hp.push (PySem.W.excTup [u])).push (exr C none hp.objs.size)).get? b = some o := fun b o z => Heap.get?_push_of_some _ (Heap.get?_push_of_some _ z)
  have gA : ((hp.push (PySem.W.excTup [u])).push (exr C none hp.objs.size)).get? (hp.objs.size + 1) = some (exr C none hp.objs.size) := by heap_get
  have gT : ((hp.push (PySem.W.excTup [u])).push (exr C none hp.objs.size)).get? hp.objs.size = some (PySem.W.excTup [u]) := Heap.get?_push_of_some _ (Heap.get?_push_size hp rfl)
  have one : [u].length ≤ sizeLine := by show 1 ≤ sizeLine; rw [sizeLine_eq]; omega
  have I2 := laid2 (tk := tk) (o := exq (hp.objs.size + 1) C none hp.objs.size) (u := .tup [v]) I1 kp (Nat.le_succ _) (Nat.le_refl _) ne
    ⟨by show 1 ≤ sizeLine; rw [sizeLine_eq]; omega, [u], .cons r1 .nil, ⟨_, gT, rfl, _, rfl⟩⟩ (exq_ok gA)
  have hq := q1 _ _ n1 n2 ne
  have hl : (Value.ref (hp.objs.size + 1) :: [u]).length = ps.length := by
    have z := G.len _ _ _ hq
    exact z
  have b := hb _ (Value.ref (hp.objs.size + 1) :: [u]) I2.kIn (by rw [List.append_nil]; exact hl)
  rw [List.append_nil] at b
  have gu : (X.A.under (.builtin "type.__call__" ⟨.ref C :: [u], []⟩)).guards = some [] := by
    first
      | exact hgu
      | (simp [Around.under, Code.guards, Code.isGuard, pushGuards, hgu]; done)
      | (simp +decide [Around.under, Code.guards, Code.isGuard, pushGuards, hgu, guardIds]; done)
  refine wpAny_call (callU F hT hC one hi' hbi (codeAny_mono (G.run _ X.stack _ _ ⟨Value.ref (hp.objs.size + 1) :: [u], []⟩ (Value.ref (hp.objs.size + 1) :: [u]) _ _ (hr.make C [u] []) gu (I2.env0.make C [u] []) b (show Vals (V.ref (hp.objs.size + 1) :: [v]) (Value.ref (hp.objs.size + 1) :: [u]) from .cons rfl (.cons r1 .nil)) hq) fun r s' hq' => ?_))
  rcases r with er | fl
  · exact hq'.elim
  · cases fl with
    | ret u2 =>
      obtain ⟨v3, H3, I3, rv, ev, q3⟩ := I2.after hq'
      subst ev
      exact ⟨rv, ⟨V.ref (hp.objs.size + 1), H3, I3, rfl, q3⟩⟩
    | _ => exact False.elim hq'

/-- B.__init__(self, ..), B built-in or a class of the program -/
def tBIn (K : PySem.W.Frag) (newId Bn B : String) (ta : TA) : TE := fun σ H Q => ta σ H fun vs H1 => ∃ (a C t : Addr) (ws : List V), vs = .ref a :: ws ∧ ws.length ≤ 1000 ∧ exnB K C newId Bn B = true ∧
  H1 a = some (exq a C none t) ∧ ∀ t', Q .non (upd H1 a (exq a C none t'))
theorem bin_run {pins : List (Addr × Obj)} {σ : L2.St} {H1 : Hp} {s1 : Shared} {Q : VK} {a t : Addr} {us : List Value} (F : IniF B initId) (q : exnB X.K C newId Bn B = true) (I1 : Inv X pins σ H1 s1) (ea : H1 a = some (exq a C none t)) (hz : us.length ≤ sizeLine)
    (h : ∀ t', Q .non (upd H1 a (exq a C none t'))) : wpAny (model X.prog X.w) X.A (call (.builtin initId) (.ref a :: us)) (EP X pins σ Q) X.xe s1 := by
  obtain ⟨nm, N, qn, bs, bm, hdct, sn, sub, ab, col, dd, k0, k1, k2, k3, k5, hC, hT⟩ := exn_of I1.kIn q
  have z := exq_at I1.hok ea
  obtain ⟨hp, g, d, tk, os⟩ := s1
  refine wpAny_call (initU F hT hC z hz fun h' t1 kp e' => ?_)
  exact ⟨.non, _, I1.write (t' := tk) (x := a) (e := a) (o := exq a C none t1) (by rw [ea]; exact True.intro) (.inl rfl) kp ⟨_, e'⟩ (exq_ok e'), rfl, h t1⟩
theorem pe_binB {pl : Sem Bool} {bn : Str} (F : IniF B initId) (hg : Gl X bn) (hm : X.mg bn = none) (hv : bootBuiltins bn = some (.type B)) (hnn : bn ≠ "__name__") (hty : typeOf (.type B) = pure (.type "type")) (hst : Manifest.isStub B = false)
    (vV : PySem.W.findCls X.K (.type B) (.type "type") "__init__" = some (.val (.builtin initId))) (hh : PySem.W.handedIn (.builtin initId) = true) (ha : PA X (e :: es) ta) (hdb : (bn == ("__debug__" : Str)) = false := by decide)
    (hc : eval (.Call (.Attribute (.Name bn p1) "__init__" p2) (e :: es) [] pos) X.env = (do
      let v ← eval (.Name bn p1) X.env
      standAt p2.atName
      let (f, first) ← holding [v] (getMethod v "__init__" pl)
      callWith pos f first (backTo pos (starEach (e :: es) X.env)) (backToKw pos (keywordEach [] X.env))) := by rfl)
    (he : starEach (e :: es) X.env = (false, eval e X.env) :: starEach es X.env := by rfl) (hpl : (backTo pos (starEach es X.env)).any (·.1) = false := by rfl) :
    PE X (.Call (.Attribute (.Name bn p1) "__init__" p2) (e :: es) [] pos) (tBIn X.K newId Bn B ta) := by
  refine ⟨fun pins s σ H Q I h => ?_⟩
  refine PySem.W.methodCall_KW (ld_blt I hg hm hv ?_ hnn hdb) hc
  obtain ⟨m, fr⟩ := I.fr
  refine PySem.W.method_type fr I.ok.mod.kin hty hst vV hh ?_
  show wpAny _ _ (callWith pos (Value.builtin initId) [] (backTo pos (starEach (e :: es) X.env)) []) _ _ _
  refine PyProof.Rows.callWith_method1 (thn (ha.run pos pins _ σ H _ (I.tok _) h) ?_) he hpl
  rintro us s1 ⟨vs, H1, I1, r1, a, C, t, ws, rfl, hl, q, ea, hq⟩
  cases r1 with
  | @cons _ u0 _ ur ra rw' =>
    cases (show u0 = Value.ref a from ra)
    exact bin_run F q I1 ea (by rw [← Paired.length rw', sizeLine_eq]; omega) hq
theorem pe_binC {pl : Sem Bool} {cn : Str} {D : Addr} (F : IniF B initId) (hg : Gl X cn) (hm : X.mg cn = some (.ref D)) (sg : PySem.W.specialIn X.K (.ref D) "__getattribute__" = some (some (.builtin "type.__getattribute__")))
    (rd : PySem.W.readsIn X.K D (.type "type") = true) (vV : PySem.W.findCls X.K (.ref D) (.type "type") "__init__" = some (.val (.builtin initId))) (hh : PySem.W.handedIn (.builtin initId) = true) (ha : PA X (e :: es) ta) (hdb : (cn == ("__debug__" : Str)) = false := by decide)
    (hc : eval (.Call (.Attribute (.Name cn p1) "__init__" p2) (e :: es) [] pos) X.env = (do
      let v ← eval (.Name cn p1) X.env
      standAt p2.atName
      let (f, first) ← holding [v] (getMethod v "__init__" pl)
      callWith pos f first (backTo pos (starEach (e :: es) X.env)) (backToKw pos (keywordEach [] X.env))) := by rfl)
    (he : starEach (e :: es) X.env = (false, eval e X.env) :: starEach es X.env := by rfl) (hpl : (backTo pos (starEach es X.env)).any (·.1) = false := by rfl) :
    PE X (.Call (.Attribute (.Name cn p1) "__init__" p2) (e :: es) [] pos) (tBIn X.K newId Bn B ta) := by
  refine ⟨fun pins s σ H Q I h => ?_⟩
  refine PySem.W.methodCall_KW (ld_glob I hg hm ?_ hdb) hc
  refine PySem.W.method_cls I.kIn sg (PySem.W.cls_value I.kIn rd vV hh ?_)
  show wpAny _ _ (callWith pos (Value.builtin initId) [] (backTo pos (starEach (e :: es) X.env)) []) _ _ _
  refine PyProof.Rows.callWith_method1 (thn (ha.run pos pins _ σ H _ (I.tok _) h) ?_) he hpl
  rintro us s1 ⟨vs, H1, I1, r1, a, C, t, ws, rfl, hl, q, ea, hq⟩
  cases r1 with
  | @cons _ u0 _ ur ra rw' =>
    cases (show u0 = Value.ref a from ra)
    exact bin_run F q I1 ea (by rw [← Paired.length rw', sizeLine_eq]; omega) hq
end
end DW

namespace DW
open PySem PySem.Spec PyProof.Rows L2
/-! ### the law as it is called behind the top, where its promise asks that no repr is under way -/
section
variable {P : Program} {w : World} {K : PySem.W.Frag} {mg mb : Str → Option Value} {k : Nat} {fa a : Addr} {fd : FuncData} {x : Str} {sp : Sp} {s : Shared} {vs : List Value} {ns : List Int}
abbrev scrO (vs : List Value) : Obj := { cls := .type "list", data := .seq vs.toArray }
/-- the script alone is tracked, and only if the module has not laid it -/
noncomputable def scrH (K : PySem.W.Frag) (a : Addr) (vs : List Value) (ns : List Int) : Hp :=
  fun b => if b = a ∧ K.lookup a = none then some (.frz (scrO vs) (.lst (ns.map V.int))) else none
theorem scr_in {b : Addr} {u : HO} (e : scrH K a vs ns b = some u) : b = a ∧ K.lookup a = none ∧ u = .frz (scrO vs) (.lst (ns.map V.int)) := by
  unfold scrH at e
  by_cases z : b = a ∧ K.lookup a = none
  · rw [if_pos z] at e
    exact ⟨z.1, z.2, (Option.some.inj e).symm⟩
  · rw [if_neg z] at e
    cases e
theorem scr_out {b : Addr} (n : ¬ (b = a ∧ K.lookup a = none)) : scrH K a vs ns b = none := if_neg n
theorem scr_vals : ∀ {vs : List Value} {ns : List Int}, IntsAre vs ns → Vals (ns.map V.int) vs
  | _, _, .nil => Paired.nil
  | _, _, .cons n t r => Paired.cons ⟨t, rfl⟩ (scr_vals r)
theorem scr_seq (KX : K.In s.heap) (ha : s.heap.get? a = some (scrO vs)) (hi : IntsAre vs ns) (hl : ns.length ≤ sizeLine) : SqL K (scrH K a vs ns) a (ns.map V.int) := by
  cases q : K.lookup a with
  | none => exact .inl (.inr ⟨scrO vs, if_pos ⟨rfl, q⟩⟩)
  | some o =>
    have same : o = scrO vs := Option.some.inj ((KX a o q).symm.trans ha)
    rw [same] at q
    have len := hi.length
    exact .inr ⟨_, vs.toArray, _, q, rfl, rfl, rfl, by rw [List.size_toArray, len]; exact hl, by simpa using scr_vals hi⟩
theorem scr_ok (ha : s.heap.get? a = some (scrO vs)) (hi : IntsAre vs ns) (hl : ns.length ≤ sizeLine) : HOk P w (scrH K a vs ns) s.heap := fun b u e => by
  obtain ⟨rfl, _, rfl⟩ := scr_in e
  exact ⟨ha, by rw [List.length_map]; exact hl, vs, _, scr_vals hi, ha⟩
theorem lawG (KX : K.In s.heap) (hm : s.heap.Ns mainGlobals mg) (hb : s.heap.Ns builtinsNs mb) (hq : ∀ y : Str, y ≠ "__name__" → mb y = bootBuiltins y) (nl : s.heap.NoLimit) (hg : s.gens = #[]) (ha : s.heap.get? a = some (scrO vs)) (hi : IntsAre vs ns)
    (hl : ns.length ≤ sizeLine) (hr : Room k callerA) (F : ∀ base : Heap, K.In base → FnG P w K mg base k fa fd [x] sp) (hbind : ∀ (t : Shared) (u : Value), BindsTo t fd ⟨[u], []⟩ [(x, u)])
    (hsp : ∀ H : Hp, SqL K H a (ns.map V.int) → sp [.ref a] H (fun v _ => v = .bl true) E0) :
    codeAny (model P w) callerA (.call (.ref fa) ⟨[.ref a], []⟩) (fun r s' => r = .ok (.ret (.bool true)) ∧ OldK s.heap s'.heap ∧ s'.os = s.os ∧ AllBare s'.gens) s := by
  have stay : ∀ {b : Addr} {o : Obj}, s.heap.get? b = some o → scrH K a vs ns b = none → (hidT s.heap (scrH K a vs ns)).get? b = some o := fun e n => hidT_get e n
  have notA : ∀ {b : Addr} {o : Obj}, s.heap.get? b = some o → o ≠ scrO vs → scrH K a vs ns b = none := fun e n => scr_out fun z => by
    rw [z.1, ha] at e
    exact n (Option.some.inj e).symm
  have nsS : ∀ {b : Addr} {m : Str → Option Value}, s.heap.Ns b m → (hidT s.heap (scrH K a vs ns)).Ns b m := fun {b m} ⟨o, es, ep, e, d, r⟩ =>
    ⟨o, es, ep, stay e (notA e fun z => by rw [z] at d; have d' : Data.seq vs.toArray _ = Data.dict es ep := d; cases d'), d, r⟩
  have KB : K.In (hidT s.heap (scrH K a vs ns)) := fun b o e => stay (KX b o e) (scr_out fun z => by rw [z.1, z.2] at e; cases e)
  have md : Mod K mg (hidT s.heap (scrH K a vs ns)) := ⟨KB, nsS hm, ⟨mb, nsS hb, hq⟩, let ⟨c, h1, h2⟩ := nl; ⟨c, nsS h1, h2⟩⟩
  have ev : Env0 P w K mg (hidT s.heap (scrH K a vs ns)) callerA [] s (scrH K a vs ns) :=
    ⟨rfl, md, fun b o e => of_hidT e, Nat.le_of_eq (hidT_size _ _), trivial, fun b z => absurd (show b ∈ ([] : List Addr) from z) (by simp), scr_ok ha hi hl, .of_eq hg⟩
  have go := (F _ KB).run callerA [] s (scrH K a vs ns) ⟨[.ref a], []⟩ [.ref a] [.ref a] _ hr rfl ev (hbind s (.ref a)) (Paired.cons rfl Paired.nil) (hsp _ (scr_seq KX ha hi hl))
  refine codeAny_mono go fun r s' h => ?_
  match r, h with
  | .ok (.ret u), ⟨v, H', os, bare, un, ok', rv, q⟩ =>
    cases (show v = V.bl true from q)
    cases (show u = Value.bool true from rv)
    refine ⟨rfl, OldK.of_keep fun b o e => ?_, os, bare⟩
    cases z : scrH K a vs ns b with
    | none => exact un.keep b o e z (by intro y; exact absurd (show b ∈ ([] : List Addr) from y) (by simp)) (by simp)
    | some u =>
      obtain ⟨rfl, _, rfl⟩ := scr_in z
      have later := un.frzs b (scrO vs) _ z
      obtain ⟨e1, _⟩ := ok' b _ later
      rw [ha] at e
      cases e
      exact e1
end
/-- what k_head leaves, from such a promise -/
theorem walkG {l : PySem.W.OpenLaw} {n k : Nat} {q : Program} {loose : List Str} {XP : (Str → Option Value) → Heap → Prop} {YP : World → Heap → Prop} {d : DefRec} {K : Params → PySem.W.Frag} {sp : PySem.W.Frag → Sp} {x : Str} (hn : l.most = some n) (hz : n ≤ sizeLine)
    (hd : d.params.defaults = []) (hr : Room k callerA) (hY : ∀ (w : World) (h : Heap), YP w h → (K w.params).In h)
    (F : ∀ (w : World) (mg : Str → Option Value) (fa : Addr) (h : Heap), (K w.params).In h → h.Ns mainGlobals mg → mg d.name = some (.ref fa) →
      ∃ fd : FuncData, (∀ (t : Shared) (u : Value), BindsTo t fd ⟨[u], []⟩ [(x, u)]) ∧ ∀ base : Heap, (K w.params).In base → FnG l.prog w (K w.params) mg base k fa fd [x] (sp (K w.params)))
    (hsp : ∀ (K : PySem.W.Frag) (H : Hp) (a : Addr) (ns : List Int), ns.length ≤ n → SqL K H a (ns.map V.int) → sp K [.ref a] H (fun v _ => v = .bl true) E0) :
    PySem.W.WalkO q loose XP YP l.row.toRowW d [] (fun f vs => PySem.call f vs) := by
  refine Att.attach_call hn hd fun w _ s mg mb fa _ _ _ _ a vs ns G Y _ _ _ hmg ho hi hl hg => ?_
  have KX := hY w _ Y
  obtain ⟨fd, hbind, hF⟩ := F w mg fa _ KX G.T.g hmg
  exact lawG KX G.T.g G.T.b G.T.builtins G.T.nolimit hg ho hi (Nat.le_trans hl hz) hr hF hbind fun H hS => hsp _ H a ns hl hS
end DW

namespace DW
open PySem PySem.Spec PyProof.Rows L2
theorem same_new {H : Hp} {p : Addr} {o : HO} (h : H p = none) : Same H (upd H p o) := fun b u e => by
  rw [upd_ne (ne_of_none e h)]; exact e
theorem same_mut {H0 H : Hp} {p : Addr} {o : HO} (s : Same H0 H) (h : H0 p = none) : Same H0 (upd H p o) := fun b u e => by
  rw [upd_ne (ne_of_none e h)]; exact s b u e
/-- a ledger of tracked objects -/
def Has (H : Hp) (L : List (Addr × HO)) : Prop := ∀ p ∈ L, H p.1 = some p.2
theorem Has.get {H : Hp} {L : List (Addr × HO)} {a : Addr} {o : HO} (h : Has H L) (m : (a, o) ∈ L) : H a = some o := h _ m
theorem Has.nil {H : Hp} : Has H [] := fun _ z => nomatch z
theorem Has.put {H : Hp} {L : List (Addr × HO)} {a : Addr} {o : HO} (h : Has H L) (e : H a = some o) : Has H ((a, o) :: L) := fun p m => by
  rcases List.mem_cons.mp m with rfl | m
  · exact e
  · exact h p m
theorem Has.of {H H' : Hp} {L : List (Addr × HO)} (h : Has H L) (s : Same H H') : Has H' L := fun p m => s _ _ (h p m)
theorem Has.new {H : Hp} {L : List (Addr × HO)} {a : Addr} {o : HO} (h : Has H L) (e : H a = none) : Has (upd H a o) ((a, o) :: L) := (h.of (same_new e)).put upd_same
theorem Has.mut {H : Hp} {L : List (Addr × HO)} {a : Addr} {o u : HO} (h : Has H L) (e : H a = some u) (ne : ∀ p ∈ L, p.2 ≠ u) : Has (upd H a o) L := fun p m => by
  have z := h p m
  rw [upd_ne fun q => ?_]
  · exact z
  · rw [q, e] at z
    exact ne p m (Option.some.inj z).symm
theorem pairedMono {α β : Type} {R R' : α → β → Prop} (f : ∀ x y, R x y → R' x y) : ∀ {xs : List α} {ys : List β}, Paired R xs ys → Paired R' xs ys
  | _, _, .nil => .nil
  | _, _, .cons r k => .cons (f _ _ r) (pairedMono f k)
theorem pairedSnoc {α β : Type} {R : α → β → Prop} : ∀ {xs : List α} {ys : List β} {x : α} {y : β}, Paired R xs ys → R x y → Paired R (xs ++ [x]) (ys ++ [y])
  | _, _, _, _, .nil, h => .cons h .nil
  | _, _, _, _, .cons r k, h => .cons r (pairedSnoc k h)
theorem pairedAt {α β : Type} {R : α → β → Prop} : ∀ {xs : List α} {ys : List β} {i : Nat} {x : α}, Paired R xs ys → xs[i]? = some x → ∃ y, ys[i]? = some y ∧ R x y
  | _, _, i, x, .nil, h => by simp at h
  | _, _, 0, x, .cons r k, h => by
    simp at h
    subst h
    exact ⟨_, rfl, r⟩
  | _, _, i + 1, x, .cons r k, h => by
    obtain ⟨y, e, q⟩ := pairedAt k (i := i) (x := x) (by simpa using h)
    exact ⟨y, by simpa using e, q⟩
theorem tyes {σ : L2.St} {H : Hp} {A B : Hp → Prop} (h : A H) : tYes σ H fun b H3 => if b = true then A H3 else B H3 := by
  show if true = true then A H else B H
  rw [if_pos rfl]
  exact h
theorem takeSucc {α : Type} {ds : List α} {i : Nat} {d : α} (h : ds[i]? = some d) : ds.take (i + 1) = ds.take i ++ [d] := by
  rw [List.take_add_one, h]
  rfl
section
variable {X : Cx}
theorem op_powW : OpR X (binaryOp .Pow) (rI (fun i j => 0 ≤ j ∧ (Builtin.Int.intBits i : Int) * j ≤ 2 ^ 27) fun i j => .int (i ^ j.toNat)) := by
  intro pins s σ H x y v u Q I rx ry h
  obtain ⟨i, j, rfl, rfl, hc, q⟩ := h
  obtain ⟨t, rfl⟩ := rx
  obtain ⟨t', rfl⟩ := ry
  exact PyProof.Rows.pow_int hc.1 hc.2 ⟨.int _, H, I.tok _, ⟨_, rfl⟩, q⟩
theorem op_mulS : OpR X (binaryOp .Mult) (fun x y H Q => ∃ (a : Str) (n : Int), x = .str a ∧ y = .int n ∧ MulOk a n ∧ Q (.str (Txt.mul a n)) H) := by
  intro pins s σ H x y v u Q I rx ry h
  obtain ⟨i, j, rfl, rfl, hc, q⟩ := h
  obtain ⟨t, rfl⟩ := rx
  obtain ⟨t', rfl⟩ := ry
  exact PySem.SB.mul hc fun t' k => ⟨.str _, H, I.tok _, ⟨_, rfl⟩, q⟩
end
end DW

namespace DW
open PySem PySem.Spec PyProof.Rows L2
def tyName : PyData → String
  | .none => "NoneType" | .bool _ => "bool" | .int _ => "int" | .str _ => "str" | .list _ => "list" | .tuple _ => "tuple" | .dict _ => "dict"
theorem Dp.tyx {K : PySem.W.Frag} {H : Hp} {v : V} {d : PyData} (h : Dp K H v d) : TyX K H v (.type (tyName d)) := by
  cases h with
  | non => exact .base .non
  | bl b => exact .base (.bl b)
  | int i => exact .base (.int i)
  | str x => exact .base (.str x)
  | lst hs _ =>
    rcases hs with (e | ⟨o, e⟩) | ⟨o, its, n, e, c, _⟩
    · exact .base (.lst e)
    · exact .base (.frz e)
    · exact .kList e c
  | tup hs _ =>
    rcases hs with (e | ⟨o, e⟩) | ⟨o, its, n, e, c, _⟩
    · exact .base (.tup e)
    · exact .fTuple e
    · exact .kTuple e c
theorem Dd.tyx {K : PySem.W.Frag} {H : Hp} {v : V} {d : PyData} (h : Dd K H v d) : TyX K H v (.type (tyName d)) := by
  cases h with
  | base h _ => exact Dp.tyx h
  | dct e => exact .base (.dK e)
def isIntT (d : PyData) : Bool := match d with
  | .int _ => true | .bool _ => true | _ => false
def isBoolT (d : PyData) : Bool := match d with
  | .bool _ => true | _ => false
def isStrT (d : PyData) : Bool := match d with
  | .str _ => true | _ => false
def isTupT (d : PyData) : Bool := match d with
  | .tuple _ => true | _ => false
theorem kit_int : ∀ d : PyData, kitB (tyName d) "int" = some (isIntT d)
  | .none => (show kitB "NoneType" "int" = some false by decide +kernel)
  | .bool _ => (show kitB "bool" "int" = some true by decide +kernel)
  | .int _ => (show kitB "int" "int" = some true by decide +kernel)
  | .str _ => (show kitB "str" "int" = some false by decide +kernel)
  | .list _ => (show kitB "list" "int" = some false by decide +kernel)
  | .tuple _ => (show kitB "tuple" "int" = some false by decide +kernel)
  | .dict _ => (show kitB "dict" "int" = some false by decide +kernel)
theorem kit_bool : ∀ d : PyData, kitB (tyName d) "bool" = some (isBoolT d)
  | .none => (show kitB "NoneType" "bool" = some false by decide +kernel)
  | .bool _ => (show kitB "bool" "bool" = some true by decide +kernel)
  | .int _ => (show kitB "int" "bool" = some false by decide +kernel)
  | .str _ => (show kitB "str" "bool" = some false by decide +kernel)
  | .list _ => (show kitB "list" "bool" = some false by decide +kernel)
  | .tuple _ => (show kitB "tuple" "bool" = some false by decide +kernel)
  | .dict _ => (show kitB "dict" "bool" = some false by decide +kernel)
theorem kit_str : ∀ d : PyData, kitB (tyName d) "str" = some (isStrT d)
  | .none => (show kitB "NoneType" "str" = some false by decide +kernel)
  | .bool _ => (show kitB "bool" "str" = some false by decide +kernel)
  | .int _ => (show kitB "int" "str" = some false by decide +kernel)
  | .str _ => (show kitB "str" "str" = some true by decide +kernel)
  | .list _ => (show kitB "list" "str" = some false by decide +kernel)
  | .tuple _ => (show kitB "tuple" "str" = some false by decide +kernel)
  | .dict _ => (show kitB "dict" "str" = some false by decide +kernel)
theorem kit_tup : ∀ d : PyData, kitB (tyName d) "tuple" = some (isTupT d)
  | .none => (show kitB "NoneType" "tuple" = some false by decide +kernel)
  | .bool _ => (show kitB "bool" "tuple" = some false by decide +kernel)
  | .int _ => (show kitB "int" "tuple" = some false by decide +kernel)
  | .str _ => (show kitB "str" "tuple" = some false by decide +kernel)
  | .list _ => (show kitB "list" "tuple" = some false by decide +kernel)
  | .tuple _ => (show kitB "tuple" "tuple" = some true by decide +kernel)
  | .dict _ => (show kitB "dict" "tuple" = some false by decide +kernel)
/-- isinstance(x, T) of data, as a value -/
theorem rd_isi {K : PySem.W.Frag} {σ : L2.St} {H : Hp} {T : String} {v : V} {d : PyData} {b : Bool} {Q : VK} {i : Nat} (hv : σ[i]? = some (some v)) (h : Dd K H v d) (hk : kitB (tyName d) T = some b) (q : Q (.bl b) H) :
    tCB (rIsi K) (tCons (tVar i) (tCons (tC (.ty T)) tNil)) σ H Q := ⟨v, hv, v, .ty T, _, _, b, rfl, .ty _, h.tyx, kit_ty hk, q⟩
/-- a and .. of such answers -/
theorem rd_andT {a b : TE} {σ : L2.St} {H : Hp} {Q : VK} (h : a σ H fun x H1 => x = .bl true ∧ b σ H1 Q) (m : ∀ {R R' : VK}, (∀ x H1, R x H1 → R' x H1) → a σ H R → a σ H R') : tAndV a b σ H Q :=
  m (fun x H1 z => ⟨true, z.1, iteT z.2⟩) h
def betD (lo hi : Int) (d : PyData) : Bool := match d with
  | .int i => decide (lo ≤ i) && decide (i ≤ hi) | _ => false
end DW
namespace K0
open PySem PySem.Spec PyProof.Rows L2 DW
def top (i : Nat) : Stmt := PySem.Challenge.pw_dawnway_k00_names_ticks_and_what_is_seen.main.body.getD i (.Pass ⟨0, 0, 0, 0⟩)
abbrev sIsInt : Stmt := top 14
abbrev sBet : Stmt := top 15
abbrev sIsName : Stmt := top 16
abbrev sIsTick : Stmt := top 17
abbrev sAsc : Stmt := top 18
abbrev sIsNames : Stmt := top 19
abbrev sIsPair : Stmt := top 20
abbrev sIsSeen : Stmt := top 21
section
variable {P : Program} {w : World} {K : PySem.W.Frag} {mg : Str → Option Value} {base : Heap}
def spBet (K : PySem.W.Frag) : Sp := fun vs H Q _ => ∃ v d lo hi, vs = [v, .int lo, .int hi] ∧ Dd K H v d ∧ Q (.bl (betD lo hi d)) H
theorem scBet : FnScope ["value", "least", "most"] ["value", "least", "most"] (defScope sBet) := ⟨rfl, rfl, rfl, by decide +kernel, rfl, by decide +kernel, by decide +kernel⟩
theorem ok_bet {f : Addr} {fd : FuncData} (F : Fun K "is_between" "is_between" sBet f fd) (zI : mg "isinstance" = none) (zT : mg "int" = none) (zB : mg "bool" = none) : FnOk P w K mg base CX0 1 f fd ["value", "least", "most"] (spBet K) := by
  refine F.ok scBet (fun vs H Q E h => ?_) (fun cdv A outer s H vs Q E hr h => ?_)
  · obtain ⟨v, d, lo, hi, rfl, _⟩ := h
    rfl
  · obtain ⟨v, d, lo, hi, rfl, hd, k⟩ := h
    refine ⟨_, pss_one (ps_ret (pe_and (pe_callB call_isi (by rfl) zI (by rfl) (pa_cons (pv 0) (pa_cons (pe_bltn rfl zT (by rfl) (show RelV (.ty "int") (.type "int") from rfl)) pa_nil)))
      (pe_and (pe_not (pe_callB call_isi (by rfl) zI (by rfl) (pa_cons (pv 0) (pa_cons (pe_bltn rfl zB (by rfl) (show RelV (.ty "bool") (.type "bool") from rfl)) pa_nil))))
      (pe_one (pe_chain op_le op_le (pv 1) (pv 0) (pv 2)))))), ?_⟩
    refine rd_isi rfl hd (kit_int d) ⟨_, rfl, ?_⟩
    cases d with
    | int i =>
      have e : v = .int i := by cases hd with | base h _ => cases h; rfl
      subst e
      refine iteT (rd_isi rfl hd (kit_bool (.int i)) ⟨_, rfl, _, rfl, iteT ?_⟩)
      refine ⟨_, rfl, _, rfl, _, _, rfl, rfl, _, rfl, ?_⟩
      by_cases h1 : lo ≤ i
      · rw [decide_eq_true h1]
        refine iteT ⟨_, rfl, _, _, rfl, rfl, ?_⟩
        have z : betD lo hi (.int i) = decide (i ≤ hi) := by simp [betD, h1]
        rw [z] at k
        exact k
      · rw [decide_eq_false h1]
        have z : betD lo hi (.int i) = false := by simp [betD, h1]
        rw [z] at k
        exact iteF k
    | bool b => exact iteT (rd_isi rfl hd (kit_bool (.bool b)) ⟨_, rfl, _, rfl, iteF k⟩)
    | none => exact iteF k
    | str x => exact iteF k
    | list x => exact iteF k
    | tuple x => exact iteF k
    | dict x => exact iteF k
end
end K0

namespace DW
open PySem PySem.Spec PyProof.Rows L2
/-- [e for c in s if ..], s a text -/
theorem lc_str {x : Str} {g : TG} {tt : TT} {te : TE} {vs : List Nat} {σ : L2.St} {H1 : Hp} {D : Addr} {Qd : Hp → Prop} (Pv : Nat → Hp → Prop) (h0 : Pv 0 (upd H1 D (.lst [])))
    (hs : ∀ i c H, x.cps[i]? = some c → Pv i H → g (.str ⟨#[c]⟩) (wipe σ vs) H fun σ2 H2 => wipe σ2 vs = wipe σ vs ∧ tt σ2 H2 fun b H3 =>
      if b = true then te σ2 H3 fun y H4 => ∃ acc, H4 D = some (.lst acc) ∧ acc.length < sizeLine ∧ Pv (i + 1) (upd H4 D (.lst (acc ++ [y]))) else Pv (i + 1) H3) (hd : ∀ H, Pv x.cps.size H → Qd H) :
    ∃ W : Nat → Nat → Hp → Prop, (∃ m, W 0 m (upd H1 D (.lst []))) ∧ ∀ i m H, W i m H →
      ((Its x).stop i H ∧ Qd H) ∨ ((Its x).go i H ∧ ∃ Nx : Hp → Prop, (∀ H', Nx H' → ∃ m', m' < m ∧ W (i + 1) m' H') ∧ ∀ v H', (Its x).yld i H v H' → g v (wipe σ vs) H' fun σ2 H2 => wipe σ2 vs = wipe σ vs ∧ tt σ2 H2 fun b H3 =>
        if b = true then te σ2 H3 fun y H4 => ∃ acc, H4 D = some (.lst acc) ∧ acc.length < sizeLine ∧ Nx (upd H4 D (.lst (acc ++ [y]))) else Nx H3) := by
  refine ⟨fun i m H => m = x.cps.size - i ∧ i ≤ x.cps.size ∧ Pv i H, ⟨x.cps.size, by simp, Nat.zero_le _, h0⟩, ?_⟩
  rintro i m H ⟨rfl, hi, p⟩
  by_cases hlt : i < x.cps.size
  · refine .inr ⟨hlt, Pv (i + 1), fun H' p' => ⟨x.cps.size - (i + 1), by omega, rfl, hlt, p'⟩, fun v H' y => ?_⟩
    obtain ⟨e, c, hc, ev⟩ := y
    subst e ev
    exact hs i c _ hc p
  · have e : i = x.cps.size := by omega
    subst e
    exact .inl ⟨Nat.le_refl _, hd H p⟩
/-- what is judged: not too long -/
def Fit (d : PyData) : Prop := ∀ z, d = .str z → z.length ≤ 1000
end DW
namespace K0
open PySem PySem.Spec PyProof.Rows L2 DW
def firstL : Str := "abcdefghijklmnopqrstuvwxyz"
def lettL : Str := "abcdefghijklmnopqrstuvwxyz0123456789."
def nameS (z : Str) : Bool := decide (1 ≤ z.length) && (decide (z.length ≤ 12) && (!decide (z = ("dawn" : Str)) && (decide ((z.cps.toList.getD 0 0) ∈ firstL.cps.toList) && z.cps.toList.all fun c => decide (c ∈ lettL.cps.toList))))
def isNameD (d : PyData) : Bool := match d with
  | .str z => nameS z | _ => false
structure Glo (mg : Str → Option Value) : Prop where
  far : ∃ t, mg "_TOO_LONG" = some (.int (10 ^ 40) t)
  tick : ∃ t, mg "MAX_TICK" = some (.int (10 ^ 34) t)
  lett : ∃ t, mg "MAX_LETTERS" = some (.int 12 t)
  dawn : ∃ t, mg "DAWN" = some (.str "dawn" t)
  fst : ∃ t, mg "_FIRST_LETTERS" = some (.str firstL t)
  all : ∃ t, mg "_LETTERS" = some (.str lettL t)
section
variable {P : Program} {w : World} {K : PySem.W.Frag} {mg : Str → Option Value} {base : Heap}
def spJ (K : PySem.W.Frag) (f : PyData → Bool) : Sp := fun vs H Q _ => ∃ v d, vs = [v] ∧ Dd K H v d ∧ Fit d ∧ ∀ H', Same H H' → Q (.bl (f d)) H'
theorem scInt : FnScope ["value"] ["value"] (defScope sIsInt) := ⟨rfl, rfl, rfl, by decide +kernel, rfl, by decide +kernel, by decide +kernel⟩
theorem scTick : FnScope ["value"] ["value"] (defScope sIsTick) := ⟨rfl, rfl, rfl, by decide +kernel, rfl, by decide +kernel, by decide +kernel⟩
theorem ok_int {f fB : Addr} {fd dB : FuncData} (F : Fun K "is_integer" "is_integer" sIsInt f fd) (GB : FnOk P w K mg base CX0 1 fB dB ["value", "least", "most"] (spBet K)) (kB : PySem.W.keepIn K (.ref fB) = true) (bB : Binds K dB ["value", "least", "most"] []) (gB : mg "is_between" = some (.ref fB)) (G : Glo mg) :
    FnOk P w K mg base CX0 2 f fd ["value"] (spJ K (betD (1 - 10 ^ 40) (10 ^ 40 - 1))) := by
  refine F.ok scInt (fun vs H Q E h => ?_) (fun cdv A outer s H vs Q E hr h => ?_)
  · obtain ⟨v, d, rfl, _⟩ := h
    rfl
  · obtain ⟨v, d, rfl, hd, _, k⟩ := h
    obtain ⟨t, g⟩ := G.far
    have pf : ∀ {pos}, PE (cxOf CX0 P w K mg base ["value"] "is_integer" (defScope sIsInt) f cdv A outer s H E).nox (.Name "_TOO_LONG" pos) (tC (.int (10 ^ 40))) := pe_glob rfl g ⟨t, rfl⟩
    refine ⟨_, pss_one (ps_ret (pe_call GB hr rfl gB kB bB .nil pass0 (pa_cons (pv 0) (pa_cons (pe_op op_sub pe_int pf) (pa_cons (pe_op op_sub pf pe_int) pa_nil))))), ?_⟩
    exact ⟨_, rfl, _, _, rfl, rfl, _, _, rfl, rfl, v, d, _, _, rfl, hd, k _ (Same.refl H)⟩
theorem ok_tick {f fB : Addr} {fd dB : FuncData} (F : Fun K "is_tick" "is_tick" sIsTick f fd) (GB : FnOk P w K mg base CX0 1 fB dB ["value", "least", "most"] (spBet K)) (kB : PySem.W.keepIn K (.ref fB) = true) (bB : Binds K dB ["value", "least", "most"] []) (gB : mg "is_between" = some (.ref fB)) (G : Glo mg) :
    FnOk P w K mg base CX0 2 f fd ["value"] (spJ K (betD 0 (10 ^ 34))) := by
  refine F.ok scTick (fun vs H Q E h => ?_) (fun cdv A outer s H vs Q E hr h => ?_)
  · obtain ⟨v, d, rfl, _⟩ := h
    rfl
  · obtain ⟨v, d, rfl, hd, _, k⟩ := h
    obtain ⟨t, g⟩ := G.tick
    refine ⟨_, pss_one (ps_ret (pe_call GB hr rfl gB kB bB .nil pass0 (pa_cons (pv 0) (pa_cons pe_int (pa_cons (pe_glob rfl g (show RelV (.int (10 ^ 34)) (.int (10 ^ 34) t) from ⟨t, rfl⟩)) pa_nil))))), ?_⟩
    exact ⟨_, rfl, v, d, _, _, rfl, hd, k _ (Same.refl H)⟩
theorem scName : FnScope ["value", "letter"] ["value"] (defScope sIsName) := ⟨rfl, rfl, rfl, by decide +kernel, rfl, by decide +kernel, by decide +kernel⟩
theorem dec_strV {a b : Str} : decide (V.str a = V.str b) = decide (a = b) := by
  by_cases h : a = b
  · subst h
    simp
  · rw [decide_eq_false h, decide_eq_false (by intro z; cases z; exact h rfl)]
/-- all([c in LETTERS for c in s]) -/
theorem rd_allS {z L : Str} {H : Hp} {x1 : Option V} {Q : VK} (hz : z.length ≤ 1000) (k : ∀ H', Same H H' → Q (.bl (z.cps.toList.all fun c => decide (c ∈ L.cps.toList))) H') :
    tCB (rAll K) (tCons (tLc (iStr (tVar 0)) (gName 1) tYes (tOp (fun x y H Q => ∃ (c : Nat) (z : Str), x = .str ⟨#[c]⟩ ∧ y = .str z ∧ Q (.bl (decide (c ∈ z.cps.toList))) H) (tVar 1) (tC (.str L))) [1]) tNil) [some (.str z), x1] H Q := by
  refine ⟨_, rfl, z, rfl, fun D hD => lc_str (fun i H' => Same H H' ∧ H' D = some (.lst ((z.cps.toList.take i).map fun c => V.bl (decide (c ∈ L.cps.toList))))) ⟨same_new hD, upd_same⟩ (fun i c H' hc p => ⟨rfl, tyes ?_⟩) (fun H' p => ?_)⟩
  · obtain ⟨s1, hy⟩ := p
    have hc2 : z.cps.toList[i]? = some c := by rw [← hc]; simp
    have hi : i < z.cps.toList.length := by
      rcases Nat.lt_or_ge i z.cps.toList.length with q | q
      · exact q
      · rw [List.getElem?_eq_none q] at hc2; cases hc2
    refine ⟨_, rfl, c, L, rfl, rfl, _, hy, ?_, same_mut s1 hD, ?_⟩
    · have h1 : z.cps.toList.length = z.length := by simp [Str.length]
      rw [List.length_map, List.length_take, sizeLine_eq]
      omega
    · rw [upd_same, List.take_add_one, hc2, List.map_append]
      rfl
  · obtain ⟨s1, hy⟩ := p
    have e : z.cps.toList.take z.cps.size = z.cps.toList := List.take_of_length_le (by simp)
    rw [e] at hy
    have e2 : (z.cps.toList.map fun c => V.bl (decide (c ∈ L.cps.toList))) = ((z.cps.toList.map fun c => decide (c ∈ L.cps.toList)).map V.bl) := by rw [List.map_map]; rfl
    rw [e2] at hy
    refine ⟨D, _, rfl, SqL.of hy, ?_⟩
    have e3 : (z.cps.toList.map fun c => decide (c ∈ L.cps.toList)).all id = z.cps.toList.all fun c => decide (c ∈ L.cps.toList) := by rw [List.all_map]; rfl
    rw [e3]
    exact k H' s1
theorem ok_name {f : Addr} {fd : FuncData} (F : Fun K "is_name" "is_name" sIsName f fd) (G : Glo mg) (zI : mg "isinstance" = none) (zS : mg "str" = none) (zL : mg "len" = none) (zA : mg "all" = none) :
    FnOk P w K mg base CX0 1 f fd ["value"] (spJ K isNameD) := by
  refine F.ok scName (fun vs H Q E h => ?_) (fun cdv A outer s H vs Q E hr h => ?_)
  · obtain ⟨v, d, rfl, _⟩ := h
    rfl
  · obtain ⟨v, d, rfl, hd, ft, k⟩ := h
    obtain ⟨t1, g1⟩ := G.lett
    obtain ⟨t2, g2⟩ := G.dawn
    obtain ⟨t3, g3⟩ := G.fst
    obtain ⟨t4, g4⟩ := G.all
    refine ⟨_, pss_cons (ps_if (PW.pt (pw_or (pt_not (pt_val (pe_callB call_isi (by rfl) zI (by rfl) (pa_cons (pv 0) (pa_cons (pe_bltn rfl zS (by rfl) (show RelV (.ty "str") (.type "str") from rfl)) pa_nil)))))
        (pw_or (pt_not (pt_chain op_le op_le pe_int (pe_callB call_len_str (by rfl) zL PySem.boot_len (pa_cons (pv 0) pa_nil)) (pe_glob rfl g1 (show RelV (.int 12) (.int 12 t1) from ⟨t1, rfl⟩))))
        (pw_or1 (pt_cmpR op_eq (pv 0) (pe_glob rfl g2 (show RelV (.str "dawn") (.str "dawn" t2) from ⟨t2, rfl⟩)) (nomark _))))))
        (pss_one (ps_ret pe_bl)) pss_nil)
      (pss_one (ps_ret (pe_and (pe_cmpR op_in_sign (pe_ix ix_str (pv 0) pe_int (fun _ _ => rfl)) (pe_glob rfl g3 (show RelV (.str firstL) (.str firstL t3) from ⟨t3, rfl⟩)) (by rfl))
        (pe_one (pe_callB (cr_all rfl) (by rfl) zA (by decide +kernel) (pa_cons (pe_lc (own := [("letter", 1)]) (g := gName 1) (tt := tYes) rfl scName.nd (pi_str (pv 0)) (blkOk_by (own := [("letter", 1)]) (N := ["value", "letter"]) (sc := defScope sIsName) (by decide +kernel))
          (fun _ _ _ _ _ => pg_name (i := 1) scName.nd rfl (Or.inl rfl)) (fun _ _ _ _ _ => pts_nil) (fun _ _ _ _ _ => pe_cmpR op_in_sign (pv 1) (pe_glob rfl g4 (show RelV (.str lettL) (.str lettL t4) from ⟨t4, rfl⟩)) (by rfl))) pa_nil)))))), ?_⟩
    have no : isNameD d = false → Q (.bl false) H := fun e => by
      have z := k H (Same.refl H)
      rw [e] at z
      exact z
    refine rd_isi rfl hd (kit_str d) ⟨_, rfl, ?_⟩
    match d, hd, ft, k, no with
    | .str z, hd, ft, k, no =>
      have e : v = .str z := by cases hd with | base h _ => cases h; rfl
      subst e
      have hz := ft z rfl
      have hzs : z.length ≤ sizeLine := by rw [sizeLine_eq]; omega
      refine iteF ⟨_, rfl, z, rfl, hzs, _, _, rfl, rfl, _, rfl, ?_⟩
      by_cases h1 : (1 : Int) ≤ z.length
      · rw [decide_eq_true h1]
        refine iteT ⟨_, _, rfl, rfl, _, rfl, ?_⟩
        by_cases h2 : (z.length : Int) ≤ 12
        · rw [decide_eq_true h2]
          refine iteF ⟨_, rfl, rfl, _, rfl, ?_⟩
          rw [dec_strV]
          by_cases h3 : z = ("dawn" : Str)
          · rw [decide_eq_true h3]
            exact iteT (no (by show nameS z = false; simp [nameS, h3]))
          · rw [decide_eq_false h3]
            refine iteF ?_
            have n1 : 1 ≤ z.length := by omega
            have n2 : z.length ≤ 12 := by omega
            have hc : ∃ c, z.cps.toList[0]? = some c := by
              have q : 0 < z.cps.toList.length := by
                have h1 : z.cps.toList.length = z.length := by simp [Str.length]
                omega
              exact ⟨_, List.getElem?_eq_getElem q⟩
            obtain ⟨c, hc⟩ := hc
            have ed : z.cps.toList.getD 0 0 = c := by rw [List.getD_eq_getElem?_getD, hc]; rfl
            refine ⟨_, rfl, z, 0, c, rfl, rfl, hzs, atI_nat (j := 0) hc, c, firstL, rfl, rfl, _, rfl, ?_⟩
            by_cases h4 : c ∈ firstL.cps.toList
            · rw [decide_eq_true h4]
              refine iteT (rd_allS hz fun H' s1 => ?_)
              have q := k H' s1
              have e : isNameD (.str z) = z.cps.toList.all fun c => decide (c ∈ lettL.cps.toList) := by
                show nameS z = _
                simp only [nameS, ed, decide_eq_true n1, decide_eq_true n2, decide_eq_false h3, decide_eq_true h4, Bool.not_false, Bool.true_and]
              rw [e] at q
              exact q
            · rw [decide_eq_false h4]
              refine iteF (no ?_)
              show nameS z = false
              simp only [nameS, ed, decide_eq_false h4, Bool.false_and, Bool.and_false]
        · rw [decide_eq_false h2]
          refine iteT (no ?_)
          have n2 : ¬ z.length ≤ 12 := by omega
          show nameS z = false
          simp only [nameS, decide_eq_false n2, Bool.false_and, Bool.and_false]
      · rw [decide_eq_false h1]
        refine iteF ⟨_, rfl, iteT (no ?_)⟩
        have n1 : ¬ 1 ≤ z.length := by omega
        show nameS z = false
        simp only [nameS, decide_eq_false n1, Bool.false_and]
    | .none, _, _, _, no => exact iteT (no rfl)
    | .bool _, _, _, _, no => exact iteT (no rfl)
    | .int _, _, _, _, no => exact iteT (no rfl)
    | .list _, _, _, _, no => exact iteT (no rfl)
    | .tuple _, _, _, _, no => exact iteT (no rfl)
    | .dict _, _, _, _, no => exact iteT (no rfl)
end
end K0

namespace DW
open PySem PySem.Spec PyProof.Rows L2
theorem sqT_same {K : PySem.W.Frag} {H H' : Hp} {a : Addr} {xs : List V} (s : Same H H') (h : SqT K H a xs) : SqT K H' a xs := by
  rcases h with (e | ⟨o, e⟩) | h
  · exact .inl (.inl (s _ _ e))
  · exact .inl (.inr ⟨o, s _ _ e⟩)
  · exact .inr h
mutual
theorem Dp.same {K : PySem.W.Frag} {H H' : Hp} (s : Same H H') : ∀ {v : V} {d : PyData}, Dp K H v d → Dp K H' v d
  | _, _, .non => .non
  | _, _, .bl b => .bl b
  | _, _, .int i => .int i
  | _, _, .str x => .str x
  | _, _, .lst h a => .lst (Same.seq s h) (DpAll.same s a)
  | _, _, .tup h a => .tup (sqT_same s h) (DpAll.same s a)
theorem DpAll.same {K : PySem.W.Frag} {H H' : Hp} (s : Same H H') : ∀ {vs : List V} {ds : List PyData}, DpAll K H vs ds → DpAll K H' vs ds
  | _, _, .nil => .nil
  | _, _, .cons a b => .cons (Dp.same s a) (DpAll.same s b)
end
theorem DpAll.length {K : PySem.W.Frag} {H : Hp} : ∀ {vs : List V} {ds : List PyData}, DpAll K H vs ds → vs.length = ds.length
  | _, _, .nil => rfl
  | _, _, .cons _ b => by rw [List.length_cons, List.length_cons, DpAll.length b]
theorem DpAll.at {K : PySem.W.Frag} {H : Hp} : ∀ {vs : List V} {ds : List PyData} {i : Nat} {v : V}, DpAll K H vs ds → vs[i]? = some v → ∃ d, ds[i]? = some d ∧ Dp K H v d
  | _, _, _, _, .nil, h => by simp at h
  | _, _, 0, v, .cons a b, h => by
    simp at h
    subst h
    exact ⟨_, rfl, a⟩
  | _, _, i + 1, v, .cons a b, h => by
    obtain ⟨d, e, q⟩ := DpAll.at b (i := i) (v := v) (by simpa using h)
    exact ⟨d, by simpa using e, q⟩
def Fn : Nat → PyData → Prop
  | 0, d => Fit d
  | n + 1, d => Fit d ∧ ∀ ds, d = .tuple ds → ds.length ≤ 1000 ∧ ∀ x ∈ ds, Fn n x
theorem Fn.fit : ∀ {n : Nat} {d : PyData}, Fn n d → Fit d
  | 0, _, h => h
  | _ + 1, _, h => h.1
section
variable {X : Cx}
def rLtD (K : PySem.W.Frag) : R2 := fun x y H Q => ∃ d e, Dp K H x d ∧ Dp K H y e ∧ PySem.W.alike d e = true ∧ d ≠ .none ∧ d.depth ≤ 60 ∧ Q (.bl (PySem.W.dataLt d e)) H
theorem op_ltD (hu : X.A.units + 64 < cLine) : OpR X (compareOp .Lt) (rLtD X.K) := by
  intro pins s σ H x y v u Q I rx ry h
  obtain ⟨d, e, hd, he, al, nn, dp, q⟩ := h
  obtain ⟨as, r1⟩ := Dp.reads I d x v hd rx
  obtain ⟨bs, r2⟩ := Dp.reads I e y u he ry
  exact PySem.W.lt_data r1 r2 al nn (by omega) ⟨.bl _, H, I, rfl, q⟩
end
end DW

namespace K0
open PySem PySem.Spec PyProof.Rows L2 DW
/-- neighbours that can be compared -/
def Cmp (ds : List PyData) : Prop := ∀ i x y, ds[i]? = some x → ds[i + 1]? = some y → PySem.W.alike x y = true ∧ x ≠ .none ∧ x.depth ≤ 60
def ascD (ds : List PyData) : Bool := (List.range (ds.length - 1)).all fun i => PySem.W.dataLt (ds.getD i .none) (ds.getD (i + 1) .none)
section
variable {P : Program} {w : World} {K : PySem.W.Frag} {mg : Str → Option Value} {base : Heap}
def spAsc (K : PySem.W.Frag) : Sp := fun vs H Q _ => ∃ (a : Addr) (xs : List V) (ds : List PyData), vs = [.ref a] ∧ SqT K H a xs ∧ DpAll K H xs ds ∧ ds.length ≤ 1000 ∧ Cmp ds ∧ ∀ H', Same H H' → Q (.bl (ascD ds)) H'
theorem scAsc : FnScope ["values", "at"] ["values"] (defScope sAsc) := ⟨rfl, rfl, rfl, by decide +kernel, rfl, by decide +kernel, by decide +kernel⟩
/-- all of a list of answers, made turn by turn -/
theorem fin_all {H : Hp} {D : Addr} {bs : List Bool} {Q : VK} (hy : H D = some (.lst (bs.map V.bl))) (q : Q (.bl (bs.all id)) H) : rAll K [.ref D] H Q := ⟨D, bs, rfl, SqL.of hy, q⟩
theorem ok_asc {f : Addr} {fd : FuncData} (F : Fun K "is_ascending" "is_ascending" sAsc f fd) (zA : mg "all" = none) (zR : mg "range" = none) (zL : mg "len" = none) : FnOk P w K mg base CX0 1 f fd ["values"] (spAsc K) := by
  refine F.ok scAsc (fun vs H Q E h => ?_) (fun cdv A outer s H vs Q E hr h => ?_)
  · obtain ⟨a, xs, ds, rfl, _⟩ := h
    rfl
  · obtain ⟨a, xs, ds, rfl, ha, hp, hl, hc, k⟩ := h
    refine ⟨_, pss_one (ps_ret (pe_callB (cr_all rfl) (by rfl) zA (by decide +kernel) (pa_cons (pe_lc (own := [("at", 1)]) (g := gName 1) (tt := tYes) rfl scAsc.nd
      (pi_range1 rfl zR (pa_cons (pe_op op_sub (pe_callB call_len_seq (by rfl) zL PySem.boot_len (pa_cons (pv 0) pa_nil)) pe_int) pa_nil))
      (blkOk_by (own := [("at", 1)]) (N := ["values", "at"]) (sc := defScope sAsc) (by decide +kernel)) (fun _ _ _ _ _ => pg_name (i := 1) scAsc.nd rfl (Or.inl rfl)) (fun _ _ _ _ _ => pts_nil)
      (fun _ _ _ _ _ => pe_cmpR (r := rLtD K) (op_ltD hr.units) (pe_ix (r := rIxT K) ix_tup (pv 0) (pv 1) (fun _ _ => rfl)) (pe_ix (r := rIxT K) ix_tup (pv 0) (pe_op op_add (pv 1) pe_int) (fun _ _ => rfl)) (nomark _))) pa_nil))), ?_⟩
    have hlen : xs.length = ds.length := DpAll.length hp
    refine ⟨_, rfl, a, xs, rfl, .inr ha, _, _, rfl, rfl, _, rfl, by omega, by omega, fun D hD => ?_⟩
    have en : ((((xs.length : Nat) : Int) - 1)).toNat = ds.length - 1 := by omega
    rw [en]
    refine lc_range (lo := 0) (n := ds.length - 1) (fun i H' => Same H H' ∧ H' D = some (.lst (((List.range i).map fun j => PySem.W.dataLt (ds.getD j .none) (ds.getD (j + 1) .none)).map V.bl))) ⟨same_new hD, upd_same⟩ (fun i H' hi p => ⟨rfl, tyes ?_⟩) (fun H' p => ?_)
    · obtain ⟨s1, hy⟩ := p
      have hx : i < xs.length := by omega
      have hx1 : i + 1 < xs.length := by omega
      have e0 : xs[i]? = some xs[i] := List.getElem?_eq_getElem hx
      have e1 : xs[i + 1]? = some xs[i + 1] := List.getElem?_eq_getElem hx1
      obtain ⟨d0, f0, r0⟩ := DpAll.at hp e0
      obtain ⟨d1, f1, r1⟩ := DpAll.at hp e1
      obtain ⟨al, nn, dp⟩ := hc i d0 d1 f0 f1
      have z0 : (0 : Int) + (i : Nat) = ((i : Nat) : Int) := by omega
      have z1 : ((0 : Int) + (i : Nat)) + 1 = ((i + 1 : Nat) : Int) := by omega
      refine ⟨_, rfl, _, rfl, a, xs, _, _, rfl, rfl, sqT_same s1 ha, by rw [z0]; exact atI_nat e0, ?_⟩
      refine ⟨_, rfl, _, rfl, _, _, rfl, rfl, a, xs, _, _, rfl, rfl, sqT_same s1 ha, by rw [z1]; exact atI_nat e1, ?_⟩
      refine ⟨d0, d1, Dp.same s1 r0, Dp.same s1 r1, al, nn, dp, _, hy, ?_, same_mut s1 hD, ?_⟩
      · rw [List.length_map, List.length_map, List.length_range, sizeLine_eq]
        omega
      · rw [upd_same, List.range_succ, List.map_append, List.map_append]
        have g0 : ds.getD i .none = d0 := by rw [List.getD_eq_getElem?_getD, f0]; rfl
        have g1 : ds.getD (i + 1) .none = d1 := by rw [List.getD_eq_getElem?_getD, f1]; rfl
        simp only [List.map_cons, List.map_nil, g0, g1]
    · obtain ⟨s1, hy⟩ := p
      refine fin_all hy ?_
      rw [List.all_map]
      exact k H' s1
end
end K0

namespace DW
open PySem PySem.Spec PyProof.Rows L2
theorem noDict_all : ∀ {ds : List PyData}, PyData.hasDictAll ds = false → ∀ x ∈ ds, x.hasDict = false
  | [], _, x, h => by cases h
  | d :: ds, e, x, h => by
    have e' : (d.hasDict || PyData.hasDictAll ds) = false := e
    rw [Bool.or_eq_false_iff] at e'
    rcases List.mem_cons.mp h with rfl | h
    · exact e'.1
    · exact noDict_all e'.2 x h
theorem Dd.tup_inv {K : PySem.W.Frag} {H : Hp} {v : V} {ds : List PyData} (h : Dd K H v (.tuple ds)) : ∃ a xs, v = .ref a ∧ SqT K H a xs ∧ DpAll K H xs ds ∧ ∀ x ∈ ds, x.hasDict = false := by
  cases h with
  | base h n =>
    cases h with
    | tup hs ha => exact ⟨_, _, rfl, hs, ha, noDict_all n⟩
end DW
namespace K0
open PySem PySem.Spec PyProof.Rows L2 DW
section
variable {P : Program} {w : World} {K : PySem.W.Frag} {mg : Str → Option Value} {base : Heap}
def spJn (K : PySem.W.Frag) (n : Nat) (f : PyData → Bool) : Sp := fun vs H Q _ => ∃ v d, vs = [v] ∧ Dd K H v d ∧ Fn n d ∧ ∀ H', Same H H' → Q (.bl (f d)) H'
/-- all([f(x) for x in t]), t a tuple of data -/
theorem rd_allT {f : PyData → Bool} {n : Nat} {a : Addr} {xs : List V} {ds : List PyData} {H : Hp} {x1 : Option V} {rest : L2.St} {sp : Sp} {Q : VK} (ha : SqT K H a xs) (hp : DpAll K H xs ds) (hn : ∀ x ∈ ds, x.hasDict = false) (hf : ∀ x ∈ ds, Fn n x) (hl : ds.length ≤ 1000)
    (call : ∀ (v : V) (d : PyData) (H1 : Hp) (R : VK), Dd K H1 v d → Fn n d → (∀ H2, Same H1 H2 → R (.bl (f d)) H2) → sp [v] H1 R E0) (k : ∀ H', Same H H' → Q (.bl (ds.all f)) H') :
    tCB (rAll K) (tCons (tLc (iTup K (tVar 0)) (gName 1) tYes (tCall sp [] E0 (tCons (tVar 1) tNil)) [1]) tNil) (some (.ref a) :: x1 :: rest) H Q := by
  refine ⟨_, rfl, a, rfl, ⟨xs, ha⟩, fun D hD => lc_tup (K := K) (xs := xs) (fun i H' => Same H H' ∧ H' D = some (.lst (((ds.take i).map f).map V.bl))) ⟨same_new hD, upd_same⟩ (fun i H' _ p => sqT_same p.1 ha)
    (fun i x H' hx p => ⟨rfl, tyes ⟨_, rfl, ?_⟩⟩) (fun H' p => ?_)⟩
  · obtain ⟨s1, hy⟩ := p
    obtain ⟨d, hd, hr⟩ := DpAll.at hp hx
    have hm : d ∈ ds := List.mem_of_getElem? hd
    refine call x d H' _ (.base (Dp.same s1 hr) (hn d hm)) (hf d hm) fun H2 s2 => ⟨_, s2 _ _ hy, ?_, same_mut (s1.trans s2) hD, ?_⟩
    · rw [List.length_map, List.length_map, List.length_take, sizeLine_eq]
      omega
    · rw [upd_same, takeSucc hd]
      simp
  · obtain ⟨s1, hy⟩ := p
    rw [DpAll.length hp, List.take_length] at hy
    refine fin_all hy ?_
    rw [List.all_map]
    exact k H' s1
def pairD (d : PyData) : Bool := match d with
  | .tuple ds => decide (ds.length = 2) | _ => false
def namesD (d : PyData) : Bool := match d with
  | .tuple ds => ds.all isNameD && ascD ds | _ => false
theorem scPair : FnScope ["value"] ["value"] (defScope sIsPair) := ⟨rfl, rfl, rfl, by decide +kernel, rfl, by decide +kernel, by decide +kernel⟩
theorem ok_pair {f : Addr} {fd : FuncData} (F : Fun K "is_pair" "is_pair" sIsPair f fd) (zI : mg "isinstance" = none) (zT : mg "tuple" = none) (zL : mg "len" = none) : FnOk P w K mg base CX0 1 f fd ["value"] (spJn K 0 pairD) := by
  refine F.ok scPair (fun vs H Q E h => ?_) (fun cdv A outer s H vs Q E hr h => ?_)
  · obtain ⟨v, d, rfl, _⟩ := h
    rfl
  · obtain ⟨v, d, rfl, hd, _, k⟩ := h
    have k := k H (Same.refl H)
    refine ⟨_, pss_one (ps_ret (pe_and (pe_callB call_isi (by rfl) zI (by rfl) (pa_cons (pv 0) (pa_cons (pe_bltn rfl zT (by rfl) (show RelV (.ty "tuple") (.type "tuple") from rfl)) pa_nil)))
      (pe_one (pe_cmpR op_eq (pe_callB call_len_seq (by rfl) zL PySem.boot_len (pa_cons (pv 0) pa_nil)) pe_int (nomark _))))), ?_⟩
    refine rd_isi rfl hd (kit_tup d) ⟨_, rfl, ?_⟩
    match d, hd, k with
    | .tuple ds, hd, k =>
      obtain ⟨a, xs, rfl, hs, ha, _⟩ := hd.tup_inv
      refine iteT ⟨_, rfl, a, xs, rfl, .inr hs, rfl, ?_⟩
      have e : decide (V.int ((xs.length : Nat) : Int) = V.int 2) = decide (ds.length = 2) := by
        rw [DpAll.length ha, dec_int]
        by_cases q : ds.length = 2
        · rw [q]; rfl
        · rw [decide_eq_false q, beq_eq_false_iff_ne]; omega
      rw [e]
      exact k
    | .none, _, k => exact iteF k
    | .bool _, _, k => exact iteF k
    | .int _, _, k => exact iteF k
    | .str _, _, k => exact iteF k
    | .list _, _, k => exact iteF k
    | .dict _, _, k => exact iteF k
theorem scNames : FnScope ["value", "item"] ["value"] (defScope sIsNames) := ⟨rfl, rfl, rfl, by decide +kernel, rfl, by decide +kernel, by decide +kernel⟩
theorem cmp_names {ds : List PyData} (h : ds.all isNameD = true) : Cmp ds := fun i x y hx hy => by
  rw [List.all_eq_true] at h
  have h1 := h x (List.mem_of_getElem? hx)
  have h2 := h y (List.mem_of_getElem? hy)
  match x, y, h1, h2 with
  | .str a, .str b, _, _ => exact ⟨by simp [PySem.W.alike], (fun z => nomatch z), by show PyData.depth (.str a) ≤ 60; simp [PyData.depth]⟩
theorem ok_names {f fN fA : Addr} {fd dN dA : FuncData} (F : Fun K "is_names" "is_names" sIsNames f fd) (GN : FnOk P w K mg base CX0 1 fN dN ["value"] (spJ K isNameD)) (kN : PySem.W.keepIn K (.ref fN) = true) (bN : Binds K dN ["value"] []) (gN : mg "is_name" = some (.ref fN))
    (GA : FnOk P w K mg base CX0 1 fA dA ["values"] (spAsc K)) (kA : PySem.W.keepIn K (.ref fA) = true) (bA : Binds K dA ["values"] []) (gA : mg "is_ascending" = some (.ref fA))
    (zI : mg "isinstance" = none) (zT : mg "tuple" = none) (zA : mg "all" = none) : FnOk P w K mg base CX0 2 f fd ["value"] (spJn K 1 namesD) := by
  refine F.ok scNames (fun vs H Q E h => ?_) (fun cdv A outer s H vs Q E hr h => ?_)
  · obtain ⟨v, d, rfl, _⟩ := h
    rfl
  · obtain ⟨v, d, rfl, hd, hf, k⟩ := h
    refine ⟨_, pss_one (ps_ret (pe_and (pe_callB call_isi (by rfl) zI (by rfl) (pa_cons (pv 0) (pa_cons (pe_bltn rfl zT (by rfl) (show RelV (.ty "tuple") (.type "tuple") from rfl)) pa_nil)))
      (pe_and (pe_callB (cr_all rfl) (by rfl) zA (by decide +kernel) (pa_cons (pe_lc (own := [("item", 1)]) (g := gName 1) (tt := tYes) rfl scNames.nd (pi_tup (pv 0)) (blkOk_by (own := [("item", 1)]) (N := ["value", "item"]) (sc := defScope sIsNames) (by decide +kernel))
          (fun _ _ _ _ _ => pg_name (i := 1) scNames.nd rfl (Or.inl rfl)) (fun _ _ _ _ _ => pts_nil) (fun _ _ _ _ _ => pe_call GN hr rfl gN kN bN .nil pass0 (pa_cons (pv 1) pa_nil))) pa_nil))
      (pe_one (pe_call GA hr rfl gA kA bA .nil pass0 (pa_cons (pv 0) pa_nil)))))), ?_⟩
    have no : namesD d = false → Q (.bl false) H := fun e => by
      have z := k H (Same.refl H)
      rw [e] at z
      exact z
    refine rd_isi rfl hd (kit_tup d) ⟨_, rfl, ?_⟩
    match d, hd, hf, k, no with
    | .tuple ds, hd, hf, k, no =>
      obtain ⟨a, xs, rfl, hs, ha, hn⟩ := hd.tup_inv
      obtain ⟨hl, hi⟩ := hf.2 ds rfl
      refine iteT (rd_allT (K := K) (f := isNameD) (n := 0) hs ha hn hi hl (fun v d H1 R h1 h2 h3 => ⟨v, d, rfl, h1, h2, h3⟩) fun H' s1 => ⟨_, rfl, ?_⟩)
      by_cases q : ds.all isNameD = true
      · rw [q]
        refine iteT ⟨_, rfl, a, xs, ds, rfl, sqT_same s1 hs, DpAll.same s1 ha, hl, cmp_names q, fun H2 s2 => ?_⟩
        have z := k H2 (s1.trans s2)
        have e : namesD (.tuple ds) = ascD ds := by show (ds.all isNameD && ascD ds) = ascD ds; rw [q]; rfl
        rw [e] at z
        exact z
      · have q' : ds.all isNameD = false := by simpa using q
        rw [q']
        refine iteF ?_
        have z := k H' s1
        have e : namesD (.tuple ds) = false := by show (ds.all isNameD && ascD ds) = false; rw [q']; rfl
        rw [e] at z
        exact z
    | .none, _, _, _, no => exact iteF (no rfl)
    | .bool _, _, _, _, no => exact iteF (no rfl)
    | .int _, _, _, _, no => exact iteF (no rfl)
    | .str _, _, _, _, no => exact iteF (no rfl)
    | .list _, _, _, _, no => exact iteF (no rfl)
    | .dict _, _, _, _, no => exact iteF (no rfl)
end
end K0

namespace DW
open PySem PySem.Spec PyProof.Rows L2
/-! ### set(texts), with as many texts as one likes below the scan's bound -/
/-- how many of the first i texts are new -/
def newN (xs : List Str) : Nat → Nat
  | 0 => 0
  | i + 1 => if (xs.take i).any (· == xs.getD i Str.empty) = true then newN xs i else newN xs i + 1
theorem newN_le (xs : List Str) : ∀ i, newN xs i ≤ i
  | 0 => Nat.le_refl 0
  | i + 1 => by
    have z := newN_le xs i
    unfold newN
    split <;> omega
abbrev inN (xs : List Str) (i : Nat) : Str → Bool := fun y => (xs.take i).any (· == y)
theorem inN_step {xs : List Str} {i : Nat} (h : i < xs.length) (y : Str) : (inN xs i y || decide (y = xs.getD i Str.empty)) = inN xs (i + 1) y := by
  have e : xs[i]? = some (xs.getD i Str.empty) := by rw [List.getD_eq_getElem?_getD, List.getElem?_eq_getElem h]; rfl
  unfold inN
  rw [takeSucc e, List.any_append, List.any_cons, List.any_nil, Bool.or_false]
  congr 1
  rw [Bool.eq_iff_iff, decide_eq_true_iff, beq_iff_eq]
  exact ⟨fun z => z.symm, fun z => z.symm⟩
section
variable {prog : Program} {w : World} {A : Around} {R : Result → Shared → Prop} {I : Addr} {fp wr : List Addr} {G : Array GenState → Array GenState → Prop} {n : Nat} {Pv : Nat → Value → Prop} {St : Nat → Shared → Prop}
theorem setLoop (W : WalksS prog w A.in1 I fp wr G n Pv St) {S : Addr} (out : S ∉ fp) {xs : List Str} (len : xs.length = n) (small : n + 1 < scanBound) (val : ∀ i v, Pv i v → ∃ t, v = .str (xs.getD i Str.empty) t) :
    ∀ (left i : Nat) (s : Shared), n - i = left → i ≤ n → St i s → s.heap.SetOf (PySem.strKind prog w) S (inN xs i) (newN xs i) →
      (∀ s', Moved (S :: wr) G s s' → s'.heap.SetOf (PySem.strKind prog w) S (inN xs n) (newN xs n) → R (.ok (.ret .none)) s') →
      codeAny (model prog w) A (.builtin "set.update.loop" ⟨[.ref S, .ref I], []⟩) R s := by
  have nw : S ∉ wr := fun z => out (W.sub _ z)
  have up : ∀ b ∈ wr, b ∈ S :: wr := fun b z => List.mem_cons_of_mem _ z
  have kept : ∀ {s s' : Shared} {f : Str → Bool} {m : Nat}, Moved wr G s s' → s.heap.SetOf (PySem.strKind prog w) S f m → s'.heap.SetOf (PySem.strKind prog w) S f m := fun mv ⟨o, es, ep, t, ho, more⟩ => ⟨o, es, ep, t, mv.heap S _ nw ho, more⟩
  intro left
  induction left with
  | zero =>
    intro i s hk hi hst hS fin
    obtain rfl : i = n := by omega
    refine codeAny_builtin PyProof.Rows.F.entry_set_update_loop (by
      rw [Around.under_plainId PyProof.Rows.F.plain_set_update_loop _]
      exact wpAny_bind (W.done s _ _ hst fun s' mv => wpAny_pure (fin s' (mv.mono up) (kept mv hS))))
  | succ left ih =>
    intro i s hk hi hst hS fin
    have lt : i < n := by omega
    refine codeAny_builtin PyProof.Rows.F.entry_set_update_loop (by
      rw [Around.under_plainId PyProof.Rows.F.plain_set_update_loop _]
      refine wpAny_bind (W.item i s _ _ lt hst fun v s1 hv hst1 mv => ?_)
      obtain ⟨t, rfl⟩ := val i v hv
      have hS1 := kept mv hS
      refine (show wpAny _ A.in1 (holding [Value.str (xs.getD i Str.empty) t] (setAdd S (.str (xs.getD i Str.empty) t)) >>= _) _ _ s1 from wpAny_bind (wpAny_holding ?_))
      unfold setAdd
      refine wpAny_holding (wpAny_bind ((PySem.strKind prog w).pyHash (k := xs.getD i Str.empty) (strKind_is _ _ _ _) ?_))
      have room := newN_le xs i
      refine wpAny_setAddHashed_of (knd := PySem.strKind prog w) (s := { s1 with toks := s1.toks + 1 }) (strKind_is _ _ _ _) rfl hS1 (by omega) fun h' but hS2 => ?_
      have hS3 : h'.SetOf (PySem.strKind prog w) S (inN xs (i + 1)) (newN xs (i + 1)) := PyProof.Rows.SetOf_congr hS2 (fun y => inN_step (by omega) y) rfl
      refine wpAny_pure ⟨plainId_quiet PyProof.Rows.F.plain_set_update_loop _, ih (i + 1) _ (by omega) lt (W.frame _ s1 _ _ hst1 (Nat.le_succ _) fun b hb o e => (but.2 b fun z => out (z ▸ hb)).trans e) hS3 fun s2 mv2 hS4 => ?_⟩
      exact fin s2 (Moved.trans W.gtrans ((mv.mono up).then_heap (Nat.le_succ _) fun b o hb e => (but.2 b fun z => hb (z ▸ List.mem_cons_self)).trans e) mv2) hS4)
end
section
variable {prog : Program} {w : World} {A : Around} {E : Value → Shared → Prop} {s : Shared}
abbrev rawSet (led : Bool) : Obj := { cls := .type "set", dict := none, data := .set #[] 0 (.fresh 0 0 led) }
/-- what stands behind the making: the set at a, all older objects as they were -/
def SetMade (prog : Program) (w : World) (h : Heap) (a : Addr) (xs : List Str) (h' : Heap) : Prop :=
  h'.SetOf (PySem.strKind prog w) a (inN xs xs.length) (newN xs xs.length) ∧ ∀ b o, b < h.objs.size → h.get? b = some o → h'.get? b = some o
theorem setFill {l : Addr} {items : Array Value} {xs : List Str} {led : Bool} (hh : A.handled = none) (hl : s.heap.IsList l items) (hi : PyProof.Rows.StrsAre items.toList xs) (small : xs.length + 1 < scanBound) :
    codeAny (model prog w) A (.call (.builtin "set.__init__") ⟨[.ref s.heap.objs.size, .ref l], []⟩)
      (wants (fun r s2 => r = .none ∧ ∃ h' tk, s2 = { s with heap := h', toks := tk } ∧ SetMade prog w s.heap s.heap.objs.size xs h') E) { s with heap := s.heap.push (rawSet led) } := by
  have hS : (s.heap.push (rawSet led)).get? s.heap.objs.size = some (rawSet led) := Heap.get?_push_size _ rfl
  have hT : Shared.TypeIs { s with heap := s.heap.push (rawSet led) } (.ref s.heap.objs.size) "set" := ⟨_, hS, rfl⟩
  refine codeAny_call_builtin PySem.F.called_set.init.plain PySem.F.entry_set_init (check_set_init_1 hT ?_)
  obtain ⟨⟨oc, odict, odata, oslots⟩, hol, hcl, nl, hdl⟩ := hl
  simp only at hcl hdl
  subst hcl hdl
  have hol1 := Heap.get?_push_of_some (rawSet led) hol
  have f1 := PySem.F.sub_list_set
  have f2 := PySem.F.sub_list_frozenset
  have f3 : (Value.type "list" == Value.type "dict") = false := by decide
  have hl1 : (s.heap.push (rawSet led)).IsList l items := ⟨_, hol1, rfl, nl, rfl⟩
  unfold Builtin.«set.__init__» noKeywords Builtin.Frozenset.updateFrom
  generalize hPI : pyIter = PI
  wp_walk
  subst hPI
  have old : l < s.heap.objs.size := Heap.lt_size hol
  have len : xs.length = items.size := (StrsAre.len_eq hi).symm.trans Array.length_toList
  have nI : l ≠ (s.heap.push (rawSet led)).objs.size := fun z => by rw [Heap.size_push] at z; exact Nat.ne_of_lt (Nat.lt_succ_of_lt old) z
  have out : s.heap.objs.size ∉ [(s.heap.push (rawSet led)).objs.size, l] := fun z => by
    rw [Heap.size_push] at z
    simp only [List.mem_cons, List.not_mem_nil, or_false] at z
    rcases z with z | z
    · exact Nat.ne_of_lt (Nat.lt_succ_self _) z
    · exact Nat.ne_of_lt old z.symm
  have vals : ∀ (i : Nat) (v : Value), items[i]? = some v → ∃ t, v = .str (xs.getD i Str.empty) t := fun i v e => SS.strs_at hi i v (Array.getElem?_toList.trans e)
  have get0 : ((s.heap.push (rawSet led)).push { cls := .type "list_iterator", data := .fields #[.ref l, .int 0 0] }).get? s.heap.objs.size = some (rawSet led) := Heap.get?_push_of_some _ hS
  have start : ((s.heap.push (rawSet led)).push { cls := .type "list_iterator", data := .fields #[.ref l, .int 0 0] }).SetOf (PySem.strKind prog w) s.heap.objs.size (inN xs 0) (newN xs 0) :=
    PyProof.Rows.SetOf_congr ((PyProof.Rows.setObjOf_fresh (knd := PySem.strKind prog w) led).setOf get0 (by unfold scanBound; omega)) (fun _ => rfl) rfl
  have W := (Walks.list (prog := prog) (w := w) (A := A.in1.in1) (by simp [hh]) (s.heap.push (rawSet led)).objs.size l nI items).toS
  refine wpAny_pyIter_list hl1 (wpAny_bind (wpAny_runValue (setLoop W out len (by omega) vals (items.size - 0) 0 { s with heap := (s.heap.push (rawSet led)).push { cls := .type "list_iterator", data := .fields #[.ref l, .int 0 0] } } (by omega) (Nat.zero_le _) ⟨⟨_, Heap.get?_push_size _ rfl, rfl, rfl⟩, hl1.push _⟩ start fun s2 mv hS2 => ?_)))
  obtain ⟨h', g', d', tk', os'⟩ := s2
  cases (show g' = s.gens from mv.gens)
  cases (show d' = s.drawn from mv.drawn)
  cases (show os' = s.os from mv.os)
  refine wpAny_pure (wpAny_pure ⟨rfl, h', tk', rfl, by rw [len]; exact hS2, fun b o hb e => ?_⟩)
  refine mv.heap b o (fun z => ?_) (Heap.get?_push_of_some _ (Heap.get?_push_of_some _ e))
  rw [Heap.size_push] at z
  simp only [List.mem_cons, List.not_mem_nil, or_false] at z
  rcases z with z | z
  · exact Nat.ne_of_lt hb z
  · exact Nat.ne_of_lt (Nat.lt_succ_of_lt hb) z
theorem setList {l : Addr} {items : Array Value} {xs : List Str} {Q : Value → Shared → Prop} (hh : A.handled = none) (hl : s.heap.IsList l items) (hi : PyProof.Rows.StrsAre items.toList xs) (small : xs.length + 1 < scanBound)
    (k : ∀ h' tk, SetMade prog w s.heap s.heap.objs.size xs h' → Q (.ref s.heap.objs.size) { s with heap := h', toks := tk }) : wpAny (model prog w) A (call (.type "set") [.ref l]) Q E s := by
  obtain ⟨c, tl, hmro⟩ := PySem.F.called_set.mro
  have g1 := PySem.F.called_set.made
  have g2 := PySem.F.called_set.sub
  have g3 := PySem.F.called_set.notType
  have g4 := PySem.F.called_set.canCreate
  have g5 := PySem.F.typeCall_set_1 (.ref l)
  refine wpAny_call (codeAny_of_tree (show wpAny _ _ (callAny (.type "set") _) _ _ _ from wpAny_pure ⟨Code.quiet_builtin _ (by decide +kernel), codeAny_builtin PySem.F.entry_type_call ?_⟩))
  rw [Around.under_plain (weight_type_call_type "set" [.ref l] []) rfl]
  repeat (any_goals (first | assumption | wp_step))
  refine codeAny_mono (code_set_new_1 (.ref l) (E := E) (Q₁ := fun obj s1 => ∃ led : Bool, obj = .ref s.heap.objs.size ∧ s1 = { s with heap := s.heap.push (rawSet led) }) fun led => ⟨led, rfl, rfl⟩) fun r s1 z => ?_
  match r, z with
  | .ok (.ret _), ⟨led, e1, e2⟩ =>
    subst e1 e2
    have hT : Shared.TypeIs { s with heap := s.heap.push (rawSet led) } (.ref s.heap.objs.size) "set" := ⟨_, Heap.get?_push_size _ rfl, rfl⟩
    have i1 := PySem.F.called_set.init.lookup
    have i2 := PySem.F.called_set.init.bind (.ref s.heap.objs.size)
    repeat (any_goals (first | assumption | wp_step))
    refine codeAny_mono (setFill (E := E) (by simp [hh]) hl hi small) fun r2 s2 z2 => ?_
    match r2, z2 with
    | .ok (.ret _), ⟨e3, h', tk, e4, made⟩ =>
      subst e3 e4
      repeat (any_goals (first | assumption | wp_step))
      exact k h' tk made
    | .error e, z2 => exact z2
  | .error e, z => exact z
end
section
variable {X : Cx}
/-- len(set(e)), e a list of texts -/
def tLenS (K : PySem.W.Frag) (te : TE) : TE := fun σ H Q => te σ H fun x H1 => ∃ (l : Addr) (xs : List Str), x = .ref l ∧ SqL K H1 l (xs.map V.str) ∧ xs.length + 1 < scanBound ∧ Q (.int (newN xs xs.length : Nat)) H1
theorem pe_lenS {e : Expr} {te : TE} {p p2 q pos : Pos} (hc : X.calm = true) (hg : Gl X "len") (hm : X.mg "len" = none) (hg2 : Gl X "set") (hm2 : X.mg "set" = none) (he : PE X e te)
    (na : starEach [e] X.env = (false, eval e X.env) :: starEach [] X.env := by rfl) : PE X (.Call (.Name "len" p) [.Call (.Name "set" p2) [e] [] q] [] pos) (tLenS X.K te) := by
  refine ⟨fun pins s σ H Q I h => ?_⟩
  refine Call_ (ld_blt I hg hm PySem.boot_len (PyProof.Rows.callWith_builtin1 (PyProof.Rows.args_cons ?_ rfl) rfl rfl))
  refine Call_ (ld_blt I hg2 hm2 boot_set (PyProof.Rows.callWith_type1 (PyProof.Rows.args_cons (thn (he.run pins s σ H _ I h) fun v s1 z => PyProof.Rows.args_nil ?_) na) na rfl))
  obtain ⟨x, H1, I1, r1, l, xs, rfl, hq, small, q1⟩ := z
  cases r1
  obtain ⟨its, r, pl, hz⟩ := I1.list hq
  refine setList (I1.ok.hd hc) pl.isList (by simpa using L2.strsAre_of r) small fun h' tk made => PyProof.Rows.args_nil ?_
  obtain ⟨⟨o, es, ep, t, ho, hex, hd, _, _, _, hf, hn⟩, kept⟩ := made
  have I2 : Inv X pins σ H1 { s1 with heap := h', toks := tk } := I1.kept fun b o e => kept b o (Heap.lt_size e) e
  have le := newN_le xs xs.length
  have sb : scanBound < 2 ^ 60 := by unfold scanBound; decide
  exact call_len_set ho hex hd hf (by rw [hn]; omega) ⟨.int (newN xs xs.length : Nat), H1, I2.tok _, ⟨_, by rw [hn]⟩, q1⟩
end
end DW

namespace K0
open PySem PySem.Spec PyProof.Rows L2 DW
def tnD (d : PyData) : Bool := match d with
  | .tuple [t, n] => betD 0 (10 ^ 34) t && isNameD n | _ => false
def nameOf (d : PyData) : Str := match d with
  | .tuple [_, .str n] => n | _ => ""
def seenD (d : PyData) : Bool := match d with
  | .tuple ds => ds.all pairD && (ds.all tnD && (ascD ds && decide (ds.length = newN (ds.map nameOf) ds.length))) | _ => false
theorem tn_inv {d : PyData} (h : tnD d = true) : ∃ i n, d = .tuple [.int i, .str n] := by
  match d, h with
  | .tuple [.int i, .str n], _ => exact ⟨i, n, rfl⟩
  | .tuple [.int i, .none], h => simp [tnD, isNameD] at h
  | .tuple [.int i, .bool _], h => simp [tnD, isNameD] at h
  | .tuple [.int i, .int _], h => simp [tnD, isNameD] at h
  | .tuple [.int i, .list _], h => simp [tnD, isNameD] at h
  | .tuple [.int i, .tuple _], h => simp [tnD, isNameD] at h
  | .tuple [.int i, .dict _], h => simp [tnD, isNameD] at h
  | .tuple [.none, _], h => simp [tnD, betD] at h
  | .tuple [.bool _, _], h => simp [tnD, betD] at h
  | .tuple [.str _, _], h => simp [tnD, betD] at h
  | .tuple [.list _, _], h => simp [tnD, betD] at h
  | .tuple [.tuple _, _], h => simp [tnD, betD] at h
  | .tuple [.dict _, _], h => simp [tnD, betD] at h
theorem cmp_seen {ds : List PyData} (h : ds.all tnD = true) : Cmp ds := fun i x y hx hy => by
  rw [List.all_eq_true] at h
  obtain ⟨a, b, rfl⟩ := tn_inv (h x (List.mem_of_getElem? hx))
  obtain ⟨c, d, rfl⟩ := tn_inv (h y (List.mem_of_getElem? hy))
  refine ⟨by simp [PySem.W.alike, PySem.W.alikeAll], (fun z => nomatch z), ?_⟩
  simp [PyData.depth, PyData.depthAll]
theorem pair_inv {d : PyData} (h : pairD d = true) : ∃ x y, d = .tuple [x, y] := by
  match d, h with
  | .tuple [x, y], _ => exact ⟨x, y, rfl⟩
  | .tuple [], h => simp [pairD] at h
  | .tuple [_], h => simp [pairD] at h
  | .tuple (_ :: _ :: _ :: _), h => simp [pairD] at h
section
variable {P : Program} {w : World} {K : PySem.W.Frag} {mg : Str → Option Value} {base : Heap}
theorem two_inv {H : Hp} {v : V} {x y : PyData} (h : Dp K H v (.tuple [x, y])) : ∃ a u1 u2, v = .ref a ∧ SqT K H a [u1, u2] ∧ Dp K H u1 x ∧ Dp K H u2 y := by
  cases h with
  | tup hs ha =>
    cases ha with
    | cons h1 h2 =>
      cases h2 with
      | cons h2 h3 =>
        cases h3
        exact ⟨_, _, _, rfl, hs, h1, h2⟩
abbrev gPr (K : PySem.W.Frag) (i : Nat) : TG := gTup K 2 (gCons (gName i) (gCons (gName 3) gNil))
/-- all([is_tick(tick) and is_name(name) for tick, name in value]) -/
theorem rd_tn {a : Addr} {xs : List V} {ds : List PyData} {H : Hp} {x1 x2 x3 x4 : Option V} {Q : VK} (ha : SqT K H a xs) (hp : DpAll K H xs ds) (hn : ∀ x ∈ ds, x.hasDict = false) (hf : ∀ x ∈ ds, Fn 1 x) (hl : ds.length ≤ 1000) (h2 : ds.all pairD = true)
    (k : ∀ H', Same H H' → Q (.bl (ds.all tnD)) H') :
    tCB (rAll K) (tCons (tLc (iTup K (tVar 0)) (gPr K 2) tYes (tAndV (tCall (spJ K (betD 0 (10 ^ 34))) [] E0 (tCons (tVar 2) tNil)) (tCall (spJ K isNameD) [] E0 (tCons (tVar 3) tNil))) [2, 3]) tNil) [some (.ref a), x1, x2, x3, x4] H Q := by
  refine ⟨_, rfl, a, rfl, ⟨xs, ha⟩, fun D hD => lc_tup (K := K) (xs := xs) (fun i H' => Same H H' ∧ H' D = some (.lst (((ds.take i).map tnD).map V.bl))) ⟨same_new hD, upd_same⟩ (fun i H' _ p => sqT_same p.1 ha)
    (fun i x H' hx p => ?_) (fun H' p => ?_)⟩
  · obtain ⟨s1, hy⟩ := p
    obtain ⟨d, hd, hr⟩ := DpAll.at hp hx
    have hm : d ∈ ds := List.mem_of_getElem? hd
    rw [List.all_eq_true] at h2
    obtain ⟨t, n, rfl⟩ := pair_inv (h2 d hm)
    obtain ⟨b, u1, u2, rfl, hb, r1, r2⟩ := two_inv (Dp.same s1 hr)
    have hnd := hn _ hm
    have n1 : t.hasDict = false := noDict_all (ds := [t, n]) hnd t (by simp)
    have n2 : n.hasDict = false := noDict_all (ds := [t, n]) hnd n (by simp)
    have ff := (hf _ hm).2 [t, n] rfl
    have f1 : Fit t := ff.2 t (by simp)
    have f2 : Fit n := ff.2 n (by simp)
    have fin : ∀ (c : Bool) (H2 : Hp), c = tnD (.tuple [t, n]) → Same H' H2 → ∃ acc, H2 D = some (.lst acc) ∧ acc.length < sizeLine ∧ (Same H (upd H2 D (.lst (acc ++ [.bl c]))) ∧ upd H2 D (.lst (acc ++ [.bl c])) D = some (.lst (((ds.take (i + 1)).map tnD).map V.bl))) := fun c H2 e s2 => by
      refine ⟨_, s2 _ _ hy, ?_, same_mut (s1.trans s2) hD, ?_⟩
      · rw [List.length_map, List.length_map, List.length_take, sizeLine_eq]
        omega
      · rw [upd_same, takeSucc hd, e]
        simp
    refine ⟨b, _, rfl, hb, rfl, _, _, rfl, _, _, rfl, rfl, rfl, tyes ?_⟩
    refine ⟨_, rfl, u1, t, rfl, .base r1 n1, f1, fun H2 s2 => ⟨_, rfl, ?_⟩⟩
    by_cases c : betD 0 (10 ^ 34) t = true
    · rw [c]
      refine iteT ⟨_, rfl, u2, n, rfl, .base (Dp.same s2 r2) n2, f2, fun H3 s3 => fin _ H3 ?_ (s2.trans s3)⟩
      show isNameD n = (betD 0 (10 ^ 34) t && isNameD n)
      rw [c]
      rfl
    · have c' : betD 0 (10 ^ 34) t = false := by simpa using c
      rw [c']
      refine iteF (fin _ H2 ?_ s2)
      show false = (betD 0 (10 ^ 34) t && isNameD n)
      rw [c']
      rfl
  · obtain ⟨s1, hy⟩ := p
    rw [DpAll.length hp, List.take_length] at hy
    refine fin_all hy ?_
    rw [List.all_map]
    exact k H' s1
/-- len(set([name for _, name in value])) -/
theorem rd_set {a : Addr} {xs : List V} {ds : List PyData} {H : Hp} {x1 x2 x3 x4 : Option V} {Q : VK} (ha : SqT K H a xs) (hp : DpAll K H xs ds) (hl : ds.length ≤ 1000) (h2 : ds.all tnD = true) (k : ∀ H', Same H H' → Q (.int (newN (ds.map nameOf) ds.length : Nat)) H') :
    tLenS K (tLc (iTup K (tVar 0)) (gPr K 4) tYes (tVar 3) [4, 3]) [some (.ref a), x1, x2, x3, x4] H Q := by
  refine ⟨_, rfl, a, rfl, ⟨xs, ha⟩, fun D hD => lc_tup (K := K) (xs := xs) (fun i H' => Same H H' ∧ H' D = some (.lst (((ds.take i).map nameOf).map V.str))) ⟨same_new hD, upd_same⟩ (fun i H' _ p => sqT_same p.1 ha)
    (fun i x H' hx p => ?_) (fun H' p => ?_)⟩
  · obtain ⟨s1, hy⟩ := p
    obtain ⟨d, hd, hr⟩ := DpAll.at hp hx
    rw [List.all_eq_true] at h2
    obtain ⟨t, n, rfl⟩ := tn_inv (h2 d (List.mem_of_getElem? hd))
    obtain ⟨b, u1, u2, rfl, hb, r1, r2⟩ := two_inv (Dp.same s1 hr)
    cases r2
    refine ⟨b, _, rfl, hb, rfl, _, _, rfl, _, _, rfl, rfl, rfl, tyes ⟨_, rfl, _, hy, ?_, same_mut s1 hD, ?_⟩⟩
    · rw [List.length_map, List.length_map, List.length_take, sizeLine_eq]
      omega
    · rw [upd_same, takeSucc hd]
      simp [nameOf]
  · obtain ⟨s1, hy⟩ := p
    rw [DpAll.length hp, List.take_length] at hy
    refine ⟨D, ds.map nameOf, rfl, SqL.of hy, by rw [List.length_map]; unfold scanBound; omega, ?_⟩
    rw [List.length_map]
    exact k H' s1
theorem scSeen : FnScope ["value", "item", "tick", "name", "_"] ["value"] (defScope sIsSeen) := ⟨rfl, rfl, rfl, by decide +kernel, rfl, by decide +kernel, by decide +kernel⟩
theorem ok_seen {f fP fT fN fA : Addr} {fd dP dT dN dA : FuncData} (F : Fun K "is_seen" "is_seen" sIsSeen f fd) (GP : FnOk P w K mg base CX0 1 fP dP ["value"] (spJn K 0 pairD)) (kP : PySem.W.keepIn K (.ref fP) = true) (bP : Binds K dP ["value"] []) (gP : mg "is_pair" = some (.ref fP))
    (GT : FnOk P w K mg base CX0 2 fT dT ["value"] (spJ K (betD 0 (10 ^ 34)))) (kT : PySem.W.keepIn K (.ref fT) = true) (bT : Binds K dT ["value"] []) (gT : mg "is_tick" = some (.ref fT))
    (GN : FnOk P w K mg base CX0 1 fN dN ["value"] (spJ K isNameD)) (kN : PySem.W.keepIn K (.ref fN) = true) (bN : Binds K dN ["value"] []) (gN : mg "is_name" = some (.ref fN))
    (GA : FnOk P w K mg base CX0 1 fA dA ["values"] (spAsc K)) (kA : PySem.W.keepIn K (.ref fA) = true) (bA : Binds K dA ["values"] []) (gA : mg "is_ascending" = some (.ref fA))
    (zI : mg "isinstance" = none) (zT : mg "tuple" = none) (zA : mg "all" = none) (zL : mg "len" = none) (zS : mg "set" = none) : FnOk P w K mg base CX0 3 f fd ["value"] (spJn K 2 seenD) := by
  refine F.ok scSeen (fun vs H Q E h => ?_) (fun cdv A outer s H vs Q E hr h => ?_)
  · obtain ⟨v, d, rfl, _⟩ := h
    rfl
  · obtain ⟨v, d, rfl, hd, hf, k⟩ := h
    have hr1 : Room 1 _ := hr.mono (by decide)
    refine ⟨_, pss_cons (ps_if (PW.pt (pw_or (pt_not (pt_val (pe_callB call_isi (by rfl) zI (by rfl) (pa_cons (pv 0) (pa_cons (pe_bltn rfl zT (by rfl) (show RelV (.ty "tuple") (.type "tuple") from rfl)) pa_nil)))))
        (pw_or1 (pt_not (pt_val (pe_callB (cr_all rfl) (by rfl) zA (by decide +kernel) (pa_cons (pe_lc (own := [("item", 1)]) (g := gName 1) (tt := tYes) rfl scSeen.nd (pi_tup (pv 0)) (blkOk_by (own := [("item", 1)]) (N := ["value", "item", "tick", "name", "_"]) (sc := defScope sIsSeen) (by decide +kernel))
          (fun _ _ _ _ _ => pg_name (i := 1) scSeen.nd rfl (Or.inl rfl)) (fun _ _ _ _ _ => pts_nil) (fun _ _ _ _ _ => pe_call GP hr1 rfl gP kP bP .nil pass0 (pa_cons (pv 1) pa_nil))) pa_nil)))))))
        (pss_one (ps_ret pe_bl)) pss_nil)
      (pss_cons (ps_if (pt_not (pt_val (pe_callB (cr_all rfl) (by rfl) zA (by decide +kernel) (pa_cons (pe_lc (own := [("tick", 2), ("name", 3)]) (g := gPr K 2) (tt := tYes) rfl scSeen.nd (pi_tup (pv 0)) (blkOk_by (own := [("tick", 2), ("name", 3)]) (N := ["value", "item", "tick", "name", "_"]) (sc := defScope sIsSeen) (by decide +kernel))
          (fun _ _ _ _ _ => pg_tup rfl (pgs_cons (pg_name (i := 2) scSeen.nd rfl (Or.inl rfl)) (pgs_cons (pg_name (i := 3) scSeen.nd rfl (Or.inl rfl)) pgs_nil))) (fun _ _ _ _ _ => pts_nil)
          (fun _ _ _ _ _ => pe_and (pe_call GT hr rfl gT kT bT .nil pass0 (pa_cons (pv 2) pa_nil)) (pe_one (pe_call GN hr1 rfl gN kN bN .nil pass0 (pa_cons (pv 3) pa_nil))))) pa_nil))))
        (pss_one (ps_ret pe_bl)) pss_nil)
      (pss_one (ps_ret (pe_and (pe_call GA hr1 rfl gA kA bA .nil pass0 (pa_cons (pv 0) pa_nil)) (pe_one (pe_cmpR op_eq (pe_callB call_len_seq (by rfl) zL PySem.boot_len (pa_cons (pv 0) pa_nil))
        (pe_lenS rfl rfl zL rfl zS (pe_lc (own := [("_", 4), ("name", 3)]) (g := gPr K 4) (tt := tYes) rfl scSeen.nd (pi_tup (pv 0)) (blkOk_by (own := [("_", 4), ("name", 3)]) (N := ["value", "item", "tick", "name", "_"]) (sc := defScope sIsSeen) (by decide +kernel))
          (fun _ _ _ _ _ => pg_tup rfl (pgs_cons (pg_name (i := 4) scSeen.nd rfl (Or.inl rfl)) (pgs_cons (pg_name (i := 3) scSeen.nd rfl (Or.inl rfl)) pgs_nil))) (fun _ _ _ _ _ => pts_nil) (fun _ _ _ _ _ => pv 3))) (nomark _))))))), ?_⟩
    have no : ∀ H', Same H H' → seenD d = false → Q (.bl false) H' := fun H' s1 e => by
      have z := k H' s1
      rw [e] at z
      exact z
    refine rd_isi rfl hd (kit_tup d) ⟨_, rfl, ?_⟩
    match d, hd, hf, k, no with
    | .tuple ds, hd, hf, k, no =>
      obtain ⟨a, xs, rfl, hs, ha, hn⟩ := hd.tup_inv
      obtain ⟨hl, hi⟩ := hf.2 ds rfl
      have hi0 : ∀ x ∈ ds, Fn 0 x := fun x hx => (hi x hx).fit
      refine iteF (rd_allT (K := K) (f := pairD) (n := 0) hs ha hn hi0 hl (fun v d H1 R h1 h2 h3 => ⟨v, d, rfl, h1, h2, h3⟩) fun H1 s1 => ⟨_, rfl, ?_⟩)
      by_cases q1 : ds.all pairD = true
      · rw [q1]
        refine iteF (rd_tn (K := K) (sqT_same s1 hs) (DpAll.same s1 ha) hn hi hl q1 fun H2 s2 => ⟨_, rfl, ?_⟩)
        by_cases q2 : ds.all tnD = true
        · rw [q2]
          have s12 := s1.trans s2
          refine iteF ⟨_, rfl, a, xs, ds, rfl, sqT_same s12 hs, DpAll.same s12 ha, hl, cmp_seen q2, fun H3 s3 => ⟨_, rfl, ?_⟩⟩
          have s123 := s12.trans s3
          have val : seenD (.tuple ds) = (ascD ds && decide (ds.length = newN (ds.map nameOf) ds.length)) := by
            show (ds.all pairD && (ds.all tnD && (ascD ds && decide (ds.length = newN (ds.map nameOf) ds.length)))) = _
            rw [q1, q2]
            rfl
          by_cases q3 : ascD ds = true
          · rw [q3]
            refine iteT ⟨_, rfl, a, xs, rfl, .inr (sqT_same s123 hs), rd_set (K := K) (sqT_same s123 hs) (DpAll.same s123 ha) hl q2 fun H4 s4 => ⟨rfl, ?_⟩⟩
            have z := k H4 (s123.trans s4)
            rw [val, q3, Bool.true_and] at z
            have e : decide (V.int ((xs.length : Nat) : Int) = V.int ((newN (ds.map nameOf) ds.length : Nat) : Int)) = decide (ds.length = newN (ds.map nameOf) ds.length) := by
              rw [DpAll.length ha, dec_int]
              by_cases q : ds.length = newN (ds.map nameOf) ds.length
              · rw [decide_eq_true q, beq_iff_eq, ← q]
              · rw [decide_eq_false q, beq_eq_false_iff_ne]
                omega
            rw [e]
            exact z
          · have q3' : ascD ds = false := by simpa using q3
            rw [q3']
            exact iteF (no H3 s123 (by rw [val, q3']; rfl))
        · have q2' : ds.all tnD = false := by simpa using q2
          rw [q2']
          refine iteT (no H2 (s1.trans s2) ?_)
          show (ds.all pairD && (ds.all tnD && _)) = false
          rw [q2', Bool.false_and, Bool.and_false]
      · have q1' : ds.all pairD = false := by simpa using q1
        rw [q1']
        refine iteT (no H1 s1 ?_)
        show (ds.all pairD && _) = false
        rw [q1', Bool.false_and]
    | .none, _, _, _, no => exact iteT (no H (Same.refl H) rfl)
    | .bool _, _, _, _, no => exact iteT (no H (Same.refl H) rfl)
    | .int _, _, _, _, no => exact iteT (no H (Same.refl H) rfl)
    | .str _, _, _, _, no => exact iteT (no H (Same.refl H) rfl)
    | .list _, _, _, _, no => exact iteT (no H (Same.refl H) rfl)
    | .dict _, _, _, _, no => exact iteT (no H (Same.refl H) rfl)
end
end K0

namespace K0
open PySem PySem.Spec PyProof.Rows L2 DW
abbrev sLInt : Stmt := top 30
abbrev sLName : Stmt := top 31
abbrev sLTick : Stmt := top 32
section
variable {P : Program} {w : World} {K : PySem.W.Frag} {mg : Str → Option Value} {base : Heap}
theorem scLInt : FnScope ["value"] ["value"] (defScope sLInt) := ⟨rfl, rfl, rfl, by decide +kernel, rfl, by decide +kernel, by decide +kernel⟩
theorem ok_lint {f : Addr} {fd : FuncData} (F : Fun K "_law_is_integer" "_law_is_integer" sLInt f fd) (zI : mg "isinstance" = none) (zT : mg "int" = none) (zB : mg "bool" = none) : FnOk P w K mg base CX0 1 f fd ["value"] (spJ K (betD (1 - 10 ^ 40) (10 ^ 40 - 1))) := by
  refine F.ok scLInt (fun vs H Q E h => ?_) (fun cdv A outer s H vs Q E hr h => ?_)
  · obtain ⟨v, d, rfl, _⟩ := h
    rfl
  · obtain ⟨v, d, rfl, hd, _, k⟩ := h
    have k := k H (Same.refl H)
    refine ⟨_, pss_one (ps_ret (pe_and (pe_callB call_isi (by rfl) zI (by rfl) (pa_cons (pv 0) (pa_cons (pe_bltn rfl zT (by rfl) (show RelV (.ty "int") (.type "int") from rfl)) pa_nil)))
      (pe_and (pe_not (pe_callB call_isi (by rfl) zI (by rfl) (pa_cons (pv 0) (pa_cons (pe_bltn rfl zB (by rfl) (show RelV (.ty "bool") (.type "bool") from rfl)) pa_nil))))
      (pe_one (pe_chain op_lt op_lt (pe_op op_sub pe_int (pe_op op_powW pe_int pe_int)) (pv 0) (pe_op op_powW pe_int pe_int)))))), ?_⟩
    refine rd_isi rfl hd (kit_int d) ⟨_, rfl, ?_⟩
    match d, hd, k with
    | .int i, hd, k =>
      have e : v = .int i := by cases hd with | base h _ => cases h; rfl
      subst e
      refine iteT (rd_isi rfl hd (kit_bool (.int i)) ⟨_, rfl, _, rfl, iteT ?_⟩)
      refine ⟨_, _, rfl, rfl, ⟨by decide, by decide +kernel⟩, _, _, rfl, rfl, _, rfl, _, _, rfl, rfl, _, rfl, ?_⟩
      have p40 : (10 : Int) ^ Int.toNat 40 = 10 ^ 40 := rfl
      have val : betD (1 - 10 ^ 40) (10 ^ 40 - 1) (.int i) = (decide (1 - 10 ^ 40 ≤ i) && decide (i ≤ 10 ^ 40 - 1)) := rfl
      rw [val] at k
      by_cases h1 : (0 - 10 ^ Int.toNat 40 : Int) < i
      · rw [decide_eq_true h1]
        refine iteT ⟨_, _, rfl, rfl, ⟨by decide, by decide +kernel⟩, _, _, rfl, rfl, ?_⟩
        have e1 : (1 - 10 ^ 40 : Int) ≤ i := by rw [p40] at h1; omega
        have e2 : decide (i < 10 ^ Int.toNat 40) = decide (i ≤ 10 ^ 40 - 1) := by
          rw [p40]
          exact decide_eq_decide.mpr ⟨fun z => by omega, fun z => by omega⟩
        rw [decide_eq_true e1, Bool.true_and, ← e2] at k
        exact k
      · rw [decide_eq_false h1]
        have e1 : ¬ (1 - 10 ^ 40 : Int) ≤ i := by rw [p40] at h1; omega
        rw [decide_eq_false e1, Bool.false_and] at k
        exact iteF k
    | .bool b, hd, k => exact iteT (rd_isi rfl hd (kit_bool (.bool b)) ⟨_, rfl, _, rfl, iteF k⟩)
    | .none, _, k => exact iteF k
    | .str _, _, k => exact iteF k
    | .list _, _, k => exact iteF k
    | .tuple _, _, k => exact iteF k
    | .dict _, _, k => exact iteF k
theorem scLTick : FnScope ["value"] ["value"] (defScope sLTick) := ⟨rfl, rfl, rfl, by decide +kernel, rfl, by decide +kernel, by decide +kernel⟩
theorem bet_int {d : PyData} (h : betD (1 - 10 ^ 40) (10 ^ 40 - 1) d = true) : ∃ i, d = .int i := by
  cases d with
  | int i => exact ⟨i, rfl⟩
  | _ => cases h
theorem ok_ltick {f fI : Addr} {fd dI : FuncData} (F : Fun K "_law_is_tick" "_law_is_tick" sLTick f fd) (GI : FnOk P w K mg base CX0 1 fI dI ["value"] (spJ K (betD (1 - 10 ^ 40) (10 ^ 40 - 1)))) (kI : PySem.W.keepIn K (.ref fI) = true) (bI : Binds K dI ["value"] []) (gI : mg "_law_is_integer" = some (.ref fI)) :
    FnOk P w K mg base CX0 2 f fd ["value"] (spJ K (betD 0 (10 ^ 34))) := by
  refine F.ok scLTick (fun vs H Q E h => ?_) (fun cdv A outer s H vs Q E hr h => ?_)
  · obtain ⟨v, d, rfl, _⟩ := h
    rfl
  · obtain ⟨v, d, rfl, hd, ft, k⟩ := h
    refine ⟨_, pss_one (ps_ret (pe_and (pe_call GI hr rfl gI kI bI .nil pass0 (pa_cons (pv 0) pa_nil)) (pe_one (pe_chain op_le op_le pe_int (pv 0) (pe_op op_powW pe_int pe_int))))), ?_⟩
    refine ⟨_, rfl, v, d, rfl, hd, ft, fun H' s1 => ⟨_, rfl, ?_⟩⟩
    have k := k H' s1
    by_cases q : betD (1 - 10 ^ 40) (10 ^ 40 - 1) d = true
    · rw [q]
      obtain ⟨i, rfl⟩ := bet_int q
      have e : v = .int i := by cases hd with | base h _ => cases h; rfl
      subst e
      have val : betD 0 (10 ^ 34) (.int i) = (decide (0 ≤ i) && decide (i ≤ 10 ^ 34)) := rfl
      rw [val] at k
      refine iteT ⟨_, rfl, _, _, rfl, rfl, _, rfl, ?_⟩
      by_cases h1 : (0 : Int) ≤ i
      · rw [decide_eq_true h1]
        refine iteT ⟨_, _, rfl, rfl, ⟨by decide, by decide +kernel⟩, _, _, rfl, rfl, ?_⟩
        rw [decide_eq_true h1, Bool.true_and] at k
        exact k
      · rw [decide_eq_false h1]
        rw [decide_eq_false h1, Bool.false_and] at k
        exact iteF k
    · have q' : betD (1 - 10 ^ 40) (10 ^ 40 - 1) d = false := by simpa using q
      rw [q']
      have e : betD 0 (10 ^ 34) d = false := by
        cases d with
        | int i =>
          have q2 : (decide ((1 - 10 ^ 40 : Int) ≤ i) && decide (i ≤ 10 ^ 40 - 1)) = false := q'
          show (decide ((0 : Int) ≤ i) && decide (i ≤ 10 ^ 34)) = false
          rw [Bool.and_eq_false_iff, decide_eq_false_iff_not, decide_eq_false_iff_not] at *
          omega
        | _ => rfl
      rw [e] at k
      exact iteF k
end
end K0

namespace K0
open PySem PySem.Spec PyProof.Rows L2 DW
section
variable {P : Program} {w : World} {K : PySem.W.Frag} {mg : Str → Option Value} {base : Heap}
def Okd (d : PyData) : Prop := ∀ z, d = .str z → PyData.strOk z = true
def spJo (K : PySem.W.Frag) (f : PyData → Bool) : Sp := fun vs H Q _ => ∃ v d, vs = [v] ∧ Dd K H v d ∧ Fit d ∧ Okd d ∧ ∀ H', Same H H' → Q (.bl (f d)) H'
abbrev sign1 (c : Nat) : Str := ⟨#[c]⟩
theorem scLName : FnScope ["value", "letters", "sign"] ["value"] (defScope sLName) := ⟨rfl, rfl, rfl, by decide +kernel, rfl, by decide +kernel, by decide +kernel⟩
theorem strs_dpAll {H : Hp} : ∀ xs : List Str, DpAll K H (xs.map V.str) (xs.map PyData.str)
  | [] => .nil
  | x :: r => .cons (.str x) (strs_dpAll r)
theorem lay_all : ∀ {xs : List Str}, (∀ x ∈ xs, PyData.strOk x = true) → PyData.canLayAll0 (xs.map PyData.str) = true
  | [], _ => by simp [PyData.canLayAll0]
  | x :: r, h => by
    simp only [List.map_cons, PyData.canLayAll0, PyData.canLay0, h x (by simp), Bool.true_and]
    exact lay_all fun y hy => h y (by simp [hy])
theorem depth_strs : ∀ xs : List Str, PyData.depthAll (xs.map PyData.str) ≤ 1
  | [] => by simp [PyData.depthAll]
  | x :: r => by
    have z := depth_strs r
    simp only [List.map_cons, PyData.depthAll, PyData.depth]
    omega
theorem eqv_nil : ∀ xs : List Str, PyData.eqv (.list (xs.map PyData.str)) (.list []) = xs.isEmpty
  | [] => by simp [PyData.eqv, PyData.eqvAll]
  | x :: r => by simp [PyData.eqv, PyData.eqvAll]
theorem filt_emp (L : Str) (cs : List Nat) : ((cs.filter fun c => !decide (c ∈ L.cps.toList)).map sign1).isEmpty = cs.all fun c => decide (c ∈ L.cps.toList) := by
  induction cs with
  | nil => rfl
  | cons c r ih =>
    by_cases h : c ∈ L.cps.toList
    · rw [List.filter_cons_of_neg (by simp [h]), ih, List.all_cons, decide_eq_true h, Bool.true_and]
    · rw [List.filter_cons_of_pos (by simp [h]), List.all_cons, decide_eq_false h, Bool.false_and]
      rfl
/-- [c for c in s if c not in letters + digits] == [] -/
theorem rd_odd {z : Str} {H : Hp} {Q : VK} (hz : z.length ≤ 1000) (ok : PyData.strOk z = true) (k : ∀ H', Same H H' → Q (.bl (z.cps.toList.all fun c => decide (c ∈ lettL.cps.toList))) H') :
    tOp (rEqD K) (tLc (iStr (tVar 0)) (gName 2) (tTest (tOp (fun x y H Q => ∃ (c : Nat) (z : Str), x = .str ⟨#[c]⟩ ∧ y = .str z ∧ Q (.bl (!decide (c ∈ z.cps.toList))) H) (tVar 2)
      (tOp (fun x y H Q => ∃ i j, x = .str i ∧ y = .str j ∧ i.length + j.length ≤ sizeLine ∧ Q (.str (i ++ j)) H) (tVar 1) (tC (.str "0123456789."))))) (tVar 2) [2]) (tLst tNil) [some (.str z), some (.str firstL), none] H Q := by
  have cat : firstL ++ ("0123456789." : Str) = lettL := by decide +kernel
  refine ⟨_, rfl, z, rfl, fun D hD => lc_str (fun i H' => Same H H' ∧ H' D = some (.lst ((((z.cps.toList.take i).filter fun c => !decide (c ∈ lettL.cps.toList)).map sign1).map V.str))) ⟨same_new hD, upd_same⟩ (fun i c H' hc p => ⟨rfl, ?_⟩) (fun H' p => ?_)⟩
  · obtain ⟨s1, hy⟩ := p
    have hc2 : z.cps.toList[i]? = some c := by rw [← hc]; simp
    refine ⟨_, rfl, _, rfl, _, _, rfl, rfl, by show 26 + 11 ≤ sizeLine; decide, c, _, rfl, rfl, _, rfl, ?_⟩
    rw [cat, takeSucc hc2, List.filter_append, List.map_append, List.map_append]
    by_cases m : c ∈ lettL.cps.toList
    · rw [decide_eq_true m, List.filter_cons_of_neg (by simp [m])]
      exact iteF ⟨s1, by simpa using hy⟩
    · rw [decide_eq_false m, List.filter_cons_of_pos (by simp [m])]
      refine iteT ⟨_, rfl, _, hy, ?_, same_mut s1 hD, ?_⟩
      · have h1 : z.cps.toList.length = z.length := by simp [Str.length]
        have h2 := List.length_filter_le (fun c => !decide (c ∈ lettL.cps.toList)) (z.cps.toList.take i)
        have h3 := List.length_take_le i z.cps.toList
        rw [List.length_map, List.length_map, sizeLine_eq]
        have h4 : (z.cps.toList.take i).length ≤ z.cps.toList.length := by rw [List.length_take]; exact Nat.min_le_right _ _
        omega
      · rw [upd_same]
        simp
  · obtain ⟨s1, hy⟩ := p
    have e : z.cps.toList.take z.cps.size = z.cps.toList := List.take_of_length_le (by simp)
    rw [e] at hy
    refine ⟨by show 0 ≤ sizeLine; decide, fun q nq => ?_⟩
    have sq := same_new (o := .lst []) nq
    have good : ∀ x ∈ ((z.cps.toList.filter fun c => !decide (c ∈ lettL.cps.toList)).map sign1), PyData.strOk x = true := fun x hx => by
      obtain ⟨c, hc, rfl⟩ := List.mem_map.mp hx
      have hc := (List.mem_filter.mp hc).1
      unfold PyData.strOk at ok ⊢
      rw [Array.all_eq_true_iff_forall_mem] at ok
      have z1 := ok c (Array.mem_toList_iff.mp hc)
      simpa [sign1] using z1
    refine ⟨_, .list [], .lst (SqL.of (sq _ _ hy)) (strs_dpAll _), .lst (SqL.of upd_same) .nil, ?_, by kernel_rfl, ?_⟩
    · unfold SeqAt.shaped
      rw [Bool.and_eq_true, decide_eq_true_eq]
      refine ⟨by simp only [PyData.canLay0]; exact lay_all good, ?_⟩
      have z2 := depth_strs ((z.cps.toList.filter fun c => !decide (c ∈ lettL.cps.toList)).map sign1)
      simp only [PyData.depth]
      omega
    · rw [eqv_nil, filt_emp]
      exact k _ (s1.trans sq)
theorem ok_lname {f : Addr} {fd : FuncData} (F : Fun K "_law_is_name" "_law_is_name" sLName f fd) (zI : mg "isinstance" = none) (zS : mg "str" = none) (zL : mg "len" = none) : FnOk P w K mg base CX0 1 f fd ["value"] (spJo K isNameD) := by
  refine F.ok scLName (fun vs H Q E h => ?_) (fun cdv A outer s H vs Q E hr h => ?_)
  · obtain ⟨v, d, rfl, _⟩ := h
    rfl
  · obtain ⟨v, d, rfl, hd, ft, ok, k⟩ := h
    refine ⟨_, pss_cons (ps_set (i := 1) scLName.nd rfl (Or.inr rfl) pe_str)
      (pss_cons (ps_if (PW.pt (pw_or (pt_not (pt_val (pe_callB call_isi (by rfl) zI (by rfl) (pa_cons (pv 0) (pa_cons (pe_bltn rfl zS (by rfl) (show RelV (.ty "str") (.type "str") from rfl)) pa_nil)))))
        (pw_or (pt_cmpR op_eq (pv 0) pe_str (nomark _))
        (pw_or (pt_not (pt_chain op_le op_le pe_int (pe_callB call_len_str (by rfl) zL PySem.boot_len (pa_cons (pv 0) pa_nil)) pe_int))
        (pw_or1 (pt_cmpR op_notIn_sign (pe_ix ix_str (pv 0) pe_int (fun _ _ => rfl)) (pv 1) (by rfl)))))))
        (pss_one (ps_ret pe_bl)) pss_nil)
      (pss_one (ps_ret (pe_cmpR (op_eqD hr.units) (pe_lc (own := [("sign", 2)]) (g := gName 2) rfl scLName.nd (pi_str (pv 0)) (blkOk_by (own := [("sign", 2)]) (N := ["value", "letters", "sign"]) (sc := defScope sLName) (by decide +kernel))
          (fun _ _ _ _ _ => pg_name (i := 2) scLName.nd rfl (Or.inl rfl)) (fun _ _ _ _ _ => pts_one (pt_cmpR op_notIn_sign (pv 2) (pe_op op_add_str (pv 1) pe_str) (by rfl))) (fun _ _ _ _ _ => pv 2)) (pe_lst pa_nil) (nomark _))))), ?_⟩
    have no : isNameD d = false → Q (.bl false) H := fun e => by
      have z := k H (Same.refl H)
      rw [e] at z
      exact z
    refine rd_isi (i := 0) (v := v) rfl hd (kit_str d) ⟨_, rfl, ?_⟩
    match d, hd, ft, ok, k, no with
    | .str z, hd, ft, ok, k, no =>
      have e : v = .str z := by cases hd with | base h _ => cases h; rfl
      subst e
      have hz := ft z rfl
      have hzs : z.length ≤ sizeLine := by rw [sizeLine_eq]; omega
      refine iteF ⟨_, rfl, rfl, _, rfl, ?_⟩
      rw [dec_strV]
      by_cases h3 : z = ("dawn" : Str)
      · rw [decide_eq_true h3]
        exact iteT (no (by show nameS z = false; simp [nameS, h3]))
      · rw [decide_eq_false h3]
        refine iteF ⟨_, rfl, z, rfl, hzs, _, _, rfl, rfl, _, rfl, ?_⟩
        by_cases h1 : (1 : Int) ≤ z.length
        · rw [decide_eq_true h1]
          refine iteT ⟨_, _, rfl, rfl, _, rfl, ?_⟩
          by_cases h2 : (z.length : Int) ≤ 12
          · rw [decide_eq_true h2]
            have n1 : 1 ≤ z.length := by omega
            have n2 : z.length ≤ 12 := by omega
            have hc : ∃ c, z.cps.toList[0]? = some c := by
              have q : 0 < z.cps.toList.length := by
                have h1 : z.cps.toList.length = z.length := by simp [Str.length]
                omega
              exact ⟨_, List.getElem?_eq_getElem q⟩
            obtain ⟨c, hc⟩ := hc
            have ed : z.cps.toList.getD 0 0 = c := by rw [List.getD_eq_getElem?_getD, hc]; rfl
            refine iteF ⟨_, rfl, z, 0, c, rfl, rfl, hzs, atI_nat (j := 0) hc, _, rfl, c, firstL, rfl, rfl, _, rfl, ?_⟩
            by_cases h4 : c ∈ firstL.cps.toList
            · rw [decide_eq_true h4]
              refine iteF (rd_odd (K := K) hz (ok z rfl) fun H' s1 => ?_)
              have q := k H' s1
              have e : isNameD (.str z) = z.cps.toList.all fun c => decide (c ∈ lettL.cps.toList) := by
                show nameS z = _
                simp only [nameS, ed, decide_eq_true n1, decide_eq_true n2, decide_eq_false h3, decide_eq_true h4, Bool.not_false, Bool.true_and]
              rw [e] at q
              exact q
            · rw [decide_eq_false h4]
              refine iteT (no ?_)
              show nameS z = false
              simp only [nameS, ed, decide_eq_false h4, Bool.false_and, Bool.and_false]
          · rw [decide_eq_false h2]
            refine iteT (no ?_)
            have n2 : ¬ z.length ≤ 12 := by omega
            show nameS z = false
            simp only [nameS, decide_eq_false n2, Bool.false_and, Bool.and_false]
        · rw [decide_eq_false h1]
          refine iteF ⟨_, rfl, iteT (no ?_)⟩
          have n1 : ¬ 1 ≤ z.length := by omega
          show nameS z = false
          simp only [nameS, decide_eq_false n1, Bool.false_and]
    | .none, _, _, _, _, no => exact iteT (no rfl)
    | .bool _, _, _, _, _, no => exact iteT (no rfl)
    | .int _, _, _, _, _, no => exact iteT (no rfl)
    | .list _, _, _, _, _, no => exact iteT (no rfl)
    | .tuple _, _, _, _, _, no => exact iteT (no rfl)
    | .dict _, _, _, _, _, no => exact iteT (no rfl)
end
end K0

namespace DW
open PySem PySem.Spec PyProof.Rows L2 RZ
/-- a comprehension over zip of two tuples, the second one no longer than the first -/
theorem lc_zipT {K : PySem.W.Frag} {a b : Addr} {xs ys : List V} {g : TG} {tt : TT} {te : TE} {vs : List Nat} {σ : L2.St} {H1 : Hp} {D : Addr} {Qd : Hp → Prop} (hl : ys.length ≤ xs.length) (Pv : Nat → Hp → Prop) (h0 : Pv 0 (upd H1 D (.lst [])))
    (hq : ∀ i H, Pv i H → SqT K H a xs ∧ SqT K H b ys)
    (hs : ∀ i x y T H, xs[i]? = some x → ys[i]? = some y → Pv i H → H T = none → g (.ref T) (wipe σ vs) (upd H T (.tup [x, y])) fun σ2 H2 => wipe σ2 vs = wipe σ vs ∧ tt σ2 H2 fun c H3 =>
      if c = true then te σ2 H3 fun z H4 => ∃ acc, H4 D = some (.lst acc) ∧ acc.length < sizeLine ∧ Pv (i + 1) (upd H4 D (.lst (acc ++ [z]))) else Pv (i + 1) H3) (hd : ∀ H, Pv ys.length H → Qd H) :
    ∃ W : Nat → Nat → Hp → Prop, (∃ m, W 0 m (upd H1 D (.lst []))) ∧ ∀ i m H, W i m H →
      ((ItzT K a b).stop i H ∧ Qd H) ∨ ((ItzT K a b).go i H ∧ ∃ Nx : Hp → Prop, (∀ H', Nx H' → ∃ m', m' < m ∧ W (i + 1) m' H') ∧ ∀ v H', (ItzT K a b).yld i H v H' → g v (wipe σ vs) H' fun σ2 H2 => wipe σ2 vs = wipe σ vs ∧ tt σ2 H2 fun c H3 =>
        if c = true then te σ2 H3 fun z H4 => ∃ acc, H4 D = some (.lst acc) ∧ acc.length < sizeLine ∧ Nx (upd H4 D (.lst (acc ++ [z]))) else Nx H3) := by
  refine ⟨fun i m H => m = ys.length - i ∧ i ≤ ys.length ∧ Pv i H, ⟨ys.length, by simp, Nat.zero_le _, h0⟩, ?_⟩
  rintro i m H ⟨rfl, hi, p⟩
  obtain ⟨qx, qy⟩ := hq i H p
  by_cases hlt : i < ys.length
  · have hx : xs[i]? = some xs[i] := List.getElem?_eq_getElem (by omega)
    have hy : ys[i]? = some ys[i] := List.getElem?_eq_getElem hlt
    refine .inr ⟨⟨xs, ys, _, _, qx, qy, hx, hy⟩, Pv (i + 1), fun H' p' => ⟨ys.length - (i + 1), by omega, rfl, hlt, p'⟩, fun v H' z => ?_⟩
    obtain ⟨T, x, y, rfl, nT, rfl, e1, e2⟩ := z
    exact hs i x y T H (e1 xs qx) (e2 ys qy) p nT
  · have e : i = ys.length := by omega
    subst e
    exact .inl ⟨⟨xs, ys, qx, qy, .inr (Nat.le_refl _)⟩, hd H p⟩
theorem dpAll_filter {K : PySem.W.Frag} {H : Hp} {f : PyData → Bool} : ∀ {ds : List PyData} {xs : List V}, DpAll K H xs ds → ∃ ys, DpAll K H ys (ds.filter f)
  | _, _, .nil => ⟨[], .nil⟩
  | d :: ds, _, .cons a b => by
    obtain ⟨ys, h⟩ := dpAll_filter (f := f) b
    cases e : f d with
    | true => exact ⟨_ :: ys, by rw [List.filter_cons_of_pos e]; exact .cons a h⟩
    | false => exact ⟨ys, by rw [List.filter_cons_of_neg (by rw [e]; exact Bool.false_ne_true)]; exact h⟩
theorem DpAll.snoc {K : PySem.W.Frag} {H : Hp} : ∀ {xs : List V} {ds : List PyData} {x : V} {d : PyData}, DpAll K H xs ds → Dp K H x d → DpAll K H (xs ++ [x]) (ds ++ [d])
  | _, _, _, _, .nil, h => .cons h .nil
  | _, _, _, _, .cons a b, h => .cons a (DpAll.snoc b h)
theorem lay_filter {f : PyData → Bool} : ∀ {ds : List PyData}, PyData.canLayAll0 ds = true → PyData.canLayAll0 (ds.filter f) = true
  | [], _ => by simp [PyData.canLayAll0]
  | d :: ds, h => by
    simp only [PyData.canLayAll0, Bool.and_eq_true] at h
    cases e : f d with
    | true => rw [List.filter_cons_of_pos e]; simp only [PyData.canLayAll0, Bool.and_eq_true]; exact ⟨h.1, lay_filter h.2⟩
    | false => rw [List.filter_cons_of_neg (by rw [e]; exact Bool.false_ne_true)]; exact lay_filter h.2
theorem depth_filter {f : PyData → Bool} {n : Nat} : ∀ {ds : List PyData}, PyData.depthAll ds ≤ n → PyData.depthAll (ds.filter f) ≤ n
  | [], _ => by simp [PyData.depthAll]
  | d :: ds, h => by
    simp only [PyData.depthAll] at h
    cases e : f d with
    | true => rw [List.filter_cons_of_pos e]; simp only [PyData.depthAll]; have := depth_filter (f := f) (n := n) (ds := ds) (by omega); omega
    | false => rw [List.filter_cons_of_neg (by rw [e]; exact Bool.false_ne_true)]; exact depth_filter (by omega)
theorem eqvL_nil : ∀ ds : List PyData, PyData.eqv (.list ds) (.list []) = ds.isEmpty
  | [] => by simp [PyData.eqv, PyData.eqvAll]
  | x :: r => by simp [PyData.eqv, PyData.eqvAll]
theorem filter_emp (f : PyData → Bool) (ds : List PyData) : (ds.filter fun d => !f d).isEmpty = ds.all f := by
  induction ds with
  | nil => rfl
  | cons d r ih =>
    cases e : f d with
    | true => rw [List.filter_cons_of_neg (by simp [e]), ih, List.all_cons, e, Bool.true_and]
    | false => rw [List.filter_cons_of_pos (by simp [e]), List.all_cons, e, Bool.false_and]; rfl
end DW

namespace K0
open PySem PySem.Spec PyProof.Rows L2 DW RZ
abbrev sRise : Stmt := top 33
def risD (g : PyData → Bool) (d : PyData) : Bool := match d with
  | .tuple ds => ds.all g && ascD ds | _ => false
section
variable {P : Program} {w : World} {K : PySem.W.Frag} {mg : Str → Option Value} {base : Heap}
/-- what a judge promises of the items -/
def Jd (K : PySem.W.Frag) (sp : Sp) (g : PyData → Bool) (Ok : PyData → Prop) : Prop := ∀ (x : V) (e : PyData) (H1 : Hp) (R : VK), Dd K H1 x e → Ok e → (∀ H2, Same H1 H2 → R (.bl (g e)) H2) → sp [x] H1 R (fun _ _ _ => False)
def Rise (g : PyData → Bool) (Ok : PyData → Prop) (ds : List PyData) : Prop := ds.length ≤ 1000 ∧ (∀ e ∈ ds, Ok e) ∧ PyData.canLayAll0 ds = true ∧ PyData.depthAll ds ≤ 50 ∧ (ds.all g = true → Cmp ds)
def spRise (K : PySem.W.Frag) (S : Addr → Option Sp) : Sp := fun vs H Q _ => ∃ v fj d sp g Ok, vs = [v, .ref fj] ∧ S fj = some sp ∧ Jd K sp g Ok ∧ Dd K H v d ∧ (∀ ds, d = .tuple ds → Rise g Ok ds) ∧ ∀ H', Same H H' → Q (.bl (risD g d)) H'
theorem shaped_list {ds : List PyData} (h1 : PyData.canLayAll0 ds = true) (h2 : PyData.depthAll ds ≤ 50) : SeqAt.shaped (.list ds) = true := by
  unfold SeqAt.shaped
  rw [Bool.and_eq_true, decide_eq_true_eq]
  refine ⟨by simp only [PyData.canLay0]; exact h1, ?_⟩
  simp only [PyData.depth]
  omega
abbrev gOO (K : PySem.W.Frag) : TG := gTup K 2 (gCons (gName 2) (gCons (gName 3) gNil))
/-- [one for one in value if not judge(one)] -/
theorem rd_bad {S : Addr → Option Sp} {sp : Sp} {g : PyData → Bool} {Ok : PyData → Prop} {fj a : Addr} {xs : List V} {ds : List PyData} {H : Hp} {x2 x3 : Option V} {Q : VK} (hS : S fj = some sp) (J : Jd K sp g Ok) (ha : SqT K H a xs) (hp : DpAll K H xs ds) (hn : ∀ x ∈ ds, x.hasDict = false)
    (hl : ds.length ≤ 1000) (hO : ∀ e ∈ ds, Ok e) (k : ∀ D H' ys, Same H H' → H' D = some (.lst ys) → DpAll K H' ys (ds.filter fun d => !g d) → Q (.ref D) H') :
    tLc (iTup K (tVar 0)) (gName 2) (tNot (tB (tCallA 1 S (tCons (tVar 2) tNil)))) (tVar 2) [2] [some (.ref a), some (.ref fj), x2, x3] H Q := by
  refine ⟨_, rfl, a, rfl, ⟨xs, ha⟩, fun D hD => lc_tup (K := K) (xs := xs) (fun i H' => Same H H' ∧ ∃ ys, H' D = some (.lst ys) ∧ ys.length ≤ i ∧ DpAll K H ys ((ds.take i).filter fun d => !g d)) ⟨same_new hD, [], upd_same, Nat.le_refl _, by simpa using DpAll.nil⟩ (fun i H' _ p => sqT_same p.1 ha)
    (fun i x H' hx p => ⟨rfl, fj, sp, rfl, hS, _, rfl, ?_⟩) (fun H' p => ?_)⟩
  · obtain ⟨s1, ys, hy, hly, hdy⟩ := p
    obtain ⟨d, hd, hr⟩ := DpAll.at hp hx
    have hm : d ∈ ds := List.mem_of_getElem? hd
    have hi : i < xs.length := by
      rcases Nat.lt_or_ge i xs.length with q | q
      · exact q
      · rw [List.getElem?_eq_none q] at hx; cases hx
    have hxl := DpAll.length hp
    refine J x d H' _ (.base (Dp.same s1 hr) (hn d hm)) (hO d hm) fun H2 s2 => ⟨_, rfl, ?_⟩
    rw [takeSucc hd, List.filter_append]
    cases e : g d with
    | true =>
      refine iteF ⟨s1.trans s2, ys, s2 _ _ hy, by omega, ?_⟩
      rw [List.filter_cons_of_neg (by simp [e]), List.filter_nil, List.append_nil]
      exact hdy
    | false =>
      refine iteT ⟨_, rfl, ys, s2 _ _ hy, by rw [sizeLine_eq]; omega, same_mut (s1.trans s2) hD, ys ++ [x], upd_same, by rw [List.length_append]; show ys.length + 1 ≤ _; omega, ?_⟩
      rw [List.filter_cons_of_pos (by simp [e]), List.filter_nil]
      exact DpAll.snoc hdy hr
  · obtain ⟨s1, ys, hy, _, hdy⟩ := p
    rw [DpAll.length hp, List.take_length] at hdy
    exact k D H' ys s1 hy (DpAll.same s1 hdy)
theorem asc_filter {ds : List PyData} {n : Nat} (h : n = ds.length - 1) : ((List.range n).filter fun i => !PySem.W.dataLt (ds.getD i .none) (ds.getD (i + 1) .none)).isEmpty = ascD ds := by
  subst h
  unfold ascD
  generalize List.range (ds.length - 1) = l
  induction l with
  | nil => rfl
  | cons i r ih =>
    cases e : PySem.W.dataLt (ds.getD i .none) (ds.getD (i + 1) .none) with
    | true => rw [List.filter_cons_of_neg (by rw [e]; decide), ih, List.all_cons, e, Bool.true_and]
    | false => rw [List.filter_cons_of_pos (by rw [e]; decide), List.all_cons, e, Bool.false_and]; rfl
theorem ones_dp {H : Hp} : ∀ n, DpAll K H (List.replicate n (V.int 1)) (List.replicate n (PyData.int 1))
  | 0 => .nil
  | n + 1 => .cons (.int 1) (ones_dp n)
theorem ones_lay : ∀ n, PyData.canLayAll0 (List.replicate n (PyData.int 1)) = true
  | 0 => by simp [PyData.canLayAll0]
  | n + 1 => by
    have z := ones_lay n
    simp only [List.replicate_succ, PyData.canLayAll0, PyData.canLay0, z, Bool.true_and]
theorem ones_depth : ∀ n, PyData.depthAll (List.replicate n (PyData.int 1)) ≤ 50
  | 0 => by simp [PyData.depthAll]
  | n + 1 => by
    have z := ones_depth n
    simp only [List.replicate_succ, PyData.depthAll, PyData.depth]
    omega
/-- [1 for one, other in zip(value, value[1:]) if not one < other] -/
theorem rd_zip {a : Addr} {xs : List V} {ds : List PyData} {H : Hp} {x1 x2 x3 : Option V} {Q : VK} (ha : SqT K H a xs) (hp : DpAll K H xs ds) (hl : ds.length ≤ 1000) (hc : Cmp ds)
    (k : ∀ D H' n, Same H H' → H' D = some (.lst (List.replicate n (V.int 1))) → decide (n = 0) = ascD ds → Q (.ref D) H') :
    tLc (iZipA K (tCons (tVar 0) (tCons (tSl (rSlA K) (tVar 0) (tPart (tC (.int 1))) tNoPart) tNil))) (gOO K) (tNot (tTest (tOp (rLtD K) (tVar 2) (tVar 3)))) (tC (.int 1)) [2, 3] [some (.ref a), x1, x2, x3] H Q := by
  have hxl := DpAll.length hp
  have mid : ∀ (b : Addr) (H1 : Hp) (D : Addr), Same H H1 → SqT K H1 b (xs.drop 1) → H1 D = none → ∃ W : Nat → Nat → Hp → Prop, (∃ m, W 0 m (upd H1 D (.lst []))) ∧ ∀ i m H, W i m H →
      ((ItzT K a b).stop i H ∧ Q (.ref D) H) ∨ ((ItzT K a b).go i H ∧ ∃ Nx : Hp → Prop, (∀ H', Nx H' → ∃ m', m' < m ∧ W (i + 1) m' H') ∧ ∀ v H', (ItzT K a b).yld i H v H' → gOO K v (wipe [some (.ref a), x1, x2, x3] [2, 3]) H' fun σ2 H2 => wipe σ2 [2, 3] = wipe [some (.ref a), x1, x2, x3] [2, 3] ∧
        tNot (tTest (tOp (rLtD K) (tVar 2) (tVar 3))) σ2 H2 fun c H3 => if c = true then tC (.int 1) σ2 H3 fun z H4 => ∃ acc, H4 D = some (.lst acc) ∧ acc.length < sizeLine ∧ Nx (upd H4 D (.lst (acc ++ [z]))) else Nx H3) := fun b H1 D s0 hb hD => by
    refine lc_zipT (K := K) (xs := xs) (ys := xs.drop 1) (by rw [List.length_drop]; omega) (fun i H' => Same H1 H' ∧ H' D = some (.lst (List.replicate ((List.range i).filter fun j => !PySem.W.dataLt (ds.getD j .none) (ds.getD (j + 1) .none)).length (V.int 1)))) ⟨same_new hD, upd_same⟩
      (fun i H' p => ⟨sqT_same (s0.trans p.1) ha, sqT_same p.1 hb⟩) (fun i x y T H' hx hy p nT => ?_) (fun H' p => ?_)
    · obtain ⟨s1, hL⟩ := p
      have hy1 : xs[i + 1]? = some y := by rw [List.getElem?_drop] at hy; rw [← hy]; congr 1; omega
      obtain ⟨d0, f0, r0⟩ := DpAll.at hp hx
      obtain ⟨d1, f1, r1⟩ := DpAll.at hp hy1
      obtain ⟨al, nn, dp⟩ := hc i d0 d1 f0 f1
      have sT := same_new (o := .tup [x, y]) nT
      have sa := (s0.trans s1).trans sT
      have g0 : ds.getD i .none = d0 := by rw [List.getD_eq_getElem?_getD, f0]; rfl
      have g1 : ds.getD (i + 1) .none = d1 := by rw [List.getD_eq_getElem?_getD, f1]; rfl
      have hi : i < ds.length := by
        rcases Nat.lt_or_ge i ds.length with q | q
        · exact q
        · rw [List.getElem?_eq_none q] at f0; cases f0
      refine ⟨T, _, rfl, SqT.of upd_same, rfl, _, _, rfl, _, _, rfl, rfl, rfl, _, rfl, _, rfl, d0, d1, Dp.same sa r0, Dp.same sa r1, al, nn, dp, _, rfl, ?_⟩
      rw [List.range_succ, List.filter_append, List.length_append]
      cases e : PySem.W.dataLt d0 d1 with
      | true =>
        rw [List.filter_cons_of_neg (by rw [g0, g1, e]; decide), List.filter_nil, List.length_nil, Nat.add_zero]
        exact iteF ⟨s1.trans sT, sT _ _ hL⟩
      | false =>
        rw [List.filter_cons_of_pos (by rw [g0, g1, e]; decide), List.filter_nil]
        refine iteT ⟨_, sT _ _ hL, ?_, same_mut (s1.trans sT) hD, ?_⟩
        · have q := List.length_filter_le (fun j => !PySem.W.dataLt (ds.getD j .none) (ds.getD (j + 1) .none)) (List.range i)
          rw [List.length_range] at q
          rw [List.length_replicate, sizeLine_eq]
          omega
        · rw [upd_same, List.length_cons, List.length_nil, List.replicate_succ']
    · obtain ⟨s1, hL⟩ := p
      refine k D H' _ (s0.trans s1) hL ?_
      rw [← asc_filter (ds := ds) (n := (xs.drop 1).length) (by rw [List.length_drop, hxl])]
      generalize (List.filter _ _ : List Nat) = l
      cases l with
      | nil => rfl
      | cons _ _ => rfl
  refine ⟨_, rfl, _, rfl, 1, rfl, a, xs, rfl, ha, fun full => ?_, fun nf p np => ?_⟩
  · have e : xs.length = 0 := by
      have z := full.1
      rw [show (1 : Int) = ((1 : Nat) : Int) from rfl, HT.sIx_nat] at z
      omega
    have e2 : xs.drop 1 = xs := by
      cases xs with
      | nil => rfl
      | cons _ _ => cases e
    exact ⟨a, a, xs, xs.drop 1, rfl, .inr ⟨ha, by rw [e2]; exact ha, fun D hD => mid a H D (Same.refl H) (by rw [e2]; exact ha) hD⟩⟩
  · have e : cutV xs (some 1) none = xs.drop 1 := by
      unfold cutV
      rw [show (1 : Int) = ((1 : Nat) : Int) from rfl, HT.sIx_nat, HT.sIx_none]
      have q : 1 ≤ xs.length := by
        rcases Nat.eq_zero_or_pos xs.length with z | z
        · exact absurd ⟨by rw [show (1 : Int) = ((1 : Nat) : Int) from rfl, HT.sIx_nat, z]; rfl, HT.sIx_none _ _⟩ nf
        · exact z
      rw [Nat.min_eq_left q]
      exact List.take_of_length_le (by rw [List.length_drop]; exact Nat.le_refl _)
    have sp := same_new (o := .tup (cutV xs (some 1) none)) np
    have hb : SqT K (upd H p (.tup (cutV xs (some 1) none))) p (xs.drop 1) := by
      rw [e]
      exact SqT.of upd_same
    exact ⟨a, p, xs, xs.drop 1, rfl, .inr ⟨sqT_same sp ha, hb, fun D hD => mid p _ D sp hb hD⟩⟩
theorem rd_tt {r : R2} {ta tb : TE} {σ : L2.St} {H : Hp} {Q : Bool → Hp → Prop} (h : ta σ H fun x H1 => tb σ H1 fun y H2 => r x y H2 fun z H3 => ∃ k, z = .bl k ∧ Q k H3) : tTest (tOp r ta tb) σ H Q := h
theorem rd_nx {t : TS} {D : Ends} {σ : L2.St} {H : Hp} (h : t D σ H) : tNext { D with nx := t D } σ H := h
theorem rd_op {r : R2} {ta tb : TE} {σ : L2.St} {H : Hp} {D : Ends} (h : ta σ H fun x H1 => tb σ H1 fun y H2 => r x y H2 D.rt) : tRet (tOp r ta tb) D σ H := h
theorem scRise : FnScope ["value", "judge", "one", "other"] ["value", "judge"] (defScope sRise) := ⟨rfl, rfl, rfl, by decide +kernel, rfl, by decide +kernel, by decide +kernel⟩
theorem ok_rise {S : Addr → Option Sp} {kk : Nat} {f : Addr} {fd : FuncData} (A2 : ∀ f sp, S f = some sp → Held P w K mg base kk f sp) (F : Fun K "_law_is_rising" "_law_is_rising" sRise f fd) (zI : mg "isinstance" = none) (zT : mg "tuple" = none) (zZ : mg "zip" = none) :
    FnOk P w K mg base CX0 (kk + 1) f fd ["value", "judge"] (spRise K S) := by
  refine F.ok scRise (fun vs H Q E h => ?_) (fun cdv A outer s H vs Q E hr h => ?_)
  · obtain ⟨v, fj, d, sp, g, Ok, rfl, _⟩ := h
    rfl
  · obtain ⟨v, fj, d, sp, g, Ok, rfl, hS, J, hd, hf, k⟩ := h
    refine ⟨_, pss_cons (ps_if (PW.pt (pw_or (pt_not (pt_val (pe_callB call_isi (by rfl) zI (by rfl) (pa_cons (pv 0) (pa_cons (pe_bltn rfl zT (by rfl) (show RelV (.ty "tuple") (.type "tuple") from rfl)) pa_nil)))))
        (pw_or1 (pt_cmpR (op_neD hr.units) (pe_lc (own := [("one", 2)]) (g := gName 2) (tt := tNot (tB (tCallA 1 S (tCons (tVar 2) tNil)))) rfl scRise.nd (pi_tup (pv 0)) (blkOk_by (own := [("one", 2)]) (N := ["value", "judge", "one", "other"]) (sc := defScope sRise) (by decide +kernel))
          (fun _ _ _ _ _ => pg_name (i := 2) scRise.nd rfl (Or.inl rfl)) (fun _ _ _ _ _ => pts_one (pt_not (pt_val (pe_callA A2 hr rfl (by first | exact Or.inl rfl | exact Or.inr (Or.inl rfl) | exact Or.inr (Or.inr rfl)) (pa_cons (pv 2) pa_nil))))) (fun _ _ _ _ _ => pv 2)) (pe_lst pa_nil) (nomark _)))))
        (pss_one (ps_ret pe_bl)) pss_nil)
      (pss_one (ps_ret (pe_cmpR (op_eqD hr.units) (pe_lc (own := [("one", 2), ("other", 3)]) (g := gOO K) (tt := tNot (tTest (tOp (rLtD K) (tVar 2) (tVar 3)))) rfl scRise.nd
          (pi_zipA rfl zZ (pa_cons (pv 0) (pa_cons (pe_slice sl_tupA (pv 0) (po_some pe_int) po_none) pa_nil))) (blkOk_by (own := [("one", 2), ("other", 3)]) (N := ["value", "judge", "one", "other"]) (sc := defScope sRise) (by decide +kernel))
          (fun _ _ _ _ _ => pg_tup rfl (pgs_cons (pg_name (i := 2) scRise.nd rfl (Or.inl rfl)) (pgs_cons (pg_name (i := 3) scRise.nd rfl (Or.inl rfl)) pgs_nil))) (fun _ _ _ _ _ => pts_one (pt_not (pt_cmpR (r := rLtD K) (op_ltD hr.units) (pv 2) (pv 3) (nomark _)))) (fun _ _ _ _ _ => pe_int)) (pe_lst pa_nil) (nomark _)))), ?_⟩
    have no : ∀ H', Same H H' → risD g d = false → Q (.bl false) H' := fun H' s1 e => by
      have z := k H' s1
      rw [e] at z
      exact z
    refine rd_isi (i := 0) (v := v) rfl hd (kit_tup d) ⟨_, rfl, ?_⟩
    match d, hd, hf, k, no with
    | .tuple ds, hd, hf, k, no =>
      obtain ⟨a, xs, rfl, hs, ha, hn⟩ := hd.tup_inv
      obtain ⟨hl, hO, lay, dep, hc⟩ := hf ds rfl
      refine iteF (rd_tt ?_)
      refine (rd_bad (K := K) hS J hs ha hn hl hO fun D H1 ys s1 hD hy => ⟨by show 0 ≤ sizeLine; decide, fun q nq => ?_⟩)
      have sq := same_new (o := .lst []) nq
      refine ⟨_, .list [], .lst (SqL.of (sq _ _ hD)) (DpAll.same sq hy), .lst (SqL.of upd_same) .nil, shaped_list (lay_filter lay) (depth_filter dep), by kernel_rfl, _, rfl, ?_⟩
      rw [eqvL_nil, filter_emp]
      have s2 := s1.trans sq
      by_cases q1 : ds.all g = true
      · rw [q1]
        have val : risD g (.tuple ds) = ascD ds := by
          show (ds.all g && ascD ds) = ascD ds
          rw [q1]
          rfl
        refine iteF (rd_nx (rd_op ?_))
        refine (rd_zip (K := K) (sqT_same s2 hs) (DpAll.same s2 ha) hl (hc q1) fun D2 H2 n s3 hL he => ⟨by show 0 ≤ sizeLine; decide, fun q2 nq2 => ?_⟩)
        have sq2 := same_new (o := .lst []) nq2
        refine ⟨.list (List.replicate n (.int 1)), .list [], .lst (SqL.of (sq2 _ _ hL)) (ones_dp n), .lst (SqL.of upd_same) .nil, shaped_list (ones_lay n) (ones_depth n), by kernel_rfl, ?_⟩
        have z := k _ (s2.trans (s3.trans sq2))
        rw [val, ← he] at z
        rw [eqvL_nil]
        cases n with
        | zero => exact z
        | succ n => exact z
      · have q1' : ds.all g = false := by simpa using q1
        rw [q1']
        refine iteT (no _ s2 ?_)
        show (ds.all g && ascD ds) = false
        rw [q1', Bool.false_and]
    | .none, _, _, _, no => exact iteT (no H (Same.refl H) rfl)
    | .bool _, _, _, _, no => exact iteT (no H (Same.refl H) rfl)
    | .int _, _, _, _, no => exact iteT (no H (Same.refl H) rfl)
    | .str _, _, _, _, no => exact iteT (no H (Same.refl H) rfl)
    | .list _, _, _, _, no => exact iteT (no H (Same.refl H) rfl)
    | .dict _, _, _, _, no => exact iteT (no H (Same.refl H) rfl)
end
end K0

namespace K0
open PySem PySem.Spec PyProof.Rows L2 DW RZ
abbrev sLPair : Stmt := top 34
abbrev sLSeen : Stmt := top 35
section
variable {P : Program} {w : World} {K : PySem.W.Frag} {mg : Str → Option Value} {base : Heap}
def PairOk (d : PyData) : Prop := ∀ ds, d = .tuple ds → ∀ x ∈ ds, Fit x ∧ Okd x
def spOk (K : PySem.W.Frag) (f : PyData → Bool) (Ok : PyData → Prop) : Sp := fun vs H Q _ => ∃ v d, vs = [v] ∧ Dd K H v d ∧ Ok d ∧ ∀ H', Same H H' → Q (.bl (f d)) H'
theorem scLPair : FnScope ["value"] ["value"] (defScope sLPair) := ⟨rfl, rfl, rfl, by decide +kernel, rfl, by decide +kernel, by decide +kernel⟩
theorem tn_two {x y : PyData} : tnD (.tuple [x, y]) = (betD 0 (10 ^ 34) x && isNameD y) := rfl
theorem tn_not {d : PyData} (h : pairD d = false) : tnD d = false := by
  match d, h with
  | .tuple [], _ => rfl
  | .tuple [_], _ => rfl
  | .tuple (_ :: _ :: _ :: _), _ => rfl
  | .none, _ => rfl
  | .bool _, _ => rfl
  | .int _, _ => rfl
  | .str _, _ => rfl
  | .list _, _ => rfl
  | .dict _, _ => rfl
  | .tuple [x, y], h => simp [pairD] at h
theorem ok_lpair {f fT fN : Addr} {fd dT dN : FuncData} (F : Fun K "_law_is_pair" "_law_is_pair" sLPair f fd) (GT : FnOk P w K mg base CX0 2 fT dT ["value"] (spJ K (betD 0 (10 ^ 34)))) (kT : PySem.W.keepIn K (.ref fT) = true) (bT : Binds K dT ["value"] []) (gT : mg "_law_is_tick" = some (.ref fT))
    (GN : FnOk P w K mg base CX0 1 fN dN ["value"] (spJo K isNameD)) (kN : PySem.W.keepIn K (.ref fN) = true) (bN : Binds K dN ["value"] []) (gN : mg "_law_is_name" = some (.ref fN))
    (zI : mg "isinstance" = none) (zT : mg "tuple" = none) (zL : mg "len" = none) : FnOk P w K mg base CX0 3 f fd ["value"] (spOk K tnD PairOk) := by
  refine F.ok scLPair (fun vs H Q E h => ?_) (fun cdv A outer s H vs Q E hr h => ?_)
  · obtain ⟨v, d, rfl, _⟩ := h
    rfl
  · obtain ⟨v, d, rfl, hd, po, k⟩ := h
    have hr1 : Room 1 _ := hr.mono (by decide)
    refine ⟨_, pss_one (ps_ret (pe_and (pe_callB call_isi (by rfl) zI (by rfl) (pa_cons (pv 0) (pa_cons (pe_bltn rfl zT (by rfl) (show RelV (.ty "tuple") (.type "tuple") from rfl)) pa_nil)))
      (pe_and (pe_cmpR op_eq (pe_callB call_len_seq (by rfl) zL PySem.boot_len (pa_cons (pv 0) pa_nil)) pe_int (nomark _))
      (pe_and (pe_call GT hr rfl gT kT bT .nil pass0 (pa_cons (pe_ix ix_tup (pv 0) pe_int (fun _ _ => rfl)) pa_nil))
      (pe_one (pe_call GN hr1 rfl gN kN bN .nil pass0 (pa_cons (pe_ix ix_tup (pv 0) pe_int (fun _ _ => rfl)) pa_nil))))))), ?_⟩
    have no : ∀ H', Same H H' → tnD d = false → Q (.bl false) H' := fun H' s1 e => by
      have z := k H' s1
      rw [e] at z
      exact z
    refine rd_isi rfl hd (kit_tup d) ⟨_, rfl, ?_⟩
    match d, hd, po, k, no with
    | .tuple ds, hd, po, k, no =>
      obtain ⟨a, xs, rfl, hs, ha, hn⟩ := hd.tup_inv
      refine iteT ⟨_, rfl, a, xs, rfl, .inr hs, rfl, _, rfl, ?_⟩
      have e : decide (V.int ((xs.length : Nat) : Int) = V.int 2) = pairD (.tuple ds) := by
        show _ = decide (ds.length = 2)
        rw [DpAll.length ha, dec_int]
        by_cases q : ds.length = 2
        · rw [q]; rfl
        · rw [decide_eq_false q, beq_eq_false_iff_ne]; omega
      rw [e]
      cases q : pairD (.tuple ds) with
      | false => exact iteF (no H (Same.refl H) (tn_not q))
      | true =>
        obtain ⟨x, y, ex⟩ := pair_inv q
        cases ex
        cases ha with
        | @cons u1 _ _ _ r1 ha =>
          cases ha with
          | @cons u2 _ _ _ r2 ha =>
            cases ha
            have nx : x.hasDict = false := hn x (by simp)
            have ny : y.hasDict = false := hn y (by simp)
            obtain ⟨fx, _⟩ := po _ rfl x (by simp)
            obtain ⟨fy, oy⟩ := po _ rfl y (by simp)
            refine iteT ⟨_, rfl, a, _, 0, u1, rfl, rfl, hs, rfl, u1, x, rfl, .base r1 nx, fx, fun H1 s1 => ⟨_, rfl, ?_⟩⟩
            cases c : betD 0 (10 ^ 34) x with
            | false => exact iteF (no H1 s1 (by rw [tn_two, c]; rfl))
            | true =>
              refine iteT ⟨_, rfl, a, _, 1, u2, rfl, rfl, sqT_same s1 hs, rfl, u2, y, rfl, .base (Dp.same s1 r2) ny, fy, oy, fun H2 s2 => ?_⟩
              have z := k H2 (s1.trans s2)
              rw [tn_two, c, Bool.true_and] at z
              exact z
    | .none, _, _, _, no => exact iteF (no H (Same.refl H) rfl)
    | .bool _, _, _, _, no => exact iteF (no H (Same.refl H) rfl)
    | .int _, _, _, _, no => exact iteF (no H (Same.refl H) rfl)
    | .str _, _, _, _, no => exact iteF (no H (Same.refl H) rfl)
    | .list _, _, _, _, no => exact iteF (no H (Same.refl H) rfl)
    | .dict _, _, _, _, no => exact iteF (no H (Same.refl H) rfl)
def SeenOk (d : PyData) : Prop := ∀ ds, d = .tuple ds → ds.length ≤ 1000 ∧ (∀ e ∈ ds, PairOk e) ∧ PyData.canLayAll0 ds = true ∧ PyData.depthAll ds ≤ 50
theorem seen_ris (ds : List PyData) : seenD (.tuple ds) = (risD tnD (.tuple ds) && decide (ds.length = newN (ds.map nameOf) ds.length)) := by
  show (ds.all pairD && (ds.all tnD && (ascD ds && _))) = ((ds.all tnD && ascD ds) && _)
  cases e : ds.all tnD with
  | false => rw [Bool.false_and, Bool.and_false, Bool.false_and, Bool.false_and]
  | true =>
    have z : ds.all pairD = true := by
      rw [List.all_eq_true] at e ⊢
      intro x hx
      cases q : pairD x with
      | true => rfl
      | false =>
        have y := e x hx
        rw [tn_not q] at y
        cases y
    rw [z, Bool.true_and, Bool.true_and, Bool.true_and]
/-- len(set([pair[1] for pair in value])) -/
theorem rd_set1 {a : Addr} {xs : List V} {ds : List PyData} {H : Hp} {x1 : Option V} {Q : VK} (ha : SqT K H a xs) (hp : DpAll K H xs ds) (hl : ds.length ≤ 1000) (h2 : ds.all tnD = true) (k : ∀ H', Same H H' → Q (.int (newN (ds.map nameOf) ds.length : Nat)) H') :
    tLenS K (tLc (iTup K (tVar 0)) (gName 1) tYes (tOp (rIxT K) (tVar 1) (tC (.int 1))) [1]) [some (.ref a), x1] H Q := by
  refine ⟨_, rfl, a, rfl, ⟨xs, ha⟩, fun D hD => lc_tup (K := K) (xs := xs) (fun i H' => Same H H' ∧ H' D = some (.lst (((ds.take i).map nameOf).map V.str))) ⟨same_new hD, upd_same⟩ (fun i H' _ p => sqT_same p.1 ha)
    (fun i x H' hx p => ⟨rfl, tyes ?_⟩) (fun H' p => ?_)⟩
  · obtain ⟨s1, hy⟩ := p
    obtain ⟨d, hd, hr⟩ := DpAll.at hp hx
    rw [List.all_eq_true] at h2
    obtain ⟨t, n, rfl⟩ := tn_inv (h2 d (List.mem_of_getElem? hd))
    obtain ⟨b, u1, u2, rfl, hb, r1, r2⟩ := two_inv (Dp.same s1 hr)
    cases r2
    refine ⟨_, rfl, b, _, 1, _, rfl, rfl, hb, rfl, _, hy, ?_, same_mut s1 hD, ?_⟩
    · rw [List.length_map, List.length_map, List.length_take, sizeLine_eq]
      omega
    · rw [upd_same, takeSucc hd]
      simp [nameOf]
  · obtain ⟨s1, hy⟩ := p
    rw [DpAll.length hp, List.take_length] at hy
    refine ⟨D, ds.map nameOf, rfl, SqL.of hy, by rw [List.length_map]; unfold scanBound; omega, ?_⟩
    rw [List.length_map]
    exact k H' s1
theorem scLSeen : FnScope ["value", "pair"] ["value"] (defScope sLSeen) := ⟨rfl, rfl, rfl, by decide +kernel, rfl, by decide +kernel, by decide +kernel⟩
theorem ok_lseen {S : Addr → Option Sp} {kk : Nat} {f fR fP : Addr} {fd dR : FuncData} (F : Fun K "_law_is_seen" "_law_is_seen" sLSeen f fd) (GR : FnOk P w K mg base CX0 kk fR dR ["value", "judge"] (spRise K S)) (kR : PySem.W.keepIn K (.ref fR) = true) (bR : Binds K dR ["value", "judge"] []) (gR : mg "_law_is_rising" = some (.ref fR))
    (hS : S fP = some (spOk K tnD PairOk)) (gP : mg "_law_is_pair" = some (.ref fP)) (zL : mg "len" = none) (zS : mg "set" = none) : FnOk P w K mg base CX0 (kk + 1) f fd ["value"] (spOk K seenD SeenOk) := by
  refine F.ok scLSeen (fun vs H Q E h => ?_) (fun cdv A outer s H vs Q E hr h => ?_)
  · obtain ⟨v, d, rfl, _⟩ := h
    rfl
  · obtain ⟨v, d, rfl, hd, so, k⟩ := h
    refine ⟨_, pss_one (ps_ret (pe_and (pe_call GR hr rfl gR kR bR .nil pass0 (pa_cons (pv 0) (pa_cons (pe_glob rfl gP (show RelV (.ref fP) (.ref fP) from rfl)) pa_nil)))
      (pe_one (pe_cmpR op_eq (pe_lenS rfl rfl zL rfl zS (pe_lc (own := [("pair", 1)]) (g := gName 1) (tt := tYes) rfl scLSeen.nd (pi_tup (pv 0)) (blkOk_by (own := [("pair", 1)]) (N := ["value", "pair"]) (sc := defScope sLSeen) (by decide +kernel))
          (fun _ _ _ _ _ => pg_name (i := 1) scLSeen.nd rfl (Or.inl rfl)) (fun _ _ _ _ _ => pts_nil) (fun _ _ _ _ _ => pe_ix (r := rIxT K) ix_tup (pv 1) pe_int (fun _ _ => rfl))))
        (pe_callB call_len_seq (by rfl) zL PySem.boot_len (pa_cons (pv 0) pa_nil)) (nomark _))))), ?_⟩
    have J : Jd K (spOk K tnD PairOk) tnD PairOk := fun x e H1 R h1 h2 h3 => ⟨x, e, rfl, h1, h2, h3⟩
    have rs : ∀ ds, d = .tuple ds → Rise tnD PairOk ds := fun ds e => by
      obtain ⟨a1, a2, a3, a4⟩ := so ds e
      exact ⟨a1, a2, a3, a4, cmp_seen⟩
    refine ⟨_, rfl, v, fP, d, _, tnD, PairOk, rfl, hS, J, hd, rs, fun H1 s1 => ⟨_, rfl, ?_⟩⟩
    have no : risD tnD d = false → seenD d = false := fun e => by
      match d, e with
      | .tuple ds, e => rw [seen_ris, e, Bool.false_and]
      | .none, _ => rfl
      | .bool _, _ => rfl
      | .int _, _ => rfl
      | .str _, _ => rfl
      | .list _, _ => rfl
      | .dict _, _ => rfl
    cases q : risD tnD d with
    | false =>
      have z := k H1 s1
      rw [no q] at z
      exact iteF z
    | true =>
      match d, hd, so, k, q with
      | .tuple ds, hd, so, k, q =>
        obtain ⟨a, xs, rfl, hs, ha, hn⟩ := hd.tup_inv
        have q2 : ds.all tnD = true := by
          have z : (ds.all tnD && ascD ds) = true := q
          rw [Bool.and_eq_true] at z
          exact z.1
        obtain ⟨hl, _⟩ := so ds rfl
        refine iteT (rd_set1 (K := K) (sqT_same s1 hs) (DpAll.same s1 ha) hl q2 fun H2 s2 => ⟨_, rfl, a, xs, rfl, .inr (sqT_same (s1.trans s2) hs), rfl, ?_⟩)
        have z := k H2 (s1.trans s2)
        rw [seen_ris, q, Bool.true_and] at z
        have e : decide (V.int ((newN (ds.map nameOf) ds.length : Nat) : Int) = V.int ((xs.length : Nat) : Int)) = decide (ds.length = newN (ds.map nameOf) ds.length) := by
          rw [DpAll.length ha, dec_int]
          by_cases q : ds.length = newN (ds.map nameOf) ds.length
          · rw [decide_eq_true q, beq_iff_eq, ← q]
          · rw [decide_eq_false q, beq_eq_false_iff_ne]
            omega
        rw [e]
        exact z
end
end K0

namespace K0
open PySem PySem.Spec PyProof.Rows L2 DW RZ
abbrev sDice : Stmt := top 26
abbrev sRoll : Stmt := top 27
abbrev sPick : Stmt := top 28
section
variable {P : Program} {w : World} {K : PySem.W.Frag} {mg : Str → Option Value} {base : Heap}
/-! ### draws -/
def spRoll : Sp := fun vs H Q _ => ∃ (a : Addr) (d0 d1 d2 t : Int), vs = [.ref a, .int t] ∧ H a = some (.lst [.int d0, .int d1, .int d2]) ∧ 0 < t ∧ t < 1073741824 ∧
  ∀ r e0 e2 : Int, 0 ≤ r → r < t → Q (.int r) (upd H a (.lst [.int e0, .int d1, .int e2]))
theorem scRoll : FnScope ["dice", "total", "found", "one", "two"] ["dice", "total"] (defScope sRoll) := ⟨rfl, rfl, rfl, by decide +kernel, rfl, by decide +kernel, by decide +kernel⟩
theorem fm0 {i j : Int} (h : 0 < j) : 0 ≤ i.fmod j := Int.fmod_nonneg_of_pos i h
theorem fm1 {i j : Int} (h : 0 < j) : i.fmod j < j := Int.fmod_lt_of_pos i h
theorem ok_roll {f : Addr} {fd : FuncData} (F : Fun K "_law_roll" "_law_roll" sRoll f fd) : FnOk P w K mg base CX0 1 f fd ["dice", "total"] spRoll := by
  refine F.ok scRoll (fun vs H Q E h => ?_) (fun cdv A outer s H vs Q E hr h => ?_)
  · obtain ⟨a, d0, d1, d2, t, rfl, _⟩ := h
    rfl
  · obtain ⟨a, d0, d1, d2, t, rfl, hA, ht, ht2, k⟩ := h
    refine ⟨_, pss_cons (ps_if (pt_cmpR op_gt (pe_ix ix_list (pv 0) pe_int (fun _ _ => rfl)) pe_int (nomark _))
        (pss_cons (ps_set (i := 2) scRoll.nd rfl (Or.inl rfl) (pe_op op_modN (pe_ix ix_list (pv 0) pe_int (fun _ _ => rfl)) (pv 1)))
        (pss_cons (ps_asg (pe_op op_fdivN (pe_ix ix_list (pv 0) pe_int (fun _ _ => rfl)) (pv 1)) (pg_sub (pv 0) pe_int set_list))
        (pss_one (ps_ret (pv 2))))) pss_nil)
      (pss_cons (ps_asg (pe_op op_add (pe_ix ix_list (pv 0) pe_int (fun _ _ => rfl)) pe_int) (pg_sub (pv 0) pe_int set_list))
      (pss_cons (ps_set (i := 3) scRoll.nd rfl (Or.inl rfl) (pe_op op_modN (pe_op op_add (pe_ix ix_list (pv 0) pe_int (fun _ _ => rfl)) (pe_op op_mul pe_int (pe_ix ix_list (pv 0) pe_int (fun _ _ => rfl)))) pe_int))
      (pss_cons (ps_set (i := 4) scRoll.nd rfl (Or.inl rfl) (pe_op op_add (pe_op op_mul (pe_op op_modN (pe_op op_mul (pv 3) (pv 3)) pe_int) (pv 3)) (pe_op op_mul pe_int (pe_ix ix_list (pv 0) pe_int (fun _ _ => rfl)))))
      (pss_one (ps_ret (pe_op op_modN (pe_op op_fdivN (pe_op op_modN (pe_op op_add (pv 4) (pe_ix ix_list (pv 0) pe_int (fun _ _ => rfl))) pe_int) pe_int) (pv 1))))))), ?_⟩
    have h0 : t ≠ 0 := by omega
    refine ⟨_, rfl, a, _, _, _, rfl, rfl, SqL.of hA, rfl, _, _, rfl, rfl, _, rfl, ite2 (fun _ => ?_) (fun _ => ?_)⟩
    · refine ⟨_, rfl, a, _, _, _, rfl, rfl, SqL.of hA, rfl, _, rfl, _, _, rfl, rfl, h0, ?_⟩
      refine ⟨_, rfl, a, _, _, _, rfl, rfl, SqL.of hA, rfl, _, rfl, _, _, rfl, rfl, ⟨h0, by omega⟩, ?_⟩
      refine ⟨_, rfl, a, _, _, _, rfl, rfl, hA, rfl, ?_⟩
      exact ⟨_, rfl, k _ _ _ (fm0 ht) (fm1 ht)⟩
    · refine ⟨_, rfl, a, _, _, _, rfl, rfl, SqL.of hA, rfl, _, _, rfl, rfl, ?_⟩
      refine ⟨_, rfl, a, _, _, _, rfl, rfl, hA, rfl, ?_⟩
      have hB : upd H a (.lst [.int d0, .int d1, .int (d2 + 1)]) a = some (.lst [.int d0, .int d1, .int (d2 + 1)]) := upd_same
      refine ⟨_, rfl, a, _, _, _, rfl, rfl, SqL.of hB, rfl, _, rfl, a, _, _, _, rfl, rfl, SqL.of hB, rfl, _, _, rfl, rfl, .inl ⟨by decide, by decide⟩, _, _, rfl, rfl, _, _, rfl, rfl, (show (2305843009213693907 : Int) ≠ 0 by decide), ?_⟩
      have b1 := fm0 (i := d1 + 654188429 * (d2 + 1)) (j := 2305843009213693907) (by decide)
      have b2 := fm1 (i := d1 + 654188429 * (d2 + 1)) (j := 2305843009213693907) (by decide)
      have c1 := fm0 (i := (d1 + 654188429 * (d2 + 1)).fmod 2305843009213693907 * (d1 + 654188429 * (d2 + 1)).fmod 2305843009213693907) (j := 1152921504606846871) (by decide)
      have c2 := fm1 (i := (d1 + 654188429 * (d2 + 1)).fmod 2305843009213693907 * (d1 + 654188429 * (d2 + 1)).fmod 2305843009213693907) (j := 1152921504606846871) (by decide)
      refine ⟨_, rfl, _, rfl, _, _, rfl, rfl, .inl ⟨by omega, by omega⟩, _, _, rfl, rfl, (show (1152921504606846871 : Int) ≠ 0 by decide), _, rfl, _, _, rfl, rfl, .inl ⟨by omega, by omega⟩, _, rfl, a, _, _, _, rfl, rfl, SqL.of hB, rfl, _, _, rfl, rfl, .inl ⟨by decide, by decide⟩, _, _, rfl, rfl, ?_⟩
      refine ⟨_, rfl, _, rfl, a, _, _, _, rfl, rfl, SqL.of hB, rfl, _, _, rfl, rfl, _, _, rfl, rfl, (show (8796093022151 : Int) ≠ 0 by decide), _, _, rfl, rfl, ⟨by decide, by decide⟩, _, rfl, _, _, rfl, rfl, h0, ?_⟩
      exact k _ _ _ (fm0 ht) (fm1 ht)
end
local macro_rules | `(tactic| walk_at "k1dice") => `(tactic| (
  refine ⟨_, rfl, _, rfl, _, _, rfl, rfl, ⟨by decide, by decide +kernel⟩, _, _, rfl, rfl, ⟨by decide, by decide +kernel⟩, _, _, rfl, rfl, (show ((10 ^ Int.toNat 60) ^ Int.toNat 10 : Int) ≠ 0 by decide +kernel), ?_⟩
  refine ⟨_, rfl, _, _, rfl, rfl, .inr ⟨by decide, by decide⟩, _, rfl, _, _, rfl, rfl, .inl ⟨by decide, by decide⟩, _, _, rfl, rfl, _, rfl, _, _, rfl, rfl, .inr ⟨_, rfl, _, _, rfl, rfl, .inl ⟨by decide, by decide⟩, _, _, rfl, rfl, _, _, rfl, rfl, ?_⟩⟩
  refine ⟨_, rfl, _, _, rfl, rfl, ⟨by decide, by decide +kernel⟩, _, _, rfl, rfl, _, _, rfl, _, rfl, _, _, rfl, rfl, (show (1152921504606846883 : Int) ≠ 0 by decide), ?_⟩))
section
variable {P : Program} {w : World} {K : PySem.W.Frag} {mg : Str → Option Value} {base : Heap}
def spDice (K : PySem.W.Frag) : Sp := fun vs H Q _ => ∃ (a : Addr) (ns : List Int) (s : Int), vs = [.ref a, .int s] ∧ SqL K H a (ns.map V.int) ∧ 0 ≤ s ∧ s < 1000 ∧
  ∀ (p : Addr) (d0 d1 : Int), H p = none → Q (.ref p) (upd H p (.lst [.int d0, .int d1, .int 0]))
theorem scDice : FnScope ["script", "spot", "cell", "whole", "mixed"] ["script", "spot"] (defScope sDice) := ⟨rfl, rfl, rfl, by decide +kernel, rfl, by decide +kernel, by decide +kernel⟩
theorem ok_dice {f : Addr} {fd : FuncData} (F : Fun K "_law_dice" "_law_dice" sDice f fd) (zL : mg "len" = none) (zI : mg "int" = none) (zA : mg "abs" = none) (zM : mg "max" = none) :
    FnOk P w K mg base CX0 1 f fd ["script", "spot"] (spDice K) := by
  refine F.ok scDice (fun vs H Q E h => ?_) (fun cdv A outer s H vs Q E hr h => ?_)
  · obtain ⟨a, ns, s, rfl, _⟩ := h
    rfl
  · obtain ⟨a, ns, s, rfl, hS, s0, s1, k⟩ := h
    refine ⟨_, pss_cons (ps_set (i := 2) scDice.nd rfl (Or.inl rfl) (pe_ifExp (pt_cmpR op_lt (pv 1) (pe_callB call_len_seq (by rfl) zL PySem.boot_len (pa_cons (pv 0) pa_nil)) (nomark _))
          (pe_callTy call_int1 (by rfl) zI (by decide +kernel) (pa_cons (pe_ix ix_list (pv 0) (pv 1) (fun _ _ => rfl)) pa_nil)) (pe_op op_add (pe_op op_mul pe_int (pv 1)) pe_int)))
      (pss_cons (ps_set (i := 3) scDice.nd rfl (Or.inl rfl) (pe_op op_modN (pe_callB call_abs (by rfl) zA (by decide +kernel) (pa_cons (pv 2) pa_nil)) (pe_op op_powW (pe_op op_powW pe_int pe_int) pe_int)))
      (pss_cons (ps_set (i := 4) scDice.nd rfl (Or.inl rfl) (pe_op op_add (pe_op op_add (pe_op op_add (pe_op op_mul (pv 3) pe_int) (pe_op op_mul pe_int (pv 1))) (pe_op op_mul pe_int (pe_callTy call_int1 (by rfl) zI (by decide +kernel) (pa_cons (pe_cmpR op_lt (pv 2) pe_int (nomark _)) pa_nil)))) pe_int))
      (pss_one (ps_ret (pe_lst (pa_cons (pe_callB (call_max2 rfl) (by rfl) zM (by decide +kernel) (pa_cons pe_int (pa_cons (pe_op op_sub (pv 3) (pe_op op_powW pe_int pe_int)) pa_nil))) (pa_cons (pe_op op_modN (pv 4) pe_int) (pa_cons pe_int pa_nil)))))))), ?_⟩
    refine ⟨_, rfl, _, rfl, a, _, rfl, .inl hS, _, _, rfl, rfl, _, rfl, ite2 (fun h => ?_) (fun h => ?_)⟩
    · obtain ⟨n, rfl⟩ : ∃ n : Nat, s = n := ⟨s.toNat, by omega⟩
      have h : (n : Int) < ((ns.map V.int).length : Nat) := by simpa using h
      have hn : n < ns.length := by rw [List.length_map] at h; omega
      have hg : (ns.map V.int)[n]? = some (V.int ns[n]) := by simp [hn]
      refine ⟨_, rfl, _, rfl, a, _, _, _, rfl, rfl, hS, atI_nat hg, .inl ⟨_, rfl, ?_⟩⟩
      walk_at "k1dice"
      exact ⟨by show 3 ≤ sizeLine; decide, fun p hp => k p _ _ hp⟩
    · refine ⟨_, rfl, _, _, rfl, rfl, .inl ⟨by decide, by decide⟩, _, _, rfl, rfl, ?_⟩
      walk_at "k1dice"
      exact ⟨by show 3 ≤ sizeLine; decide, fun p hp => k p _ _ hp⟩
end
end K0

namespace K0
open PySem PySem.Spec PyProof.Rows L2 DW RZ
/-- all but the dice stays -/
def But (D : Addr) (H H' : Hp) : Prop := ∀ b o, b ≠ D → H b = some o → H' b = some o
def Dc (H : Hp) (D : Addr) : Prop := ∃ d0 d1 d2 : Int, H D = some (.lst [.int d0, .int d1, .int d2])
theorem Same.but {D : Addr} {H H' : Hp} (s : Same H H') : But D H H' := fun b o _ e => s b o e
theorem But.refl {D : Addr} {H : Hp} : But D H H := fun _ _ _ e => e
theorem But.trans {D : Addr} {H H1 H2 : Hp} (x : But D H H1) (y : But D H1 H2) : But D H H2 := fun b o n e => y b o n (x b o n e)
theorem But.upd {D : Addr} {H : Hp} {o : HO} : But D H (upd H D o) := fun b u n e => by rw [upd_ne n]; exact e
theorem Dc.same {D : Addr} {H H' : Hp} (s : Same H H') (h : Dc H D) : Dc H' D := by
  obtain ⟨a, b, c, e⟩ := h
  exact ⟨a, b, c, s _ _ e⟩
theorem new_ne {H : Hp} {D p : Addr} (hD : Dc H D) (hp : H p = none) : p ≠ D := by
  obtain ⟨d0, d1, d2, e⟩ := hD
  rintro rfl
  rw [hp] at e
  cases e
section
variable {P : Program} {w : World} {K : PySem.W.Frag} {mg : Str → Option Value} {base : Heap}
def spPick (K : PySem.W.Frag) : Sp := fun vs H Q _ => ∃ (D : Addr) (v : V), vs = [.ref D, v] ∧ Dc H D ∧
  ((∃ p xs, v = .ref p ∧ p ≠ D ∧ H p = some (.lst xs) ∧ 0 < xs.length ∧ xs.length < 1000 ∧ ∀ u H', u ∈ xs → But D H H' → Dc H' D → Q u H') ∨
   (∃ z : Str, v = .str z ∧ 0 < z.length ∧ z.length < 1000 ∧ ∀ c H', c ∈ z.cps.toList → But D H H' → Dc H' D → Q (.str ⟨#[c]⟩) H'))
theorem scPick : FnScope ["dice", "items"] ["dice", "items"] (defScope sPick) := ⟨rfl, rfl, rfl, by decide +kernel, rfl, by decide +kernel, by decide +kernel⟩
theorem ok_pick {f fR : Addr} {fd fdR : FuncData} (F : Fun K "_law_pick" "_law_pick" sPick f fd) (FR : Fun K "_law_roll" "_law_roll" sRoll fR fdR) (bR : Binds K fdR ["dice", "total"] []) (gR : mg "_law_roll" = some (.ref fR)) (zL : mg "len" = none) :
    FnOk P w K mg base CX0 2 f fd ["dice", "items"] (spPick K) := by
  have GR : FnOk P w K mg base CX0 1 fR fdR ["dice", "total"] spRoll := ok_roll FR
  refine F.ok scPick (fun vs H Q E h => ?_) (fun cdv A outer s H vs Q E hr h => ?_)
  · obtain ⟨D, v, rfl, _⟩ := h
    rfl
  · obtain ⟨D, v, rfl, ⟨d0, d1, d2, eD⟩, h⟩ := h
    refine ⟨_, pss_one (ps_ret (pe_ix ix_seq (pv 1) (pe_call GR hr rfl gR FR.kp bR .nil pass0 (pa_cons (pv 0) (pa_cons (pe_callB call_len (by rfl) zL PySem.boot_len (pa_cons (pv 1) pa_nil)) pa_nil))) (fun _ _ => rfl))), ?_⟩
    rcases h with ⟨p, xs, rfl, ne, hp, l0, l1, k⟩ | ⟨z, rfl, l0, l1, k⟩
    · refine ⟨_, rfl, _, rfl, _, rfl, _, xs.length, rfl, .inl ⟨xs, SqL.of hp, rfl⟩, D, d0, d1, d2, _, rfl, eD, by omega, by omega, fun r e0 e2 r0 r1 => .inl ?_⟩
      obtain ⟨n, rfl⟩ : ∃ n : Nat, r = n := ⟨r.toNat, by omega⟩
      have hn : n < xs.length := by omega
      have hg : xs[n]? = some xs[n] := List.getElem?_eq_getElem hn
      exact ⟨p, xs, _, _, rfl, rfl, SqL.of (by rw [upd_ne ne]; exact hp), atI_nat hg, k _ _ (List.mem_of_getElem? hg) But.upd ⟨e0, d1, e2, upd_same⟩⟩
    · have hzs : z.length ≤ sizeLine := by rw [sizeLine_eq]; omega
      refine ⟨_, rfl, _, rfl, _, rfl, _, z.length, rfl, ⟨hzs, rfl⟩, D, d0, d1, d2, _, rfl, eD, by omega, by omega, fun r e0 e2 r0 r1 => .inr (.inr ?_)⟩
      obtain ⟨n, rfl⟩ : ∃ n : Nat, r = n := ⟨r.toNat, by omega⟩
      have hl : z.cps.toList.length = z.length := by simp [Str.length]
      have hn : n < z.cps.toList.length := by omega
      have hg : z.cps.toList[n]? = some z.cps.toList[n] := List.getElem?_eq_getElem hn
      exact ⟨z, _, _, rfl, rfl, hzs, atI_nat hg, k _ _ (List.mem_of_getElem? hg) But.upd ⟨e0, d1, e2, upd_same⟩⟩
/-- a roll, by the dice alone -/
theorem sp_roll {H : Hp} {D : Addr} {t : Int} {Q : VK} {E : XK} (hD : Dc H D) (h0 : 0 < t) (h1 : t < 1000) (k : ∀ (r : Int) H', 0 ≤ r → r < t → But D H H' → Dc H' D → Q (.int r) H') : spRoll [.ref D, .int t] H Q E := by
  obtain ⟨d0, d1, d2, e⟩ := hD
  exact ⟨D, d0, d1, d2, t, rfl, e, h0, by omega, fun r e0 e2 r0 r1 => k r _ r0 r1 But.upd ⟨e0, d1, e2, upd_same⟩⟩
/-- a text that may be drawn -/
def Gt (n : Nat) (z : Str) : Prop := z.length ≤ n ∧ ∀ c ∈ z.cps.toList, c < 0x110000
end
end K0

namespace K0
open PySem PySem.Spec PyProof.Rows L2 DW RZ
abbrev sText : Stmt := top 36
theorem Gt.app {n m : Nat} {a b : Str} (h : Gt n a) (g : Gt m b) : Gt (n + m) (a ++ b) := by
  refine ⟨by rw [PySem.Str.length_append]; have := h.1; have := g.1; omega, fun c hc => ?_⟩
  rw [PySem.Str.cps_append, Array.toList_append, List.mem_append] at hc
  rcases hc with hc | hc
  · exact h.2 c hc
  · exact g.2 c hc
theorem Gt.mono {n m : Nat} {a : Str} (h : Gt n a) (l : n ≤ m) : Gt m a := ⟨Nat.le_trans h.1 l, h.2⟩
theorem Gt.cut {n : Nat} {a : Str} {lo hi : Option Int} (h : Gt n a) : Gt n (cutS a lo hi) := by
  refine ⟨?_, fun c hc => ?_⟩
  · have e : (cutS a lo hi).length = ((a.cps.toList.drop (HT.sIx a.length 0 lo)).take (HT.sIx a.length a.length hi - HT.sIx a.length 0 lo)).length := by simp [cutS, Str.length]
    have hl : a.cps.toList.length = a.length := by simp [Str.length]
    rw [e, List.length_take, List.length_drop, hl]
    have := h.1
    omega
  · have z : c ∈ (a.cps.toList.drop (HT.sIx a.length 0 lo)).take (HT.sIx a.length a.length hi - HT.sIx a.length 0 lo) := by simpa [cutS] using hc
    exact h.2 c (List.mem_of_mem_drop (List.mem_of_mem_take z))
theorem Gt.sign {c : Nat} (h : c < 0x110000) : Gt 1 ⟨#[c]⟩ := ⟨by simp [Str.length], fun d hd => by
  have e : d = c := by simpa using hd
  subst e
  exact h⟩
theorem gt_of {n : Nat} {z : Str} (h : (decide (z.length ≤ n) && z.cps.toList.all fun c => decide (c < 0x110000)) = true) : Gt n z := by
  rw [Bool.and_eq_true, decide_eq_true_eq, List.all_eq_true] at h
  exact ⟨h.1, fun c hc => of_decide_eq_true (h.2 c hc)⟩
theorem join_cps : ∀ (ys : List Str), (∀ y ∈ ys, ∀ c ∈ y.cps.toList, c < 0x110000) → ∀ c ∈ (Str.join "" ys).cps.toList, c < 0x110000
  | [], _, c, hc => by
    have z : (Str.join "" []).cps.toList = [] := by decide +kernel
    rw [z] at hc
    cases hc
  | [y], h, c, hc => h y (by simp) c hc
  | y :: z :: r, h, c, hc => by
    have e : (Str.join "" (y :: z :: r)) = y ++ "" ++ Str.join "" (z :: r) := rfl
    rw [e, PySem.Str.cps_append, PySem.Str.cps_append, Array.toList_append, Array.toList_append, List.mem_append, List.mem_append] at hc
    rcases hc with (hc | hc) | hc
    · exact h y (by simp) c hc
    · have z : (PySem.Str.ofString "").cps.toList = [] := by decide +kernel
      rw [z] at hc
      cases hc
    · exact join_cps (z :: r) (fun x hx => h x (List.mem_cons_of_mem _ hx)) c hc
theorem join_gt : ∀ (ys : List Str), (∀ y ∈ ys, Gt 1 y ∧ y.length = 1) → Gt ys.length (Txt.join "" ys) := fun ys h => by
  refine ⟨by rw [PySem.W.KT.join_ones ys fun a ha => (h a ha).2]; exact Nat.le_refl _, ?_⟩
  have e : Txt.join "" ys = Str.join "" ys := beq_iff_eq.mp (PyProof.Rows.join_plain_closes "" ys)
  rw [e]
  exact join_cps ys fun y hy => (h y hy).1.2
section
variable {P : Program} {w : World} {K : PySem.W.Frag} {mg : Str → Option Value} {base : Heap}
theorem scText : FnScope ["dice", "signs", "text", "turn", "at"] ["dice"] (defScope sText) := ⟨rfl, rfl, rfl, by decide +kernel, rfl, by decide +kernel, by decide +kernel⟩
def spText : Sp := fun vs H Q _ => ∃ D, vs = [.ref D] ∧ Dc H D ∧ ∀ z H', Gt 32 z → But D H H' → Dc H' D → Q (.str z) H'
abbrev tRl (t : TE) : TE := tCall spRoll [] E0 (tCons (tVar 0) (tCons t tNil))
abbrev tPk (K : PySem.W.Frag) (t : TE) : TE := tCall (spPick K) [] E0 (tCons (tVar 0) (tCons t tNil))
abbrev rAddS : R2 := fun x y H Q => ∃ i j, x = .str i ∧ y = .str j ∧ i.length + j.length ≤ sizeLine ∧ Q (.str (i ++ j)) H
theorem rd_rl {n : Int} {σ : L2.St} {H : Hp} {D : Addr} {Q : VK} (h0 : σ[0]? = some (some (.ref D))) (hD : Dc H D) (l0 : 0 < n) (l1 : n < 1000) (k : ∀ (r : Int) H', 0 ≤ r → r < n → But D H H' → Dc H' D → Q (.int r) H') : tRl (tC (.int n)) σ H Q := ⟨_, h0, sp_roll (E := E0) hD l0 l1 k⟩
theorem rd_pk {z : Str} {σ : L2.St} {H : Hp} {D : Addr} {Q : VK} (h0 : σ[0]? = some (some (.ref D))) (hD : Dc H D) (l0 : 0 < z.length) (l1 : z.length < 1000) (k : ∀ c H', c ∈ z.cps.toList → But D H H' → Dc H' D → Q (.str ⟨#[c]⟩) H') : tPk K (tC (.str z)) σ H Q :=
  ⟨_, h0, D, _, rfl, hD, .inr ⟨z, rfl, l0, l1, k⟩⟩
theorem len_ok {n : Nat} {a : Str} (h : Gt n a) (l : n ≤ 1000) : a.length ≤ sizeLine := by
  have := h.1
  rw [sizeLine_eq]
  omega
abbrev t3 (K : PySem.W.Frag) : TS := tIfS (tTest (tOp rEq (tRl (tC (.int 4))) (tC (.int 0))))
  (tSeq (tAsg (tRl (tOp (rI0 fun i j => .int (i + j)) (tCB (fun xs H Q => ∃ z, xs = [.str z] ∧ z.length ≤ sizeLine ∧ Q (.int z.length) H) (tCons (tVar 2) tNil)) (tC (.int 1)))) (gName 4))
    (tAsg (tOp rAddS (tOp rAddS (L2.tSl rSlS (tVar 2) tNoPart (tPart (tVar 4))) (tPk K (tC (.str "ABZ_- /:{~@0.\n")))) (L2.tSl rSlS (tVar 2) (tPart (tVar 4)) tNoPart)) (gName 2))) tNext
theorem rd_3 {t : TS} {Dd : Ends} {H : Hp} {D : Addr} {x1 x3 x4 : Option V} {z : Str} (hz : Gt 15 z) (hD : Dc H D) (k : ∀ z' x4' H', Gt 31 z' → But D H H' → Dc H' D → t Dd [some (.ref D), x1, some (.str z'), x3, x4'] H') :
    tSeq (t3 K) t Dd [some (.ref D), x1, some (.str z), x3, x4] H := by
  show tIfS _ _ _ { Dd with nx := t Dd } _ _
  refine rd_rl (n := 4) rfl hD (by decide) (by decide) fun r H1 r0 r1 b1 d1 => ⟨rfl, _, rfl, ite2 (fun _ => ?_) fun _ => ?_⟩
  · obtain ⟨e0, e1, e2, eD⟩ := id d1
    refine ⟨_, rfl, _, rfl, z, rfl, len_ok hz (by decide), _, _, rfl, rfl, D, e0, e1, e2, _, rfl, eD, by omega, by have := hz.1; omega, fun at' f0 f2 a0 a1 => ?_⟩
    have b2 : But D H1 (upd H1 D (.lst [.int f0, .int e1, .int f2])) := But.upd
    have d2 : Dc (upd H1 D (.lst [.int f0, .int e1, .int f2])) D := ⟨f0, e1, f2, upd_same⟩
    generalize upd H1 D (.lst [.int f0, .int e1, .int f2]) = H2 at b2 d2 ⊢
    refine ⟨_, rfl, _, rfl, at', rfl, z, rfl, len_ok hz (by decide), ?_⟩
    refine rd_pk (K := K) rfl d2 (by decide +kernel) (by decide +kernel) fun c H3 hc b3 d3 => ?_
    have gc : Gt 1 ⟨#[c]⟩ := Gt.sign ((gt_of (n := 30) (z := "ABZ_- /:{~@0.\n") (by decide +kernel)).2 c hc)
    have g1 := (hz.cut (lo := none) (hi := some at')).app gc
    have g2 := g1.app (hz.cut (lo := some at') (hi := none))
    refine ⟨_, _, rfl, rfl, by have := (hz.cut (lo := none) (hi := some at')).1; have := gc.1; rw [sizeLine_eq]; omega, ?_⟩
    refine ⟨_, rfl, _, rfl, at', rfl, z, rfl, len_ok hz (by decide), _, _, rfl, rfl, by have := g1.1; have := (hz.cut (lo := some at') (hi := none)).1; rw [sizeLine_eq]; omega, ?_⟩
    exact k _ _ H3 g2 (b1.trans (b2.trans b3)) d3
  · exact k z x4 H1 (hz.mono (by decide)) b1 d1
abbrev t4 (K : PySem.W.Frag) : TS := tIfS (tTest (tOp (rI0 fun i j => .bl (decide (i > j))) (tRl (tC (.int 3))) (tC (.int 0)))) (tAsg (tOp rAddS (tPk K (tC (.str "agz"))) (tVar 2)) (gName 2)) tNext
theorem rd_4 {t : TS} {Dd : Ends} {H : Hp} {D : Addr} {x1 x3 x4 : Option V} {z : Str} (hz : Gt 31 z) (hD : Dc H D) (k : ∀ z' H', Gt 32 z' → But D H H' → Dc H' D → t Dd [some (.ref D), x1, some (.str z'), x3, x4] H') :
    tSeq (t4 K) t Dd [some (.ref D), x1, some (.str z), x3, x4] H := by
  show tIfS _ _ _ { Dd with nx := t Dd } _ _
  refine rd_rl (n := 3) rfl hD (by decide) (by decide) fun r H1 r0 r1 b1 d1 => ⟨_, _, rfl, rfl, _, rfl, ite2 (fun _ => ?_) fun _ => ?_⟩
  · refine rd_pk (K := K) rfl d1 (by decide +kernel) (by decide +kernel) fun c H2 hc b2 d2 => ?_
    have gc : Gt 1 ⟨#[c]⟩ := Gt.sign ((gt_of (n := 30) (z := "agz") (by decide +kernel)).2 c hc)
    refine ⟨_, rfl, _, _, rfl, rfl, by have := hz.1; have := gc.1; rw [sizeLine_eq]; omega, ?_⟩
    exact k _ H2 ((gc.app hz).mono (by decide)) (b1.trans b2) d2
  · exact k z H1 (hz.mono (by decide)) b1 d1
abbrev t5 (K : PySem.W.Frag) : TE := tPk K (tLst (tCons (tVar 2) (tCons (tVar 2) (tCons (tVar 2) (tCons (L2.tSl rSlS (tVar 2) tNoPart (tPart (tC (.int 12)))) (tCons (tC (.str "dawn")) (tCons (tC (.str "dawn1")) (tCons (tC (.str "dawns")) (tCons (tC (.str "daw")) (tCons (tC (.str "Dawn")) tNil))))))))))
theorem rd_5 {H : Hp} {D : Addr} {x1 x3 x4 : Option V} {z : Str} {Q : VK} (hz : Gt 32 z) (hD : Dc H D) (k : ∀ z' H', Gt 32 z' → But D H H' → Dc H' D → Q (.str z') H') : t5 K [some (.ref D), x1, some (.str z), x3, x4] H Q := by
  refine ⟨_, rfl, _, rfl, _, rfl, _, rfl, _, rfl, 12, rfl, z, rfl, len_ok hz (by decide), by show 9 ≤ sizeLine; decide, fun p np => ?_⟩
  have s1 := same_new (o := .lst [.str z, .str z, .str z, .str (cutS z none (some 12)), .str "dawn", .str "dawn1", .str "dawns", .str "daw", .str "Dawn"]) np
  refine ⟨D, _, rfl, hD.same s1, .inl ⟨p, _, rfl, new_ne hD np, upd_same, by show 0 < 9; decide, by show 9 < 1000; decide, fun u H' hu b d => ?_⟩⟩
  have fin : ∀ z', Gt 32 z' → Q (.str z') H' := fun z' g => k z' H' g ((Same.but s1).trans b) d
  simp only [List.mem_cons, List.not_mem_nil, or_false] at hu
  rcases hu with rfl | rfl | rfl | rfl | rfl | rfl | rfl | rfl | rfl
  · exact fin _ hz
  · exact fin _ hz
  · exact fin _ hz
  · exact fin _ hz.cut
  · exact fin _ (gt_of (by decide +kernel))
  · exact fin _ (gt_of (by decide +kernel))
  · exact fin _ (gt_of (by decide +kernel))
  · exact fin _ (gt_of (by decide +kernel))
  · exact fin _ (gt_of (by decide +kernel))
theorem sum_ones : ∀ ys : List Str, (∀ y ∈ ys, Gt 1 y ∧ y.length = 1) → (ys.map (·.length)).sum = ys.length
  | [], _ => rfl
  | y :: r, h => by
    rw [List.map_cons, List.sum_cons, sum_ones r fun x hx => h x (List.mem_cons_of_mem _ hx), (h y (by simp)).2, List.length_cons]
    omega
abbrev t2 (K : PySem.W.Frag) : TE := tM1 (fun x xs H Q => ∃ a p, ∃ ys : List Str, x = .str a ∧ xs = [.ref p] ∧ (SqL K H p (ys.map V.str) ∨ SqT K H p (ys.map V.str)) ∧ (ys.map (·.length)).sum + ys.length * a.length ≤ 16777216 ∧ Q (.str (Txt.join a ys)) H) (tC (.str ""))
  (tLc (iRng1 (tCons (tRl (tC (.int 15))) tNil)) (gName 3) tYes (tPk K (tVar 1)) [3])
theorem rd_2 {H : Hp} {D : Addr} {x2 x3 x4 : Option V} {z : Str} {Q : VK} (hz : Gt 30 z) (l0 : 0 < z.length) (hD : Dc H D) (k : ∀ z' H', Gt 15 z' → But D H H' → Dc H' D → Q (.str z') H') : t2 K [some (.ref D), some (.str z), x2, x3, x4] H Q := by
  refine ⟨⟨_, rfl⟩, ?_⟩
  refine rd_rl (n := 15) rfl hD (by decide) (by decide) fun r H1 r0 r1 b1 d1 => ⟨r, rfl, by omega, by omega, fun L nL => ?_⟩
  have neL := new_ne d1 nL
  refine lc_range (lo := 0) (n := r.toNat) (fun i H' => But D H1 H' ∧ Dc H' D ∧ ∃ ys : List Str, H' L = some (.lst (ys.map V.str)) ∧ ys.length = i ∧ ∀ y ∈ ys, Gt 1 y ∧ y.length = 1)
    ⟨Same.but (same_new nL), d1.same (same_new nL), [], upd_same, rfl, fun y h => by cases h⟩ (fun i H' hi p => ⟨rfl, tyes ?_⟩) (fun H' p => ?_)
  · obtain ⟨b, d, ys, hy, hl, hg⟩ := p
    refine ⟨_, rfl, _, rfl, D, _, rfl, d, .inr ⟨z, rfl, l0, by have := hz.1; omega, fun c H2 hc b2 d2 => ?_⟩⟩
    refine ⟨_, b2 _ _ neL hy, by rw [List.length_map, sizeLine_eq]; omega, ?_, ?_, ys ++ [⟨#[c]⟩], ?_, by rw [List.length_append, hl]; rfl, ?_⟩
    · intro q o hq e
      rw [upd_ne (ne_of_none e nL)]
      exact b2 q o hq (b q o hq e)
    · obtain ⟨e0, e1, e2, e⟩ := d2
      exact ⟨e0, e1, e2, by rw [upd_ne (Ne.symm neL)]; exact e⟩
    · rw [upd_same, List.map_append]
      rfl
    · intro y hy2
      rcases List.mem_append.mp hy2 with m | m
      · exact hg y m
      · have e : y = ⟨#[c]⟩ := by simpa using m
        subst e
        exact ⟨Gt.sign (hz.2 c hc), by simp [Str.length]⟩
  · obtain ⟨b, d, ys, hy, hl, hg⟩ := p
    have n15 : ys.length ≤ 15 := by omega
    refine ⟨"", L, ys, rfl, rfl, .inl (SqL.of hy), ?_, k _ H' ((join_gt ys hg).mono n15) (b1.trans b) d⟩
    rw [sum_ones ys hg]
    have z0 : (PySem.Str.ofString "").length = 0 := by decide +kernel
    rw [z0]
    omega
abbrev t1 : TE := tOp rAddS (tOp rAddS (tC (.str "abcxyz")) (tOp (fun x y H Q => ∃ (a : Str) (n : Int), x = .str a ∧ y = .int n ∧ MulOk a n ∧ Q (.str (Txt.mul a n)) H) (tC (.str "0189.")) (tC (.int 2)))) (tC (.str "mnopq"))
theorem rd_1 {σ : L2.St} {H : Hp} {Q : VK} (k : ∀ z, Gt 30 z → 0 < z.length → Q (.str z) H) : t1 σ H Q := by
  refine ⟨_, _, rfl, rfl, ⟨by decide +kernel, fun _ _ => by decide +kernel, fun _ _ => by decide +kernel⟩, _, _, rfl, rfl, by decide +kernel, _, _, rfl, rfl, by decide +kernel, k _ (gt_of (by decide +kernel)) (by decide +kernel)⟩
abbrev tTx (K : PySem.W.Frag) : TS := tSeq (tAsg t1 (gName 1)) (tSeq (tAsg (t2 K) (gName 2)) (tSeq (t3 K) (tSeq (t4 K) (tRet (t5 K)))))
theorem rd_tx {Dd : Ends} {H : Hp} {D : Addr} {x1 x2 x3 x4 : Option V} (hD : Dc H D) (k : ∀ z H', Gt 32 z → But D H H' → Dc H' D → Dd.rt (.str z) H') : tTx K Dd [some (.ref D), x1, x2, x3, x4] H := by
  show t1 _ _ fun y H1 => tSeq (tAsg (t2 K) (gName 2)) (tSeq (t3 K) (tSeq (t4 K) (tRet (t5 K)))) Dd [some (.ref D), some y, x2, x3, x4] H1
  refine rd_1 fun z0 g0 l0 => ?_
  show t2 K _ _ fun y H1 => tSeq (t3 K) (tSeq (t4 K) (tRet (t5 K))) Dd [some (.ref D), some (.str z0), some y, x3, x4] H1
  refine rd_2 (K := K) g0 l0 hD fun z1 H1 g1 b1 d1 => ?_
  refine rd_3 (K := K) g1 d1 fun z2 x4' H2 g2 b2 d2 => ?_
  refine rd_4 (K := K) g2 d2 fun z3 H3 g3 b3 d3 => ?_
  show t5 K _ _ Dd.rt
  exact rd_5 (K := K) g3 d3 fun z4 H4 g4 b4 d4 => k z4 H4 g4 (b1.trans (b2.trans (b3.trans b4))) d4
theorem ok_text {f fR fP : Addr} {fd dR dP : FuncData} (F : Fun K "_law_text" "_law_text" sText f fd) (GR : FnOk P w K mg base CX0 1 fR dR ["dice", "total"] spRoll) (kR : PySem.W.keepIn K (.ref fR) = true) (bR : Binds K dR ["dice", "total"] []) (gR : mg "_law_roll" = some (.ref fR))
    (GP : FnOk P w K mg base CX0 2 fP dP ["dice", "items"] (spPick K)) (kP : PySem.W.keepIn K (.ref fP) = true) (bP : Binds K dP ["dice", "items"] []) (gP : mg "_law_pick" = some (.ref fP)) (zL : mg "len" = none) (zR : mg "range" = none) :
    FnOk P w K mg base CX0 3 f fd ["dice"] spText := by
  refine F.ok scText (fun vs H Q E h => ?_) (fun cdv A outer s H vs Q E hr h => ?_)
  · obtain ⟨D, rfl, _⟩ := h
    rfl
  · obtain ⟨D, rfl, hD, k⟩ := h
    have hr1 : Room 1 _ := hr.mono (by decide)
    refine ⟨_, pss_cons (ps_set (i := 1) scText.nd rfl (Or.inr rfl) (pe_op op_add_str (pe_op op_add_str pe_str (pe_op op_mulS pe_str pe_int)) pe_str))
      (pss_cons (ps_set (i := 2) scText.nd rfl (Or.inl rfl) (pe_join pe_str (pe_lc (own := [("turn", 3)]) (g := gName 3) (tt := tYes) rfl scText.nd (pi_range1 rfl zR (pa_cons (pe_call GR hr1 rfl gR kR bR .nil pass0 (pa_cons (pv 0) (pa_cons pe_int pa_nil))) pa_nil))
          (blkOk_by (own := [("turn", 3)]) (N := ["dice", "signs", "text", "turn", "at"]) (sc := defScope sText) (by decide +kernel)) (fun _ _ _ _ _ => pg_name (i := 3) scText.nd rfl (Or.inl rfl)) (fun _ _ _ _ _ => pts_nil)
          (fun _ _ _ _ _ => pe_call GP hr rfl gP kP bP .nil pass0 (pa_cons (pv 0) (pa_cons (pv 1) pa_nil))))))
      (pss_cons (ps_if (pt_cmpR op_eq (pe_call GR hr1 rfl gR kR bR .nil pass0 (pa_cons (pv 0) (pa_cons pe_int pa_nil))) pe_int (nomark _))
          (pss_cons (ps_set (i := 4) scText.nd rfl (Or.inl rfl) (pe_call GR hr1 rfl gR kR bR .nil pass0 (pa_cons (pv 0) (pa_cons (pe_op op_add (pe_callB call_len_str (by rfl) zL PySem.boot_len (pa_cons (pv 2) pa_nil)) pe_int) pa_nil))))
          (pss_one (ps_set (i := 2) scText.nd rfl (Or.inl rfl) (pe_op op_add_str (pe_op op_add_str (pe_slice sl_str (pv 2) po_none (po_some (pv 4))) (pe_call GP hr rfl gP kP bP .nil pass0 (pa_cons (pv 0) (pa_cons pe_str pa_nil)))) (pe_slice sl_str (pv 2) (po_some (pv 4)) po_none))))) pss_nil)
      (pss_cons (ps_if (pt_cmpR op_gt (pe_call GR hr1 rfl gR kR bR .nil pass0 (pa_cons (pv 0) (pa_cons pe_int pa_nil))) pe_int (nomark _))
          (pss_one (ps_set (i := 2) scText.nd rfl (Or.inl rfl) (pe_op op_add_str (pe_call GP hr rfl gP kP bP .nil pass0 (pa_cons (pv 0) (pa_cons pe_str pa_nil))) (pv 2)))) pss_nil)
      (pss_one (ps_ret (pe_call GP hr rfl gP kP bP .nil pass0 (pa_cons (pv 0) (pa_cons (pe_lst (pa_cons (pv 2) (pa_cons (pv 2) (pa_cons (pv 2) (pa_cons (pe_slice sl_str (pv 2) po_none (po_some pe_int)) (pa_cons pe_str (pa_cons pe_str (pa_cons pe_str (pa_cons pe_str (pa_cons pe_str pa_nil)))))))))) pa_nil)))))))), ?_⟩
    exact rd_tx (K := K) hD k
end
end K0

namespace K0
open PySem PySem.Spec PyProof.Rows L2 DW RZ
abbrev sNumber : Stmt := top 37
abbrev sOdd : Stmt := top 38
/-! ### drawn values: data none of whose lists is the dice -/
mutual
inductive Dq (H : Hp) (D : Addr) : V → PyData → Prop
  | non : Dq H D .non .none
  | bl (b : Bool) : Dq H D (.bl b) (.bool b)
  | int (i : Int) : Dq H D (.int i) (.int i)
  | str (x : Str) : Dq H D (.str x) (.str x)
  | lst {a : Addr} {xs : List V} {ds : List PyData} : a ≠ D → H a = some (.lst xs) → DqAll H D xs ds → Dq H D (.ref a) (.list ds)
  | tup {a : Addr} {xs : List V} {ds : List PyData} : H a = some (.tup xs) → DqAll H D xs ds → Dq H D (.ref a) (.tuple ds)
inductive DqAll (H : Hp) (D : Addr) : List V → List PyData → Prop
  | nil : DqAll H D [] []
  | cons {v : V} {vs : List V} {d : PyData} {ds : List PyData} : Dq H D v d → DqAll H D vs ds → DqAll H D (v :: vs) (d :: ds)
end
mutual
theorem Dq.but {H H' : Hp} {D : Addr} (b : But D H H') (c : Dc H D) : ∀ {v : V} {d : PyData}, Dq H D v d → Dq H' D v d
  | _, _, .non => .non
  | _, _, .bl b => .bl b
  | _, _, .int i => .int i
  | _, _, .str x => .str x
  | _, _, .lst n e h => .lst n (b _ _ n e) (DqAll.but b c h)
  | _, _, .tup e h => .tup (b _ _ (by
      obtain ⟨d0, d1, d2, z⟩ := c
      rintro rfl
      rw [z] at e
      cases e) e) (DqAll.but b c h)
theorem DqAll.but {H H' : Hp} {D : Addr} (b : But D H H') (c : Dc H D) : ∀ {vs : List V} {ds : List PyData}, DqAll H D vs ds → DqAll H' D vs ds
  | _, _, .nil => .nil
  | _, _, .cons x y => .cons (Dq.but b c x) (DqAll.but b c y)
end
mutual
theorem Dq.dp {K : PySem.W.Frag} {H : Hp} {D : Addr} : ∀ {v : V} {d : PyData}, Dq H D v d → Dp K H v d ∧ d.hasDict = false
  | _, _, .non => ⟨.non, rfl⟩
  | _, _, .bl b => ⟨.bl b, rfl⟩
  | _, _, .int i => ⟨.int i, rfl⟩
  | _, _, .str x => ⟨.str x, rfl⟩
  | _, _, .lst _ e h => ⟨.lst (SqL.of e) (DqAll.dp h).1, (DqAll.dp (K := K) h).2⟩
  | _, _, .tup e h => ⟨.tup (SqT.of e) (DqAll.dp h).1, (DqAll.dp (K := K) h).2⟩
theorem DqAll.dp {K : PySem.W.Frag} {H : Hp} {D : Addr} : ∀ {vs : List V} {ds : List PyData}, DqAll H D vs ds → DpAll K H vs ds ∧ PyData.hasDictAll ds = false
  | _, _, .nil => ⟨.nil, rfl⟩
  | _, _, .cons x y => ⟨.cons (Dq.dp x).1 (DqAll.dp y).1, by show (_ || _) = false; rw [(Dq.dp (K := K) x).2, (DqAll.dp (K := K) y).2]; rfl⟩
end
/-- .. or a flat dict of integers -/
def Dv (H : Hp) (D : Addr) (v : V) (d : PyData) : Prop := Dq H D v d ∨
  ∃ (a : Addr) (kvs : List (Key × Int)), v = .ref a ∧ d = .dict (kvs.map fun p => (keyD p.1, PyData.int p.2)) ∧ H a = some (.dK (kvs.map fun p => (p.1, V.int p.2)))
theorem Dv.dd {K : PySem.W.Frag} {H : Hp} {D : Addr} {v : V} {d : PyData} (h : Dv H D v d) : Dd K H v d := by
  rcases h with h | ⟨a, kvs, rfl, rfl, e⟩
  · exact .base (Dq.dp h).1 (Dq.dp (K := K) h).2
  · exact .dct e
theorem Dv.but {H H' : Hp} {D : Addr} {v : V} {d : PyData} (b : But D H H') (c : Dc H D) (h : Dv H D v d) : Dv H' D v d := by
  rcases h with h | ⟨a, kvs, rfl, rfl, e⟩
  · exact .inl (Dq.but b c h)
  · refine .inr ⟨a, kvs, rfl, rfl, b _ _ ?_ e⟩
    obtain ⟨d0, d1, d2, z⟩ := c
    rintro rfl
    rw [z] at e
    cases e
/-- what all judges ask of the data, and repr -/
def Fine (d : PyData) : Prop := Fn 2 d ∧ Okd d ∧ SeenOk d ∧ d.showable = true ∧ d.shown.length ≤ sizeLine ∧ d.depth ≤ 60
section
variable {P : Program} {w : World} {K : PySem.W.Frag} {mg : Str → Option Value} {base : Heap}
def spVal : Sp := fun vs H Q _ => ∃ D, vs = [.ref D] ∧ Dc H D ∧ ∀ v d H', Dv H' D v d → Fine d → But D H H' → Dc H' D → Q v H'
theorem fine_int {i : Int} (h : -(10 ^ 41) ≤ i) (h2 : i ≤ 10 ^ 41) : Fine (.int i) := by
  have hl : i.natAbs.log2 < 1920 := by
    have a : i.natAbs < 2 ^ 1920 := by
      have z : i.natAbs ≤ 10 ^ 41 := by omega
      exact Nat.lt_of_le_of_lt z (by decide +kernel)
    rcases Nat.eq_zero_or_pos i.natAbs with q | q
    · rw [q]; decide
    · exact (Nat.log2_lt (by omega)).mpr a
  refine ⟨⟨fun z e => (nomatch e), fun ds e => (nomatch e)⟩, fun z e => (nomatch e), fun ds e => (nomatch e), ?_, ?_, ?_⟩
  · show decide (i.natAbs.log2 < 1920) = true
    exact decide_eq_true hl
  · exact int_text_fits hl
  · show PyData.depth (.int i) ≤ 60
    simp [PyData.depth]
theorem scNumber : FnScope ["dice", "edge"] ["dice"] (defScope sNumber) := ⟨rfl, rfl, rfl, by decide +kernel, rfl, by decide +kernel, by decide +kernel⟩
theorem ok_number {f fR fP : Addr} {fd dR dP : FuncData} (F : Fun K "_law_number" "_law_number" sNumber f fd) (GR : FnOk P w K mg base CX0 1 fR dR ["dice", "total"] spRoll) (kR : PySem.W.keepIn K (.ref fR) = true) (bR : Binds K dR ["dice", "total"] []) (gR : mg "_law_roll" = some (.ref fR))
    (GP : FnOk P w K mg base CX0 2 fP dP ["dice", "items"] (spPick K)) (kP : PySem.W.keepIn K (.ref fP) = true) (bP : Binds K dP ["dice", "items"] []) (gP : mg "_law_pick" = some (.ref fP)) : FnOk P w K mg base CX0 3 f fd ["dice"] spVal := by
  refine F.ok scNumber (fun vs H Q E h => ?_) (fun cdv A outer s H vs Q E hr h => ?_)
  · obtain ⟨D, rfl, _⟩ := h
    rfl
  · obtain ⟨D, rfl, hD, k⟩ := h
    have hr1 : Room 1 _ := hr.mono (by decide)
    refine ⟨_, pss_cons (ps_set (i := 1) scNumber.nd rfl (Or.inl rfl) (pe_call GP hr rfl gP kP bP .nil pass0 (pa_cons (pv 0) (pa_cons (pe_lst (pa_cons pe_int (pa_cons pe_int (pa_cons pe_int (pa_cons (pe_op op_powW pe_int pe_int) (pa_cons (pe_op op_powW pe_int pe_int) (pa_cons (pe_op op_powW pe_int pe_int) (pa_cons (pe_op op_sub (pe_op op_powW pe_int pe_int) pe_int) pa_nil)))))))) pa_nil))))
      (pss_one (ps_ret (pe_op op_mul (pe_call GP hr rfl gP kP bP .nil pass0 (pa_cons (pv 0) (pa_cons (pe_lst (pa_cons pe_int (pa_cons pe_int (pa_cons pe_int (pa_cons (pe_un un_neg pe_int) pa_nil))))) pa_nil)))
        (pe_op op_sub (pe_op op_add (pv 1) (pe_call GR hr1 rfl gR kR bR .nil pass0 (pa_cons (pv 0) (pa_cons pe_int pa_nil)))) pe_int)))), ?_⟩
    refine ⟨_, rfl, _, _, rfl, rfl, ⟨by decide, by decide +kernel⟩, _, _, rfl, rfl, ⟨by decide, by decide +kernel⟩, _, _, rfl, rfl, ⟨by decide, by decide +kernel⟩, _, _, rfl, rfl, ⟨by decide, by decide +kernel⟩, _, _, rfl, rfl, by show 7 ≤ sizeLine; decide, fun p np => ?_⟩
    have s1 := same_new (o := .lst [.int 0, .int 1, .int 12, .int (10 ^ Int.toNat 30), .int (10 ^ Int.toNat 34), .int (10 ^ Int.toNat 39), .int (10 ^ Int.toNat 40 - 1)]) np
    refine ⟨D, _, rfl, hD.same s1, .inl ⟨p, _, rfl, new_ne hD np, upd_same, by show 0 < 7; decide, by show 7 < 1000; decide, fun u H1 hu b1 d1 => ?_⟩⟩
    have hu2 : ∃ e : Int, u = .int e ∧ 0 ≤ e ∧ e ≤ 10 ^ 40 := by
      simp only [List.mem_cons, List.not_mem_nil, or_false] at hu
      rcases hu with rfl | rfl | rfl | rfl | rfl | rfl | rfl <;> exact ⟨_, rfl, by decide +kernel, by decide +kernel⟩
    obtain ⟨e, rfl, e0, e1⟩ := hu2
    refine ⟨_, rfl, _, rfl, by show 4 ≤ sizeLine; decide, fun q nq => ?_⟩
    have s2 := same_new (o := .lst [.int 1, .int 1, .int 1, .int (-1)]) nq
    refine ⟨D, _, rfl, d1.same s2, .inl ⟨q, _, rfl, new_ne d1 nq, upd_same, by show 0 < 4; decide, by show 4 < 1000; decide, fun u H2 hu b2 d2 => ?_⟩⟩
    have hu2 : ∃ g : Int, u = .int g ∧ (g = 1 ∨ g = -1) := by
      simp only [List.mem_cons, List.not_mem_nil, or_false] at hu
      rcases hu with rfl | rfl | rfl | rfl
      · exact ⟨1, rfl, .inl rfl⟩
      · exact ⟨1, rfl, .inl rfl⟩
      · exact ⟨1, rfl, .inl rfl⟩
      · exact ⟨-1, rfl, .inr rfl⟩
    obtain ⟨g, rfl, hg⟩ := hu2
    obtain ⟨c0, c1, c2, eD⟩ := id d2
    refine ⟨_, rfl, _, rfl, D, c0, c1, c2, _, rfl, eD, by decide, by decide, fun r f0 f2 r0 r1 => ?_⟩
    have b3 : But D H2 (upd H2 D (.lst [.int f0, .int c1, .int f2])) := But.upd
    have d3 : Dc (upd H2 D (.lst [.int f0, .int c1, .int f2])) D := ⟨f0, c1, f2, upd_same⟩
    generalize upd H2 D (.lst [.int f0, .int c1, .int f2]) = H3 at b3 d3 ⊢
    refine ⟨_, _, rfl, rfl, _, _, rfl, rfl, _, _, rfl, rfl, .inl ⟨by omega, by omega⟩, ?_⟩
    have bb : But D H H3 := (Same.but s1).trans (b1.trans ((Same.but s2).trans (b2.trans b3)))
    have lo : -(10 ^ 41) ≤ g * (e + r - 1) ∧ g * (e + r - 1) ≤ 10 ^ 41 := by
      rcases hg with rfl | rfl <;> constructor <;> omega
    exact k _ _ H3 (.inl (.int _)) (fine_int lo.1 lo.2) bb d3
end
end K0

namespace K0
open PySem PySem.Spec PyProof.Rows L2 DW RZ
/-- texts short and right, tuples short, to a depth -/
def okB : Nat → PyData → Bool
  | _, .str z => decide (z.length ≤ 1000) && PyData.strOk z
  | n + 1, .tuple ds => decide (ds.length ≤ 1000) && ds.all (okB n)
  | _, _ => true
theorem okB_str {n : Nat} {z : Str} (h : okB n (.str z) = true) : z.length ≤ 1000 ∧ PyData.strOk z = true := by
  cases n <;> (simp only [okB, Bool.and_eq_true, decide_eq_true_eq] at h; exact h)
theorem okB_tup {n : Nat} {ds : List PyData} (h : okB (n + 1) (.tuple ds) = true) : ds.length ≤ 1000 ∧ ∀ x ∈ ds, okB n x = true := by
  simp only [okB, Bool.and_eq_true, decide_eq_true_eq, List.all_eq_true] at h
  exact h
theorem okB_fit {n : Nat} {d : PyData} (h : okB n d = true) : Fit d := fun z e => by
  subst e
  exact (okB_str h).1
theorem okB_okd {n : Nat} {d : PyData} (h : okB n d = true) : Okd d := fun z e => by
  subst e
  exact (okB_str h).2
theorem okB_fn : ∀ {n : Nat} {d : PyData}, okB n d = true → Fn n d
  | 0, _, h => okB_fit h
  | n + 1, d, h => ⟨okB_fit h, fun ds e => by
    subst e
    obtain ⟨a, b⟩ := okB_tup h
    exact ⟨a, fun x hx => okB_fn (b x hx)⟩⟩
theorem okB_pair {n : Nat} {d : PyData} (h : okB (n + 1) d = true) : PairOk d := fun ds e x hx => by
  subst e
  have z := (okB_tup h).2 x hx
  exact ⟨okB_fit z, okB_okd z⟩
def fineB (d : PyData) : Bool := okB 2 d && (d.showable && (decide (d.depth ≤ 50) && match d with
  | .tuple ds => PyData.canLayAll0 ds | _ => true))
theorem fine_of {d : PyData} (h : fineB d = true) (hs : d.shown.length ≤ sizeLine) : Fine d := by
  unfold fineB at h
  simp only [Bool.and_eq_true, decide_eq_true_eq] at h
  obtain ⟨h1, h2, h3, h4⟩ := h
  refine ⟨okB_fn h1, okB_okd h1, fun ds e => ?_, h2, hs, by omega⟩
  subst e
  obtain ⟨a, b⟩ := okB_tup h1
  refine ⟨a, fun x hx => okB_pair (n := 0) ?_, h4, ?_⟩
  · exact b x hx
  · simp only [PyData.depth] at h3
    omega
section
variable {P : Program} {w : World} {K : PySem.W.Frag} {mg : Str → Option Value} {base : Heap}
theorem scOdd : FnScope ["dice", "some"] ["dice"] (defScope sOdd) := ⟨rfl, rfl, rfl, by decide +kernel, rfl, by decide +kernel, by decide +kernel⟩
theorem fine_c {d : PyData} (h : (fineB d && decide (d.shown.length ≤ 1000)) = true) : Fine d := by
  simp only [Bool.and_eq_true, decide_eq_true_eq] at h
  exact fine_of h.1 (by have := h.2; rw [sizeLine_eq]; omega)
theorem ok_odd {f fP : Addr} {fd dP : FuncData} (F : Fun K "_law_odd" "_law_odd" sOdd f fd) (GP : FnOk P w K mg base CX0 2 fP dP ["dice", "items"] (spPick K)) (kP : PySem.W.keepIn K (.ref fP) = true) (bP : Binds K dP ["dice", "items"] []) (gP : mg "_law_pick" = some (.ref fP)) :
    FnOk P w K mg base CX0 3 f fd ["dice"] spVal := by
  refine F.ok scOdd (fun vs H Q E h => ?_) (fun cdv A outer s H vs Q E hr h => ?_)
  · obtain ⟨D, rfl, _⟩ := h
    rfl
  · obtain ⟨D, rfl, hD, k⟩ := h
    refine ⟨_, pss_cons (ps_set (i := 1) scOdd.nd rfl (Or.inl rfl) (pe_lst (pa_cons pe_non (pa_cons pe_bl (pa_cons pe_bl (pa_cons pe_str (pa_cons pe_str (pa_cons (pe_tup pa_nil) (pa_cons (pe_lst pa_nil) (pa_cons pe_dnewK (pa_cons (pe_tup (pa_cons pe_int pa_nil)) (pa_cons (pe_tup (pa_cons pe_str pa_nil))
        (pa_cons (pe_lst (pa_cons pe_int pa_nil)) (pa_cons (pe_disp (pps_cons pe_str pe_int pps_nil) rfl rfl (fun z => nomatch z) (by decide)) (pa_cons pe_str (pa_cons (pe_tup (pa_cons pe_int (pa_cons pe_str pa_nil))) (pa_cons (pe_tup (pa_cons (pe_tup (pa_cons pe_int (pa_cons pe_str pa_nil))) pa_nil)) (pa_cons pe_int pa_nil))))))))))))))))))
      (pss_one (ps_ret (pe_call GP hr rfl gP kP bP .nil pass0 (pa_cons (pv 0) (pa_cons (pv 1) pa_nil))))), ?_⟩
    refine ⟨by show 0 ≤ sizeLine; decide, fun t0 n0 => ⟨by show 0 ≤ sizeLine; decide, fun l1 n1 => fun e2 n2 => ⟨by show 1 ≤ sizeLine; decide, fun t3 n3 => ⟨by show 1 ≤ sizeLine; decide, fun t4 n4 => ⟨by show 1 ≤ sizeLine; decide, fun l5 n5 => fun d6 n6 => ?_⟩⟩⟩⟩⟩
    refine ⟨upd_same, [(Sum.inr "a", V.int 1)], rfl, by show 1 ≤ 15; decide, by show 2 ≤ sizeLine; decide, fun t7 n7 => ⟨by show 2 ≤ sizeLine; decide, fun t8 n8 => ⟨by show 1 ≤ sizeLine; decide, fun t9 n9 => ⟨by show 16 ≤ sizeLine; decide, fun s ns => ?_⟩⟩⟩⟩
    have a0 := same_new (o := .tup []) n0
    have a1 := same_new (o := .lst []) n1
    have a2 := same_new (o := .dK []) n2
    have a3 := same_new (o := .tup [.int 1]) n3
    have a4 := same_new (o := .tup [.str "a"]) n4
    have a5 := same_new (o := .lst [.int 1]) n5
    have a6 := same_mut (o := .dK (mergeK [] [(Sum.inr "a", V.int 1)])) (same_new (o := .dK []) n6) n6
    have a7 := same_new (o := .tup [.int 1, .str "a"]) n7
    have a8 := same_new (o := .tup [.int 1, .str "a"]) n8
    have a9 := same_new (o := .tup [.ref t8]) n9
    have L6 := ((((((Has.nil.new (o := .tup []) n0).new (o := .lst []) n1).new (o := .dK []) n2).new (o := .tup [.int 1]) n3).new (o := .tup [.str "a"]) n4).new (o := .lst [.int 1]) n5).of a6 |>.put (upd_same (a := d6) (o := .dK (mergeK [] [(Sum.inr "a", V.int 1)])))
    have L9 := ((L6.new (o := .tup [.int 1, .str "a"]) n7).new (o := .tup [.int 1, .str "a"]) n8).new (o := .tup [.ref t8]) n9
    have as := same_new (o := .lst [.non, .bl true, .bl false, .str "", .str "a", .ref t0, .ref l1, .ref e2, .ref t3, .ref t4, .ref l5, .ref d6, .str "1", .ref t7, .ref t9, .int 0]) ns
    have L := L9.of as
    have sm9 := a0.trans (a1.trans (a2.trans (a3.trans (a4.trans (a5.trans (a6.trans (a7.trans (a8.trans a9))))))))
    have g0 := L.get (a := t0) (o := .tup []) (by simp)
    have g1 := L.get (a := l1) (o := .lst []) (by simp)
    have g2 := L.get (a := e2) (o := .dK []) (by simp)
    have g3 := L.get (a := t3) (o := .tup [.int 1]) (by simp)
    have g4 := L.get (a := t4) (o := .tup [.str "a"]) (by simp)
    have g5 := L.get (a := l5) (o := .lst [.int 1]) (by simp)
    have g6 := L.get (a := d6) (o := .dK (mergeK [] [(Sum.inr "a", V.int 1)])) (by simp)
    have g7 := L.get (a := t7) (o := .tup [.int 1, .str "a"]) (by simp)
    have g8 := L.get (a := t8) (o := .tup [.int 1, .str "a"]) (by simp)
    have g9 := L.get (a := t9) (o := .tup [.ref t8]) (by simp)
    have m1 := new_ne (hD.same a0) n1
    have m5 := new_ne (((((hD.same a0).same a1).same a2).same a3).same a4) n5
    have nsD := new_ne (hD.same sm9) ns
    have smA := sm9.trans as
    have dA := hD.same smA
    refine ⟨_, rfl, _, rfl, D, _, rfl, dA, .inl ⟨s, _, rfl, nsD, upd_same, by show 0 < 16; decide, by show 16 < 1000; decide, fun u H' hu b d => ?_⟩⟩
    have fin : ∀ (dd : PyData), Dv _ D u dd → (fineB dd && decide (dd.shown.length ≤ 1000)) = true → Q u H' := fun dd h1 h2 => k u dd H' (h1.but b dA) (fine_c h2) ((Same.but smA).trans b) d
    simp only [List.mem_cons, List.not_mem_nil, or_false] at hu
    rcases hu with rfl | rfl | rfl | rfl | rfl | rfl | rfl | rfl | rfl | rfl | rfl | rfl | rfl | rfl | rfl | rfl
    · exact fin .none (.inl .non) (by decide +kernel)
    · exact fin (.bool true) (.inl (.bl true)) (by decide +kernel)
    · exact fin (.bool false) (.inl (.bl false)) (by decide +kernel)
    · exact fin (.str "") (.inl (.str _)) (by decide +kernel)
    · exact fin (.str "a") (.inl (.str _)) (by decide +kernel)
    · exact fin (.tuple []) (.inl (.tup g0 .nil)) (by decide +kernel)
    · exact fin (.list []) (.inl (.lst m1 g1 .nil)) (by decide +kernel)
    · exact fin (.dict []) (.inr ⟨e2, [], rfl, rfl, g2⟩) (by decide +kernel)
    · exact fin (.tuple [.int 1]) (.inl (.tup g3 (.cons (.int 1) .nil))) (by decide +kernel)
    · exact fin (.tuple [.str "a"]) (.inl (.tup g4 (.cons (.str _) .nil))) (by decide +kernel)
    · exact fin (.list [.int 1]) (.inl (.lst m5 g5 (.cons (.int 1) .nil))) (by decide +kernel)
    · exact fin (.dict [(.str "a", .int 1)]) (.inr ⟨d6, [(Sum.inr "a", 1)], rfl, rfl, g6⟩) (by decide +kernel)
    · exact fin (.str "1") (.inl (.str _)) (by decide +kernel)
    · exact fin (.tuple [.int 1, .str "a"]) (.inl (.tup g7 (.cons (.int 1) (.cons (.str _) .nil)))) (by decide +kernel)
    · exact fin (.tuple [.tuple [.int 1, .str "a"]]) (.inl (.tup g9 (.cons (.tup g8 (.cons (.int 1) (.cons (.str _) .nil))) .nil))) (by decide +kernel)
    · exact fin (.int 0) (.inl (.int 0)) (by decide +kernel)
end
end K0

namespace K0
open PySem PySem.Spec PyProof.Rows L2 DW RZ
abbrev sNames : Stmt := top 39
section
variable {P : Program} {w : World} {K : PySem.W.Frag} {mg : Str → Option Value} {base : Heap}
/-! ### lists of drawn texts -/
def GL (n : Nat) (ys : List Str) : Prop := ys.length ≤ n ∧ ∀ y ∈ ys, Gt 32 y
theorem strs_q {H : Hp} {D : Addr} : ∀ ys : List Str, DqAll H D (ys.map V.str) (ys.map PyData.str)
  | [] => .nil
  | y :: r => .cons (.str y) (strs_q r)
theorem gt_ok {n : Nat} {z : Str} (h : Gt n z) : PyData.strOk z = true := by
  unfold PyData.strOk
  rw [Array.all_eq_true_iff_forall_mem]
  intro c hc
  exact decide_eq_true (h.2 c (Array.mem_toList_iff.mpr hc))
theorem strs_weight : ∀ {ys : List Str}, (∀ y ∈ ys, Gt 32 y) → PyData.weightAll (ys.map PyData.str) ≤ 33 * ys.length
  | [], _ => by simp [PyData.weightAll]
  | y :: r, h => by
    have a := strs_weight (ys := r) fun x hx => h x (List.mem_cons_of_mem _ hx)
    have b := (h y (by simp)).1
    simp only [List.map_cons, PyData.weightAll, PyData.weight, List.length_cons]
    have c : y.cps.size = y.length := rfl
    omega
theorem strs_short : ∀ ys : List Str, PyData.intsShortAll 13 (ys.map PyData.str) = true
  | [] => by simp [PyData.intsShortAll]
  | y :: r => by
    have a := strs_short r
    simp [PyData.intsShortAll, PyData.intsShort, a]
theorem strs_show : ∀ ys : List Str, PyData.showableAll (ys.map PyData.str) = true
  | [] => by simp [PyData.showableAll]
  | y :: r => by
    have a := strs_show r
    simp [PyData.showableAll, PyData.showable, a]
theorem strs_lay {n : Nat} {ys : List Str} (h : GL n ys) : PyData.canLayAll0 (ys.map PyData.str) = true := lay_all fun x hx => gt_ok (h.2 x hx)
theorem fine_strs {n : Nat} {ys : List Str} (h : GL n ys) (hn : n ≤ 100) : Fine (.tuple (ys.map PyData.str)) ∧ Fine (.list (ys.map PyData.str)) := by
  have lay := strs_lay h
  have dep := depth_strs ys
  have wt := strs_weight h.2
  have hl := h.1
  have e20 : (2 : Nat) ^ 20 = 1048576 := by decide
  have l1 : PyData.layable0 (.tuple (ys.map PyData.str)) = true := by
    unfold PyData.layable0
    rw [Bool.and_eq_true, Bool.and_eq_true, decide_eq_true_eq, decide_eq_true_eq]
    exact ⟨⟨by simp only [PyData.canLay0]; exact lay, by simp only [PyData.depth]; omega⟩, by simp only [PyData.weight]; rw [e20]; omega⟩
  have l2 : PyData.layable0 (.list (ys.map PyData.str)) = true := by
    unfold PyData.layable0
    rw [Bool.and_eq_true, Bool.and_eq_true, decide_eq_true_eq, decide_eq_true_eq]
    exact ⟨⟨by simp only [PyData.canLay0]; exact lay, by simp only [PyData.depth]; omega⟩, by simp only [PyData.weight]; rw [e20]; omega⟩
  have s1 : (PyData.tuple (ys.map PyData.str)).shown.length ≤ sizeLine := by
    have z := PyProof.Rows.shown_le13 l1 (by simp only [PyData.intsShort]; exact strs_short ys)
    rw [sizeLine_eq]
    omega
  have s2 : (PyData.list (ys.map PyData.str)).shown.length ≤ sizeLine := by
    have z := PyProof.Rows.shown_le13 l2 (by simp only [PyData.intsShort]; exact strs_short ys)
    rw [sizeLine_eq]
    omega
  have fits : ∀ x ∈ ys.map PyData.str, ∃ z, x = .str z ∧ Gt 32 z := fun x hx => by
    obtain ⟨z, hz, rfl⟩ := List.mem_map.mp hx
    exact ⟨z, rfl, h.2 z hz⟩
  constructor
  · refine ⟨⟨fun z e => (nomatch e), fun ds e => ?_⟩, fun z e => (nomatch e), fun ds e => ?_, ?_, s1, ?_⟩
    · cases e
      refine ⟨by rw [List.length_map]; omega, fun x hx => ?_⟩
      obtain ⟨z, rfl, g⟩ := fits x hx
      exact ⟨fun z e => by cases e; have := g.1; omega, fun ds e => (nomatch e)⟩
    · cases e
      refine ⟨by rw [List.length_map]; omega, fun x hx => ?_, lay, by omega⟩
      obtain ⟨z, rfl, g⟩ := fits x hx
      exact fun ds e => (nomatch e)
    · simp only [PyData.showable]
      exact strs_show ys
    · simp only [PyData.depth]
      omega
  · refine ⟨⟨fun z e => (nomatch e), fun ds e => (nomatch e)⟩, fun z e => (nomatch e), fun ds e => (nomatch e), ?_, s2, ?_⟩
    · simp only [PyData.showable]
      exact strs_show ys
    · simp only [PyData.depth]
      omega
theorem scNames2 : FnScope ["dice", "found", "turn", "one"] ["dice"] (defScope sNames) := ⟨rfl, rfl, rfl, by decide +kernel, rfl, by decide +kernel, by decide +kernel⟩
abbrev rTupOf (K : PySem.W.Frag) : List V → Hp → VK → Prop := fun xs H Q => ∃ p ys, xs = [.ref p] ∧ ((SqL K H p ys ∧ ∀ l, H l = none → Q (.ref l) (upd H l (.tup ys))) ∨ (SqT K H p ys ∧ Q (.ref p) H))
theorem rn_1 {H : Hp} {D : Addr} {x1 x2 x3 : Option V} {Q : VK} (hD : Dc H D) (k : ∀ L ys H', GL 4 ys → L ≠ D → H' L = some (.lst (ys.map V.str)) → But D H H' → Dc H' D → Q (.ref L) H') :
    tLc (iRng1 (tCons (tRl (tC (.int 5))) tNil)) (gName 2) tYes (tCall spText [] E0 (tCons (tVar 0) tNil)) [2] [some (.ref D), x1, x2, x3] H Q := by
  refine rd_rl (n := 5) rfl hD (by decide) (by decide) fun r H1 r0 r1 b1 d1 => ⟨r, rfl, by omega, by omega, fun L nL => ?_⟩
  have neL := new_ne d1 nL
  refine lc_range (lo := 0) (n := r.toNat) (fun i H' => But D H1 H' ∧ Dc H' D ∧ ∃ ys : List Str, H' L = some (.lst (ys.map V.str)) ∧ ys.length = i ∧ ∀ y ∈ ys, Gt 32 y) ⟨Same.but (same_new nL), d1.same (same_new nL), [], upd_same, rfl, fun y h => by cases h⟩
    (fun i H' hi p => ⟨rfl, tyes ?_⟩) (fun H' p => ?_)
  · obtain ⟨b, d, ys, hy, hl, hg⟩ := p
    refine ⟨_, rfl, D, rfl, d, fun z H2 gz b2 d2 => ⟨_, b2 _ _ neL hy, by rw [List.length_map, sizeLine_eq]; omega, ?_, ?_, ys ++ [z], ?_, by rw [List.length_append, hl]; rfl, ?_⟩⟩
    · intro q o hq e
      rw [upd_ne (ne_of_none e nL)]
      exact b2 q o hq (b q o hq e)
    · obtain ⟨e0, e1, e2, e⟩ := d2
      exact ⟨e0, e1, e2, by rw [upd_ne (Ne.symm neL)]; exact e⟩
    · rw [upd_same, List.map_append]
      rfl
    · intro y hy2
      rcases List.mem_append.mp hy2 with m | m
      · exact hg y m
      · have e : y = z := by simpa using m
        subst e
        exact gz
  · obtain ⟨b, d, ys, hy, hl, hg⟩ := p
    exact k L ys H' ⟨by omega, hg⟩ neL hy (b1.trans b) d
theorem rn_2 {H : Hp} {D L : Addr} {ys : List Str} {x2 x3 : Option V} {Q : VK} (hD : Dc H D) (hg : GL 4 ys) (ne : L ≠ D) (hL : H L = some (.lst (ys.map V.str))) (k : ∀ M zs H', GL 4 zs → M ≠ D → H' M = some (.lst (zs.map V.str)) → But D H H' → Dc H' D → Q (.ref M) H') :
    tIf (tTest (tOp (rI0 fun i j => .bl (decide (i > j))) (tRl (tC (.int 3))) (tC (.int 0)))) (tCB (rSortedS K) (tCons (tLc (iList K (tVar 1)) (gName 3) (tB (tCall (spJo K isNameD) [] E0 (tCons (tVar 3) tNil))) (tVar 3) [3]) tNil)) (tVar 1) [some (.ref D), some (.ref L), x2, x3] H Q := by
  refine rd_rl (n := 3) rfl hD (by decide) (by decide) fun r H1 r0 r1 b1 d1 => ⟨_, _, rfl, rfl, _, rfl, ite2 (fun _ => ?_) fun _ => ⟨_, rfl, k L ys H1 hg ne (b1 _ _ ne hL) b1 d1⟩⟩
  have hL1 := b1 _ _ ne hL
  refine ⟨_, rfl, L, rfl, ⟨_, SqL.of hL1⟩, fun M nM => ?_⟩
  have neM := new_ne d1 nM
  refine lc_list (K := K) (xs := ys.map V.str) (fun i H' => Same H1 H' ∧ ∃ zs : List Str, H' M = some (.lst (zs.map V.str)) ∧ zs.length ≤ i ∧ ∀ z ∈ zs, Gt 32 z) ⟨same_new nM, [], upd_same, Nat.le_refl _, fun y h => by cases h⟩ (fun i H' _ p => SqL.of (p.1 _ _ hL1))
    (fun i x H' hx p => ⟨rfl, ?_⟩) (fun H' p => ?_)
  · obtain ⟨s1, zs, hz, hl, hgz⟩ := p
    rw [List.getElem?_map] at hx
    obtain ⟨y, hy, rfl⟩ := Option.map_eq_some_iff.mp hx
    have gy := hg.2 y (List.mem_of_getElem? hy)
    have hi : i < ys.length := by
      rcases Nat.lt_or_ge i ys.length with q | q
      · exact q
      · rw [List.getElem?_eq_none q] at hy; cases hy
    have hyl := hg.1
    refine ⟨_, rfl, .str y, .str y, rfl, .base (.str y) rfl, (fun z e => by cases e; have := gy.1; omega), (fun z e => by cases e; exact gt_ok gy), fun H2 s2 => ⟨_, rfl, ?_⟩⟩
    cases isNameD (.str y) with
    | false => exact iteF ⟨s1.trans s2, zs, s2 _ _ hz, by omega, hgz⟩
    | true =>
      refine iteT ⟨_, rfl, _, s2 _ _ hz, by rw [List.length_map, sizeLine_eq]; omega, same_mut (s1.trans s2) nM, zs ++ [y], ?_, by rw [List.length_append]; show zs.length + 1 ≤ _; omega, ?_⟩
      · rw [upd_same, List.map_append]
        rfl
      · intro z hz2
        rcases List.mem_append.mp hz2 with m | m
        · exact hgz z m
        · have e : z = y := by simpa using m
          subst e
          exact gy
  · obtain ⟨s1, zs, hz, hl, hgz⟩ := p
    rw [List.length_map] at hl
    have hyl := hg.1
    refine ⟨M, zs, rfl, SqL.of hz, by omega, fun ws p perm _ np => ?_⟩
    have s2 := same_new (o := .lst (ws.map V.str)) np
    have dA := d1.same s1
    exact k p ws _ ⟨by rw [perm.length_eq]; omega, fun w hw => hgz w (perm.mem_iff.mp hw)⟩ (new_ne dA np) upd_same (b1.trans ((Same.but s1).trans (Same.but s2))) (dA.same s2)
abbrev t3n (K : PySem.W.Frag) : TE := tPk K (tLst (tCons (tCB (rTupOf K) (tCons (tVar 1) tNil)) (tCons (tCB (rTupOf K) (tCons (tVar 1) tNil)) (tCons (tCB (rTupOf K) (tCons (tRevL K (tVar 1)) tNil))
  (tCons (tCB (rTupOf K) (tCons (tOp rCat (tVar 1) (L2.tSl (rSlL K) (tVar 1) (tPart (tUn (rU fun i => .int (-i)) (tC (.int 1)))) tNoPart)) tNil)) (tCons (tVar 1) tNil))))))
theorem rn_3 {H : Hp} {D L : Addr} {ys : List Str} {x2 x3 : Option V} {Q : VK} (hD : Dc H D) (hg : GL 4 ys) (ne : L ≠ D) (hL : H L = some (.lst (ys.map V.str))) (k : ∀ v d H', Dv H' D v d → Fine d → But D H H' → Dc H' D → Q v H') : t3n K [some (.ref D), some (.ref L), x2, x3] H Q := by
  refine ⟨_, rfl, _, rfl, L, _, rfl, .inl ⟨SqL.of hL, fun a na => ?_⟩⟩
  have s1 := same_new (o := .tup (ys.map V.str)) na
  refine ⟨_, rfl, L, _, rfl, .inl ⟨SqL.of (s1 _ _ hL), fun b nb => ?_⟩⟩
  have s2 := same_new (o := .tup (ys.map V.str)) nb
  refine ⟨_, rfl, L, _, rfl, SqL.of (s2 _ _ (s1 _ _ hL)), fun c nc => ?_⟩
  have s3 := same_new (o := .lst (ys.map V.str).reverse) nc
  refine ⟨c, _, rfl, .inl ⟨SqL.of upd_same, fun e ne' => ?_⟩⟩
  have s4 := same_new (o := .tup (ys.map V.str).reverse) ne'
  have s14 := s1.trans (s2.trans (s3.trans s4))
  refine ⟨_, rfl, _, rfl, 1, rfl, -1, rfl, L, _, rfl, SqL.of (s14 _ _ hL), fun g ng => ?_⟩
  have s5 := same_new (o := .lst (cutV (ys.map V.str) (some (-1)) none)) ng
  have s15 := s14.trans s5
  have ec : cutV (ys.map V.str) (some (-1)) none = ((ys.drop (HT.sIx (ys.map V.str).length 0 (some (-1)))).take (HT.sIx (ys.map V.str).length (ys.map V.str).length none - HT.sIx (ys.map V.str).length 0 (some (-1)))).map V.str := by
    unfold cutV
    rw [List.map_take, List.map_drop]
  have gc : GL 4 ((ys.drop (HT.sIx (ys.map V.str).length 0 (some (-1)))).take (HT.sIx (ys.map V.str).length (ys.map V.str).length none - HT.sIx (ys.map V.str).length 0 (some (-1)))) :=
    ⟨by rw [List.length_take, List.length_drop]; have := hg.1; omega, fun y hy => hg.2 y (List.mem_of_mem_drop (List.mem_of_mem_take hy))⟩
  have e5 : upd _ g (HO.lst (cutV (ys.map V.str) (some (-1)) none)) g = _ := upd_same (H := upd (upd (upd (upd H a (.tup (ys.map V.str))) b (.tup (ys.map V.str))) c (.lst (ys.map V.str).reverse)) e (.tup (ys.map V.str).reverse)) (a := g) (o := .lst (cutV (ys.map V.str) (some (-1)) none))
  rw [ec] at s5 s15 e5 ⊢
  generalize ((ys.drop (HT.sIx (ys.map V.str).length 0 (some (-1)))).take (HT.sIx (ys.map V.str).length (ys.map V.str).length none - HT.sIx (ys.map V.str).length 0 (some (-1)))) = cs at gc s5 s15 e5 ⊢
  refine ⟨L, g, _, _, rfl, rfl, s15 _ _ hL, e5, ?_, fun h nh => ?_⟩
  · have := hg.1
    have := gc.1
    rw [List.length_map, List.length_map, sizeLine_eq]
    omega
  have s6 := same_new (o := .lst (ys.map V.str ++ cs.map V.str)) nh
  refine ⟨h, _, rfl, .inl ⟨SqL.of upd_same, fun m nm => ?_⟩⟩
  have s7 := same_new (o := .tup (ys.map V.str ++ cs.map V.str)) nm
  have s17 := s15.trans (s6.trans s7)
  refine ⟨_, rfl, by show 5 ≤ sizeLine; decide, fun p np => ?_⟩
  have s8 := same_new (o := .lst [.ref a, .ref b, .ref e, .ref m, .ref L]) np
  have s18 := s17.trans s8
  have tail : Same _ _ := s2.trans (s3.trans (s4.trans (s5.trans (s6.trans (s7.trans s8)))))
  have ga := tail _ _ (upd_same (H := H) (a := a) (o := .tup (ys.map V.str)))
  have gb := (s3.trans (s4.trans (s5.trans (s6.trans (s7.trans s8))))) _ _ (upd_same (H := upd H a (.tup (ys.map V.str))) (a := b) (o := .tup (ys.map V.str)))
  have ge := (s5.trans (s6.trans (s7.trans s8))) _ _ (upd_same (H := upd (upd (upd H a (.tup (ys.map V.str))) b (.tup (ys.map V.str))) c (.lst (ys.map V.str).reverse)) (a := e) (o := .tup (ys.map V.str).reverse))
  have gm := s8 _ _ (upd_same (a := m) (o := .tup (ys.map V.str ++ cs.map V.str)))
  have gL := s18 _ _ hL
  have dA := hD.same s18
  refine ⟨D, _, rfl, dA, .inl ⟨p, _, rfl, new_ne (hD.same s17) np, upd_same, by show 0 < 5; decide, by show 5 < 1000; decide, fun u H' hu bu du => ?_⟩⟩
  have fin : ∀ (dd : PyData), Dv _ D u dd → Fine dd → Q u H' := fun dd h1 h2 => k u dd H' (h1.but bu dA) h2 ((Same.but s18).trans bu) du
  have gr : GL 4 ys.reverse := ⟨by rw [List.length_reverse]; exact hg.1, fun y hy => hg.2 y (List.mem_reverse.mp hy)⟩
  have gx : GL 8 (ys ++ cs) := ⟨by rw [List.length_append]; have := hg.1; have := gc.1; omega, fun y hy => (List.mem_append.mp hy).elim (hg.2 y) (gc.2 y)⟩
  have ge' := ge.trans (show some (HO.tup (ys.map V.str).reverse) = some (HO.tup (ys.reverse.map V.str)) by rw [List.map_reverse])
  have gm' := gm.trans (show some (HO.tup (ys.map V.str ++ cs.map V.str)) = some (HO.tup ((ys ++ cs).map V.str)) by rw [List.map_append])
  simp only [List.mem_cons, List.not_mem_nil, or_false] at hu
  rcases hu with rfl | rfl | rfl | rfl | rfl
  · exact fin _ (.inl (.tup ga (strs_q ys))) (fine_strs hg (by decide)).1
  · exact fin _ (.inl (.tup gb (strs_q ys))) (fine_strs hg (by decide)).1
  · exact fin _ (.inl (.tup ge' (strs_q _))) (fine_strs gr (by decide)).1
  · exact fin _ (.inl (.tup gm' (strs_q _))) (fine_strs gx (by decide)).1
  · exact fin _ (.inl (.lst ne gL (strs_q ys))) (fine_strs hg (by decide)).2
abbrev tN1 : TE := tLc (iRng1 (tCons (tRl (tC (.int 5))) tNil)) (gName 2) tYes (tCall spText [] E0 (tCons (tVar 0) tNil)) [2]
abbrev tN2 (K : PySem.W.Frag) : TE := tIf (tTest (tOp (rI0 fun i j => .bl (decide (i > j))) (tRl (tC (.int 3))) (tC (.int 0)))) (tCB (rSortedS K) (tCons (tLc (iList K (tVar 1)) (gName 3) (tB (tCall (spJo K isNameD) [] E0 (tCons (tVar 3) tNil))) (tVar 3) [3]) tNil)) (tVar 1)
abbrev tNm (K : PySem.W.Frag) : TS := tSeq (tAsg tN1 (gName 1)) (tSeq (tAsg (tN2 K) (gName 1)) (tRet (t3n K)))
theorem rn_all {Dd : Ends} {H : Hp} {D : Addr} {x1 x2 x3 : Option V} (hD : Dc H D) (k : ∀ v d H', Dv H' D v d → Fine d → But D H H' → Dc H' D → Dd.rt v H') : tNm K Dd [some (.ref D), x1, x2, x3] H := by
  show tN1 [some (.ref D), x1, x2, x3] H fun y H1 => (tSeq (tAsg (tN2 K) (gName 1)) (tRet (t3n K))) Dd [some (.ref D), some y, x2, x3] H1
  refine rn_1 hD fun L ys H1 hg ne hL b1 d1 => ?_
  show tN2 K [some (.ref D), some (.ref L), x2, x3] H1 fun y H1 => t3n K [some (.ref D), some y, x2, x3] H1 Dd.rt
  refine rn_2 (K := K) d1 hg ne hL fun M zs H2 hg2 ne2 hM b2 d2 => ?_
  exact rn_3 (K := K) d2 hg2 ne2 hM fun v d H3 h1 h2 b3 d3 => k v d H3 h1 h2 (b1.trans (b2.trans b3)) d3
theorem ok_names2 {f fR fP fT fN : Addr} {fd dR dP dT dN : FuncData} (F : Fun K "_law_names" "_law_names" sNames f fd) (GR : FnOk P w K mg base CX0 1 fR dR ["dice", "total"] spRoll) (kR : PySem.W.keepIn K (.ref fR) = true) (bR : Binds K dR ["dice", "total"] []) (gR : mg "_law_roll" = some (.ref fR))
    (GP : FnOk P w K mg base CX0 2 fP dP ["dice", "items"] (spPick K)) (kP : PySem.W.keepIn K (.ref fP) = true) (bP : Binds K dP ["dice", "items"] []) (gP : mg "_law_pick" = some (.ref fP))
    (GT : FnOk P w K mg base CX0 3 fT dT ["dice"] spText) (kT : PySem.W.keepIn K (.ref fT) = true) (bT : Binds K dT ["dice"] []) (gT : mg "_law_text" = some (.ref fT))
    (GN : FnOk P w K mg base CX0 1 fN dN ["value"] (spJo K isNameD)) (kN : PySem.W.keepIn K (.ref fN) = true) (bN : Binds K dN ["value"] []) (gN : mg "_law_is_name" = some (.ref fN))
    (zR : mg "range" = none) (zS : mg "sorted" = none) (zT : mg "tuple" = none) : FnOk P w K mg base CX0 4 f fd ["dice"] spVal := by
  refine F.ok scNames2 (fun vs H Q E h => ?_) (fun cdv A outer s H vs Q E hr h => ?_)
  · obtain ⟨D, rfl, _⟩ := h
    rfl
  · obtain ⟨D, rfl, hD, k⟩ := h
    have hr1 : Room 1 _ := hr.mono (by decide)
    have hr2 : Room 2 _ := hr.mono (by decide)
    refine ⟨_, pss_cons (ps_setLc (i := 1) (own := [("turn", 2)]) (g := gName 2) (tt := tYes) rfl scNames2.nd rfl rfl (sw_true rfl rfl rfl (by decide +kernel)) (pi_range1 rfl zR (pa_cons (pe_call GR hr1 rfl gR kR bR .nil pass0 (pa_cons (pv 0) (pa_cons pe_int pa_nil))) pa_nil))
          (blkOk_by (own := [("turn", 2)]) (N := ["dice", "found", "turn", "one"]) (sc := defScope sNames) (by decide +kernel)) (fun _ _ _ _ _ => pg_name (i := 2) scNames2.nd rfl (Or.inl rfl)) (fun _ _ _ _ _ => pts_nil) (fun _ _ _ _ _ => pe_call GT hr rfl gT kT bT .nil pass0 (pa_cons (pv 0) pa_nil)))
      (pss_cons (ps_set (i := 1) scNames2.nd rfl (Or.inl rfl) (pe_ifExp (pt_cmpR op_gt (pe_call GR hr1 rfl gR kR bR .nil pass0 (pa_cons (pv 0) (pa_cons pe_int pa_nil))) pe_int (nomark _))
          (pe_callB cr_sortedS (by rfl) zS (by rfl) (pa_cons (pe_lc (own := [("one", 3)]) (g := gName 3) rfl scNames2.nd (pi_list (pv 1)) (blkOk_by (own := [("one", 3)]) (N := ["dice", "found", "turn", "one"]) (sc := defScope sNames) (by decide +kernel))
            (fun _ _ _ _ _ => pg_name (i := 3) scNames2.nd rfl (Or.inl rfl)) (fun _ _ _ _ _ => pts_one (pt_val (pe_call GN hr1 rfl gN kN bN .nil pass0 (pa_cons (pv 3) pa_nil)))) (fun _ _ _ _ _ => pv 3)) pa_nil)) (pv 1)))
      (pss_one (ps_ret (pe_call GP hr2 rfl gP kP bP .nil pass0 (pa_cons (pv 0) (pa_cons (pe_lst (pa_cons (pe_callTy call_tuple_of (by rfl) zT (by decide +kernel) (pa_cons (pv 1) pa_nil)) (pa_cons (pe_callTy call_tuple_of (by rfl) zT (by decide +kernel) (pa_cons (pv 1) pa_nil))
          (pa_cons (pe_callTy call_tuple_of (by rfl) zT (by decide +kernel) (pa_cons (pe_revL (pv 1)) pa_nil)) (pa_cons (pe_callTy call_tuple_of (by rfl) zT (by decide +kernel) (pa_cons (pe_op op_cat (pv 1) (pe_slice sl_list (pv 1) (po_some (pe_un un_neg pe_int)) po_none)) pa_nil)) (pa_cons (pv 1) pa_nil)))))) pa_nil)))))), ?_⟩
    exact rn_all (K := K) hD k
end
end K0

namespace K0
open PySem PySem.Spec PyProof.Rows L2 DW RZ
abbrev sShuf : Stmt := top 29
section
variable {P : Program} {w : World} {K : PySem.W.Frag} {mg : Str → Option Value} {base : Heap}
theorem scShuf : FnScope ["dice", "items", "heap", "turn"] ["dice", "items"] (defScope sShuf) := ⟨rfl, rfl, rfl, by decide +kernel, rfl, by decide +kernel, by decide +kernel⟩
def spShuf : Sp := fun vs H Q _ => ∃ (D p : Addr) (ys : List Str), vs = [.ref D, .ref p] ∧ Dc H D ∧ p ≠ D ∧ H p = some (.lst (ys.map V.str)) ∧ ys.length ≤ 60 ∧
  ∀ (L : Addr) (zs : List Str) H', L ≠ D → H' L = some (.lst (zs.map V.str)) → zs.length = ys.length → (∀ z ∈ zs, z ∈ ys) → But D H H' → Dc H' D → Q (.ref L) H'
abbrev tPopR (K : PySem.W.Frag) : TE := tBM K "list" rPopAt (tVar 2) (tCons (tCall spRoll [] E0 (tCons (tVar 0) (tCons (tCB (fun xs H Q => ∃ p ys, xs = [.ref p] ∧ (SqL K H p ys ∨ SqT K H p ys) ∧ Q (.int ys.length) H) (tCons (tVar 2) tNil)) tNil))) tNil)
theorem erase_map {α β : Type} (f : α → β) : ∀ (l : List α) (i : Nat), (l.map f).eraseIdx i = (l.eraseIdx i).map f
  | [], _ => rfl
  | _ :: _, 0 => rfl
  | a :: l, i + 1 => by show f a :: (l.map f).eraseIdx i = f a :: (l.eraseIdx i).map f; rw [erase_map f l i]
theorem seq_at {r : Int} {n : Nat} (h0 : 0 ≤ r) (h1 : r < n) : seqIndex? r n = some r.toNat := by
  unfold seqIndex?
  have e : ¬ r < 0 := by omega
  simp only [e, if_false]
  rw [if_pos (by rw [Bool.and_eq_true, decide_eq_true_eq, decide_eq_true_eq]; exact ⟨h0, h1⟩)]
theorem rd_shuf {H0 H : Hp} {D p h : Addr} {ys : List Str} {x3 : Option V} {Q : VK} (b0 : But D H0 H) (nh : H0 h = none) (hD : Dc H D) (neh : h ≠ D) (hp : H p = some (.lst (ys.map V.str))) (hh : H h = some (.lst (ys.map V.str))) (hl : ys.length ≤ 60)
    (k : ∀ (L : Addr) (zs : List Str) H', L ≠ D → H' L = some (.lst (zs.map V.str)) → zs.length = ys.length → (∀ z ∈ zs, z ∈ ys) → But D H0 H' → Dc H' D → Q (.ref L) H') :
    tLc (iRng1 (tCons (tCB (fun xs H Q => ∃ p ys, xs = [.ref p] ∧ (SqL K H p ys ∨ SqT K H p ys) ∧ Q (.int ys.length) H) (tCons (tVar 1) tNil)) tNil)) (gName 3) tYes (tPopR K) [3] [some (.ref D), some (.ref p), some (.ref h), x3] H Q := by
  refine ⟨_, rfl, p, _, rfl, .inl (SqL.of hp), _, rfl, by omega, by rw [List.length_map]; omega, fun L nL => ?_⟩
  have neD := new_ne hD nL
  have neh2 : L ≠ h := fun e => by rw [e, hh] at nL; cases nL
  have en : (((ys.map V.str).length : Nat) : Int).toNat = ys.length := by rw [List.length_map]; omega
  rw [en]
  have nL0 : ∀ q o, q ≠ D → H0 q = some o → q ≠ L := fun q o hq e z => by
    have w := b0 q o hq e
    rw [z, nL] at w
    cases w
  refine lc_range (lo := 0) (n := ys.length) (fun i H' => But D H0 H' ∧ Dc H' D ∧ ∃ hs zs : List Str, H' h = some (.lst (hs.map V.str)) ∧ hs.length + i = ys.length ∧ (∀ z ∈ hs, z ∈ ys) ∧ H' L = some (.lst (zs.map V.str)) ∧ zs.length = i ∧ ∀ z ∈ zs, z ∈ ys)
    ⟨b0.trans (Same.but (same_new nL)), hD.same (same_new nL), ys, [], by rw [upd_ne (Ne.symm neh2)]; exact hh, rfl, fun z m => m, upd_same, rfl, fun z m => by cases m⟩ (fun i H' hi q => ⟨rfl, tyes ?_⟩) (fun H' q => ?_)
  · obtain ⟨b, ⟨d0, d1, d2, eD⟩, hs, zs, e1, e2, e3, e4, e5, e6⟩ := q
    have pos : 0 < hs.length := by omega
    refine ⟨_, rfl, .inl ⟨rfl, _, SqL.of e1⟩, _, rfl, _, rfl, h, _, rfl, .inl (SqL.of e1), D, d0, d1, d2, _, rfl, eD, by rw [List.length_map]; omega, by rw [List.length_map]; omega, fun r f0 f2 r0 r1 => ?_⟩
    rw [List.length_map] at r1
    have hk : r.toNat < hs.length := by omega
    have e1' : upd H' D (.lst [.int f0, .int d1, .int f2]) h = some (.lst (hs.map V.str)) := by rw [upd_ne neh]; exact e1
    refine ⟨h, hs.map V.str, r, r.toNat, .str hs[r.toNat], rfl, rfl, e1', by omega, by omega, seq_at r0 (by rw [List.length_map]; exact r1), by rw [List.getElem?_map, List.getElem?_eq_getElem hk]; rfl, ?_⟩
    refine ⟨zs.map V.str, by rw [upd_ne neh2, upd_ne neD]; exact e4, by rw [List.length_map, sizeLine_eq]; omega, ?_, ?_, hs.eraseIdx r.toNat, zs ++ [hs[r.toNat]], ?_, ?_, ?_, ?_, ?_, ?_⟩
    · intro q o hq e
      rw [upd_ne (nL0 q o hq e), upd_ne (ne_of_none e nh), upd_ne hq]
      exact b q o hq e
    · exact ⟨f0, d1, f2, by rw [upd_ne (Ne.symm neD), upd_ne (Ne.symm neh), upd_same]⟩
    · rw [upd_ne (Ne.symm neh2), upd_same, erase_map]
    · rw [List.length_eraseIdx_of_lt hk]
      omega
    · exact fun z m => e3 z (List.mem_of_mem_eraseIdx m)
    · rw [upd_same, List.map_append]
      rfl
    · rw [List.length_append, e5]
      rfl
    · intro z m
      rcases List.mem_append.mp m with m | m
      · exact e6 z m
      · have e : z = hs[r.toNat] := by simpa using m
        rw [e]
        exact e3 _ (List.getElem_mem hk)
  · obtain ⟨b, d, hs, zs, _, _, _, e4, e5, e6⟩ := q
    exact k L zs H' neD e4 e5 e6 b d
theorem ok_shuf {f fR : Addr} {fd dR : FuncData} (F : Fun K "_law_shuffled" "_law_shuffled" sShuf f fd) (GR : FnOk P w K mg base CX0 1 fR dR ["dice", "total"] spRoll) (kR : PySem.W.keepIn K (.ref fR) = true) (bR : Binds K dR ["dice", "total"] []) (gR : mg "_law_roll" = some (.ref fR))
    (zL : mg "list" = none) (zR : mg "range" = none) (zN : mg "len" = none) : FnOk P w K mg base CX0 2 f fd ["dice", "items"] spShuf := by
  refine F.ok scShuf (fun vs H Q E h => ?_) (fun cdv A outer s H vs Q E hr h => ?_)
  · obtain ⟨D, p, ys, rfl, _⟩ := h
    rfl
  · obtain ⟨D, p, ys, rfl, hD, np, hp, hl, k⟩ := h
    refine ⟨_, pss_cons (ps_set (i := 2) scShuf.nd rfl (Or.inr rfl) (pe_callTy call_list_of (by rfl) zL (by decide +kernel) (pa_cons (pv 1) pa_nil)))
      (pss_one (ps_ret (pe_lc (own := [("turn", 3)]) (g := gName 3) (tt := tYes) rfl scShuf.nd (pi_range1 rfl zR (pa_cons (pe_callB call_len_seq (by rfl) zN PySem.boot_len (pa_cons (pv 1) pa_nil)) pa_nil))
          (blkOk_by (own := [("turn", 3)]) (N := ["dice", "items", "heap", "turn"]) (sc := defScope sShuf) (by decide +kernel)) (fun _ _ _ _ _ => pg_name (i := 3) scShuf.nd rfl (Or.inl rfl)) (fun _ _ _ _ _ => pts_nil)
          (te := tPopR K)
          (fun _ _ _ _ _ => pe_bm PySem.F.plainAttrs_list PySem.F.slot_list_pop PySem.F.type_list_pop mt_popAt (pv 2) (pa_cons (pe_call GR hr rfl gR kR bR .nil pass0 (pa_cons (pv 0) (pa_cons (pe_callB call_len_seq (by rfl) zN PySem.boot_len (pa_cons (pv 2) pa_nil)) pa_nil))) pa_nil))))), ?_⟩
    refine ⟨_, rfl, p, _, rfl, .inl (SqL.of hp), fun h nh => ?_⟩
    have s1 := same_new (o := .lst (ys.map V.str)) nh
    exact rd_shuf (K := K) (Same.but s1) nh (hD.same s1) (new_ne hD nh) (s1 _ _ hp) upd_same hl k
end
end K0

namespace DW
open PySem PySem.Spec PyProof.Rows L2 PySem.W
section
variable {X : Cx}
/-- sorted(a list of alike data): the items in some sequence -/
def rSortDat (K : PySem.W.Frag) : List V → Hp → VK → Prop := fun vs H Q => ∃ (a : Addr) (bs : List (V × PyData)), vs = [.ref a] ∧ SqL K H a (bs.map (·.1)) ∧ (∀ b ∈ bs, Dp K H b.1 b.2) ∧ AllAlike (bs.map (·.2)) ∧ Sortable (bs.map (·.2)) ∧ bs.length ≤ 1000 ∧ (∀ b ∈ bs, b.2.depth ≤ 50) ∧
  ∀ (cs : List (V × PyData)) (p : Addr), cs.Perm bs → H p = none → Q (.ref p) (upd H p (.lst (cs.map (·.1))))
theorem each_of {K : PySem.W.Frag} {H : Hp} {pins : List (Addr × Obj)} {σ : L2.St} {s : Shared} (I : Inv X pins σ H s) : ∀ {bs : List (V × PyData)} {us : List Value}, Vals (bs.map (·.1)) us → (∀ b ∈ bs, Dp X.K H b.1 b.2) →
    EachIs (fun (v : Value) (b : V × PyData) => RelV b.1 v) us bs ∧ EachIs (fun (v : Value) (b : V × PyData) => ∃ as, Reads s.heap v b.2 as) us bs
  | [], us, r, _ => by
    cases r
    exact ⟨.nil, .nil⟩
  | b :: bs, us, r, h => by
    cases r with
    | cons r1 r2 =>
      obtain ⟨z1, z2⟩ := each_of (K := K) I r2 fun c hc => h c (List.mem_cons_of_mem _ hc)
      exact ⟨.cons r1 z1, .cons (Dp.reads I b.2 b.1 _ (h b (by simp)) r1) z2⟩
theorem vals_each : ∀ {bs : List (V × PyData)} {us : List Value}, EachIs (fun (v : Value) (b : V × PyData) => RelV b.1 v) us bs → Vals (bs.map (·.1)) us
  | [], _, .nil => .nil
  | _ :: _, _, .cons r k => .cons r (vals_each k)
theorem cr_sortDat (hu : X.A.units + 64 < cLine) : CallR X (.builtin "sorted") (rSortDat X.K) := by
  intro pins s σ H vs us Q I r h
  obtain ⟨a, bs, rfl, hs, hd, hal, hk, hl, hdep, q⟩ := h
  obtain ⟨its, rv, pl, hz⟩ := I.list hs
  obtain ⟨u, rfl, ru⟩ := vals1 r
  obtain rfl : u = Value.ref a := ru
  obtain ⟨e, er⟩ := each_of (K := X.K) I rv hd
  refine sorted_data (enc := fun b : V × PyData => b.2) (bs := bs) pl.isList e er hal hk (by rw [sizeLine_eq]; omega) (fun b hb => by have := hdep b hb; omega) fun out hlen hout => ?_
  have pm := List.mergeSort_perm bs (dataLe false fun b : V × PyData => b.2)
  obtain ⟨n, he⟩ := sortedAll_at s.heap its out.toArray
  have fresh : H (s.heap.objs.size + 1) = none := I.hok.fresh (Nat.le_succ _)
  refine ⟨.ref (s.heap.objs.size + 1), _, I.laid (t' := s.toks) (a := s.heap.objs.size + 1) (o := .lst ((bs.mergeSort (dataLe false fun b : V × PyData => b.2)).map (·.1))) (fun b o z => sortedAll_old z) (Nat.le_succ _) ⟨?_, out, n, vals_each hout, he⟩, rfl, q _ _ pm fresh⟩
  rw [List.length_map, pm.length_eq, sizeLine_eq]
  omega
end
end DW

namespace DW
open PySem PySem.Spec PyProof.Rows L2
theorem zip_noLen : typeLookup (.type "zip") "__len__" = pure none := am_miss_of_fast (by decide +kernel)
theorem zip_noHint : typeLookup (.type "zip") "__length_hint__" = pure none := am_miss_of_fast (by decide +kernel)
/-! ### list(zip(a, b)) of two lists of one length -/
/-- how far a walk is: h the heap, h0 the one at its start, lo above all that stood then -/
structure Zi (h0 h : Heap) (lo S z TI TO i1 i2 l1 l2 : Addr) (xs ys : Array Value) (i : Nat) (ts : List Addr) : Prop where
  ti : IsPair h TI (.ref i1) (.ref i2)
  a1 : h.IsListIter i1 l1 i
  a2 : h.IsListIter i2 l2 i
  b1 : h.IsList l1 xs
  b2 : h.IsList l2 ys
  st : (IsZip h z TI TO .none ∧ ∃ a b, IsPair h TO a b) ∨ ∃ T f oT, IsZipHeld h z TI TO T f ∧ h.get? T = some oT ∧ lo ≤ T
  sz : lo ≤ h.objs.size
  len : ts.length = i
  above : ∀ t ∈ ts, lo ≤ t ∧ t < h.objs.size
  rise : ts.Pairwise (· < ·)
  pr : ∀ (j : Nat) (t : Addr), ts[j]? = some t → ∃ x y, xs[j]? = some x ∧ ys[j]? = some y ∧ IsPair h t x y
  old : ∀ b o, b < lo → b ≠ S → b ≠ z → b ≠ TO → b ≠ i1 → b ≠ i2 → h0.get? b = some o → h.get? b = some o
/-- all of them stand below -/
structure ZiB (lo S z TI TO i1 i2 l1 l2 : Addr) : Prop where
  D : ZipApart z TI TO i1 i2 l1 l2
  lS : S < lo
  lz : z < lo
  lTI : TI < lo
  lTO : TO < lo
  u1 : i1 < lo
  u2 : i2 < lo
  m1 : l1 < lo
  m2 : l2 < lo
  sz : S ≠ z
  sTI : S ≠ TI
  sTO : S ≠ TO
  s1 : S ≠ i1
  s2 : S ≠ i2
  t1 : S ≠ l1
  t2 : S ≠ l2
section
variable {prog : Program} {w : World} {A : Around} {E : Value → Shared → Prop} {s : Shared} {h0 h : Heap} {lo S z TI TO i1 i2 l1 l2 : Addr} {xs ys : Array Value} {i : Nat} {ts : List Addr}
theorem Zi.keep {h' : Heap} (B : ZiB lo S z TI TO i1 i2 l1 l2) (Y : Zi h0 h lo S z TI TO i1 i2 l1 l2 xs ys i ts) (hs : h.objs.size ≤ h'.objs.size) (k : ∀ b o, b ≠ S → h.get? b = some o → h'.get? b = some o) :
    Zi h0 h' lo S z TI TO i1 i2 l1 l2 xs ys i ts := by
  have up : ∀ {t : Addr}, lo ≤ t → t ≠ S := fun q e => Nat.lt_irrefl _ (Nat.lt_of_lt_of_le B.lS (e ▸ q))
  refine ⟨k _ _ (Ne.symm B.sTI) Y.ti, Y.a1.at fun o => k _ o (Ne.symm B.s1), Y.a2.at fun o => k _ o (Ne.symm B.s2), Y.b1.at fun o => k _ o (Ne.symm B.t1), Y.b2.at fun o => k _ o (Ne.symm B.t2), ?_, Nat.le_trans Y.sz hs, Y.len, fun t ht => ?_, Y.rise, fun j t hj => ?_, fun b o q1 q2 q3 q4 q5 q6 e => k b o q2 (Y.old b o q1 q2 q3 q4 q5 q6 e)⟩
  · rcases Y.st with ⟨q, a, b, p⟩ | ⟨T, f, oT, q, hT, hl⟩
    · exact .inl ⟨k _ _ (Ne.symm B.sz) q, a, b, k _ _ (Ne.symm B.sTO) p⟩
    · exact .inr ⟨T, f, oT, k _ _ (Ne.symm B.sz) q, k _ _ (up hl) hT, hl⟩
  · obtain ⟨q1, q2⟩ := Y.above t ht
    exact ⟨q1, Nat.lt_of_lt_of_le q2 hs⟩
  · obtain ⟨x, y, e1, e2, p⟩ := Y.pr j t hj
    exact ⟨x, y, e1, e2, k _ _ (up (Y.above t (List.mem_of_getElem? hj)).1) p⟩
/-- what a turn leaves, whichever it was -/
theorem Zi.go {h' : Heap} {x y : Value} (B : ZiB lo S z TI TO i1 i2 l1 l2) (Y : Zi h0 h lo S z TI TO i1 i2 l1 l2 xs ys i ts) (hx : xs[i]? = some x) (hy : ys[i]? = some y) (c1 : h'.IsListIter i1 l1 (i + 1)) (c2 : h'.IsListIter i2 l2 (i + 1))
    (hp : IsPair h' h.objs.size x y) (hs : h'.objs.size = h.objs.size + 1) (k : ∀ b o, b ≠ z → b ≠ TO → b ≠ i1 → b ≠ i2 → h.get? b = some o → h'.get? b = some o) (hz : ∃ T f oT, IsZipHeld h' z TI TO T f ∧ h'.get? T = some oT ∧ lo ≤ T) :
    Zi h0 h' lo S z TI TO i1 i2 l1 l2 xs ys (i + 1) (ts ++ [h.objs.size]) := by
  have ne : ∀ {t b : Addr}, lo ≤ t → b < lo → t ≠ b := fun q r e => Nat.lt_irrefl _ (Nat.lt_of_lt_of_le r (e ▸ q))
  refine ⟨k _ _ B.D.TIz B.D.TITO B.D.TIi1 B.D.TIi2 Y.ti, c1, c2, Y.b1.at fun o => k _ o B.D.l1z B.D.l1TO B.D.l1i1 B.D.l1i2, Y.b2.at fun o => k _ o B.D.l2z B.D.l2TO B.D.l2i1 B.D.l2i2, .inr hz, by rw [hs]; exact Nat.le_succ_of_le Y.sz, by rw [List.length_append, Y.len]; rfl, fun t ht => ?_, ?_, fun j t hj => ?_,
    fun b o q1 q2 q3 q4 q5 q6 e => k b o q3 q4 q5 q6 (Y.old b o q1 q2 q3 q4 q5 q6 e)⟩
  · rw [hs]
    rcases List.mem_append.mp ht with m | m
    · obtain ⟨q1, q2⟩ := Y.above t m
      exact ⟨q1, Nat.lt_succ_of_lt q2⟩
    · rw [List.mem_singleton.mp m]
      exact ⟨Y.sz, Nat.lt_succ_self _⟩
  · refine List.pairwise_append.mpr ⟨Y.rise, List.pairwise_singleton _ _, fun a ha b hb => ?_⟩
    rw [List.mem_singleton.mp hb]
    exact (Y.above a ha).2
  · by_cases q : j < ts.length
    · rw [List.getElem?_append_left q] at hj
      obtain ⟨u, v, e1, e2, p⟩ := Y.pr j t hj
      have ab := (Y.above t (List.mem_of_getElem? hj)).1
      exact ⟨u, v, e1, e2, k _ _ (ne ab B.lz) (ne ab B.lTO) (ne ab B.u1) (ne ab B.u2) p⟩
    · have hj2 : j < (ts ++ [h.objs.size]).length := (List.getElem?_eq_some_iff.mp hj).1
      rw [List.length_append, List.length_singleton] at hj2
      have e : j = ts.length := by omega
      subst e
      have et : h.objs.size = t := by simpa using hj
      rw [Y.len, ← et]
      exact ⟨x, y, hx, hy, hp⟩
theorem zi_next {Q : Option Value → Shared → Prop} {x y : Value} (B : ZiB lo S z TI TO i1 i2 l1 l2) (Y : Zi h0 s.heap lo S z TI TO i1 i2 l1 l2 xs ys i ts) (hx : xs[i]? = some x) (hy : ys[i]? = some y)
    (k : ∀ h', Zi h0 h' lo S z TI TO i1 i2 l1 l2 xs ys (i + 1) (ts ++ [s.heap.objs.size]) → (∀ o, s.heap.get? S = some o → h'.get? S = some o) → Q (some (.ref s.heap.objs.size)) { s with heap := h' }) :
    wpAny (model prog w) A (pyNext (.ref z)) Q E s := by
  have ne : ∀ {t b : Addr}, lo ≤ t → b < lo → t ≠ b := fun q r e => Nat.lt_irrefl _ (Nat.lt_of_lt_of_le r (e ▸ q))
  rcases Y.st with ⟨q, a, b, p⟩ | ⟨T, f, oT, q, hT, hl⟩
  · refine wpAny_pyNext_zip_item B.D q Y.ti p Y.a1 Y.a2 Y.b1 Y.b2 hx hy fun h' g1 _ g3 g4 g5 g6 g7 => ?_
    exact k h' (Y.go B hx hy g3 g4 g5 g6 g7 ⟨_, false, _, g1, g5, Y.sz⟩) fun o e => g7 _ o B.sz B.sTO B.s1 B.s2 e
  · refine wpAny_pyNext_zip_item_held B.D q hT Y.ti Y.a1 Y.a2 Y.b1 Y.b2 hx hy fun h' g1 g3 g4 g5 g6 g7 => ?_
    exact k h' (Y.go B hx hy g3 g4 g5 g6 (fun b o q1 _ q3 q4 e => g7 b o q1 q3 q4 e) ⟨T, true, oT, g1, g7 _ _ (ne hl B.lz) (ne hl B.u1) (ne hl B.u2) hT, hl⟩) fun o e => g7 _ o B.sz B.s1 B.s2 e
theorem zi_stop {Q : Option Value → Shared → Prop} (hh : A.handled = none) (B : ZiB lo S z TI TO i1 i2 l1 l2) (Y : Zi h0 s.heap lo S z TI TO i1 i2 l1 l2 xs ys i ts) (hx : xs[i]? = none)
    (k : ∀ h', (∀ b o, b ≠ z → b ≠ TO → b ≠ i1 → b ≠ i2 → s.heap.get? b = some o → h'.get? b = some o) → Q none { s with heap := h' }) : wpAny (model prog w) A (pyNext (.ref z)) Q E s := by
  rcases Y.st with ⟨q, a, b, p⟩ | ⟨T, f, oT, q, hT, hl⟩
  · exact wpAny_pyNext_zip_end hh B.D q Y.ti p Y.a1 Y.a2 Y.b1 Y.b2 (.inl hx) k
  · exact wpAny_pyNext_zip_end_held hh B.D q hT Y.ti Y.a1 Y.a2 Y.b1 Y.b2 (.inl hx) fun h' g => k h' fun b o q1 _ q3 q4 e => g b o q1 q3 q4 e
end
section
variable {prog : Program} {w : World} {A : Around} {s : Shared} {R : Result → Shared → Prop} {h0 : Heap} {lo S z TI TO i1 i2 l1 l2 : Addr} {xs ys : Array Value}
abbrev lstO (acc : Array Value) (c : Nat) : Obj := { cls := .type "list", dict := none, data := .seq acc c, slots := #[] }
/-- what stands behind the walk -/
def ZiEnd (h0 h : Heap) (lo S z TO i1 i2 : Addr) (xs ys : Array Value) : Prop := ∃ (acc : Array Value) (c : Nat) (ts : List Addr), h.get? S = some (lstO acc c) ∧ acc.toList = ts.map Value.ref ∧ ts.length = xs.size ∧ (∀ t ∈ ts, lo ≤ t) ∧ ts.Pairwise (· < ·) ∧
  (∀ (j : Nat) (t : Addr), ts[j]? = some t → ∃ x y, xs[j]? = some x ∧ ys[j]? = some y ∧ IsPair h t x y) ∧ ∀ b o, b < lo → b ≠ S → b ≠ z → b ≠ TO → b ≠ i1 → b ≠ i2 → h0.get? b = some o → h.get? b = some o
theorem zi_loop {res : Value} (hh : A.handled = none) (B : ZiB lo S z TI TO i1 i2 l1 l2) (en : xs.size = ys.size) (hn : xs.size ≤ sizeLine) (fin : ∀ h', ZiEnd h0 h' lo S z TO i1 i2 xs ys → R (.ok (.ret res)) { s with heap := h' }) :
    ∀ (left i : Nat) (h : Heap) (acc : Array Value) (c : Nat) (ts : List Addr), xs.size - i = left → i ≤ xs.size → Zi h0 h lo S z TI TO i1 i2 l1 l2 xs ys i ts → h.get? S = some (lstO acc c) → acc.toList = ts.map Value.ref →
      codeAny (model prog w) A (.builtin "list.extend.loop" ⟨[.ref S, .ref z, res], []⟩) R { s with heap := h } := by
  intro left
  induction left with
  | zero =>
    intro i h acc c ts hl hi Y hS ha
    have ei : i = xs.size := by omega
    refine codeAny_builtin PySem.F.entry_extend_loop (by
      rw [Around.under_plainId PySem.F.plain_extend_loop _]
      refine (show wpAny _ A.in1 (pyNext (.ref z) >>= _) _ _ _ from wpAny_bind (zi_stop (s := { s with heap := h }) (A := A.in1) hh B Y (Array.getElem?_eq_none (by omega)) fun h' g => wpAny_pure (fin h' ?_)))
      have ne : ∀ {t b : Addr}, lo ≤ t → b < lo → t ≠ b := fun q r e => Nat.lt_irrefl _ (Nat.lt_of_lt_of_le r (e ▸ q))
      refine ⟨acc, c, ts, g _ _ B.sz B.sTO B.s1 B.s2 hS, ha, by rw [Y.len, ei], fun t m => (Y.above t m).1, Y.rise, fun j t hj => ?_, fun b o q1 q2 q3 q4 q5 q6 e => g b o q3 q4 q5 q6 (Y.old b o q1 q2 q3 q4 q5 q6 e)⟩
      obtain ⟨x, y, e1, e2, p⟩ := Y.pr j t hj
      have ab := (Y.above t (List.mem_of_getElem? hj)).1
      exact ⟨x, y, e1, e2, g _ _ (ne ab B.lz) (ne ab B.lTO) (ne ab B.u1) (ne ab B.u2) p⟩)
  | succ left ih =>
    intro i h acc c ts hl hi Y hS ha
    have lt : i < xs.size := by omega
    have lty : i < ys.size := by omega
    have za : acc.size = i := by rw [← Array.length_toList, ha, List.length_map, Y.len]
    refine codeAny_builtin PySem.F.entry_extend_loop (by
      rw [Around.under_plainId PySem.F.plain_extend_loop _]
      refine (show wpAny _ A.in1 (pyNext (.ref z) >>= _) _ _ _ from wpAny_bind (zi_next (s := { s with heap := h }) (A := A.in1) B Y (Array.getElem?_eq_getElem lt) (Array.getElem?_eq_getElem lty) fun h' Y' kS => ?_))
      have hS' := kS _ hS
      refine (show wpAny _ A.in1 (updateSeq S (fun q => q.push (.ref h.objs.size)) >>= _) _ _ { s with heap := h' } from wpAny_bind ?_)
      refine wpAny_updateSeq hS' rfl (wpAny_pure ⟨plainId_quiet PySem.F.plain_extend_loop _, ?_⟩) (by rw [za]; omega) (by show (acc.push (Value.ref h.objs.size)).size ≤ sizeLine + 1; rw [Array.size_push, za]; omega)
      refine ih (i + 1) _ (acc.push (.ref h.objs.size)) _ (ts ++ [h.objs.size]) (by omega) lt (Y'.keep B ?_ fun b o nb e => (Heap.get?_update_other _ _ (Ne.symm nb)).trans e) (Heap.get?_update_self _ hS' rfl) (by rw [Array.toList_push, ha, List.map_append]; rfl)
      exact Nat.le_of_eq (Heap.SameBut.update ..).1.symm)
end
end DW

namespace DW
open PySem PySem.Spec PyProof.Rows L2
section
variable {prog : Program} {w : World} {A : Around} {E : Value → Shared → Prop} {s : Shared} {z TI TO i1 i2 l1 l2 : Addr} {xs ys : Array Value}
theorem zi_call {Q : Value → Shared → Prop} (hh : A.handled = none) (D : ZipApart z TI TO i1 i2 l1 l2) (hz : IsZip s.heap z TI TO .none) (hTI : IsPair s.heap TI (.ref i1) (.ref i2)) (hTO : ∃ a b, IsPair s.heap TO a b) (h1 : s.heap.IsListIter i1 l1 0) (h2 : s.heap.IsListIter i2 l2 0)
    (hl1 : s.heap.IsList l1 xs) (hl2 : s.heap.IsList l2 ys) (en : xs.size = ys.size) (hn : xs.size ≤ sizeLine)
    (k : ∀ h', ZiEnd s.heap h' (s.heap.objs.size + 1) s.heap.objs.size z TO i1 i2 xs ys → Q (.ref s.heap.objs.size) { s with heap := h' }) : wpAny (model prog w) A (call (.type "list") [.ref z]) Q E s := by
  have lt : ∀ {b : Addr} {o : Obj}, s.heap.get? b = some o → b < s.heap.objs.size := fun e => Heap.lt_size e
  obtain ⟨a, b, hTO⟩ := hTO
  have q1 : i1 < s.heap.objs.size := by obtain ⟨_, e, _⟩ := h1; exact lt e
  have q2 : i2 < s.heap.objs.size := by obtain ⟨_, e, _⟩ := h2; exact lt e
  have m1 : l1 < s.heap.objs.size := by obtain ⟨_, e, _⟩ := hl1; exact lt e
  have m2 : l2 < s.heap.objs.size := by obtain ⟨_, e, _⟩ := hl2; exact lt e
  have u : ∀ {b : Addr}, b < s.heap.objs.size → b < s.heap.objs.size + 1 := fun q => Nat.lt_succ_of_lt q
  have n : ∀ {b : Addr}, b < s.heap.objs.size → s.heap.objs.size ≠ b := fun q => Nat.ne_of_gt q
  have B : ZiB (s.heap.objs.size + 1) s.heap.objs.size z TI TO i1 i2 l1 l2 := ⟨D, Nat.lt_succ_self _, u (lt hz), u (lt hTI), u (lt hTO), u q1, u q2, u m1, u m2, n (lt hz), n (lt hTI), n (lt hTO), n q1, n q2, n m1, n m2⟩
  refine callType_codes (Q₁ := fun obj s₁ => obj = .ref s.heap.objs.size ∧ s₁ = { s with heap := s.heap.push (lstO #[] 0) }) PySem.F.called_list (PySem.F.typeCall_list_1 _) PySem.F.entry_list_init (code_list_new _ ⟨rfl, rfl⟩) fun obj s₁ e => ?_
  obtain ⟨rfl, rfl⟩ := e
  have hS : (s.heap.push (lstO #[] 0)).get? s.heap.objs.size = some (lstO #[] 0) := Heap.get?_push_size _ rfl
  have Y0 : Zi s.heap (s.heap.push (lstO #[] 0)) (s.heap.objs.size + 1) s.heap.objs.size z TI TO i1 i2 l1 l2 xs ys 0 [] :=
    ⟨Heap.get?_push_of_some _ hTI, h1.at fun o e => Heap.get?_push_of_some _ e, h2.at fun o e => Heap.get?_push_of_some _ e, hl1.push _, hl2.push _, .inl ⟨Heap.get?_push_of_some _ hz, a, b, Heap.get?_push_of_some _ hTO⟩,
      by rw [Heap.size_push]; exact Nat.le_refl _, rfl, (fun t m => nomatch m), List.Pairwise.nil, (fun j t e => by simp at e), fun b o q _ _ _ _ _ e => Heap.get?_push_of_some _ e⟩
  have key : ∀ (h : Heap) (c : Nat), (∀ b o, b ≠ s.heap.objs.size → (s.heap.push (lstO #[] 0)).get? b = some o → h.get? b = some o) → (s.heap.push (lstO #[] 0)).objs.size ≤ h.objs.size → h.get? s.heap.objs.size = some (lstO #[] c) →
      codeAny (model prog w) A.in1 (.builtin "list.extend.loop" ⟨[.ref s.heap.objs.size, .ref z, .none], []⟩) (wants (fun r s₂ => r = .none ∧ Q (.ref s.heap.objs.size) s₂) E) { s with heap := h } := fun h c kp hs hS' =>
    zi_loop (A := A.in1) hh B en hn (fun h' q => ⟨rfl, k h' q⟩) xs.size 0 h #[] c [] (Nat.sub_zero _) (Nat.zero_le _) (Y0.keep B hs kp) hS' rfl
  refine ⟨⟨_, hS, rfl⟩, PySem.F.args_list_init_2 _ _, ?_⟩
  refine (show wpAny (model prog w) A.in1.in1 (do let old ← Builtin.List.listItems (.ref s.heap.objs.size); Builtin.List.listUpdate (.ref s.heap.objs.size) (fun _ => #[]); letGo old.toList.reverse; Builtin.List.listExtendWith (.ref s.heap.objs.size) (.ref z) .none) _ _ _ from ?_)
  refine wpAny_bind ?_; unfold Builtin.List.listItems; refine wpAny_bind (wpAny_seqItems hS rfl (wpAny_pure ?_))
  refine (show wpAny (model prog w) A.in1.in1 (updateSeq s.heap.objs.size (fun _ => #[]) >>= fun _ => letGo (#[] : Array Value).toList.reverse >>= fun _ => Builtin.List.listExtendWith (.ref s.heap.objs.size) (.ref z) .none) _ _ _ from wpAny_bind (wpAny_updateSeq hS rfl ?_))
  have hS2 := Heap.get?_update_self (Obj.mapSeq (fun _ => (#[] : Array Value))) hS rfl
  have k2 : ∀ b o, b ≠ s.heap.objs.size → (s.heap.push (lstO #[] 0)).get? b = some o → ((s.heap.push (lstO #[] 0)).update s.heap.objs.size (Obj.mapSeq (fun _ => (#[] : Array Value)))).get? b = some o := fun b o ne e => (Heap.get?_update_other _ _ (Ne.symm ne)).trans e
  have z2 : (s.heap.push (lstO #[] 0)).objs.size ≤ ((s.heap.push (lstO #[] 0)).update s.heap.objs.size (Obj.mapSeq (fun _ => (#[] : Array Value)))).objs.size := Nat.le_of_eq (Heap.SameBut.update ..).1.symm
  generalize (s.heap.push (lstO #[] 0)).update s.heap.objs.size (Obj.mapSeq (fun _ => (#[] : Array Value))) = g2 at hS2 k2 z2 ⊢
  have hZ : g2.get? z = some _ := k2 _ _ (Ne.symm B.sz) (Heap.get?_push_of_some _ hz)
  have tZ : Shared.TypeIs { s with heap := g2 } (.ref z) "zip" := ⟨_, hZ, rfl⟩
  have f1 : Builtin.List.listSameRef (.ref s.heap.objs.size) (.ref z) = false := by simp [Builtin.List.listSameRef, B.sz]
  have f2 : (Value.type "zip" == Value.type "list") = false := by decide
  have f3 : (Value.type "zip" == Value.type "tuple") = false := by decide
  refine wpAny_bind (wpAny_letGo (by
    unfold Builtin.List.listExtendWith
    refine wpAny_bind (wpAny_typeOf tZ ?_)
    simp only [f1, f2, f3, Bool.or_false, Bool.false_eq_true, if_false]
    refine wpAny_bind (wpAny_pyIter_zip hZ (wpAny_bind (wpAny_holding ?_)))
    unfold Builtin.List.listLengthHint
    refine wpAny_bind (wpAny_specialOf tZ zip_noLen ?_)
    refine (show wpAny (model prog w) A.in1.in1 (specialOf (Value.ref z) (Str.ofString "__length_hint__") >>= _) _ _ { s with heap := g2 } from wpAny_bind (wpAny_specialOf tZ zip_noHint (wpAny_pure ?_)))
    refine (show wpAny (model prog w) A.in1.in1 (rule "list.extend.makes-room" >>= fun _ => Builtin.List.listTouch (.ref s.heap.objs.size) >>= fun _ => again (.builtin "list.extend.loop" ⟨[.ref s.heap.objs.size, .ref z, .none], []⟩)) _ _ { s with heap := g2 } from wpAny_bind (wpAny_rule (wpAny_bind ?_)))
    refine (show wpAny (model prog w) A.in1.in1 (updateSeq s.heap.objs.size (fun q => q.push .none) >>= fun _ => updateSeq s.heap.objs.size (fun q => q.pop)) _ _ { s with heap := g2 } from wpAny_bind (wpAny_updateSeq hS2 rfl ?_))
    have hS3 := Heap.get?_update_self (Obj.mapSeq (·.push Value.none)) hS2 rfl
    refine wpAny_updateSeq (hz := by seq_fits) hS3 rfl (wpAny_pure ⟨plainId_quiet PySem.F.plain_extend_loop _, key _ _ (fun b o ne e => ?_) ?_ (Heap.get?_update_self (Obj.mapSeq (·.pop)) hS3 rfl)⟩)
    · exact (Heap.get?_update_other _ _ (Ne.symm ne)).trans ((Heap.get?_update_other _ _ (Ne.symm ne)).trans (k2 b o ne e))
    · exact Nat.le_trans z2 (Nat.le_trans (Nat.le_of_eq (Heap.SameBut.update ..).1.symm) (Nat.le_of_eq (Heap.SameBut.update ..).1.symm))))
end
/-! ### many new objects at once -/
def updAll (H : Hp) (L : List (Addr × HO)) : Hp := fun b => match L.lookup b with
  | some o => some o | none => H b
theorem lookup_in {b : Addr} {o : HO} : ∀ {L : List (Addr × HO)}, L.lookup b = some o → (b, o) ∈ L
  | [], h => by cases h
  | (c, u) :: r, h => by
    rw [List.lookup_cons] at h
    by_cases e : b = c
    · subst e
      simp at h
      subst h
      exact List.mem_cons_self
    · have e' : (b == c) = false := by simpa using e
      rw [e'] at h
      exact List.mem_cons_of_mem _ (lookup_in h)
theorem lookup_at {b : Addr} {o : HO} : ∀ {L : List (Addr × HO)}, (L.map (·.1)).Nodup → (b, o) ∈ L → L.lookup b = some o
  | [], _, h => by cases h
  | (c, u) :: r, n, h => by
    rw [List.map_cons, List.nodup_cons] at n
    rw [List.lookup_cons]
    rcases List.mem_cons.mp h with e | m
    · cases e
      simp
    · have ne : b ≠ c := fun e => n.1 (by rw [← e]; exact List.mem_map.mpr ⟨_, m, rfl⟩)
      have e' : (b == c) = false := by simpa using ne
      rw [e']
      exact lookup_at n.2 m
theorem updAll_none {H : Hp} {L : List (Addr × HO)} {b : Addr} (h : ∀ p ∈ L, p.1 ≠ b) : updAll H L b = H b := by
  unfold updAll
  cases e : L.lookup b with
  | none => rfl
  | some o => exact absurd rfl (h _ (lookup_in e))
section
variable {X : Cx} {pins : List (Addr × Obj)} {σ : L2.St} {H : Hp} {s : Shared}
theorem laidAll {h' : Heap} {L : List (Addr × HO)} {tk : Nat} (I : Inv X pins σ H s) (k : ∀ b v, s.heap.get? b = some v → h'.get? b = some v) (new : ∀ p ∈ L, s.heap.objs.size ≤ p.1) (ok : ∀ p ∈ L, ObjOk X.prog X.w (updAll H L) h' p.1 p.2) :
    Inv X pins σ (updAll H L) { s with heap := h', toks := tk } := by
  have low : ∀ {b v}, s.heap.get? b = some v → updAll H L b = H b := fun {b v} e => updAll_none fun p m z => Nat.lt_irrefl _ (Nat.lt_of_lt_of_le (Heap.lt_size e) (z ▸ new p m))
  have old : ∀ b v, H b = some v → updAll H L b = some v := fun b v q => by
    rw [updAll_none fun p m z => ?_]
    · exact q
    · have z2 := I.hok.fresh (new p m)
      rw [z, q] at z2
      cases z2
  refine I.un ⟨fun b v q _ _ _ => k b v q, fun b v q _ _ _ => ⟨v.slots, k b v q⟩, fun b v q n _ => (low q).trans n, fun b v q _ => ⟨v, k b v q⟩, fun b xs q => old b _ q, fun b ob xs q => old b _ q, fun b qs q => ⟨#[], by rw [old b _ q]; simp⟩⟩ fun b v q => ?_
  cases e : L.lookup b with
  | some o =>
    have m := lookup_in e
    have z : updAll H L b = some o := by unfold updAll; rw [e]
    rw [z] at q
    cases q
    exact ok _ m
  | none =>
    have z : updAll H L b = H b := by unfold updAll; rw [e]
    rw [z] at q
    exact (I.hok b v q).stay (fun c y _ r => k c y r) (fun c r => old c _ r) fun c xs r => old c _ r
end
end DW

namespace DW
open PySem PySem.Spec PyProof.Rows L2
theorem valsAt : ∀ {xs : List V} {us : List Value} {j : Nat} {u : Value}, Vals xs us → us[j]? = some u → ∃ x, xs[j]? = some x ∧ RelV x u
  | _, _, j, u, .nil, h => by simp at h
  | _, _, 0, u, .cons r _, h => by
    simp at h
    subst h
    exact ⟨_, rfl, r⟩
  | _, _, j + 1, u, .cons _ k, h => by
    obtain ⟨x, e, q⟩ := valsAt k (j := j) (u := u) (by simpa using h)
    exact ⟨x, by simpa using e, q⟩
theorem refsVals : ∀ ts : List Addr, Vals (ts.map V.ref) (ts.map Value.ref)
  | [] => .nil
  | t :: r => .cons rfl (refsVals r)
/-- list(zip(a, b)), two lists of one length -/
def tLZip (K : PySem.W.Frag) (ta : TA) : TE := fun σ H Q => ta σ H fun vs H1 => ∃ (a b : Addr) (xs ys : List V), vs = [.ref a, .ref b] ∧ SqL K H1 a xs ∧ SqL K H1 b ys ∧ xs.length = ys.length ∧
  ∀ (l : Addr) (ts : List Addr) (H2 : Hp), Same H1 H2 → H1 l = none → (∀ t ∈ ts, H1 t = none) → H2 l = some (.lst (ts.map V.ref)) → ts.length = xs.length →
    (∀ (j : Nat) (t : Addr), ts[j]? = some t → ∃ x y, xs[j]? = some x ∧ ys[j]? = some y ∧ H2 t = some (.tup [x, y])) → Q (.ref l) H2
section
variable {X : Cx} {e e2 : Expr} {ta : TA} {p p2 q pos : Pos}
theorem pe_lzip (hc : X.calm = true) (hg : Gl X "list") (hm : X.mg "list" = none) (hg2 : Gl X "zip") (hm2 : X.mg "zip" = none) (ha : PA X [e, e2] ta)
    (na : starEach [.Call (.Name "zip" p2) [e, e2] [] q] X.env = (false, eval (.Call (.Name "zip" p2) [e, e2] [] q) X.env) :: starEach [] X.env := by rfl)
    (hs : starEach [e, e2] X.env = (false, eval e X.env) :: starEach [e2] X.env := by rfl) (hpl : (backTo q (starEach [e2] X.env)).any (·.1) = false := by rfl) :
    PE X (.Call (.Name "list" p) [.Call (.Name "zip" p2) [e, e2] [] q] [] pos) (tLZip X.K ta) := by
  refine ⟨fun pins s σ H Q I h => ?_⟩
  refine Call_ (ld_blt I hg hm PyProof.Rows.boot_list (PyProof.Rows.callWith_type1 (PyProof.Rows.args_cons ?_ na) na rfl))
  refine Call_ (ld_blt I hg2 hm2 PyProof.Rows.boot_zip (PyProof.Rows.callWith_type1 (thn (ha.run q pins s σ H _ I h) fun us s1 z => ?_) hs hpl))
  obtain ⟨vs, H1, I1, r1, a, b, xs, ys, rfl, hqx, hqy, he, q1⟩ := z
  obtain ⟨w1, w2, rfl, e1, e2⟩ := vals2 r1
  cases (show w1 = Value.ref a from e1)
  cases (show w2 = Value.ref b from e2)
  obtain ⟨its, rv, pa, hza⟩ := I1.list hqx
  obtain ⟨its2, rv2, pb, hzb⟩ := I1.list hqy
  have la : its.length = xs.length := rv.length.symm
  have lb : its2.length = ys.length := rv2.length.symm
  refine call_zip_2 pa.isList pb.isList fun h' hz hTI hTO h1 h2 hsz hk => PyProof.Rows.args_nil ?_
  refine zi_call (s := { s1 with heap := h' }) (xs := its.toArray) (ys := its2.toArray) (I1.ok.hd hc) (zipApart_new pa.lt pb.lt) hz hTI ⟨_, _, hTO⟩ h1 h2 (pa.isList.at fun o e => hk _ o e) (pb.isList.at fun o e => hk _ o e)
    (by rw [List.size_toArray, List.size_toArray, la, lb, he]) (by rw [List.size_toArray, la]; exact hza) fun g E => ?_
  obtain ⟨acc, c, ts, gS, eacc, lts, above, rise, pr, old⟩ := E
  have z5 : h'.objs.size = s1.heap.objs.size + 5 := hsz
  have kp : ∀ u v, s1.heap.get? u = some v → g.get? u = some v := fun u v q => by
    have lt := Heap.lt_size q
    have ne : ∀ k, u ≠ s1.heap.objs.size + k := fun k => Nat.ne_of_lt (Nat.lt_of_lt_of_le lt (Nat.le_add_right _ k))
    refine old u v ?_ ?_ (ne 4) (ne 3) (ne 0) (ne 1) (hk u v q)
    · show u < h'.objs.size + 1
      rw [z5]
      exact Nat.lt_of_lt_of_le lt (Nat.le_add_right _ 6)
    · show u ≠ h'.objs.size
      rw [z5]
      exact ne 5
  have n0 : ∀ {t : Addr}, t ∈ ts → h'.objs.size + 1 ≤ t := fun m => above _ m
  have freshS : H1 h'.objs.size = none := I1.hok.fresh (by omega)
  have freshT : ∀ t ∈ ts, H1 t = none := fun t m => I1.hok.fresh (by have := n0 m; omega)
  -- the pairs, as they are tracked
  have pair : ∀ (j : Nat) (t : Addr), ts[j]? = some t → ∃ x y u v, xs[j]? = some x ∧ ys[j]? = some y ∧ RelV x u ∧ RelV y v ∧ IsPair g t u v := fun j t hj => by
    obtain ⟨u, v, e1, e2, p⟩ := pr j t hj
    obtain ⟨x, q1, r1⟩ := valsAt rv (j := j) (u := u) (by simpa using e1)
    obtain ⟨y, q2, r2⟩ := valsAt rv2 (j := j) (u := v) (by simpa using e2)
    exact ⟨x, y, u, v, q1, q2, r1, r2, p⟩
  let L : List (Addr × HO) := (h'.objs.size, .lst (ts.map V.ref)) :: (List.range ts.length).map fun j => (ts.getD j 0, HO.tup [xs.getD j .non, ys.getD j .non])
  have keys : L.map (·.1) = h'.objs.size :: ts := by
    show h'.objs.size :: ((List.range ts.length).map _).map _ = _
    congr 1
    rw [List.map_map]
    apply List.ext_getElem?
    intro j
    rw [List.getElem?_map]
    by_cases q : j < ts.length
    · rw [List.getElem?_range q, List.getElem?_eq_getElem q]
      show some (ts.getD j 0) = _
      rw [List.getD_eq_getElem?_getD, List.getElem?_eq_getElem q]
      rfl
    · rw [List.getElem?_eq_none (by simpa using q), List.getElem?_eq_none (by simpa using q)]
      rfl
  have nd : (L.map (·.1)).Nodup := by
    rw [keys, List.nodup_cons]
    refine ⟨fun m => by have := n0 m; omega, List.Pairwise.imp (fun q => Nat.ne_of_lt q) rise⟩
  have memP : ∀ {j : Nat} {t : Addr} {x y : V}, ts[j]? = some t → xs[j]? = some x → ys[j]? = some y → (t, HO.tup [x, y]) ∈ L := fun {j t x y} hj hx hy => by
    refine List.mem_cons_of_mem _ (List.mem_map.mpr ⟨j, List.mem_range.mpr (List.getElem?_eq_some_iff.mp hj).1, ?_⟩)
    rw [List.getD_eq_getElem?_getD, List.getD_eq_getElem?_getD, List.getD_eq_getElem?_getD, hj, hx, hy]
    rfl
  have eachL : ∀ p ∈ L, p = (h'.objs.size, HO.lst (ts.map V.ref)) ∨ ∃ (j : Nat) (t : Addr) (x y : V) (u v : Value), ts[j]? = some t ∧ p = (t, HO.tup [x, y]) ∧ RelV x u ∧ RelV y v ∧ IsPair g t u v := fun p m => by
    rcases List.mem_cons.mp m with e | m
    · exact .inl e
    · obtain ⟨j, hj, e⟩ := List.mem_map.mp m
      have hj := List.mem_range.mp hj
      have ht : ts[j]? = some ts[j] := List.getElem?_eq_getElem hj
      obtain ⟨x, y, u, v, q1, q2, r1, r2, ip⟩ := pair j _ ht
      refine .inr ⟨j, ts[j], x, y, u, v, ht, ?_, r1, r2, ip⟩
      rw [← e, List.getD_eq_getElem?_getD, List.getD_eq_getElem?_getD, List.getD_eq_getElem?_getD, ht, q1, q2]
      rfl
  have I2 : Inv X pins σ (updAll H1 L) { s1 with heap := g, toks := s1.toks } := laidAll I1 kp (fun p m => by
      rcases eachL p m with e | ⟨j, t, x, y, u, v, ht, e, _⟩
      · rw [e]; show s1.heap.objs.size ≤ h'.objs.size; omega
      · rw [e]; show s1.heap.objs.size ≤ t; have := n0 (List.mem_of_getElem? ht); omega) fun p m => by
      rcases eachL p m with e | ⟨j, t, x, y, u, v, ht, e, r1, r2, ip⟩
      · rw [e]
        refine ⟨by rw [List.length_map, lts, List.size_toArray, la]; exact hza, ts.map Value.ref, c, refsVals ts, ?_⟩
        rw [← eacc]
        exact gS
      · rw [e]
        exact ⟨by show 2 ≤ sizeLine; decide, [u, v], .cons r1 (.cons r2 .nil), ⟨_, ip, rfl, _, rfl⟩⟩
  have at' : ∀ {b : Addr} {o : HO}, (b, o) ∈ L → updAll H1 L b = some o := fun m => by unfold updAll; rw [lookup_at nd m]
  refine ⟨.ref h'.objs.size, updAll H1 L, I2, rfl, q1 _ ts _ (fun b o q => ?_) freshS freshT (at' List.mem_cons_self) (by rw [lts, List.size_toArray, la]) fun j t hj => ?_⟩
  · rw [updAll_none fun p m z => ?_]
    · exact q
    · rcases eachL p m with e | ⟨j, t, x, y, u, v, ht, e, _⟩
      · rw [e] at z; rw [← z, freshS] at q; cases q
      · rw [e] at z; rw [← z, freshT t (List.mem_of_getElem? ht)] at q; cases q
  · obtain ⟨x, y, u, v, q1, q2, r1, r2, ip⟩ := pair j t hj
    exact ⟨x, y, q1, q2, at' (memP hj q1 q2)⟩
end
end DW

namespace K0
open PySem PySem.Spec PyProof.Rows L2 DW RZ
/-! ### small items, and what is made of them -/
structure It (e : PyData) : Prop where
  lay : e.canLay0 = true
  short : e.leavesShort 50 = true
  wt : e.weight ≤ 300
  dep : e.depth ≤ 1
  sho : e.showable = true
  ok : okB 1 e = true
theorem its_lay : ∀ {ds : List PyData}, (∀ e ∈ ds, It e) → PyData.canLayAll0 ds = true
  | [], _ => by simp [PyData.canLayAll0]
  | d :: r, h => by simp only [PyData.canLayAll0, (h d (by simp)).lay, Bool.true_and]; exact its_lay fun e m => h e (List.mem_cons_of_mem _ m)
theorem its_short : ∀ {ds : List PyData}, (∀ e ∈ ds, It e) → PyData.leavesShortAll 50 ds = true
  | [], _ => by simp [PyData.leavesShortAll]
  | d :: r, h => by simp only [PyData.leavesShortAll, (h d (by simp)).short, Bool.true_and]; exact its_short fun e m => h e (List.mem_cons_of_mem _ m)
theorem its_sho : ∀ {ds : List PyData}, (∀ e ∈ ds, It e) → PyData.showableAll ds = true
  | [], _ => by simp [PyData.showableAll]
  | d :: r, h => by simp only [PyData.showableAll, (h d (by simp)).sho, Bool.true_and]; exact its_sho fun e m => h e (List.mem_cons_of_mem _ m)
theorem its_dep : ∀ {ds : List PyData}, (∀ e ∈ ds, It e) → PyData.depthAll ds ≤ 1
  | [], _ => by simp [PyData.depthAll]
  | d :: r, h => by
    have a := (h d (by simp)).dep
    have b := its_dep fun e m => h e (List.mem_cons_of_mem _ m)
    simp only [PyData.depthAll]
    omega
theorem its_wt : ∀ {ds : List PyData}, (∀ e ∈ ds, It e) → PyData.weightAll ds ≤ 301 * ds.length
  | [], _ => by simp [PyData.weightAll]
  | d :: r, h => by
    have a := (h d (by simp)).wt
    have b := its_wt fun e m => h e (List.mem_cons_of_mem _ m)
    simp only [PyData.weightAll, List.length_cons]
    omega
theorem its_ok {ds : List PyData} (h : ∀ e ∈ ds, It e) (hl : ds.length ≤ 1000) : okB 2 (.tuple ds) = true := by
  simp only [okB, Bool.and_eq_true, decide_eq_true_eq, List.all_eq_true]
  exact ⟨hl, fun e m => (h e m).ok⟩
theorem shown_50 {d : PyData} {n : Nat} (h : d.leavesShort 50 = true) (hw : d.weight ≤ n) (hn : n ≤ 310000) : d.shown.length ≤ sizeLine := by
  have a := PyData.shown_le 50 (by decide) d h
  have b : (50 + 2) * d.weight ≤ 52 * 310000 := Nat.mul_le_mul (Nat.le_refl _) (by omega)
  rw [sizeLine_eq]
  omega
theorem fine_its {ds : List PyData} (h : ∀ e ∈ ds, It e) (hl : ds.length ≤ 1000) : Fine (.tuple ds) ∧ Fine (.list ds) := by
  have dep := its_dep h
  have wt := its_wt h
  have sh := its_short h
  have so := its_sho h
  refine ⟨fine_of ?_ (shown_50 (n := 301000) (by simp only [PyData.leavesShort]; exact sh) (by simp only [PyData.weight]; omega) (by decide)), fine_of ?_ (shown_50 (n := 301000) (by simp only [PyData.leavesShort]; exact sh) (by simp only [PyData.weight]; omega) (by decide))⟩
  · unfold fineB
    simp only [Bool.and_eq_true, decide_eq_true_eq]
    exact ⟨its_ok h hl, by simp only [PyData.showable]; exact so, by simp only [PyData.depth]; omega, its_lay h⟩
  · unfold fineB
    simp only [Bool.and_eq_true, decide_eq_true_eq]
    exact ⟨rfl, by simp only [PyData.showable]; exact so, by simp only [PyData.depth]; omega, trivial⟩
structure Nm (z : Str) : Prop where
  len : z.length ≤ 20
  ok : PyData.strOk z = true
structure Ti (i : Int) : Prop where
  lo : -(10 ^ 41) ≤ i
  hi : i ≤ 10 ^ 41
theorem ti_log {i : Int} (h : Ti i) : i.natAbs.log2 < 137 := by
  have z : i.natAbs ≤ 10 ^ 41 := by have := h.lo; have := h.hi; omega
  have a : i.natAbs < 2 ^ 137 := Nat.lt_of_le_of_lt z (by decide +kernel)
  rcases Nat.eq_zero_or_pos i.natAbs with q | q
  · rw [q]; decide
  · exact (Nat.log2_lt (by omega)).mpr a
theorem ti_short {i : Int} (h : Ti i) : (PyData.int i).leavesShort 50 = true := by
  have z : i.natAbs < 10 ^ 42 := by have := h.lo; have := h.hi; omega
  have e := int_text_length_le10 (k := 42) (by decide) z
  simp only [PyData.leavesShort, decide_eq_true_eq]
  show (Str.ofString (toString i)).length ≤ 50
  rw [PySem.ofString_length]
  omega
theorem ti_wt {i : Int} (h : Ti i) : (PyData.int i).weight ≤ 140 := by
  have l := ti_log h
  simp only [PyData.weight]
  split <;> omega
theorem ti_sho {i : Int} (h : Ti i) : (PyData.int i).showable = true := by
  have l := ti_log h
  show decide (i.natAbs.log2 < 1920) = true
  exact decide_eq_true (by omega)
theorem nm_short {z : Str} (h : Nm z) : (PyData.str z).leavesShort 50 = true := by
  have a := h.ok
  simp only [PyData.leavesShort, List.all_eq_true, decide_eq_true_eq]
  intro c hc
  unfold PyData.strOk at a
  rw [Array.all_eq_true_iff_forall_mem] at a
  have b := a c (Array.mem_toList_iff.mp hc)
  have b2 : c < 0x110000 := of_decide_eq_true b
  have e : (16 : Nat) ^ 8 = 4294967296 := by decide
  omega
theorem nm_wt {z : Str} (h : Nm z) : (PyData.str z).weight ≤ 20 := by
  have a := h.len
  have b : z.cps.size = z.length := rfl
  simp only [PyData.weight]
  omega
theorem nm_ok {z : Str} {n : Nat} (h : Nm z) : okB n (.str z) = true := by
  have a := h.len
  have b := h.ok
  cases n <;> (simp only [okB, Bool.and_eq_true, decide_eq_true_eq]; exact ⟨by omega, b⟩)
theorem it_pair {i : Int} {z : Str} (h : Ti i) (g : Nm z) : It (.tuple [.int i, .str z]) := by
  have w1 := ti_wt h
  have w2 := nm_wt g
  refine ⟨?_, ?_, ?_, ?_, ?_, ?_⟩
  · simp only [PyData.canLay0, PyData.canLayAll0, g.ok, Bool.and_self]
  · simp only [PyData.leavesShort, PyData.leavesShortAll, Bool.and_eq_true] at *
    exact ⟨ti_short h, nm_short g, trivial⟩
  · show (PyData.tuple [.int i, .str z]).weight ≤ 300
    rw [PyData.weight, PyData.weightAll, PyData.weightAll, PyData.weightAll]
    omega
  · simp [PyData.depth, PyData.depthAll]
  · simp only [PyData.showable, PyData.showableAll, Bool.and_true]
    exact ti_sho h
  · show (decide ([PyData.int i, .str z].length ≤ 1000) && [PyData.int i, .str z].all (okB 0)) = true
    simp only [List.all_cons, List.all_nil, Bool.and_true, nm_ok g]
    rfl
theorem it_tri {i : Int} {z : Str} (h : Ti i) (g : Nm z) : It (.tuple [.int i, .str z, .int 1]) := by
  have w1 := ti_wt h
  have w2 := nm_wt g
  have w3 : (PyData.int 1).weight ≤ 1 := by decide
  refine ⟨?_, ?_, ?_, ?_, ?_, ?_⟩
  · simp only [PyData.canLay0, PyData.canLayAll0, g.ok, Bool.and_self]
  · simp only [PyData.leavesShort, PyData.leavesShortAll, Bool.and_eq_true] at *
    exact ⟨ti_short h, nm_short g, by decide +kernel, trivial⟩
  · show (PyData.tuple [.int i, .str z, .int 1]).weight ≤ 300
    rw [PyData.weight, PyData.weightAll, PyData.weightAll, PyData.weightAll, PyData.weightAll]
    omega
  · simp [PyData.depth, PyData.depthAll]
  · simp only [PyData.showable, PyData.showableAll, Bool.and_true, Bool.true_and, Bool.and_eq_true]
    exact ⟨ti_sho h, by decide⟩
  · show (decide ([PyData.int i, .str z, .int 1].length ≤ 1000) && [PyData.int i, .str z, .int 1].all (okB 0)) = true
    simp only [List.all_cons, List.all_nil, Bool.and_true, nm_ok g]
    rfl
theorem it_lst {i : Int} {z : Str} (h : Ti i) (g : Nm z) : It (.list [.int i, .str z]) := by
  have w1 := ti_wt h
  have w2 := nm_wt g
  refine ⟨?_, ?_, ?_, ?_, ?_, rfl⟩
  · simp only [PyData.canLay0, PyData.canLayAll0, g.ok, Bool.and_self]
  · simp only [PyData.leavesShort, PyData.leavesShortAll, Bool.and_eq_true] at *
    exact ⟨ti_short h, nm_short g, trivial⟩
  · show (PyData.list [.int i, .str z]).weight ≤ 300
    rw [PyData.weight, PyData.weightAll, PyData.weightAll, PyData.weightAll]
    omega
  · simp [PyData.depth, PyData.depthAll]
  · simp only [PyData.showable, PyData.showableAll, Bool.and_true]
    exact ti_sho h
theorem it_true : It (.tuple [.bool true, .str "a"]) := ⟨by decide +kernel, by decide +kernel, by decide +kernel, by decide +kernel, by decide +kernel, by decide +kernel⟩
theorem it_none : It .none := ⟨by decide +kernel, by decide +kernel, by decide +kernel, by decide +kernel, by decide +kernel, by decide +kernel⟩
theorem it_neg : It (.tuple [.int (-1), .str "a"]) := it_pair ⟨by decide, by decide⟩ ⟨by decide +kernel, by decide +kernel⟩
theorem nm_all {z : Str} (h : z ∈ (["a", "b.1", "c", "go", "in", "off", "x2"] : List Str)) : Nm z := by
  simp only [List.mem_cons, List.not_mem_nil, or_false] at h
  rcases h with rfl | rfl | rfl | rfl | rfl | rfl | rfl <;> exact ⟨by decide +kernel, by decide +kernel⟩
end K0

namespace K0
open PySem PySem.Spec PyProof.Rows L2 DW RZ
abbrev sDrawn : Stmt := top 40
section
variable {P : Program} {w : World} {K : PySem.W.Frag} {mg : Str → Option Value} {base : Heap}
theorem scDrawn : FnScope ["dice", "names", "ticks", "name", "found", "way", "at", "some"] ["dice"] (defScope sDrawn) := ⟨rfl, rfl, rfl, by decide +kernel, rfl, by decide +kernel, by decide +kernel⟩

/-! ### what is drawn, step by step -/
def Pr (m : Int) (H : Hp) (b : V × PyData) : Prop := ∃ (t : Addr) (i : Int) (z : Str), b = (V.ref t, PyData.tuple [.int i, .str z]) ∧ H t = some (.tup [.int i, .str z]) ∧ 0 ≤ i ∧ i ≤ 10 ^ 34 + m ∧ Nm z
structure Fd (m : Int) (B0 H : Hp) (D L : Addr) (bs : List (V × PyData)) : Prop where
  ne : L ≠ D
  at_ : H L = some (.lst (bs.map (·.1)))
  each : ∀ b ∈ bs, Pr m H b
  len : (bs.length : Int) ≤ 7 + m
  fr : B0 L = none
theorem tup_ne {H : Hp} {D t : Addr} {xs : List V} (hD : Dc H D) (h : H t = some (.tup xs)) : t ≠ D := by
  obtain ⟨d0, d1, d2, z⟩ := hD
  rintro rfl
  rw [z] at h
  cases h
theorem Pr.but {m : Int} {H H' : Hp} {D : Addr} {b : V × PyData} (hD : Dc H D) (k : But D H H') (h : Pr m H b) : Pr m H' b := by
  obtain ⟨t, i, z, e, ht, r⟩ := h
  exact ⟨t, i, z, e, k _ _ (tup_ne hD ht) ht, r⟩
theorem Fd.but {B0 : Hp} {m : Int} {H H' : Hp} {D L : Addr} {bs : List (V × PyData)} (hD : Dc H D) (k : But D H H') (h : Fd m B0 H D L bs) : Fd m B0 H' D L bs := ⟨h.ne, k _ _ h.ne h.at_, fun b q => (h.each b q).but hD k, h.len, h.fr⟩
theorem Fd.dp {B0 : Hp} {m : Int} {H : Hp} {D L : Addr} {bs : List (V × PyData)} (h : Fd m B0 H D L bs) : ∀ b ∈ bs, Dp K H b.1 b.2 := fun b q => by
  obtain ⟨t, i, z, rfl, ht, _⟩ := h.each b q
  exact .tup (SqT.of ht) (.cons (.int i) (.cons (.str z) .nil))
theorem all_dp : ∀ {H : Hp} {bs : List (V × PyData)}, (∀ b ∈ bs, Dp K H b.1 b.2) → DpAll K H (bs.map (·.1)) (bs.map (·.2))
  | _, [], _ => .nil
  | _, b :: r, h => .cons (h b (by simp)) (all_dp fun c q => h c (List.mem_cons_of_mem _ q))
theorem Pr.it {m : Int} {H : Hp} {b : V × PyData} (hm : m ≤ 10) (h : Pr m H b) : It b.2 := by
  obtain ⟨t, i, z, rfl, _, h1, h2, g⟩ := h
  exact it_pair ⟨by omega, by omega⟩ g
abbrev tPw (n : Int) : TE := tOp (rI (fun i j => 0 ≤ j ∧ (Builtin.Int.intBits i : Int) * j ≤ 2 ^ 27) fun i j => .int (i ^ j.toNat)) (tC (.int 10)) (tC (.int n))
abbrev tS1 (K : PySem.W.Frag) : TE := L2.tSl (rSlL K) (tCall spShuf [] E0 (tCons (tVar 0) (tCons (tLst (tCons (tC (.str "a")) (tCons (tC (.str "b.1")) (tCons (tC (.str "c")) (tCons (tC (.str "go")) (tCons (tC (.str "in")) (tCons (tC (.str "off")) (tCons (tC (.str "x2")) tNil)))))))) tNil))) tNoPart (tPart (tRl (tC (.int 6))))
theorem rs_1 {H : Hp} {D : Addr} {r : L2.St} {Q : VK} (hD : Dc H D) (k : ∀ (L : Addr) (zs : List Str) (H' : Hp), L ≠ D → H' L = some (.lst (zs.map V.str)) → zs.length ≤ 5 → (∀ z ∈ zs, Nm z) → But D H H' → Dc H' D → Q (.ref L) H') : tS1 K (some (.ref D) :: r) H Q := by
  refine ⟨_, rfl, by show 7 ≤ sizeLine; decide, fun p np => ?_⟩
  have s1 := same_new (o := .lst [.str "a", .str "b.1", .str "c", .str "go", .str "in", .str "off", .str "x2"]) np
  refine ⟨D, p, ["a", "b.1", "c", "go", "in", "off", "x2"], rfl, hD.same s1, new_ne hD np, upd_same, by decide, fun L zs H1 ne hL hl hm b1 d1 => ?_⟩
  refine rd_rl (n := 6) rfl d1 (by decide) (by decide) fun a H2 a0 a1 b2 d2 => ?_
  have hL2 := b2 _ _ ne hL
  refine ⟨a, rfl, L, _, rfl, SqL.of hL2, fun g ng => ?_⟩
  have s3 := same_new (o := .lst (cutV (zs.map V.str) none (some a))) ng
  have ec : cutV (zs.map V.str) none (some a) = ((zs.drop (HT.sIx (zs.map V.str).length 0 none)).take (HT.sIx (zs.map V.str).length (zs.map V.str).length (some a) - HT.sIx (zs.map V.str).length 0 none)).map V.str := by
    unfold cutV
    rw [List.map_take, List.map_drop]
  have i0 : HT.sIx (zs.map V.str).length 0 none = 0 := HT.sIx_none _ _
  obtain ⟨n, rfl⟩ : ∃ n : Nat, a = n := ⟨a.toNat, by omega⟩
  have i1 : HT.sIx (zs.map V.str).length (zs.map V.str).length (some (n : Int)) = min n (zs.map V.str).length := HT.sIx_nat _ _ _
  refine k g ((zs.drop (HT.sIx (zs.map V.str).length 0 none)).take (HT.sIx (zs.map V.str).length (zs.map V.str).length (some (n : Int)) - HT.sIx (zs.map V.str).length 0 none)) _ (new_ne d2 ng) ?_ ?_ (fun z m => nm_all (hm z (List.mem_of_mem_drop (List.mem_of_mem_take m)))) ((Same.but s1).trans (b1.trans (b2.trans (Same.but s3)))) (d2.same s3)
  · rw [upd_same, ec]
  · rw [List.length_take, i0, i1]
    omega
abbrev tS2 (K : PySem.W.Frag) : TE := tLc (iList K (tVar 1)) (gName 3) tYes (tPk K (tLst (tCons (tC (.int 0)) (tCons (tC (.int 1)) (tCons (tC (.int 1)) (tCons (tC (.int 2)) (tCons (tC (.int 7)) (tCons (tPw 30) (tCons (tPw 34) tNil))))))))) [3]
theorem rs_2 {H : Hp} {D L : Addr} {zs : List Str} {x2 x3 x4 x5 x6 x7 : Option V} {Q : VK} (hD : Dc H D) (ne : L ≠ D) (hL : H L = some (.lst (zs.map V.str))) (hl : zs.length ≤ 5)
    (k : ∀ (M : Addr) (is : List Int) (H' : Hp), M ≠ D → H' M = some (.lst (is.map V.int)) → is.length = zs.length → (∀ i ∈ is, 0 ≤ i ∧ i ≤ 10 ^ 34) → But D H H' → Dc H' D → Q (.ref M) H') : tS2 K [some (.ref D), some (.ref L), x2, x3, x4, x5, x6, x7] H Q := by
  refine ⟨_, rfl, L, rfl, ⟨_, SqL.of hL⟩, fun M nM => ?_⟩
  have neM := new_ne hD nM
  refine lc_list (K := K) (xs := zs.map V.str) (fun i H' => But D H H' ∧ Dc H' D ∧ ∃ is : List Int, H' M = some (.lst (is.map V.int)) ∧ is.length = i ∧ ∀ j ∈ is, 0 ≤ j ∧ j ≤ 10 ^ 34) ⟨Same.but (same_new nM), hD.same (same_new nM), [], upd_same, rfl, fun j h => by cases h⟩ (fun i H' _ p => SqL.of (p.1 _ _ ne hL))
    (fun i x H' hx p => ⟨rfl, tyes ?_⟩) (fun H' p => ?_)
  · obtain ⟨b, d, is, hi, hln, hg⟩ := p
    have hi5 : i < zs.length := by
      rcases Nat.lt_or_ge i zs.length with q | q
      · exact q
      · rw [List.getElem?_eq_none (by rw [List.length_map]; exact q)] at hx; cases hx
    refine ⟨_, rfl, _, _, rfl, rfl, ⟨by decide, by decide +kernel⟩, _, _, rfl, rfl, ⟨by decide, by decide +kernel⟩, by show 7 ≤ sizeLine; decide, fun p np => ?_⟩
    have s1 := same_new (o := .lst [.int 0, .int 1, .int 1, .int 2, .int 7, .int (10 ^ Int.toNat 30), .int (10 ^ Int.toNat 34)]) np
    refine ⟨D, _, rfl, d.same s1, .inl ⟨p, _, rfl, new_ne d np, upd_same, by show 0 < 7; decide, by show 7 < 1000; decide, fun u H2 hu b2 d2 => ?_⟩⟩
    have hu2 : ∃ e : Int, u = .int e ∧ 0 ≤ e ∧ e ≤ 10 ^ 34 := by
      simp only [List.mem_cons, List.not_mem_nil, or_false] at hu
      rcases hu with rfl | rfl | rfl | rfl | rfl | rfl | rfl <;> exact ⟨_, rfl, by decide +kernel, by decide +kernel⟩
    obtain ⟨e, rfl, e0, e1⟩ := hu2
    have hM2 := b2 _ _ neM (s1 _ _ hi)
    have bb : But D H H2 := b.trans ((Same.but s1).trans b2)
    refine ⟨_, hM2, by rw [List.length_map, sizeLine_eq]; omega, ?_, ?_, is ++ [e], ?_, by rw [List.length_append, hln]; rfl, ?_⟩
    · intro q o hq ee
      rw [upd_ne (ne_of_none ee nM)]
      exact bb q o hq ee
    · obtain ⟨f0, f1, f2, ee⟩ := d2
      exact ⟨f0, f1, f2, by rw [upd_ne (Ne.symm neM)]; exact ee⟩
    · rw [upd_same, List.map_append]
      rfl
    · intro j m
      rcases List.mem_append.mp m with m | m
      · exact hg j m
      · rw [List.mem_singleton.mp m]
        exact ⟨e0, e1⟩
  · obtain ⟨b, d, is, hi, hln, hg⟩ := p
    rw [List.length_map] at hln
    exact k M is H' neM hi hln hg b d
theorem fr_of {B0 H : Hp} {D p : Addr} (b0 : But D B0 H) (hD : Dc H D) (np : H p = none) : B0 p = none := by
  cases e : B0 p with
  | none => rfl
  | some o =>
    have z := b0 p o (new_ne hD np) e
    rw [np] at z
    cases z
theorem sort_ready {m : Int} {H : Hp} {bs : List (V × PyData)} (h : ∀ b ∈ bs, Pr m H b) : PySem.W.AllAlike (bs.map (·.2)) ∧ PySem.W.Sortable (bs.map (·.2)) ∧ ∀ b ∈ bs, b.2.depth ≤ 50 := by
  have pr : ∀ d ∈ bs.map (·.2), ∃ i z, d = PyData.tuple [.int i, .str z] := fun d hd => by
    obtain ⟨b, hb, rfl⟩ := List.mem_map.mp hd
    obtain ⟨t, i, z, rfl, _⟩ := h b hb
    exact ⟨i, z, rfl⟩
  refine ⟨fun d hd d' hd' => ?_, .inl fun d hd => ?_, fun b hb => ?_⟩
  · obtain ⟨i, z, rfl⟩ := pr d hd
    obtain ⟨j, y, rfl⟩ := pr d' hd'
    simp [PySem.W.alike, PySem.W.alikeAll]
  · obtain ⟨i, z, rfl⟩ := pr d hd
    exact ⟨_, _, rfl⟩
  · obtain ⟨t, i, z, rfl, _⟩ := h b hb
    simp [PyData.depth, PyData.depthAll]
theorem rd_sort {B0 : Hp} {m : Int} {H : Hp} {D l : Addr} {bs : List (V × PyData)} {Q : VK} (b0 : But D B0 H) (hD : Dc H D) (hs : SqL K H l (bs.map (·.1))) (he : ∀ b ∈ bs, Pr m H b) (hm : m ≤ 10) (hl : (bs.length : Int) ≤ 7 + m) (k : ∀ (F : Addr) (cs : List (V × PyData)) (H' : Hp), Fd m B0 H' D F cs → Same H H' → Q (.ref F) H') : rSortDat K [.ref l] H Q := by
  obtain ⟨a1, a2, a3⟩ := sort_ready he
  have dp : ∀ b ∈ bs, Dp K H b.1 b.2 := fun b q => by
    obtain ⟨t, i, z, rfl, ht, _⟩ := he b q
    exact .tup (SqT.of ht) (.cons (.int i) (.cons (.str z) .nil))
  refine ⟨l, bs, rfl, hs, dp, a1, a2, by omega, a3, fun cs p perm np => ?_⟩
  have s1 := same_new (o := .lst (cs.map (·.1))) np
  refine k p cs _ ⟨new_ne hD np, upd_same, fun b q => ?_, by rw [perm.length_eq]; exact hl, fr_of b0 hD np⟩ s1
  obtain ⟨t, i, z, e, ht, r⟩ := he b (perm.mem_iff.mp q)
  exact ⟨t, i, z, e, s1 _ _ ht, r⟩
abbrev tS3 (K : PySem.W.Frag) : TE := tCB (rSortDat K) (tCons (tLZip K (tCons (tVar 2) (tCons (tVar 1) tNil))) tNil)
theorem rs_3 {B0 : Hp} {H : Hp} {D L M : Addr} {zs : List Str} {is : List Int} {x3 x4 x5 x6 x7 : Option V} {Q : VK} (b0 : But D B0 H) (hD : Dc H D) (hL : H L = some (.lst (zs.map V.str))) (hM : H M = some (.lst (is.map V.int))) (le : is.length = zs.length) (hl : zs.length ≤ 5) (hz : ∀ z ∈ zs, Nm z) (hi : ∀ i ∈ is, 0 ≤ i ∧ i ≤ 10 ^ 34)
    (k : ∀ (F : Addr) (bs : List (V × PyData)) (H' : Hp), Fd 0 B0 H' D F bs → But D H H' → Dc H' D → Q (.ref F) H') : tS3 K [some (.ref D), some (.ref L), some (.ref M), x3, x4, x5, x6, x7] H Q := by
  refine ⟨_, rfl, _, rfl, M, L, is.map V.int, zs.map V.str, rfl, SqL.of hM, SqL.of hL, by rw [List.length_map, List.length_map, le], fun l ts H2 s2 nl nts hl2 lts pr => ?_⟩
  rw [List.length_map] at lts
  have hp : ∀ (j : Nat) (t : Addr), ts[j]? = some t → ∃ i z, is[j]? = some i ∧ zs[j]? = some z ∧ H2 t = some (.tup [.int i, .str z]) := fun j t hj => by
    obtain ⟨x, y, e1, e2, e3⟩ := pr j t hj
    rw [List.getElem?_map] at e1 e2
    obtain ⟨i, q1, rfl⟩ := Option.map_eq_some_iff.mp e1
    obtain ⟨z, q2, rfl⟩ := Option.map_eq_some_iff.mp e2
    exact ⟨i, z, q1, q2, e3⟩
  have e1 : ((List.range ts.length).map fun j => (V.ref (ts.getD j 0), PyData.tuple [.int (is.getD j 0), .str (zs.getD j "")])).map (·.1) = ts.map V.ref := by
    rw [List.map_map]
    apply List.ext_getElem?
    intro j
    rw [List.getElem?_map, List.getElem?_map]
    by_cases q : j < ts.length
    · rw [List.getElem?_range q, List.getElem?_eq_getElem q]
      show some (V.ref (ts.getD j 0)) = _
      rw [List.getD_eq_getElem?_getD, List.getElem?_eq_getElem q]
      rfl
    · rw [List.getElem?_eq_none (by simpa using q), List.getElem?_eq_none (by simpa using q)]
      rfl
  have dB : Dc H2 D := hD.same s2
  refine rd_sort (K := K) (m := 0) (bs := (List.range ts.length).map fun j => (V.ref (ts.getD j 0), PyData.tuple [.int (is.getD j 0), .str (zs.getD j "")])) (b0.trans (Same.but s2)) dB (by rw [e1]; exact SqL.of hl2) (fun b hb => ?_) (by decide) (by rw [List.length_map, List.length_range]; omega) fun F cs H' f s3 => k F cs H' f (Same.but (s2.trans s3)) (dB.same s3)
  obtain ⟨j, hj, rfl⟩ := List.mem_map.mp hb
  have hj := List.mem_range.mp hj
  have ht : ts[j]? = some ts[j] := List.getElem?_eq_getElem hj
  obtain ⟨i, z, q1, q2, q3⟩ := hp j _ ht
  obtain ⟨b0, b1⟩ := hi i (List.mem_of_getElem? q1)
  refine ⟨ts[j], i, z, ?_, q3, b0, by omega, hz z (List.mem_of_getElem? q2)⟩
  rw [List.getD_eq_getElem?_getD, List.getD_eq_getElem?_getD, List.getD_eq_getElem?_getD, ht, q1, q2]
  rfl
abbrev tWay (K : PySem.W.Frag) (n : Int) : TT := tAnd (tTest (tOp rEq (tVar 5) (tC (.int n)))) (tTest (tOp (rNeD K) (tVar 4) (tLst tNil)))
theorem rd_way {B0 : Hp} {n a m : Int} {H : Hp} {D F : Addr} {bs : List (V × PyData)} {σ : L2.St} {R : Bool → Hp → Prop} (h4 : σ[4]? = some (some (.ref F))) (h5 : σ[5]? = some (some (.int a))) (hm : m ≤ 10) (f : Fd m B0 H D F bs) (yes : ∀ H', Same H H' → bs ≠ [] → R true H') (no : ∀ H', Same H H' → R false H') : tWay K n σ H R := by
  refine ⟨_, h5, rfl, _, rfl, ?_⟩
  by_cases q : V.int a = V.int n
  · rw [decide_eq_true q]
    refine iteT ⟨_, h4, by show 0 ≤ sizeLine; decide, fun p np => ?_⟩
    have s1 := same_new (o := .lst []) np
    have its : ∀ e ∈ bs.map (·.2), It e := fun e he => by
      obtain ⟨b, hb, rfl⟩ := List.mem_map.mp he
      exact (f.each b hb).it hm
    refine ⟨.list (bs.map (·.2)), .list [], .lst (SqL.of (s1 _ _ f.at_)) (DpAll.same s1 (all_dp f.dp)), .lst (SqL.of upd_same) .nil, shaped_list (its_lay its) (by have := its_dep its; omega), by kernel_rfl, _, rfl, ?_⟩
    rw [eqvL_nil]
    cases bs with
    | nil => exact no _ s1
    | cons b r => exact yes _ s1 (by simp)
  · rw [decide_eq_false q]
    exact iteF (no _ (Same.refl H))
abbrev tI5 (K : PySem.W.Frag) : TS := tIfS (tWay K 0) (tAsg (tRevL K (tVar 4)) (gName 4)) tNext
theorem rs_5 {B0 : Hp} {t : TS} {Dd : Ends} {H : Hp} {D F : Addr} {m a : Int} {bs : List (V × PyData)} {x1 x2 x3 x6 x7 : Option V} (b0 : But D B0 H) (hD : Dc H D) (hm : m ≤ 10) (f : Fd m B0 H D F bs)
    (k : ∀ (G : Addr) (cs : List (V × PyData)) (H' : Hp), Fd m B0 H' D G cs → But D H H' → Dc H' D → t Dd [some (.ref D), x1, x2, x3, some (.ref G), some (.int a), x6, x7] H') : tSeq (tI5 K) t Dd [some (.ref D), x1, x2, x3, some (.ref F), some (.int a), x6, x7] H := by
  show tIfS _ _ _ { Dd with nx := t Dd } _ _
  refine rd_way (K := K) (n := 0) rfl rfl hm f (fun H1 s1 ne => iteT ?_) fun H1 s1 => iteF (k F bs H1 (f.but hD (Same.but s1)) (Same.but s1) (hD.same s1))
  have f1 := f.but hD (Same.but s1)
  refine ⟨_, rfl, F, _, rfl, SqL.of f1.at_, fun g ng => ?_⟩
  have d1 := hD.same s1
  have s2 := same_new (o := .lst (bs.map (·.1)).reverse) ng
  refine k g bs.reverse _ ⟨new_ne d1 ng, by rw [upd_same, List.map_reverse], fun b q => ((f1.each b (List.mem_reverse.mp q)).but d1 (Same.but s2)), by rw [List.length_reverse]; exact f1.len, fr_of (b0.trans (Same.but s1)) d1 ng⟩ ((Same.but s1).trans (Same.but s2)) (d1.same s2)
abbrev tI6 (K : PySem.W.Frag) : TS := tIfS (tWay K 1) (tAsg (tCB (rSortDat K) (tCons (tOp rCat (tVar 4) (tLst (tCons (tTup (tCons (tOp (rI0 fun i j => .int (i + j)) (tOp (rIxT K) (tOp (rIxL K) (tVar 4) (tC (.int 0))) (tC (.int 0))) (tC (.int 1)))
  (tCons (tOp (rIxT K) (tOp (rIxL K) (tVar 4) (tC (.int 0))) (tC (.int 1))) tNil))) tNil))) tNil)) (gName 4)) tNext
theorem rs_6 {B0 : Hp} {t : TS} {Dd : Ends} {H : Hp} {D F : Addr} {a : Int} {bs : List (V × PyData)} {x1 x2 x3 x6 x7 : Option V} (b0 : But D B0 H) (hD : Dc H D) (f : Fd 0 B0 H D F bs)
    (k : ∀ (G : Addr) (cs : List (V × PyData)) (H' : Hp), Fd 1 B0 H' D G cs → But D H H' → Dc H' D → t Dd [some (.ref D), x1, x2, x3, some (.ref G), some (.int a), x6, x7] H') : tSeq (tI6 K) t Dd [some (.ref D), x1, x2, x3, some (.ref F), some (.int a), x6, x7] H := by
  show tIfS _ _ _ { Dd with nx := t Dd } _ _
  have lift : ∀ {H : Hp} {b : V × PyData}, Pr 0 H b → Pr 1 H b := fun ⟨t, i, z, e, ht, h1, h2, g⟩ => ⟨t, i, z, e, ht, h1, by omega, g⟩
  refine rd_way (K := K) (n := 1) rfl rfl (by decide) f (fun H1 s1 ne => iteT ?_) fun H1 s1 => iteF (k F bs H1 ?_ (Same.but s1) (hD.same s1))
  · have f1 := f.but hD (Same.but s1)
    have d1 := hD.same s1
    obtain ⟨b, r, rfl⟩ : ∃ b r, bs = b :: r := by
      cases bs with
      | nil => exact absurd rfl ne
      | cons b r => exact ⟨b, r, rfl⟩
    obtain ⟨t0, i, z, rfl, ht, i0, i1, gz⟩ := f1.each b (by simp)
    have fs := SqL.of (K := K) f1.at_
    refine ⟨_, rfl, _, rfl, F, _, 0, .ref t0, rfl, rfl, fs, atI_nat (j := 0) rfl, t0, _, 0, .int i, rfl, rfl, SqT.of ht, rfl, _, _, rfl, rfl, ?_⟩
    refine ⟨_, rfl, F, _, 0, .ref t0, rfl, rfl, fs, atI_nat (j := 0) rfl, t0, _, 1, .str z, rfl, rfl, SqT.of ht, rfl, by show 2 ≤ sizeLine; decide, fun p np => ⟨by show 1 ≤ sizeLine; decide, fun q nq => ?_⟩⟩
    have s2 := same_new (o := .tup [.int (i + 1), .str z]) np
    have s3 := same_new (o := .lst [.ref p]) nq
    have s23 := s2.trans s3
    have hF3 := s23 _ _ f1.at_
    refine ⟨F, q, _, _, rfl, rfl, hF3, upd_same, ?_, fun c nc => ?_⟩
    · have := f1.len
      rw [List.length_map, sizeLine_eq]
      simp only [List.length_cons, List.length_nil] at *
      omega
    · have s4 := same_new (o := .lst (((V.ref t0, PyData.tuple [.int i, .str z]) :: r).map (·.1) ++ [.ref p])) nc
      have s24 := s23.trans s4
      refine rd_sort (K := K) (Q := fun x H' => t Dd [some (.ref D), x1, x2, x3, some x, some (.int a), x6, x7] H') (m := 1) (bs := ((V.ref t0, PyData.tuple [.int i, .str z]) :: r) ++ [(V.ref p, PyData.tuple [.int (i + 1), .str z])]) (b0.trans ((Same.but s1).trans (Same.but s24))) (d1.same s24) (SqL.of (by rw [upd_same, List.map_append]; rfl)) (fun b hb => ?_) (by decide) ?_ fun G cs H' g s5 => ?_
      · rcases List.mem_append.mp hb with m | m
        · exact lift ((f1.each b m).but d1 (Same.but s24))
        · rw [List.mem_singleton.mp m]
          exact ⟨p, i + 1, z, rfl, s4 _ _ (s3 _ _ upd_same), by omega, by omega, gz⟩
      · have := f1.len
        rw [List.length_append]
        simp only [List.length_cons, List.length_nil] at *
        omega
      · exact k G cs H' g ((Same.but s1).trans ((Same.but s24).trans (Same.but s5))) ((d1.same s24).same s5)
  · have f1 := f.but hD (Same.but s1)
    exact ⟨f1.ne, f1.at_, fun b q => lift (f1.each b q), by have := f1.len; omega, f1.fr⟩
/-- a list of small items -/
structure Gd (H : Hp) (D F : Addr) (xs : List V) (ds : List PyData) : Prop where
  ne : F ≠ D
  at_ : H F = some (.lst xs)
  q : DqAll H D xs ds
  it : ∀ e ∈ ds, It e
  len : ds.length ≤ 20
theorem dq_pair {H : Hp} {D t : Addr} {i : Int} {z : Str} (h : H t = some (.tup [.int i, .str z])) : Dq H D (.ref t) (.tuple [.int i, .str z]) := .tup h (.cons (.int i) (.cons (.str z) .nil))
theorem dqAll_pt {H : Hp} {D : Addr} : ∀ {xs : List V} {ds : List PyData}, xs.length = ds.length → (∀ (j : Nat) (v : V) (e : PyData), xs[j]? = some v → ds[j]? = some e → Dq H D v e) → DqAll H D xs ds
  | [], [], _, _ => .nil
  | [], _ :: _, h, _ => by simp at h
  | _ :: _, [], h, _ => by simp at h
  | x :: xs, d :: ds, h, k => .cons (k 0 x d rfl rfl) (dqAll_pt (by simpa using h) fun j v e h1 h2 => k (j + 1) v e (by simpa using h1) (by simpa using h2))
theorem Fd.gd {B0 : Hp} {m : Int} {H : Hp} {D F : Addr} {bs : List (V × PyData)} (hm : m ≤ 10) (f : Fd m B0 H D F bs) : Gd H D F (bs.map (·.1)) (bs.map (·.2)) := by
  refine ⟨f.ne, f.at_, dqAll_pt (by rw [List.length_map, List.length_map]) fun j v e h1 h2 => ?_, fun e he => ?_, by have := f.len; rw [List.length_map]; omega⟩
  · rw [List.getElem?_map] at h1 h2
    obtain ⟨b, q, rfl⟩ := Option.map_eq_some_iff.mp h1
    rw [q] at h2
    cases h2
    obtain ⟨t, i, z, rfl, ht, _⟩ := f.each b (List.mem_of_getElem? q)
    exact dq_pair ht
  · obtain ⟨b, hb, rfl⟩ := List.mem_map.mp he
    exact (f.each b hb).it hm
abbrev rLs (K : PySem.W.Frag) : List V → Hp → VK → Prop := fun xs H Q => ∃ p ys, xs = [.ref p] ∧ (SqL K H p ys ∨ SqT K H p ys) ∧ ∀ l, H l = none → Q (.ref l) (upd H l (.lst ys))
abbrev rLn (K : PySem.W.Frag) : List V → Hp → VK → Prop := fun xs H Q => ∃ p ys, xs = [.ref p] ∧ (SqL K H p ys ∨ SqT K H p ys) ∧ Q (.int ys.length) H
abbrev tIt (K : PySem.W.Frag) : TE := tOp (rIxL K) (tVar 4) (tVar 6)
abbrev tSome (K : PySem.W.Frag) : TE := tLst (tCons (tTup (tCons (tC (.bl true)) (tCons (tC (.str "a")) tNil))) (tCons (tTup (tCons (tOp (rIxT K) (tIt K) (tC (.int 0))) (tCons (tC (.str "dawn")) tNil))) (tCons (tCB (rLs K) (tCons (tIt K) tNil))
  (tCons (tOp (rCatT K) (tIt K) (tTup (tCons (tC (.int 1)) tNil))) (tCons (tTup (tCons (tUn (rU fun i => .int (-i)) (tC (.int 1))) (tCons (tC (.str "a")) tNil))) (tCons (tC .non) tNil))))))
abbrev tSl7 (D F : Addr) (a : Int) (x1 x2 x3 y6 y7 : Option V) : L2.St := [some (.ref D), x1, x2, x3, some (.ref F), some (.int a), y6, y7]
theorem rs_7a {B0 : Hp} {a : Int} {H : Hp} {D F : Addr} {bs : List (V × PyData)} {x1 x2 x3 x6 x7 : Option V} {Q : VK} (hD : Dc H D) (f : Fd 1 B0 H D F bs) (pos : 0 < bs.length) (k : ∀ (n : Nat) (H' : Hp), n < bs.length → But D H H' → Dc H' D → Q (.int (n : Int)) H') :
    tRl (tCB (rLn K) (tCons (tVar 4) tNil)) (tSl7 D F a x1 x2 x3 x6 x7) H Q := by
  have l8 := f.len
  refine ⟨_, rfl, _, rfl, F, _, rfl, .inl (SqL.of f.at_), sp_roll (E := E0) hD (by rw [List.length_map]; omega) (by rw [List.length_map]; omega) fun c H2 c0 c1 b2 d2 => ?_⟩
  rw [List.length_map] at c1
  obtain ⟨n, rfl⟩ : ∃ n : Nat, c = n := ⟨c.toNat, by omega⟩
  exact k n H2 (by omega) b2 d2
/-- the items among which one is picked -/
def Six (H0 H : Hp) (D F s : Addr) (i : Int) (z : Str) : Prop := ∃ t1 t2 l3 p5 t6 : Addr, Same H0 H ∧ s ≠ D ∧ l3 ≠ D ∧ l3 ≠ F ∧ H s = some (.lst [.ref t1, .ref t2, .ref l3, .ref p5, .ref t6, .non]) ∧ H t1 = some (.tup [.bl true, .str "a"]) ∧ H t2 = some (.tup [.int i, .str "dawn"]) ∧ H l3 = some (.lst [.int i, .str z]) ∧
  H p5 = some (.tup [.int i, .str z, .int 1]) ∧ H t6 = some (.tup [.int (-1), .str "a"])
theorem rs_7b {B0 : Hp} {m a : Int} {n : Nat} {H : Hp} {D F t0 : Addr} {i : Int} {z : Str} {bs : List (V × PyData)} {x1 x2 x3 x7 : Option V} {Q : VK} (hD : Dc H D) (f : Fd m B0 H D F bs) (hx : (bs.map (·.1))[n]? = some (V.ref t0)) (ht : H t0 = some (.tup [.int i, .str z]))
    (k : ∀ s H', Six H H' D F s i z → Q (.ref s) H') : tSome K (tSl7 D F a x1 x2 x3 (some (.int (n : Int))) x7) H Q := by
  refine ⟨by show 2 ≤ sizeLine; decide, fun t1 n1 => ?_⟩
  have q1 := same_new (o := .tup [.bl true, .str "a"]) n1
  have g1 := q1 _ _ f.at_
  have h1 := q1 _ _ ht
  refine ⟨_, rfl, _, rfl, F, _, _, _, rfl, rfl, SqL.of g1, atI_nat hx, t0, _, 0, .int i, rfl, rfl, SqT.of h1, rfl, by show 2 ≤ sizeLine; decide, fun t2 n2 => ?_⟩
  have q2 := same_new (o := .tup [.int i, .str "dawn"]) n2
  have g2 := q2 _ _ g1
  have h2 := q2 _ _ h1
  refine ⟨_, rfl, _, rfl, F, _, _, _, rfl, rfl, SqL.of g2, atI_nat hx, t0, _, rfl, .inr (SqT.of h2), fun l3 n3 => ?_⟩
  have q3 := same_new (o := .lst [.int i, .str z]) n3
  have g3 := q3 _ _ g2
  have h3 := q3 _ _ h2
  refine ⟨_, rfl, _, rfl, F, _, _, _, rfl, rfl, SqL.of g3, atI_nat hx, by show 1 ≤ sizeLine; decide, fun t4 n4 => ?_⟩
  have q4 := same_new (o := .tup [.int 1]) n4
  have g4 := q4 _ _ g3
  have h4 := q4 _ _ h3
  refine ⟨t0, t4, _, _, rfl, rfl, SqT.of h4, SqT.of upd_same, (by simp), by show 3 ≤ sizeLine; decide, (fun z => by cases z), fun _ p5 n5 => ?_⟩
  have q5 := same_new (o := .tup ([.int i, .str z] ++ [.int 1])) n5
  refine ⟨1, rfl, by show 2 ≤ sizeLine; decide, fun t6 n6 => ?_⟩
  have q6 := same_new (o := .tup [.int (-1), .str "a"]) n6
  refine ⟨by show 6 ≤ sizeLine; decide, fun s7 n7 => k s7 _ ?_⟩
  have q7 := same_new (o := .lst [.ref t1, .ref t2, .ref l3, .ref p5, .ref t6, .non]) n7
  refine ⟨t1, t2, l3, p5, t6, q1.trans (q2.trans (q3.trans (q4.trans (q5.trans (q6.trans q7))))), new_ne (hD.same (q1.trans (q2.trans (q3.trans (q4.trans (q5.trans q6)))))) n7, new_ne ((hD.same q1).same q2) n3, (fun e => by rw [e, g2] at n3; cases n3), upd_same,
    q7 _ _ (q6 _ _ (q5 _ _ (q4 _ _ (q3 _ _ (q2 _ _ upd_same))))), q7 _ _ (q6 _ _ (q5 _ _ (q4 _ _ (q3 _ _ upd_same)))), q7 _ _ (q6 _ _ (q5 _ _ (q4 _ _ upd_same))), q7 _ _ (q6 _ _ upd_same), q7 _ _ upd_same⟩
theorem rs_7c {B0 : Hp} {a : Int} {n : Nat} {H0 H : Hp} {D F s : Addr} {i : Int} {z : Str} {bs : List (V × PyData)} {x1 x2 x3 : Option V} {Q : VK} (hD : Dc H0 D) (f : Fd 1 B0 H0 D F bs) (ti : Ti i) (gz : Nm z) (S : Six H0 H D F s i z)
    (k : ∀ (u : V) (e : PyData) (H' : Hp), It e → (∀ G, (∀ b o, b ≠ F → H' b = some o → G b = some o) → Dq G D u e) → (∀ b o, b ≠ D → H0 b = some o → H' b = some o) → Dc H' D → Q u H') :
    tPk K (tVar 7) (tSl7 D F a x1 x2 x3 (some (.int (n : Int))) (some (.ref s))) H Q := by
  obtain ⟨t1, t2, l3, p5, t6, sm, nD, n3D, n3F, hs, a1, a2, a3, a5, a6⟩ := S
  have d7 := hD.same sm
  have g7 := sm _ _ f.at_
  refine ⟨_, rfl, _, rfl, D, _, rfl, d7, .inl ⟨s, _, rfl, nD, hs, by show 0 < 6; decide, by show 6 < 1000; decide, fun u H8 hu b8 d8 => ?_⟩⟩
  have g8 := b8 _ _ f.ne g7
  have tupF : ∀ {t : Addr} {ys : List V}, H8 t = some (.tup ys) → t ≠ F := fun h e => by rw [e, g8] at h; cases h
  have fin : ∀ e : PyData, It e → (∀ G, (∀ b o, b ≠ F → H8 b = some o → G b = some o) → Dq G D u e) → Q u H8 := fun e ie hq => k u e H8 ie hq (fun b o nb h => b8 b o nb (sm b o h)) d8
  have tp : ∀ {t : Addr} {ys : List V}, H t = some (.tup ys) → ∀ G : Hp, (∀ b o, b ≠ F → H8 b = some o → G b = some o) → G t = some (.tup ys) := fun h G kp => by
    have h8 := b8 _ _ (tup_ne d7 h) h
    exact kp _ _ (tupF h8) h8
  simp only [List.mem_cons, List.not_mem_nil, or_false] at hu
  rcases hu with rfl | rfl | rfl | rfl | rfl | rfl
  · exact fin _ it_true fun G kp => .tup (tp a1 G kp) (.cons (.bl true) (.cons (.str _) .nil))
  · exact fin _ (it_pair (z := "dawn") ti ⟨by decide +kernel, by decide +kernel⟩) fun G kp => dq_pair (tp a2 G kp)
  · exact fin _ (it_lst ti gz) fun G kp => .lst n3D (kp _ _ n3F (b8 _ _ n3D a3)) (.cons (.int i) (.cons (.str z) .nil))
  · exact fin _ (it_tri ti gz) fun G kp => .tup (tp a5 G kp) (.cons (.int i) (.cons (.str z) (.cons (.int 1) .nil)))
  · exact fin _ it_neg fun G kp => dq_pair (tp a6 G kp)
  · exact fin _ it_none fun G kp => .non
theorem gd_set {B0 : Hp} {m : Int} {n : Nat} {H0 H8 : Hp} {D F : Addr} {bs : List (V × PyData)} {u : V} {e : PyData} (hm : m ≤ 10) (hD : Dc H0 D) (f : Fd m B0 H0 D F bs) (hn : n < bs.length) (ie : It e) (hq : ∀ G, (∀ b o, b ≠ F → H8 b = some o → G b = some o) → Dq G D u e) (all8 : ∀ b o, b ≠ D → H0 b = some o → H8 b = some o) :
    Gd (upd H8 F (.lst ((bs.map (·.1)).set n u))) D F ((bs.map (·.1)).set n u) ((bs.map (·.2)).set n e) := by
  have g8 := all8 _ _ f.ne f.at_
  have tupF : ∀ {t : Addr} {ys : List V}, H8 t = some (.tup ys) → t ≠ F := fun h e => by rw [e, g8] at h; cases h
  refine ⟨f.ne, upd_same, dqAll_pt (by simp) fun j v d e1 e2 => ?_, fun d hd => ?_, by have := f.len; rw [List.length_set, List.length_map]; omega⟩
  · by_cases q : j = n
    · subst q
      rw [List.getElem?_set_self (by rw [List.length_map]; exact hn)] at e1 e2
      cases e1
      cases e2
      exact hq _ fun b o nb h => by rw [upd_ne nb]; exact h
    · rw [List.getElem?_set_ne (Ne.symm q), List.getElem?_map] at e1 e2
      obtain ⟨b, hb2, rfl⟩ := Option.map_eq_some_iff.mp e1
      rw [hb2] at e2
      cases e2
      obtain ⟨t', i', z', rfl, ht', _⟩ := f.each b (List.mem_of_getElem? hb2)
      have h8 := all8 _ _ (tup_ne hD ht') ht'
      exact dq_pair (by rw [upd_ne (tupF h8)]; exact h8)
  · rcases List.mem_or_eq_of_mem_set hd with m | rfl
    · obtain ⟨b, hb2, rfl⟩ := List.mem_map.mp m
      exact (f.each b hb2).it hm
    · exact ie
abbrev tC7 (K : PySem.W.Frag) : TS := tAsg (tPk K (tVar 7)) (gSub (tVar 4) (tVar 6) rSetL)
abbrev tI7 (K : PySem.W.Frag) : TS := tIfS (tWay K 2) (tSeq (tAsg (tRl (tCB (rLn K) (tCons (tVar 4) tNil))) (gName 6)) (tSeq (tAsg (tSome K) (gName 7)) (tC7 K))) tNext
theorem rs_7 {B0 : Hp} {t : TS} {Dd : Ends} {H : Hp} {D F : Addr} {a : Int} {bs : List (V × PyData)} {x1 x2 x3 x6 x7 : Option V} (hD : Dc H D) (f : Fd 1 B0 H D F bs)
    (k : ∀ (xs : List V) (ds : List PyData) (y6 y7 : Option V) (H' : Hp), Gd H' D F xs ds → (∀ b o, b ≠ D → b ≠ F → H b = some o → H' b = some o) → Dc H' D → t Dd (tSl7 D F a x1 x2 x3 y6 y7) H') : tSeq (tI7 K) t Dd (tSl7 D F a x1 x2 x3 x6 x7) H := by
  show tIfS _ _ _ { Dd with nx := t Dd } _ _
  refine rd_way (K := K) (n := 2) rfl rfl (by decide) f (fun H1 s1 ne => iteT ?_) fun H1 s1 => iteF (k _ _ _ _ H1 ((f.but hD (Same.but s1)).gd (by decide)) (fun b o _ _ e => s1 b o e) (hD.same s1))
  have f1 := f.but hD (Same.but s1)
  have d1 := hD.same s1
  show tRl (tCB (rLn K) (tCons (tVar 4) tNil)) (tSl7 D F a x1 x2 x3 x6 x7) H1 fun y H2 => tSeq (tAsg (tSome K) (gName 7)) (tC7 K) { Dd with nx := t Dd } (tSl7 D F a x1 x2 x3 (some y) x7) H2
  refine rs_7a (K := K) d1 f1 (List.length_pos_iff.mpr ne) fun n H2 hn b2 d2 => ?_
  have f2 := f1.but d1 b2
  have hb : bs[n]? = some bs[n] := List.getElem?_eq_getElem hn
  obtain ⟨t0, i, z, eb, ht, i0, i1, gz⟩ := f2.each bs[n] (List.getElem_mem hn)
  have hx : (bs.map (·.1))[n]? = some (V.ref t0) := by rw [List.getElem?_map, hb, eb]; rfl
  show tSome K (tSl7 D F a x1 x2 x3 (some (.int (n : Int))) x7) H2 fun y H3 => tC7 K { Dd with nx := t Dd } (tSl7 D F a x1 x2 x3 (some (.int (n : Int))) (some y)) H3
  refine rs_7b (K := K) d2 f2 hx ht fun s H3 S => ?_
  show tPk K (tVar 7) (tSl7 D F a x1 x2 x3 (some (.int (n : Int))) (some (.ref s))) H3 fun u H4 => gSub (tVar 4) (tVar 6) rSetL u (tSl7 D F a x1 x2 x3 (some (.int (n : Int))) (some (.ref s))) H4 (t Dd)
  refine rs_7c (K := K) d2 f2 ⟨by omega, by omega⟩ gz S fun u e H8 ie hq all8 d8 => ?_
  have g8 := all8 _ _ f2.ne f2.at_
  have ix : ixN (bs.map (·.1)).length (n : Int) = some n := by
    unfold ixN
    rw [if_pos (by omega), if_pos (by rw [List.length_map]; omega), Int.toNat_natCast]
  refine ⟨_, rfl, _, rfl, F, _, _, n, rfl, rfl, g8, ix, ?_⟩
  refine k _ _ _ _ _ (gd_set (by decide) d2 f2 hn ie hq all8) (fun b o nb nf h => ?_) ?_
  · rw [upd_ne nf]
    exact all8 b o nb (b2 b o nb (s1 b o h))
  · obtain ⟨e0, e1, e2, e⟩ := d8
    exact ⟨e0, e1, e2, by rw [upd_ne (Ne.symm f2.ne)]; exact e⟩
abbrev tS8 (K : PySem.W.Frag) : TE := tIf (tTest (tOp rEq (tVar 5) (tC (.int 3)))) (tCB (rLs K) (tCons (tVar 4) tNil)) (tCB (rTupOf K) (tCons (tVar 4) tNil))
theorem rs_8 {H : Hp} {D F : Addr} {a : Int} {xs : List V} {ds : List PyData} {x1 x2 x3 x6 x7 : Option V} {Q : VK} (hD : Dc H D) (g : Gd H D F xs ds) (k : ∀ v d H', Dv H' D v d → Fine d → Same H H' → Dc H' D → Q v H') : tS8 K (tSl7 D F a x1 x2 x3 x6 x7) H Q := by
  have fn := fine_its g.it (by have := g.len; omega)
  refine ⟨_, rfl, rfl, _, rfl, ite2 (fun _ => ?_) fun _ => ?_⟩
  · refine ⟨_, rfl, F, xs, rfl, .inl (SqL.of g.at_), fun l nl => ?_⟩
    have s1 := same_new (o := .lst xs) nl
    exact k _ (.list ds) _ (.inl (.lst (new_ne hD nl) upd_same (DqAll.but (Same.but s1) hD g.q))) fn.2 s1 (hD.same s1)
  · refine ⟨_, rfl, F, xs, rfl, .inl ⟨SqL.of g.at_, fun l nl => ?_⟩⟩
    have s1 := same_new (o := .tup xs) nl
    exact k _ (.tuple ds) _ (.inl (.tup upd_same (DqAll.but (Same.but s1) hD g.q))) fn.1 s1 (hD.same s1)
abbrev tDr (K : PySem.W.Frag) : TS := tSeq (tAsg (tS1 K) (gName 1)) (tSeq (tAsg (tS2 K) (gName 2)) (tSeq (tAsg (tS3 K) (gName 4)) (tSeq (tAsg (tRl (tC (.int 10))) (gName 5)) (tSeq (tI5 K) (tSeq (tI6 K) (tSeq (tI7 K) (tRet (tS8 K))))))))
theorem rs_all {Dd : Ends} {H : Hp} {D : Addr} {x1 x2 x3 x4 x5 x6 x7 : Option V} (hD : Dc H D) (k : ∀ v d H', Dv H' D v d → Fine d → But D H H' → Dc H' D → Dd.rt v H') : tDr K Dd [some (.ref D), x1, x2, x3, x4, x5, x6, x7] H := by
  show tS1 K (some (.ref D) :: [x1, x2, x3, x4, x5, x6, x7]) H fun y H1 => (tSeq (tAsg (tS2 K) (gName 2)) (tSeq (tAsg (tS3 K) (gName 4)) (tSeq (tAsg (tRl (tC (.int 10))) (gName 5)) (tSeq (tI5 K) (tSeq (tI6 K) (tSeq (tI7 K) (tRet (tS8 K)))))))) Dd [some (.ref D), some y, x2, x3, x4, x5, x6, x7] H1
  refine rs_1 (K := K) hD fun L zs H1 neL hL hl hz b1 d1 => ?_
  show tS2 K [some (.ref D), some (.ref L), x2, x3, x4, x5, x6, x7] H1 fun y H2 => (tSeq (tAsg (tS3 K) (gName 4)) (tSeq (tAsg (tRl (tC (.int 10))) (gName 5)) (tSeq (tI5 K) (tSeq (tI6 K) (tSeq (tI7 K) (tRet (tS8 K))))))) Dd [some (.ref D), some (.ref L), some y, x3, x4, x5, x6, x7] H2
  refine rs_2 (K := K) d1 neL hL hl fun M is H2 neM hM le hi b2 d2 => ?_
  show tS3 K [some (.ref D), some (.ref L), some (.ref M), x3, x4, x5, x6, x7] H2 fun y H3 => (tSeq (tAsg (tRl (tC (.int 10))) (gName 5)) (tSeq (tI5 K) (tSeq (tI6 K) (tSeq (tI7 K) (tRet (tS8 K)))))) Dd [some (.ref D), some (.ref L), some (.ref M), x3, some y, x5, x6, x7] H3
  have b12 := b1.trans b2
  refine rs_3 (K := K) b12 d2 (b2 _ _ neL hL) hM le hl hz hi fun F bs H3 f b3 d3 => ?_
  show tRl (tC (.int 10)) [some (.ref D), some (.ref L), some (.ref M), x3, some (.ref F), x5, x6, x7] H3 fun y H4 => (tSeq (tI5 K) (tSeq (tI6 K) (tSeq (tI7 K) (tRet (tS8 K))))) Dd [some (.ref D), some (.ref L), some (.ref M), x3, some (.ref F), some y, x6, x7] H4
  refine rd_rl (n := 10) rfl d3 (by decide) (by decide) fun r H4 r0 r1 b4 d4 => ?_
  have b14 := b12.trans (b3.trans b4)
  refine rs_5 (K := K) b14 d4 (by decide) (f.but d3 b4) fun G cs H5 g b5 d5 => ?_
  refine rs_6 (K := K) (b14.trans b5) d5 g fun G2 cs2 H6 g2 b6 d6 => ?_
  have b16 := b14.trans (b5.trans b6)
  refine rs_7 (K := K) d6 g2 fun xs ds y6 y7 H7 gd kp d7 => ?_
  show tS8 K (tSl7 D G2 r (some (.ref L)) (some (.ref M)) x3 y6 y7) H7 Dd.rt
  refine rs_8 (K := K) d7 gd fun v d H8 h1 h2 s8 d8 => k v d H8 h1 h2 (fun b o nb e => s8 _ _ (kp b o nb (fun z => ?_) (b16 b o nb e))) d8
  rw [z, g2.fr] at e
  cases e
theorem ok_drawn {f fR fP fS : Addr} {fd dR dP dS : FuncData} (F : Fun K "_law_drawn_seen" "_law_drawn_seen" sDrawn f fd) (GR : FnOk P w K mg base CX0 1 fR dR ["dice", "total"] spRoll) (kR : PySem.W.keepIn K (.ref fR) = true) (bR : Binds K dR ["dice", "total"] []) (gR : mg "_law_roll" = some (.ref fR))
    (GP : FnOk P w K mg base CX0 2 fP dP ["dice", "items"] (spPick K)) (kP : PySem.W.keepIn K (.ref fP) = true) (bP : Binds K dP ["dice", "items"] []) (gP : mg "_law_pick" = some (.ref fP))
    (GS : FnOk P w K mg base CX0 2 fS dS ["dice", "items"] spShuf) (kS : PySem.W.keepIn K (.ref fS) = true) (bS : Binds K dS ["dice", "items"] []) (gS : mg "_law_shuffled" = some (.ref fS))
    (zL : mg "len" = none) (zT : mg "tuple" = none) (zI : mg "list" = none) (zZ : mg "zip" = none) (zS : mg "sorted" = none) : FnOk P w K mg base CX0 3 f fd ["dice"] spVal := by
  refine F.ok scDrawn (fun vs H Q E h => ?_) (fun cdv A outer s H vs Q E hr h => ?_)
  · obtain ⟨D, rfl, _⟩ := h
    rfl
  · obtain ⟨D, rfl, hD, k⟩ := h
    have hr1 : Room 1 _ := hr.mono (by decide)
    refine ⟨_, pss_cons (ps_set (i := 1) scDrawn.nd rfl (Or.inl rfl) (pe_slice sl_list (pe_call GS hr rfl gS kS bS .nil pass0 (pa_cons (pv 0) (pa_cons (pe_lst (pa_cons pe_str (pa_cons pe_str (pa_cons pe_str (pa_cons pe_str (pa_cons pe_str (pa_cons pe_str (pa_cons pe_str pa_nil)))))))) pa_nil)))
          po_none (po_some (pe_call GR hr1 rfl gR kR bR .nil pass0 (pa_cons (pv 0) (pa_cons pe_int pa_nil))))))
      (pss_cons (ps_setLc (i := 2) (own := [("name", 3)]) (g := gName 3) (tt := tYes) rfl scDrawn.nd rfl rfl (sw_true rfl rfl rfl (by decide +kernel)) (pi_list (pv 1))
          (blkOk_by (own := [("name", 3)]) (N := ["dice", "names", "ticks", "name", "found", "way", "at", "some"]) (sc := defScope sDrawn) (by decide +kernel)) (fun _ _ _ _ _ => pg_name (i := 3) scDrawn.nd rfl (Or.inl rfl)) (fun _ _ _ _ _ => pts_nil)
          (fun _ _ _ _ _ => pe_call GP hr rfl gP kP bP .nil pass0 (pa_cons (pv 0) (pa_cons (pe_lst (pa_cons pe_int (pa_cons pe_int (pa_cons pe_int (pa_cons pe_int (pa_cons pe_int (pa_cons (pe_op op_powW pe_int pe_int) (pa_cons (pe_op op_powW pe_int pe_int) pa_nil)))))))) pa_nil))))
      (pss_cons (ps_set (i := 4) scDrawn.nd rfl (Or.inl rfl) (pe_callB (cr_sortDat hr.units) (by rfl) zS (by rfl) (pa_cons (pe_lzip rfl rfl zI rfl zZ (pa_cons (pv 2) (pa_cons (pv 1) pa_nil))) pa_nil)))
      (pss_cons (ps_set (i := 5) scDrawn.nd rfl (Or.inl rfl) (pe_call GR hr1 rfl gR kR bR .nil pass0 (pa_cons (pv 0) (pa_cons pe_int pa_nil))))
      (pss_cons (ps_if (PW.pt (pw_and (pt_cmpR op_eq (pv 5) pe_int (nomark _)) (pw_and1 (pt_cmpR (op_neD hr.units) (pv 4) (pe_lst pa_nil) (nomark _)))))
          (pss_one (ps_set (i := 4) scDrawn.nd rfl (Or.inl rfl) (pe_revL (pv 4)))) pss_nil)
      (pss_cons (ps_if (PW.pt (pw_and (pt_cmpR op_eq (pv 5) pe_int (nomark _)) (pw_and1 (pt_cmpR (op_neD hr.units) (pv 4) (pe_lst pa_nil) (nomark _)))))
          (pss_one (ps_set (i := 4) scDrawn.nd rfl (Or.inl rfl) (pe_callB (cr_sortDat hr.units) (by rfl) zS (by rfl) (pa_cons (pe_op op_cat (pv 4) (pe_lst (pa_cons (pe_tup (pa_cons (pe_op op_add (pe_ix ix_tup (pe_ix ix_list (pv 4) pe_int (fun _ _ => rfl)) pe_int (fun _ _ => rfl)) pe_int)
            (pa_cons (pe_ix ix_tup (pe_ix ix_list (pv 4) pe_int (fun _ _ => rfl)) pe_int (fun _ _ => rfl)) pa_nil))) pa_nil))) pa_nil)))) pss_nil)
      (pss_cons (ps_if (PW.pt (pw_and (pt_cmpR op_eq (pv 5) pe_int (nomark _)) (pw_and1 (pt_cmpR (op_neD hr.units) (pv 4) (pe_lst pa_nil) (nomark _)))))
          (pss_cons (ps_set (i := 6) scDrawn.nd rfl (Or.inl rfl) (pe_call GR hr1 rfl gR kR bR .nil pass0 (pa_cons (pv 0) (pa_cons (pe_callB call_len_seq (by rfl) zL PySem.boot_len (pa_cons (pv 4) pa_nil)) pa_nil))))
          (pss_cons (ps_set (i := 7) scDrawn.nd rfl (Or.inl rfl) (pe_lst (pa_cons (pe_tup (pa_cons pe_bl (pa_cons pe_str pa_nil))) (pa_cons (pe_tup (pa_cons (pe_ix ix_tup (pe_ix ix_list (pv 4) (pv 6) (fun _ _ => rfl)) pe_int (fun _ _ => rfl)) (pa_cons pe_str pa_nil)))
            (pa_cons (pe_callTy call_list_of (by rfl) zI (by decide +kernel) (pa_cons (pe_ix ix_list (pv 4) (pv 6) (fun _ _ => rfl)) pa_nil)) (pa_cons (pe_op op_catT (pe_ix ix_list (pv 4) (pv 6) (fun _ _ => rfl)) (pe_tup (pa_cons pe_int pa_nil)))
            (pa_cons (pe_tup (pa_cons (pe_un un_neg pe_int) (pa_cons pe_str pa_nil))) (pa_cons pe_non pa_nil))))))))
          (pss_one (ps_asg (pe_call GP hr rfl gP kP bP .nil pass0 (pa_cons (pv 0) (pa_cons (pv 7) pa_nil))) (pg_sub (pv 4) (pv 6) set_list))))) pss_nil)
      (pss_one (ps_ret (pe_ifExp (pt_cmpR op_eq (pv 5) pe_int (nomark _)) (pe_callTy call_list_of (by rfl) zI (by decide +kernel) (pa_cons (pv 4) pa_nil)) (pe_callTy call_tuple_of (by rfl) zT (by decide +kernel) (pa_cons (pv 4) pa_nil))))))))))), ?_⟩
    exact rs_all (K := K) hD k
end
end K0

namespace DW
open PySem PySem.Spec PyProof.Rows L2
/-! ### several except clauses, with names or without -/
abbrev Clause := Value × Option Nat × (Addr → Value → Option Addr → TS)
/-- behind a clause with a name, its slot is empty -/
def offAt (i : Nat) (D : Ends) : Ends := ⟨fun σ H => D.nx (σ.set i none) H, D.rt, fun σ H => D.bk (σ.set i none) H, fun σ H => D.ct (σ.set i none) H⟩
/-- n: how many slots there are -/
def wMix (K : PySem.W.Frag) (n : Nat) (Wout : WX) (D : Ends) : List Clause → WX
  | [] => Wout
  | (c, none, ts) :: r => fun cls d σ H => ∃ b, PySem.W.exmOne K cls c = some b ∧ (b = true → ∀ a, H a = none → ts a cls d D σ H) ∧ (b = false → wMix K n Wout D r cls d σ H)
  | (c, some i, ts) :: r => fun cls d σ H => ∃ b, PySem.W.exmOne K cls c = some b ∧ (b = true → ∀ a, H a = none → σ.length = n → ts a cls d (offAt i D) (σ.set i (some (.ref a))) H) ∧ (b = false → wMix K n Wout D r cls d σ H)
inductive Mix (X : Cx) : List ExceptHandler → List Clause → Prop
  | nil : Mix X [] []
  | bare {x : Str} {c : Value} {ts : Addr → Value → Option Addr → TS} {b0 : Stmt} {su : List Stmt} {p1 p2 : Pos} {hs : List ExceptHandler} {l : List Clause} (hc : Names X x c)
      (hsu : ∀ (a : Addr) (oe : Obj) (cls : Value) (d : Option Addr) (pn : List (Addr × Obj)), Zc cls d oe → (∃ vs, oe.data = .fields vs) → PSs (X.suite a ((a, oe) :: pn)) (b0 :: su) (ts a cls d)) (r : Mix X hs l) :
      Mix X (.ExceptHandler (some (.Name x p1)) none (b0 :: su) p2 :: hs) ((c, none, ts) :: l)
  | named {x n : Str} {i : Nat} {c : Value} {ts : Addr → Value → Option Addr → TS} {b0 : Stmt} {su : List Stmt} {p1 p2 : Pos} {hs : List ExceptHandler} {l : List Clause} (nd : X.N.Nodup) (hi : X.N[i]? = some n) (hl : X.env.kindOf n = some .local) (hc : Names X x c)
      (hsu : ∀ (a : Addr) (oe : Obj) (cls : Value) (d : Option Addr) (pn : List (Addr × Obj)), Zc cls d oe → (∃ vs, oe.data = .fields vs) → PSs (X.suite a ((a, oe) :: pn)) (b0 :: su) (ts a cls d)) (r : Mix X hs l) :
      Mix X (.ExceptHandler (some (.Name x p1)) (some n) (b0 :: su) p2 :: hs) ((c, some i, ts) :: l)
section
variable {X : Cx} {pins : List (Addr × Obj)} {D : Ends} {B : Heap} {sI s' : Shared} {a : Addr} {σ' : L2.St} {H' : Hp} {cls : Value} {d : Option Addr} {Wout : WX}
/-- the clauses looked through, one after another, for an exception that has landed -/
theorem mix_go (ok : X.Ok) (hst : X.stack = X.env :: X.outer) (hf : X.env.frame = some X.env.locals) (tk : Takes X Wout) (J : Inv X pins σ' H' sI) (nb : ∀ h3, HandSPX.FlyingZ B (X.env :: X.outer) a (Zc cls d) h3 → s'.heap.UpToSlots h3 → Inv X pins σ' H' { s' with heap := h3 })
    (na : H' a = none) (out : ∀ h4, s'.heap.UpToSlots h4 → HandSPX.HeldZ B (X.env :: X.outer) a (Zc cls d) X.env.locals h4 → Wout cls d σ' H' → XE X Wout (.ref a) { s' with heap := h4 }) :
    ∀ {hs : List ExceptHandler} {l : List Clause}, Mix X hs l → wMix X.K X.N.length Wout D l cls d σ' H' → ∀ h3, HandSPX.FlyingZ B (X.env :: X.outer) a (Zc cls d) h3 → s'.heap.UpToSlots h3 →
      wpAny (model X.prog X.w) X.A (handleBy (.ref a) X.env hs) (SP X pins D) X.xe { s' with heap := h3 } := by
  have look : ∀ h3, HandSPX.FlyingZ B (X.env :: X.outer) a (Zc cls d) h3 → s'.heap.UpToSlots h3 → ∃ oe vs, h3.get? a = some oe ∧ Zc cls d oe ∧ oe.data = .fields vs ∧ Inv (X.suite a ((a, oe) :: (X.pn ++ pins))) [] σ' H' { s' with heap := h3 } := fun h3 fl up => by
    obtain ⟨oe, vs, he, hz, hd⟩ := fl.there
    have nfr : a ∉ frs (X.env :: X.outer) := fun hm => by
      obtain ⟨_, o', e', hnf⟩ := fl.2.2.1.mem hm
      rw [he] at e'
      cases e'
      exact hnf _ hd
    refine ⟨oe, vs, he, hz, hd, (nb h3 fl up).suite he hd na (fun z => nfr (List.mem_filterMap.mpr ⟨X.env, List.mem_cons_self, by rw [hf, z]⟩)) fun hm => ?_⟩
    obtain ⟨e, m, q⟩ := List.mem_filterMap.mp hm
    exact nfr (List.mem_filterMap.mpr ⟨e, List.mem_cons_of_mem _ m, q⟩)
  -- the test of one clause
  have ask : ∀ {x : Str} {c : Value} {p1 : Pos} {b : Bool} {h3 : Heap} {Q : Value → Shared → Prop} {E : Value → Shared → Prop}, Names X x c → HandSPX.FlyingZ B (X.env :: X.outer) a (Zc cls d) h3 → s'.heap.UpToSlots h3 → PySem.W.exmOne X.K cls c = some b →
      (∀ M : PySem.W.Looks (model X.prog X.w) h3 (typeOf (.ref a)) cls, Q c { s' with heap := h3 }) → wpAny (model X.prog X.w) (X.A.mark (some (.ref a))) (eval (.Name x p1) X.env) Q E { s' with heap := h3 } := fun {x c p1 b h3 Q E} hc fl up _ q => by
    obtain ⟨oe, vs, he, hz, hd, S⟩ := look h3 fl up
    have LT : PySem.W.Looks (model X.prog X.w) h3 (typeOf (.ref a)) cls := fun A Q E s k q => wpAny_typeOf_ref (k _ _ he) (by rw [hz.1]; exact q)
    obtain ⟨hg, hdb, hm | ⟨hm, hv, hnn⟩⟩ := hc
    · exact ld_glob (X := X.suite a ((a, oe) :: (X.pn ++ pins))) S hg hm (q LT) hdb
    · exact ld_blt (X := X.suite a ((a, oe) :: (X.pn ++ pins))) S hg hm hv (q LT) hnn hdb
  intro hs l hk
  induction hk with
  | nil =>
    intro w h3 fl up
    refine wpAny_handleBy_nil ?_
    obtain ⟨_, _, _, oe, vs, T, oT, ts', he, hz, hd, h1, hr⟩ := id fl
    unfold PySem.passOn
    refine wpAny_bind (wpAny_field he hd h1 (by
      rw [if_neg (show ¬ ((Value.ref T == Value.none) = true) from by simp)]
      have fin : wpAny (model X.prog X.w) X.A (setFlight (.ref a) X.env.frame) (fun _ s4 => wpAny (model X.prog X.w) X.A (throw (.ref a) : Sem Flow) (SP X pins D) X.xe s4) X.xe { s' with heap := h3 } := by
        rw [hf]
        exact HandSPX.setFlight_upZ fl fun h4 hh4 up4 => wpAny_throw (tk _ _ (out h4 (up.trans up4) hh4 w))
      first
        | exact wpAny_bind (wpAny_pure (wpAny_bind fin))
        | exact wpAny_bind fin))
  | @bare x c ts b0 su p1 p2 hs l hc hsu r ih =>
    intro w h3 fl up
    obtain ⟨b, hb, yes, no⟩ := w
    have J3 := nb h3 fl up
    refine wpAny_handleBy_cons (codeAny_handlers_test (ask hc fl up hb fun LT => (PySem.W.exm_one (M := model X.prog X.w) J3.kIn LT hb).here ?_)) (by intro q; cases q)
    cases b with
    | false => exact ih (no rfl) h3 fl up
    | true =>
      refine codeAny_handlers_suite (HandSPX.lands_againZ fl fun h4 fl4 up4 => ?_)
      obtain ⟨oe, vs, he, hz, hd, S⟩ := look h4 fl4 (up.trans up4)
      refine wpAny_mono ((hsu a oe cls d (X.pn ++ pins) hz ⟨_, hd⟩).run [] _ _ H' _ S (yes rfl a na)) (fun f s6 q => ?_) fun _ _ z => False.elim z
      cases f with
      | ret u => obtain ⟨v, σ6, H6, S6, r6, q6⟩ := q; exact ⟨v, σ6, H6, S6.unsuite ok, r6, q6⟩
      | next => obtain ⟨σ6, H6, S6, q6⟩ := q; exact ⟨σ6, H6, S6.unsuite ok, q6⟩
      | brk => obtain ⟨σ6, H6, S6, q6⟩ := q; exact ⟨σ6, H6, S6.unsuite ok, q6⟩
      | cont => obtain ⟨σ6, H6, S6, q6⟩ := q; exact ⟨σ6, H6, S6.unsuite ok, q6⟩
  | @named x n i c ts b0 su p1 p2 hs l nd hi hl hc hsu r ih =>
    intro w h3 fl up
    obtain ⟨b, hb, yes, no⟩ := w
    have J3 := nb h3 fl up
    refine wpAny_handleBy_cons (codeAny_handlers_test (ask hc fl up hb fun LT => (PySem.W.exm_one (M := model X.prog X.w) J3.kIn LT hb).here ?_)) (by intro q; cases q)
    cases b with
    | false => exact ih (no rfl) h3 fl up
    | true =>
      refine codeAny_handlers_suite_as (HandSPX.lands_againZ fl fun h4 fl4 up4 => ?_)
      obtain ⟨oe, vs, he, hz, hd, S⟩ := look h4 fl4 (up.trans up4)
      refine store_ok (X := X.suite a ((a, oe) :: (X.pn ++ pins))) (v := .ref a) S nd hi (.inl hl) rfl (fun s5 S5 => ?_) (.inr hl)
      have done : ∀ {σ6 : L2.St} {H6 : Hp} {Q : Shared → Prop} {s6 : Shared}, Inv (X.suite a ((a, oe) :: (X.pn ++ pins))) [] σ6 H6 s6 → (∀ s7, Inv X pins (σ6.set i none) H6 s7 → Q s7) →
          wpAny (model X.prog X.w) X.A (do bindName X.env n .none; unbindBehindTheSuite X.env n p2) (fun _ s7 => Q s7) X.xe s6 := fun S6 q => gone_ok (S6.unsuite ok) nd hi hl q
      refine wpAny_mono ((hsu a oe cls d (X.pn ++ pins) hz ⟨_, hd⟩).run [] s5 _ H' _ S5 (yes rfl a na J3.len)) (fun f s6 q => ?_) fun _ _ z => False.elim z
      cases f with
      | ret u => obtain ⟨v, σ6, H6, S6, r6, q6⟩ := q; exact done S6 fun s7 J7 => ⟨v, _, H6, J7, r6, q6⟩
      | next => obtain ⟨σ6, H6, S6, q6⟩ := q; exact done S6 fun s7 J7 => ⟨_, H6, J7, q6⟩
      | brk => obtain ⟨σ6, H6, S6, q6⟩ := q; exact done S6 fun s7 J7 => ⟨_, H6, J7, q6⟩
      | cont => obtain ⟨σ6, H6, S6, q6⟩ := q; exact done S6 fun s7 J7 => ⟨_, H6, J7, q6⟩
end
section
variable {X : Cx} {body : List Stmt} {h0 : ExceptHandler} {hs : List ExceptHandler} {l : List Clause} {pos : Pos} {tb : WX → TS} {Wout : WX}
theorem ps_try_mix (hst : X.stack = X.env :: X.outer) (hf : X.env.frame = some X.env.locals) (tk : Takes X Wout)
    (hb : ∀ (W : WX) (pn : List (Addr × Obj)) (xe : Value → Shared → Prop), Takes (X.tr pn xe) W → PassesOwn (model X.prog X.w) X.A X.env xe → PSs (X.tr pn xe) body (tb W)) (hh : Mix X (h0 :: hs) l) :
    PS X (.Try body (h0 :: hs) [] [] pos) (fun D σ H => tb (wMix X.K X.N.length Wout D l) D σ H) := by
  refine ⟨fun pins s σ H D I h => ?_⟩
  have ok := I.ok
  have hfr : X.A.frames = some (X.env :: X.outer) := by rw [ok.frames, hst]
  refine wpAny_Try_except (wpAny_mono ((hb (wMix X.K X.N.length Wout D l) (X.pn ++ pins) (fun e s₁ => wpAny (model X.prog X.w) X.A (noteFrame e X.env) (fun _ s₂ => wpAny (model X.prog X.w) X.A (setFlight e none) (fun _ s₃ =>
    wpAny (model X.prog X.w) X.A (handleBy e X.env (h0 :: hs)) (SP X pins D) X.xe s₃) X.xe s₂) X.xe s₁) (fun u s' xx => ?_) PassesOwn.looking).run [] s σ H D (I.toTry _) h) (fun f s1 q => ?_) fun e s1 he => he)
  · obtain ⟨a, B, sI, pins', σ', H', cls, d, rfl, J', nb, up, sky, na, os, ag, w⟩ := xx
    have J : Inv X pins σ' H' sI := J'.ofTry ok
    have sky' : Sky B (X.env :: X.outer) a (Zc cls d) X.env.locals s'.heap := by rw [← hst]; exact sky
    refine (show wpAny (model X.prog X.w) X.A (noteFrame (.ref a) X.env) _ _ _ from Sky.land Zc.steady hfr hf sky' fun h3 fl3 up3 => ?_)
    exact mix_go ok hst hf tk J (fun h4 fl4 up4 => J.landed nb fl4.1 (up.trans up4) os ag) na (fun h4 up4 hh4 w4 => ⟨a, B, sI, pins, σ', H', cls, d, rfl, J, nb, up.trans up4, .inr (.inr (by rw [hst]; exact hh4)), na, os, ag, w4⟩) hh w h3 fl3 up3
  · cases f with
    | ret u => obtain ⟨v, σ', H', J', r, q⟩ := q; exact ⟨v, σ', H', J'.ofTry ok, r, q⟩
    | next => obtain ⟨σ', H', J', q⟩ := q; exact wpAny_execs_nil ⟨σ', H', J'.ofTry ok, q⟩
    | brk => obtain ⟨σ', H', J', q⟩ := q; exact ⟨σ', H', J'.ofTry ok, q⟩
    | cont => obtain ⟨σ', H', J', q⟩ := q; exact ⟨σ', H', J'.ofTry ok, q⟩
end
end DW

namespace DW
open PySem PySem.Spec PyProof.Rows L2
section
variable {X : Cx} {pins : List (Addr × Obj)} {σ : L2.St} {H : Hp} {s : Shared}
/-- a thing that is tracked by a word of its own, tracked otherwise -/
theorem retype {dx : Addr} {φ : Heap → Prop} {o : HO} (I : Inv X pins σ H s) (e : H dx = some (.ext φ)) (new : ObjOk X.prog X.w (upd H dx o) s.heap dx o) : Inv X pins σ (upd H dx o) s := by
  have nN : ∀ {b : Addr}, H b = none → b ≠ dx := fun n z => by rw [z, e] at n; cases n
  have nE : ∀ {b : Addr} {u : HO}, H b = some u → (∀ φ, u ≠ .ext φ) → b ≠ dx := fun q n z => by rw [z, e] at q; cases q; exact n φ rfl
  have J := I.un (t' := s.toks) (h' := s.heap) (H' := upd H dx o) ⟨fun b v q _ _ _ => q, fun b v q _ _ _ => ⟨v.slots, q⟩, fun b v q n _ => (upd_ne (nN n)).trans n, fun b v q _ => ⟨v, q⟩,
    fun b xs q => (upd_ne (nE q fun _ z => nomatch z)).trans q, fun b ob xs q => (upd_ne (nE q fun _ z => nomatch z)).trans q, fun b qs q => ⟨#[], by rw [upd_ne (nE q fun _ z => nomatch z), q]; simp⟩⟩ fun b v q => by
      by_cases hb : b = dx
      · subst hb
        rw [upd_same] at q
        cases q
        exact new
      · rw [upd_ne hb] at q
        exact (I.hok b v q).stay (fun c y _ r => r) (fun c r => (upd_ne (nE r fun _ z => nomatch z)).trans r) fun c xs r => (upd_ne (nE r fun _ z => nomatch z)).trans r
  exact J
/-- raise e, where e gives an own exception with a dict of its own -/
theorem pmk_exq {e : Expr} {te : TE} (hx : X.ex = []) (he : PE X e te) : PMk X e (fun σ H Q => te σ H fun x H1 => ∃ (a C dx t : Addr) (fs : List (Str × V)), x = .ref a ∧ H1 a = some (exq a C (some dx) t) ∧ H1 dx = some (exd dx fs) ∧ Fr0 X.H_0 a ∧ Raises X (.ref C) ∧
    Q (.ref C) (some dx) (upd (delH H1 a) dx (.xd fs))) := by
  intro pins s σ H Q I h
  refine wpAny_mono (he.run pins s σ H _ I h) (fun u s1 hu => ?_) fun _ _ x => x
  obtain ⟨v, H1, I1, r1, a, C, dx, t, fs, rfl, ha, hd, h0, hr, q⟩ := hu
  cases (show u = Value.ref a from r1)
  have z := exq_at I1.hok ha
  obtain ⟨mA, ⟨o, es, ep, ho, hdat⟩, rel⟩ := exd_at I1.hok hd
  have ne : dx ≠ a := fun y => by
    rw [y, z] at ho
    cases ho
    simp at hdat
  obtain ⟨G, gs, ga, J⟩ := I1.untrack (φ := fun h => h.get? a = some (exr C (some dx) t)) ha h0 hx
  have hd2 : delH H1 a dx = some (exd dx fs) := by rw [delH_ne ne]; exact hd
  have J2 := retype (o := .xd fs) J hd2 (show ∃ mA, _ from exd_at J.hok hd2)
  exact ⟨a, _, _, { s1 with heap := G }, _, .ref C, some dx, rfl, J2, gs, ga, z, ⟨rfl, rfl⟩, rfl, rfl, (upd_ne (Ne.symm ne)).trans delH_same, rfl, I1.bare, hr, q⟩
end
section
variable {X : Cx} {k : Nat} {C fI : Addr} {fd : FuncData} {ps : List Str} {sp : Sp} {Bn B newId inN : String} {bmN : List Value} {x : Str} {e : Expr} {te : TE} {p pos : Pos}
/-- X(e), X with an __init__ of its own that promises to let nothing out -/
theorem pe_exI0 (F : ExcBaseFacts Bn newId inN bmN) (q : exnB X.K C newId Bn B = true) (hi : PySem.W.findIn X.K (.ref C) "__init__" = some (some (.ref fI))) (tf : PySem.W.typeIn X.K (.ref fI) = some (.type "function"))
    (kC : PySem.W.keepIn X.K (.ref C) = true) (gC : X.mg x = some (.ref C)) (hg : Gl X x) (G : FnOk X.prog X.w X.K X.mg X.base CX0 k fI fd ps sp) (hr : Room (k + 1) X.A) (hb : Binds X.K fd ps []) (he : PE X e te)
    (hs : starEach [e] X.env = (false, eval e X.env) :: starEach [] X.env := by rfl) (hdb : (x == ("__debug__" : Str)) = false := by decide) :
    PE X (.Call (.Name x p) [e] [] pos) (tExI C sp te) := by
  refine ⟨fun pins s σ H Q I h => ?_⟩
  refine wpAny_Call_Name_kw (ld_glob I hg gC (PySem.W.callWith_K (h₀ := X.base) I.ok.mod.kin kC (by
    rw [hs]
    refine (show wpAny _ _ (spliced ((false, eval e X.env) :: backTo pos (starEach [] X.env))) _ _ s from Calls.spliced_cons (thn (he.run pins s σ H _ I h) ?_))
    rintro u s1 ⟨v, H1, I1, r1, q1⟩
    refine Calls.spliced_nil ⟨I1.kIn, (show wpAny _ _ (call (.ref C) [u]) _ _ _ from ?_)⟩
    obtain ⟨nm, N, qn, bs, bm, hdct, sn, sub, ab, col, dd, k0, k1, k2, k3, k5, hC, hT⟩ := exn_of I1.kIn q
    have look := PySem.W.looks_findIn (M := model X.prog X.w) I1.kIn hi
    have bnd := fun self => PySem.W.bind_fn (M := model X.prog X.w) I1.kIn self tf
    obtain ⟨hp, g, d, tk, os⟩ := s1
    have n1 : H1 (hp.objs.size + 1) = none := I1.hok.fresh (Nat.le_succ _)
    have n2 : H1 hp.objs.size = none := I1.hok.fresh (Nat.le_refl _)
    have ne : hp.objs.size ≠ hp.objs.size + 1 := Nat.ne_of_lt (Nat.lt_succ_self _)
    have kp : ∀ b o, hp.get? b = some o → ((hp.push (PySem.W.excTup [u])).push (exr C none hp.objs.size)).get? b = some o := fun b o z => Heap.get?_push_of_some _ (Heap.get?_push_of_some _ z)
    have gA : ((hp.push (PySem.W.excTup [u])).push (exr C none hp.objs.size)).get? (hp.objs.size + 1) = some (exr C none hp.objs.size) := by heap_get
    have gT : ((hp.push (PySem.W.excTup [u])).push (exr C none hp.objs.size)).get? hp.objs.size = some (PySem.W.excTup [u]) := Heap.get?_push_of_some _ (Heap.get?_push_size hp rfl)
    have one : [u].length ≤ sizeLine := by show 1 ≤ sizeLine; rw [sizeLine_eq]; omega
    have I2 := laid2 (tk := tk) (o := exq (hp.objs.size + 1) C none hp.objs.size) (u := .tup [v]) I1 kp (Nat.le_succ _) (Nat.le_refl _) ne
      ⟨by show 1 ≤ sizeLine; rw [sizeLine_eq]; omega, [u], .cons r1 .nil, ⟨_, gT, rfl, _, rfl⟩⟩ (exq_ok gA)
    have hq := q1 _ _ n1 n2 ne
    have hl : (Value.ref (hp.objs.size + 1) :: [u]).length = ps.length := G.len _ _ _ _ hq
    have b := hb _ (Value.ref (hp.objs.size + 1) :: [u]) I2.kIn (by rw [List.append_nil]; exact hl)
    rw [List.append_nil] at b
    refine wpAny_call (callU F hT hC one look bnd (codeAny_mono (G.run _ X.stack _ _ ⟨Value.ref (hp.objs.size + 1) :: [u], []⟩ (Value.ref (hp.objs.size + 1) :: [u]) _ _ _ (hr.make C [u] []) (I2.env0.make C [u] []) b (show Vals (V.ref (hp.objs.size + 1) :: [v]) (Value.ref (hp.objs.size + 1) :: [u]) from .cons rfl (.cons r1 .nil)) hq) fun r s' z => ?_))
    rcases r with er | fl
    · exact z.elim
    · cases fl with
      | ret u2 =>
        obtain ⟨v3, H3, I3, rv, ev, q3⟩ := I2.after z
        subst ev
        exact ⟨rv, ⟨V.ref (hp.objs.size + 1), H3, I3, rfl, q3⟩⟩
      | _ => exact False.elim z) hs (by rfl)) hdb)
/-- {x!r} of what holds nothing: whatever is under way -/
def tFmt0 (te : TE) : TE := fun σ H Q => te σ H fun v H1 => ∃ d : PyData, ((v = .non ∧ d = .none) ∨ (∃ b, v = .bl b ∧ d = .bool b) ∨ (∃ i, v = .int i ∧ d = .int i) ∨ ∃ z, v = .str z ∧ d = .str z) ∧ d.showable = true ∧ d.shown.length ≤ sizeLine ∧ Q (.str d.shown) H1
theorem pe_fmt0 (he : PE X e te) : PE X (.FormattedValue e 114 none pos) (tFmt0 te) := by
  refine ⟨fun pins s σ H Q I h => ?_⟩
  refine wpAny_FormattedValue_repr (thn (he.run pins s σ H _ I h) ?_)
  rintro u s1 ⟨v, H1, I1, r1, d, hd, hs, hz, q⟩
  have fin : ∀ t tk : Nat, wpAny (model X.prog X.w) X.A (formatField (.str d.shown t) Str.empty) (EP X pins σ Q) X.xe { s1 with toks := tk } := fun t tk =>
    wpAny_formatField_str ⟨.str d.shown, H1, (I1.tok _).tok _, ⟨_, rfl⟩, q⟩ ⟨.str d.shown, H1, (I1.tok _).tok _, ⟨_, rfl⟩, q⟩ hz
  rcases hd with ⟨rfl, rfl⟩ | ⟨b, rfl, rfl⟩ | ⟨i, rfl, rfl⟩ | ⟨z, rfl, rfl⟩
  · cases (show u = Value.none from r1)
    exact pyReprObj_none (fin _ _)
  · cases (show u = Value.bool b from r1)
    exact pyReprObj_bool (fin _ _)
  · obtain ⟨t, rfl⟩ := r1
    exact pyReprObj_int (by simpa [PyData.showable] using hs) (fin _ _)
  · obtain ⟨t, rfl⟩ := r1
    exact pyReprObj_str (fin _ _) hz
end
end DW

namespace DW
open PySem PySem.Spec PyProof.Rows L2
section
variable {X : Cx}
/-- raise e, where e gives an own exception without a dict -/
theorem pmk_exq0 {e : Expr} {te : TE} (hx : X.ex = []) (he : PE X e te) : PMk X e (fun σ H Q => te σ H fun x H1 => ∃ (a C t : Addr), x = .ref a ∧ H1 a = some (exq a C none t) ∧ Fr0 X.H_0 a ∧ Raises X (.ref C) ∧ Q (.ref C) none (delH H1 a)) := by
  intro pins s σ H Q I h
  refine wpAny_mono (he.run pins s σ H _ I h) (fun u s1 hu => ?_) fun _ _ x => x
  obtain ⟨v, H1, I1, r1, a, C, t, rfl, ha, h0, hr, q⟩ := hu
  cases (show u = Value.ref a from r1)
  have z := exq_at I1.hok ha
  obtain ⟨G, gs, ga, J⟩ := I1.untrack (φ := fun h => h.get? a = some (exr C none t)) ha h0 hx
  exact ⟨a, _, _, { s1 with heap := G }, _, .ref C, none, rfl, J, gs, ga, z, ⟨rfl, rfl⟩, rfl, rfl, delH_same, rfl, I1.bare, hr, q⟩
/-- what is never come to -/
theorem dead {st : List Stmt} : PSs X st (fun _ _ _ => False) := ⟨fun _ _ _ _ _ _ h => h.elim⟩
end
/-- None, a truth value, an integer, a text -/
inductive Sv : V → PyData → Prop
  | non : Sv .non .none
  | bl (b : Bool) : Sv (.bl b) (.bool b)
  | int (i : Int) : Sv (.int i) (.int i)
  | str (z : Str) : Sv (.str z) (.str z)
theorem Sv.dd {K : PySem.W.Frag} {H : Hp} {v : V} {d : PyData} (h : Sv v d) : Dd K H v d := by
  cases h with
  | non => exact .base .non rfl
  | bl b => exact .base (.bl b) rfl
  | int i => exact .base (.int i) rfl
  | str z => exact .base (.str z) rfl
theorem Sv.kit {v : V} {d : PyData} (h : Sv v d) : kitB (tyName d) "list" = some false ∧ kitB (tyName d) "tuple" = some false ∧ kitB (tyName d) "dict" = some false := by
  cases h with
  | non => exact ⟨by decide +kernel, by decide +kernel, by decide +kernel⟩
  | bl b => exact ⟨(show kitB "bool" "list" = some false by decide +kernel), (show kitB "bool" "tuple" = some false by decide +kernel), (show kitB "bool" "dict" = some false by decide +kernel)⟩
  | int i => exact ⟨(show kitB "int" "list" = some false by decide +kernel), (show kitB "int" "tuple" = some false by decide +kernel), (show kitB "int" "dict" = some false by decide +kernel)⟩
  | str z => exact ⟨(show kitB "str" "list" = some false by decide +kernel), (show kitB "str" "tuple" = some false by decide +kernel), (show kitB "str" "dict" = some false by decide +kernel)⟩
theorem Sv.four {v : V} {d : PyData} (h : Sv v d) : (v = .non ∧ d = .none) ∨ (∃ b, v = .bl b ∧ d = .bool b) ∨ (∃ i, v = .int i ∧ d = .int i) ∨ ∃ z, v = .str z ∧ d = .str z := by
  cases h with
  | non => exact .inl ⟨rfl, rfl⟩
  | bl b => exact .inr (.inl ⟨b, rfl, rfl⟩)
  | int i => exact .inr (.inr (.inl ⟨i, rfl, rfl⟩))
  | str z => exact .inr (.inr (.inr ⟨z, rfl, rfl⟩))
end DW
namespace K0
open PySem PySem.Spec PyProof.Rows L2 DW RZ
abbrev sCopy : Stmt := top 5
def clsBody (s : Stmt) : List Stmt := match s with
  | .ClassDef (body := b) .. => b
  | _ => []
abbrev sIni : Stmt := (clsBody (top 4)).getD 0 (.Pass ⟨0, 0, 0, 0⟩)
section
variable {P : Program} {w : World} {K : PySem.W.Frag} {mg : Str → Option Value} {base : Heap}
def spC0 : Sp := fun vs H Q _ => ∃ v d, vs = [v] ∧ Sv v d ∧ Q v H
theorem scCopy : FnScope ["value", "item", "key"] ["value"] (defScope sCopy) := ⟨rfl, rfl, rfl, by decide +kernel, rfl, by decide +kernel, by decide +kernel⟩
theorem ok_copy {f : Addr} {fd : FuncData} (F : Fun K "own_copy" "own_copy" sCopy f fd) (zI : mg "isinstance" = none) (zL : mg "list" = none) (zT : mg "tuple" = none) (zD : mg "dict" = none) : FnOk P w K mg base CX0 1 f fd ["value"] spC0 := by
  refine F.ok scCopy (fun vs H Q E h => ?_) (fun cdv A outer s H vs Q E hr h => ?_)
  · obtain ⟨v, d, rfl, _⟩ := h
    rfl
  · obtain ⟨v, d, rfl, hv, k⟩ := h
    refine ⟨_, pss_cons (ps_if (pt_val (pe_callB call_isi (by rfl) zI (by rfl) (pa_cons (pv 0) (pa_cons (pe_bltn rfl zL (by rfl) (show RelV (.ty "list") (.type "list") from rfl)) pa_nil)))) dead pss_nil)
      (pss_cons (ps_if (pt_val (pe_callB call_isi (by rfl) zI (by rfl) (pa_cons (pv 0) (pa_cons (pe_bltn rfl zT (by rfl) (show RelV (.ty "tuple") (.type "tuple") from rfl)) pa_nil)))) dead pss_nil)
      (pss_cons (ps_if (pt_val (pe_callB call_isi (by rfl) zI (by rfl) (pa_cons (pv 0) (pa_cons (pe_bltn rfl zD (by rfl) (show RelV (.ty "dict") (.type "dict") from rfl)) pa_nil)))) dead pss_nil)
      (pss_one (ps_ret (pv 0))))), ?_⟩
    obtain ⟨k1, k2, k3⟩ := hv.kit
    exact rd_isi rfl hv.dd k1 ⟨_, rfl, iteF (rd_isi rfl hv.dd k2 ⟨_, rfl, iteF (rd_isi rfl hv.dd k3 ⟨_, rfl, iteF ⟨_, rfl, k⟩⟩)⟩)⟩
def spIni0 (C : Addr) : Sp := fun vs H Q _ => ∃ (a : Addr) (v : V) (t : Addr) (d : PyData), vs = [.ref a, v] ∧ H a = some (exq a C none t) ∧ Sv v d ∧ d.showable = true ∧ d.shown.length ≤ 10000 ∧
  ∀ (H' : Hp) (dx t' : Addr), (∀ b o, b ≠ a → H b = some o → H' b = some o) → H dx = none → H' a = some (exq a C (some dx) t') → H' dx = some (exd dx [("given", v)]) → Q .non H'
theorem scIni : FnScope ["self", "given"] ["self", "given"] (defScope sIni) := ⟨rfl, rfl, rfl, by decide +kernel, rfl, by decide +kernel, by decide +kernel⟩
theorem ok_ini {C f fc : Addr} {fd fdc : FuncData} (F : Fun K "__init__" "InvalidNumber.__init__" sIni f fd) (GC : FnOk P w K mg base CX0 1 fc fdc ["value"] spC0) (kC : PySem.W.keepIn K (.ref fc) = true) (bC : Binds K fdc ["value"] []) (gC : mg "own_copy" = some (.ref fc))
    (T : ExK K C) (q : exnB K C "RuntimeError.__new__" "RuntimeError" "RuntimeError" = true) (hov : PySem.W.excOver K C [.type "RuntimeError", .type "Exception", .type "BaseException", .type "object"] = true) (htk : PySem.W.takerIn K C "given" = some none) (hm : mg "RuntimeError" = none)
    (vV : PySem.W.findCls K (.type "RuntimeError") (.type "type") "__init__" = some (.val (.builtin "RuntimeError.__init__"))) : FnOk P w K mg base CX0 2 f fd ["self", "given"] (spIni0 C) := by
  refine F.ok scIni (fun vs H Q E h => ?_) (fun cdv A outer s H vs Q E hr h => ?_)
  · obtain ⟨a, v, t, d, rfl, _⟩ := h
    rfl
  · obtain ⟨a, v, t, d, rfl, ha, hv, hs, hl, k⟩ := h
    refine ⟨_, pss_cons (ps_expr (pe_binB (newId := "RuntimeError.__new__") (Bn := "RuntimeError") (IniF.of PySem.F.excBase_RuntimeError) rfl hm (by rfl) (by decide) (by rfl) (by rfl) vV (by decide +kernel) (pa_cons (pv 0) (pa_cons (pe_joined (.cons pe_str (.cons (pe_fmt0 (pv 1)) .nil))) pa_nil))))
      (pss_one (ps_xst PySem.F.store_RuntimeError (pv 0) (pe_call GC hr rfl gC kC bC .nil pass0 (pa_cons (pv 1) pa_nil)))), ?_⟩
    have p0 : ("no such number: " : Str).length ≤ 1000 := by decide
    refine ⟨_, rfl, "no such number: ", rfl, ?_, _, rfl, d, hv.four, hs, by rw [sizeLine_eq]; omega, _, rfl, ?_, ?_⟩
    · rw [sizeLine_eq]; show (Str.empty ++ ("no such number: " : Str)).length ≤ _; rw [PySem.Str.length_append]; show 0 + _ ≤ _; omega
    · rw [sizeLine_eq, PySem.Str.length_append, PySem.Str.length_append]; show 0 + _ + _ ≤ _; omega
    · refine ⟨a, C, t, _, rfl, by show 1 ≤ 1000; decide, q, ha, fun t' => ?_⟩
      refine ⟨v, rfl, v, d, rfl, hv, _, rfl, a, C, t', rfl, T, hov, htk, upd_same, fun dx hdx hne => ?_⟩
      refine k _ dx t' (fun b o hb e => ?_) (by rw [upd_ne hne] at hdx; exact hdx) upd_same (by rw [upd_ne hne, upd_same])
      rw [upd_ne hb, upd_ne (ne_of_none (by rw [upd_ne hb]; exact e) hdx), upd_ne hb]
      exact e
end
end K0

namespace DW
open PySem PySem.Spec PyProof.Rows L2
abbrev bmV : List Value := [.type "ValueError", .type "Exception", .type "BaseException", .type "object"]
/-- an own error without an __init__ of its own -/
structure Pl (K : PySem.W.Frag) (mg : Str → Option Value) (nm : Str) (C : Addr) : Prop where
  ex : ExK K C
  g : mg nm = some (.ref C)
  q : PySem.W.excInitIn K C bmV "ValueError.__new__" = true
  hi : PySem.W.findIn K (.ref C) "__init__" = some (some (.builtin "ValueError.__init__"))
  ty : PySem.W.typeIn K (.ref C) = some (.type "type")
theorem del_new2 {H : Hp} {a t : Addr} {v : V} {C : Addr} (na : H a = none) (ne : t ≠ a) : delH (upd (upd H t (.tup [v])) a (exq a C none t)) a = upd H t (.tup [v]) := delH_new (by rw [upd_ne (Ne.symm ne)]; exact na)
end DW
namespace K0
open PySem PySem.Spec PyProof.Rows L2 DW RZ
abbrev sUntil : Stmt := top 22
abbrev sTickOf : Stmt := top 23
abbrev sNeed : Stmt := top 24
section
variable {P : Program} {w : World} {K : PySem.W.Frag} {mg : Str → Option Value} {base : Heap}
/-- the raise of such an error: nothing that stood changes -/
theorem rd_pl {X : Cx} {C : Addr} {m : Str} {σ : L2.St} {H : Hp} {Q : XK} (r : Raises X (.ref C)) (h0 : ∀ a, H a = none → X.H_0 a = none) (k : ∀ H', Same H H' → Q (.ref C) none H') :
    tExP C (tC (.str m)) σ H fun x H1 => ∃ (a C t : Addr), x = .ref a ∧ H1 a = some (exq a C none t) ∧ Fr0 X.H_0 a ∧ Raises X (.ref C) ∧ Q (.ref C) none (delH H1 a) := fun a t na nt ne =>
  ⟨a, C, t, rfl, upd_same, fr0_none (h0 a na), r, by rw [del_new2 na ne]; exact k _ (same_new nt)⟩
theorem none_of {H H' : Hp} {a : Addr} (s : Same H H') (n : H' a = none) : H a = none := by
  cases e : H a with
  | none => rfl
  | some o =>
    rw [s a o e] at n
    cases n
def spNeed (K : PySem.W.Frag) (CO : Addr) : Sp := fun vs H Q E => ∃ v d, vs = [v] ∧ Dd K H v d ∧ Fn 2 d ∧ (seenD d = false → ∀ H', Same H H' → E (.ref CO) none H') ∧ (seenD d = true → ∀ H', Same H H' → Q .non H')
theorem scNeed : FnScope ["seen"] ["seen"] (defScope sNeed) := ⟨rfl, rfl, rfl, by decide +kernel, rfl, by decide +kernel, by decide +kernel⟩
theorem ok_need {CO f fS : Addr} {fd dS : FuncData} (F : Fun K "_need_seen" "_need_seen" sNeed f fd) (GS : FnOk P w K mg base CX0 3 fS dS ["value"] (spJn K 2 seenD)) (kS : PySem.W.keepIn K (.ref fS) = true) (bS : Binds K dS ["value"] []) (gS : mg "is_seen" = some (.ref fS)) (pO : Pl K mg "InvalidOperation" CO) :
    FnOk P w K mg base (L2.CX P w) 4 f fd ["seen"] (spNeed K CO) := by
  refine F.okX scNeed (fun vs H Q E h => ?_) (fun cdv A outer s H vs Q E hr h => ?_)
  · obtain ⟨v, d, rfl, _⟩ := h
    rfl
  · obtain ⟨v, d, rfl, hd, hf, k0, k1⟩ := h
    refine ⟨_, pss_one (ps_if (pt_not (pt_val (pe_call GS hr rfl gS kS bS .nil pass0 (pa_cons (pv 0) pa_nil)))) (pss_one (ps_raise rfl (takes_of rfl rfl rfl rfl) (pmk_exq0 rfl (pe_exP PySem.F.excBase_ValueError pO.q pO.hi pO.ex.kC pO.g rfl pe_str)))) pss_nil), ?_⟩
    refine ⟨_, rfl, v, d, rfl, hd, hf, fun H1 s1 => ⟨_, rfl, ?_⟩⟩
    cases q : seenD d with
    | true => exact iteF (k1 q H1 s1)
    | false => exact iteT (rd_pl (raises_own pO.ex.ex pO.ty) (fun a n => none_of s1 n) fun H2 s2 => k0 q H2 (s1.trans s2))
end
end K0

namespace K0
open PySem PySem.Spec PyProof.Rows L2 DW RZ
def tkOf (d : PyData) : Int := match d with
  | .tuple [.int t, _] => t | _ => 0
def untilD (i : Int) (ds : List PyData) : List PyData := ds.filter fun e => decide (tkOf e ≤ i)
def lookV (ds : List PyData) (z : Str) : V := match ds.find? fun e => decide (nameOf e = z) with
  | some e => .int (tkOf e) | none => .non
/-- what is known of the error with a number -/
structure Ow (P : Program) (w : World) (K : PySem.W.Frag) (mg : Str → Option Value) (base : Heap) (C fI : Addr) (fdI : FuncData) : Prop where
  ex : ExK K C
  g : mg "InvalidNumber" = some (.ref C)
  q : exnB K C "RuntimeError.__new__" "RuntimeError" "RuntimeError" = true
  hi : PySem.W.findIn K (.ref C) "__init__" = some (some (.ref fI))
  tf : PySem.W.typeIn K (.ref fI) = some (.type "function")
  b : Binds K fdI ["self", "given"] []
  G : FnOk P w K mg base CX0 2 fI fdI ["self", "given"] (spIni0 C)
  ty : PySem.W.typeIn K (.ref C) = some (.type "type")
section
variable {P : Program} {w : World} {K : PySem.W.Frag} {mg : Str → Option Value} {base : Heap}
/-- raise InvalidNumber(e) -/
theorem rd_ow {X : Cx} {C : Addr} {i : Nat} {v : V} {d : PyData} {σ : L2.St} {H : Hp} {Q : XK} (hv : σ[i]? = some (some v)) (sv : Sv v d) (hs : d.showable = true) (hl : d.shown.length ≤ 10000) (r : Raises X (.ref C)) (h0 : ∀ a, H a = none → X.H_0 a = none)
    (k : ∀ (H' : Hp) (dx : Addr), Same H H' → H dx = none → H' dx = some (.xd [("given", v)]) → Q (.ref C) (some dx) H') :
    tExI C (spIni0 C) (tVar i) σ H fun x H1 => ∃ (a C dx t : Addr) (fs : List (Str × V)), x = .ref a ∧ H1 a = some (exq a C (some dx) t) ∧ H1 dx = some (exd dx fs) ∧ Fr0 X.H_0 a ∧ Raises X (.ref C) ∧ Q (.ref C) (some dx) (upd (delH H1 a) dx (.xd fs)) := by
  refine ⟨v, hv, fun a t na nt ne => ?_⟩
  refine ⟨a, v, t, d, rfl, upd_same, sv, hs, hl, fun H' dx t' kp ndx ha hd => ⟨rfl, a, C, dx, t', [("given", v)], rfl, ha, hd, fr0_none (h0 a na), r, ?_⟩⟩
  have dxa : dx ≠ a := fun z => by rw [z, upd_same] at ndx; cases ndx
  have dxt : dx ≠ t := fun z => by rw [z, upd_ne ne, upd_same] at ndx; cases ndx
  have ndH : H dx = none := by rw [upd_ne dxa, upd_ne dxt] at ndx; exact ndx
  refine k _ dx (fun b o e => ?_) ndH upd_same
  have ba : b ≠ a := ne_of_none e na
  have bt : b ≠ t := ne_of_none e nt
  have bd : b ≠ dx := ne_of_none e ndH
  rw [upd_ne bd, delH_ne ba]
  exact kp b o ba (by rw [upd_ne ba, upd_ne bt]; exact e)
/-- [pair for pair in seen if pair[0] <= tick] -/
theorem rd_until {a : Addr} {xs : List V} {ds : List PyData} {H : Hp} {i : Int} {x2 : Option V} {Q : VK} (ha : SqT K H a xs) (hp : DpAll K H xs ds) (hl : ds.length ≤ 1000) (h2 : ds.all tnD = true)
    (k : ∀ D H' ys, Same H H' → H' D = some (.lst ys) → DpAll K H' ys (untilD i ds) → (∀ y ∈ ys, y ∈ xs) → Q (.ref D) H') :
    tLc (iTup K (tVar 0)) (gName 2) (tTest (tOp (rI0 fun i j => .bl (decide (i ≤ j))) (tOp (rIxT K) (tVar 2) (tC (.int 0))) (tVar 1))) (tVar 2) [2] [some (.ref a), some (.int i), x2] H Q := by
  refine ⟨_, rfl, a, rfl, ⟨xs, ha⟩, fun D hD => lc_tup (K := K) (xs := xs) (fun j H' => Same H H' ∧ ∃ ys, H' D = some (.lst ys) ∧ ys.length ≤ j ∧ DpAll K H ys (untilD i (ds.take j)) ∧ ∀ y ∈ ys, y ∈ xs) ⟨same_new hD, [], upd_same, Nat.le_refl _, by simpa [untilD] using DpAll.nil, fun y m => by cases m⟩ (fun j H' _ p => sqT_same p.1 ha)
    (fun j x H' hx p => ⟨rfl, ?_⟩) (fun H' p => ?_)⟩
  · obtain ⟨s1, ys, hy, hly, hdy, hin⟩ := p
    obtain ⟨d, hd, hr⟩ := DpAll.at hp hx
    have hj : j < xs.length := by
      rcases Nat.lt_or_ge j xs.length with q | q
      · exact q
      · rw [List.getElem?_eq_none q] at hx; cases hx
    have hxl := DpAll.length hp
    rw [List.all_eq_true] at h2
    obtain ⟨t, n, rfl⟩ := tn_inv (h2 d (List.mem_of_getElem? hd))
    obtain ⟨b, u1, u2, rfl, hb, r1, r2⟩ := two_inv (Dp.same s1 hr)
    cases r1
    refine ⟨_, rfl, b, _, 0, .int t, rfl, rfl, hb, rfl, _, rfl, _, _, rfl, rfl, _, rfl, ?_⟩
    have e : untilD i (ds.take (j + 1)) = untilD i (ds.take j) ++ if decide (t ≤ i) = true then [.tuple [.int t, .str n]] else [] := by
      unfold untilD
      rw [takeSucc hd, List.filter_append]
      congr 1
      rw [List.filter_cons, List.filter_nil]
      show (if decide (t ≤ i) = true then [PyData.tuple [.int t, .str n]] else []) = _
      rfl
    refine ite2 (fun q => ?_) fun q => ?_
    · rw [if_pos (by first | exact q | exact decide_eq_true q)] at e
      refine ⟨_, rfl, ys, hy, by rw [sizeLine_eq]; omega, same_mut s1 hD, ys ++ [.ref b], upd_same, by rw [List.length_append]; show ys.length + 1 ≤ _; omega, ?_, fun y m => ?_⟩
      · rw [e]
        exact DpAll.snoc hdy hr
      · rcases List.mem_append.mp m with m | m
        · exact hin y m
        · rw [List.mem_singleton.mp m]
          exact List.mem_of_getElem? hx
    · rw [if_neg (by first | exact q | (intro z; exact q (of_decide_eq_true z)) | (rw [q]; exact Bool.false_ne_true)), List.append_nil] at e
      exact ⟨s1, ys, hy, by omega, by rw [e]; exact hdy, hin⟩
  · obtain ⟨s1, ys, hy, _, hdy, hin⟩ := p
    rw [DpAll.length hp, List.take_length] at hdy
    exact k D H' ys s1 hy (DpAll.same s1 hdy) hin
def spUntil (K : PySem.W.Frag) (CO CN : Addr) : Sp := fun vs H Q E => ∃ v d t dt, vs = [v, t] ∧ Dd K H v d ∧ Fn 2 d ∧ Sv t dt ∧ Fit dt ∧ dt.showable = true ∧ dt.shown.length ≤ 10000 ∧ (seenD d = false → ∀ H', Same H H' → E (.ref CO) none H') ∧
  (seenD d = true → betD 0 (10 ^ 34) dt = false → ∀ (H' : Hp) (dx : Addr), Same H H' → H dx = none → H' dx = some (.xd [("given", t)]) → E (.ref CN) (some dx) H') ∧
  (∀ ds i, d = .tuple ds → dt = .int i → seenD d = true → betD 0 (10 ^ 34) dt = true → ∀ (H' : Hp) (p : Addr) (ys : List V), Same H H' → H p = none → H' p = some (.tup ys) → DpAll K H' ys (untilD i ds) → Q (.ref p) H')
theorem scUntil : FnScope ["seen", "tick", "pair"] ["seen", "tick"] (defScope sUntil) := ⟨rfl, rfl, rfl, by decide +kernel, rfl, by decide +kernel, by decide +kernel⟩
theorem seen_tup {d : PyData} (h : seenD d = true) : ∃ ds, d = .tuple ds ∧ ds.all tnD = true := by
  match d, h with
  | .tuple ds, h =>
    rw [seen_ris] at h
    have z : ((ds.all tnD && ascD ds) && decide (ds.length = newN (ds.map nameOf) ds.length)) = true := h
    simp only [Bool.and_eq_true] at z
    exact ⟨ds, rfl, z.1.1⟩
theorem bet0 {d : PyData} (h : betD 0 (10 ^ 34) d = true) : ∃ i, d = .int i := by
  cases d with
  | int i => exact ⟨i, rfl⟩
  | _ => cases h
theorem ok_until {CO CN fI f fS fT fN : Addr} {fd dS dT dN fdI : FuncData} (F : Fun K "seen_until" "seen_until" sUntil f fd) (GN : FnOk P w K mg base (L2.CX P w) 4 fN dN ["seen"] (spNeed K CO)) (kN : PySem.W.keepIn K (.ref fN) = true) (bN : Binds K dN ["seen"] []) (gN : mg "_need_seen" = some (.ref fN))
    (GT : FnOk P w K mg base CX0 2 fT dT ["value"] (spJ K (betD 0 (10 ^ 34)))) (kT : PySem.W.keepIn K (.ref fT) = true) (bT : Binds K dT ["value"] []) (gT : mg "is_tick" = some (.ref fT)) (o : Ow P w K mg base CN fI fdI) (zT : mg "tuple" = none) :
    FnOk P w K mg base (L2.CX P w) 5 f fd ["seen", "tick"] (spUntil K CO CN) := by
  refine F.okX scUntil (fun vs H Q E h => ?_) (fun cdv A outer s H vs Q E hr h => ?_)
  · obtain ⟨v, d, t, dt, rfl, _⟩ := h
    rfl
  · obtain ⟨v, d, t, dt, rfl, hd, hf, sv, ft, hs, hl, k0, k1, k2⟩ := h
    have hr2 : Room 2 _ := hr.mono (by decide)
    have hr3 : Room 3 _ := hr.mono (by decide)
    refine ⟨_, pss_cons (ps_expr (pe_callS GN hr rfl gN kN bN (fun σ => passAt (takes_of rfl rfl rfl rfl) σ) (pa_cons (pv 0) pa_nil)))
      (pss_cons (ps_if (pt_not (pt_val (pe_call GT hr2 rfl gT kT bT .nil pass0 (pa_cons (pv 1) pa_nil)))) (pss_one (ps_raise rfl (takes_of rfl rfl rfl rfl) (pmk_exq rfl (pe_exI0 PySem.F.excBase_RuntimeError o.q o.hi o.tf o.ex.kC o.g rfl o.G hr3 o.b (pv 1))))) pss_nil)
      (pss_one (ps_ret (pe_callTy call_tuple_of (by rfl) zT (by decide +kernel) (pa_cons (pe_lc (own := [("pair", 2)]) (g := gName 2) rfl scUntil.nd (pi_tup (pv 0)) (blkOk_by (own := [("pair", 2)]) (N := ["seen", "tick", "pair"]) (sc := defScope sUntil) (by decide +kernel))
          (fun _ _ _ _ _ => pg_name (i := 2) scUntil.nd rfl (Or.inl rfl)) (fun _ _ _ _ _ => pts_one (pt_cmpR op_le (pe_ix (r := rIxT K) ix_tup (pv 2) pe_int (fun _ _ => rfl)) (pv 1) (nomark _))) (fun _ _ _ _ _ => pv 2)) pa_nil))))), ?_⟩
    refine ⟨v, rfl, v, d, rfl, hd, hf, k0, fun q H1 s1 => ?_⟩
    obtain ⟨ds, rfl, h2⟩ := seen_tup q
    obtain ⟨a, xs, rfl, hs1, ha, hn⟩ := hd.tup_inv
    obtain ⟨hlen, _⟩ := hf.2 ds rfl
    refine ⟨_, rfl, t, dt, rfl, sv.dd, ft, fun H2 s2 => ⟨_, rfl, ?_⟩⟩
    have s12 := s1.trans s2
    cases c : betD 0 (10 ^ 34) dt with
    | false => exact iteT (rd_ow (i := 1) rfl sv hs hl (raises_own o.ex.ex o.ty) (fun a n => none_of s12 n) fun H3 dx s3 n3 hx => k1 q c H3 dx (s12.trans s3) (none_of s12 n3) hx)
    | true =>
      obtain ⟨i, rfl⟩ := bet0 c
      cases sv
      refine iteF (rd_nx ?_)
      show tLc (iTup K (tVar 0)) (gName 2) (tTest (tOp (rI0 fun i j => .bl (decide (i ≤ j))) (tOp (rIxT K) (tVar 2) (tC (.int 0))) (tVar 1))) (tVar 2) [2] [some (.ref a), some (.int i), none] H2 fun x H3 => rTupOf K [x] H3 Q
      refine rd_until (K := K) (sqT_same s12 hs1) (DpAll.same s12 ha) hlen h2 fun D H3 ys s3 hD hy _ => ⟨D, ys, rfl, .inl ⟨SqL.of hD, fun p np => ?_⟩⟩
      have s4 := same_new (o := .tup ys) np
      exact k2 ds i rfl rfl q c _ p ys (s12.trans (s3.trans s4)) (none_of (s12.trans s3) np) upd_same (DpAll.same s4 hy)
end
end K0

namespace K0
open PySem PySem.Spec PyProof.Rows L2 DW RZ
section
variable {P : Program} {w : World} {K : PySem.W.Frag} {mg : Str → Option Value} {base : Heap}
def spTickOf (K : PySem.W.Frag) (CO CA : Addr) : Sp := fun vs H Q E => ∃ v d t dt, vs = [v, t] ∧ Dd K H v d ∧ Fn 2 d ∧ Dd K H t dt ∧ Fit dt ∧ (seenD d = false → ∀ H', Same H H' → E (.ref CO) none H') ∧
  (seenD d = true → isNameD dt = false → ∀ H', Same H H' → E (.ref CA) none H') ∧
  (∀ ds z, d = .tuple ds → dt = .str z → seenD d = true → isNameD dt = true → ∀ H', Same H H' → Q (lookV ds z) H')
theorem scTickOf : FnScope ["seen", "name", "tick", "other"] ["seen", "name"] (defScope sTickOf) := ⟨rfl, rfl, rfl, by decide +kernel, rfl, by decide +kernel, by decide +kernel⟩
theorem name_str {d : PyData} (h : isNameD d = true) : ∃ z, d = .str z := by
  cases d with
  | str z => exact ⟨z, rfl⟩
  | _ => cases h
abbrev tLook (K : PySem.W.Frag) : TS := tFor (iTup K (tVar 0)) (gTup K 2 (gCons (gName 2) (gCons (gName 3) gNil))) (tIfS (tTest (tOp rEq (tVar 3) (tVar 1))) (tRet (tVar 2)) tNext)
theorem rd_look {a : Addr} {xs : List V} {ds : List PyData} {H : Hp} {z : Str} {x2 x3 : Option V} {D : Ends} (ha : SqT K H a xs) (hp : DpAll K H xs ds) (h2 : ds.all tnD = true)
    (k1 : ∀ i e H', ds.find? (fun e => decide (nameOf e = z)) = some e → tkOf e = i → Same H H' → D.rt (.int i) H') (k0 : ∀ y2 y3 H', ds.find? (fun e => decide (nameOf e = z)) = none → Same H H' → D.nx [some (.ref a), some (.str z), y2, y3] H') : tLook K D [some (.ref a), some (.str z), x2, x3] H := by
  refine ⟨_, rfl, a, rfl, ⟨xs, ha⟩, for_tup (K := K) (xs := xs) (fun j σ' H' => Same H H' ∧ (∃ y2 y3, σ' = [some (.ref a), some (.str z), y2, y3]) ∧ (ds.take j).find? (fun e => decide (nameOf e = z)) = none) ⟨Same.refl H, ⟨_, _, rfl⟩, rfl⟩ (fun j σ' H' _ p => sqT_same p.1 ha) (fun j x σ' H' hx p => ?_) (fun σ' H' p => ?_)⟩
  · obtain ⟨s1, ⟨y2, y3, rfl⟩, hno⟩ := p
    obtain ⟨d, hd, hr⟩ := DpAll.at hp hx
    rw [List.all_eq_true] at h2
    obtain ⟨t, n, rfl⟩ := tn_inv (h2 d (List.mem_of_getElem? hd))
    obtain ⟨b, u1, u2, rfl, hb, r1, r2⟩ := two_inv (Dp.same s1 hr)
    cases r1
    cases r2
    have hfind : (ds.take (j + 1)).find? (fun e => decide (nameOf e = z)) = if decide (n = z) = true then some (PyData.tuple [.int t, .str n]) else none := by
      rw [takeSucc hd, List.find?_append, hno, Option.none_or]
      show (List.find? _ [PyData.tuple [.int t, .str n]]) = _
      rw [List.find?_cons, List.find?_nil]
      show (match decide (n = z) with | true => _ | false => _) = _
      cases decide (n = z) <;> rfl
    refine ⟨b, _, rfl, hb, rfl, _, _, rfl, _, _, rfl, rfl, ?_⟩
    refine ⟨_, rfl, _, rfl, rfl, _, rfl, ?_⟩
    rw [dec_strV]
    cases c : decide (n = z) with
    | true =>
      rw [c] at hfind
      refine iteT ⟨_, rfl, k1 t (.tuple [.int t, .str n]) H' ?_ rfl s1⟩
      have e := List.take_append_drop (j + 1) ds
      rw [← e, List.find?_append, hfind]
      rfl
    | false =>
      rw [c] at hfind
      exact iteF ⟨s1, ⟨_, _, rfl⟩, hfind⟩
  · obtain ⟨s1, ⟨y2, y3, rfl⟩, hno⟩ := p
    rw [DpAll.length hp, List.take_length] at hno
    exact k0 y2 y3 H' hno s1
theorem ok_tickof {CO CA f fS fT fN : Addr} {fd dT dN : FuncData} (F : Fun K "tick_of" "tick_of" sTickOf f fd) (GN : FnOk P w K mg base (L2.CX P w) 4 fN dN ["seen"] (spNeed K CO)) (kN : PySem.W.keepIn K (.ref fN) = true) (bN : Binds K dN ["seen"] []) (gN : mg "_need_seen" = some (.ref fN))
    (GT : FnOk P w K mg base CX0 1 fT dT ["value"] (spJ K isNameD)) (kT : PySem.W.keepIn K (.ref fT) = true) (bT : Binds K dT ["value"] []) (gT : mg "is_name" = some (.ref fT)) (pA : Pl K mg "InvalidName" CA) :
    FnOk P w K mg base (L2.CX P w) 5 f fd ["seen", "name"] (spTickOf K CO CA) := by
  refine F.okX scTickOf (fun vs H Q E h => ?_) (fun cdv A outer s H vs Q E hr h => ?_)
  · obtain ⟨v, d, t, dt, rfl, _⟩ := h
    rfl
  · obtain ⟨v, d, t, dt, rfl, hd, hf, hd2, ft, k0, k1, k2⟩ := h
    have hr1 : Room 1 _ := hr.mono (by decide)
    refine ⟨_, pss_cons (ps_expr (pe_callS GN hr rfl gN kN bN (fun σ => passAt (takes_of rfl rfl rfl rfl) σ) (pa_cons (pv 0) pa_nil)))
      (pss_cons (ps_if (pt_not (pt_val (pe_call GT hr1 rfl gT kT bT .nil pass0 (pa_cons (pv 1) pa_nil)))) (pss_one (ps_raise rfl (takes_of rfl rfl rfl rfl) (pmk_exq0 rfl (pe_exP PySem.F.excBase_ValueError pA.q pA.hi pA.ex.kC pA.g rfl pe_str)))) pss_nil)
      (pss_cons (ps_for (passes_of rfl) rfl (pi_tup (pv 0)) (pg_tup rfl (pgs_cons (pg_name (i := 2) scTickOf.nd rfl (Or.inl rfl)) (pgs_cons (pg_name (i := 3) scTickOf.nd rfl (Or.inl rfl)) pgs_nil)))
          (pss_one (ps_if (pt_cmpR op_eq (pv 3) (pv 1) (nomark _)) (pss_one (ps_ret (pv 2))) pss_nil)))
      (pss_one (ps_ret pe_non)))), ?_⟩
    refine ⟨v, rfl, v, d, rfl, hd, hf, k0, fun q H1 s1 => ?_⟩
    obtain ⟨ds, rfl, h2⟩ := seen_tup q
    obtain ⟨a, xs, rfl, hs1, ha, hn⟩ := hd.tup_inv
    have tsame : ∀ {H'}, Same H H' → Dd K H' t dt := fun {H'} s => by
      cases hd2 with
      | base h n => exact .base (Dp.same s h) n
      | dct h => exact .dct (s _ _ h)
    refine ⟨_, rfl, t, dt, rfl, tsame s1, ft, fun H2 s2 => ⟨_, rfl, ?_⟩⟩
    have s12 := s1.trans s2
    cases c : isNameD dt with
    | false => exact iteT (rd_pl (raises_own pA.ex.ex pA.ty) (fun a n => none_of s12 n) fun H3 s3 => k1 q c H3 (s12.trans s3))
    | true =>
      obtain ⟨z, rfl⟩ := name_str c
      have e : t = .str z := by cases hd2 with | base h _ => cases h; rfl
      subst e
      refine iteF (rd_nx ?_)
      refine rd_look (K := K) (sqT_same s12 hs1) (DpAll.same s12 ha) h2 (fun i e H3 he hi s3 => ?_) fun y2 y3 H3 he s3 => ?_
      · have z2 := k2 ds z rfl rfl q c H3 (s12.trans s3)
        unfold lookV at z2
        rw [he] at z2
        rw [← hi]
        exact z2
      · have z2 := k2 ds z rfl rfl q c H3 (s12.trans s3)
        unfold lookV at z2
        rw [he] at z2
        exact z2
end
end K0

namespace DW
open PySem PySem.Spec PyProof.Rows L2
/-! ### a def that is given a lambda: it calls it, and tells what it met -/
/-- what is told of an exception; Q: of the answer -/
def eMet (K : PySem.W.Frag) (CA CB CC : Addr) (f : Str) (Q : VK) : XK := fun cls d H => ∃ b1, PySem.W.exmOne K cls (.ref CA) = some b1 ∧ (b1 = true → ∀ p, H p = none → Q (.ref p) (upd H p (.tup [.str "name"]))) ∧ (b1 = false →
  ∃ b2, PySem.W.exmOne K cls (.ref CB) = some b2 ∧ (b2 = true → cls = .ref CB ∧ ∃ (dd : Addr) (fs : List (Str × V)) (v : V), d = some dd ∧ H dd = some (.xd fs) ∧ fs.lookup f = some v ∧ ∀ p, H p = none → Q (.ref p) (upd H p (.tup [.str "number", v]))) ∧ (b2 = false →
  ∃ b3, PySem.W.exmOne K cls (.ref CC) = some b3 ∧ (b3 = true → ∀ p, H p = none → Q (.ref p) (upd H p (.tup [.str "operation"]))) ∧ (b3 = false → False)))
def TMet (K : PySem.W.Frag) (CA CB CC : Addr) (f : Str) : (XK → Hp → VK → Prop) → Hp → VK → Prop := fun tl H Q =>
  tl (eMet K CA CB CC f Q) H fun v H1 => 2 ≤ sizeLine ∧ ∀ p, H1 p = none → Q (.ref p) (upd H1 p (.tup [.str "told", v]))
end DW
namespace K0
open PySem PySem.Spec PyProof.Rows L2 DW LamX
def topM (i : Nat) : Stmt := PySem.Challenge.pw_dawnway_k00_names_ticks_and_what_is_seen.main.body.getD i (.Pass ⟨0, 0, 0, 0⟩)
abbrev sMet : Stmt := topM 41
theorem scMet : FnScope ["call", "error"] ["call"] (defScope sMet) := ⟨rfl, rfl, rfl, by decide +kernel, rfl, by decide +kernel, by decide +kernel⟩
abbrev cxM (X : Cx) (g : Addr) (cdg : Value) (s : Shared) (H : Hp) : Cx := (cxOf C8.CX0 X.prog X.w X.K X.mg X.base ["call", "error"] "_law_met" (defScope sMet) g cdg X.A X.stack s H C8.E0).nox
theorem met_gives {X : Cx} {g CA CB CC : Addr} {cdg : Value} {q : Str} (hA : X.mg "InvalidName" = some (.ref CA)) (hB : X.mg "InvalidNumber" = some (.ref CB)) (hC : X.mg "InvalidOperation" = some (.ref CC)) (T : XfC X.K CB) (hno : PySem.W.findIn X.K (.ref CB) "given" = some none) :
    GivesTo X ["call", "error"] "_law_met" (defScope sMet) g cdg (defBody sMet) "call" q (TMet X.K CA CB CC "given") := by
  intro f c' s H Q tl act hc h
  refine ⟨_, pss_one (ps_try_mix (X := cxM X g cdg s H) (Wout := fun _ _ _ _ => False)
      (tb := fun W D σ H => ∃ Ech : XK, (∀ cls d σ' H', Ech cls d H' → W cls d σ' H') ∧ σ[0]? = some (some (.ref f)) ∧ H c' = some (CodeO c' q) ∧ tl Ech H fun v H1 => 2 ≤ sizeLine ∧ ∀ p, H1 p = none → D.rt (.ref p) (upd H1 p (.tup [.str "told", v])))
      rfl rfl LamX.takes0 (fun W pn xe tk _ => ?_)
      (.bare (c := .ref CA) ⟨rfl, by decide, .inl hA⟩ (fun a oe cls d pn _ _ => pss_one (ps_ret (pe_tup (pa_cons pe_str pa_nil))))
      (.named (c := .ref CB) (i := 1) scMet.nd rfl rfl ⟨rfl, by decide, .inl hB⟩ (fun a oe cls d pn hz hf => pss_one (ps_ret (pe_tup (pa_cons pe_str (pa_cons (pe_xf (X := cxM X g cdg s H) T hno hz hf (pv 1)) pa_nil)))))
      (.bare (c := .ref CC) ⟨rfl, by decide, .inl hC⟩ (fun a oe cls d pn _ _ => pss_one (ps_ret (pe_tup (pa_cons pe_str pa_nil)))) .nil)))), ?_⟩
  · refine ⟨fun pins s' σ H' D I h' => ?_⟩
    obtain ⟨Ech, hW, h1, h2, h3⟩ := h'
    exact (pss_one (ps_ret (pe_tup (pa_cons pe_str (pa_cons (act W pn xe Ech _ _ tk hW) pa_nil))))).run pins s' σ H' D I ⟨h1, h2, h3⟩
  · refine ⟨eMet X.K CA CB CC "given" Q, fun cls d σ' H' hw => ?_, rfl, hc, h⟩
    obtain ⟨b1, e1, y1, n1⟩ := hw
    refine ⟨b1, e1, fun hb a na => ⟨by show 1 ≤ sizeLine; decide, y1 hb⟩, fun hb => ?_⟩
    obtain ⟨b2, e2, y2, n2⟩ := n1 hb
    refine ⟨b2, e2, fun hb a na ln => ?_, fun hb => ?_⟩
    · obtain ⟨rfl, dd, fs, v, rfl, hd, l, y⟩ := y2 hb
      have at1 : (List.set σ' 1 (some (V.ref a)))[1]? = some (some (V.ref a)) := List.getElem?_set_self (by rw [ln]; exact (show 1 < 2 by decide))
      exact ⟨.ref a, at1, rfl, rfl, dd, fs, v, rfl, hd, l, by show 2 ≤ sizeLine; decide, y⟩
    · obtain ⟨b3, e3, y3, n3⟩ := n2 hb
      exact ⟨b3, e3, fun hb a na => ⟨by show 1 ≤ sizeLine; decide, y3 hb⟩, fun hb => (n3 hb).elim⟩
end K0

namespace DW
open PySem PySem.Spec PyProof.Rows L2 LamX
/-! ### all but the dice and the tables stays -/
def ButN (D : Addr) (H H' : Hp) : Prop := ∀ b o, b ≠ D → H b = some o → (∀ ps, o ≠ .tbl ps) → H' b = some o
theorem ButN.refl {D : Addr} {H : Hp} : ButN D H H := fun _ _ _ e _ => e
theorem ButN.trans {D : Addr} {H H1 H2 : Hp} (x : ButN D H H1) (y : ButN D H1 H2) : ButN D H H2 := fun b o n e t => y b o n (x b o n e t) t
theorem ExtN.butN {D : Addr} {H H' : Hp} (x : ExtN H H') : ButN D H H' := fun b o _ e t => x b o e t
theorem sqL_ext {K : PySem.W.Frag} {H H' : Hp} {a : Addr} {xs : List V} (s : ExtN H H') (h : SqL K H a xs) : SqL K H' a xs := by
  rcases h with (e | ⟨o, e⟩) | h
  · exact .inl (.inl (s _ _ e fun _ z => nomatch z))
  · exact .inl (.inr ⟨o, s _ _ e fun _ z => nomatch z⟩)
  · exact .inr h
theorem sqT_ext {K : PySem.W.Frag} {H H' : Hp} {a : Addr} {xs : List V} (s : ExtN H H') (h : SqT K H a xs) : SqT K H' a xs := by
  rcases h with (e | ⟨o, e⟩) | h
  · exact .inl (.inl (s _ _ e fun _ z => nomatch z))
  · exact .inl (.inr ⟨o, s _ _ e fun _ z => nomatch z⟩)
  · exact .inr h
mutual
theorem Dp.ext {K : PySem.W.Frag} {H H' : Hp} (s : ExtN H H') : ∀ {v : V} {d : PyData}, Dp K H v d → Dp K H' v d
  | _, _, .non => .non
  | _, _, .bl b => .bl b
  | _, _, .int i => .int i
  | _, _, .str x => .str x
  | _, _, .lst h a => .lst (sqL_ext s h) (DpAll.ext s a)
  | _, _, .tup h a => .tup (sqT_ext s h) (DpAll.ext s a)
theorem DpAll.ext {K : PySem.W.Frag} {H H' : Hp} (s : ExtN H H') : ∀ {vs : List V} {ds : List PyData}, DpAll K H vs ds → DpAll K H' vs ds
  | _, _, .nil => .nil
  | _, _, .cons a b => .cons (Dp.ext s a) (DpAll.ext s b)
end
theorem Dd.ext {K : PySem.W.Frag} {H H' : Hp} {v : V} {d : PyData} (s : ExtN H H') (h : Dd K H v d) : Dd K H' v d := by
  cases h with
  | base h n => exact .base (Dp.ext s h) n
  | dct h => exact .dct (s _ _ h fun _ z => nomatch z)
theorem Same.extN {H H' : Hp} (s : Same H H') : ExtN H H' := fun b o e _ => s b o e
theorem Tabs.same {T : List (Addr × Str)} {H H' : Hp} (t : Tabs T H) (s : Same H H') : Tabs T H' := t.ext fun b o e => s b o e
end DW
namespace K0
open PySem PySem.Spec PyProof.Rows L2 DW RZ LamX
theorem But.butN {D : Addr} {H H' : Hp} (b : But D H H') : ButN D H H' := fun c o n e _ => b c o n e
theorem tabs_but {T : List (Addr × Str)} {H H' : Hp} {D : Addr} (hD : Dc H D) (b : But D H H') (t : Tabs T H) : Tabs T H' := fun p hp => by
  obtain ⟨d0, d1, d2, eD⟩ := hD
  have ne : ∀ {c : Addr} {o : HO}, H c = some o → (∀ xs, o ≠ .lst xs) → c ≠ D := fun e n z => by rw [z, eD] at e; cases e; exact n _ rfl
  obtain ⟨ps, h1, h2, h3⟩ := t p hp
  refine ⟨ps, b _ _ (ne h1 fun xs z => nomatch z) h1, h2, fun pos cv hc => ?_⟩
  obtain ⟨c, e1, e2⟩ := h3 pos cv hc
  refine ⟨c, e1, b _ _ (ne e2 fun xs z => ?_) e2⟩
  unfold CodeO at z
  cases z
theorem Dc.ext {H H' : Hp} {D : Addr} (s : ExtN H H') (h : Dc H D) : Dc H' D := by
  obtain ⟨a, b, c, e⟩ := h
  exact ⟨a, b, c, s _ _ e fun _ z => nomatch z⟩
mutual
theorem Dq.butN {H H' : Hp} {D : Addr} (b : ButN D H H') (c : Dc H D) : ∀ {v : V} {d : PyData}, Dq H D v d → Dq H' D v d
  | _, _, .non => .non
  | _, _, .bl b => .bl b
  | _, _, .int i => .int i
  | _, _, .str x => .str x
  | _, _, .lst n e h => .lst n (b _ _ n e fun _ z => nomatch z) (DqAll.butN b c h)
  | _, _, .tup e h => .tup (b _ _ (tup_ne c e) e fun _ z => nomatch z) (DqAll.butN b c h)
theorem DqAll.butN {H H' : Hp} {D : Addr} (b : ButN D H H') (c : Dc H D) : ∀ {vs : List V} {ds : List PyData}, DqAll H D vs ds → DqAll H' D vs ds
  | _, _, .nil => .nil
  | _, _, .cons x y => .cons (Dq.butN b c x) (DqAll.butN b c y)
end
theorem Dv.butN {H H' : Hp} {D : Addr} {v : V} {d : PyData} (b : ButN D H H') (c : Dc H D) (h : Dv H D v d) : Dv H' D v d := by
  rcases h with h | ⟨a, kvs, rfl, rfl, e⟩
  · exact .inl (Dq.butN b c h)
  · refine .inr ⟨a, kvs, rfl, rfl, b _ _ ?_ e fun _ z => nomatch z⟩
    obtain ⟨d0, d1, d2, z⟩ := c
    rintro rfl
    rw [z] at e
    cases e
/-! ### what is told, as data -/
def intOf (d : PyData) : Int := match d with
  | .int i => i | _ => 0
def strOf (d : PyData) : Str := match d with
  | .str z => z | _ => ""
def itemsOf (d : PyData) : List PyData := match d with
  | .tuple ds => ds | _ => []
def lookD (ds : List PyData) (z : Str) : PyData := match ds.find? fun e => decide (nameOf e = z) with
  | some e => .int (tkOf e) | none => .none
def D1 (d dt : PyData) : PyData := if seenD d = true then (if betD 0 (10 ^ 34) dt = true then .tuple [.str "told", .tuple (untilD (intOf dt) (itemsOf d))] else .tuple [.str "number", dt]) else .tuple [.str "operation"]
def D2 (d du : PyData) : PyData := if seenD d = true then (if isNameD du = true then .tuple [.str "told", lookD (itemsOf d) (strOf du)] else .tuple [.str "name"]) else .tuple [.str "operation"]
/-- small enough -/
structure Sm (n m : Nat) (e : PyData) : Prop where
  short : e.leavesShort 50 = true
  wt : e.weight ≤ n
  dep : e.depth ≤ m
  sho : e.showable = true
  nd : e.hasDict = false
theorem Sm.one {n m : Nat} {e : PyData} (h : Sm n m e) : Sm (n + 10) (m + 1) (.tuple [.str "told", e]) := by
  have a := h.wt
  have b := h.dep
  refine ⟨?_, ?_, ?_, ?_, ?_⟩
  · simp only [PyData.leavesShort, PyData.leavesShortAll, Bool.and_eq_true]
    exact ⟨(nm_short ⟨by decide +kernel, by decide +kernel⟩ : (PyData.str "told").leavesShort 50 = true), h.short, trivial⟩
  · have w : (PyData.str "told").weight ≤ 4 := by decide +kernel
    rw [PyData.weight, PyData.weightAll, PyData.weightAll, PyData.weightAll]
    omega
  · simp only [PyData.depth, PyData.depthAll]
    omega
  · simp only [PyData.showable, PyData.showableAll, h.sho, Bool.and_self]
  · show (false || (e.hasDict || false)) = false
    rw [h.nd]
    rfl
theorem Sm.num {n m : Nat} {e : PyData} (h : Sm n m e) : Sm (n + 10) (m + 1) (.tuple [.str "number", e]) := by
  have a := h.wt
  have b := h.dep
  refine ⟨?_, ?_, ?_, ?_, ?_⟩
  · simp only [PyData.leavesShort, PyData.leavesShortAll, Bool.and_eq_true]
    exact ⟨(nm_short ⟨by decide +kernel, by decide +kernel⟩ : (PyData.str "number").leavesShort 50 = true), h.short, trivial⟩
  · have w : (PyData.str "number").weight ≤ 6 := by decide +kernel
    rw [PyData.weight, PyData.weightAll, PyData.weightAll, PyData.weightAll]
    omega
  · simp only [PyData.depth, PyData.depthAll]
    omega
  · simp only [PyData.showable, PyData.showableAll, h.sho, Bool.and_self]
  · show (false || (e.hasDict || false)) = false
    rw [h.nd]
    rfl
theorem Sm.mono {n m n' m' : Nat} {e : PyData} (h : Sm n m e) (a : n ≤ n') (b : m ≤ m') : Sm n' m' e := ⟨h.short, Nat.le_trans h.wt a, Nat.le_trans h.dep b, h.sho, h.nd⟩
theorem Sm.two {n n' m : Nat} {a b : PyData} (h : Sm n m a) (g : Sm n' m b) : Sm (n + n' + 2) (m + 1) (.list [a, b]) := by
  have h1 := h.wt
  have g1 := g.wt
  have h2 := h.dep
  have g2 := g.dep
  refine ⟨?_, ?_, ?_, ?_, ?_⟩
  · simp only [PyData.leavesShort, PyData.leavesShortAll, Bool.and_eq_true]
    exact ⟨h.short, g.short, trivial⟩
  · rw [PyData.weight, PyData.weightAll, PyData.weightAll, PyData.weightAll]
    omega
  · simp only [PyData.depth, PyData.depthAll]
    omega
  · simp only [PyData.showable, PyData.showableAll, h.sho, g.sho, Bool.and_self]
  · show (a.hasDict || (b.hasDict || false)) = false
    rw [h.nd, g.nd]
    rfl
theorem tn_it {e : PyData} (h : tnD e = true) : It e := by
  obtain ⟨i, z, rfl⟩ := tn_inv h
  have q : (betD 0 (10 ^ 34) (.int i) && isNameD (.str z)) = true := h
  rw [Bool.and_eq_true] at q
  obtain ⟨q1, q2⟩ := q
  have q3 : (decide ((0 : Int) ≤ i) && decide (i ≤ 10 ^ 34)) = true := q1
  rw [Bool.and_eq_true, decide_eq_true_eq, decide_eq_true_eq] at q3
  have q4 : nameS z = true := q2
  unfold nameS at q4
  simp only [Bool.and_eq_true, decide_eq_true_eq, List.all_eq_true] at q4
  refine it_pair ⟨by omega, by omega⟩ ⟨by omega, ?_⟩
  unfold PyData.strOk
  rw [Array.all_eq_true_iff_forall_mem]
  intro c hc
  have hin := q4.2.2.2.2 c (Array.mem_toList_iff.mpr hc)
  exact decide_eq_true ((gt_of (n := 100) (z := lettL) (by decide +kernel)).2 c hin)
theorem nd_all : ∀ {ds : List PyData}, (∀ e ∈ ds, e.hasDict = false) → PyData.hasDictAll ds = false
  | [], _ => rfl
  | d :: r, h => by
    show (d.hasDict || PyData.hasDictAll r) = false
    rw [h d (by simp), nd_all fun e m => h e (List.mem_cons_of_mem _ m)]
    rfl
theorem tn_nd {e : PyData} (h : tnD e = true) : e.hasDict = false := by
  obtain ⟨i, z, rfl⟩ := tn_inv h
  rfl
theorem sm_until {ds : List PyData} {i : Int} (h : ds.all tnD = true) (hl : ds.length ≤ 1000) : Sm 301000 2 (.tuple (untilD i ds)) := by
  rw [List.all_eq_true] at h
  have mem : ∀ e ∈ untilD i ds, tnD e = true := fun e m => h e (List.mem_filter.mp m).1
  have its : ∀ e ∈ untilD i ds, It e := fun e m => tn_it (mem e m)
  have ln : (untilD i ds).length ≤ ds.length := List.length_filter_le _ _
  have a := its_wt its
  have b := its_dep its
  refine ⟨?_, ?_, ?_, ?_, ?_⟩
  · simp only [PyData.leavesShort]
    exact its_short its
  · simp only [PyData.weight]
    omega
  · simp only [PyData.depth]
    omega
  · simp only [PyData.showable]
    exact its_sho its
  · show PyData.hasDictAll (untilD i ds) = false
    exact nd_all fun e m => tn_nd (mem e m)
theorem sm_look {ds : List PyData} {z : Str} (h : ds.all tnD = true) : Sm 200 0 (lookD ds z) := by
  unfold lookD
  cases e : ds.find? fun e => decide (nameOf e = z) with
  | none => exact ⟨by decide +kernel, by decide +kernel, by decide +kernel, by decide +kernel, rfl⟩
  | some e0 =>
    rw [List.all_eq_true] at h
    have m := List.mem_of_find?_eq_some e
    have t := h e0 m
    obtain ⟨i, y, rfl⟩ := tn_inv t
    have q : (betD 0 (10 ^ 34) (.int i) && isNameD (.str y)) = true := t
    rw [Bool.and_eq_true] at q
    have q3 : (decide ((0 : Int) ≤ i) && decide (i ≤ 10 ^ 34)) = true := q.1
    rw [Bool.and_eq_true, decide_eq_true_eq, decide_eq_true_eq] at q3
    have ti : Ti i := ⟨by omega, by omega⟩
    have w := ti_wt ti
    exact ⟨ti_short ti, by show (PyData.int i).weight ≤ 200; omega, by show (PyData.int i).depth ≤ 0; simp [PyData.depth], ti_sho ti, rfl⟩
theorem sm_str {z : Str} (h : Nm z) : Sm 20 0 (.str z) := ⟨nm_short h, nm_wt h, by simp [PyData.depth], rfl, rfl⟩
theorem sm_int {i : Int} (h : Ti i) : Sm 140 0 (.int i) := ⟨ti_short h, ti_wt h, by simp [PyData.depth], ti_sho h, rfl⟩
theorem sm_one {z : Str} (h : Nm z) : Sm 30 1 (.tuple [.str z]) := by
  have w := nm_wt h
  refine ⟨?_, ?_, ?_, ?_, rfl⟩
  · simp only [PyData.leavesShort, PyData.leavesShortAll, Bool.and_eq_true]
    exact ⟨nm_short h, trivial⟩
  · rw [PyData.weight, PyData.weightAll, PyData.weightAll]
    omega
  · simp [PyData.depth, PyData.depthAll]
  · rfl
theorem sm_d1 {d dt : PyData} (h : ∀ ds, d = .tuple ds → ds.length ≤ 1000) (g : Sm 140 0 dt) : Sm 301010 3 (D1 d dt) := by
  unfold D1
  cases q : seenD d with
  | false => exact (sm_one (z := "operation") ⟨by decide +kernel, by decide +kernel⟩).mono (by decide) (by decide)
  | true =>
    obtain ⟨ds, rfl, h2⟩ := seen_tup q
    cases c : betD 0 (10 ^ 34) dt with
    | false => exact (g.num).mono (by decide) (by decide)
    | true => exact (sm_until h2 (h ds rfl)).one
theorem sm_d2 {d du : PyData} : Sm 210 3 (D2 d du) := by
  unfold D2
  cases q : seenD d with
  | false => exact (sm_one (z := "operation") ⟨by decide +kernel, by decide +kernel⟩).mono (by decide) (by decide)
  | true =>
    obtain ⟨ds, rfl, h2⟩ := seen_tup q
    cases c : isNameD du with
    | false => exact (sm_one (z := "name") ⟨by decide +kernel, by decide +kernel⟩).mono (by decide) (by decide)
    | true => exact ((sm_look h2).one).mono (by decide) (by decide)
theorem sm_both {d dt du : PyData} (h : ∀ ds, d = .tuple ds → ds.length ≤ 1000) (g : Sm 140 0 dt) : Sm 301222 4 (.list [D1 d dt, D2 d du]) := (sm_d1 h g).two sm_d2
theorem Sm.shown {n m : Nat} {e : PyData} (h : Sm n m e) (hn : n ≤ 310000) : e.shown.length ≤ sizeLine := shown_50 h.short h.wt hn
end K0

namespace DW
open PySem PySem.Spec PyProof.Rows L2
section
variable {P : Program} {w : World} {K : PySem.W.Frag} {mg : Str → Option Value} {base : Heap}
/-- as fng, and the body is told where its code object stands -/
theorem fngL {x qual : Str} {st : Stmt} {f : Addr} {fd : FuncData} {N ps : List Str} {k : Nat} {sp : Sp} (F : Fun K x qual st f fd) (S : FnScope N ps (defScope st)) (len : ∀ vs H Q, sp vs H Q E0 → vs.length = ps.length)
    (hbody : ∀ (cdv : Value) (A : Around) (outer : List Env) (s : Shared) (H : Hp) (vs : List V) (Q : VK), (∃ oc od kV doc pm an ct osl, K.lookup f = some ⟨oc, od, .func (PySem.W.fnOf x qual (defArgs st) (defBody st) (defScope st) .none kV doc pm an cdv ct), osl⟩) →
      Room k (A.deeper (envOfC qual (defScope st) s.heap.objs.size f cdv)) → A.guards = some [] → sp vs H Q E0 →
      ∃ t, PSs (cxOf CX0 P w K mg base N qual (defScope st) f cdv A outer s H E0).nox (defBody st) t ∧ t { nx := fun _ H' => Q .non H', rt := Q } (start N vs) H) : FnG P w K mg base (k + 1) f fd ps sp := by
  obtain ⟨oc, od, kV, doc, pm, an, cdv, ct, osl, rfl, lk, hcd⟩ := F.ex
  refine ⟨len, fun A outer s H args us vs Q hr hg env0 hb r hsp => ?_⟩
  have inK : K.In s.heap := env0.mod.kin.keeps fun a o q => (env0.bs a o q).1
  have lim : s.heap.NoLimit := env0.mod.nolimit.keeps fun a o q => (env0.bs a o q).1
  have hk : ∀ y ∈ ps.zip us, (defScope st).names.lookup y.1 = some .local ∨ ((defScope st).names.lookup y.1 = some .cell ∧ ((cellsFrom (s.heap.objs.size + 1) (defScope st).names []).lookup y.1).isSome = true) := fun ⟨n, v⟩ hy => by
    rcases S.par n (List.of_mem_zip hy).1 with q | q
    · exact Or.inl q
    · exact Or.inr ⟨q, PySem.W.cellsFrom_some _ _ _ (Or.inl q)⟩
  refine codeAny_call_function hr.depth (inK _ _ lk) rfl S.co S.gen rfl (PySem.W.codeRec_of inK hcd) (hb _ _ _ _ (wpAny_newFunctionEnv_cells S.kind hk fun env he s1 x => ?_))
  subst he
  refine ⟨lim.keeps x.toInCall.keep, codeAny_func ?_⟩
  obtain ⟨t, ht, hq⟩ := hbody cdv A outer s H vs Q ⟨oc, od, kV, doc, pm, an, ct, osl, lk⟩ (hr.deeper _) hg hsp
  have I0 : Inv (cxOf CX0 P w K mg base N qual (defScope st) f cdv A outer s H E0) [] (start N vs) H s1 := inv_start S hr.hd env0 (len _ _ _ hsp) r x
  refine wpAny_mono (ht.nox.run [] s1 (start N vs) H _ I0 hq) (fun fl s' hs => ?_) fun e s' z => z
  cases fl with
  | ret u => obtain ⟨v, σ', H', J, rv, q⟩ := hs; exact ⟨v, H', J.os, J.bare, J.base, J.hok, rv, q⟩
  | next => obtain ⟨σ', H', J, q⟩ := hs; exact ⟨V.non, H', J.os, J.bare, J.base, J.hok, rfl, q⟩
  | brk => obtain ⟨_, _, _, q⟩ := hs; exact q.elim
  | cont => obtain ⟨_, _, _, q⟩ := hs; exact q.elim
end
end DW
namespace K0
open PySem PySem.Spec PyProof.Rows L2 DW RZ LamX
abbrev sRight : Stmt := top 42
section
variable {P : Program} {w : World} {K : PySem.W.Frag} {mg : Str → Option Value} {base : Heap}
def spRight (T : List (Addr × Str)) : Sp := fun vs H Q _ => ∃ D v d, vs = [.ref D, v] ∧ Dc H D ∧ Dv H D v d ∧ Fine d ∧ Tabs T H ∧ ∀ H', ButN D H H' → Dc H' D → Tabs T H' → Q (.bl true) H'
theorem scRight : FnScope ["dice", "value", "some", "pair", "tick", "name", "first", "second", "held", "found", "told"] ["dice", "value"] (defScope sRight) := ⟨rfl, rfl, rfl, by decide +kernel, rfl, by decide +kernel, by decide +kernel⟩
/-- what is known of the table of the def's code object -/
structure Tk (K : PySem.W.Frag) (base : Heap) (mg : Str → Option Value) (T : List (Addr × Str)) (x qual : Str) (st : Stmt) (f c Pt : Addr) : Prop where
  tb : TabB base mg c Pt
  mem : (Pt, qual ++ ".<locals>." ++ "<lambda>") ∈ T
  un : ∀ p ∈ T, p.1 = Pt → p.2 = qual ++ ".<locals>." ++ "<lambda>"
  code : ∀ oc od kV doc pm an cdv ct osl, K.lookup f = some ⟨oc, od, .func (PySem.W.fnOf x qual (defArgs st) (defBody st) (defScope st) .none kV doc pm an cdv ct), osl⟩ → cdv = .ref c
end
end K0

namespace K0
open PySem PySem.Spec PyProof.Rows L2 DW RZ LamX
section
variable {P : Program} {w : World} {K : PySem.W.Frag} {mg : Str → Option Value} {base : Heap}
/-- a pick of a list, also of a longer one -/
def spPickB : Sp := fun vs H Q _ => ∃ (D p : Addr) (xs : List V), vs = [.ref D, .ref p] ∧ Dc H D ∧ p ≠ D ∧ H p = some (.lst xs) ∧ 0 < xs.length ∧ xs.length < 100000 ∧ ∀ u H', u ∈ xs → But D H H' → Dc H' D → Q u H'
theorem ok_pickB {f fR : Addr} {fd fdR : FuncData} (F : Fun K "_law_pick" "_law_pick" sPick f fd) (FR : Fun K "_law_roll" "_law_roll" sRoll fR fdR) (bR : Binds K fdR ["dice", "total"] []) (gR : mg "_law_roll" = some (.ref fR)) (zL : mg "len" = none) :
    FnOk P w K mg base CX0 2 f fd ["dice", "items"] spPickB := by
  have GR : FnOk P w K mg base CX0 1 fR fdR ["dice", "total"] spRoll := ok_roll FR
  refine F.ok scPick (fun vs H Q E h => ?_) (fun cdv A outer s H vs Q E hr h => ?_)
  · obtain ⟨D, p, xs, rfl, _⟩ := h
    rfl
  · obtain ⟨D, p, xs, rfl, ⟨d0, d1, d2, eD⟩, ne, hp, l0, l1, k⟩ := h
    refine ⟨_, pss_one (ps_ret (pe_ix ix_seq (pv 1) (pe_call GR hr rfl gR FR.kp bR .nil pass0 (pa_cons (pv 0) (pa_cons (pe_callB call_len (by rfl) zL PySem.boot_len (pa_cons (pv 1) pa_nil)) pa_nil))) (fun _ _ => rfl))), ?_⟩
    refine ⟨_, rfl, _, rfl, _, rfl, _, xs.length, rfl, .inl ⟨xs, SqL.of hp, rfl⟩, D, d0, d1, d2, _, rfl, eD, by omega, by omega, fun r e0 e2 r0 r1 => .inl ?_⟩
    obtain ⟨n, rfl⟩ : ∃ n : Nat, r = n := ⟨r.toNat, by omega⟩
    have hn : n < xs.length := by omega
    exact ⟨p, xs, _, _, rfl, rfl, SqL.of (by rw [upd_ne ne]; exact hp), atI_nat (List.getElem?_eq_getElem hn), k _ _ (List.getElem_mem hn) But.upd ⟨e0, d1, e2, upd_same⟩⟩
abbrev sR (D : Addr) (v : V) (a b c d e f g h i : Option V) : L2.St := [some (.ref D), some v, a, b, c, d, e, f, g, h, i]
/-- a tick that is drawn -/
structure Tkv (u : V) (du : PyData) : Prop where
  sv : Sv u du
  sm : Sm 140 0 du
  fit : Fit du
theorem Tkv.shown {u : V} {du : PyData} (h : Tkv u du) : du.shown.length ≤ 10000 := by
  have a := PyData.shown_le 50 (by decide) du h.sm.short
  have b : (50 + 2) * du.weight ≤ 52 * 140 := Nat.mul_le_mul (Nat.le_refl _) h.sm.wt
  omega
theorem tkv_int {i : Int} (h : Ti i) : Tkv (.int i) (.int i) := ⟨.int i, sm_int h, fun z e => by cases e⟩
abbrev tR1 (K : PySem.W.Frag) : TE := tIf (tB (tCall (spOk K seenD SeenOk) [] E0 (tCons (tVar 1) tNil))) (tLc (iTup K (tVar 1)) (gName 3) tYes (tOp (rIxT K) (tVar 3) (tC (.int 0))) [3]) (tLst tNil)
theorem tn_ti {i : Int} {z : Str} (h : tnD (.tuple [.int i, .str z]) = true) : Ti i := by
  have q : (betD 0 (10 ^ 34) (.int i) && isNameD (.str z)) = true := h
  rw [Bool.and_eq_true] at q
  have q3 : (decide ((0 : Int) ≤ i) && decide (i ≤ 10 ^ 34)) = true := q.1
  rw [Bool.and_eq_true, decide_eq_true_eq, decide_eq_true_eq] at q3
  exact ⟨by omega, by omega⟩
/-- [pair[0] for pair in value] if .. else [] -/
theorem rr_1 {H : Hp} {D : Addr} {v : V} {d : PyData} {a b c e f g h i j : Option V} {Q : VK} (hD : Dc H D) (hv : Dv H D v d) (fn : Fine d) (k : ∀ (L : Addr) (us : List V) (H' : Hp), L ≠ D → H' L = some (.lst us) → us.length ≤ 1000 → (∀ u ∈ us, ∃ i, u = .int i ∧ Ti i) → Same H H' → Q (.ref L) H') :
    tR1 K (sR D v a b c e f g h i j) H Q := by
  obtain ⟨fn2, okd, so, _⟩ := fn
  refine ⟨v, rfl, v, d, rfl, hv.dd, so, fun H1 s1 => ⟨_, rfl, ?_⟩⟩
  have d1 := hD.same s1
  cases q : seenD d with
  | false => exact iteF ⟨by show 0 ≤ sizeLine; decide, fun p np => k p [] _ (new_ne d1 np) upd_same (by decide) (fun u m => by cases m) (s1.trans (same_new np))⟩
  | true =>
    obtain ⟨ds, rfl, h2⟩ := seen_tup q
    obtain ⟨t0, xs, rfl, hs, ha, hn⟩ := (hv.dd (K := K)).tup_inv
    obtain ⟨hl, _⟩ := fn2.2 ds rfl
    have hxl := DpAll.length ha
    have hs1 := sqT_same s1 hs
    have ha1 := DpAll.same s1 ha
    refine iteT ⟨_, rfl, t0, rfl, ⟨xs, hs1⟩, fun L nL => lc_tup (K := K) (xs := xs) (fun n H' => Same H1 H' ∧ ∃ us, H' L = some (.lst us) ∧ us.length = n ∧ ∀ u ∈ us, ∃ i, u = .int i ∧ Ti i) ⟨same_new nL, [], upd_same, rfl, fun u m => by cases m⟩ (fun n H' _ p => sqT_same p.1 hs1)
      (fun n x H' hx p => ⟨rfl, tyes ?_⟩) (fun H' p => ?_)⟩
    · obtain ⟨s2, us, hu, hln, hin⟩ := p
      obtain ⟨e0, he, hr⟩ := DpAll.at ha1 hx
      rw [List.all_eq_true] at h2
      have ht := h2 e0 (List.mem_of_getElem? he)
      obtain ⟨t, m, rfl⟩ := tn_inv ht
      obtain ⟨b0, u1, u2, rfl, hb, r1, r2⟩ := two_inv (Dp.same s2 hr)
      cases r1
      have hj : n < xs.length := by
        rcases Nat.lt_or_ge n xs.length with q | q
        · exact q
        · rw [List.getElem?_eq_none q] at hx; cases hx
      refine ⟨_, rfl, b0, _, 0, .int t, rfl, rfl, hb, rfl, us, hu, by rw [sizeLine_eq]; omega, same_mut s2 nL, us ++ [.int t], upd_same, by rw [List.length_append, hln]; rfl, fun u m => ?_⟩
      rcases List.mem_append.mp m with m | m
      · exact hin u m
      · rw [List.mem_singleton.mp m]
        exact ⟨t, rfl, tn_ti ht⟩
    · obtain ⟨s2, us, hu, hln, hin⟩ := p
      exact k L us H' (new_ne d1 nL) hu (by omega) hin (s1.trans s2)
abbrev tR2 (K : PySem.W.Frag) : TE := tCall spPickB [] E0 (tCons (tVar 0) (tCons (tOp rCat (tVar 2) (tLst (tCons (tC (.int 0)) (tCons (tC (.int 3)) (tCons (tPw 34) (tCons (tOp (rI0 fun i j => .int (i + j)) (tPw 34) (tC (.int 1))) (tCons (tUn (rU fun i => .int (-i)) (tC (.int 1))) (tCons (tC (.bl true)) (tCons (tC .non) (tCons (tC (.str "2")) tNil)))))))))) tNil))
theorem rr_2 {H : Hp} {D L : Addr} {v : V} {us : List V} {b c e f g h i j : Option V} {Q : VK} (hD : Dc H D) (nL : L ≠ D) (hL : H L = some (.lst us)) (hl : us.length ≤ 1000) (hu : ∀ u ∈ us, ∃ i, u = .int i ∧ Ti i) (k : ∀ u du H', Tkv u du → But D H H' → Dc H' D → Q u H') :
    tR2 K (sR D v (some (.ref L)) b c e f g h i j) H Q := by
  refine ⟨_, rfl, _, rfl, _, _, rfl, rfl, ⟨by decide, by decide +kernel⟩, _, _, rfl, rfl, ⟨by decide, by decide +kernel⟩, _, _, rfl, rfl, 1, rfl, by show 8 ≤ sizeLine; decide, fun p np => ?_⟩
  have s1 := same_new (o := .lst [.int 0, .int 3, .int (10 ^ Int.toNat 34), .int (10 ^ Int.toNat 34 + 1), .int (-1), .bl true, .non, .str "2"]) np
  refine ⟨L, p, us, _, rfl, rfl, s1 _ _ hL, upd_same, ?_, fun r nr => ?_⟩
  · rw [sizeLine_eq]
    show us.length + 8 ≤ _
    omega
  · have d1 := hD.same s1
    have s2 := same_new (o := .lst (us ++ [.int 0, .int 3, .int (10 ^ Int.toNat 34), .int (10 ^ Int.toNat 34 + 1), .int (-1), .bl true, .non, .str "2"])) nr
    refine ⟨D, r, _, rfl, d1.same s2, new_ne d1 nr, upd_same, ?_, ?_, fun u H' hm bb dd => ?_⟩
    · rw [List.length_append]
      show 0 < us.length + 8
      omega
    · rw [List.length_append]
      show us.length + 8 < 100000
      omega
    · have bt := (Same.but (s1.trans s2)).trans bb
      rcases List.mem_append.mp hm with m | m
      · obtain ⟨i, rfl, ti⟩ := hu u m
        exact k _ _ H' (tkv_int ti) bt dd
      · simp only [List.mem_cons, List.not_mem_nil, or_false] at m
        rcases m with rfl | rfl | rfl | rfl | rfl | rfl | rfl | rfl
        · exact k _ _ H' (tkv_int ⟨by decide, by decide⟩) bt dd
        · exact k _ _ H' (tkv_int ⟨by decide, by decide⟩) bt dd
        · exact k _ _ H' (tkv_int ⟨by decide +kernel, by decide +kernel⟩) bt dd
        · exact k _ _ H' (tkv_int ⟨by decide +kernel, by decide +kernel⟩) bt dd
        · exact k _ _ H' (tkv_int ⟨by decide, by decide⟩) bt dd
        · exact k _ (.bool true) H' ⟨.bl true, ⟨by decide +kernel, by decide +kernel, by decide +kernel, rfl, rfl⟩, fun z e => by cases e⟩ bt dd
        · exact k _ .none H' ⟨.non, ⟨by decide +kernel, by decide +kernel, by decide +kernel, rfl, rfl⟩, fun z e => by cases e⟩ bt dd
        · exact k _ (.str "2") H' ⟨.str _, (sm_str ⟨by decide +kernel, by decide +kernel⟩).mono (by decide) (by decide), fun z e => by cases e; decide +kernel⟩ bt dd
/-- a name that is drawn -/
structure Nmv (K : PySem.W.Frag) (H : Hp) (u : V) (du : PyData) : Prop where
  dp : Dp K H u du
  nd : du.hasDict = false
  fit : Fit du
  ok : Okd du
  sh : SeqAt.shaped du = true
theorem nmv_sv {H : Hp} {u : V} {du : PyData} (sv : Sv u du) (h : (match du with | .str z => decide (z.length ≤ 1000) && PyData.strOk z | _ => true) = true) : Nmv K H u du := by
  cases sv with
  | non => exact ⟨.non, rfl, (fun z e => nomatch e), (fun z e => nomatch e), by decide +kernel⟩
  | bl b => exact ⟨.bl b, rfl, (fun z e => nomatch e), (fun z e => nomatch e), by cases b <;> decide +kernel⟩
  | int i => exact ⟨.int i, rfl, (fun z e => nomatch e), (fun z e => nomatch e), by simp [SeqAt.shaped, PyData.canLay0, PyData.depth]⟩
  | str z =>
    have h : (decide (z.length ≤ 1000) && PyData.strOk z) = true := h
    rw [Bool.and_eq_true, decide_eq_true_eq] at h
    exact ⟨.str z, rfl, (fun y e => by cases e; exact h.1), (fun y e => by cases e; exact h.2), by simp [SeqAt.shaped, PyData.canLay0, PyData.depth, h.2]⟩
abbrev tR3 (K : PySem.W.Frag) : TE := tCall spPickB [] E0 (tCons (tVar 0) (tCons (tLst (tCons (tC (.str "a")) (tCons (tC (.str "b.1")) (tCons (tC (.str "off")) (tCons (tC (.str "zz")) (tCons (tC (.str "dawn")) (tCons (tC (.str "")) (tCons (tC .non) (tCons (tC (.int 0)) (tCons (tC (.str "A")) (tCons (tTup (tCons (tC (.str "a")) tNil)) tNil))))))))))) tNil))
theorem rr_3 {H : Hp} {D : Addr} {v : V} {a b c e f g h i j : Option V} {Q : VK} (hD : Dc H D) (k : ∀ u du H', Nmv K H' u du → But D H H' → Dc H' D → Q u H') : tR3 K (sR D v a b c e f g h i j) H Q := by
  refine ⟨_, rfl, by show 1 ≤ sizeLine; decide, fun t nt => ⟨by show 10 ≤ sizeLine; decide, fun p np => ?_⟩⟩
  have s1 := same_new (o := .tup [.str "a"]) nt
  have s2 := same_new (o := .lst [.str "a", .str "b.1", .str "off", .str "zz", .str "dawn", .str "", .non, .int 0, .str "A", .ref t]) np
  have d1 := hD.same s1
  refine ⟨D, p, _, rfl, d1.same s2, new_ne d1 np, upd_same, by show 0 < 10; decide, by show 10 < 100000; decide, fun u H' hm bb dd => ?_⟩
  have bt := (Same.but (s1.trans s2)).trans bb
  have ht : H' t = some (.tup [.str "a"]) := bb _ _ (new_ne hD nt) (s2 _ _ upd_same)
  simp only [List.mem_cons, List.not_mem_nil, or_false] at hm
  rcases hm with rfl | rfl | rfl | rfl | rfl | rfl | rfl | rfl | rfl | rfl
  · exact k _ _ H' (nmv_sv (.str _) (by decide +kernel)) bt dd
  · exact k _ _ H' (nmv_sv (.str _) (by decide +kernel)) bt dd
  · exact k _ _ H' (nmv_sv (.str _) (by decide +kernel)) bt dd
  · exact k _ _ H' (nmv_sv (.str _) (by decide +kernel)) bt dd
  · exact k _ _ H' (nmv_sv (.str _) (by decide +kernel)) bt dd
  · exact k _ _ H' (nmv_sv (.str _) (by decide +kernel)) bt dd
  · exact k _ _ H' (nmv_sv .non rfl) bt dd
  · exact k _ _ H' (nmv_sv (.int 0) rfl) bt dd
  · exact k _ _ H' (nmv_sv (.str _) (by decide +kernel)) bt dd
  · exact k _ (.tuple [.str "a"]) H' ⟨.tup (SqT.of ht) (.cons (.str _) .nil), rfl, (fun z e => nomatch e), (fun z e => nomatch e), by decide +kernel⟩ bt dd
end
end K0

namespace K0
open PySem PySem.Spec PyProof.Rows L2 DW RZ LamX
section
variable {P : Program} {w : World} {K : PySem.W.Frag} {mg : Str → Option Value} {base : Heap}
abbrev tUn3 (K : PySem.W.Frag) : TE := tLc (iTup K (tVar 1)) (gName 3) (tTest (tOp (rI0 fun i j => .bl (decide (i ≤ j))) (tOp (rIxT K) (tVar 3) (tC (.int 0))) (tVar 4))) (tVar 3) [3]
theorem rd_until3 {D0 a : Addr} {xs : List V} {ds : List PyData} {H : Hp} {i : Int} {s2 s3 s5 s6 s7 s8 s9 s10 : Option V} {Q : VK} (ha : SqT K H a xs) (hp : DpAll K H xs ds) (hl : ds.length ≤ 1000) (h2 : ds.all tnD = true)
    (k : ∀ (D : Addr) (H' : Hp) (ys : List V), Same H H' → H' D = some (.lst ys) → DpAll K H' ys (untilD i ds) → Q (.ref D) H') : tUn3 K (sR D0 (.ref a) s2 s3 (some (.int i)) s5 s6 s7 s8 s9 s10) H Q := by
  refine ⟨_, rfl, a, rfl, ⟨xs, ha⟩, fun D hD => lc_tup (K := K) (xs := xs) (fun j H' => Same H H' ∧ ∃ ys, H' D = some (.lst ys) ∧ ys.length ≤ j ∧ DpAll K H ys (untilD i (ds.take j))) ⟨same_new hD, [], upd_same, Nat.le_refl _, by simpa [untilD] using DpAll.nil⟩ (fun j H' _ p => sqT_same p.1 ha)
    (fun j x H' hx p => ⟨rfl, ?_⟩) (fun H' p => ?_)⟩
  · obtain ⟨s1, ys, hy, hly, hdy⟩ := p
    obtain ⟨d, hd, hr⟩ := DpAll.at hp hx
    have hj : j < xs.length := by
      rcases Nat.lt_or_ge j xs.length with q | q
      · exact q
      · rw [List.getElem?_eq_none q] at hx; cases hx
    have hxl := DpAll.length hp
    rw [List.all_eq_true] at h2
    obtain ⟨t, n, rfl⟩ := tn_inv (h2 d (List.mem_of_getElem? hd))
    obtain ⟨b, u1, u2, rfl, hb, r1, r2⟩ := two_inv (Dp.same s1 hr)
    cases r1
    refine ⟨_, rfl, b, _, 0, .int t, rfl, rfl, hb, rfl, _, rfl, _, _, rfl, rfl, _, rfl, ?_⟩
    have e : untilD i (ds.take (j + 1)) = untilD i (ds.take j) ++ if decide (t ≤ i) = true then [.tuple [.int t, .str n]] else [] := by
      unfold untilD
      rw [takeSucc hd, List.filter_append]
      congr 1
      rw [List.filter_cons, List.filter_nil]
      show (if decide (t ≤ i) = true then [PyData.tuple [.int t, .str n]] else []) = _
      rfl
    refine ite2 (fun q => ?_) fun q => ?_
    · rw [if_pos (by first | exact q | exact decide_eq_true q)] at e
      refine ⟨_, rfl, ys, hy, by rw [sizeLine_eq]; omega, same_mut s1 hD, ys ++ [.ref b], upd_same, by rw [List.length_append]; show ys.length + 1 ≤ _; omega, ?_⟩
      rw [e]
      exact DpAll.snoc hdy hr
    · rw [if_neg (by first | exact q | (intro z; exact q (of_decide_eq_true z)) | (rw [q]; exact Bool.false_ne_true)), List.append_nil] at e
      exact ⟨s1, ys, hy, by omega, by rw [e]; exact hdy⟩
  · obtain ⟨s1, ys, hy, _, hdy⟩ := p
    rw [DpAll.length hp, List.take_length] at hdy
    exact k D H' ys s1 hy (DpAll.same s1 hdy)
abbrev tF1 (K : PySem.W.Frag) : TE := tIf (tB (tCall (spJ K (betD 0 (10 ^ 34))) [] E0 (tCons (tVar 4) tNil))) (tTup (tCons (tC (.str "told")) (tCons (tCB (rTupOf K) (tCons (tUn3 K) tNil)) tNil))) (tTup (tCons (tC (.str "number")) (tCons (tVar 4) tNil)))
theorem rf_1 {D0 a : Addr} {xs : List V} {ds : List PyData} {H : Hp} {t : V} {dt : PyData} {s2 s3 s5 s6 s7 s8 s9 s10 : Option V} {Q : VK} (ha : SqT K H a xs) (hp : DpAll K H xs ds) (hl : ds.length ≤ 1000) (q : seenD (.tuple ds) = true) (tv : Tkv t dt)
    (k : ∀ (F : V) (H' : Hp), Dp K H' F (D1 (.tuple ds) dt) → Same H H' → Q F H') : tF1 K (sR D0 (.ref a) s2 s3 (some t) s5 s6 s7 s8 s9 s10) H Q := by
  obtain ⟨_, he, h2⟩ := seen_tup q
  cases he
  refine ⟨_, rfl, t, dt, rfl, tv.sv.dd, tv.fit, fun H1 s1 => ⟨_, rfl, ?_⟩⟩
  cases c : betD 0 (10 ^ 34) dt with
  | false =>
    refine iteF ⟨_, rfl, by show 2 ≤ sizeLine; decide, fun p np => k _ _ ?_ (s1.trans (same_new np))⟩
    have e : D1 (.tuple ds) dt = .tuple [.str "number", dt] := by unfold D1; rw [if_pos q, if_neg (by rw [c]; exact Bool.false_ne_true)]
    rw [e]
    refine .tup (SqT.of upd_same) (.cons (.str _) (.cons ?_ .nil))
    cases tv.sv with
    | non => exact .non
    | bl b => exact .bl b
    | int i => exact .int i
    | str z => exact .str z
  | true =>
    obtain ⟨i, rfl⟩ := bet0 c
    cases tv.sv
    have e : D1 (.tuple ds) (.int i) = .tuple [.str "told", .tuple (untilD i ds)] := by unfold D1; rw [if_pos q, if_pos c]; rfl
    refine iteT ?_
    show tUn3 K (sR D0 (.ref a) s2 s3 (some (.int i)) s5 s6 s7 s8 s9 s10) H1 fun x H2 => rTupOf K [x] H2 fun y H3 => [V.str "told", y].length ≤ sizeLine ∧ ∀ p, H3 p = none → Q (.ref p) (upd H3 p (.tup [.str "told", y]))
    refine rd_until3 (K := K) (sqT_same s1 ha) (DpAll.same s1 hp) hl h2 fun D H2 ys s2' hD hy => ⟨D, ys, rfl, .inl ⟨SqL.of hD, fun l nl => ⟨by show 2 ≤ sizeLine; decide, fun p np => ?_⟩⟩⟩
    have s3' := same_new (o := .tup ys) nl
    have s4' := same_new (o := .tup [.str "told", .ref l]) np
    refine k _ _ ?_ (s1.trans (s2'.trans (s3'.trans s4')))
    rw [e]
    exact .tup (SqT.of upd_same) (.cons (.str _) (.cons (.tup (SqT.of (s4' _ _ upd_same)) (DpAll.same (s3'.trans s4') hy)) .nil))
abbrev tFd (K : PySem.W.Frag) : TE := tLc (iTup K (tVar 1)) (gName 3) (tTest (tOp (rEqD K) (tOp (rIxT K) (tVar 3) (tC (.int 1))) (tVar 5))) (tOp (rIxT K) (tVar 3) (tC (.int 0))) [3]
def sameN (du : PyData) (ds : List PyData) : List PyData := ds.filter fun e => PyData.eqv (.str (nameOf e)) du
def tkV (ds : List PyData) : List V := ds.map fun e => V.int (tkOf e)
theorem rf_2 {D0 a : Addr} {xs : List V} {ds : List PyData} {H : Hp} {u : V} {du : PyData} {s2 s3 s4 s6 s7 s8 s9 s10 : Option V} {Q : VK} (ha : SqT K H a xs) (hp : DpAll K H xs ds) (hl : ds.length ≤ 1000) (h2 : ds.all tnD = true) (nv : Nmv K H u du)
    (k : ∀ (L : Addr) (H' : Hp), Same H H' → H' L = some (.lst (tkV (sameN du ds))) → Q (.ref L) H') : tFd K (sR D0 (.ref a) s2 s3 s4 (some u) s6 s7 s8 s9 s10) H Q := by
  refine ⟨_, rfl, a, rfl, ⟨xs, ha⟩, fun D hD => lc_tup (K := K) (xs := xs) (fun j H' => Same H H' ∧ H' D = some (.lst (tkV (sameN du (ds.take j))))) ⟨same_new hD, upd_same⟩ (fun j H' _ p => sqT_same p.1 ha)
    (fun j x H' hx p => ⟨rfl, ?_⟩) (fun H' p => ?_)⟩
  · obtain ⟨s1, hy⟩ := p
    obtain ⟨d, hd, hr⟩ := DpAll.at hp hx
    have hj : j < xs.length := by
      rcases Nat.lt_or_ge j xs.length with q | q
      · exact q
      · rw [List.getElem?_eq_none q] at hx; cases hx
    have hxl := DpAll.length hp
    rw [List.all_eq_true] at h2
    have ht := h2 d (List.mem_of_getElem? hd)
    obtain ⟨t, n, rfl⟩ := tn_inv ht
    obtain ⟨b, u1, u2, rfl, hb, r1, r2⟩ := two_inv (Dp.same s1 hr)
    cases r1
    cases r2
    have it := tn_it ht
    have lay : PyData.canLay0 (.str n) = true := by
      have z := it.lay
      simp only [PyData.canLay0, PyData.canLayAll0, Bool.and_true, Bool.true_and] at z
      simpa only [PyData.canLay0] using z
    have shn : SeqAt.shaped (.str n) = true := by
      unfold SeqAt.shaped
      rw [lay]
      simp [PyData.depth]
    have e : sameN du (ds.take (j + 1)) = sameN du (ds.take j) ++ if PyData.eqv (.str n) du = true then [.tuple [.int t, .str n]] else [] := by
      unfold sameN
      rw [takeSucc hd, List.filter_append]
      congr 1
      rw [List.filter_cons, List.filter_nil]
      rfl
    have len : (tkV (sameN du (ds.take j))).length ≤ 1000 := by
      unfold tkV sameN
      rw [List.length_map]
      have z := List.length_filter_le (fun e => PyData.eqv (.str (nameOf e)) du) (ds.take j)
      rw [List.length_take] at z
      omega
    refine ⟨_, rfl, b, _, 1, .str n, rfl, rfl, hb, rfl, _, rfl, .str n, du, .str n, Dp.same s1 nv.dp, shn, nv.sh, _, rfl, ?_⟩
    cases c : PyData.eqv (.str n) du with
    | true =>
      rw [c, if_pos rfl] at e
      refine iteT ⟨_, rfl, b, _, 0, .int t, rfl, rfl, hb, rfl, _, hy, by rw [sizeLine_eq]; omega, same_mut s1 hD, ?_⟩
      rw [upd_same, e]
      unfold tkV
      rw [List.map_append]
      rfl
    | false =>
      rw [c, if_neg Bool.false_ne_true, List.append_nil] at e
      exact iteF ⟨s1, by rw [e]; exact hy⟩
  · obtain ⟨s1, hy⟩ := p
    rw [DpAll.length hp, List.take_length] at hy
    exact k D H' s1 hy
theorem dp_ints {H : Hp} : ∀ es : List PyData, DpAll K H (tkV es) (es.map fun e => PyData.int (tkOf e))
  | [] => .nil
  | e :: r => .cons (.int _) (dp_ints r)
theorem lay_ints : ∀ es : List PyData, PyData.canLayAll0 (es.map fun e => PyData.int (tkOf e)) = true
  | [] => by simp [PyData.canLayAll0]
  | e :: r => by
    have z := lay_ints r
    simp only [List.map_cons, PyData.canLayAll0, PyData.canLay0, z, Bool.true_and]
theorem dep_ints : ∀ es : List PyData, PyData.depthAll (es.map fun e => PyData.int (tkOf e)) ≤ 50
  | [] => by simp [PyData.depthAll]
  | e :: r => by
    have z := dep_ints r
    simp only [List.map_cons, PyData.depthAll, PyData.depth]
    omega
abbrev tF2 (K : PySem.W.Frag) : TE := tIf (tB (tCall (spJo K isNameD) [] E0 (tCons (tVar 5) tNil))) (tTup (tCons (tC (.str "told")) (tCons (tIf (tTest (tOp (rNeD K) (tVar 9) (tLst tNil))) (tOp (rIxL K) (tVar 9) (tC (.int 0))) (tC .non)) tNil))) (tTup (tCons (tC (.str "name")) tNil))
theorem rf_3 {D0 L : Addr} {v : V} {ds : List PyData} {H : Hp} {u : V} {du : PyData} {s2 s3 s4 s6 s7 s8 s10 : Option V} {Q : VK} (q : seenD (.tuple ds) = true) (nv : Nmv K H u du) (hL : H L = some (.lst (tkV (sameN du ds))))
    (k : ∀ (F : V) (H' : Hp), Dp K H' F (D2 (.tuple ds) du) → Same H H' → Q F H') : tF2 K (sR D0 v s2 s3 s4 (some u) s6 s7 s8 (some (.ref L)) s10) H Q := by
  refine ⟨_, rfl, u, du, rfl, .base nv.dp nv.nd, nv.fit, nv.ok, fun H1 s1 => ⟨_, rfl, ?_⟩⟩
  cases c : isNameD du with
  | false =>
    have e : D2 (.tuple ds) du = .tuple [.str "name"] := by unfold D2; rw [if_pos q, if_neg (by rw [c]; exact Bool.false_ne_true)]
    refine iteF ⟨by show 1 ≤ sizeLine; decide, fun p np => k _ _ ?_ (s1.trans (same_new np))⟩
    rw [e]
    exact .tup (SqT.of upd_same) (.cons (.str _) .nil)
  | true =>
    obtain ⟨z, rfl⟩ := name_str c
    have e : D2 (.tuple ds) (.str z) = .tuple [.str "told", lookD ds z] := by unfold D2; rw [if_pos q, if_pos c]; rfl
    have pe : sameN (.str z) ds = ds.filter fun e => decide (nameOf e = z) := by
      unfold sameN
      congr 1
    have hd : (sameN (.str z) ds).head? = ds.find? fun e => decide (nameOf e = z) := by rw [pe, List.head?_filter]
    have hL1 := s1 _ _ hL
    have fin : ∀ (y : V) (H2 : Hp), Dp K H2 y (lookD ds z) → Same H H2 → 2 ≤ sizeLine ∧ ∀ p, H2 p = none → Q (.ref p) (upd H2 p (.tup [.str "told", y])) := fun y H2 hy s2 => by
      refine ⟨by decide, fun p np => k _ _ ?_ (s2.trans (same_new np))⟩
      rw [e]
      exact .tup (SqT.of upd_same) (.cons (.str _) (.cons (Dp.same (same_new np) hy) .nil))
    refine iteT ⟨_, rfl, by show 0 ≤ sizeLine; decide, fun p np => ?_⟩
    have s2 := same_new (o := .lst []) np
    refine ⟨.list ((sameN (.str z) ds).map fun e => PyData.int (tkOf e)), .list [], .lst (SqL.of (s2 _ _ hL1)) (dp_ints _), .lst (SqL.of upd_same) .nil, shaped_list (lay_ints _) (dep_ints _), by kernel_rfl, _, rfl, ?_⟩
    rw [eqvL_nil]
    have hL2 := s2 _ _ hL1
    generalize sameN (.str z) ds = es at hd hL2 ⊢
    cases es with
    | nil =>
      have e0 : lookD ds z = .none := by unfold lookD; rw [← hd]; rfl
      refine iteF (fin _ _ ?_ (s1.trans s2))
      rw [e0]
      exact .non
    | cons e1 r =>
      have e0 : lookD ds z = .int (tkOf e1) := by unfold lookD; rw [← hd]; rfl
      refine iteT ⟨_, rfl, L, _, 0, .int (tkOf e1), rfl, rfl, SqL.of hL2, atI_nat (j := 0) rfl, fin _ _ ?_ (s1.trans s2)⟩
      rw [e0]
      exact .int _
end
end K0

namespace K0
open PySem PySem.Spec PyProof.Rows L2 DW RZ LamX
/-- which error is caught by which clause -/
structure Exm (K : PySem.W.Frag) (CA CN CO : Addr) : Prop where
  oa : PySem.W.exmOne K (.ref CO) (.ref CA) = some false
  on : PySem.W.exmOne K (.ref CO) (.ref CN) = some false
  oo : PySem.W.exmOne K (.ref CO) (.ref CO) = some true
  na : PySem.W.exmOne K (.ref CN) (.ref CA) = some false
  nn : PySem.W.exmOne K (.ref CN) (.ref CN) = some true
  aa : PySem.W.exmOne K (.ref CA) (.ref CA) = some true
section
variable {P : Program} {w : World} {K : PySem.W.Frag} {mg : Str → Option Value} {base : Heap}
abbrev tL1 (K : PySem.W.Frag) (T : List (Addr × Str)) (CA CN CO : Addr) : TE := tLam T (TMet K CA CN CO "given") fun E => tCallS (spUntil K CO CN) (fun σ => WE (fun cls d x H => E cls d H) σ) (tCons (tVar 1) (tCons (tVar 4) tNil))
abbrev tL2 (K : PySem.W.Frag) (T : List (Addr × Str)) (CA CN CO : Addr) : TE := tLam T (TMet K CA CN CO "given") fun E => tCallS (spTickOf K CO CA) (fun σ => WE (fun cls d x H => E cls d H) σ) (tCons (tVar 1) (tCons (tVar 5) tNil))
theorem rl_1 {T : List (Addr × Str)} {CA CN CO D0 : Addr} {H : Hp} {v t : V} {d dt : PyData} {s2 s3 s5 s6 s7 s8 s9 s10 : Option V} {Q : VK} (x : Exm K CA CN CO) (tb : Tabs T H) (hd : Dd K H v d) (hf : Fn 2 d) (tv : Tkv t dt)
    (k : ∀ (F : V) (H' : Hp), Dp K H' F (D1 d dt) → ExtN H H' → Tabs T H' → Q F H') : tL1 K T CA CN CO (sR D0 v s2 s3 (some t) s5 s6 s7 s8 s9 s10) H Q := by
  refine ⟨tb, fun H1 e1 t1 => ⟨v, rfl, t, rfl, v, d, t, dt, rfl, hd.ext e1, hf, tv.sv, tv.fit, tv.sm.sho, tv.shown, fun q H2 s2 => ?_, fun q c H2 dx s2 nx hx => ?_, fun ds i ed et q c H2 p ys s2 np hp hy => ?_⟩⟩
  · refine ⟨false, x.oa, (fun z => by cases z), fun _ => ⟨false, x.on, (fun z => by cases z), fun _ => ⟨true, x.oo, fun _ p np => ?_, fun z => by cases z⟩⟩⟩
    have s3 := s2.trans (same_new (o := .tup [.str "operation"]) np)
    refine k _ _ ?_ (e1.trans (Same.extN s3)) (DW.Tabs.same t1 s3)
    have e : D1 d dt = .tuple [.str "operation"] := by unfold D1; rw [if_neg (by rw [q]; exact Bool.false_ne_true)]
    rw [e]
    exact .tup (SqT.of upd_same) (.cons (.str _) .nil)
  · refine ⟨false, x.na, (fun z => by cases z), fun _ => ⟨true, x.nn, fun _ => ⟨rfl, dx, _, t, rfl, hx, rfl, fun p np => ?_⟩, fun z => by cases z⟩⟩
    have s3 := s2.trans (same_new (o := .tup [.str "number", t]) np)
    refine k _ _ ?_ (e1.trans (Same.extN s3)) (DW.Tabs.same t1 s3)
    have e : D1 d dt = .tuple [.str "number", dt] := by unfold D1; rw [if_pos q, if_neg (by rw [c]; exact Bool.false_ne_true)]
    rw [e]
    refine .tup (SqT.of upd_same) (.cons (.str _) (.cons ?_ .nil))
    cases tv.sv with
    | non => exact .non
    | bl b => exact .bl b
    | int i => exact .int i
    | str z => exact .str z
  · subst ed et
    refine ⟨by decide, fun r nr => ?_⟩
    have s4 := same_new (o := .tup [.str "told", .ref p]) nr
    have s3 := s2.trans s4
    refine k _ _ ?_ (e1.trans (Same.extN s3)) (DW.Tabs.same t1 s3)
    have e : D1 (.tuple ds) (.int i) = .tuple [.str "told", .tuple (untilD i ds)] := by unfold D1; rw [if_pos q, if_pos c]; rfl
    rw [e]
    exact .tup (SqT.of upd_same) (.cons (.str _) (.cons (.tup (SqT.of (s4 _ _ hp)) (DpAll.same s4 hy)) .nil))
theorem rl_2 {T : List (Addr × Str)} {CA CN CO D0 : Addr} {H : Hp} {v u : V} {d du : PyData} {s2 s3 s4 s6 s7 s8 s9 s10 : Option V} {Q : VK} (x : Exm K CA CN CO) (tb : Tabs T H) (hd : Dd K H v d) (hf : Fn 2 d) (nv : Nmv K H u du)
    (k : ∀ (F : V) (H' : Hp), Dp K H' F (D2 d du) → ExtN H H' → Tabs T H' → Q F H') : tL2 K T CA CN CO (sR D0 v s2 s3 s4 (some u) s6 s7 s8 s9 s10) H Q := by
  refine ⟨tb, fun H1 e1 t1 => ⟨v, rfl, u, rfl, v, d, u, du, rfl, hd.ext e1, hf, .base (Dp.ext e1 nv.dp) nv.nd, nv.fit, fun q H2 s2 => ?_, fun q c H2 s2 => ?_, fun ds z ed et q c H2 s2 => ?_⟩⟩
  · refine ⟨false, x.oa, (fun z => by cases z), fun _ => ⟨false, x.on, (fun z => by cases z), fun _ => ⟨true, x.oo, fun _ p np => ?_, fun z => by cases z⟩⟩⟩
    have s3 := s2.trans (same_new (o := .tup [.str "operation"]) np)
    refine k _ _ ?_ (e1.trans (Same.extN s3)) (DW.Tabs.same t1 s3)
    have e : D2 d du = .tuple [.str "operation"] := by unfold D2; rw [if_neg (by rw [q]; exact Bool.false_ne_true)]
    rw [e]
    exact .tup (SqT.of upd_same) (.cons (.str _) .nil)
  · refine ⟨true, x.aa, fun _ p np => ?_, fun z => by cases z⟩
    have s3 := s2.trans (same_new (o := .tup [.str "name"]) np)
    refine k _ _ ?_ (e1.trans (Same.extN s3)) (DW.Tabs.same t1 s3)
    have e : D2 d du = .tuple [.str "name"] := by unfold D2; rw [if_pos q, if_neg (by rw [c]; exact Bool.false_ne_true)]
    rw [e]
    exact .tup (SqT.of upd_same) (.cons (.str _) .nil)
  · subst ed et
    refine ⟨by decide, fun r nr => ?_⟩
    have s4 := same_new (o := .tup [.str "told", lookV ds z]) nr
    have s3 := s2.trans s4
    refine k _ _ ?_ (e1.trans (Same.extN s3)) (DW.Tabs.same t1 s3)
    have e : D2 (.tuple ds) (.str z) = .tuple [.str "told", lookD ds z] := by unfold D2; rw [if_pos q, if_pos c]; rfl
    rw [e]
    refine .tup (SqT.of upd_same) (.cons (.str _) (.cons ?_ .nil))
    unfold lookV lookD
    cases ds.find? fun e => decide (nameOf e = z) with
    | none => exact .non
    | some e0 => exact .int _
abbrev tI5R (K : PySem.W.Frag) : TS := tIfS (tB (tCall (spOk K seenD SeenOk) [] E0 (tCons (tVar 1) tNil))) (tSeq (tAsg (tF1 K) (gName 6)) (tSeq (tAsg (tFd K) (gName 9)) (tAsg (tF2 K) (gName 7)))) tNext
theorem rr_5 {t : TS} {Dd : Ends} {H : Hp} {D0 p1 p2 : Addr} {v tk u : V} {d dt du : PyData} {s2 s3 s8 s9 s10 : Option V} (hv : DW.Dd K H v d) (fn : Fine d) (tv : Tkv tk dt) (nv : Nmv K H u du) (h1 : H p1 = some (.tup [.str "operation"])) (h2 : H p2 = some (.tup [.str "operation"]))
    (k : ∀ (F1 F2 : V) (y9 : Option V) (H' : Hp), Dp K H' F1 (D1 d dt) → Dp K H' F2 (D2 d du) → Same H H' → t Dd (sR D0 v s2 s3 (some tk) (some u) (some F1) (some F2) s8 y9 s10) H') :
    tSeq (tI5R K) t Dd (sR D0 v s2 s3 (some tk) (some u) (some (.ref p1)) (some (.ref p2)) s8 s9 s10) H := by
  obtain ⟨fn2, okd, so, _⟩ := fn
  show tIfS _ _ _ { Dd with nx := t Dd } _ _
  refine ⟨v, rfl, v, d, rfl, hv, so, fun H1 s1 => ⟨_, rfl, ?_⟩⟩
  cases q : seenD d with
  | false =>
    have e1 : D1 d dt = .tuple [.str "operation"] := by unfold D1; rw [if_neg (by rw [q]; exact Bool.false_ne_true)]
    have e2 : D2 d du = .tuple [.str "operation"] := by unfold D2; rw [if_neg (by rw [q]; exact Bool.false_ne_true)]
    refine iteF (k _ _ _ H1 ?_ ?_ s1)
    · rw [e1]; exact .tup (SqT.of (s1 _ _ h1)) (.cons (.str _) .nil)
    · rw [e2]; exact .tup (SqT.of (s1 _ _ h2)) (.cons (.str _) .nil)
  | true =>
    obtain ⟨ds, rfl, ht⟩ := seen_tup q
    obtain ⟨a, xs, rfl, hs, ha, hn⟩ := hv.tup_inv
    obtain ⟨hl, _⟩ := fn2.2 ds rfl
    refine iteT ?_
    show tF1 K (sR D0 (.ref a) s2 s3 (some tk) (some u) (some (.ref p1)) (some (.ref p2)) s8 s9 s10) H1 fun y H2 => (tSeq (tAsg (tFd K) (gName 9)) (tAsg (tF2 K) (gName 7))) { Dd with nx := t Dd } (sR D0 (.ref a) s2 s3 (some tk) (some u) (some y) (some (.ref p2)) s8 s9 s10) H2
    refine rf_1 (K := K) (sqT_same s1 hs) (DpAll.same s1 ha) hl q tv fun F1 H2 hF1 s2' => ?_
    have s12 := s1.trans s2'
    have nv2 : ∀ {H'}, Same H H' → Nmv K H' u du := fun s => ⟨Dp.same s nv.dp, nv.nd, nv.fit, nv.ok, nv.sh⟩
    show tFd K (sR D0 (.ref a) s2 s3 (some tk) (some u) (some F1) (some (.ref p2)) s8 s9 s10) H2 fun y H3 => (tAsg (tF2 K) (gName 7)) { Dd with nx := t Dd } (sR D0 (.ref a) s2 s3 (some tk) (some u) (some F1) (some (.ref p2)) s8 (some y) s10) H3
    refine rf_2 (K := K) (sqT_same s12 hs) (DpAll.same s12 ha) hl ht (nv2 s12) fun L H3 s3' hL => ?_
    have s13 := s12.trans s3'
    show tF2 K (sR D0 (.ref a) s2 s3 (some tk) (some u) (some F1) (some (.ref p2)) s8 (some (.ref L)) s10) H3 fun y H4 => t Dd (sR D0 (.ref a) s2 s3 (some tk) (some u) (some F1) (some y) s8 (some (.ref L)) s10) H4
    refine rf_3 (K := K) q (nv2 s13) hL fun F2 H4 hF2 s4' => ?_
    exact k F1 F2 _ H4 (Dp.same (s3'.trans s4') hF1) hF2 (s13.trans s4')
abbrev tRp (K : PySem.W.Frag) (t : TE) : TE := tCB (rRepr K) (tCons t tNil)
abbrev tR7 (K : PySem.W.Frag) : TE := tAndV (tOp rEq (tRp K (tVar 10)) (tRp K (tLst (tCons (tVar 6) (tCons (tVar 7) tNil))))) (tOp rEq (tRp K (tVar 1)) (tVar 8))
theorem rr_7 {H : Hp} {D0 r : Addr} {v F1 F2 G1 G2 : V} {d a b : PyData} {s2 s3 s4 s5 s9 : Option V} {n m : Nat} {Q : VK} (hv : DW.Dd K H v d) (fn : Fine d) (sm : Sm n m (.list [a, b])) (hn : n ≤ 310000) (hm : m ≤ 50) (h1 : Dp K H F1 a) (h2 : Dp K H F2 b) (g1 : Dp K H G1 a) (g2 : Dp K H G2 b) (hr : H r = some (.lst [G1, G2]))
    (k : ∀ H', Same H H' → Q (.bl true) H') : tR7 K (sR D0 v s2 s3 s4 s5 (some F1) (some F2) (some (.str d.shown)) s9 (some (.ref r))) H Q := by
  obtain ⟨_, _, _, sho, shl, dep⟩ := fn
  have dd : ∀ {H' : Hp} {l : Addr} {x y : V}, H' l = some (.lst [x, y]) → Dp K H' x a → Dp K H' y b → DW.Dd K H' (.ref l) (.list [a, b]) := fun e x y => .base (.lst (SqL.of e) (.cons x (.cons y .nil))) sm.nd
  have sl := sm.shown hn
  have dl := sm.dep
  refine ⟨_, rfl, .ref r, .list [a, b], rfl, dd hr g1 g2, sm.sho, sl, by omega, _, rfl, _, rfl, by show 2 ≤ sizeLine; decide, fun p np => ?_⟩
  have s1 := same_new (o := .lst [F1, F2]) np
  refine ⟨.ref p, .list [a, b], rfl, dd upd_same (Dp.same s1 h1) (Dp.same s1 h2), sm.sho, sl, by omega, rfl, _, rfl, ?_⟩
  rw [decide_eq_true rfl]
  have hv1 : DW.Dd K (upd H p (.lst [F1, F2])) v d := hv.ext (Same.extN s1)
  refine iteT ⟨v, rfl, v, d, rfl, hv1, sho, shl, dep, _, rfl, rfl, ?_⟩
  rw [decide_eq_true rfl]
  exact k _ s1
end
end K0

namespace K0
open PySem PySem.Spec PyProof.Rows L2 DW RZ LamX
section
variable {P : Program} {w : World} {K : PySem.W.Frag} {mg : Str → Option Value} {base : Heap}
abbrev tP4 (K : PySem.W.Frag) : TS := tPar3 6 7 8 (tCons (tTup (tCons (tC (.str "operation")) tNil)) (tCons (tTup (tCons (tC (.str "operation")) tNil)) (tCons (tRp K (tVar 1)) tNil)))
theorem rr_4 {t : TS} {E : Ends} {H : Hp} {D : Addr} {v : V} {d : PyData} {s2 s3 s4 s5 s6 s7 s8 s9 s10 : Option V} (hv : DW.Dd K H v d) (fn : Fine d) (k : ∀ (p1 p2 : Addr) (H' : Hp), H' p1 = some (.tup [.str "operation"]) → H' p2 = some (.tup [.str "operation"]) → Same H H' →
    t E (sR D v s2 s3 s4 s5 (some (.ref p1)) (some (.ref p2)) (some (.str d.shown)) s9 s10) H') : tSeq (tP4 K) t E (sR D v s2 s3 s4 s5 s6 s7 s8 s9 s10) H := by
  obtain ⟨_, _, _, sho, shl, dep⟩ := fn
  refine ⟨by show 1 ≤ sizeLine; decide, fun p1 n1 => ⟨by show 1 ≤ sizeLine; decide, fun p2 n2 => ?_⟩⟩
  have s1 := same_new (o := .tup [.str "operation"]) n1
  have s2 := same_new (o := .tup [.str "operation"]) n2
  exact ⟨v, rfl, v, d, rfl, hv.ext (Same.extN (s1.trans s2)), sho, shl, dep, _, _, _, rfl, k p1 p2 _ (s2 _ _ upd_same) upd_same (s1.trans s2)⟩
abbrev tT6 (K : PySem.W.Frag) (T : List (Addr × Str)) (CA CN CO : Addr) : TE := tLst (tCons (tL1 K T CA CN CO) (tCons (tL2 K T CA CN CO) tNil))
abbrev tRt (K : PySem.W.Frag) (T : List (Addr × Str)) (CA CN CO : Addr) : TS := tSeq (tAsg (tR1 K) (gName 2)) (tSeq (tAsg (tR2 K) (gName 4)) (tSeq (tAsg (tR3 K) (gName 5)) (tSeq (tP4 K) (tSeq (tI5R K) (tSeq (tAsg (tT6 K T CA CN CO) (gName 10)) (tRet (tR7 K)))))))
theorem rr_all {T : List (Addr × Str)} {CA CN CO : Addr} {E : Ends} {H : Hp} {D : Addr} {v : V} {d : PyData} {s2 s3 s4 s5 s6 s7 s8 s9 s10 : Option V} (hD : Dc H D) (hv : Dv H D v d) (fn : Fine d) (tb : Tabs T H) (x : Exm K CA CN CO)
    (k : ∀ H', ButN D H H' → Dc H' D → Tabs T H' → E.rt (.bl true) H') : tRt K T CA CN CO E (sR D v s2 s3 s4 s5 s6 s7 s8 s9 s10) H := by
  show tR1 K (sR D v s2 s3 s4 s5 s6 s7 s8 s9 s10) H fun y H1 => (tSeq (tAsg (tR2 K) (gName 4)) (tSeq (tAsg (tR3 K) (gName 5)) (tSeq (tP4 K) (tSeq (tI5R K) (tSeq (tAsg (tT6 K T CA CN CO) (gName 10)) (tRet (tR7 K))))))) E (sR D v (some y) s3 s4 s5 s6 s7 s8 s9 s10) H1
  refine rr_1 (K := K) hD hv fn fun L us H1 nL hL hl hu q1 => ?_
  have d1 := hD.same q1
  show tR2 K (sR D v (some (.ref L)) s3 s4 s5 s6 s7 s8 s9 s10) H1 fun y H2 => (tSeq (tAsg (tR3 K) (gName 5)) (tSeq (tP4 K) (tSeq (tI5R K) (tSeq (tAsg (tT6 K T CA CN CO) (gName 10)) (tRet (tR7 K)))))) E (sR D v (some (.ref L)) s3 (some y) s5 s6 s7 s8 s9 s10) H2
  refine rr_2 (K := K) d1 nL hL hl hu fun tk dt H2 tv b2 d2 => ?_
  show tR3 K (sR D v (some (.ref L)) s3 (some tk) s5 s6 s7 s8 s9 s10) H2 fun y H3 => (tSeq (tP4 K) (tSeq (tI5R K) (tSeq (tAsg (tT6 K T CA CN CO) (gName 10)) (tRet (tR7 K))))) E (sR D v (some (.ref L)) s3 (some tk) (some y) s6 s7 s8 s9 s10) H3
  refine rr_3 (K := K) d2 fun u du H3 nv b3 d3 => ?_
  have b13 : But D H H3 := (Same.but q1).trans (b2.trans b3)
  have hv3 := hv.but b13 hD
  refine rr_4 (K := K) hv3.dd fn fun p1 p2 H4 h1 h2 q4 => ?_
  have nv4 : Nmv K H4 u du := ⟨Dp.same q4 nv.dp, nv.nd, nv.fit, nv.ok, nv.sh⟩
  have b14 := b13.trans (Same.but q4)
  refine rr_5 (K := K) (hv.but b14 hD).dd fn tv nv4 h1 h2 fun F1 F2 y9 H5 hF1 hF2 q5 => ?_
  have b15 := b14.trans (Same.but q5)
  have d5 := (d3.same q4).same q5
  have tb5 := tabs_but hD b15 tb
  have hv5 := hv.but b15 hD
  have nv5 : Nmv K H5 u du := ⟨Dp.same q5 nv4.dp, nv.nd, nv.fit, nv.ok, nv.sh⟩
  show tT6 K T CA CN CO (sR D v (some (.ref L)) s3 (some tk) (some u) (some F1) (some F2) (some (.str d.shown)) y9 s10) H5 fun y H6 => tR7 K (sR D v (some (.ref L)) s3 (some tk) (some u) (some F1) (some F2) (some (.str d.shown)) y9 (some y)) H6 E.rt
  refine rl_1 (K := K) x tb5 hv5.dd fn.1 tv fun G1 H6 hG1 e6 tb6 => ?_
  have nv6 : Nmv K H6 u du := ⟨Dp.ext e6 nv5.dp, nv.nd, nv.fit, nv.ok, nv.sh⟩
  refine rl_2 (K := K) x tb6 ((hv5.dd (K := K)).ext e6) fn.1 nv6 fun G2 H7 hG2 e7 tb7 => ⟨by show 2 ≤ sizeLine; decide, fun r nr => ?_⟩
  have q8 := same_new (o := .lst [G1, G2]) nr
  have e57 := e6.trans e7
  have e58 := e57.trans (Same.extN q8)
  have ln : ∀ ds, d = .tuple ds → ds.length ≤ 1000 := fun ds e => (fn.1.2 ds e).1
  refine rr_7 (K := K) ((hv5.dd (K := K)).ext e58) fn (sm_both ln tv.sm) (by decide) (by decide) (Dp.ext e58 hF1) (Dp.ext e58 hF2) (Dp.same q8 (Dp.ext e7 hG1)) (Dp.same q8 hG2) upd_same fun H8 q9 => ?_
  have e59 := e58.trans (Same.extN q9)
  exact k H8 ((But.butN b15).trans (ExtN.butN e59)) (Dc.ext e59 d5) (DW.Tabs.same (DW.Tabs.same tb7 q8) q9)
theorem ok_right {T : List (Addr × Str)} {f fP fI fT fN fM fU fO c Pt CO CN CA : Addr} {fd dP dI dT dN dM dU dO : FuncData} (F : Fun K "_law_seen_right" "_law_seen_right" sRight f fd) (tk : Tk K base mg T "_law_seen_right" "_law_seen_right" sRight f c Pt)
    (GP : FnOk P w K mg base CX0 2 fP dP ["dice", "items"] spPickB) (kP : PySem.W.keepIn K (.ref fP) = true) (bP : Binds K dP ["dice", "items"] []) (gP : mg "_law_pick" = some (.ref fP))
    (GI : FnOk P w K mg base CX0 5 fI dI ["value"] (spOk K seenD SeenOk)) (kI : PySem.W.keepIn K (.ref fI) = true) (bI : Binds K dI ["value"] []) (gI : mg "_law_is_seen" = some (.ref fI))
    (GT : FnOk P w K mg base CX0 2 fT dT ["value"] (spJ K (betD 0 (10 ^ 34)))) (kT : PySem.W.keepIn K (.ref fT) = true) (bT : Binds K dT ["value"] []) (gT : mg "_law_is_tick" = some (.ref fT))
    (GN : FnOk P w K mg base CX0 1 fN dN ["value"] (spJo K isNameD)) (kN : PySem.W.keepIn K (.ref fN) = true) (bN : Binds K dN ["value"] []) (gN : mg "_law_is_name" = some (.ref fN))
    (FM : Fun K "_law_met" "_law_met" sMet fM dM) (kM : PySem.W.keepIn K (.ref fM) = true) (bM : Binds K dM ["call"] []) (gM : mg "_law_met" = some (.ref fM)) (hA : mg "InvalidName" = some (.ref CA)) (hB : mg "InvalidNumber" = some (.ref CN)) (hC : mg "InvalidOperation" = some (.ref CO)) (xf : XfC K CN) (hno : PySem.W.findIn K (.ref CN) "given" = some none) (ex : Exm K CA CN CO)
    (GU : FnOk P w K mg base (L2.CX P w) 5 fU dU ["seen", "tick"] (spUntil K CO CN)) (kU : PySem.W.keepIn K (.ref fU) = true) (bU : Binds K dU ["seen", "tick"] []) (gU : mg "seen_until" = some (.ref fU))
    (GO : FnOk P w K mg base (L2.CX P w) 5 fO dO ["seen", "name"] (spTickOf K CO CA)) (kO : PySem.W.keepIn K (.ref fO) = true) (bO : Binds K dO ["seen", "name"] []) (gO : mg "tick_of" = some (.ref fO))
    (zT : mg "tuple" = none) (zR : mg "repr" = none) : FnG P w K mg base 9 f fd ["dice", "value"] (spRight T) := by
  obtain ⟨ocM, odM, kVM, docM, pmM, anM, cdM, ctM, oslM, rfl, lkM, hcdM⟩ := FM.ex
  refine fngL F scRight (fun vs H Q h => ?_) (fun cdv A outer s H vs Q hlk hr hgu h => ?_)
  · obtain ⟨D, v, d, rfl, _⟩ := h
    rfl
  · obtain ⟨oc, od, kV, doc, pm, an, ct, osl, lk⟩ := hlk
    obtain rfl := tk.code _ _ _ _ _ _ _ _ _ lk
    obtain ⟨D, v, d, rfl, hD, hv, fn, tb, k⟩ := h
    have hr5 : Room 5 _ := hr.mono (by decide)
    have hr2 : Room 2 _ := hr.mono (by decide)
    have hr1 : Room 1 _ := hr.mono (by decide)
    refine ⟨_, pss_cons (ps_set (i := 2) scRight.nd rfl (Or.inl rfl) (pe_ifExp (pt_val (pe_call GI hr5 rfl gI kI bI .nil pass0 (pa_cons (pv 1) pa_nil)))
          (pe_lc (own := [("pair", 3)]) (g := gName 3) (tt := tYes) rfl scRight.nd (pi_tup (pv 1)) (blkOk_by (own := [("pair", 3)]) (N := ["dice", "value", "some", "pair", "tick", "name", "first", "second", "held", "found", "told"]) (sc := defScope sRight) (by decide +kernel))
            (fun _ _ _ _ _ => pg_name (i := 3) scRight.nd rfl (Or.inl rfl)) (fun _ _ _ _ _ => pts_nil) (fun _ _ _ _ _ => pe_ix (r := rIxT K) ix_tup (pv 3) pe_int (fun _ _ => rfl))) (pe_lst pa_nil)))
      (pss_cons (ps_set (i := 4) scRight.nd rfl (Or.inr rfl) (pe_call GP hr2 rfl gP kP bP .nil pass0 (pa_cons (pv 0) (pa_cons (pe_op op_cat (pv 2) (pe_lst (pa_cons pe_int (pa_cons pe_int (pa_cons (pe_op op_powW pe_int pe_int) (pa_cons (pe_op op_add (pe_op op_powW pe_int pe_int) pe_int) (pa_cons (pe_un un_neg pe_int) (pa_cons pe_bl (pa_cons pe_non (pa_cons pe_str pa_nil)))))))))) pa_nil))))
      (pss_cons (ps_set (i := 5) scRight.nd rfl (Or.inr rfl) (pe_call GP hr2 rfl gP kP bP .nil pass0 (pa_cons (pv 0) (pa_cons (pe_lst (pa_cons pe_str (pa_cons pe_str (pa_cons pe_str (pa_cons pe_str (pa_cons pe_str (pa_cons pe_str (pa_cons pe_non (pa_cons pe_int (pa_cons pe_str (pa_cons (pe_tup (pa_cons pe_str pa_nil)) pa_nil))))))))))) pa_nil))))
      (pss_cons (ps_par3 (i := 6) (j := 7) (l := 8) rfl scRight.nd rfl rfl rfl (by decide) (by decide) (by decide) rfl rfl rfl (pa_cons (pe_tup (pa_cons pe_str pa_nil)) (pa_cons (pe_tup (pa_cons pe_str pa_nil)) (pa_cons (pe_callB (call_repr hgu hr.units) (by rfl) zR (by decide +kernel) (pa_cons (pv 1) pa_nil)) pa_nil))) (by rfl))
      (pss_cons (ps_if (pt_val (pe_call GI hr5 rfl gI kI bI .nil pass0 (pa_cons (pv 1) pa_nil)))
          (pss_cons (ps_set (i := 6) scRight.nd rfl (Or.inl rfl) (pe_ifExp (pt_val (pe_call GT hr2 rfl gT kT bT .nil pass0 (pa_cons (pv 4) pa_nil)))
              (pe_tup (pa_cons pe_str (pa_cons (pe_callTy call_tuple_of (by rfl) zT (by decide +kernel) (pa_cons (pe_lc (own := [("pair", 3)]) (g := gName 3) rfl scRight.nd (pi_tup (pv 1)) (blkOk_by (own := [("pair", 3)]) (N := ["dice", "value", "some", "pair", "tick", "name", "first", "second", "held", "found", "told"]) (sc := defScope sRight) (by decide +kernel))
                (fun _ _ _ _ _ => pg_name (i := 3) scRight.nd rfl (Or.inl rfl)) (fun _ _ _ _ _ => pts_one (pt_cmpR op_le (pe_ix (r := rIxT K) ix_tup (pv 3) pe_int (fun _ _ => rfl)) (pv 4) (nomark _))) (fun _ _ _ _ _ => pv 3)) pa_nil)) pa_nil)))
              (pe_tup (pa_cons pe_str (pa_cons (pv 4) pa_nil)))))
          (pss_cons (ps_setLc (i := 9) (own := [("pair", 3)]) (g := gName 3) rfl scRight.nd rfl rfl (sw_true rfl rfl rfl (by decide +kernel)) (pi_tup (pv 1)) (blkOk_by (own := [("pair", 3)]) (N := ["dice", "value", "some", "pair", "tick", "name", "first", "second", "held", "found", "told"]) (sc := defScope sRight) (by decide +kernel))
              (fun _ _ _ _ _ => pg_name (i := 3) scRight.nd rfl (Or.inl rfl)) (fun _ _ _ _ _ => pts_one (pt_cmpR (r := rEqD K) (op_eqD hr.units) (pe_ix (r := rIxT K) ix_tup (pv 3) pe_int (fun _ _ => rfl)) (pv 5) (nomark _))) (fun _ _ _ _ _ => pe_ix (r := rIxT K) ix_tup (pv 3) pe_int (fun _ _ => rfl)))
          (pss_one (ps_set (i := 7) scRight.nd rfl (Or.inl rfl) (pe_ifExp (pt_val (pe_call GN hr1 rfl gN kN bN .nil pass0 (pa_cons (pv 5) pa_nil)))
              (pe_tup (pa_cons pe_str (pa_cons (pe_ifExp (pt_cmpR (op_neD hr.units) (pv 9) (pe_lst pa_nil) (nomark _)) (pe_ix ix_list (pv 9) pe_int (fun _ _ => rfl)) pe_non) pa_nil)))
              (pe_tup (pa_cons pe_str pa_nil))))))) pss_nil)
      (pss_cons (ps_set (i := 10) scRight.nd rfl (Or.inl rfl) (pe_lst (pa_cons
          (pe_lamcall (T := T) (Ng := ["call", "error"]) rfl gM kM lkM hcdM bM scMet rfl (.inl rfl) (met_gives hA hB hC xf hno) tk.tb rfl tk.mem tk.un hr (lamS_by (sc := defScope sRight) (by decide +kernel)) rfl (fun _ _ _ _ _ => rfl)
            (fun A outer s H E f c' hr2 => pe_callS GU (hr2.mono (by decide)) rfl gU kU bU (fun σ => passAt (takes_of rfl rfl rfl rfl) σ) (pa_cons (pv 1) (pa_cons (pv 4) pa_nil))))
          (pa_cons (pe_lamcall (T := T) (Ng := ["call", "error"]) rfl gM kM lkM hcdM bM scMet rfl (.inl rfl) (met_gives hA hB hC xf hno) tk.tb rfl tk.mem tk.un hr (lamS_by (sc := defScope sRight) (by decide +kernel)) rfl (fun _ _ _ _ _ => rfl)
            (fun A outer s H E f c' hr2 => pe_callS GO (hr2.mono (by decide)) rfl gO kO bO (fun σ => passAt (takes_of rfl rfl rfl rfl) σ) (pa_cons (pv 1) (pa_cons (pv 5) pa_nil)))) pa_nil))))
      (pss_one (ps_ret (pe_and (pe_cmpR op_eq (pe_callB (call_repr hgu hr.units) (by rfl) zR (by decide +kernel) (pa_cons (pv 10) pa_nil)) (pe_callB (call_repr hgu hr.units) (by rfl) zR (by decide +kernel) (pa_cons (pe_lst (pa_cons (pv 6) (pa_cons (pv 7) pa_nil))) pa_nil)) (nomark _))
        (pe_one (pe_cmpR op_eq (pe_callB (call_repr hgu hr.units) (by rfl) zR (by decide +kernel) (pa_cons (pv 1) pa_nil)) (pv 8) (nomark _))))))))))), ?_⟩
    exact rr_all (K := K) hD hv fn tb ex k
end
end K0

namespace DW
open PySem PySem.Spec PyProof.Rows L2 LamX
/-! ### a lambda that captures nothing, kept as a value, called later -/
abbrev lamObj (q : Str) (ar : Arguments) (e : Expr) (sc : Scope) (pm : Value) (c' : Addr) (ctv : Value) : Obj := PySem.W.kla_obj "<lambda>" q ar e sc [] pm c' ctv
/-- the object at f is that function, whose code object stands at c' -/
def LamO (f : Addr) (q : Str) (ar : Arguments) (e : Expr) (sc : Scope) (pm : Value) (c' : Addr) (ctv : Value) : HO := .ext fun h => h.get? f = some (lamObj q ar e sc pm c' ctv)
theorem lamO_ne {f c' : Addr} {q : Str} {ar : Arguments} {e : Expr} {sc : Scope} {pm ctv : Value} (ps : Array Value) : LamO f q ar e sc pm c' ctv ≠ .tbl ps := fun z => by
  unfold LamO at z
  cases z
def tLamV (T : List (Addr × Str)) (q : Str) (ar : Arguments) (e : Expr) (sc : Scope) : TE := fun σ H Q => Tabs T H ∧ ∀ (f c' : Addr) (pm ctv : Value) (H2 : Hp), ExtN H H2 → Tabs T H2 → H f = none → H2 f = some (LamO f q ar e sc pm c' ctv) → H2 c' = some (CodeO c' q) → Q (.ref f) H2
theorem lam_laid {X : Cx} {pins : List (Addr × Obj)} {σ : L2.St} {H : Hp} {s : Shared} {h1 : Heap} {tk : Nat} {q : Str} {ar : Arguments} {e : Expr} {sc : Scope} {pm ctv : Value} {c' : Addr} (J : Inv X pins σ H { s with heap := h1, toks := tk }) :
    Inv X pins σ (upd H h1.objs.size (LamO h1.objs.size q ar e sc pm c' ctv)) { s with heap := h1.push (lamObj q ar e sc pm c' ctv), toks := tk } :=
  J.laid (t' := tk) (fun b o z => Heap.get?_push_of_some _ z) (Nat.le_refl _) ⟨Heap.get?_push_size _ rfl, ⟨_, Heap.get?_push_size _ rfl⟩, fun g1 g2 z keep => keep _ z⟩
theorem pe_lamv {X : Cx} {T : List (Addr × Str)} {c Pt : Addr} {ar : Arguments} {e : Expr} {sc : Scope} {pos : Pos} (TB : TabB X.base X.mg c Pt) (code : X.env.code = .ref c) (mem : (Pt, X.env.qual ++ "<lambda>") ∈ T) (un : ∀ p ∈ T, p.1 = Pt → p.2 = X.env.qual ++ "<lambda>")
    (noDef : defaultsOf ar X.env = ([], [])) (noFree : ∀ y ∈ sc.names, y.2 = .free → ∃ c, X.env.cells.lookup y.1 = some c) (noCl : cloFrom X.env.cells sc.names [] = []) : PE X (.Lambda ar e sc pos) (tLamV T (X.env.qual ++ "<lambda>") ar e sc) := by
  refine ⟨fun pins s σ H Q I hw => ?_⟩
  obtain ⟨tabs, k⟩ := hw
  obtain ⟨rows, atP, tri, each⟩ := tabs _ mem
  have inH : s.heap.get? Pt = some { cls := .none, data := .fields rows } := I.hok Pt _ atP
  have bn : s.heap.BuiltinsAt X.mg Pt := TB.bm.keeps I.bk
  have clo : closureFor sc X.env = pure [] := by rw [closure_ok noFree, noCl]
  refine PySem.W.kla_eval noDef ?_
  match look : codeAmong pos rows.toList with
  | some cv =>
    obtain ⟨c', rfl, there⟩ := each pos cv look
    refine PySem.W.kla_makeFunctionHit (mg := X.mg) (c := c) (P := Pt) (ps := rows) clo I.ok.glob (I.mod.glob.keeps I.bk) code (TB.code.keeps I.bk) inH tri look bn fun ctv h1 tk old _ => ?_
    have J : Inv X pins σ H { s with heap := h1, toks := tk } := I.kept old
    have free : H h1.objs.size = none := (J.hok).fresh (Nat.le_refl _)
    have ext : ExtN H (upd H h1.objs.size (LamO h1.objs.size (X.env.qual ++ "<lambda>") ar e sc ((X.mg "__name__").getD .none) c' ctv)) := fun b o z _ => by rw [upd_ne (ne_of_none z free)]; exact z
    exact ⟨.ref h1.objs.size, _, lam_laid J, rfl, k _ c' _ ctv _ ext (tabs.ext fun b o z => by rw [upd_ne (ne_of_none z free)]; exact z) free upd_same (ext _ _ there codeO_ne)⟩
  | none =>
    refine PySem.W.kla_makeFunction (mg := X.mg) (c := c) (P := Pt) (ps := rows) clo I.ok.glob (I.mod.glob.keeps I.bk) code (TB.code.keeps I.bk) inH tri look TB.gP bn fun c' ctv h1 tk old above below rec laid => ?_
    obtain ⟨c2, oc, ws, t, same, at2, dat, nam⟩ := rec
    cases same
    have newC : H c' = none := I.hok.fresh above
    have J := inv_table (t' := tk) (q := X.env.qual ++ "<lambda>") (more := #[rawInt pos.line, rawInt pos.col, .ref c']) (h' := h1) I atP old laid above ⟨oc, ws, t, at2, dat, nam⟩
    generalize eH : upd (upd H Pt (HO.tbl (rows ++ #[rawInt pos.line, rawInt pos.col, .ref c']))) c' (CodeO c' (X.env.qual ++ "<lambda>")) = H1 at J
    have ex1 : ExtN H H1 := fun b o z n => by
      rw [← eH, upd_ne (ne_of_none z newC), upd_ne (fun y => n rows (Option.some.inj (z.symm.trans (by rw [y]; exact atP))))]
      exact z
    have atC : H1 c' = some (CodeO c' (X.env.qual ++ "<lambda>")) := by rw [← eH, upd_same]
    have asL : (rows ++ #[rawInt pos.line, rawInt pos.col, Value.ref c']).toList = rows.toList ++ [rawInt pos.line, rawInt pos.col, .ref c'] := by simp
    have tab1 : Tabs T H1 := fun p hp => by
      by_cases isP : p.1 = Pt
      · rw [un p hp isP, isP]
        refine ⟨_, by rw [← eH, upd_ne (ne_of_none atP newC), upd_same], by rw [asL]; exact PySem.TriplesOk_snoc _ _ _ _ tri, fun at' cv hit => ?_⟩
        rw [asL] at hit
        rcases among_app _ tri hit with y | y
        · obtain ⟨c0, y1, y2⟩ := each at' cv y
          exact ⟨c0, y1, ex1 _ _ y2 codeO_ne⟩
        · exact ⟨c', y, atC⟩
      · obtain ⟨rs, y1, y2, y3⟩ := tabs p hp
        refine ⟨rs, by rw [← eH, upd_ne (ne_of_none y1 newC), upd_ne isP]; exact y1, y2, fun at' cv hit => ?_⟩
        obtain ⟨c0, y4, y5⟩ := y3 at' cv hit
        exact ⟨c0, y4, ex1 _ _ y5 codeO_ne⟩
    have free1 : H1 h1.objs.size = none := (J.hok).fresh (Nat.le_refl _)
    have free : H h1.objs.size = none := I.hok.fresh (Nat.le_trans above (Nat.le_of_lt below))
    have ext : ExtN H1 (upd H1 h1.objs.size (LamO h1.objs.size (X.env.qual ++ "<lambda>") ar e sc ((X.mg "__name__").getD .none) c' ctv)) := fun b o z _ => by rw [upd_ne (ne_of_none z free1)]; exact z
    exact ⟨.ref h1.objs.size, _, lam_laid J, rfl, k _ c' _ ctv _ (ex1.trans ext) (tab1.ext fun b o z => by rw [upd_ne (ne_of_none z free1)]; exact z) free upd_same (ext _ _ atC codeO_ne)⟩
/-! ### it is called -/
def spKept (f : Addr) (q : Str) (ar : Arguments) (e : Expr) (sc : Scope) (pm : Value) (c' : Addr) (ctv : Value) (sp : Sp) : Sp := fun vs H Q E => H f = some (LamO f q ar e sc pm c' ctv) ∧ H c' = some (CodeO c' q) ∧ sp vs H Q E
section
variable {P : Program} {w : World} {K : PySem.W.Frag} {mg : Str → Option Value} {base : Heap}
theorem lam_fn {f c' : Addr} {q : Str} {ar : Arguments} {e : Expr} {sc : Scope} {pm ctv : Value} {N ps : List Str} {k : Nat} {sp : Sp} (S : FnScope N ps sc) (len : ∀ vs H Q E, sp vs H Q E → vs.length = ps.length)
    (hbody : ∀ (A : Around) (outer : List Env) (s : Shared) (H : Hp) (vs : List V) (Q : VK) (E : XK), Room k (A.deeper (envOfC q sc s.heap.objs.size f (.ref c'))) → sp vs H Q E →
      ∃ t, PE (cxOf CX0 P w K mg base N q sc f (.ref c') A outer s H E0).nox e t ∧ t (start N vs) H Q) : FnOk P w K mg base CX0 (k + 1) f (PySem.W.kla_fn "<lambda>" q ar e sc [] pm (.ref c') ctv) ps (spKept f q ar e sc pm c' ctv sp) := by
  refine ⟨fun vs H Q E h => len vs H Q E h.2.2, fun A outer s H args us vs Q E hr env0 hb r h => ?_⟩
  obtain ⟨isF, isC, hs⟩ := h
  obtain ⟨atF, _⟩ := env0.hok f _ isF
  obtain ⟨⟨oc, ws, t0, e1, e2, e3⟩, _⟩ := env0.hok c' _ isC
  have lim : s.heap.NoLimit := env0.mod.nolimit.keeps fun a o z => (env0.bs a o z).1
  have names : ∀ y ∈ ps.zip us, sc.names.lookup y.1 = some .local ∨ (sc.names.lookup y.1 = some .cell ∧ ((cellsFrom (s.heap.objs.size + 1) sc.names []).lookup y.1).isSome = true) := fun ⟨n, v⟩ hy => by
    rcases S.par n (List.of_mem_zip hy).1 with z | z
    · exact .inl z
    · exact .inr ⟨z, PySem.W.cellsFrom_some _ _ _ (.inl z)⟩
  refine PySem.W.kla_callFunE hr.depth atF rfl S.co S.gen rfl ⟨c', oc, ws, t0, rfl, e1, e2, e3⟩ (hb _ _ _ _ (wpAny_newFunctionEnv_cells S.kind names fun env he s1 x => ?_))
  subst he
  refine ⟨lim.keeps x.toInCall.keep, ?_⟩
  obtain ⟨t, ht, hq⟩ := hbody A outer s H vs Q E (hr.deeper _) hs
  have I0 : Inv (cxOf CX0 P w K mg base N q sc f (.ref c') A outer s H E0) [] (start N vs) H s1 := inv_start S hr.hd env0 (len _ _ _ _ hs) r x
  refine PySem.W.kla_codeExpr (wpAny_mono (ht.nox.run [] s1 (start N vs) H _ I0 hq) (fun v s' z => ?_) fun e s' z => z)
  obtain ⟨u, H', J, rv, q⟩ := z
  exact ⟨u, H', J.os, J.bare, J.base, J.hok, rv, q⟩
end
end DW

namespace DW
open PySem PySem.Spec PyProof.Rows L2 LamX
section
variable {P : Program} {w : World} {K : PySem.W.Frag} {mg : Str → Option Value} {base : Heap}
/-- the thing at f may be called: a def that the top made, or a lambda that was kept -/
inductive Can (P : Program) (w : World) (K : PySem.W.Frag) (mg : Str → Option Value) (base : Heap) (k : Nat) (f : Addr) (sp : Sp) (H : Hp) : Prop
  | top (h : Held P w K mg base k f sp)
  | lam (q : Str) (ar : Arguments) (e : Expr) (sc : Scope) (pm : Value) (c' : Addr) (ctv : Value) (ps : List Str) (isF : H f = some (LamO f q ar e sc pm c' ctv)) (isC : H c' = some (CodeO c' q))
      (F : FnOk P w K mg base CX0 k f (PySem.W.kla_fn "<lambda>" q ar e sc [] pm (.ref c') ctv) ps (spKept f q ar e sc pm c' ctv sp)) (b : Binds K (PySem.W.kla_fn "<lambda>" q ar e sc [] pm (.ref c') ctv) ps [])
def tCallM (S : Addr → Sp → Hp → Prop) (i : Nat) (t : TA) : TE := fun σ H Q => ∃ f sp, σ[i]? = some (some (.ref f)) ∧ S f sp H ∧ t σ H fun vs H1 => ExtN H H1 ∧ sp vs H1 Q E0
theorem pe_callM {X : Cx} {k i : Nat} {x : Str} {p pos : Pos} {e : Expr} {es : List Expr} {t : TA} (hr : Room k X.A) (hN : X.N[i]? = some x) (hv : Vis X.env.scope x) (ha : PA X (e :: es) t) (hdb : (x == ("__debug__" : Str)) = false := by decide)
    (hcd : (x == ("__classdict__" : Str)) = false := by decide) (he : starEach (e :: es) X.env = (false, eval e X.env) :: starEach es X.env := by rfl) (hpl : (backTo pos (starEach es X.env)).any (·.1) = false := by rfl) :
    PE X (.Call (.Name x p) (e :: es) [] pos) (tCallM (Can X.prog X.w X.K X.mg X.base k) i t) := by
  refine ⟨fun pins s σ H Q I hw => ?_⟩
  obtain ⟨f, sp, inSlot, can, args⟩ := hw
  refine wpAny_Call_Name_kw (thn ((pe_var (pos := p) hN hv hdb hcd).run pins s σ H (fun v H1 => v = .ref f ∧ H1 = H) I ⟨.ref f, inSlot, rfl, rfl⟩) fun u s1 z1 => ?_)
  obtain ⟨v, H1, I1, r1, rfl, rfl⟩ := z1
  cases r1
  cases can with
  | top held =>
    obtain ⟨fd, ps, F, keep, b⟩ := held.ex
    exact PySem.W.callWith_K (h₀ := X.base) I.ok.mod.kin keep (thn (ha.run pos pins s1 σ _ _ I1 args) fun us s2 z2 => by
      obtain ⟨vs, H2, I2, r, q⟩ := z2
      exact ⟨I2.kIn, run_fn (dvs := []) F hr b .nil (fun _ _ _ _ _ _ _ z => z.elim) I2 r (by rw [List.append_nil]; exact q.2)⟩) he hpl
  | lam q0 ar e0 sc pm c' ctv ps isF isC F b =>
    have atF : ∀ {s2 : Shared} {H2 : Hp}, Inv X pins σ H2 s2 → H2 f = some (LamO f q0 ar e0 sc pm c' ctv) → PySem.W.FnAt f s2.heap := fun J z => ⟨_, _, _, _, (J.hok f _ z).1⟩
    exact PySem.W.callWith_F (first := []) (atF I1 isF) (thn (ha.run pos pins s1 σ _ _ I1 args) fun us s2 z2 => by
      obtain ⟨vs, H2, I2, r, e2, q⟩ := z2
      have f2 := e2 _ _ isF lamO_ne
      have c2 := e2 _ _ isC codeO_ne
      exact ⟨atF I2 f2, run_fn (dvs := []) F hr b .nil (fun _ _ _ _ _ _ _ z => z.elim) I2 r (by rw [List.append_nil]; exact ⟨f2, c2, q⟩)⟩) he hpl
theorem Can.ext {k : Nat} {f : Addr} {sp : Sp} {H H' : Hp} (h : Can P w K mg base k f sp H) (e : ∀ b o, H b = some o → (∀ ps, o ≠ .tbl ps) → (∀ xs, o ≠ .lst xs) → H' b = some o) : Can P w K mg base k f sp H' := by
  cases h with
  | top h => exact .top h
  | lam q ar e0 sc pm c' ctv ps isF isC F b =>
    exact .lam q ar e0 sc pm c' ctv ps (e _ _ isF lamO_ne fun xs z => by unfold LamO at z; cases z) (e _ _ isC codeO_ne fun xs z => by unfold CodeO at z; cases z) F b
end
end DW
namespace K0
open PySem PySem.Spec PyProof.Rows L2 DW RZ LamX
section
variable {P : Program} {w : World} {K : PySem.W.Frag} {mg : Str → Option Value} {base : Heap}
/-- it answers g of each drawn value -/
def Jud (P : Program) (w : World) (K : PySem.W.Frag) (mg : Str → Option Value) (base : Heap) (k : Nat) (f : Addr) (g : PyData → Bool) (H : Hp) : Prop := ∃ sp, Can P w K mg base k f sp H ∧ Jd K sp g Fine
theorem Jud.ext {k : Nat} {f : Addr} {g : PyData → Bool} {H H' : Hp} (h : Jud P w K mg base k f g H) (e : ∀ b o, H b = some o → (∀ ps, o ≠ .tbl ps) → (∀ xs, o ≠ .lst xs) → H' b = some o) : Jud P w K mg base k f g H' := by
  obtain ⟨sp, c, j⟩ := h
  exact ⟨sp, c.ext e, j⟩
/-- the list of the judges -/
structure Jgs (P : Program) (w : World) (K : PySem.W.Frag) (mg : Str → Option Value) (base : Heap) (k : Nat) (J : Addr) (gs : List (PyData → Bool)) (js : List (Addr × Addr × Addr)) (H : Hp) : Prop where
  at_ : H J = some (.lst (js.map fun j => V.ref j.1))
  len : js.length = gs.length
  few : gs.length ≤ 100
  each : ∀ (i : Nat) (j : Addr × Addr × Addr) (g : PyData → Bool), js[i]? = some j → gs[i]? = some g → H j.1 = some (.tup [.ref j.2.1, .ref j.2.2]) ∧ Jud P w K mg base k j.2.1 g H ∧ Jud P w K mg base k j.2.2 g H
theorem Jgs.ext {k : Nat} {J : Addr} {gs : List (PyData → Bool)} {js : List (Addr × Addr × Addr)} {H H' : Hp} (h : Jgs P w K mg base k J gs js H) (a : H' J = H J) (e : ∀ b o, H b = some o → (∀ ps, o ≠ .tbl ps) → (∀ xs, o ≠ .lst xs) → H' b = some o) : Jgs P w K mg base k J gs js H' := by
  refine ⟨by rw [a]; exact h.at_, h.len, h.few, fun i j g h1 h2 => ?_⟩
  obtain ⟨z1, z2, z3⟩ := h.each i j g h1 h2
  exact ⟨e _ _ z1 (fun ps z => by cases z) (fun xs z => by cases z), z2.ext e, z3.ext e⟩
theorem Jgs.same {k : Nat} {J : Addr} {gs : List (PyData → Bool)} {js : List (Addr × Addr × Addr)} {H H' : Hp} (h : Jgs P w K mg base k J gs js H) (s : Same H H') : Jgs P w K mg base k J gs js H' :=
  h.ext (by rw [h.at_]; exact s _ _ h.at_) fun b o z _ _ => s b o z
abbrev sL (a J : Addr) (x2 x3 x4 x5 x6 x7 x8 x9 x10 x11 x12 : Option V) : L2.St := [some (.ref a), some (.ref J), x2, x3, x4, x5, x6, x7, x8, x9, x10, x11, x12]
abbrev gJO (K : PySem.W.Frag) : TG := gTup K 2 (gCons (gName 9) (gCons (gName 10) gNil))
abbrev tJs (P : Program) (w : World) (K : PySem.W.Frag) (mg : Str → Option Value) (base : Heap) (k i : Nat) : TE := tLc (iList K (tVar 1)) (gJO K) tYes (tCallM (Can P w K mg base k) i (tCons (tVar 7) tNil)) [9, 10]
theorem rd_js {k n : Nat} {a J : Addr} {gs : List (PyData → Bool)} {js : List (Addr × Addr × Addr)} {H : Hp} {v : V} {d : PyData} {x2 x3 x4 x5 x6 x8 x9 x10 x11 x12 : Option V} {Q : VK} (hn : n = 9 ∨ n = 10) (j : Jgs P w K mg base k J gs js H) (hv : DW.Dd K H v d) (fn : Fine d)
    (kk : ∀ D H', Same H H' → H' D = some (.lst ((gs.map fun g => g d).map V.bl)) → Q (.ref D) H') : tJs P w K mg base k n (sL a J x2 x3 x4 x5 x6 (some v) x8 x9 x10 x11 x12) H Q := by
  refine ⟨_, rfl, J, rfl, ⟨_, SqL.of j.at_⟩, fun D hD => lc_list (K := K) (xs := js.map fun j => V.ref j.1) (fun i H' => Same H H' ∧ H' D = some (.lst (((gs.take i).map fun g => g d).map V.bl))) ⟨same_new hD, upd_same⟩ (fun i H' _ p => SqL.of (p.1 _ _ j.at_))
    (fun i x H' hx p => ?_) (fun H' p => ?_)⟩
  · obtain ⟨s1, hy⟩ := p
    rw [List.getElem?_map] at hx
    obtain ⟨jj, hj, rfl⟩ := Option.map_eq_some_iff.mp hx
    have hi : i < gs.length := by
      rw [← j.len]
      exact (List.getElem?_eq_some_iff.mp hj).1
    obtain ⟨g, hg⟩ : ∃ g, gs[i]? = some g := ⟨_, List.getElem?_eq_getElem hi⟩
    obtain ⟨ht, ⟨sp1, c1, j1⟩, ⟨sp2, c2, j2⟩⟩ := (j.same s1).each i jj g hj hg
    have few := j.few
    have fin : ∀ H2, Same H' H2 → ∃ acc, H2 D = some (.lst acc) ∧ acc.length < sizeLine ∧ (Same H (upd H2 D (.lst (acc ++ [.bl (g d)]))) ∧ upd H2 D (.lst (acc ++ [.bl (g d)])) D = some (.lst (((gs.take (i + 1)).map fun g => g d).map V.bl))) := fun H2 s2 => by
      refine ⟨_, s2 _ _ hy, ?_, same_mut (s1.trans s2) hD, ?_⟩
      · rw [List.length_map, List.length_map, List.length_take, sizeLine_eq]
        omega
      · rw [upd_same, takeSucc hg]
        simp
    refine ⟨jj.1, _, rfl, SqT.of ht, rfl, _, _, rfl, _, _, rfl, rfl, rfl, tyes ?_⟩
    rcases hn with rfl | rfl
    · exact ⟨jj.2.1, sp1, rfl, c1, _, rfl, ExtN.refl _, j1 v d H' _ (hv.ext (Same.extN s1)) fn fun H2 s2 => fin H2 s2⟩
    · exact ⟨jj.2.2, sp2, rfl, c2, _, rfl, ExtN.refl _, j2 v d H' _ (hv.ext (Same.extN s1)) fn fun H2 s2 => fin H2 s2⟩
  · obtain ⟨s1, hy⟩ := p
    rw [List.length_map, j.len, List.take_length] at hy
    exact kk D H' s1 hy
end
end K0

namespace DW
open PySem PySem.Spec PyProof.Rows L2 LamX
section
variable {P : Program} {w : World} {K : PySem.W.Frag} {mg : Str → Option Value} {base : Heap}
/-- a promise that raises nothing, told of the plain context -/
theorem fn_cx {k : Nat} {f : Addr} {fd : FuncData} {ps : List Str} {sp : Sp} (F : FnOk P w K mg base (L2.CX P w) k f fd ps sp) : FnOk P w K mg base CX0 k f fd ps (fun vs H Q _ => sp vs H Q E0) :=
  ⟨fun vs H Q E h => F.len vs H Q E0 h, fun A outer s H args us vs Q E hr e0 hb r h => codeAny_mono (F.run A outer s H args us vs Q E0 hr e0 hb r h) fun r s' hq => by
    cases r with
    | error e =>
      obtain ⟨_, _, _, _, _, _, _, _, _, _, _, _, z⟩ := hq
      exact z.elim
    | ok fl => cases fl <;> exact hq⟩
theorem fn_up {k m : Nat} {f : Addr} {fd : FuncData} {ps : List Str} {sp : Sp} (h : k ≤ m) (F : FnOk P w K mg base CX0 k f fd ps sp) : FnOk P w K mg base CX0 m f fd ps sp :=
  ⟨F.len, fun A outer s H args us vs Q E hr e0 hb r hs => F.run A outer s H args us vs Q E (hr.mono h) e0 hb r hs⟩
theorem noFree_of {sc : Scope} {l : List (Str × Addr)} (h : (sc.names.all fun y => !decide (y.2 = NameKind.free)) = true) : ∀ y ∈ sc.names, y.2 = .free → ∃ c, l.lookup y.1 = some c := fun y hy z => by
  rw [List.all_eq_true] at h
  have q := h y hy
  rw [z] at q
  exact absurd q (by decide)
structure Cal (P : Program) (w : World) (K : PySem.W.Frag) (mg : Str → Option Value) (base : Heap) (x : Str) (k : Nat) (ps : List Str) (sp : Sp) (f : Addr) (fd : FuncData) : Prop where
  G : FnOk P w K mg base CX0 k f fd ps sp
  kp : PySem.W.keepIn K (.ref f) = true
  b : Binds K fd ps []
  g : mg x = some (.ref f)
structure CalG (P : Program) (w : World) (K : PySem.W.Frag) (mg : Str → Option Value) (base : Heap) (x : Str) (k : Nat) (ps : List Str) (sp : Sp) (f : Addr) (fd : FuncData) : Prop where
  G : FnG P w K mg base k f fd ps sp
  kp : PySem.W.keepIn K (.ref f) = true
  b : Binds K fd ps []
  g : mg x = some (.ref f)
end
end DW
namespace K0
open PySem PySem.Spec PyProof.Rows L2 DW RZ LamX
abbrev sLaw : Stmt := top 43
abbrev lawN : List Str := ["script", "judges", "spot", "dice", "turn", "seen", "values", "value", "held", "judge", "own", "told", "some"]
theorem scLaw : FnScope lawN ["script"] (defScope sLaw) := ⟨rfl, rfl, rfl, by decide +kernel, rfl, by decide +kernel, by decide +kernel⟩
section
variable {P : Program} {w : World} {K : PySem.W.Frag} {mg : Str → Option Value} {base : Heap}
def spLaw (K : PySem.W.Frag) (T : List (Addr × Str)) : Sp := fun vs H Q _ => ∃ (a : Addr) (ns : List Int), vs = [.ref a] ∧ SqL K H a (ns.map V.int) ∧ ns.length ≤ 63 ∧ Tabs T H ∧ ∀ H', Q (.bl true) H'
end
end K0

namespace K0
open PySem PySem.Spec PyProof.Rows L2 DW RZ LamX
section
variable {P : Program} {w : World} {K : PySem.W.Frag} {mg : Str → Option Value} {base : Heap}
/-! ### the law's end -/
abbrev tE1 (K : PySem.W.Frag) : TS := tIfS (tTest (tOp rNe (tRp K (tLst (tCons (tC (.str "dawn")) (tCons (tC (.int 12)) (tCons (tC (.int 20)) (tCons (tC (.int (10 ^ 34))) tNil))))))
  (tRp K (tLst (tCons (tC (.str "dawn")) (tCons (tC (.int 12)) (tCons (tC (.int 20)) (tCons (tPw 34) tNil)))))))) (tRet (tC (.bl false))) tNext
abbrev cE1 : PyData := .list [.str "dawn", .int 12, .int 20, .int (10 ^ 34)]
theorem fine_e1 : Fine cE1 := fine_c (by decide +kernel)
theorem le_1 {D : Ends} {σ : L2.St} {H : Hp} (k : ∀ H', Same H H' → D.nx σ H') : tE1 K D σ H := by
  obtain ⟨_, _, _, sho, shl, dep⟩ := fine_e1
  refine ⟨by show 4 ≤ sizeLine; decide, fun p np => ?_⟩
  have s1 := same_new (o := .lst [.str "dawn", .int 12, .int 20, .int (10 ^ 34)]) np
  refine ⟨.ref p, cE1, rfl, .base (.lst (SqL.of upd_same) (.cons (.str _) (.cons (.int _) (.cons (.int _) (.cons (.int _) .nil))))) rfl, sho, shl, dep, ?_⟩
  refine ⟨_, _, rfl, rfl, ⟨by decide, by decide +kernel⟩, by show 4 ≤ sizeLine; decide, fun q nq => ?_⟩
  have s2 := same_new (o := .lst [.str "dawn", .int 12, .int 20, .int (10 ^ (34 : Int).toNat)]) nq
  refine ⟨.ref q, cE1, rfl, .base (.lst (SqL.of upd_same) (.cons (.str _) (.cons (.int _) (.cons (.int _) (.cons (.int _) .nil))))) rfl, sho, shl, dep, rfl, _, rfl, ?_⟩
  rw [decide_eq_true rfl]
  exact iteF (k _ (s1.trans s2))
abbrev tE2 (K : PySem.W.Frag) : TE := tLst (tCons (tCall (spJ K isNameD) [] E0 (tCons (tC (.str "ba7.off")) tNil)) (tCons (tCall (spJ K isNameD) [] E0 (tCons (tC (.str "7")) tNil)) (tCons (tCall (spJ K isNameD) [] E0 (tCons (tC (.str "dawn")) tNil))
  (tCons (tCall (spJ K (betD 0 (10 ^ 34))) [] E0 (tCons (tPw 34) tNil)) (tCons (tCall (spJ K (betD 0 (10 ^ 34))) [] E0 (tCons (tC (.bl true)) tNil)) (tCons (tCall (spJn K 1 namesD) [] E0 (tCons (tTup (tCons (tC (.str "a")) (tCons (tC (.str "b.1")) tNil))) tNil)) tNil))))))
abbrev cN2 : PyData := .tuple [.str "a", .str "b.1"]
theorem fine_n2 : Fine cN2 := fine_c (by decide +kernel)
theorem fn_down {d : PyData} (h : Fn 2 d) : Fn 1 d := ⟨h.1, fun ds e => ⟨(h.2 ds e).1, fun x hx => ((h.2 ds e).2 x hx).1⟩⟩
abbrev toldV : List V := [.bl true, .bl false, .bl false, .bl true, .bl false, .bl true]
theorem le_2 {σ : L2.St} {H : Hp} {Q : VK} (k : ∀ p H', Same H H' → H' p = some (.lst toldV) → Q (.ref p) H') : tE2 K σ H Q := by
  have fs : ∀ z : Str, z.length ≤ 1000 → Fit (.str z) := fun z hz y e => by cases e; exact hz
  have v1 : isNameD (.str "ba7.off") = true := by decide +kernel
  have v2 : isNameD (.str "7") = false := by decide +kernel
  have v3 : isNameD (.str "dawn") = false := by decide +kernel
  have v4 : betD 0 (10 ^ 34) (.int (10 ^ (34 : Int).toNat)) = true := by decide +kernel
  have v5 : betD 0 (10 ^ 34) (.bool true) = false := by decide +kernel
  have v6 : namesD cN2 = true := by decide +kernel
  refine ⟨_, .str "ba7.off", rfl, .base (.str _) rfl, fs _ (by decide), fun H1 s1 => ⟨_, .str "7", rfl, .base (.str _) rfl, fs _ (by decide), fun H2 s2 => ⟨_, .str "dawn", rfl, .base (.str _) rfl, fs _ (by decide), fun H3 s3 => ?_⟩⟩⟩
  rw [v1, v2, v3]
  refine ⟨_, _, rfl, rfl, ⟨by decide, by decide +kernel⟩, _, .int (10 ^ (34 : Int).toNat), rfl, .base (.int _) rfl, (fun y e => by cases e), fun H4 s4 => ⟨_, .bool true, rfl, .base (.bl _) rfl, (fun y e => by cases e), fun H5 s5 => ?_⟩⟩
  rw [v4, v5]
  refine ⟨by show 2 ≤ sizeLine; decide, fun p np => ⟨_, cN2, rfl, .base (.tup (SqT.of upd_same) (.cons (.str _) (.cons (.str _) .nil))) rfl, fn_down fine_n2.1, fun H6 s6 => ?_⟩⟩
  rw [v6]
  refine ⟨by show 6 ≤ sizeLine; decide, fun q nq => ?_⟩
  exact k q _ (s1.trans (s2.trans (s3.trans (s4.trans (s5.trans ((same_new np).trans (s6.trans (same_new nq)))))))) upd_same
abbrev tE3 : TE := tTup (tCons (tTup (tCons (tC (.int 0)) (tCons (tC (.str "on")) tNil))) (tCons (tTup (tCons (tC (.int 3)) (tCons (tC (.str "off")) tNil))) tNil))
abbrev lS : List PyData := [.tuple [.int 0, .str "on"], .tuple [.int 3, .str "off"]]
abbrev cS : PyData := .tuple lS
theorem fine_s : Fine cS := fine_c (by decide +kernel)
theorem seen_s : seenD cS = true := by decide +kernel
theorem le_3 {σ : L2.St} {H : Hp} {Q : VK} (k : ∀ p H', Same H H' → Dp K H' (.ref p) cS → Q (.ref p) H') : tE3 σ H Q := by
  refine ⟨by show 2 ≤ sizeLine; decide, fun p np => ⟨by show 2 ≤ sizeLine; decide, fun q nq => ⟨by show 2 ≤ sizeLine; decide, fun r nr => ?_⟩⟩⟩
  have s1 := same_new (o := .tup [.int 0, .str "on"]) np
  have s2 := same_new (o := .tup [.int 3, .str "off"]) nq
  have s3 := same_new (o := .tup [.ref p, .ref q]) nr
  have a1 := s3 _ _ (s2 _ _ (upd_same (H := H) (a := p) (o := .tup [.int 0, .str "on"])))
  have a2 := s3 _ _ (upd_same (H := upd H p (.tup [.int 0, .str "on"])) (a := q) (o := .tup [.int 3, .str "off"]))
  exact k r _ (s1.trans (s2.trans s3)) (.tup (SqT.of upd_same) (.cons (.tup (SqT.of a1) (.cons (.int _) (.cons (.str _) .nil))) (.cons (.tup (SqT.of a2) (.cons (.int _) (.cons (.str _) .nil))) .nil)))
abbrev tE4 (K : PySem.W.Frag) (CO CN CA : Addr) : TE := tOp rCat (tVar 11) (tLst (tCons (tCall (spJn K 2 seenD) [] E0 (tCons (tVar 12) tNil)) (tCons (tCall (fun vs H Q _ => spUntil K CO CN vs H Q E0) [] E0 (tCons (tVar 12) (tCons (tC (.int 2)) tNil)))
  (tCons (tCall (fun vs H Q _ => spTickOf K CO CA vs H Q E0) [] E0 (tCons (tVar 12) (tCons (tC (.str "off")) tNil))) tNil))))
abbrev cT : PyData := .list [.bool true, .bool false, .bool false, .bool true, .bool false, .bool true, .bool true, .tuple [.tuple [.int 0, .str "on"]], .int 3]
theorem fine_t : Fine cT := fine_c (by decide +kernel)
theorem le_4 {CO CN CA p q : Addr} {x0 x1 x2 x3 x4 x5 x6 x7 x8 x9 x10 : Option V} {H : Hp} {Q : VK} (hp : H p = some (.lst toldV)) (hq : Dp K H (.ref q) cS) (k : ∀ r H', Same H H' → Dp K H' (.ref r) cT → Q (.ref r) H') :
    tE4 K CO CN CA [x0, x1, x2, x3, x4, x5, x6, x7, x8, x9, x10, some (.ref p), some (.ref q)] H Q := by
  refine ⟨_, rfl, _, rfl, _, cS, rfl, .base hq rfl, fine_s.1, fun H1 s1 => ?_⟩
  rw [seen_s]
  have sv2 : Sv (.int 2) (.int 2) := .int 2
  refine ⟨_, rfl, _, cS, _, .int 2, rfl, .base (Dp.same s1 hq) rfl, fine_s.1, sv2, (fun y e => by cases e), by decide +kernel, by decide +kernel, (fun z => by rw [seen_s] at z; cases z), (fun _ z => by rw [show betD 0 (10 ^ 34) (.int 2) = true by decide +kernel] at z; cases z), fun ds i e1 e2 _ _ H2 u ys s2 nu hu hy => ?_⟩
  cases e1
  cases e2
  have s12 := s1.trans s2
  refine ⟨_, rfl, _, cS, _, .str "off", rfl, .base (Dp.same s12 hq) rfl, fine_s.1, .base (.str _) rfl, (fun y e => by cases e; decide), (fun z => by rw [seen_s] at z; cases z), (fun _ z => by rw [show isNameD (.str "off") = true by decide +kernel] at z; cases z), fun ds z e1 e2 _ _ H3 s3 => ?_⟩
  cases e1
  cases e2
  have lv : lookV lS "off" = .int 3 := by kernel_rfl
  have un : untilD 2 lS = [.tuple [.int 0, .str "on"]] := by kernel_rfl
  rw [lv]
  rw [un] at hy
  have s13 := s12.trans s3
  refine ⟨by show 3 ≤ sizeLine; decide, fun r nr => ?_⟩
  have s4 := same_new (o := .lst [.bl true, .ref u, .int 3]) nr
  refine ⟨p, r, _, _, rfl, rfl, s4 _ _ (s13 _ _ hp), upd_same, by show 6 + 3 ≤ sizeLine; decide, fun t nt => ?_⟩
  have s5 := same_new (o := .lst (toldV ++ [.bl true, .ref u, .int 3])) nt
  have s35 := s3.trans (s4.trans s5)
  refine k t _ (s13.trans (s4.trans s5)) (.lst (SqL.of upd_same) ?_)
  exact .cons (.bl _) (.cons (.bl _) (.cons (.bl _) (.cons (.bl _) (.cons (.bl _) (.cons (.bl _) (.cons (.bl _) (.cons (.tup (SqT.of (s35 _ _ hu)) (DpAll.same s35 hy)) (.cons (.int _) .nil))))))))
abbrev tE5 (K : PySem.W.Frag) : TE := tOp rEq (tRp K (tVar 11)) (tRp K (tLst (tCons (tC (.bl true)) (tCons (tC (.bl false)) (tCons (tC (.bl false)) (tCons (tC (.bl true)) (tCons (tC (.bl false)) (tCons (tC (.bl true)) (tCons (tC (.bl true)) (tCons (tTup (tCons (tTup (tCons (tC (.int 0)) (tCons (tC (.str "on")) tNil))) tNil)) (tCons (tC (.int 3)) tNil)))))))))))
theorem le_5 {r : Addr} {x0 x1 x2 x3 x4 x5 x6 x7 x8 x9 x10 x12 : Option V} {H : Hp} {Q : VK} (hr : Dp K H (.ref r) cT) (k : ∀ H', Q (.bl true) H') : tE5 K [x0, x1, x2, x3, x4, x5, x6, x7, x8, x9, x10, some (.ref r), x12] H Q := by
  obtain ⟨_, _, _, sho, shl, dep⟩ := fine_t
  refine ⟨_, rfl, .ref r, cT, rfl, .base hr rfl, sho, shl, dep, by show 2 ≤ sizeLine; decide, fun p np => ⟨by show 1 ≤ sizeLine; decide, fun q nq => ⟨by show 9 ≤ sizeLine; decide, fun t nt => ?_⟩⟩⟩
  have s2 := same_new (o := .tup [.ref p]) nq
  have s3 := same_new (o := .lst [.bl true, .bl false, .bl false, .bl true, .bl false, .bl true, .bl true, .ref q, .int 3]) nt
  have a1 := s3 _ _ (s2 _ _ (upd_same (H := H) (a := p) (o := .tup [.int 0, .str "on"])))
  have a2 := s3 _ _ (upd_same (H := upd H p (.tup [.int 0, .str "on"])) (a := q) (o := .tup [.ref p]))
  refine ⟨.ref t, cT, rfl, .base (.lst (SqL.of upd_same) (.cons (.bl _) (.cons (.bl _) (.cons (.bl _) (.cons (.bl _) (.cons (.bl _) (.cons (.bl _) (.cons (.bl _) (.cons (.tup (SqT.of a2) (.cons (.tup (SqT.of a1) (.cons (.int _) (.cons (.str _) .nil))) .nil)) (.cons (.int _) .nil)))))))))) rfl, sho, shl, dep, rfl, ?_⟩
  rw [decide_eq_true rfl]
  exact k _
end
end K0

namespace K0
open PySem PySem.Spec PyProof.Rows L2 DW RZ LamX
/-- the lambda that the law writes -/
def lamX : Expr := match (defBody sLaw).getD 1 (.Pass ⟨0, 0, 0, 0⟩) with
  | Stmt.Expr (.Call _ [.Tuple [_, l] _ _] _ _) _ => l
  | _ => .Name "" ⟨0, 0, 0, 0⟩
def lamAr : Arguments := match lamX with
  | .Lambda a _ _ _ => a | _ => defArgs sLaw
def lamBd : Expr := match lamX with
  | .Lambda _ e _ _ => e | _ => lamX
def lamSc : Scope := match lamX with
  | .Lambda _ _ s _ => s | _ => defScope sLaw
theorem scLam : FnScope ["value"] ["value"] lamSc := ⟨rfl, rfl, rfl, by decide +kernel, rfl, by decide +kernel, by decide +kernel⟩
theorem ris_names : risD isNameD = namesD := by
  funext d
  cases d <;> rfl
theorem lay_okd : ∀ {ds : List PyData}, PyData.canLayAll0 ds = true → ∀ e ∈ ds, Okd e
  | [], _, e, m => by cases m
  | d :: r, h, e, m => by
    simp only [PyData.canLayAll0, Bool.and_eq_true] at h
    rcases List.mem_cons.mp m with rfl | m
    · intro z q
      rw [q] at h
      simpa only [PyData.canLay0] using h.1
    · exact lay_okd h.2 e m
section
variable {P : Program} {w : World} {K : PySem.W.Frag} {mg : Str → Option Value} {base : Heap}
theorem lam_ok {S : Addr → Option Sp} {q : Str} {fR fN f c' : Addr} {dR : FuncData} {pm ctv : Value} (cR : Cal P w K mg base "_law_is_rising" 4 ["value", "judge"] (spRise K S) fR dR) (hS : S fN = some (spJo K isNameD)) (gN : mg "_law_is_name" = some (.ref fN)) :
    FnOk P w K mg base CX0 5 f (PySem.W.kla_fn "<lambda>" q lamAr lamBd lamSc [] pm (.ref c') ctv) ["value"] (spKept f q lamAr lamBd lamSc pm c' ctv (spOk K namesD Fine)) := by
  refine lam_fn scLam (fun vs H Q E h => ?_) (fun A outer s H vs Q E hr h => ?_)
  · obtain ⟨v, d, rfl, _⟩ := h
    rfl
  · obtain ⟨v, d, rfl, hd, fn, k⟩ := h
    refine ⟨_, pe_call cR.G hr rfl cR.g cR.kp cR.b .nil pass0 (pa_cons (pv 0) (pa_cons (pe_glob rfl gN (show RelV (.ref fN) (.ref fN) from rfl)) pa_nil)), ?_⟩
    have J : Jd K (spJo K isNameD) isNameD (fun e => Fit e ∧ Okd e) := fun x e H1 R h1 h2 h3 => ⟨x, e, rfl, h1, h2.1, h2.2, h3⟩
    refine ⟨_, rfl, v, fN, d, _, isNameD, (fun e => Fit e ∧ Okd e), rfl, hS, J, hd, (fun ds e => ?_), ?_⟩
    · obtain ⟨a1, _, a3, a4⟩ := fn.2.2.1 ds e
      exact ⟨a1, fun x hx => ⟨((fn.1.2 ds e).2 x hx).fit, lay_okd a3 x hx⟩, a3, a4, cmp_names⟩
    · rw [ris_names]
      exact k
abbrev lawG : List (PyData → Bool) := [betD (1 - 10 ^ 40) (10 ^ 40 - 1), isNameD, betD 0 (10 ^ 34), seenD, namesD]
theorem held_of {x : Str} {k : Nat} {ps : List Str} {sp : Sp} {f : Addr} {fd : FuncData} (c : Cal P w K mg base x k ps sp f fd) (h : k ≤ 5) : Held P w K mg base 5 f sp := ⟨fd, ps, fn_up h c.G, c.kp, c.b⟩
theorem jud_J {x : Str} {k : Nat} {ps : List Str} {g : PyData → Bool} {f : Addr} {fd : FuncData} {H : Hp} (c : Cal P w K mg base x k ps (spJ K g) f fd) (h : k ≤ 5) : Jud P w K mg base 5 f g H := ⟨_, .top (held_of c h), fun x e H1 R h1 h2 h3 => ⟨x, e, rfl, h1, h2.1.1, h3⟩⟩
theorem jud_Jo {x : Str} {k : Nat} {ps : List Str} {g : PyData → Bool} {f : Addr} {fd : FuncData} {H : Hp} (c : Cal P w K mg base x k ps (spJo K g) f fd) (h : k ≤ 5) : Jud P w K mg base 5 f g H := ⟨_, .top (held_of c h), fun x e H1 R h1 h2 h3 => ⟨x, e, rfl, h1, h2.1.1, h2.2.1, h3⟩⟩
theorem jud_Jn1 {x : Str} {k : Nat} {ps : List Str} {g : PyData → Bool} {f : Addr} {fd : FuncData} {H : Hp} (c : Cal P w K mg base x k ps (spJn K 1 g) f fd) (h : k ≤ 5) : Jud P w K mg base 5 f g H := ⟨_, .top (held_of c h), fun x e H1 R h1 h2 h3 => ⟨x, e, rfl, h1, fn_down h2.1, h3⟩⟩
theorem jud_Jn2 {x : Str} {k : Nat} {ps : List Str} {g : PyData → Bool} {f : Addr} {fd : FuncData} {H : Hp} (c : Cal P w K mg base x k ps (spJn K 2 g) f fd) (h : k ≤ 5) : Jud P w K mg base 5 f g H := ⟨_, .top (held_of c h), fun x e H1 R h1 h2 h3 => ⟨x, e, rfl, h1, h2.1, h3⟩⟩
theorem jud_Ok {x : Str} {k : Nat} {ps : List Str} {g : PyData → Bool} {f : Addr} {fd : FuncData} {H : Hp} (c : Cal P w K mg base x k ps (spOk K g SeenOk) f fd) (h : k ≤ 5) : Jud P w K mg base 5 f g H := ⟨_, .top (held_of c h), fun x e H1 R h1 h2 h3 => ⟨x, e, rfl, h1, h2.2.2.1, h3⟩⟩
abbrev tJ1 (a1 a2 a3 a4 b1 b2 b3 b4 : Addr) : TE := tLst (tCons (tTup (tCons (tC (.ref a1)) (tCons (tC (.ref b1)) tNil))) (tCons (tTup (tCons (tC (.ref a2)) (tCons (tC (.ref b2)) tNil))) (tCons (tTup (tCons (tC (.ref a3)) (tCons (tC (.ref b3)) tNil))) (tCons (tTup (tCons (tC (.ref a4)) (tCons (tC (.ref b4)) tNil))) tNil))))
theorem lj_1 {a1 a2 a3 a4 b1 b2 b3 b4 : Addr} {σ : L2.St} {H : Hp} {Q : VK} (k : ∀ p1 p2 p3 p4 J H', Same H H' → H J = none → H' p1 = some (.tup [.ref a1, .ref b1]) → H' p2 = some (.tup [.ref a2, .ref b2]) → H' p3 = some (.tup [.ref a3, .ref b3]) → H' p4 = some (.tup [.ref a4, .ref b4]) →
    H' J = some (.lst [.ref p1, .ref p2, .ref p3, .ref p4]) → Q (.ref J) H') : tJ1 a1 a2 a3 a4 b1 b2 b3 b4 σ H Q := by
  refine ⟨by show 2 ≤ sizeLine; decide, fun p1 n1 => ⟨by show 2 ≤ sizeLine; decide, fun p2 n2 => ⟨by show 2 ≤ sizeLine; decide, fun p3 n3 => ⟨by show 2 ≤ sizeLine; decide, fun p4 n4 => ⟨by show 4 ≤ sizeLine; decide, fun J nJ => ?_⟩⟩⟩⟩⟩
  have s1 := same_new (o := .tup [.ref a1, .ref b1]) n1
  have s2 := same_new (o := .tup [.ref a2, .ref b2]) n2
  have s3 := same_new (o := .tup [.ref a3, .ref b3]) n3
  have s4 := same_new (o := .tup [.ref a4, .ref b4]) n4
  have s5 := same_new (o := .lst [.ref p1, .ref p2, .ref p3, .ref p4]) nJ
  have s14 := s1.trans (s2.trans (s3.trans s4))
  exact k p1 p2 p3 p4 J _ (s14.trans s5) (s14.free nJ) (s5 _ _ (s4 _ _ (s3 _ _ (s2 _ _ upd_same)))) (s5 _ _ (s4 _ _ (s3 _ _ upd_same))) (s5 _ _ (s4 _ _ upd_same)) (s5 _ _ upd_same) upd_same
abbrev lamQ : Str := "law" ++ ".<locals>." ++ "<lambda>"
abbrev tJ2 (K : PySem.W.Frag) (T : List (Addr × Str)) (a5 : Addr) : TS := tDrop (tBM K "list" rAppend (tVar 1) (tCons (tTup (tCons (tC (.ref a5)) (tCons (tLamV T lamQ lamAr lamBd lamSc) tNil))) tNil))
theorem lj_2 {S : Addr → Option Sp} {T : List (Addr × Str)} {D : Ends} {a J p1 p2 p3 p4 fR : Addr} {a1 a2 a3 a4 a5 b1 b2 b3 b4 : Addr} {dR d1 d2 d3 d4 d5 e1 e2 e3 e4 : FuncData} {x2 x3 x4 x5 x6 x7 x8 x9 x10 x11 x12 : Option V} {H0 H : Hp} (tb : Tabs T H)
    (j1 : Cal P w K mg base "is_integer" 2 ["value"] (spJ K (betD (1 - 10 ^ 40) (10 ^ 40 - 1))) a1 d1) (j2 : Cal P w K mg base "is_name" 1 ["value"] (spJ K isNameD) a2 d2) (j3 : Cal P w K mg base "is_tick" 2 ["value"] (spJ K (betD 0 (10 ^ 34))) a3 d3)
    (j4 : Cal P w K mg base "is_seen" 3 ["value"] (spJn K 2 seenD) a4 d4) (j5 : Cal P w K mg base "is_names" 2 ["value"] (spJn K 1 namesD) a5 d5)
    (o1 : Cal P w K mg base "_law_is_integer" 1 ["value"] (spJ K (betD (1 - 10 ^ 40) (10 ^ 40 - 1))) b1 e1) (o2 : Cal P w K mg base "_law_is_name" 1 ["value"] (spJo K isNameD) b2 e2) (o3 : Cal P w K mg base "_law_is_tick" 2 ["value"] (spJ K (betD 0 (10 ^ 34))) b3 e3)
    (o4 : Cal P w K mg base "_law_is_seen" 5 ["value"] (spOk K seenD SeenOk) b4 e4) (cR : Cal P w K mg base "_law_is_rising" 4 ["value", "judge"] (spRise K S) fR dR) (hS : S b2 = some (spJo K isNameD)) (ex0 : ExtN H0 H) (nJ : H0 J = none)
    (h1 : H p1 = some (.tup [.ref a1, .ref b1])) (h2 : H p2 = some (.tup [.ref a2, .ref b2])) (h3 : H p3 = some (.tup [.ref a3, .ref b3])) (h4 : H p4 = some (.tup [.ref a4, .ref b4])) (hJ : H J = some (.lst [.ref p1, .ref p2, .ref p3, .ref p4]))
    (k : ∀ js H', ExtN H0 H' → Tabs T H' → Jgs P w K mg base 5 J lawG js H' → D.nx (sL a J x2 x3 x4 x5 x6 x7 x8 x9 x10 x11 x12) H') : tJ2 K T a5 D (sL a J x2 x3 x4 x5 x6 x7 x8 x9 x10 x11 x12) H := by
  refine ⟨_, rfl, .inl ⟨rfl, _, SqL.of hJ⟩, tb, fun f c' pm ctv H2 e2 t2 nf hf hc => ⟨by show 2 ≤ sizeLine; decide, fun p np => ?_⟩⟩
  have s3 := same_new (o := .tup [.ref a5, .ref f]) np
  have hJ3 := s3 _ _ (e2 _ _ hJ fun ps z => by cases z)
  refine ⟨J, _, _, rfl, rfl, hJ3, by show 4 < sizeLine; decide, ?_⟩
  generalize eH : upd (upd H2 p (HO.tup [V.ref a5, V.ref f])) J (HO.lst ([V.ref p1, V.ref p2, V.ref p3, V.ref p4] ++ [V.ref p])) = H4
  have far : ∀ b o, upd H2 p (HO.tup [V.ref a5, V.ref f]) b = some o → (∀ xs, o ≠ .lst xs) → H4 b = some o := fun b o z n => by
    rw [← eH, upd_ne (fun y => n _ (Option.some.inj (z.symm.trans (by rw [y]; exact hJ3))))]
    exact z
  have far2 : ∀ b o, H b = some o → (∀ ps, o ≠ .tbl ps) → (∀ xs, o ≠ .lst xs) → H4 b = some o := fun b o z n m => far b o (s3 _ _ (e2 _ _ z n)) m
  have tb4 : Tabs T H4 := fun q hq => by
    obtain ⟨rs, z1, z2, z3⟩ := t2 q hq
    refine ⟨rs, far _ _ (s3 _ _ z1) (fun xs y => by cases y), z2, fun at' cv hit => ?_⟩
    obtain ⟨c0, y1, y2⟩ := z3 at' cv hit
    exact ⟨c0, y1, far _ _ (s3 _ _ y2) fun xs y => by unfold CodeO at y; cases y⟩
  have t1 : ∀ {b x y : Addr}, H b = some (.tup [.ref x, .ref y]) → H4 b = some (.tup [.ref x, .ref y]) := fun z => far2 _ _ z (fun ps y => by cases y) fun xs y => by cases y
  have hf4 : H4 f = some (LamO f lamQ lamAr lamBd lamSc pm c' ctv) := far _ _ (s3 _ _ hf) fun xs y => by unfold LamO at y; cases y
  have hc4 : H4 c' = some (CodeO c' lamQ) := far _ _ (s3 _ _ hc) fun xs y => by unfold CodeO at y; cases y
  have hp4 : H4 p = some (.tup [.ref a5, .ref f]) := far _ _ upd_same fun xs y => by cases y
  have jl : Jud P w K mg base 5 f namesD H4 := ⟨_, .lam lamQ lamAr lamBd lamSc pm c' ctv ["value"] hf4 hc4 (lam_ok cR hS o2.g) (Binds.all fun us hl => match us, hl with | [_], _ => rfl), fun x e H1 R h1 h2 h3 => ⟨x, e, rfl, h1, h2, h3⟩⟩
  refine k [(p1, a1, b1), (p2, a2, b2), (p3, a3, b3), (p4, a4, b4), (p, a5, f)] H4 (fun b o z n => ?_) tb4 ⟨by rw [← eH, upd_same]; rfl, rfl, by decide, fun i j g z1 z2 => ?_⟩
  · have y := s3 _ _ (e2 _ _ (ex0 _ _ z n) n)
    rw [← eH, upd_ne (ne_of_none z nJ)]
    exact y
  · match i, z1, z2 with
    | 0, z1, z2 => cases z1; cases z2; exact ⟨t1 h1, jud_J j1 (by decide), jud_J o1 (by decide)⟩
    | 1, z1, z2 => cases z1; cases z2; exact ⟨t1 h2, jud_J j2 (by decide), jud_Jo o2 (by decide)⟩
    | 2, z1, z2 => cases z1; cases z2; exact ⟨t1 h3, jud_J j3 (by decide), jud_J o3 (by decide)⟩
    | 3, z1, z2 => cases z1; cases z2; exact ⟨t1 h4, jud_Jn2 j4 (by decide), jud_Ok o4 (by decide)⟩
    | 4, z1, z2 => cases z1; cases z2; exact ⟨hp4, jud_Jn1 j5 (by decide), jl⟩
    | n + 5, z1, _ => cases z1
end
end K0

namespace K0
open PySem PySem.Spec PyProof.Rows L2 DW RZ LamX
section
variable {P : Program} {w : World} {K : PySem.W.Frag} {mg : Str → Option Value} {base : Heap}
theorem Jgs.butN {k : Nat} {J D : Addr} {gs : List (PyData → Bool)} {js : List (Addr × Addr × Addr)} {H H' : Hp} (h : Jgs P w K mg base k J gs js H) (hD : Dc H D) (ne : J ≠ D) (b : ButN D H H') : Jgs P w K mg base k J gs js H' := by
  obtain ⟨d0, d1, d2, z⟩ := hD
  refine h.ext (by rw [h.at_]; exact b _ _ ne h.at_ fun ps y => by cases y) fun c o e n m => b c o ?_ e n
  rintro rfl
  rw [z] at e
  exact m _ (Option.some.inj e).symm
abbrev bd (d : PyData) : PyData := .list [.bool (betD (1 - 10 ^ 40) (10 ^ 40 - 1) d), .bool (isNameD d), .bool (betD 0 (10 ^ 34) d), .bool (seenD d), .bool (namesD d)]
theorem five : ∀ b1 b2 b3 b4 b5 : Bool, (fineB (.list [.bool b1, .bool b2, .bool b3, .bool b4, .bool b5]) && decide ((PyData.list [.bool b1, .bool b2, .bool b3, .bool b4, .bool b5]).shown.length ≤ 1000)) = true := by decide +kernel
theorem fine_bd (d : PyData) : Fine (bd d) := fine_c (five _ _ _ _ _)
abbrev tV1 (K : PySem.W.Frag) : TS := tAsg (tRp K (tVar 7)) (gName 8)
abbrev tV2 (P : Program) (w : World) (K : PySem.W.Frag) (mg : Str → Option Value) (base : Heap) : TS := tIfS (tTest (tOp rNe (tRp K (tJs P w K mg base 5 9)) (tRp K (tJs P w K mg base 5 10)))) (tRet (tC (.bl false))) tNext
abbrev tV3 (K : PySem.W.Frag) : TS := tIfS (tTest (tOp rNe (tRp K (tVar 7)) (tVar 8))) (tRet (tC (.bl false))) tNext
abbrev tVb (P : Program) (w : World) (K : PySem.W.Frag) (mg : Str → Option Value) (base : Heap) : TS := tSeq (tV1 K) (tSeq (tV2 P w K mg base) (tV3 K))
theorem lv_3 {E : Ends} {a J : Addr} {v : V} {d : PyData} {x2 x3 x4 x5 x6 x9 x10 x11 x12 : Option V} {H : Hp} (hv : DW.Dd K H v d) (fn : Fine d)
    (k : E.nx (sL a J x2 x3 x4 x5 x6 (some v) (some (.str d.shown)) x9 x10 x11 x12) H) : tV3 K E (sL a J x2 x3 x4 x5 x6 (some v) (some (.str d.shown)) x9 x10 x11 x12) H := by
  obtain ⟨_, _, _, sho, shl, dep⟩ := fn
  refine ⟨v, rfl, v, d, rfl, hv, sho, shl, dep, _, rfl, rfl, _, rfl, ?_⟩
  rw [decide_eq_true rfl]
  exact iteF k
theorem lv_2 {E : Ends} {a J : Addr} {js : List (Addr × Addr × Addr)} {v : V} {d : PyData} {x2 x3 x4 x5 x6 x8 x9 x10 x11 x12 : Option V} {H : Hp} (j : Jgs P w K mg base 5 J lawG js H) (hv : DW.Dd K H v d) (fn : Fine d)
    (k : ∀ H', Same H H' → E.nx (sL a J x2 x3 x4 x5 x6 (some v) x8 x9 x10 x11 x12) H') : tV2 P w K mg base E (sL a J x2 x3 x4 x5 x6 (some v) x8 x9 x10 x11 x12) H := by
  obtain ⟨_, _, _, sho, shl, dep⟩ := fine_bd d
  have dp : ∀ {H' : Hp} {D : Addr}, H' D = some (.lst ((lawG.map fun g => g d).map V.bl)) → DW.Dd K H' (.ref D) (bd d) := fun z => .base (.lst (SqL.of z) (.cons (.bl _) (.cons (.bl _) (.cons (.bl _) (.cons (.bl _) (.cons (.bl _) .nil)))))) rfl
  show tJs P w K mg base 5 9 (sL a J x2 x3 x4 x5 x6 (some v) x8 x9 x10 x11 x12) H fun x H1 => rRepr K [x] H1 fun y H2 => tJs P w K mg base 5 10 (sL a J x2 x3 x4 x5 x6 (some v) x8 x9 x10 x11 x12) H2 fun u H3 => rRepr K [u] H3 fun z H4 => rNe y z H4 fun c H5 => ∃ b, c = .bl b ∧
    if b = true then (tRet (tC (.bl false))) E (sL a J x2 x3 x4 x5 x6 (some v) x8 x9 x10 x11 x12) H5 else tNext E (sL a J x2 x3 x4 x5 x6 (some v) x8 x9 x10 x11 x12) H5
  refine rd_js (.inl rfl) j hv fn fun D1 H1 s1 h1 => ⟨.ref D1, bd d, rfl, dp h1, sho, shl, dep, ?_⟩
  refine rd_js (.inr rfl) (j.same s1) (hv.ext (Same.extN s1)) fn fun D2 H2 s2 h2 => ⟨.ref D2, bd d, rfl, dp h2, sho, shl, dep, rfl, _, rfl, ?_⟩
  rw [decide_eq_true rfl]
  exact iteF (k _ (s1.trans s2))
theorem lv_1 {E : Ends} {a J : Addr} {js : List (Addr × Addr × Addr)} {v : V} {d : PyData} {x2 x3 x4 x5 x6 x8 x9 x10 x11 x12 : Option V} {H : Hp} (j : Jgs P w K mg base 5 J lawG js H) (hv : DW.Dd K H v d) (fn : Fine d)
    (k : ∀ y8 H', Same H H' → E.nx (sL a J x2 x3 x4 x5 x6 (some v) y8 x9 x10 x11 x12) H') : tVb P w K mg base E (sL a J x2 x3 x4 x5 x6 (some v) x8 x9 x10 x11 x12) H := by
  refine ⟨v, rfl, v, d, rfl, hv, fn.2.2.2.1, fn.2.2.2.2.1, fn.2.2.2.2.2, ?_⟩
  show tV2 P w K mg base { E with nx := tV3 K E } (sL a J x2 x3 x4 x5 x6 (some v) (some (.str d.shown)) x9 x10 x11 x12) H
  exact lv_2 j hv fn fun H1 s1 => lv_3 (hv.ext (Same.extN s1)) fn (k _ _ s1)
abbrev tVs (P : Program) (w : World) (K : PySem.W.Frag) (mg : Str → Option Value) (base : Heap) : TS := tFor (iList K (tVar 6)) (gName 7) (tVb P w K mg base)
theorem lv_0 {E : Ends} {a J L : Addr} {js : List (Addr × Addr × Addr)} {vs : List V} {x2 x3 x4 x5 x7 x8 x9 x10 x11 x12 : Option V} {H : Hp} (j : Jgs P w K mg base 5 J lawG js H) (hL : H L = some (.lst vs)) (each : ∀ v ∈ vs, ∃ d, DW.Dd K H v d ∧ Fine d)
    (k : ∀ y7 y8 H', Same H H' → E.nx (sL a J x2 x3 x4 x5 (some (.ref L)) y7 y8 x9 x10 x11 x12) H') : tVs P w K mg base E (sL a J x2 x3 x4 x5 (some (.ref L)) x7 x8 x9 x10 x11 x12) H := by
  refine ⟨_, rfl, L, rfl, ⟨_, SqL.of hL⟩, for_list (K := K) (a := L) (xs := vs) (fun i σ H' => Same H H' ∧ ∃ y7 y8, σ = sL a J x2 x3 x4 x5 (some (.ref L)) y7 y8 x9 x10 x11 x12) ⟨Same.refl H, _, _, rfl⟩ ?_ ?_ ?_⟩
  · rintro i _ H' _ ⟨s1, _⟩
    exact SqL.of (s1 _ _ hL)
  · rintro i v _ H' hv ⟨s1, y7, y8, rfl⟩
    obtain ⟨d, hd, fn⟩ := each v (List.mem_of_getElem? hv)
    exact lv_1 (j.same s1) (hd.ext (Same.extN s1)) fn fun y H2 s2 => ⟨s1.trans s2, _, _, rfl⟩
  · rintro _ H' ⟨s1, y7, y8, rfl⟩
    exact k _ _ _ s1
end
end K0

namespace K0
open PySem PySem.Spec PyProof.Rows L2 DW RZ LamX
theorem fine_gt {z : Str} (h : Gt 32 z) : Fine (.str z) := by
  have hl := h.1
  have e20 : (2 : Nat) ^ 20 = 1048576 := by decide
  have l1 : PyData.layable0 (.str z) = true := by
    unfold PyData.layable0
    rw [Bool.and_eq_true, Bool.and_eq_true, decide_eq_true_eq, decide_eq_true_eq]
    have c : z.cps.size = z.length := rfl
    exact ⟨⟨by simp only [PyData.canLay0]; exact gt_ok h, by simp only [PyData.depth]; omega⟩, by simp only [PyData.weight]; rw [e20]; omega⟩
  refine ⟨⟨fun y e => by cases e; omega, fun ds e => (nomatch e)⟩, fun y e => by cases e; exact gt_ok h, fun ds e => (nomatch e), rfl, ?_, by simp only [PyData.depth]; omega⟩
  have q := PyProof.Rows.shown_le13 l1 (by simp [PyData.intsShort])
  rw [sizeLine_eq]
  omega
section
variable {P : Program} {w : World} {K : PySem.W.Frag} {mg : Str → Option Value} {base : Heap}
abbrev tT2 : TE := tLst (tCons (tCall spText [] E0 (tCons (tVar 3) tNil)) (tCons (tCall spVal [] E0 (tCons (tVar 3) tNil)) (tCons (tCall spVal [] E0 (tCons (tVar 3) tNil)) (tCons (tCall spVal [] E0 (tCons (tVar 3) tNil)) (tCons (tVar 5) tNil)))))
theorem lt_2 {D a J : Addr} {x2 x4 x6 x7 x8 x9 x10 x11 x12 : Option V} {v : V} {d : PyData} {H : Hp} {Q : VK} (hD : Dc H D) (hv : Dv H D v d) (fn : Fine d)
    (k : ∀ L vs H', L ≠ D → H' L = some (.lst vs) → 0 < vs.length → vs.length < 100 → (∀ u ∈ vs, ∃ e, Dv H' D u e ∧ Fine e) → Dv H' D v d → But D H H' → Dc H' D → Q (.ref L) H') : tT2 (sL a J x2 (some (.ref D)) x4 (some v) x6 x7 x8 x9 x10 x11 x12) H Q := by
  refine ⟨_, rfl, D, rfl, hD, fun z H1 gz b1 c1 => ⟨_, rfl, D, rfl, c1, fun v2 d2 H2 h2 f2 b2 c2 => ⟨_, rfl, D, rfl, c2, fun v3 d3 H3 h3 f3 b3 c3 => ⟨_, rfl, D, rfl, c3, fun v4 d4 H4 h4 f4 b4 c4 => ⟨_, rfl, by show 5 ≤ sizeLine; decide, fun L nL => ?_⟩⟩⟩⟩⟩
  have s5 := same_new (o := .lst [.str z, v2, v3, v4, v]) nL
  have q5 := Same.but (D := D) s5
  have hz : Dv H1 D (.str z) (.str z) := .inl (.str z)
  have w2 := ((h2.but b3 c2).but b4 c3).but q5 c4
  have w3 := (h3.but b4 c3).but q5 c4
  have w4 := h4.but q5 c4
  have w1 := (((hz.but b2 c1).but b3 c2).but b4 c3).but q5 c4
  have w5 := ((((hv.but b1 hD).but b2 c1).but b3 c2).but b4 c3).but q5 c4
  refine k L _ _ (new_ne c4 nL) upd_same (by show 0 < 5; decide) (by show 5 < 100; decide) (fun u mu => ?_) w5 (b1.trans (b2.trans (b3.trans (b4.trans q5)))) (c4.same s5)
  rcases List.mem_cons.mp mu with rfl | mu
  · exact ⟨_, w1, fine_gt gz⟩
  rcases List.mem_cons.mp mu with rfl | mu
  · exact ⟨_, w2, f2⟩
  rcases List.mem_cons.mp mu with rfl | mu
  · exact ⟨_, w3, f3⟩
  rcases List.mem_cons.mp mu with rfl | mu
  · exact ⟨_, w4, f4⟩
  rcases List.mem_cons.mp mu with rfl | mu
  · exact ⟨_, w5, fn⟩
  · cases mu
abbrev tT4 (T : List (Addr × Str)) : TS := tIfS (tOr (tNot (tB (tCall (spRight T) [] E0 (tCons (tVar 3) (tCons (tVar 5) tNil))))) (tNot (tB (tCall (spRight T) [] E0 (tCons (tVar 3) (tCons (tCall spPickB [] E0 (tCons (tVar 3) (tCons (tVar 6) tNil))) tNil)))))) (tRet (tC (.bl false))) tNext
theorem lt_4 {T : List (Addr × Str)} {E : Ends} {D a J L : Addr} {x2 x4 x7 x8 x9 x10 x11 x12 : Option V} {v : V} {d : PyData} {vs : List V} {H : Hp} (hD : Dc H D) (hv : Dv H D v d) (fn : Fine d) (tb : Tabs T H) (nL : L ≠ D) (hL : H L = some (.lst vs)) (l0 : 0 < vs.length) (l1 : vs.length < 100) (each : ∀ u ∈ vs, ∃ e, Dv H D u e ∧ Fine e)
    (k : ∀ H', ButN D H H' → Dc H' D → Tabs T H' → E.nx (sL a J x2 (some (.ref D)) x4 (some v) (some (.ref L)) x7 x8 x9 x10 x11 x12) H') : tT4 T E (sL a J x2 (some (.ref D)) x4 (some v) (some (.ref L)) x7 x8 x9 x10 x11 x12) H := by
  refine ⟨_, rfl, _, rfl, D, v, d, rfl, hD, hv, fn, tb, fun H1 b1 c1 t1 => ⟨true, rfl, ?_⟩⟩
  have hL1 := b1 _ _ nL hL fun ps z => by cases z
  show tNot (tB (tCall (spRight T) [] E0 (tCons (tVar 3) (tCons (tCall spPickB [] E0 (tCons (tVar 3) (tCons (tVar 6) tNil))) tNil)))) (sL a J x2 (some (.ref D)) x4 (some v) (some (.ref L)) x7 x8 x9 x10 x11 x12) H1 fun b H2 => if b = true then (tRet (tC (.bl false))) E (sL a J x2 (some (.ref D)) x4 (some v) (some (.ref L)) x7 x8 x9 x10 x11 x12) H2 else tNext E (sL a J x2 (some (.ref D)) x4 (some v) (some (.ref L)) x7 x8 x9 x10 x11 x12) H2
  refine ⟨_, rfl, _, rfl, _, rfl, D, L, vs, rfl, c1, nL, hL1, l0, by omega, fun u H2 mu b2 c2 => ?_⟩
  obtain ⟨e, he, fe⟩ := each u mu
  refine ⟨D, u, e, rfl, c2, (he.butN b1 hD).but b2 c1, fe, tabs_but c1 b2 t1, fun H3 b3 c3 t3 => ⟨true, rfl, ?_⟩⟩
  exact k H3 (b1.trans (b2.butN.trans b3)) c3 t3
abbrev tTn (P : Program) (w : World) (K : PySem.W.Frag) (mg : Str → Option Value) (base : Heap) (T : List (Addr × Str)) : TS := tSeq (tAsg (tCall spVal [] E0 (tCons (tVar 3) tNil)) (gName 5)) (tSeq (tAsg tT2 (gName 6)) (tSeq (tVs P w K mg base) (tT4 T)))
theorem lt_1 {T : List (Addr × Str)} {E : Ends} {D a J : Addr} {js : List (Addr × Addr × Addr)} {x2 x4 x5 x6 x7 x8 x9 x10 x11 x12 : Option V} {H : Hp} (hD : Dc H D) (nJ : J ≠ D) (tb : Tabs T H) (j : Jgs P w K mg base 5 J lawG js H)
    (k : ∀ y5 y6 y7 y8 H', ButN D H H' → Dc H' D → Tabs T H' → E.nx (sL a J x2 (some (.ref D)) x4 y5 y6 y7 y8 x9 x10 x11 x12) H') : tTn P w K mg base T E (sL a J x2 (some (.ref D)) x4 x5 x6 x7 x8 x9 x10 x11 x12) H := by
  refine ⟨_, rfl, D, rfl, hD, fun v d H1 hv fn b1 c1 => ?_⟩
  show tT2 (sL a J x2 (some (.ref D)) x4 (some v) x6 x7 x8 x9 x10 x11 x12) H1 fun y H2 => (tSeq (tVs P w K mg base) (tT4 T)) E (sL a J x2 (some (.ref D)) x4 (some v) (some y) x7 x8 x9 x10 x11 x12) H2
  refine lt_2 c1 hv fn fun L vs H2 nL hL l0 l1 each hv2 b2 c2 => ?_
  have b12 := b1.trans b2
  show tVs P w K mg base { E with nx := tT4 T E } (sL a J x2 (some (.ref D)) x4 (some v) (some (.ref L)) x7 x8 x9 x10 x11 x12) H2
  refine lv_0 (j.butN hD nJ b12.butN) hL (fun u mu => ?_) fun y7 y8 H3 s3 => ?_
  · obtain ⟨e, he, fe⟩ := each u mu
    exact ⟨e, he.dd, fe⟩
  · have q3 := Same.but (D := D) s3
    have b13 := b12.trans q3
    exact lt_4 (c2.same s3) (hv2.but q3 c2) fn (tabs_but hD b13 tb) nL (s3 _ _ hL) l0 l1 (fun u mu => by
      obtain ⟨e, he, fe⟩ := each u mu
      exact ⟨e, he.but q3 c2, fe⟩) fun H4 b4 c4 t4 => k _ _ _ _ H4 (b13.butN.trans b4) c4 t4
end
end K0

namespace K0
open PySem PySem.Spec PyProof.Rows L2 DW RZ LamX
section
variable {P : Program} {w : World} {K : PySem.W.Frag} {mg : Str → Option Value} {base : Heap}
abbrev tTs (P : Program) (w : World) (K : PySem.W.Frag) (mg : Str → Option Value) (base : Heap) (T : List (Addr × Str)) : TS := tFor (iRng1 (tCons (tC (.int 12)) tNil)) (gName 4) (tTn P w K mg base T)
theorem ls_2 {T : List (Addr × Str)} {E : Ends} {D a J : Addr} {js : List (Addr × Addr × Addr)} {x2 x4 x5 x6 x7 x8 x9 x10 x11 x12 : Option V} {H : Hp} (hD : Dc H D) (nJ : J ≠ D) (tb : Tabs T H) (j : Jgs P w K mg base 5 J lawG js H)
    (k : ∀ y4 y5 y6 y7 y8 H', ButN D H H' → Tabs T H' → E.nx (sL a J x2 (some (.ref D)) y4 y5 y6 y7 y8 x9 x10 x11 x12) H') : tTs P w K mg base T E (sL a J x2 (some (.ref D)) x4 x5 x6 x7 x8 x9 x10 x11 x12) H := by
  refine ⟨12, rfl, by decide, by decide, for_range (lo := 0) (n := 12) (fun i σ H' => ButN D H H' ∧ Dc H' D ∧ Tabs T H' ∧ ∃ y4 y5 y6 y7 y8, σ = sL a J x2 (some (.ref D)) y4 y5 y6 y7 y8 x9 x10 x11 x12) ⟨ButN.refl, hD, tb, _, _, _, _, _, rfl⟩ ?_ ?_⟩
  · rintro i _ H1 hi ⟨b1, c1, t1, y4, y5, y6, y7, y8, rfl⟩
    exact lt_1 c1 nJ t1 (j.butN hD nJ b1) fun z5 z6 z7 z8 H2 b2 c2 t2 => ⟨b1.trans b2, c2, t2, _, _, _, _, _, rfl⟩
  · rintro _ H1 ⟨b1, c1, t1, y4, y5, y6, y7, y8, rfl⟩
    exact k _ _ _ _ _ H1 b1 t1
abbrev tSp (P : Program) (w : World) (K : PySem.W.Frag) (mg : Str → Option Value) (base : Heap) (T : List (Addr × Str)) : TS := tSeq (tAsg (tCall (spDice K) [] E0 (tCons (tVar 0) (tCons (tVar 2) tNil))) (gName 3)) (tTs P w K mg base T)
theorem ls_1 {T : List (Addr × Str)} {E : Ends} {a J : Addr} {ns : List Int} {i : Int} {js : List (Addr × Addr × Addr)} {x3 x4 x5 x6 x7 x8 x9 x10 x11 x12 : Option V} {H : Hp} (hS : SqL K H a (ns.map V.int)) (i0 : 0 ≤ i) (i1 : i < 1000) (tb : Tabs T H) (j : Jgs P w K mg base 5 J lawG js H)
    (k : ∀ y3 y4 y5 y6 y7 y8 H', ExtN H H' → Tabs T H' → E.nx (sL a J (some (.int i)) y3 y4 y5 y6 y7 y8 x9 x10 x11 x12) H') : tSp P w K mg base T E (sL a J (some (.int i)) x3 x4 x5 x6 x7 x8 x9 x10 x11 x12) H := by
  refine ⟨_, rfl, _, rfl, a, ns, i, rfl, hS, i0, i1, fun D d0 d1 nD => ?_⟩
  have s1 := same_new (o := .lst [.int d0, .int d1, .int 0]) nD
  show tTs P w K mg base T E (sL a J (some (.int i)) (some (.ref D)) x4 x5 x6 x7 x8 x9 x10 x11 x12) (upd H D (.lst [.int d0, .int d1, .int 0]))
  exact ls_2 ⟨d0, d1, 0, upd_same⟩ (ne_of_none j.at_ nD) (DW.Tabs.same tb s1) (j.same s1) fun y4 y5 y6 y7 y8 H2 b2 t2 => k _ _ _ _ _ _ H2 (fun b o e n => b2 b o (ne_of_none e nD) (s1 _ _ e) n) t2
abbrev tMx (K : PySem.W.Frag) : TA := tCons (tCB (fun xs H Q => ∃ i j, xs = [.int i, .int j] ∧ Q (.int (if j > i then j else i)) H) (tCons (tC (.int 1)) (tCons (tCB (fun xs H Q => ∃ i j, xs = [.int i, .int j] ∧ Q (.int (if j < i then j else i)) H) (tCons (tC (.int 8))
  (tCons (tCB (fun xs H Q => ∃ p ys, xs = [.ref p] ∧ (SqL K H p ys ∨ SqT K H p ys) ∧ Q (.int ys.length) H) (tCons (tVar 0) tNil)) tNil))) tNil))) tNil
abbrev tSs (P : Program) (w : World) (K : PySem.W.Frag) (mg : Str → Option Value) (base : Heap) (T : List (Addr × Str)) : TS := tFor (iRng1 (tMx K)) (gName 2) (tSp P w K mg base T)
theorem ls_0 {T : List (Addr × Str)} {E : Ends} {a J : Addr} {ns : List Int} {js : List (Addr × Addr × Addr)} {x2 x3 x4 x5 x6 x7 x8 x9 x10 x11 x12 : Option V} {H : Hp} (hS : SqL K H a (ns.map V.int)) (tb : Tabs T H) (j : Jgs P w K mg base 5 J lawG js H)
    (k : ∀ y2 y3 y4 y5 y6 y7 y8 H', E.nx (sL a J y2 y3 y4 y5 y6 y7 y8 x9 x10 x11 x12) H') : tSs P w K mg base T E (sL a J x2 x3 x4 x5 x6 x7 x8 x9 x10 x11 x12) H := by
  have bd : ∀ j : Int, (if (if j < 8 then j else 8) > 1 then (if j < 8 then j else 8) else 1) ≤ 8 ∧ 1 ≤ (if (if j < 8 then j else 8) > 1 then (if j < 8 then j else 8) else 1) := fun j => by
    split <;> split <;> constructor <;> omega
  refine ⟨_, rfl, a, _, rfl, .inl hS, _, _, rfl, _, _, rfl, _, rfl, ?_, ?_, ?_⟩
  · have z := (bd ((ns.map V.int).length : Nat)).2
    omega
  · have z := (bd ((ns.map V.int).length : Nat)).1
    omega
  have top8 : (if (if (((ns.map V.int).length : Nat) : Int) < 8 then (((ns.map V.int).length : Nat) : Int) else 8) > 1 then (if (((ns.map V.int).length : Nat) : Int) < 8 then (((ns.map V.int).length : Nat) : Int) else 8) else 1).toNat ≤ 8 := by
    have z := (bd ((ns.map V.int).length : Nat)).1
    omega
  generalize (if (if (((ns.map V.int).length : Nat) : Int) < 8 then (((ns.map V.int).length : Nat) : Int) else 8) > 1 then (if (((ns.map V.int).length : Nat) : Int) < 8 then (((ns.map V.int).length : Nat) : Int) else 8) else 1).toNat = many at top8 ⊢
  refine for_range (lo := 0) (n := many) (fun i σ H' => ExtN H H' ∧ Tabs T H' ∧ ∃ y2 y3 y4 y5 y6 y7 y8, σ = sL a J y2 y3 y4 y5 y6 y7 y8 x9 x10 x11 x12) ⟨ExtN.refl H, tb, _, _, _, _, _, _, _, rfl⟩ ?_ ?_
  · rintro i _ H1 hi ⟨e1, t1, y2, y3, y4, y5, y6, y7, y8, rfl⟩
    exact ls_1 (sqL_ext e1 hS) (by omega) (by omega) t1 (j.ext (by rw [j.at_]; exact e1 _ _ j.at_ fun ps z => by cases z) fun b o z n _ => e1 b o z n) fun z3 z4 z5 z6 z7 z8 H2 e2 t2 => ⟨e1.trans e2, t2, _, _, _, _, _, _, _, rfl⟩
  · rintro _ H1 ⟨_, _, y2, y3, y4, y5, y6, y7, y8, rfl⟩
    exact k _ _ _ _ _ _ _ H1
abbrev tEnd (K : PySem.W.Frag) (CO CN CA : Addr) : TS := tSeq (tE1 K) (tSeq (tAsg (tE2 K) (gName 11)) (tSeq (tAsg tE3 (gName 12)) (tSeq (tAsg (tE4 K CO CN CA) (gName 11)) (tRet (tE5 K)))))
theorem le_0 {CO CN CA a J : Addr} {E : Ends} {x2 x3 x4 x5 x6 x7 x8 x9 x10 x11 x12 : Option V} {H : Hp} (k : ∀ H', E.rt (.bl true) H') : tEnd K CO CN CA E (sL a J x2 x3 x4 x5 x6 x7 x8 x9 x10 x11 x12) H := by
  refine le_1 (D := { E with nx := (tSeq (tAsg (tE2 K) (gName 11)) (tSeq (tAsg tE3 (gName 12)) (tSeq (tAsg (tE4 K CO CN CA) (gName 11)) (tRet (tE5 K))))) E }) fun H1 s1 => ?_
  show tE2 K (sL a J x2 x3 x4 x5 x6 x7 x8 x9 x10 x11 x12) H1 fun y H2 => (tSeq (tAsg tE3 (gName 12)) (tSeq (tAsg (tE4 K CO CN CA) (gName 11)) (tRet (tE5 K)))) E (sL a J x2 x3 x4 x5 x6 x7 x8 x9 x10 (some y) x12) H2
  refine le_2 fun p H2 s2 hp => ?_
  show tE3 (sL a J x2 x3 x4 x5 x6 x7 x8 x9 x10 (some (.ref p)) x12) H2 fun y H3 => (tSeq (tAsg (tE4 K CO CN CA) (gName 11)) (tRet (tE5 K))) E (sL a J x2 x3 x4 x5 x6 x7 x8 x9 x10 (some (.ref p)) (some y)) H3
  refine le_3 (K := K) fun q H3 s3 hq => ?_
  show tE4 K CO CN CA (sL a J x2 x3 x4 x5 x6 x7 x8 x9 x10 (some (.ref p)) (some (.ref q))) H3 fun y H4 => tE5 K (sL a J x2 x3 x4 x5 x6 x7 x8 x9 x10 (some y) (some (.ref q))) H4 E.rt
  refine le_4 (s3 _ _ hp) hq fun r H4 s4 hr => ?_
  exact le_5 hr k
end
end K0

namespace K0
open PySem PySem.Spec PyProof.Rows L2 DW RZ LamX
section
variable {P : Program} {w : World} {K : PySem.W.Frag} {mg : Str → Option Value} {base : Heap}
theorem ok_law {S : Addr → Option Sp} {fR : Addr} {dR : FuncData} {T : List (Addr × Str)} {f c Pt CO CN CA : Addr} {fd : FuncData} {a1 a2 a3 a4 a5 b1 b2 b3 b4 f1 f2 f3 f4 f5 f6 f7 f8 f9 : Addr} {d1 d2 d3 d4 d5 e1 e2 e3 e4 g1 g2 g3 g4 g5 g6 g7 g8 g9 : FuncData}
    (F : Fun K "law" "law" sLaw f fd) (tk : Tk K base mg T "law" "law" sLaw f c Pt) (G : Glo mg) (look : ∃ t, mg "MAX_LOOK" = some (.int 20 t))
    (j1 : Cal P w K mg base "is_integer" 2 ["value"] (spJ K (betD (1 - 10 ^ 40) (10 ^ 40 - 1))) a1 d1) (j2 : Cal P w K mg base "is_name" 1 ["value"] (spJ K isNameD) a2 d2) (j3 : Cal P w K mg base "is_tick" 2 ["value"] (spJ K (betD 0 (10 ^ 34))) a3 d3)
    (j4 : Cal P w K mg base "is_seen" 3 ["value"] (spJn K 2 seenD) a4 d4) (j5 : Cal P w K mg base "is_names" 2 ["value"] (spJn K 1 namesD) a5 d5)
    (o1 : Cal P w K mg base "_law_is_integer" 1 ["value"] (spJ K (betD (1 - 10 ^ 40) (10 ^ 40 - 1))) b1 e1) (o2 : Cal P w K mg base "_law_is_name" 1 ["value"] (spJo K isNameD) b2 e2) (o3 : Cal P w K mg base "_law_is_tick" 2 ["value"] (spJ K (betD 0 (10 ^ 34))) b3 e3)
    (o4 : Cal P w K mg base "_law_is_seen" 5 ["value"] (spOk K seenD SeenOk) b4 e4)
    (cR : Cal P w K mg base "_law_is_rising" 4 ["value", "judge"] (spRise K S) fR dR) (hSN : S b2 = some (spJo K isNameD))
    (cDice : Cal P w K mg base "_law_dice" 1 ["script", "spot"] (spDice K) f1 g1) (cDrawn : Cal P w K mg base "_law_drawn_seen" 3 ["dice"] spVal f2 g2) (cText : Cal P w K mg base "_law_text" 3 ["dice"] spText f3 g3) (cNum : Cal P w K mg base "_law_number" 3 ["dice"] spVal f4 g4)
    (cOdd : Cal P w K mg base "_law_odd" 3 ["dice"] spVal f5 g5) (cNames : Cal P w K mg base "_law_names" 4 ["dice"] spVal f6 g6) (cRight : CalG P w K mg base "_law_seen_right" 9 ["dice", "value"] (spRight T) f7 g7) (cPick : Cal P w K mg base "_law_pick" 2 ["dice", "items"] spPickB f8 g8)
    (cUntil : Cal P w K mg base "seen_until" 5 ["seen", "tick"] (fun vs H Q _ => spUntil K CO CN vs H Q E0) f9 g9) {f10 : Addr} {g10 : FuncData} (cTick : Cal P w K mg base "tick_of" 5 ["seen", "name"] (fun vs H Q _ => spTickOf K CO CA vs H Q E0) f10 g10)
    (zL : mg "len" = none) (zM : mg "max" = none) (zN : mg "min" = none) (zR : mg "range" = none) (zP : mg "repr" = none) : FnG P w K mg base 10 f fd ["script"] (spLaw K T) := by
  refine fngL F scLaw (fun vs H Q h => ?_) (fun cdv A outer s H vs Q hlk hr hgu h => ?_)
  · obtain ⟨a, ns, rfl, _⟩ := h
    rfl
  · obtain ⟨oc, od, kV, doc, pm, an, ct, osl, lk⟩ := hlk
    obtain rfl := tk.code _ _ _ _ _ _ _ _ _ lk
    obtain ⟨a, ns, rfl, hS, hlen, tb, k⟩ := h
    have hr1 : Room 1 _ := hr.mono (by decide)
    have hr2 : Room 2 _ := hr.mono (by decide)
    have hr3 : Room 3 _ := hr.mono (by decide)
    have hr4 : Room 4 _ := hr.mono (by decide)
    have hr5 : Room 5 _ := hr.mono (by decide)
    have hr9 : Room 9 _ := hr.mono (by decide)
    obtain ⟨tD, gD⟩ := G.dawn
    obtain ⟨tL, gL⟩ := G.lett
    obtain ⟨tM, gM⟩ := G.tick
    obtain ⟨tK, gK⟩ := look
    have fr : ∀ (g : Addr), RelV (.ref g) (.ref g) := fun g => rfl
    refine ⟨_, pss_cons (ps_set (i := 1) scLaw.nd rfl (Or.inl rfl) (pe_lst (pa_cons (pe_tup (pa_cons (pe_glob rfl j1.g (fr a1)) (pa_cons (pe_glob rfl o1.g (fr b1)) pa_nil))) (pa_cons (pe_tup (pa_cons (pe_glob rfl j2.g (fr a2)) (pa_cons (pe_glob rfl o2.g (fr b2)) pa_nil)))
          (pa_cons (pe_tup (pa_cons (pe_glob rfl j3.g (fr a3)) (pa_cons (pe_glob rfl o3.g (fr b3)) pa_nil))) (pa_cons (pe_tup (pa_cons (pe_glob rfl j4.g (fr a4)) (pa_cons (pe_glob rfl o4.g (fr b4)) pa_nil))) pa_nil))))))
      (pss_cons (ps_expr (pe_bm PySem.F.plainAttrs_list PySem.F.slot_list_append PySem.F.type_list_append mt_append (pv 1) (pa_cons (pe_tup (pa_cons (pe_glob rfl j5.g (fr a5)) (pa_cons (pe_lamv tk.tb rfl tk.mem tk.un rfl (noFree_of (by decide +kernel)) rfl) pa_nil))) pa_nil)))
      (pss_cons (ps_for PassesOwn.never rfl (pi_range1 rfl zR (pa_cons (pe_callB (call_max2 rfl) (by rfl) zM (by decide +kernel) (pa_cons pe_int (pa_cons (pe_callB (call_min2 rfl) (by rfl) zN (by decide +kernel) (pa_cons pe_int (pa_cons (pe_callB call_len_seq (by rfl) zL PySem.boot_len (pa_cons (pv 0) pa_nil)) pa_nil))) pa_nil))) pa_nil)) (pg_name (i := 2) scLaw.nd rfl (Or.inl rfl))
        (pss_cons (ps_set (i := 3) scLaw.nd rfl (Or.inl rfl) (pe_call cDice.G hr1 rfl cDice.g cDice.kp cDice.b .nil pass0 (pa_cons (pv 0) (pa_cons (pv 2) pa_nil))))
        (pss_one (ps_for PassesOwn.never rfl (pi_range1 rfl zR (pa_cons pe_int pa_nil)) (pg_name (i := 4) scLaw.nd rfl (Or.inl rfl))
          (pss_cons (ps_set (i := 5) scLaw.nd rfl (Or.inl rfl) (pe_call cDrawn.G hr3 rfl cDrawn.g cDrawn.kp cDrawn.b .nil pass0 (pa_cons (pv 3) pa_nil)))
          (pss_cons (ps_set (i := 6) scLaw.nd rfl (Or.inl rfl) (pe_lst (pa_cons (pe_call cText.G hr3 rfl cText.g cText.kp cText.b .nil pass0 (pa_cons (pv 3) pa_nil)) (pa_cons (pe_call cNum.G hr3 rfl cNum.g cNum.kp cNum.b .nil pass0 (pa_cons (pv 3) pa_nil))
              (pa_cons (pe_call cOdd.G hr3 rfl cOdd.g cOdd.kp cOdd.b .nil pass0 (pa_cons (pv 3) pa_nil)) (pa_cons (pe_call cNames.G hr4 rfl cNames.g cNames.kp cNames.b .nil pass0 (pa_cons (pv 3) pa_nil)) (pa_cons (pv 5) pa_nil)))))))
          (pss_cons (ps_for PassesOwn.never rfl (pi_list (pv 6)) (pg_name (i := 7) scLaw.nd rfl (Or.inr rfl))
            (pss_cons (ps_set (i := 8) scLaw.nd rfl (Or.inl rfl) (pe_callB (call_repr hgu hr.units) (by rfl) zP (by decide +kernel) (pa_cons (pv 7) pa_nil)))
            (pss_cons (ps_if (pt_cmpR op_ne
                (pe_callB (call_repr hgu hr.units) (by rfl) zP (by decide +kernel) (pa_cons (pe_lc (own := [("judge", 9), ("own", 10)]) (g := gJO K) (tt := tYes) (te := tCallM (Can P w K mg base 5) 9 (tCons (tVar 7) tNil)) rfl scLaw.nd (pi_list (pv 1)) (blkOk_by (own := [("judge", 9), ("own", 10)]) (N := lawN) (sc := defScope sLaw) (by decide +kernel))
                  (fun _ _ _ _ _ => pg_tup rfl (pgs_cons (pg_name (i := 9) scLaw.nd rfl (Or.inl rfl)) (pgs_cons (pg_name (i := 10) scLaw.nd rfl (Or.inl rfl)) pgs_nil))) (fun _ _ _ _ _ => pts_nil) (fun _ _ _ _ _ => pe_callM (k := 5) (i := 9) hr5 rfl (Or.inl rfl) (pa_cons (pv 7) pa_nil))) pa_nil))
                (pe_callB (call_repr hgu hr.units) (by rfl) zP (by decide +kernel) (pa_cons (pe_lc (own := [("judge", 9), ("own", 10)]) (g := gJO K) (tt := tYes) (te := tCallM (Can P w K mg base 5) 10 (tCons (tVar 7) tNil)) rfl scLaw.nd (pi_list (pv 1)) (blkOk_by (own := [("judge", 9), ("own", 10)]) (N := lawN) (sc := defScope sLaw) (by decide +kernel))
                  (fun _ _ _ _ _ => pg_tup rfl (pgs_cons (pg_name (i := 9) scLaw.nd rfl (Or.inl rfl)) (pgs_cons (pg_name (i := 10) scLaw.nd rfl (Or.inl rfl)) pgs_nil))) (fun _ _ _ _ _ => pts_nil) (fun _ _ _ _ _ => pe_callM (k := 5) (i := 10) hr5 rfl (Or.inl rfl) (pa_cons (pv 7) pa_nil))) pa_nil)) (nomark _))
              (pss_one (ps_ret pe_bl)) pss_nil)
            (pss_one (ps_if (pt_cmpR op_ne (pe_callB (call_repr hgu hr.units) (by rfl) zP (by decide +kernel) (pa_cons (pv 7) pa_nil)) (pv 8) (nomark _)) (pss_one (ps_ret pe_bl)) pss_nil)))))
          (pss_one (ps_if (PW.pt (pw_or (pt_not (pt_val (pe_g cRight.G hr9 hgu rfl cRight.g cRight.kp cRight.b (pa_cons (pv 3) (pa_cons (pv 5) pa_nil)))))
              (pw_or1 (pt_not (pt_val (pe_g cRight.G hr9 hgu rfl cRight.g cRight.kp cRight.b (pa_cons (pv 3) (pa_cons (pe_call cPick.G hr2 rfl cPick.g cPick.kp cPick.b .nil pass0 (pa_cons (pv 3) (pa_cons (pv 6) pa_nil))) pa_nil))))))))
            (pss_one (ps_ret pe_bl)) pss_nil)))))))))
      (pss_cons (ps_if (pt_cmpR op_ne (pe_callB (call_repr hgu hr.units) (by rfl) zP (by decide +kernel) (pa_cons (pe_lst (pa_cons (pe_glob rfl gD (show RelV (.str "dawn") (.str "dawn" tD) from ⟨_, rfl⟩)) (pa_cons (pe_glob rfl gL (show RelV (.int 12) (.int 12 tL) from ⟨_, rfl⟩)) (pa_cons (pe_glob rfl gK (show RelV (.int 20) (.int 20 tK) from ⟨_, rfl⟩))
            (pa_cons (pe_glob rfl gM (show RelV (.int (10 ^ 34)) (.int (10 ^ 34) tM) from ⟨_, rfl⟩)) pa_nil))))) pa_nil))
          (pe_callB (call_repr hgu hr.units) (by rfl) zP (by decide +kernel) (pa_cons (pe_lst (pa_cons pe_str (pa_cons pe_int (pa_cons pe_int (pa_cons (pe_op op_powW pe_int pe_int) pa_nil))))) pa_nil)) (nomark _)) (pss_one (ps_ret pe_bl)) pss_nil)
      (pss_cons (ps_set (i := 11) scLaw.nd rfl (Or.inl rfl) (pe_lst (pa_cons (pe_call j2.G hr1 rfl j2.g j2.kp j2.b .nil pass0 (pa_cons pe_str pa_nil)) (pa_cons (pe_call j2.G hr1 rfl j2.g j2.kp j2.b .nil pass0 (pa_cons pe_str pa_nil)) (pa_cons (pe_call j2.G hr1 rfl j2.g j2.kp j2.b .nil pass0 (pa_cons pe_str pa_nil))
          (pa_cons (pe_call j3.G hr2 rfl j3.g j3.kp j3.b .nil pass0 (pa_cons (pe_op op_powW pe_int pe_int) pa_nil)) (pa_cons (pe_call j3.G hr2 rfl j3.g j3.kp j3.b .nil pass0 (pa_cons pe_bl pa_nil)) (pa_cons (pe_call j5.G hr2 rfl j5.g j5.kp j5.b .nil pass0 (pa_cons (pe_tup (pa_cons pe_str (pa_cons pe_str pa_nil))) pa_nil)) pa_nil))))))))
      (pss_cons (ps_set (i := 12) scLaw.nd rfl (Or.inl rfl) (pe_tup (pa_cons (pe_tup (pa_cons pe_int (pa_cons pe_str pa_nil))) (pa_cons (pe_tup (pa_cons pe_int (pa_cons pe_str pa_nil))) pa_nil))))
      (pss_cons (ps_set (i := 11) scLaw.nd rfl (Or.inl rfl) (pe_op op_cat (pv 11) (pe_lst (pa_cons (pe_call j4.G hr3 rfl j4.g j4.kp j4.b .nil pass0 (pa_cons (pv 12) pa_nil)) (pa_cons (pe_call cUntil.G hr5 rfl cUntil.g cUntil.kp cUntil.b .nil pass0 (pa_cons (pv 12) (pa_cons pe_int pa_nil)))
          (pa_cons (pe_call cTick.G hr5 rfl cTick.g cTick.kp cTick.b .nil pass0 (pa_cons (pv 12) (pa_cons pe_str pa_nil))) pa_nil))))))
      (pss_one (ps_ret (pe_cmpR op_eq (pe_callB (call_repr hgu hr.units) (by rfl) zP (by decide +kernel) (pa_cons (pv 11) pa_nil))
        (pe_callB (call_repr hgu hr.units) (by rfl) zP (by decide +kernel) (pa_cons (pe_lst (pa_cons pe_bl (pa_cons pe_bl (pa_cons pe_bl (pa_cons pe_bl (pa_cons pe_bl (pa_cons pe_bl (pa_cons pe_bl (pa_cons (pe_tup (pa_cons (pe_tup (pa_cons pe_int (pa_cons pe_str pa_nil))) pa_nil)) (pa_cons pe_int pa_nil)))))))))) pa_nil)) (nomark _)))))))))), ?_⟩
    show tJ1 a1 a2 a3 a4 b1 b2 b3 b4 [some (.ref a), none, none, none, none, none, none, none, none, none, none, none, none] H fun y H1 => (tSeq (tJ2 K T a5) (tSeq (tSs P w K mg base T) (tEnd K CO CN CA))) { nx := fun _ H' => Q .non H', rt := Q } [some (.ref a), some y, none, none, none, none, none, none, none, none, none, none, none] H1
    refine lj_1 fun p1 p2 p3 p4 J H1 s1 nJ h1 h2 h3 h4 hJ => ?_
    show tJ2 K T a5 { nx := (tSeq (tSs P w K mg base T) (tEnd K CO CN CA)) { nx := fun _ H' => Q .non H', rt := Q }, rt := Q } (sL a J none none none none none none none none none none none) H1
    refine lj_2 (D := { nx := (tSeq (tSs P w K mg base T) (tEnd K CO CN CA)) { nx := fun _ H' => Q .non H', rt := Q }, rt := Q }) (DW.Tabs.same tb s1) j1 j2 j3 j4 j5 o1 o2 o3 o4 cR hSN (Same.extN s1) nJ h1 h2 h3 h4 hJ fun js H2 e2 t2 j => ?_
    show tSs P w K mg base T { nx := tEnd K CO CN CA { nx := fun _ H' => Q .non H', rt := Q }, rt := Q } (sL a J none none none none none none none none none none none) H2
    exact ls_0 (sqL_ext e2 hS) t2 j fun y2 y3 y4 y5 y6 y7 y8 H3 => le_0 k
end
end K0

namespace DW
open PySem PySem.Spec PyProof.Rows L2 LamX
/-! ### the end for a promise that asks for tables, and that no repr is under way -/
section
variable {P : Program} {w : World} {K : PySem.W.Frag} {mg mb : Str → Option Value} {k : Nat} {fa a : Addr} {fd : FuncData} {x : Str} {sp : Sp} {s : Shared} {vs : List Value} {ns : List Int} {cs : List (Addr × Addr)}
abbrev tabO : Obj := { cls := .none, data := .fields #[] }
noncomputable def tabH (K : PySem.W.Frag) (a : Addr) (vs : List Value) (ns : List Int) (cs : List (Addr × Addr)) : Hp := fun b => if b ∈ cs.map (·.2) then some (.tbl #[]) else scrH K a vs ns b
theorem tab_in {b : Addr} (h : b ∈ cs.map (·.2)) : tabH K a vs ns cs b = some (.tbl #[]) := if_pos h
theorem tab_out {b : Addr} (h : b ∉ cs.map (·.2)) : tabH K a vs ns cs b = scrH K a vs ns b := if_neg h
theorem tab_has {b : Addr} {u : HO} (e : tabH K a vs ns cs b = some u) : (b ∈ cs.map (·.2) ∧ u = .tbl #[]) ∨ (b ∉ cs.map (·.2) ∧ scrH K a vs ns b = some u) := by
  by_cases h : b ∈ cs.map (·.2)
  · rw [tab_in h] at e
    exact .inl ⟨h, (Option.some.inj e).symm⟩
  · rw [tab_out h] at e
    exact .inr ⟨h, e⟩
theorem lawGT (KX : K.In s.heap) (hm : s.heap.Ns mainGlobals mg) (hb : s.heap.Ns builtinsNs mb) (hq : ∀ y : Str, y ≠ "__name__" → mb y = bootBuiltins y) (nl : s.heap.NoLimit) (hg : s.gens = #[]) (hT : ∀ p ∈ cs, s.heap.get? p.2 = some tabO) (nT : ∀ p ∈ cs, K.lookup p.2 = none)
    (cd : ∀ p ∈ cs, PySem.W.CodeHd s.heap p.1 p.2) (bmain : ∃ (bm : Addr) (ob : Obj), mg "__builtins__" = some (.ref bm) ∧ bm ≠ builtinsNs ∧ s.heap.get? bm = some ob ∧ ob.cls = .type "module" ∧ ob.dict = some builtinsNs ∧ ob.data = .plain)
    (ha : s.heap.get? a = some (scrO vs)) (hi : IntsAre vs ns) (hl : ns.length ≤ sizeLine) (hr : Room k callerA) (F : ∀ base : Heap, K.In base → (∀ p ∈ cs, TabB base mg p.1 p.2) → FnG P w K mg base k fa fd [x] sp) (hbind : ∀ (t : Shared) (u : Value), BindsTo t fd ⟨[u], []⟩ [(x, u)])
    (hsp : ∀ H : Hp, SqL K H a (ns.map V.int) → (∀ p ∈ cs, H p.2 = some (.tbl #[])) → sp [.ref a] H (fun v _ => v = .bl true) E0) :
    codeAny (model P w) callerA (.call (.ref fa) ⟨[.ref a], []⟩) (fun r s' => r = .ok (.ret (.bool true)) ∧ OldK s.heap s'.heap ∧ s'.os = s.os ∧ AllBare s'.gens) s := by
  have empty : ∀ {b : Addr}, b ∈ cs.map (·.2) → s.heap.get? b = some tabO := fun {b} h => by
    obtain ⟨p, hp, rfl⟩ := List.mem_map.mp h
    exact hT p hp
  have notK : ∀ {b : Addr}, b ∈ cs.map (·.2) → K.lookup b = none := fun {b} h => by
    obtain ⟨p, hp, rfl⟩ := List.mem_map.mp h
    exact nT p hp
  have mem : ∀ p ∈ cs, p.2 ∈ cs.map (·.2) := fun p hp => List.mem_map.mpr ⟨p, hp, rfl⟩
  have aOut : a ∉ cs.map (·.2) := fun h => by
    have z := (empty h).symm.trans ha
    have z' : Data.fields #[] = Data.seq vs.toArray _ := congrArg Obj.data (Option.some.inj z)
    cases z'
  have stay : ∀ {b : Addr} {o : Obj}, s.heap.get? b = some o → tabH K a vs ns cs b = none → (hidT s.heap (tabH K a vs ns cs)).get? b = some o := fun e n => hidT_get e n
  have plain : ∀ {b : Addr} {o : Obj}, s.heap.get? b = some o → o ≠ scrO vs → o ≠ tabO → tabH K a vs ns cs b = none := fun {b o} e n1 n2 => by
    rw [tab_out fun h => n2 (Option.some.inj (e.symm.trans (empty h)))]
    exact scr_out fun z => by
      rw [z.1, ha] at e
      exact n1 (Option.some.inj e).symm
  have byData : ∀ {b : Addr} {o : Obj}, s.heap.get? b = some o → o.data ≠ (scrO vs).data → o.data ≠ .fields #[] → tabH K a vs ns cs b = none := fun e n1 n2 => plain e (fun z => n1 (by rw [z])) fun z => n2 (by rw [z])
  have nsS : ∀ {b : Addr} {m : Str → Option Value}, s.heap.Ns b m → (hidT s.heap (tabH K a vs ns cs)).Ns b m := fun {b m} ⟨o, es, ep, e, d, r⟩ =>
    ⟨o, es, ep, stay e (byData e (fun z => by rw [d] at z; have z' : Data.dict es ep = Data.seq vs.toArray _ := z; cases z') fun z => by rw [d] at z; cases z), d, r⟩
  have KB : K.In (hidT s.heap (tabH K a vs ns cs)) := fun b o e => stay (KX b o e) (by
    rw [tab_out fun h => by rw [notK h] at e; cases e]
    exact scr_out fun z => by rw [z.1, z.2] at e; cases e)
  have md : Mod K mg (hidT s.heap (tabH K a vs ns cs)) := ⟨KB, nsS hm, ⟨mb, nsS hb, hq⟩, let ⟨c, h1, h2⟩ := nl; ⟨c, nsS h1, h2⟩⟩
  have hok : HOk P w (tabH K a vs ns cs) s.heap := fun b u e => by
    rcases tab_has e with ⟨h, rfl⟩ | ⟨h, e'⟩
    · exact empty h
    · obtain ⟨rfl, _, rfl⟩ := scr_in e'
      exact ⟨ha, by rw [List.length_map]; exact hl, vs, _, scr_vals hi, ha⟩
  have ev : Env0 P w K mg (hidT s.heap (tabH K a vs ns cs)) callerA [] s (tabH K a vs ns cs) :=
    ⟨rfl, md, fun b o e => of_hidT e, Nat.le_of_eq (hidT_size _ _), trivial, fun b z => absurd (show b ∈ ([] : List Addr) from z) (by simp), hok, .of_eq hg⟩
  have tabs : ∀ p ∈ cs, TabB (hidT s.heap (tabH K a vs ns cs)) mg p.1 p.2 := fun p hp => by
    refine ⟨?_, ?_, fun z => ?_⟩
    · obtain ⟨o, us, v1, v2, v3, v4, v5, v6, v7, e, c, d, g, rest⟩ := cd p hp
      refine ⟨o, us, v1, v2, v3, v4, v5, v6, v7, stay e (byData e (fun z => by rw [d] at z; have z' : Data.fields us = Data.seq vs.toArray _ := z; cases z') fun z => ?_), c, d, g, rest⟩
      rw [d] at z
      cases z
      simp at g
    · obtain ⟨bm, ob, m1, m2, m3, m4, m5, m6⟩ := bmain
      refine ⟨bm, ob, m1, m2, fun z => ?_, fun z => ?_, stay m3 (byData m3 (fun z => by rw [m6] at z; have z' : Data.plain = Data.seq vs.toArray _ := z; cases z') fun z => by rw [m6] at z; cases z), m4, m5, m6⟩
      · obtain ⟨o, es, ep, e, d, _⟩ := hm
        rw [z, e] at m3
        cases m3
        rw [d] at m6
        cases m6
      · rw [z, hT p hp] at m3
        cases m3
        cases m6
    · obtain ⟨o, es, ep, e, d, _⟩ := hm
      rw [z, hT p hp] at e
      cases e
      cases d
  have seq : SqL K (tabH K a vs ns cs) a (ns.map V.int) := by
    rcases scr_seq (K := K) KX ha hi hl with (z | ⟨o, z⟩) | z
    · exact .inl (.inl (by rw [tab_out aOut]; exact z))
    · exact .inl (.inr ⟨o, by rw [tab_out aOut]; exact z⟩)
    · exact .inr z
  have go := (F _ KB tabs).run callerA [] s (tabH K a vs ns cs) ⟨[.ref a], []⟩ [.ref a] [.ref a] _ hr rfl ev (hbind s (.ref a)) (Paired.cons rfl Paired.nil) (hsp _ seq fun p hp => tab_in (mem p hp))
  refine codeAny_mono go fun r s' h => ?_
  match r, h with
  | .ok (.ret u), ⟨v, H', os, bare, un, ok', rv, q⟩ =>
    cases (show v = V.bl true from q)
    cases (show u = Value.bool true from rv)
    have same : ∀ b o, b ∉ cs.map (·.2) → s.heap.get? b = some o → s'.heap.get? b = some o := fun b o out e => by
      cases z : tabH K a vs ns cs b with
      | none => exact un.keep b o e z (by intro y; exact absurd (show b ∈ ([] : List Addr) from y) (by simp)) (by simp)
      | some u =>
        rcases tab_has z with ⟨h, _⟩ | ⟨_, z'⟩
        · exact absurd h out
        · obtain ⟨rfl, _, rfl⟩ := scr_in z'
          obtain ⟨e1, _⟩ := ok' b _ (un.frzs b (scrO vs) _ z)
          rw [ha] at e
          cases e
          exact e1
    have grown : ∀ p ∈ cs, ∃ more : Array Value, s'.heap.get? p.2 = some { cls := .none, data := .fields more } := fun p hp => by
      obtain ⟨more, z⟩ := un.tbls p.2 #[] (tab_in (mem p hp))
      exact ⟨_, ok' p.2 _ z⟩
    refine ⟨rfl, ⟨fun b o e => ?_, fun b o e => ?_⟩, os, bare⟩
    · by_cases h : b ∈ cs.map (·.2)
      · obtain ⟨p, hp, rfl⟩ := List.mem_map.mp h
        obtain ⟨more, g⟩ := grown p hp
        rw [hT p hp] at e
        cases e
        exact .inr (.inl ⟨((cd p hp).tab (hT p hp)).isCodeTable, rfl, #[], more, rfl, by rw [Array.empty_append]; exact g⟩)
      · exact .inl (same b o h e)
    · by_cases h : b ∈ cs.map (·.2)
      · obtain ⟨p, hp, rfl⟩ := List.mem_map.mp h
        obtain ⟨more, g⟩ := grown p hp
        exact ⟨_, g⟩
      · exact ⟨o, same b o h e⟩
end
/-- what k_head leaves, from such a promise -/
theorem walkGT {l : PySem.W.OpenLaw} {n k : Nat} {q : Program} {loose : List Str} {XP : (Str → Option Value) → Heap → Prop} {YP : World → Heap → Prop} {d : DefRec} {K : Params → PySem.W.Frag} {x : Str} (hn : l.most = some n) (hz : n ≤ sizeLine)
    (hd : d.params.defaults = []) (hr : Room k callerA) (hY : ∀ (w : World) (h : Heap), YP w h → (K w.params).In h)
    (F : ∀ (w : World) (mg : Str → Option Value) (fa : Addr) (h : Heap), YP w h → (K w.params).In h → h.Ns mainGlobals mg → mg d.name = some (.ref fa) →
      ∃ (fd : FuncData) (cs : List (Addr × Addr)) (sp : Sp), (∀ p ∈ cs, h.get? p.2 = some tabO) ∧ (∀ p ∈ cs, (K w.params).lookup p.2 = none) ∧ (∀ p ∈ cs, PySem.W.CodeHd h p.1 p.2) ∧ (∀ (t : Shared) (u : Value), BindsTo t fd ⟨[u], []⟩ [(x, u)]) ∧
        (∀ (H : Hp) (a : Addr) (ns : List Int), ns.length ≤ n → SqL (K w.params) H a (ns.map V.int) → (∀ p ∈ cs, H p.2 = some (.tbl #[])) → sp [.ref a] H (fun v _ => v = .bl true) E0) ∧
        ∀ base : Heap, (K w.params).In base → (∀ p ∈ cs, TabB base mg p.1 p.2) → FnG l.prog w (K w.params) mg base k fa fd [x] sp) :
    PySem.W.WalkO q loose XP YP l.row.toRowW d [] (fun f vs => PySem.call f vs) := by
  refine Att.attach_call hn hd fun w _ s mg mb fa _ _ _ _ a vs ns G Y _ _ _ hmg ho hi hl hg => ?_
  have KX := hY w _ Y
  obtain ⟨fd, cs, sp, hT, nT, cd, hbind, hsp, hF⟩ := F w mg fa _ Y KX G.T.g hmg
  exact lawGT KX G.T.g G.T.b G.T.builtins G.T.nolimit hg hT nT cd G.T.bmain ho hi (Nat.le_trans hl hz) hr hF hbind fun H hS hH => hsp H a ns hl hS hH
end DW

namespace K0
open PySem PySem.Spec PyProof.Rows L2 DW RZ LamX
def exkB (K : PySem.W.Frag) (C : Addr) : Bool :=
  PySem.W.keepIn K (.ref C) && ((PySem.W.clsIn K C).isSome && (PySem.W.hasDictIn K C && (PySem.W.findIn K (.ref C) "__getattribute__" == some (some (.builtin "BaseException.__getattribute__")) &&
  (PySem.W.findIn K (.ref C) "__getattr__" == some none && (PySem.W.findIn K (.ref C) "__setattr__" == some (some (.builtin "object.__setattr__")) &&
  ((PySem.W.findIn K (.ref C) "__str__" == some (some (.builtin "BaseException.__str__")) || PySem.W.findIn K (.ref C) "__str__" == some (some (.builtin "KeyError.__str__"))) &&
  (PySem.W.subIn K (.ref C) (.type "BaseException") == some true && (PySem.W.findIn K (.ref C) "__class__" == some (some (.builtin "object.__class__")) &&
  (PySem.W.specialIn K (.builtin "object.__class__") "__get__" == some (some (.builtin "getset_descriptor.__get__")) && (PySem.W.takesIn K (.builtin "object.__class__") == some true &&
  PySem.W.mroIn K C (.type "object") == some true))))))))))
theorem exk_of {K : PySem.W.Frag} {C : Addr} (h : exkB K C = true) : ExK K C := by
  unfold exkB at h
  simp only [Bool.and_eq_true, Bool.or_eq_true, beq_iff_eq] at h
  obtain ⟨a, b, c, d, e, f, g, i, j, k, l, m⟩ := h
  exact ⟨a, b, c, d, e, f, g, i, j, k, l, m⟩
def plB (K : PySem.W.Frag) (C : Addr) : Bool := PySem.W.excInitIn K C bmV "ValueError.__new__" && (PySem.W.findIn K (.ref C) "__init__" == some (some (.builtin "ValueError.__init__")) && PySem.W.typeIn K (.ref C) == some (.type "type"))
theorem pl_of {K : PySem.W.Frag} {mg : Str → Option Value} {nm : Str} {C : Addr} (e : exkB K C = true) (h : plB K C = true) (g : mg nm = some (.ref C)) : Pl K mg nm C := by
  unfold plB at h
  simp only [Bool.and_eq_true, beq_iff_eq] at h
  exact ⟨exk_of e, g, h.1, h.2.1, h.2.2⟩
def owB (K : PySem.W.Frag) (C fI : Addr) : Bool :=
  exnB K C "RuntimeError.__new__" "RuntimeError" "RuntimeError" && (PySem.W.typeIn K (.ref fI) == some (.type "function") && (PySem.W.findIn K (.ref C) "given" == some none && (PySem.W.excOver K C [.type "RuntimeError", .type "Exception", .type "BaseException", .type "object"] &&
  (PySem.W.takerIn K C "given" == some none && PySem.W.typeIn K (.ref C) == some (.type "type")))))
theorem ow_of {K : PySem.W.Frag} {C fI : Addr} (h : owB K C fI = true) : exnB K C "RuntimeError.__new__" "RuntimeError" "RuntimeError" = true ∧ PySem.W.typeIn K (.ref fI) = some (.type "function") ∧ PySem.W.findIn K (.ref C) "given" = some none ∧
    PySem.W.excOver K C [.type "RuntimeError", .type "Exception", .type "BaseException", .type "object"] = true ∧ PySem.W.takerIn K C "given" = some none ∧ PySem.W.typeIn K (.ref C) = some (.type "type") := by
  unfold owB at h
  simpa only [Bool.and_eq_true, beq_iff_eq] using h
def exmB (K : PySem.W.Frag) (CA CN CO : Addr) : Bool := PySem.W.exmOne K (.ref CO) (.ref CA) == some false && (PySem.W.exmOne K (.ref CO) (.ref CN) == some false && (PySem.W.exmOne K (.ref CO) (.ref CO) == some true && (PySem.W.exmOne K (.ref CN) (.ref CA) == some false &&
  (PySem.W.exmOne K (.ref CN) (.ref CN) == some true && PySem.W.exmOne K (.ref CA) (.ref CA) == some true))))
theorem exm_of {K : PySem.W.Frag} {CA CN CO : Addr} (h : exmB K CA CN CO = true) : Exm K CA CN CO := by
  unfold exmB at h
  simp only [Bool.and_eq_true, beq_iff_eq] at h
  exact ⟨h.1, h.2.1, h.2.2.1, h.2.2.2.1, h.2.2.2.2.1, h.2.2.2.2.2⟩
theorem two_all {α : Type} {x y : α} {R : α → Prop} (a : R x) (b : R y) : ∀ p ∈ [x, y], R p := fun p hp => by
  rcases List.mem_cons.mp hp with rfl | hp
  · exact a
  rcases List.mem_cons.mp hp with rfl | hp
  · exact b
  · cases hp
theorem un_two {a b : Addr} {x y : Str} (ne : a ≠ b) : (∀ p ∈ [(a, x), (b, y)], p.1 = a → p.2 = x) ∧ (∀ p ∈ [(a, x), (b, y)], p.1 = b → p.2 = y) :=
  ⟨two_all (R := fun p : Addr × Str => p.1 = a → p.2 = x) (fun _ => rfl) (fun z => absurd z.symm ne), two_all (R := fun p : Addr × Str => p.1 = b → p.2 = y) (fun z => absurd z ne) (fun _ => rfl)⟩
theorem code_is {K : PySem.W.Frag} {f c : Addr} {x x' q q' : Str} {ar ar' : Arguments} {bd bd' : List Stmt} {sc sc' : Scope} {oc oc' cdv ct ct' dV dV' kV kV' doc doc' pm pm' : Value} {od od' an an' : Option Addr} {osl osl' : Array (Option Value)}
    (h1 : K.lookup f = some ⟨oc, od, .func (PySem.W.fnOf x q ar bd sc dV kV doc pm an cdv ct), osl⟩) (h2 : K.lookup f = some ⟨oc', od', .func (PySem.W.fnOf x' q' ar' bd' sc' dV' kV' doc' pm' an' (.ref c) ct'), osl'⟩) : cdv = .ref c := by
  have z := congrArg (fun o : Option Obj => match o with | some ⟨_, _, .func fd, _⟩ => fd.code | _ => Value.none) (h1.symm.trans h2)
  exact z
abbrev QR : Str := "_law_seen_right" ++ ".<locals>." ++ "<lambda>"
abbrev QL : Str := "law" ++ ".<locals>." ++ "<lambda>"
theorem all_mk {l : PySem.W.OpenLaw} {w : World} {K : PySem.W.Frag} {h : Heap} {mg : Str → Option Value} {fa fBt fIi fIn fIt fIa fIm fIp fIs fUn fTo fNs fDi fRo fPi fSh fLi fLn fLt fLr fLp fLs fTe fNu fOd fNa fDr fMe fRi fLa fCo cA cN cO iN kR pR kL pL : Addr} {odBt anBt odIi anIi odIn anIn odIt anIt odIa anIa odIm anIm odIp anIp odIs anIs odUn anUn odTo anTo odNs anNs odDi anDi odRo anRo odPi anPi odSh anSh odLi anLi odLn anLn odLt anLt odLr anLr odLp anLp odLs anLs odTe anTe odNu anNu odOd anOd odNa anNa odDr anDr odMe anMe odRi anRi odLa anLa odCo anCo odN anN : Option Addr} {slBt slIi slIn slIt slIa slIm slIp slIs slUn slTo slNs slDi slRo slPi slSh slLi slLn slLt slLr slLp slLs slTe slNu slOd slNa slDr slMe slRi slLa slCo slN : Array (Option Value)} {ocBt kVBt dcBt pmBt ctBt cdBt ocIi kVIi dcIi pmIi ctIi cdIi ocIn kVIn dcIn pmIn ctIn cdIn ocIt kVIt dcIt pmIt ctIt cdIt ocIa kVIa dcIa pmIa ctIa cdIa ocIm kVIm dcIm pmIm ctIm cdIm ocIp kVIp dcIp pmIp ctIp cdIp ocIs kVIs dcIs pmIs ctIs cdIs ocUn kVUn dcUn pmUn ctUn cdUn ocTo kVTo dcTo pmTo ctTo cdTo ocNs kVNs dcNs pmNs ctNs cdNs ocDi kVDi dcDi pmDi ctDi cdDi ocRo kVRo dcRo pmRo ctRo cdRo ocPi kVPi dcPi pmPi ctPi cdPi ocSh kVSh dcSh pmSh ctSh cdSh ocLi kVLi dcLi pmLi ctLi cdLi ocLn kVLn dcLn pmLn ctLn cdLn ocLt kVLt dcLt pmLt ctLt cdLt ocLr kVLr dcLr pmLr ctLr cdLr ocLp kVLp dcLp pmLp ctLp cdLp ocLs kVLs dcLs pmLs ctLs cdLs ocTe kVTe dcTe pmTe ctTe cdTe ocNu kVNu dcNu pmNu ctNu cdNu ocOd kVOd dcOd pmOd ctOd cdOd ocNa kVNa dcNa pmNa ctNa cdNa ocDr kVDr dcDr pmDr ctDr cdDr ocMe kVMe dcMe pmMe ctMe cdMe ocRi kVRi dcRi pmRi ctRi ocLa kVLa dcLa pmLa ctLa ocCo kVCo dcCo pmCo ctCo cdCo ocN kVN dcN pmN ctN cdN : Value} {tcFar tcTick tcLett tcLook tcDawn tcFst tcAll : Tok} (X : K.In h) (G : h.Ns mainGlobals mg) (hfa : mg "law" = some (.ref fa))
    (aBt : PySem.W.nsIn K mainGlobals "is_between" = some (some (.ref fBt)))
    (lBt : K.lookup fBt = some ⟨ocBt, odBt, .func (PySem.W.fnOf "is_between" "is_between" (defArgs sBet) (defBody sBet) (defScope sBet) .none kVBt dcBt pmBt anBt cdBt ctBt), slBt⟩)
    (dBt : PySem.W.codeIn K cdBt "is_between" = true)
    (kBt : PySem.W.keepIn K (.ref fBt) = true)
    (aIi : PySem.W.nsIn K mainGlobals "is_integer" = some (some (.ref fIi)))
    (lIi : K.lookup fIi = some ⟨ocIi, odIi, .func (PySem.W.fnOf "is_integer" "is_integer" (defArgs sIsInt) (defBody sIsInt) (defScope sIsInt) .none kVIi dcIi pmIi anIi cdIi ctIi), slIi⟩)
    (dIi : PySem.W.codeIn K cdIi "is_integer" = true)
    (kIi : PySem.W.keepIn K (.ref fIi) = true)
    (aIn : PySem.W.nsIn K mainGlobals "is_name" = some (some (.ref fIn)))
    (lIn : K.lookup fIn = some ⟨ocIn, odIn, .func (PySem.W.fnOf "is_name" "is_name" (defArgs sIsName) (defBody sIsName) (defScope sIsName) .none kVIn dcIn pmIn anIn cdIn ctIn), slIn⟩)
    (dIn : PySem.W.codeIn K cdIn "is_name" = true)
    (kIn : PySem.W.keepIn K (.ref fIn) = true)
    (aIt : PySem.W.nsIn K mainGlobals "is_tick" = some (some (.ref fIt)))
    (lIt : K.lookup fIt = some ⟨ocIt, odIt, .func (PySem.W.fnOf "is_tick" "is_tick" (defArgs sIsTick) (defBody sIsTick) (defScope sIsTick) .none kVIt dcIt pmIt anIt cdIt ctIt), slIt⟩)
    (dIt : PySem.W.codeIn K cdIt "is_tick" = true)
    (kIt : PySem.W.keepIn K (.ref fIt) = true)
    (aIa : PySem.W.nsIn K mainGlobals "is_ascending" = some (some (.ref fIa)))
    (lIa : K.lookup fIa = some ⟨ocIa, odIa, .func (PySem.W.fnOf "is_ascending" "is_ascending" (defArgs sAsc) (defBody sAsc) (defScope sAsc) .none kVIa dcIa pmIa anIa cdIa ctIa), slIa⟩)
    (dIa : PySem.W.codeIn K cdIa "is_ascending" = true)
    (kIa : PySem.W.keepIn K (.ref fIa) = true)
    (aIm : PySem.W.nsIn K mainGlobals "is_names" = some (some (.ref fIm)))
    (lIm : K.lookup fIm = some ⟨ocIm, odIm, .func (PySem.W.fnOf "is_names" "is_names" (defArgs sIsNames) (defBody sIsNames) (defScope sIsNames) .none kVIm dcIm pmIm anIm cdIm ctIm), slIm⟩)
    (dIm : PySem.W.codeIn K cdIm "is_names" = true)
    (kIm : PySem.W.keepIn K (.ref fIm) = true)
    (aIp : PySem.W.nsIn K mainGlobals "is_pair" = some (some (.ref fIp)))
    (lIp : K.lookup fIp = some ⟨ocIp, odIp, .func (PySem.W.fnOf "is_pair" "is_pair" (defArgs sIsPair) (defBody sIsPair) (defScope sIsPair) .none kVIp dcIp pmIp anIp cdIp ctIp), slIp⟩)
    (dIp : PySem.W.codeIn K cdIp "is_pair" = true)
    (kIp : PySem.W.keepIn K (.ref fIp) = true)
    (aIs : PySem.W.nsIn K mainGlobals "is_seen" = some (some (.ref fIs)))
    (lIs : K.lookup fIs = some ⟨ocIs, odIs, .func (PySem.W.fnOf "is_seen" "is_seen" (defArgs sIsSeen) (defBody sIsSeen) (defScope sIsSeen) .none kVIs dcIs pmIs anIs cdIs ctIs), slIs⟩)
    (dIs : PySem.W.codeIn K cdIs "is_seen" = true)
    (kIs : PySem.W.keepIn K (.ref fIs) = true)
    (aUn : PySem.W.nsIn K mainGlobals "seen_until" = some (some (.ref fUn)))
    (lUn : K.lookup fUn = some ⟨ocUn, odUn, .func (PySem.W.fnOf "seen_until" "seen_until" (defArgs sUntil) (defBody sUntil) (defScope sUntil) .none kVUn dcUn pmUn anUn cdUn ctUn), slUn⟩)
    (dUn : PySem.W.codeIn K cdUn "seen_until" = true)
    (kUn : PySem.W.keepIn K (.ref fUn) = true)
    (aTo : PySem.W.nsIn K mainGlobals "tick_of" = some (some (.ref fTo)))
    (lTo : K.lookup fTo = some ⟨ocTo, odTo, .func (PySem.W.fnOf "tick_of" "tick_of" (defArgs sTickOf) (defBody sTickOf) (defScope sTickOf) .none kVTo dcTo pmTo anTo cdTo ctTo), slTo⟩)
    (dTo : PySem.W.codeIn K cdTo "tick_of" = true)
    (kTo : PySem.W.keepIn K (.ref fTo) = true)
    (aNs : PySem.W.nsIn K mainGlobals "_need_seen" = some (some (.ref fNs)))
    (lNs : K.lookup fNs = some ⟨ocNs, odNs, .func (PySem.W.fnOf "_need_seen" "_need_seen" (defArgs sNeed) (defBody sNeed) (defScope sNeed) .none kVNs dcNs pmNs anNs cdNs ctNs), slNs⟩)
    (dNs : PySem.W.codeIn K cdNs "_need_seen" = true)
    (kNs : PySem.W.keepIn K (.ref fNs) = true)
    (aDi : PySem.W.nsIn K mainGlobals "_law_dice" = some (some (.ref fDi)))
    (lDi : K.lookup fDi = some ⟨ocDi, odDi, .func (PySem.W.fnOf "_law_dice" "_law_dice" (defArgs sDice) (defBody sDice) (defScope sDice) .none kVDi dcDi pmDi anDi cdDi ctDi), slDi⟩)
    (dDi : PySem.W.codeIn K cdDi "_law_dice" = true)
    (kDi : PySem.W.keepIn K (.ref fDi) = true)
    (aRo : PySem.W.nsIn K mainGlobals "_law_roll" = some (some (.ref fRo)))
    (lRo : K.lookup fRo = some ⟨ocRo, odRo, .func (PySem.W.fnOf "_law_roll" "_law_roll" (defArgs sRoll) (defBody sRoll) (defScope sRoll) .none kVRo dcRo pmRo anRo cdRo ctRo), slRo⟩)
    (dRo : PySem.W.codeIn K cdRo "_law_roll" = true)
    (kRo : PySem.W.keepIn K (.ref fRo) = true)
    (aPi : PySem.W.nsIn K mainGlobals "_law_pick" = some (some (.ref fPi)))
    (lPi : K.lookup fPi = some ⟨ocPi, odPi, .func (PySem.W.fnOf "_law_pick" "_law_pick" (defArgs sPick) (defBody sPick) (defScope sPick) .none kVPi dcPi pmPi anPi cdPi ctPi), slPi⟩)
    (dPi : PySem.W.codeIn K cdPi "_law_pick" = true)
    (kPi : PySem.W.keepIn K (.ref fPi) = true)
    (aSh : PySem.W.nsIn K mainGlobals "_law_shuffled" = some (some (.ref fSh)))
    (lSh : K.lookup fSh = some ⟨ocSh, odSh, .func (PySem.W.fnOf "_law_shuffled" "_law_shuffled" (defArgs sShuf) (defBody sShuf) (defScope sShuf) .none kVSh dcSh pmSh anSh cdSh ctSh), slSh⟩)
    (dSh : PySem.W.codeIn K cdSh "_law_shuffled" = true)
    (kSh : PySem.W.keepIn K (.ref fSh) = true)
    (aLi : PySem.W.nsIn K mainGlobals "_law_is_integer" = some (some (.ref fLi)))
    (lLi : K.lookup fLi = some ⟨ocLi, odLi, .func (PySem.W.fnOf "_law_is_integer" "_law_is_integer" (defArgs sLInt) (defBody sLInt) (defScope sLInt) .none kVLi dcLi pmLi anLi cdLi ctLi), slLi⟩)
    (dLi : PySem.W.codeIn K cdLi "_law_is_integer" = true)
    (kLi : PySem.W.keepIn K (.ref fLi) = true)
    (aLn : PySem.W.nsIn K mainGlobals "_law_is_name" = some (some (.ref fLn)))
    (lLn : K.lookup fLn = some ⟨ocLn, odLn, .func (PySem.W.fnOf "_law_is_name" "_law_is_name" (defArgs sLName) (defBody sLName) (defScope sLName) .none kVLn dcLn pmLn anLn cdLn ctLn), slLn⟩)
    (dLn : PySem.W.codeIn K cdLn "_law_is_name" = true)
    (kLn : PySem.W.keepIn K (.ref fLn) = true)
    (aLt : PySem.W.nsIn K mainGlobals "_law_is_tick" = some (some (.ref fLt)))
    (lLt : K.lookup fLt = some ⟨ocLt, odLt, .func (PySem.W.fnOf "_law_is_tick" "_law_is_tick" (defArgs sLTick) (defBody sLTick) (defScope sLTick) .none kVLt dcLt pmLt anLt cdLt ctLt), slLt⟩)
    (dLt : PySem.W.codeIn K cdLt "_law_is_tick" = true)
    (kLt : PySem.W.keepIn K (.ref fLt) = true)
    (aLr : PySem.W.nsIn K mainGlobals "_law_is_rising" = some (some (.ref fLr)))
    (lLr : K.lookup fLr = some ⟨ocLr, odLr, .func (PySem.W.fnOf "_law_is_rising" "_law_is_rising" (defArgs sRise) (defBody sRise) (defScope sRise) .none kVLr dcLr pmLr anLr cdLr ctLr), slLr⟩)
    (dLr : PySem.W.codeIn K cdLr "_law_is_rising" = true)
    (kLr : PySem.W.keepIn K (.ref fLr) = true)
    (aLp : PySem.W.nsIn K mainGlobals "_law_is_pair" = some (some (.ref fLp)))
    (lLp : K.lookup fLp = some ⟨ocLp, odLp, .func (PySem.W.fnOf "_law_is_pair" "_law_is_pair" (defArgs sLPair) (defBody sLPair) (defScope sLPair) .none kVLp dcLp pmLp anLp cdLp ctLp), slLp⟩)
    (dLp : PySem.W.codeIn K cdLp "_law_is_pair" = true)
    (kLp : PySem.W.keepIn K (.ref fLp) = true)
    (aLs : PySem.W.nsIn K mainGlobals "_law_is_seen" = some (some (.ref fLs)))
    (lLs : K.lookup fLs = some ⟨ocLs, odLs, .func (PySem.W.fnOf "_law_is_seen" "_law_is_seen" (defArgs sLSeen) (defBody sLSeen) (defScope sLSeen) .none kVLs dcLs pmLs anLs cdLs ctLs), slLs⟩)
    (dLs : PySem.W.codeIn K cdLs "_law_is_seen" = true)
    (kLs : PySem.W.keepIn K (.ref fLs) = true)
    (aTe : PySem.W.nsIn K mainGlobals "_law_text" = some (some (.ref fTe)))
    (lTe : K.lookup fTe = some ⟨ocTe, odTe, .func (PySem.W.fnOf "_law_text" "_law_text" (defArgs sText) (defBody sText) (defScope sText) .none kVTe dcTe pmTe anTe cdTe ctTe), slTe⟩)
    (dTe : PySem.W.codeIn K cdTe "_law_text" = true)
    (kTe : PySem.W.keepIn K (.ref fTe) = true)
    (aNu : PySem.W.nsIn K mainGlobals "_law_number" = some (some (.ref fNu)))
    (lNu : K.lookup fNu = some ⟨ocNu, odNu, .func (PySem.W.fnOf "_law_number" "_law_number" (defArgs sNumber) (defBody sNumber) (defScope sNumber) .none kVNu dcNu pmNu anNu cdNu ctNu), slNu⟩)
    (dNu : PySem.W.codeIn K cdNu "_law_number" = true)
    (kNu : PySem.W.keepIn K (.ref fNu) = true)
    (aOd : PySem.W.nsIn K mainGlobals "_law_odd" = some (some (.ref fOd)))
    (lOd : K.lookup fOd = some ⟨ocOd, odOd, .func (PySem.W.fnOf "_law_odd" "_law_odd" (defArgs sOdd) (defBody sOdd) (defScope sOdd) .none kVOd dcOd pmOd anOd cdOd ctOd), slOd⟩)
    (dOd : PySem.W.codeIn K cdOd "_law_odd" = true)
    (kOd : PySem.W.keepIn K (.ref fOd) = true)
    (aNa : PySem.W.nsIn K mainGlobals "_law_names" = some (some (.ref fNa)))
    (lNa : K.lookup fNa = some ⟨ocNa, odNa, .func (PySem.W.fnOf "_law_names" "_law_names" (defArgs sNames) (defBody sNames) (defScope sNames) .none kVNa dcNa pmNa anNa cdNa ctNa), slNa⟩)
    (dNa : PySem.W.codeIn K cdNa "_law_names" = true)
    (kNa : PySem.W.keepIn K (.ref fNa) = true)
    (aDr : PySem.W.nsIn K mainGlobals "_law_drawn_seen" = some (some (.ref fDr)))
    (lDr : K.lookup fDr = some ⟨ocDr, odDr, .func (PySem.W.fnOf "_law_drawn_seen" "_law_drawn_seen" (defArgs sDrawn) (defBody sDrawn) (defScope sDrawn) .none kVDr dcDr pmDr anDr cdDr ctDr), slDr⟩)
    (dDr : PySem.W.codeIn K cdDr "_law_drawn_seen" = true)
    (kDr : PySem.W.keepIn K (.ref fDr) = true)
    (aMe : PySem.W.nsIn K mainGlobals "_law_met" = some (some (.ref fMe)))
    (lMe : K.lookup fMe = some ⟨ocMe, odMe, .func (PySem.W.fnOf "_law_met" "_law_met" (defArgs sMet) (defBody sMet) (defScope sMet) .none kVMe dcMe pmMe anMe cdMe ctMe), slMe⟩)
    (dMe : PySem.W.codeIn K cdMe "_law_met" = true)
    (kMe : PySem.W.keepIn K (.ref fMe) = true)
    (aRi : PySem.W.nsIn K mainGlobals "_law_seen_right" = some (some (.ref fRi)))
    (lRi : K.lookup fRi = some ⟨ocRi, odRi, .func (PySem.W.fnOf "_law_seen_right" "_law_seen_right" (defArgs sRight) (defBody sRight) (defScope sRight) .none kVRi dcRi pmRi anRi (.ref kR) ctRi), slRi⟩)
    (dRi : PySem.W.codeIn K (.ref kR) "_law_seen_right" = true)
    (kRi : PySem.W.keepIn K (.ref fRi) = true)
    (aLa : PySem.W.nsIn K mainGlobals "law" = some (some (.ref fLa)))
    (lLa : K.lookup fLa = some ⟨ocLa, odLa, .func (PySem.W.fnOf "law" "law" (defArgs sLaw) (defBody sLaw) (defScope sLaw) .none kVLa dcLa pmLa anLa (.ref kL) ctLa), slLa⟩)
    (dLa : PySem.W.codeIn K (.ref kL) "law" = true)
    (kLa : PySem.W.keepIn K (.ref fLa) = true)
    (aCo : PySem.W.nsIn K mainGlobals "own_copy" = some (some (.ref fCo)))
    (lCo : K.lookup fCo = some ⟨ocCo, odCo, .func (PySem.W.fnOf "own_copy" "own_copy" (defArgs sCopy) (defBody sCopy) (defScope sCopy) .none kVCo dcCo pmCo anCo cdCo ctCo), slCo⟩)
    (dCo : PySem.W.codeIn K cdCo "own_copy" = true)
    (kCo : PySem.W.keepIn K (.ref fCo) = true)
    (gA : PySem.W.nsIn K mainGlobals "InvalidName" = some (some (.ref cA)))
    (gN : PySem.W.nsIn K mainGlobals "InvalidNumber" = some (some (.ref cN)))
    (gO : PySem.W.nsIn K mainGlobals "InvalidOperation" = some (some (.ref cO)))
    (jN : PySem.W.findIn K (.ref cN) "__init__" = some (some (.ref iN)))
    (lN : K.lookup iN = some ⟨ocN, odN, .func (PySem.W.fnOf "__init__" "InvalidNumber.__init__" (defArgs sIni) (defBody sIni) (defScope sIni) .none kVN dcN pmN anN cdN ctN), slN⟩)
    (dN : PySem.W.codeIn K cdN "InvalidNumber.__init__" = true)
    (kN : PySem.W.keepIn K (.ref iN) = true)
    (eA : exkB K cA = true)
    (eN : exkB K cN = true)
    (eO : exkB K cO = true)
    (pA : plB K cA = true)
    (pO : plB K cO = true)
    (oN : owB K cN iN = true)
    (xN : xfB K cN = true)
    (xm : exmB K cA cN cO = true)
    (tR : PySem.W.codeHdIn K kR pR = true)
    (tL : PySem.W.codeHdIn K kL pL = true)
    (nR : K.lookup pR = none)
    (nL : K.lookup pL = none)
    (ne : decide (pR = pL) = false)
    (vN : PySem.W.findCls K (.type "RuntimeError") (.type "type") "__init__" = some (.val (.builtin "RuntimeError.__init__")))
    (cFar : PySem.W.nsIn K mainGlobals "_TOO_LONG" = some (some (.int (10 ^ 40) tcFar)))
    (cTick : PySem.W.nsIn K mainGlobals "MAX_TICK" = some (some (.int (10 ^ 34) tcTick)))
    (cLett : PySem.W.nsIn K mainGlobals "MAX_LETTERS" = some (some (.int 12 tcLett)))
    (cLook : PySem.W.nsIn K mainGlobals "MAX_LOOK" = some (some (.int 20 tcLook)))
    (cDawn : PySem.W.nsIn K mainGlobals "DAWN" = some (some (.str "dawn" tcDawn)))
    (cFst : PySem.W.nsIn K mainGlobals "_FIRST_LETTERS" = some (some (.str firstL tcFst)))
    (cAll : PySem.W.nsIn K mainGlobals "_LETTERS" = some (some (.str lettL tcAll)))
    (z_isinstance : PySem.W.nsIn K mainGlobals "isinstance" = some none)
    (z_int : PySem.W.nsIn K mainGlobals "int" = some none)
    (z_bool : PySem.W.nsIn K mainGlobals "bool" = some none)
    (z_str : PySem.W.nsIn K mainGlobals "str" = some none)
    (z_len : PySem.W.nsIn K mainGlobals "len" = some none)
    (z_all : PySem.W.nsIn K mainGlobals "all" = some none)
    (z_range : PySem.W.nsIn K mainGlobals "range" = some none)
    (z_tuple : PySem.W.nsIn K mainGlobals "tuple" = some none)
    (z_list : PySem.W.nsIn K mainGlobals "list" = some none)
    (z_dict : PySem.W.nsIn K mainGlobals "dict" = some none)
    (z_set : PySem.W.nsIn K mainGlobals "set" = some none)
    (z_zip : PySem.W.nsIn K mainGlobals "zip" = some none)
    (z_abs : PySem.W.nsIn K mainGlobals "abs" = some none)
    (z_max : PySem.W.nsIn K mainGlobals "max" = some none)
    (z_min : PySem.W.nsIn K mainGlobals "min" = some none)
    (z_sorted : PySem.W.nsIn K mainGlobals "sorted" = some none)
    (z_repr : PySem.W.nsIn K mainGlobals "repr" = some none)
    (z_RuntimeError : PySem.W.nsIn K mainGlobals "RuntimeError" = some none)
    (hR : h.get? pR = some tabO)
    (hL : h.get? pL = some tabO)
    : ∃ (fd : FuncData) (cs : List (Addr × Addr)) (sp : Sp), (∀ p ∈ cs, h.get? p.2 = some tabO) ∧ (∀ p ∈ cs, K.lookup p.2 = none) ∧ (∀ p ∈ cs, PySem.W.CodeHd h p.1 p.2) ∧ (∀ (t : Shared) (u : Value), BindsTo t fd ⟨[u], []⟩ [("script", u)]) ∧
        (∀ (H : Hp) (a : Addr) (ns : List Int), ns.length ≤ 63 → SqL K H a (ns.map V.int) → (∀ p ∈ cs, H p.2 = some (.tbl #[])) → sp [.ref a] H (fun v _ => v = .bl true) E0) ∧
        ∀ base : Heap, K.In base → (∀ p ∈ cs, TabB base mg p.1 p.2) → FnG l.prog w K mg base 10 fa fd ["script"] sp := by
  have e := hfa.symm.trans (PySem.W.mg_of X G aLa)
  cases e
  have y_isinstance := PySem.W.mg_none_of X G z_isinstance
  have y_int := PySem.W.mg_none_of X G z_int
  have y_bool := PySem.W.mg_none_of X G z_bool
  have y_str := PySem.W.mg_none_of X G z_str
  have y_len := PySem.W.mg_none_of X G z_len
  have y_all := PySem.W.mg_none_of X G z_all
  have y_range := PySem.W.mg_none_of X G z_range
  have y_tuple := PySem.W.mg_none_of X G z_tuple
  have y_list := PySem.W.mg_none_of X G z_list
  have y_dict := PySem.W.mg_none_of X G z_dict
  have y_set := PySem.W.mg_none_of X G z_set
  have y_zip := PySem.W.mg_none_of X G z_zip
  have y_abs := PySem.W.mg_none_of X G z_abs
  have y_max := PySem.W.mg_none_of X G z_max
  have y_min := PySem.W.mg_none_of X G z_min
  have y_sorted := PySem.W.mg_none_of X G z_sorted
  have y_repr := PySem.W.mg_none_of X G z_repr
  have y_RuntimeError := PySem.W.mg_none_of X G z_RuntimeError
  have FBt : Fun K "is_between" "is_between" sBet fBt _ := fun_mk (st := sBet) lBt dBt kBt
  have bBt := FBt.binds (ps := ["value", "least", "most"]) fun _ _ _ _ _ _ us hl => match us, hl with | [_, _, _], _ => rfl
  have mBt := PySem.W.mg_of X G aBt
  have FIi : Fun K "is_integer" "is_integer" sIsInt fIi _ := fun_mk (st := sIsInt) lIi dIi kIi
  have bIi := FIi.binds (ps := ["value"]) fun _ _ _ _ _ _ us hl => match us, hl with | [_], _ => rfl
  have mIi := PySem.W.mg_of X G aIi
  have FIn : Fun K "is_name" "is_name" sIsName fIn _ := fun_mk (st := sIsName) lIn dIn kIn
  have bIn := FIn.binds (ps := ["value"]) fun _ _ _ _ _ _ us hl => match us, hl with | [_], _ => rfl
  have mIn := PySem.W.mg_of X G aIn
  have FIt : Fun K "is_tick" "is_tick" sIsTick fIt _ := fun_mk (st := sIsTick) lIt dIt kIt
  have bIt := FIt.binds (ps := ["value"]) fun _ _ _ _ _ _ us hl => match us, hl with | [_], _ => rfl
  have mIt := PySem.W.mg_of X G aIt
  have FIa : Fun K "is_ascending" "is_ascending" sAsc fIa _ := fun_mk (st := sAsc) lIa dIa kIa
  have bIa := FIa.binds (ps := ["values"]) fun _ _ _ _ _ _ us hl => match us, hl with | [_], _ => rfl
  have mIa := PySem.W.mg_of X G aIa
  have FIm : Fun K "is_names" "is_names" sIsNames fIm _ := fun_mk (st := sIsNames) lIm dIm kIm
  have bIm := FIm.binds (ps := ["value"]) fun _ _ _ _ _ _ us hl => match us, hl with | [_], _ => rfl
  have mIm := PySem.W.mg_of X G aIm
  have FIp : Fun K "is_pair" "is_pair" sIsPair fIp _ := fun_mk (st := sIsPair) lIp dIp kIp
  have bIp := FIp.binds (ps := ["value"]) fun _ _ _ _ _ _ us hl => match us, hl with | [_], _ => rfl
  have mIp := PySem.W.mg_of X G aIp
  have FIs : Fun K "is_seen" "is_seen" sIsSeen fIs _ := fun_mk (st := sIsSeen) lIs dIs kIs
  have bIs := FIs.binds (ps := ["value"]) fun _ _ _ _ _ _ us hl => match us, hl with | [_], _ => rfl
  have mIs := PySem.W.mg_of X G aIs
  have FUn : Fun K "seen_until" "seen_until" sUntil fUn _ := fun_mk (st := sUntil) lUn dUn kUn
  have bUn := FUn.binds (ps := ["seen", "tick"]) fun _ _ _ _ _ _ us hl => match us, hl with | [_, _], _ => rfl
  have mUn := PySem.W.mg_of X G aUn
  have FTo : Fun K "tick_of" "tick_of" sTickOf fTo _ := fun_mk (st := sTickOf) lTo dTo kTo
  have bTo := FTo.binds (ps := ["seen", "name"]) fun _ _ _ _ _ _ us hl => match us, hl with | [_, _], _ => rfl
  have mTo := PySem.W.mg_of X G aTo
  have FNs : Fun K "_need_seen" "_need_seen" sNeed fNs _ := fun_mk (st := sNeed) lNs dNs kNs
  have bNs := FNs.binds (ps := ["seen"]) fun _ _ _ _ _ _ us hl => match us, hl with | [_], _ => rfl
  have mNs := PySem.W.mg_of X G aNs
  have FDi : Fun K "_law_dice" "_law_dice" sDice fDi _ := fun_mk (st := sDice) lDi dDi kDi
  have bDi := FDi.binds (ps := ["script", "spot"]) fun _ _ _ _ _ _ us hl => match us, hl with | [_, _], _ => rfl
  have mDi := PySem.W.mg_of X G aDi
  have FRo : Fun K "_law_roll" "_law_roll" sRoll fRo _ := fun_mk (st := sRoll) lRo dRo kRo
  have bRo := FRo.binds (ps := ["dice", "total"]) fun _ _ _ _ _ _ us hl => match us, hl with | [_, _], _ => rfl
  have mRo := PySem.W.mg_of X G aRo
  have FPi : Fun K "_law_pick" "_law_pick" sPick fPi _ := fun_mk (st := sPick) lPi dPi kPi
  have bPi := FPi.binds (ps := ["dice", "items"]) fun _ _ _ _ _ _ us hl => match us, hl with | [_, _], _ => rfl
  have mPi := PySem.W.mg_of X G aPi
  have FSh : Fun K "_law_shuffled" "_law_shuffled" sShuf fSh _ := fun_mk (st := sShuf) lSh dSh kSh
  have bSh := FSh.binds (ps := ["dice", "items"]) fun _ _ _ _ _ _ us hl => match us, hl with | [_, _], _ => rfl
  have mSh := PySem.W.mg_of X G aSh
  have FLi : Fun K "_law_is_integer" "_law_is_integer" sLInt fLi _ := fun_mk (st := sLInt) lLi dLi kLi
  have bLi := FLi.binds (ps := ["value"]) fun _ _ _ _ _ _ us hl => match us, hl with | [_], _ => rfl
  have mLi := PySem.W.mg_of X G aLi
  have FLn : Fun K "_law_is_name" "_law_is_name" sLName fLn _ := fun_mk (st := sLName) lLn dLn kLn
  have bLn := FLn.binds (ps := ["value"]) fun _ _ _ _ _ _ us hl => match us, hl with | [_], _ => rfl
  have mLn := PySem.W.mg_of X G aLn
  have FLt : Fun K "_law_is_tick" "_law_is_tick" sLTick fLt _ := fun_mk (st := sLTick) lLt dLt kLt
  have bLt := FLt.binds (ps := ["value"]) fun _ _ _ _ _ _ us hl => match us, hl with | [_], _ => rfl
  have mLt := PySem.W.mg_of X G aLt
  have FLr : Fun K "_law_is_rising" "_law_is_rising" sRise fLr _ := fun_mk (st := sRise) lLr dLr kLr
  have bLr := FLr.binds (ps := ["value", "judge"]) fun _ _ _ _ _ _ us hl => match us, hl with | [_, _], _ => rfl
  have mLr := PySem.W.mg_of X G aLr
  have FLp : Fun K "_law_is_pair" "_law_is_pair" sLPair fLp _ := fun_mk (st := sLPair) lLp dLp kLp
  have bLp := FLp.binds (ps := ["value"]) fun _ _ _ _ _ _ us hl => match us, hl with | [_], _ => rfl
  have mLp := PySem.W.mg_of X G aLp
  have FLs : Fun K "_law_is_seen" "_law_is_seen" sLSeen fLs _ := fun_mk (st := sLSeen) lLs dLs kLs
  have bLs := FLs.binds (ps := ["value"]) fun _ _ _ _ _ _ us hl => match us, hl with | [_], _ => rfl
  have mLs := PySem.W.mg_of X G aLs
  have FTe : Fun K "_law_text" "_law_text" sText fTe _ := fun_mk (st := sText) lTe dTe kTe
  have bTe := FTe.binds (ps := ["dice"]) fun _ _ _ _ _ _ us hl => match us, hl with | [_], _ => rfl
  have mTe := PySem.W.mg_of X G aTe
  have FNu : Fun K "_law_number" "_law_number" sNumber fNu _ := fun_mk (st := sNumber) lNu dNu kNu
  have bNu := FNu.binds (ps := ["dice"]) fun _ _ _ _ _ _ us hl => match us, hl with | [_], _ => rfl
  have mNu := PySem.W.mg_of X G aNu
  have FOd : Fun K "_law_odd" "_law_odd" sOdd fOd _ := fun_mk (st := sOdd) lOd dOd kOd
  have bOd := FOd.binds (ps := ["dice"]) fun _ _ _ _ _ _ us hl => match us, hl with | [_], _ => rfl
  have mOd := PySem.W.mg_of X G aOd
  have FNa : Fun K "_law_names" "_law_names" sNames fNa _ := fun_mk (st := sNames) lNa dNa kNa
  have bNa := FNa.binds (ps := ["dice"]) fun _ _ _ _ _ _ us hl => match us, hl with | [_], _ => rfl
  have mNa := PySem.W.mg_of X G aNa
  have FDr : Fun K "_law_drawn_seen" "_law_drawn_seen" sDrawn fDr _ := fun_mk (st := sDrawn) lDr dDr kDr
  have bDr := FDr.binds (ps := ["dice"]) fun _ _ _ _ _ _ us hl => match us, hl with | [_], _ => rfl
  have mDr := PySem.W.mg_of X G aDr
  have FMe : Fun K "_law_met" "_law_met" sMet fMe _ := fun_mk (st := sMet) lMe dMe kMe
  have bMe := FMe.binds (ps := ["call"]) fun _ _ _ _ _ _ us hl => match us, hl with | [_], _ => rfl
  have mMe := PySem.W.mg_of X G aMe
  have FRi : Fun K "_law_seen_right" "_law_seen_right" sRight fRi _ := fun_mk (st := sRight) lRi dRi kRi
  have bRi := FRi.binds (ps := ["dice", "value"]) fun _ _ _ _ _ _ us hl => match us, hl with | [_, _], _ => rfl
  have mRi := PySem.W.mg_of X G aRi
  have FLa : Fun K "law" "law" sLaw fa _ := fun_mk (st := sLaw) lLa dLa kLa
  have bLa := FLa.binds (ps := ["script"]) fun _ _ _ _ _ _ us hl => match us, hl with | [_], _ => rfl
  have mLa := PySem.W.mg_of X G aLa
  have FCo : Fun K "own_copy" "own_copy" sCopy fCo _ := fun_mk (st := sCopy) lCo dCo kCo
  have bCo := FCo.binds (ps := ["value"]) fun _ _ _ _ _ _ us hl => match us, hl with | [_], _ => rfl
  have mCo := PySem.W.mg_of X G aCo
  have FN : Fun K "__init__" "InvalidNumber.__init__" sIni iN _ := fun_mk (st := sIni) lN dN kN
  have bN := FN.binds (ps := ["self", "given"]) fun _ _ _ _ _ _ us hl => match us, hl with | [_, _], _ => rfl
  have mA := PySem.W.mg_of X G gA
  have tA := exk_of eA
  have mN := PySem.W.mg_of X G gN
  have tN := exk_of eN
  have mO := PySem.W.mg_of X G gO
  have tO := exk_of eO
  have qA : Pl K mg "InvalidName" cA := pl_of eA pA mA
  have qO : Pl K mg "InvalidOperation" cO := pl_of eO pO mO
  obtain ⟨xq, tf, nf, ov, tkr, tyN⟩ := ow_of oN
  have glo : Glo mg := ⟨⟨_, PySem.W.mg_of X G cFar⟩, ⟨_, PySem.W.mg_of X G cTick⟩, ⟨_, PySem.W.mg_of X G cLett⟩, ⟨_, PySem.W.mg_of X G cDawn⟩, ⟨_, PySem.W.mg_of X G cFst⟩, ⟨_, PySem.W.mg_of X G cAll⟩⟩
  have ne' : pR ≠ pL := of_decide_eq_false ne
  refine ⟨PySem.W.fnOf "law" "law" (defArgs sLaw) (defBody sLaw) (defScope sLaw) .none kVLa dcLa pmLa anLa (.ref kL) ctLa, [(kR, pR), (kL, pL)], spLaw K [(pR, QR), (pL, QL)], ?_, ?_, ?_, fun t v => .of_eq rfl, fun H a ns hl hS hH => ?_, fun base _ TB => ?_⟩
  · exact two_all hR hL
  · exact two_all nR nL
  · exact two_all (PySem.W.codeHd_of_K X tR) (PySem.W.codeHd_of_K X tL)
  · exact ⟨a, ns, rfl, hS, hl, two_all (LamX.TabS.nil (hH (kR, pR) (by simp))) (LamX.TabS.nil (hH (kL, pL) (by simp))), fun _ => rfl⟩
  have tbR := TB (kR, pR) (by simp)
  have tbL := TB (kL, pL) (by simp)
  have GBt := ok_bet (P := l.prog) (w := w) (mg := mg) (base := base) FBt y_isinstance y_int y_bool
  have GIi := ok_int (P := l.prog) (w := w) (mg := mg) (base := base) FIi GBt FBt.kp bBt mBt glo
  have GIt := ok_tick (P := l.prog) (w := w) (mg := mg) (base := base) FIt GBt FBt.kp bBt mBt glo
  have GIn := ok_name (P := l.prog) (w := w) (mg := mg) (base := base) FIn glo y_isinstance y_str y_len y_all
  have GIa := ok_asc (P := l.prog) (w := w) (mg := mg) (base := base) FIa y_all y_range y_len
  have GIp := ok_pair (P := l.prog) (w := w) (mg := mg) (base := base) FIp y_isinstance y_tuple y_len
  have GIm := ok_names (P := l.prog) (w := w) (mg := mg) (base := base) FIm GIn FIn.kp bIn mIn GIa FIa.kp bIa mIa y_isinstance y_tuple y_all
  have GIs := ok_seen (P := l.prog) (w := w) (mg := mg) (base := base) FIs GIp FIp.kp bIp mIp GIt FIt.kp bIt mIt GIn FIn.kp bIn mIn GIa FIa.kp bIa mIa y_isinstance y_tuple y_all y_len y_set
  have GLi := ok_lint (P := l.prog) (w := w) (mg := mg) (base := base) FLi y_isinstance y_int y_bool
  have GLt := ok_ltick (P := l.prog) (w := w) (mg := mg) (base := base) FLt GLi FLi.kp bLi mLi
  have GLn := ok_lname (P := l.prog) (w := w) (mg := mg) (base := base) FLn y_isinstance y_str y_len
  have GLp := ok_lpair (P := l.prog) (w := w) (mg := mg) (base := base) FLp GLt FLt.kp bLt mLt GLn FLn.kp bLn mLn y_isinstance y_tuple y_len
  have neS : fLn ≠ fLp := fun z => by
    rw [z] at lLn
    have z1 := lLn.symm.trans lLp
    have z2 := congrArg (fun o : Option Obj => match o with | some ⟨_, _, .func fd, _⟩ => fd.name | _ => "") z1
    have z3 : ("_law_is_name" : Str) = "_law_is_pair" := z2
    exact absurd z3 (by decide)
  have A2 : ∀ f sp, (fun b => if b = fLn then some (spJo K isNameD) else if b = fLp then some (spOk K tnD PairOk) else none) f = some sp → Held l.prog w K mg base 3 f sp := fun f sp hs => by
    have hs : (if f = fLn then some (spJo K isNameD) else if f = fLp then some (spOk K tnD PairOk) else none) = some sp := hs
    by_cases z1 : f = fLn
    · rw [if_pos z1] at hs
      cases hs
      rw [z1]
      exact ⟨_, _, fn_up (by decide) GLn, FLn.kp, bLn⟩
    · rw [if_neg z1] at hs
      by_cases z2 : f = fLp
      · rw [if_pos z2] at hs
        cases hs
        rw [z2]
        exact ⟨_, _, GLp, FLp.kp, bLp⟩
      · rw [if_neg z2] at hs
        cases hs
  have GLr := ok_rise (P := l.prog) (w := w) (mg := mg) (base := base) A2 FLr y_isinstance y_tuple y_zip
  have GLs := ok_lseen (P := l.prog) (w := w) (mg := mg) (base := base) FLs GLr FLr.kp bLr mLr (show (if fLp = fLn then some (spJo K isNameD) else if fLp = fLp then some (spOk K tnD PairOk) else none) = some (spOk K tnD PairOk) by rw [if_neg (Ne.symm neS), if_pos rfl]) mLp y_len y_set
  have GRo := ok_roll (P := l.prog) (w := w) (mg := mg) (base := base) FRo
  have GPi := ok_pick (P := l.prog) (w := w) (mg := mg) (base := base) FPi FRo bRo mRo y_len
  have GPb := ok_pickB (P := l.prog) (w := w) (mg := mg) (base := base) FPi FRo bRo mRo y_len
  have GDi := ok_dice (P := l.prog) (w := w) (mg := mg) (base := base) FDi y_len y_int y_abs y_max
  have GSh := ok_shuf (P := l.prog) (w := w) (mg := mg) (base := base) FSh GRo FRo.kp bRo mRo y_list y_range y_len
  have GTe := ok_text (P := l.prog) (w := w) (mg := mg) (base := base) FTe GRo FRo.kp bRo mRo GPi FPi.kp bPi mPi y_len y_range
  have GNu := ok_number (P := l.prog) (w := w) (mg := mg) (base := base) FNu GRo FRo.kp bRo mRo GPi FPi.kp bPi mPi
  have GOd := ok_odd (P := l.prog) (w := w) (mg := mg) (base := base) FOd GPi FPi.kp bPi mPi
  have GNa := ok_names2 (P := l.prog) (w := w) (mg := mg) (base := base) FNa GRo FRo.kp bRo mRo GPi FPi.kp bPi mPi GTe FTe.kp bTe mTe GLn FLn.kp bLn mLn y_range y_sorted y_tuple
  have GDr := ok_drawn (P := l.prog) (w := w) (mg := mg) (base := base) FDr GRo FRo.kp bRo mRo GPi FPi.kp bPi mPi GSh FSh.kp bSh mSh y_len y_tuple y_list y_zip y_sorted
  have GCo := ok_copy (P := l.prog) (w := w) (mg := mg) (base := base) FCo y_isinstance y_list y_tuple y_dict
  have GIn0 := ok_ini (P := l.prog) (w := w) (mg := mg) (base := base) FN GCo FCo.kp bCo mCo tN xq ov tkr y_RuntimeError vN
  have oW : Ow l.prog w K mg base cN iN _ := ⟨tN, mN, xq, jN, tf, bN, GIn0, tyN⟩
  have GNs := ok_need (P := l.prog) (w := w) (mg := mg) (base := base) FNs GIs FIs.kp bIs mIs qO
  have GUn := ok_until (P := l.prog) (w := w) (mg := mg) (base := base) (fS := fIs) (dS := PySem.W.fnOf "law" "law" (defArgs sLaw) (defBody sLaw) (defScope sLaw) .none kVLa dcLa pmLa anLa (.ref kL) ctLa) FUn GNs FNs.kp bNs mNs GIt FIt.kp bIt mIt oW y_tuple
  have GTo := ok_tickof (P := l.prog) (w := w) (mg := mg) (base := base) (fS := fIs) FTo GNs FNs.kp bNs mNs GIn FIn.kp bIn mIn qA
  have tkR : Tk K base mg [(pR, QR), (pL, QL)] "_law_seen_right" "_law_seen_right" sRight fRi kR pR := ⟨tbR, by simp, un_two ne' |>.1, fun oc od kV doc pm an cdv ct osl lk => code_is lk lRi⟩
  have tkL : Tk K base mg [(pR, QR), (pL, QL)] "law" "law" sLaw fa kL pL := ⟨tbL, by simp, un_two ne' |>.2, fun oc od kV doc pm an cdv ct osl lk => code_is lk lLa⟩
  have GRi := ok_right (P := l.prog) (w := w) FRi tkR GPb FPi.kp bPi mPi GLs FLs.kp bLs mLs GLt FLt.kp bLt mLt GLn FLn.kp bLn mLn FMe FMe.kp bMe mMe mA mN mO (xfB_ok xN) nf (exm_of xm) GUn FUn.kp bUn mUn GTo FTo.kp bTo mTo y_tuple y_repr
  exact ok_law (P := l.prog) (w := w) FLa tkL glo ⟨_, PySem.W.mg_of X G cLook⟩ ⟨GIi, FIi.kp, bIi, mIi⟩ ⟨GIn, FIn.kp, bIn, mIn⟩ ⟨GIt, FIt.kp, bIt, mIt⟩ ⟨GIs, FIs.kp, bIs, mIs⟩ ⟨GIm, FIm.kp, bIm, mIm⟩ ⟨GLi, FLi.kp, bLi, mLi⟩ ⟨GLn, FLn.kp, bLn, mLn⟩ ⟨GLt, FLt.kp, bLt, mLt⟩ ⟨GLs, FLs.kp, bLs, mLs⟩
    ⟨GLr, FLr.kp, bLr, mLr⟩ (show (if fLn = fLn then some (spJo K isNameD) else if fLn = fLp then some (spOk K tnD PairOk) else none) = some (spJo K isNameD) by rw [if_pos rfl])
    ⟨GDi, FDi.kp, bDi, mDi⟩ ⟨GDr, FDr.kp, bDr, mDr⟩ ⟨GTe, FTe.kp, bTe, mTe⟩ ⟨GNu, FNu.kp, bNu, mNu⟩ ⟨GOd, FOd.kp, bOd, mOd⟩ ⟨GNa, FNa.kp, bNa, mNa⟩ ⟨GRi, FRi.kp, bRi, mRi⟩ ⟨GPb, FPi.kp, bPi, mPi⟩ ⟨fn_cx GUn, FUn.kp, bUn, mUn⟩ ⟨fn_cx GTo, FTo.kp, bTo, mTo⟩ y_len y_max y_min y_range y_repr
theorem walk {l : PySem.W.OpenLaw} {q : Program} {loose : List Str} {XP : (Str → Option Value) → Heap → Prop} {YP : World → Heap → Prop} {d : DefRec} {K : Params → PySem.W.Frag} (hn : l.most = some 63) (hdf : d.params.defaults = [])
    (hY : ∀ (w : World) (h : Heap), YP w h → (K w.params).In h)
    (F : ∀ (w : World) (mg : Str → Option Value) (fa : Addr) (h : Heap), YP w h → (K w.params).In h → h.Ns mainGlobals mg → mg d.name = some (.ref fa) →
      ∃ (fd : FuncData) (cs : List (Addr × Addr)) (sp : Sp), (∀ p ∈ cs, h.get? p.2 = some tabO) ∧ (∀ p ∈ cs, (K w.params).lookup p.2 = none) ∧ (∀ p ∈ cs, PySem.W.CodeHd h p.1 p.2) ∧ (∀ (t : Shared) (u : Value), BindsTo t fd ⟨[u], []⟩ [("script", u)]) ∧
        (∀ (H : Hp) (a : Addr) (ns : List Int), ns.length ≤ 63 → SqL (K w.params) H a (ns.map V.int) → (∀ p ∈ cs, H p.2 = some (.tbl #[])) → sp [.ref a] H (fun v _ => v = .bl true) E0) ∧
        ∀ base : Heap, (K w.params).In base → (∀ p ∈ cs, TabB base mg p.1 p.2) → FnG l.prog w (K w.params) mg base 10 fa fd ["script"] sp) :
    PySem.W.WalkO q loose XP YP l.row.toRowW d [] (fun f vs => PySem.call f vs) :=
  walkGT (n := 63) (k := 10) (x := "script") hn (by decide) hdf ⟨rfl, by decide, by decide⟩ hY F
end K0

open PySem PySem.W PyProof.Rows in
set_option maxRecDepth 100000 in
set_option maxHeartbeats 0 in
theorem PySem.Challenge.cw_dawnway_k00_names_ticks_and_what_is_seen_holds : PySem.Challenge.rw_dawnway_k00_names_ticks_and_what_is_seen.Holds := by
  w_on; o_law; k_head; (case hw => w_witness2)
  k_fill
  refine K0.walk (l := PySem.Challenge.rw_dawnway_k00_names_ticks_and_what_is_seen) rfl rfl (fun w h Y => PySem.W.km_in_of Y) ?F
  case F =>
    intro w mg fa h Y KX G hmg
    have hT8 := PySem.W.km_tabs_of Y
    refine' K0.all_mk (pR := 243) (pL := 248) KX G hmg ?q7_aBt ?q7_lBt ?q7_dBt ?q7_kBt ?q7_aIi ?q7_lIi ?q7_dIi ?q7_kIi ?q7_aIn ?q7_lIn ?q7_dIn ?q7_kIn ?q7_aIt ?q7_lIt ?q7_dIt ?q7_kIt ?q7_aIa ?q7_lIa ?q7_dIa ?q7_kIa ?q7_aIm ?q7_lIm ?q7_dIm ?q7_kIm ?q7_aIp ?q7_lIp ?q7_dIp ?q7_kIp ?q7_aIs ?q7_lIs ?q7_dIs ?q7_kIs ?q7_aUn ?q7_lUn ?q7_dUn ?q7_kUn ?q7_aTo ?q7_lTo ?q7_dTo ?q7_kTo ?q7_aNs ?q7_lNs ?q7_dNs ?q7_kNs ?q7_aDi ?q7_lDi ?q7_dDi ?q7_kDi ?q7_aRo ?q7_lRo ?q7_dRo ?q7_kRo ?q7_aPi ?q7_lPi ?q7_dPi ?q7_kPi ?q7_aSh ?q7_lSh ?q7_dSh ?q7_kSh ?q7_aLi ?q7_lLi ?q7_dLi ?q7_kLi ?q7_aLn ?q7_lLn ?q7_dLn ?q7_kLn ?q7_aLt ?q7_lLt ?q7_dLt ?q7_kLt ?q7_aLr ?q7_lLr ?q7_dLr ?q7_kLr ?q7_aLp ?q7_lLp ?q7_dLp ?q7_kLp ?q7_aLs ?q7_lLs ?q7_dLs ?q7_kLs ?q7_aTe ?q7_lTe ?q7_dTe ?q7_kTe ?q7_aNu ?q7_lNu ?q7_dNu ?q7_kNu ?q7_aOd ?q7_lOd ?q7_dOd ?q7_kOd ?q7_aNa ?q7_lNa ?q7_dNa ?q7_kNa ?q7_aDr ?q7_lDr ?q7_dDr ?q7_kDr ?q7_aMe ?q7_lMe ?q7_dMe ?q7_kMe ?q7_aRi ?q7_lRi ?q7_dRi ?q7_kRi ?q7_aLa ?q7_lLa ?q7_dLa ?q7_kLa ?q7_aCo ?q7_lCo ?q7_dCo ?q7_kCo ?q7_gA ?q7_gN ?q7_gO ?q7_jN ?q7_lN ?q7_dN ?q7_kN ?q7_eA ?q7_eN ?q7_eO ?q7_pA ?q7_pO ?q7_oN ?q7_xN ?q7_xm ?q7_tR ?q7_tL ?q7_nR ?q7_nL ?q7_ne ?q7_vN ?q7_cFar ?q7_cTick ?q7_cLett ?q7_cLook ?q7_cDawn ?q7_cFst ?q7_cAll ?q7_z_isinstance ?q7_z_int ?q7_z_bool ?q7_z_str ?q7_z_len ?q7_z_all ?q7_z_range ?q7_z_tuple ?q7_z_list ?q7_z_dict ?q7_z_set ?q7_z_zip ?q7_z_abs ?q7_z_max ?q7_z_min ?q7_z_sorted ?q7_z_repr ?q7_z_RuntimeError ?q7_hR ?q7_hL
    (case q7_aBt => k_is)
    (case q7_lBt => k_is)
    (case q7_dBt => k_is)
    (case q7_kBt => k_is)
    (case q7_aIi => k_is)
    (case q7_lIi => k_is)
    (case q7_dIi => k_is)
    (case q7_kIi => k_is)
    (case q7_aIn => k_is)
    (case q7_lIn => k_is)
    (case q7_dIn => k_is)
    (case q7_kIn => k_is)
    (case q7_aIt => k_is)
    (case q7_lIt => k_is)
    (case q7_dIt => k_is)
    (case q7_kIt => k_is)
    (case q7_aIa => k_is)
    (case q7_lIa => k_is)
    (case q7_dIa => k_is)
    (case q7_kIa => k_is)
    (case q7_aIm => k_is)
    (case q7_lIm => k_is)
    (case q7_dIm => k_is)
    (case q7_kIm => k_is)
    (case q7_aIp => k_is)
    (case q7_lIp => k_is)
    (case q7_dIp => k_is)
    (case q7_kIp => k_is)
    (case q7_aIs => k_is)
    (case q7_lIs => k_is)
    (case q7_dIs => k_is)
    (case q7_kIs => k_is)
    (case q7_aUn => k_is)
    (case q7_lUn => k_is)
    (case q7_dUn => k_is)
    (case q7_kUn => k_is)
    (case q7_aTo => k_is)
    (case q7_lTo => k_is)
    (case q7_dTo => k_is)
    (case q7_kTo => k_is)
    (case q7_aNs => k_is)
    (case q7_lNs => k_is)
    (case q7_dNs => k_is)
    (case q7_kNs => k_is)
    (case q7_aDi => k_is)
    (case q7_lDi => k_is)
    (case q7_dDi => k_is)
    (case q7_kDi => k_is)
    (case q7_aRo => k_is)
    (case q7_lRo => k_is)
    (case q7_dRo => k_is)
    (case q7_kRo => k_is)
    (case q7_aPi => k_is)
    (case q7_lPi => k_is)
    (case q7_dPi => k_is)
    (case q7_kPi => k_is)
    (case q7_aSh => k_is)
    (case q7_lSh => k_is)
    (case q7_dSh => k_is)
    (case q7_kSh => k_is)
    (case q7_aLi => k_is)
    (case q7_lLi => k_is)
    (case q7_dLi => k_is)
    (case q7_kLi => k_is)
    (case q7_aLn => k_is)
    (case q7_lLn => k_is)
    (case q7_dLn => k_is)
    (case q7_kLn => k_is)
    (case q7_aLt => k_is)
    (case q7_lLt => k_is)
    (case q7_dLt => k_is)
    (case q7_kLt => k_is)
    (case q7_aLr => k_is)
    (case q7_lLr => k_is)
    (case q7_dLr => k_is)
    (case q7_kLr => k_is)
    (case q7_aLp => k_is)
    (case q7_lLp => k_is)
    (case q7_dLp => k_is)
    (case q7_kLp => k_is)
    (case q7_aLs => k_is)
    (case q7_lLs => k_is)
    (case q7_dLs => k_is)
    (case q7_kLs => k_is)
    (case q7_aTe => k_is)
    (case q7_lTe => k_is)
    (case q7_dTe => k_is)
    (case q7_kTe => k_is)
    (case q7_aNu => k_is)
    (case q7_lNu => k_is)
    (case q7_dNu => k_is)
    (case q7_kNu => k_is)
    (case q7_aOd => k_is)
    (case q7_lOd => k_is)
    (case q7_dOd => k_is)
    (case q7_kOd => k_is)
    (case q7_aNa => k_is)
    (case q7_lNa => k_is)
    (case q7_dNa => k_is)
    (case q7_kNa => k_is)
    (case q7_aDr => k_is)
    (case q7_lDr => k_is)
    (case q7_dDr => k_is)
    (case q7_kDr => k_is)
    (case q7_aMe => k_is)
    (case q7_lMe => k_is)
    (case q7_dMe => k_is)
    (case q7_kMe => k_is)
    (case q7_aRi => k_is)
    (case q7_lRi => k_is)
    (case q7_dRi => k_is)
    (case q7_kRi => k_is)
    (case q7_aLa => k_is)
    (case q7_lLa => k_is)
    (case q7_dLa => k_is)
    (case q7_kLa => k_is)
    (case q7_aCo => k_is)
    (case q7_lCo => k_is)
    (case q7_dCo => k_is)
    (case q7_kCo => k_is)
    (case q7_gA => k_is)
    (case q7_gN => k_is)
    (case q7_gO => k_is)
    (case q7_jN => k_is)
    (case q7_lN => k_is)
    (case q7_dN => k_is)
    (case q7_kN => k_is)
    (case q7_eA => first | kernel_rfl | k_is)
    (case q7_eN => first | kernel_rfl | k_is)
    (case q7_eO => first | kernel_rfl | k_is)
    (case q7_pA => first | kernel_rfl | k_is)
    (case q7_pO => first | kernel_rfl | k_is)
    (case q7_oN => first | kernel_rfl | k_is)
    (case q7_xN => first | kernel_rfl | k_is)
    (case q7_xm => first | kernel_rfl | k_is)
    (case q7_tR => first | kernel_rfl | k_is)
    (case q7_tL => first | kernel_rfl | k_is)
    (case q7_nR => first | kernel_rfl | k_is)
    (case q7_nL => first | kernel_rfl | k_is)
    (case q7_ne => first | kernel_rfl | k_is)
    (case q7_vN => k_is)
    (case q7_cFar => k_is)
    (case q7_cTick => k_is)
    (case q7_cLett => k_is)
    (case q7_cLook => k_is)
    (case q7_cDawn => k_is)
    (case q7_cFst => k_is)
    (case q7_cAll => k_is)
    (case q7_z_isinstance => k_is)
    (case q7_z_int => k_is)
    (case q7_z_bool => k_is)
    (case q7_z_str => k_is)
    (case q7_z_len => k_is)
    (case q7_z_all => k_is)
    (case q7_z_range => k_is)
    (case q7_z_tuple => k_is)
    (case q7_z_list => k_is)
    (case q7_z_dict => k_is)
    (case q7_z_set => k_is)
    (case q7_z_zip => k_is)
    (case q7_z_abs => k_is)
    (case q7_z_max => k_is)
    (case q7_z_min => k_is)
    (case q7_z_sorted => k_is)
    (case q7_z_repr => k_is)
    (case q7_z_RuntimeError => k_is)
    (case q7_hR => exact hT8 _ (by k_mem))
    (case q7_hL => exact hT8 _ (by k_mem))
