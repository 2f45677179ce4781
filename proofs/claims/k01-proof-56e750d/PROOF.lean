import PyProof.Rows.All
import Wide.All
import OpenK.AllK
import Wide.FinOn
import PyProof.EqAt
import PyProof.EqKinds
import PyProof.TupleCall
import PyProof.ReprRoads
import PyProof.Rows.RuleB_pow
import KE.KExcMore
import KE.KExcMake
import KE.KExcIs
import KE.KDictCopyH
import HandS.ForMost
import HandS.Exc
import HandS.ExcOwn
import HandS.ExcValue
import HandS.ExcInit
import HandS.IsInst
import HandS.DictComp
import HandS.FStr
import HandS.RaiseMore
import HandS.Style
import PyProof.Rows.FactsExc_KeyError
import HandS.Wide
import PySem.Challenge.RW_dawnway_k01_errors
import HandS.Small
set_option Elab.async false
set_option linter.all false
set_option maxRecDepth 100000
set_option maxHeartbeats 4000000
namespace DW
open PySem PySem.Spec PyProof.Rows L2

/-! ### promises of defs that may write out data: no repr is under way -/
structure FnG (P : Program) (w : World) (K : PySem.W.Frag) (mg : Str → Option Value) (base : Heap) (k : Nat) (f : Addr) (fd : FuncData) (ps : List Str) (sp : Sp) : Prop where
  len : ∀ vs H Q, sp vs H Q E0 → vs.length = ps.length
  run : ∀ (A : Around) (outer : List Env) (s : Shared) (H : Hp) (args : Args) (us : List Value) (vs : List V) (Q : VK),
    Room k A → A.guards = some [] → Env0 P w K mg base A outer s H → BindsTo s fd args (ps.zip us) → Vals vs us →
    sp vs H Q E0 → codeAny (model P w) A (.call (.ref f) args) (CR CX0 outer P w H s Q E0) s

section
variable {P : Program} {w : World} {K : PySem.W.Frag} {mg : Str → Option Value} {base : Heap}
theorem FnG.of {k : Nat} {f : Addr} {fd : FuncData} {ps : List Str} {sp : Sp} (F : FnOk P w K mg base CX0 k f fd ps sp) : FnG P w K mg base k f fd ps sp :=
  ⟨fun vs H Q h => F.len vs H Q E0 h, fun A outer s H args us vs Q hr _ e0 hb r h => F.run A outer s H args us vs Q E0 hr e0 hb r h⟩

theorem fng {x qual : Str} {st : Stmt} {f : Addr} {fd : FuncData} {N ps : List Str} {k : Nat} {sp : Sp} (F : Fun K x qual st f fd) (S : FnScope N ps (defScope st))
    (len : ∀ vs H Q, sp vs H Q E0 → vs.length = ps.length)
    (hbody : ∀ (cdv : Value) (A : Around) (outer : List Env) (s : Shared) (H : Hp) (vs : List V) (Q : VK),
      Room k (A.deeper (envOfC qual (defScope st) s.heap.objs.size f cdv)) → A.guards = some [] → sp vs H Q E0 →
      ∃ t, PSs (cxOf CX0 P w K mg base N qual (defScope st) f cdv A outer s H E0).nox (defBody st) t ∧
        t { nx := fun _ H' => Q .non H', rt := Q } (start N vs) H) : FnG P w K mg base (k + 1) f fd ps sp := by
  obtain ⟨oc, od, kV, doc, pm, an, cdv, ct, osl, rfl, lk, hcd⟩ := F.ex
  refine ⟨len, fun A outer s H args us vs Q hr hg env0 hb r hsp => ?_⟩
  have hlen := len _ _ _ hsp
  have inK : K.In s.heap := env0.mod.kin.keeps fun a o q => (env0.bs a o q).1
  have lim : s.heap.NoLimit := env0.mod.nolimit.keeps fun a o q => (env0.bs a o q).1
  have hk : ∀ y ∈ ps.zip us, (defScope st).names.lookup y.1 = some .local ∨
      ((defScope st).names.lookup y.1 = some .cell ∧ ((cellsFrom (s.heap.objs.size + 1) (defScope st).names []).lookup y.1).isSome = true) := by
    rintro ⟨n, v⟩ hy
    rcases S.par n (List.of_mem_zip hy).1 with q | q
    · exact Or.inl q
    · exact Or.inr ⟨q, PySem.W.cellsFrom_some _ _ _ (Or.inl q)⟩
  refine codeAny_call_function hr.depth (inK _ _ lk) rfl S.co S.gen rfl (PySem.W.codeRec_of inK hcd) (hb _ _ _ _ ?_)
  refine wpAny_newFunctionEnv_cells S.kind hk fun env he s1 x => ?_
  subst he
  refine ⟨lim.keeps x.toInCall.keep, codeAny_func ?_⟩
  obtain ⟨t, ht, hq⟩ := hbody cdv A outer s H vs Q (hr.deeper _) hg hsp
  have I0 : Inv (cxOf CX0 P w K mg base N qual (defScope st) f cdv A outer s H E0) [] (start N vs) H s1 := inv_start S hr.hd env0 hlen r x
  refine wpAny_mono (ht.nox.run [] s1 (start N vs) H _ I0 hq) (fun fl s' hs => ?_) fun e s' z => z
  cases fl with
  | brk =>
    obtain ⟨_, _, _, q⟩ := hs
    exact q.elim
  | cont =>
    obtain ⟨_, _, _, q⟩ := hs
    exact q.elim
  | next =>
    obtain ⟨σ', H', J, q⟩ := hs
    exact ⟨V.non, H', J.os, J.bare, J.base, J.hok, rfl, q⟩
  | ret u =>
    obtain ⟨v, σ', H', J, rv, q⟩ := hs
    exact ⟨v, H', J.os, J.bare, J.base, J.hok, rv, q⟩
end

section
variable {X : Cx} {k : Nat} {f C : Addr} {fd : FuncData} {ps : List Str} {sp : Sp} {x : Str} {p pos : Pos} {e : Expr} {es : List Expr} {t : TA}
theorem run_g {pins : List (Addr × Obj)} {σ : L2.St} {H : Hp} {s : Shared} {Q : VK} {us : List Value} {vs : List V} (F : FnG X.prog X.w X.K X.mg X.base k f fd ps sp)
    (hr : Room k X.A) (hg : X.A.guards = some []) (hb : Binds X.K fd ps []) (I : Inv X pins σ H s) (r : Vals vs us) (h : sp vs H Q E0) :
    wpAny (model X.prog X.w) X.A (call (.ref f) us) (EP X pins σ Q) X.xe s := by
  have hl : us.length = ps.length := r.length.symm.trans (F.len _ _ _ h)
  have b := hb s us I.kIn (by rw [List.append_nil]; exact hl)
  rw [List.append_nil] at b
  refine wpAny_call (codeAny_mono (F.run X.A X.stack s H ⟨us, []⟩ us vs Q hr hg I.env0 b r h) fun r s' hq => ?_)
  rcases r with er | fl
  · exact hq.elim
  · cases fl with
    | ret u => exact I.after hq
    | _ => exact False.elim hq
/-- a call of such a def -/
theorem pe_g (F : FnG X.prog X.w X.K X.mg X.base k f fd ps sp) (hr : Room k X.A) (hgu : X.A.guards = some []) (hg : Gl X x) (hm : X.mg x = some (.ref f))
    (hk : PySem.W.keepIn X.K (.ref f) = true) (hb : Binds X.K fd ps []) (ha : PA X (e :: es) t) (hdb : (x == ("__debug__" : Str)) = false := by decide)
    (he : starEach (e :: es) X.env = (false, eval e X.env) :: starEach es X.env := by rfl) (hpl : (backTo pos (starEach es X.env)).any (·.1) = false := by rfl) :
    PE X (.Call (.Name x p) (e :: es) [] pos) (tCall sp [] E0 t) := by
  refine ⟨fun pins s σ H Q I h => ?_⟩
  refine wpAny_Call_Name_kw (ld_glob I hg hm ?_ hdb)
  refine PySem.W.callWith_K (h₀ := X.base) I.ok.mod.kin hk (thn (ha.run pos pins s σ H _ I h) ?_) he hpl
  rintro us s1 ⟨vs, H1, I1, r, q⟩
  rw [List.append_nil] at q
  exact ⟨I1.kIn, run_g F hr hgu hb I1 r q⟩
end

/-! ### two new objects at once -/
section
variable {X : Cx} {pins : List (Addr × Obj)} {σ : L2.St} {H : Hp} {s : Shared}
theorem laid2 {h' : Heap} {a t : Addr} {o u : HO} {tk : Nat} (I : Inv X pins σ H s) (k : ∀ b v, s.heap.get? b = some v → h'.get? b = some v)
    (ha : s.heap.objs.size ≤ a) (ht : s.heap.objs.size ≤ t) (ne : t ≠ a) (n1 : ObjOk X.prog X.w (upd (upd H t u) a o) h' t u) (n2 : ObjOk X.prog X.w (upd (upd H t u) a o) h' a o) :
    Inv X pins σ (upd (upd H t u) a o) { s with heap := h', toks := tk } := by
  have na : H a = none := I.hok.fresh ha
  have nt : H t = none := I.hok.fresh ht
  have old : ∀ b v, H b = some v → upd (upd H t u) a o b = some v := fun b v q => by
    rw [upd_ne (ne_of_none q na), upd_ne (ne_of_none q nt)]; exact q
  have there : ∀ b v, s.heap.get? b = some v → b ≠ a ∧ b ≠ t := fun b v q =>
    ⟨Nat.ne_of_lt (Nat.lt_of_lt_of_le (Heap.lt_size q) ha), Nat.ne_of_lt (Nat.lt_of_lt_of_le (Heap.lt_size q) ht)⟩
  refine I.un ⟨fun b v q _ _ _ => k b v q, fun b v q _ _ _ => ⟨v.slots, k b v q⟩, fun b v q n _ => ?_, fun b v q _ => ⟨v, k b v q⟩,
    fun b xs q => old b _ q, fun b ob xs q => old b _ q, fun b qs q => ⟨#[], by rw [old b _ q]; simp⟩⟩ fun b v q => ?_
  · rw [upd_ne (there b v q).1, upd_ne (there b v q).2]; exact n
  · by_cases hb : b = a
    · subst hb; rw [upd_same] at q; cases q; exact n2
    · rw [upd_ne hb] at q
      by_cases hc : b = t
      · subst hc; rw [upd_same] at q; cases q; exact n1
      · rw [upd_ne hc] at q
        exact (I.hok b v q).stay (fun c z _ y => k c z y) (fun c y => old c _ y) fun c xs y => old c _ y
end

/-! ### exceptions that are held as values -/
abbrev exr (C : Addr) (d : Option Addr) (t : Addr) : Obj := { cls := .ref C, dict := d, data := .fields #[.ref t, .none, .none, .none, .bool false, .none] }
/-- at a: an exception of the class at C, its dict, its args at t -/
def exq (a C : Addr) (d : Option Addr) (t : Addr) : HO := .ext fun h => h.get? a = some (exr C d t)
theorem exq_ok {P : Program} {w : World} {H : Hp} {h : Heap} {a C t : Addr} {d : Option Addr} (e : h.get? a = some (exr C d t)) : ObjOk P w H h a (exq a C d t) :=
  ⟨e, ⟨_, e⟩, fun _ _ z q => q _ z⟩
theorem exq_at {P : Program} {w : World} {H : Hp} {h : Heap} {a C t : Addr} {d : Option Addr} (x : HOk P w H h) (e : H a = some (exq a C d t)) : h.get? a = some (exr C d t) := by
  have z : ObjOk P w H h a (.ext fun h => h.get? a = some (exr C d t)) := x a _ e
  exact z.1
theorem exq_tup {a C t : Addr} {d : Option Addr} {xs : List V} : exq a C d t ≠ .tup xs := fun z => by
  have y : HO.ext _ = HO.tup xs := z
  cases y
theorem exq_own {a C t b : Addr} {d : Option Addr} : exq a C d t ≠ .own b := fun z => by
  have y : HO.ext _ = HO.own b := z
  cases y
theorem exq_frz {a C t : Addr} {d : Option Addr} {o : Obj} {u : HO} : exq a C d t ≠ .frz o u := fun z => by
  have y : HO.ext _ = HO.frz o u := z
  cases y
theorem exq_tbl {a C t : Addr} {d : Option Addr} {qs : Array Value} : exq a C d t ≠ .tbl qs := fun z => by
  have y : HO.ext _ = HO.tbl qs := z
  cases y
/-- what the written part says of an exception class that is made, read and asked -/
structure ExK (K : PySem.W.Frag) (C : Addr) : Prop where
  kC : PySem.W.keepIn K (.ref C) = true
  cl : (PySem.W.clsIn K C).isSome = true
  hd : PySem.W.hasDictIn K C = true
  ga : PySem.W.findIn K (.ref C) "__getattribute__" = some (some (.builtin "BaseException.__getattribute__"))
  gg : PySem.W.findIn K (.ref C) "__getattr__" = some none
  sa : PySem.W.findIn K (.ref C) "__setattr__" = some (some (.builtin "object.__setattr__"))
  st : PySem.W.findIn K (.ref C) "__str__" = some (some (.builtin "BaseException.__str__")) ∨ PySem.W.findIn K (.ref C) "__str__" = some (some (.builtin "KeyError.__str__"))
  ex : PySem.W.subIn K (.ref C) (.type "BaseException") = some true
  cc : PySem.W.findIn K (.ref C) "__class__" = some (some (.builtin "object.__class__"))
  cg : PySem.W.specialIn K (.builtin "object.__class__") "__get__" = some (some (.builtin "getset_descriptor.__get__"))
  ct : PySem.W.takesIn K (.builtin "object.__class__") = some true
  ob : PySem.W.mroIn K C (.type "object") = some true
section
variable {X : Cx} {C fI : Addr} {bmB : List Value} {B newId initId : String} {x : Str} {e : Expr} {te : TE} {p pos : Pos}
/-- X(e), no __init__ of its own -/
def tExP (C : Addr) (te : TE) : TE := fun σ H Q => te σ H fun v H1 => ∀ a t, H1 a = none → H1 t = none → t ≠ a → Q (.ref a) (upd (upd H1 t (.tup [v])) a (exq a C none t))
theorem pe_exP (FB : ExcBaseFacts B newId initId bmB) (q : PySem.W.excInitIn X.K C bmB newId = true) (hi : PySem.W.findIn X.K (.ref C) "__init__" = some (some (.builtin initId)))
    (kC : PySem.W.keepIn X.K (.ref C) = true) (gC : X.mg x = some (.ref C)) (hg : Gl X x) (he : PE X e te)
    (hs : starEach [e] X.env = (false, eval e X.env) :: starEach [] X.env := by rfl) (hdb : (x == ("__debug__" : Str)) = false := by decide) :
    PE X (.Call (.Name x p) [e] [] pos) (tExP C te) := by
  refine ⟨fun pins s σ H Q I h => ?_⟩
  refine wpAny_Call_Name_kw (ld_glob I hg gC ?_ hdb)
  refine PySem.W.callWith_K (h₀ := X.base) I.ok.mod.kin kC ?_ hs (by rfl)
  rw [hs]
  show wpAny _ _ (spliced ((false, eval e X.env) :: backTo pos (starEach [] X.env))) _ _ s
  refine Calls.spliced_cons (thn (he.run pins s σ H _ I h) ?_)
  rintro u s1 ⟨v, H1, I1, r1, q1⟩
  refine Calls.spliced_nil ⟨I1.kIn, ?_⟩
  show wpAny _ _ (call (.ref C) [u]) _ _ _
  obtain ⟨nm, N, qn, bs, bm, hdct, sn, sub, ab, col, dd, k0, k1, k2, k3, k5, hC, hT⟩ := PySem.W.excInit_of I1.kIn q
  have hi' : PySem.W.Looks (model X.prog X.w) s1.heap (typeLookup (.ref C) "__init__") (some (.builtin initId)) := PySem.W.looks_findIn I1.kIn hi
  obtain ⟨hp, g, d, tk, os⟩ := s1
  refine PySem.W.call_B FB hT hC hi' (by show 1 ≤ sizeLine; rw [sizeLine_eq]; omega) fun h' k ea et => ?_
  have n1 : H1 (hp.objs.size + 1) = none := I1.hok.fresh (Nat.le_succ _)
  have n2 : H1 (hp.objs.size + 2) = none := I1.hok.fresh (Nat.le_add_right _ 2)
  have ne : hp.objs.size + 2 ≠ hp.objs.size + 1 := Nat.ne_of_gt (Nat.lt_succ_self _)
  refine ⟨.ref (hp.objs.size + 1), _, laid2 (tk := tk) I1 k (Nat.le_succ _) (Nat.le_add_right _ 2) ne ?_ (exq_ok ea), rfl, q1 _ _ n1 n2 ne⟩
  exact ⟨by show 1 ≤ sizeLine; rw [sizeLine_eq]; omega, [u], .cons r1 .nil, ⟨_, et, rfl, _, rfl⟩⟩
end
end DW

namespace DW
open PySem PySem.Spec PyProof.Rows L2

/-! ### data, a flat dict too -/
def keyD : Key → PyData
  | .inl i => .int i
  | .inr x => .str x
inductive Dd (K : PySem.W.Frag) (H : Hp) : V → PyData → Prop where
  | base {v : V} {d : PyData} (h : Dp K H v d) (n : d.hasDict = false) : Dd K H v d
  | dct {a : Addr} {kvs : List (Key × Int)} (h : H a = some (.dK (kvs.map fun p => (p.1, V.int p.2)))) :
      Dd K H (.ref a) (.dict (kvs.map fun p => (keyD p.1, PyData.int p.2)))
section
variable {X : Cx} {pins : List (Addr × Obj)} {σ : L2.St} {H : Hp} {s : Shared}
theorem key_reads {h : Heap} {k : Key} {u : Value} (e : keyIs k u = true) : Reads h u (keyD k) [] := by
  rcases keyIs_shape e with ⟨i, t, rfl, rfl⟩ | ⟨x, t, rfl, rfl⟩
  · exact .int i t
  · exact .str x t
theorem pairs_reads {h : Heap} {P : Program} {w : World} : ∀ {kvs : List (Key × Int)} {es : List DictEntry} {vs : List (Key × Value)},
    KV (kvs.map fun p => (p.1, V.int p.2)) vs → Pairs (mixKind P w) es vs →
    ReadsAll h (es.map (·.key)) ((kvs.map fun p => (keyD p.1, PyData.int p.2)).map (·.1)) [] ∧
    ReadsAll h (es.map (·.val)) ((kvs.map fun p => (keyD p.1, PyData.int p.2)).map (·.2)) []
  | [], _, _, r, q => by
    cases r
    cases q
    exact ⟨.nil, .nil⟩
  | p :: l, _, _, r, q => by
    cases r with
    | cons r1 r2 =>
      cases q with
      | cons q1 q2 q3 =>
        obtain ⟨z1, z2⟩ := pairs_reads (h := h) r2 q3
        obtain ⟨e1, e2⟩ := r1
        refine ⟨?_, ?_⟩
        · have y := key_reads (h := h) (by rw [← e1] at q1; exact q1)
          exact ReadsAll.cons (as := []) y z1
        · obtain ⟨t, e2⟩ := e2
          refine ReadsAll.cons (as := []) ?_ z2
          dsimp only
          rw [q2, e2]
          exact Reads.int p.2 t
theorem Dd.reads {v : V} {u : Value} {d : PyData} (I : Inv X pins σ H s) (h : Dd X.K H v d) (r : RelV v u) :
    ∃ as, Reads s.heap u d as ∧ (d.hasDict = true → sysModules ∉ as) := by
  cases h with
  | base h n =>
    obtain ⟨as, q⟩ := Dp.reads I d v u h r
    exact ⟨as, q, fun z => by rw [n] at z; cases z⟩
  | @dct a kvs h =>
    cases r
    obtain ⟨_, hs, vs, rel, o, es, ep, ho, hx, hd, _, hp, _⟩ := (show ObjOk X.prog X.w H s.heap a (.dK _) from I.hok a _ h)
    obtain ⟨z1, z2⟩ := pairs_reads (h := s.heap) rel hp
    refine ⟨_, Reads.dict ho hx.1 hd z1 z2, fun _ hm => ?_⟩
    have e : sysModules = a := by simpa using hm
    rw [e] at hs
    simp at hs
/-- repr(x) of data -/
def rRepr (K : PySem.W.Frag) : List V → Hp → VK → Prop := fun xs H Q => ∃ v d, xs = [v] ∧ Dd K H v d ∧ d.showable = true ∧ d.shown.length ≤ sizeLine ∧ d.depth ≤ 60 ∧ Q (.str d.shown) H
theorem call_repr (hg : X.A.guards = some []) (hu : X.A.units + 64 < cLine) : CallR X (.builtin "repr") (rRepr X.K) := by
  intro pins s σ H xs us Q I r h
  obtain ⟨v, d, rfl, hd, hs, hz, hp, q⟩ := h
  obtain ⟨u, rfl, r1⟩ := vals1 r
  obtain ⟨as, hr, hm⟩ := hd.reads I r1
  cases hr with
  | none => exact PySem.P.repr_of_none ⟨.str _, H, I.tok _, ⟨_, rfl⟩, q⟩
  | bool b => exact PySem.P.repr_of_bool ⟨.str _, H, I.tok _, ⟨_, rfl⟩, q⟩
  | int i t => exact PySem.P.repr_of_int (by simpa [PyData.showable] using hs) ⟨.str _, H, I.tok _, ⟨_, rfl⟩, q⟩
  | str x t => exact PySem.P.repr_of_str ⟨.str _, H, I.tok _, ⟨_, rfl⟩, q⟩ hz
  | list h1 h2 h3 h4 => exact repr_of_reads' (Reads.list h1 h2 h3 h4) hs hm hg (by omega) (fun _ _ z => z) (fun h' t tk k => ⟨.str _, H, I.kept (t' := tk) k, ⟨_, rfl⟩, q⟩) hz
  | tuple h1 h2 h3 h4 => exact repr_of_reads' (Reads.tuple h1 h2 h3 h4) hs hm hg (by omega) (fun _ _ z => z) (fun h' t tk k => ⟨.str _, H, I.kept (t' := tk) k, ⟨_, rfl⟩, q⟩) hz
  | dict h1 h2 h3 h4 h5 => exact repr_of_reads' (Reads.dict h1 h2 h3 h4 h5) hs hm hg (by omega) (fun _ _ z => z) (fun h' t tk k => ⟨.str _, H, I.kept (t' := tk) k, ⟨_, rfl⟩, q⟩) hz
/-- {x!r} of data -/
def tFmtD (K : PySem.W.Frag) (te : TE) : TE := fun σ H Q => te σ H fun v H1 => ∃ d, Dd K H1 v d ∧ d.showable = true ∧ d.shown.length ≤ sizeLine ∧ d.depth ≤ 60 ∧ Q (.str d.shown) H1
theorem pe_fmtD {e : Expr} {te : TE} {pos : Pos} (hg : X.A.guards = some []) (hu : X.A.units + 64 < cLine) (he : PE X e te) : PE X (.FormattedValue e 114 none pos) (tFmtD X.K te) := by
  refine ⟨fun pins s σ H Q I h => ?_⟩
  refine wpAny_FormattedValue_repr (thn (he.run pins s σ H _ I h) ?_)
  rintro u s1 ⟨v, H1, I1, r1, d, hd, hs, hz, hp, q⟩
  obtain ⟨as, hr, hm⟩ := hd.reads I1 r1
  have fin : ∀ (h' : Heap) (t tk : Nat), (∀ b o, s1.heap.get? b = some o → h'.get? b = some o) →
      wpAny (model X.prog X.w) X.A (formatField (.str d.shown t) Str.empty) (EP X pins σ Q) X.xe { s1 with heap := h', toks := tk } := fun h' t tk k =>
    wpAny_formatField_str ⟨.str d.shown, H1, (I1.kept (t' := tk) k).tok _, ⟨_, rfl⟩, q⟩ ⟨.str d.shown, H1, (I1.kept (t' := tk) k).tok _, ⟨_, rfl⟩, q⟩ hz
  cases hr with
  | none => exact pyReprObj_none (fin _ _ _ fun _ _ z => z)
  | bool b => exact pyReprObj_bool (fin _ _ _ fun _ _ z => z)
  | int i t => exact pyReprObj_int (by simpa [PyData.showable] using hs) (fin _ _ _ fun _ _ z => z)
  | str x t => exact pyReprObj_str (fin _ _ _ fun _ _ z => z) hz
  | list h1 h2 h3 h4 => exact pyReprObj_of_reads (Reads.list h1 h2 h3 h4) hs hm hg (by omega) (fun _ _ z => z) (fun h' t tk k => fin h' t tk k) hz
  | tuple h1 h2 h3 h4 => exact pyReprObj_of_reads (Reads.tuple h1 h2 h3 h4) hs hm hg (by omega) (fun _ _ z => z) (fun h' t tk k => fin h' t tk k) hz
  | dict h1 h2 h3 h4 h5 => exact pyReprObj_of_reads (Reads.dict h1 h2 h3 h4 h5) hs hm hg (by omega) (fun _ _ z => z) (fun h' t tk k => fin h' t tk k) hz
end

/-! ### isinstance, str, a field of an exception that is held -/
section
variable {X : Cx}
def rIsX (K : PySem.W.Frag) : List V → Hp → VK → Prop := fun xs H Q => ∃ (a C : Addr) (d : Option Addr) (t : Addr) (c : V) (u : Value) (b : Bool), xs = [.ref a, c] ∧ ClsV c u ∧ H a = some (exq a C d t) ∧
  (∀ x, d = some x → ∃ fs, H x = some (exd x fs)) ∧ ExK K C ∧ PySem.W.kitOne K (.ref C) u = some b ∧ Q (.bl b) H
theorem exq_inst {pins : List (Addr × Obj)} {σ : L2.St} {H : Hp} {s : Shared} {a C t : Addr} {d : Option Addr} (I : Inv X pins σ H s) (e : H a = some (exq a C d t))
    (hd : ∀ x, d = some x → ∃ fs, H x = some (exd x fs)) : ∃ od, PySem.W.InstAt s.heap a (exr C d t) C od := by
  have z := exq_at I.hok e
  cases d with
  | none => exact ⟨none, z, rfl, rfl, trivial⟩
  | some x =>
    obtain ⟨fs, ex⟩ := hd x rfl
    obtain ⟨mA, ⟨o, es, ep, ho, _⟩, _⟩ := exd_at I.hok ex
    exact ⟨some o, z, rfl, rfl, ho⟩
theorem call_isX : CallR X (.builtin "isinstance") (rIsX X.K) := by
  intro pins s σ H xs us Q I r h
  obtain ⟨a, C, d, t, c, u, b, rfl, hc, ha, hd, T, hk, q⟩ := h
  obtain ⟨u1, u2, rfl, r1, r2⟩ := vals2 r
  cases (show u1 = Value.ref a from r1)
  have e2 := hc.eq r2
  subst e2
  obtain ⟨od, J⟩ := exq_inst I ha hd
  exact PySem.W.kia_one (PySem.W.kitx_exc T.cl T.ga T.gg T.ex T.cc T.cg T.ct T.ob) I.kIn J hk (fun z => nomatch z) fun tk => ⟨.bl b, H, I.tok tk, rfl, q⟩
/-- str(e) -/
def rStrX (K : PySem.W.Frag) : List V → Hp → VK → Prop := fun xs H Q => ∃ (a C : Addr) (d : Option Addr) (t : Addr) (m : Str), xs = [.ref a] ∧ H a = some (exq a C d t) ∧ H t = some (.tup [.str m]) ∧
  ExK K C ∧ PySem.W.findIn K (.ref C) "__str__" = some (some (.builtin "BaseException.__str__")) ∧ Q (.str m) H
theorem call_strX (hu : X.A.units + 64 < cLine) : CallR X (.type "str") (rStrX X.K) := by
  intro pins s σ H xs us Q I r h
  obtain ⟨a, C, d, t, m, rfl, ha, ht, T, hs, q⟩ := h
  obtain ⟨u1, rfl, r1⟩ := vals1 r
  cases (show u1 = Value.ref a from r1)
  have z := exq_at I.hok ha
  obtain ⟨_, its, rv, o, ho, hc, n, hdt⟩ := (show ObjOk X.prog X.w H s.heap t (.tup [.str m]) from I.hok t _ ht)
  cases rv with
  | cons r2 r3 =>
    cases r3
    obtain ⟨tk, rfl⟩ := r2
    exact PySem.P.str_of_C_one (C := C) (by omega) ⟨I.kIn, _, _, z, rfl, rfl, rfl⟩ ⟨o, n, ho, hc, hdt⟩ hs T.ex ⟨.str m, H, I, ⟨_, rfl⟩, q⟩
/-- e.f -/
def tXfld (K : PySem.W.Frag) (f : Str) (te : TE) : TE := fun σ H Q => te σ H fun x H1 => ∃ (a C dx t : Addr) (fs : List (Str × V)) (v : V), x = .ref a ∧ H1 a = some (exq a C (some dx) t) ∧ H1 dx = some (exd dx fs) ∧
  ExK K C ∧ PySem.W.findIn K (.ref C) f = some none ∧ fs.lookup f = some v ∧ Q v H1
theorem pe_xfld {e : Expr} {te : TE} {pos : Pos} {f : Str} (he : PE X e te) (hb : attributeBase e f X.env (eval e X.env) = eval e X.env := by rfl) : PE X (.Attribute e f pos) (tXfld X.K f te) := by
  refine ⟨fun pins s σ H Q I h => ?_⟩
  refine attr_of hb (thn (he.run pins s σ H _ I h) ?_)
  rintro u s1 ⟨x, H1, I1, rx, a, C, dx, t, fs, v, rfl, ha, hx, T, hno, l, q⟩
  cases (show u = Value.ref a from rx)
  have z := exq_at I1.hok ha
  obtain ⟨mA, hns, hr⟩ := exd_at I1.hok hx
  obtain ⟨od, ho, hl⟩ := lookIn_ns hns
  obtain ⟨u, hu, ru⟩ := RelO.some_of (v := v) (o := mA f) (by rw [← l]; exact hr f)
  have J : PySem.W.InstAt s1.heap a (exr C (some dx) t) C (some od) := ⟨z, rfl, rfl, ho⟩
  exact PySem.PX.exc_get I1.kIn J T.ga T.gg T.ex (PySem.W.findObj_own T.hd hno rfl (by rw [hl, hu])) (handed_of ru) ⟨v, H1, I1.tok _, ru, q⟩
end

/-! ### self.f = e on an exception that has no dict yet -/
section
variable {X : Cx} {o e : Expr} {to te : TE} {f : Str} {p' pos : Pos}
def tXst (K : PySem.W.Frag) (bmB : List Value) (f : Str) (to te : TE) : TS := fun D σ H => te σ H fun y H1 => to σ H1 fun x H2 => ∃ a C t : Addr, x = .ref a ∧ ExK K C ∧ PySem.W.excOver K C bmB = true ∧ PySem.W.takerIn K C f = some none ∧
  H2 a = some (exq a C none t) ∧ ∀ dx, H2 dx = none → dx ≠ a → D.nx σ (upd (upd H2 dx (exd dx [(f, y)])) a (exq a C (some dx) t))
theorem ps_xst {B : String} {bmB : List Value} (SF : StoreFacts B bmB "object.__setattr__" "object") (ho : PE X o to) (he : PE X e te)
    (hs : swapsWith e (some (.Attribute o f p')) pos.line X.env = pure false := by rfl) : PS X (.Assign [.Attribute o f p'] e pos) (tXst X.K bmB f to te) := by
  refine ⟨fun pins s σ H D I h => ?_⟩
  refine plainObj_wpAny_Assign_Attribute (thn (he.run pins s σ H _ I h) fun u s1 h1 => ?_) hs
  obtain ⟨y, H1, I1, r1, q1⟩ := h1
  refine thn (ho.run pins s1 σ H1 _ I1 q1) fun v s2 h2 => ?_
  obtain ⟨x, H2, I2, r2, a, C, t, rfl, T, hov, htk, ea, q⟩ := h2
  cases (show v = Value.ref a from r2)
  have z := exq_at I2.hok ea
  obtain ⟨cd, hcd, hh⟩ := PySem.W.any_some T.hd
  have Lc : PySem.W.Looks (model X.prog X.w) s2.heap (classData C) cd := PySem.W.looks_clsIn I2.kIn hcd
  have hn : H2 s2.heap.objs.size = none := I2.hok.fresh (Nat.le_refl _)
  have hlt : a < s2.heap.objs.size := Heap.lt_size z
  have hne : s2.heap.objs.size ≠ a := Nat.ne_of_gt hlt
  have q := q _ hn hne
  obtain ⟨hp, g, d, tk, os⟩ := s2
  dsimp only at z hn hlt hne q Lc
  refine PySem.W.set_plain (od := none) I2.kIn ⟨z, rfl, rfl, trivial⟩ T.sa ?_
  refine PySem.W.osa_openX (s := ⟨hp, g, d, tk + 1, os⟩) (od := none) (r := none) SF I2.kIn ⟨z, rfl, rfl, trivial⟩ hov htk fun b => ?_
  refine wpAny_bind (wpAny_pure (wpAny_bind (PySem.W.instanceDict_exc (s := ⟨hp, g, d, tk + 1, os⟩) z Lc hh ?_)))
  show wpAny _ _ (Builtin.ObjectAttr.storeInDict hp.objs.size (.str f tk) f u) _ _ _
  have hget : ((hp.push (PySem.W.dictOf [] 0)).update a fun o => { o with dict := some hp.objs.size }).get? hp.objs.size = some (PySem.W.dictOf [] 0) := by
    rw [Heap.get?_update_other _ _ (Ne.symm hne)]
    exact Heap.get?_push_size hp rfl
  have hga : ((hp.push (PySem.W.dictOf [] 0)).update a fun o => { o with dict := some hp.objs.size }).get? a = some (exr C (some hp.objs.size) t) :=
    Heap.get?_update_self _ (Heap.get?_push_of_some _ z) rfl
  refine PySem.PX.store_in_new ⟨_, #[], 0, hget, rfl, fun e he => absurd he (by simp), fun _ => rfl⟩ fun h' tk' hns sb => ?_
  have keep : ∀ c v, c ≠ a → hp.get? c = some v → h'.get? c = some v := fun c v hc y => by
    have hcs : c ≠ hp.objs.size := Nat.ne_of_lt (Heap.lt_size y)
    rw [sb.2 c hcs, Heap.get?_update_other _ _ (Ne.symm hc)]
    exact Heap.get?_push_of_some _ y
  have ga' : h'.get? a = some (exr C (some hp.objs.size) t) := (sb.2 a (Ne.symm hne)).trans hga
  have na : ∀ {c : Addr}, H2 c = none → c ≠ a := fun {c} n y => by rw [y, ea] at n; cases n
  have nd : ∀ {c : Addr} {v : Obj}, hp.get? c = some v → c ≠ hp.objs.size := fun y => Nat.ne_of_lt (Heap.lt_size y)
  show SP X pins D .next ⟨h', g, d, tk', os⟩
  refine ⟨σ, _, I2.un (t' := tk') ⟨fun c v y n _ _ => keep c v (na n) y, fun c v y n _ _ => ⟨v.slots, keep c v (na n) y⟩, fun c v y n _ => ?_, fun c v y _ => ?_,
    fun c xs y => ?_, fun c ob xs y => ?_, fun c qs y => ⟨#[], ?_⟩⟩ fun c v y => ?_, q⟩
  · rw [upd_ne (na n), upd_ne (nd y)]; exact n
  · by_cases hc : c = a
    · exact ⟨_, by rw [hc]; exact ga'⟩
    · exact ⟨v, keep c v hc y⟩
  · rw [upd_ne (at_ne ea y exq_tup), upd_ne (ne_of_none y hn)]; exact y
  · rw [upd_ne (at_ne ea y exq_frz), upd_ne (ne_of_none y hn)]; exact y
  · rw [upd_ne (at_ne ea y exq_tbl), upd_ne (ne_of_none y hn), y]; simp
  · by_cases hc : c = a
    · subst hc; rw [upd_same] at y; cases y; exact exq_ok ga'
    · rw [upd_ne hc] at y
      by_cases hd : c = hp.objs.size
      · subst hd; rw [upd_same] at y; cases y
        exact exd_ok hns (relO_put (fs := []) r1 fun g => True.intro)
      · rw [upd_ne hd] at y
        refine (I2.hok c v y).stay (fun b v' hb y' => keep b v' ?_ y') (fun b y' => ?_) fun b xs y' => ?_
        · rcases hb with hb | hb
          · rw [hb]; exact hc
          · exact at_ne ea hb exq_own
        · rw [upd_ne (at_ne ea y' exq_own), upd_ne (ne_of_none y' hn)]; exact y'
        · rw [upd_ne (at_ne ea y' exq_tup), upd_ne (ne_of_none y' hn)]; exact y'
end
end DW

namespace DW
open PySem PySem.Spec PyProof.Rows L2

/-! ### X(e), X with an __init__ of its own, over any built-in base -/
/-- the class object at C: its __new__ is that of Bn, its built-in base B -/
def exnB (K : PySem.W.Frag) (C : Addr) (newId : String) (Bn B : String) : Bool := match K.lookup C with
  | some ⟨.type "type", _, .cls cd, sl⟩ => (match cd.mro, sl.toList with
    | .ref C' :: bm, [_, _, _, _, some (.builtin n), _] => C' == C && (n == newId && (!cd.hasDel && (bm.contains (.type Bn) && (bm.contains (.type B) &&
        (!bm.contains (.type "AttributeError") && !bm.contains (.type "NameError"))))))
    | _, _ => false)
  | _ => false
structure Bm (bm : List Value) (Bn B : String) : Prop where
  n : bm.contains (.type Bn) = true
  b : bm.contains (.type B) = true
  a : bm.contains (.type "AttributeError") = false
  m : bm.contains (.type "NameError") = false
theorem exn_of {K : PySem.W.Frag} {h : Heap} {C : Addr} {newId Bn B : String} (X : K.In h) (q : exnB K C newId Bn B = true) :
    ∃ nm N qn bs bm hdct sn sub ab col dd k0 k1 k2 k3 k5, h.get? C = some (excClassObj nm qn C N bs bm hdct sn sub ab col dd k0 k1 k2 k3 k5 newId) ∧ Bm bm Bn B := by
  unfold exnB at q
  split at q
  · rename_i dd cd sl ho
    split at q
    · rename_i C' bm k0 k1 k2 k3 n k5 hm hs
      simp only [Bool.and_eq_true, beq_iff_eq, Bool.not_eq_true'] at q
      obtain ⟨rfl, rfl, hdel, x1, x2, x3, x4⟩ := q
      obtain ⟨nm, bs, mro, ns, qn, hd, sn, sub, ab, col, del⟩ := cd
      dsimp only at hm hdel
      subst hm hdel
      obtain rfl : sl = #[k0, k1, k2, k3, some (.builtin n), k5] := by
        obtain ⟨l⟩ := sl
        simp only at hs
        rw [hs]
      exact ⟨nm, ns, qn, bs, bm, hd, sn, sub, ab, col, dd, k0, k1, k2, k3, k5, X _ _ ho, x1, x2, x3, x4⟩
    · cases q
  · cases q
/-- what is known of a built-in's __init__ -/
structure IniF (B initId : String) : Prop where
  pl : plainId initId = true
  en : entryFor table initId = some Builtin.«BaseException.__init__»
  sp : splitId initId = some (B, "__init__")
  kd : builtinKind initId = some .slot
  rw' : Manifest.signature? initId = some ⟨.positional, "*", B, .self, [⟨"args", .varPos, false⟩]⟩
  ns : (B != "*") = true
theorem IniF.of {B newId initId : String} {bm : List Value} (F : ExcBaseFacts B newId initId bm) : IniF B initId := ⟨F.init.plain, F.initEntry, F.initSplit, F.initKind, F.initRow, F.noStar⟩
theorem ini_key : IniF "KeyError" "KeyError.__init__" :=
  ⟨PyProof.Rows.excClass_KeyError.init.plain, PyProof.Rows.excClass_KeyError.initEntry, PyProof.Rows.excClass_KeyError.initSplit, PyProof.Rows.excClass_KeyError.initKind, PyProof.Rows.excClass_KeyError.initSig, PyProof.Rows.excClass_KeyError.notStar⟩

section
variable {prog : Program} {w : World} {M : Model} {A : Around} {E : Value → Shared → Prop} {R : Result → Shared → Prop} {h : Heap} {g : Array GenState} {d : Drawn} {t : Nat} {os : OsState}
variable {nm q : Str} {C N : Addr} {bs bm bmN : List Value} {hdct : Bool} {sn : List Str} {sub : List Value} {ab : Bool} {col : Option Bool} {dd : Option Addr} {k0 k1 k2 k3 k5 : Option Value} {Bn B newId inN initId : String}
variable {rest : List Value} {fI : Addr}
theorem newU_check (F : ExcBaseFacts Bn newId inN bmN) (b : Bm bm Bn B) (hC : h.get? C = some (excClassObj nm q C N bs bm hdct sn sub ab col dd k0 k1 k2 k3 k5 newId))
    {Q : Unit → Shared → Prop} (k : Q () ⟨h, g, d, t, os⟩) : wpAny M A (checkBuiltinCall newId ⟨.ref C :: rest, []⟩) Q E ⟨h, g, d, t, os⟩ := by
  have c1 : (Value.ref C :: bm).contains (.type Bn) = true := by
    rw [List.contains_cons, b.n]
    exact Bool.or_true _
  have s1 := F.noStar
  simp only [checkBuiltinCall, F.newKind, F.newSplit, F.newRow]
  repeat (first
    | refine wpAny_loadPart_at hC ?_
    | (refine wpAny_isSubtype_exc hC ?_; rw [c1])
    | refine wpAny_staticBase_exc hC ?_
    | refine wpAny_madeBy_exc hC ?_
    | simp only [bne_self_eq_false, Bool.false_eq_true, if_false]
    | wp_step)
  exact k
theorem newU (F : ExcBaseFacts Bn newId inN bmN) (b : Bm bm Bn B) (hC : h.get? C = some (excClassObj nm q C N bs bm hdct sn sub ab col dd k0 k1 k2 k3 k5 newId)) (hz : rest.length ≤ sizeLine)
    (k : R (.ok (.ret (.ref (h.objs.size + 1)))) ⟨(h.push (PySem.W.excTup rest)).push (exr C none h.objs.size), g, d, t, os⟩) : codeAny (model prog w) A (.builtin newId ⟨.ref C :: rest, []⟩) R ⟨h, g, d, t, os⟩ := by
  have e1 := F.ends
  have c1 : (Value.ref C :: bm).contains (.type Bn) = true := by
    rw [List.contains_cons, b.n]
    exact Bool.or_true _
  have c2 : (Value.ref C :: bm).contains (.type "AttributeError") = false := by
    rw [List.contains_cons, b.a]
    rfl
  have c3 : (Value.ref C :: bm).contains (.type "NameError") = false := by
    rw [List.contains_cons, b.m]
    rfl
  refine codeAny_builtinAt F.entry ?_
  unfold Builtin.«BaseException.__new__»
  refine PySem.wpAt_bind ?_
  show PySem.wpAt _ _ _ (stack >>= _) _ _ _
  refine PySem.wpAt_bind (PySem.wpAt_stack fun p below => PySem.wpAt_of_wpAny ?_)
  wp_walk
  refine PySem.wpAt_of_wpAny ?_
  rw [F.owner]
  repeat (first
    | with_reducible refine wpAny_madeHere_exc F.canon hC ?_
    | with_reducible refine wpAny_loadPart_at hC ?_
    | (with_reducible refine wpAny_isSubtype_exc hC ?_; first | rw [c1] | rw [c2] | rw [c3])
    | wp_step)
  show R _ _
  rw [Heap.size_push]
  exact k
theorem typeU (F : ExcBaseFacts Bn newId inN bmN) (b : Bm bm Bn B) (hC : h.get? C = some (excClassObj nm q C N bs bm hdct sn sub ab col dd k0 k1 k2 k3 k5 newId)) (hz : rest.length ≤ sizeLine)
    (hi : PySem.W.Looks (model prog w) h (typeLookup (.ref C) "__init__") (some (.ref fI))) (hb : ∀ self, PySem.W.Looks (model prog w) h (bindSpecial (.ref fI) self) (.ref fI, [self])) {Q : Fin → Shared → Prop}
    (k : codeAny (model prog w) A (.call (.ref fI) ⟨.ref (h.objs.size + 1) :: rest, []⟩)
      (fun r s' => match r with | .ok (.ret v) => v = .none ∧ Q (.done (.ret (.ref (h.objs.size + 1)))) s' | .ok _ => False | .error e => E e s')
      ⟨(h.push (PySem.W.excTup rest)).push (exr C none h.objs.size), g, d, t, os⟩) : wpAny (model prog w) A (Builtin.«type.__call__» ⟨.ref C :: rest, []⟩) Q E ⟨h, g, d, t, os⟩ := by
  repeat (first
    | with_reducible refine wpAny_loadPart_at hC ?_
    | with_reducible refine wpAny_madeBy_exc hC ?_
    | wp_step)
  refine codeAny_call_builtin_code (Code.quiet_builtin _ F.quiet) (newU_check F b hC (newU F b hC hz ?_))
  show wpAny _ _ _ _ _ _
  have kp : ∀ c o, h.get? c = some o → ((h.push (PySem.W.excTup rest)).push (exr C none h.objs.size)).get? c = some o := fun c o e => Heap.get?_push_of_some _ (Heap.get?_push_of_some _ e)
  have gC := kp _ _ hC
  have gX : ((h.push (PySem.W.excTup rest)).push (exr C none h.objs.size)).get? (h.objs.size + 1) = some (exr C none h.objs.size) := by heap_get
  have cC : (Value.ref C :: bm).contains (.ref C) = true := by simp
  have i1 := hi.keeps kp
  have b1 := (hb (.ref (h.objs.size + 1))).keeps kp
  unfold isInstance
  repeat (first
    | with_reducible refine wpAny_loadPart_at gX ?_
    | (with_reducible refine wpAny_isSubtype_exc gC ?_; rw [cC])
    | wp_step)
  show wpAny _ _ (typeLookup (.ref C) _) _ _ _
  refine i1.at (wpAny_holding (wpAny_bind (b1.at ?_)))
  refine wpAny_bind (wpAny_call (codeAny_mono k fun r s' z => ?_))
  cases r with
  | error e => exact z
  | ok fl =>
    cases fl with
    | ret v =>
      obtain ⟨rfl, z⟩ := z
      first
        | exact wpAny_pure (wpAny_pure z)
        | (wp_walk; exact z)
    | _ => exact False.elim z
theorem callU (F : ExcBaseFacts Bn newId inN bmN) (b : Bm bm Bn B) (hC : h.get? C = some (excClassObj nm q C N bs bm hdct sn sub ab col dd k0 k1 k2 k3 k5 newId)) (hz : rest.length ≤ sizeLine)
    (hi : PySem.W.Looks (model prog w) h (typeLookup (.ref C) "__init__") (some (.ref fI))) (hb : ∀ self, PySem.W.Looks (model prog w) h (bindSpecial (.ref fI) self) (.ref fI, [self]))
    (k : codeAny (model prog w) (A.under (.builtin "type.__call__" ⟨.ref C :: rest, []⟩)) (.call (.ref fI) ⟨.ref (h.objs.size + 1) :: rest, []⟩) (PySem.W.InitBack (h.objs.size + 1) R)
      ⟨(h.push (PySem.W.excTup rest)).push (exr C none h.objs.size), g, d, t, os⟩) : codeAny (model prog w) A (.call (.ref C) ⟨rest, []⟩) R ⟨h, g, d, t, os⟩ := by
  have f1 := tc_lookup
  have f2 := tc_bind (.ref C)
  have ty : (⟨h, g, d, t, os⟩ : Shared).TypeIs (.ref C) "type" := ⟨_, hC, rfl⟩
  refine codeAny_of_tree ?_
  show wpAny _ _ (callAny (.ref C) _) _ _ _
  repeat (any_goals (first
    | assumption
    | with_reducible refine wpAny_loadPart_at hC ?_
    | wp_step))
  refine ⟨rfl, codeAny_call_builtin_at (Code.quiet_builtin _ (by decide +kernel)) entry_typeCall (wpAny_check_type_call_sub hC (typeU F b hC hz hi hb ?_))⟩
  refine codeAny_mono k fun r s' z => ?_
  rcases r with e | (v | _ | _ | _) <;> exact z
/-- B.__init__(e, ..) -/
theorem initU {a t0 : Addr} (F : IniF B initId) (b : Bm bm Bn B) (hC : h.get? C = some (excClassObj nm q C N bs bm hdct sn sub ab col dd k0 k1 k2 k3 k5 newId)) (ha : h.get? a = some (exr C none t0)) (hz : rest.length ≤ sizeLine)
    (k : ∀ h' t1, (∀ c o, c ≠ a → h.get? c = some o → h'.get? c = some o) → h'.get? a = some (exr C none t1) → R (.ok (.ret .none)) ⟨h', g, d, t, os⟩) :
    codeAny (model prog w) A (.call (.builtin initId) ⟨.ref a :: rest, []⟩) R ⟨h, g, d, t, os⟩ := by
  have c1 : (Value.ref C :: bm).contains (.type B) = true := by
    rw [List.contains_cons, b.b]
    exact Bool.or_true _
  have s1 := F.ns
  refine codeAny_call_builtin F.pl F.en ?_
  simp only [checkBuiltinCall, F.kd, F.sp, F.rw']
  repeat (first
    | (with_reducible refine wpAny_loadPart_at ha ?_; dsimp only)
    | with_reducible refine wpAny_loadPart_at hC ?_
    | (with_reducible refine wpAny_isSubtype_exc hC ?_; rw [c1])
    | wp_step)
  refine wpAny_onRaise ?_
  have ck : ∀ (x y : String) (n : Nat), Bind.check ⟨.positional, "*", B, .self, [⟨"args", .varPos, false⟩]⟩ x y n (List.map (fun z => z.fst) ({ pos := Value.ref a :: rest } : Args).kw) = pure () :=
    fun x y n => check_star_args _ _ _ _ _ _
  rw [ck]
  refine wpAny_pure (PySem.W.exc_init_tree (cls := .ref C) (t0 := t0) (dv := none) (c2 := .none) (c3 := .none) (b4 := .bool false) ha hz fun h' kp ea _ => ?_)
  exact k h' _ kp ea
end

section
variable {X : Cx} {k : Nat} {C fI : Addr} {fd : FuncData} {ps : List Str} {sp : Sp} {Bn B newId inN initId : String} {bmN : List Value} {x : Str} {e : Expr} {es : List Expr} {te : TE} {ta : TA} {p p1 p2 pos : Pos}
def tExI (C : Addr) (sp : Sp) (te : TE) : TE := fun σ H Q => te σ H fun v H1 => ∀ a t, H1 a = none → H1 t = none → t ≠ a →
  sp [.ref a, v] (upd (upd H1 t (.tup [v])) a (exq a C none t)) (fun u H2 => u = .non ∧ Q (.ref a) H2) E0
theorem pe_exI (F : ExcBaseFacts Bn newId inN bmN) (q : exnB X.K C newId Bn B = true) (hi : PySem.W.findIn X.K (.ref C) "__init__" = some (some (.ref fI))) (tf : PySem.W.typeIn X.K (.ref fI) = some (.type "function"))
    (kC : PySem.W.keepIn X.K (.ref C) = true) (gC : X.mg x = some (.ref C)) (hg : Gl X x) (G : FnG X.prog X.w X.K X.mg X.base k fI fd ps sp) (hr : Room (k + 1) X.A) (hgu : X.A.guards = some []) (hb : Binds X.K fd ps []) (he : PE X e te)
    (hs : starEach [e] X.env = (false, eval e X.env) :: starEach [] X.env := by rfl) (hdb : (x == ("__debug__" : Str)) = false := by decide) :
    PE X (.Call (.Name x p) [e] [] pos) (tExI C sp te) := by
  refine ⟨fun pins s σ H Q I h => ?_⟩
  refine wpAny_Call_Name_kw (ld_glob I hg gC ?_ hdb)
  refine PySem.W.callWith_K (h₀ := X.base) I.ok.mod.kin kC ?_ hs (by rfl)
  rw [hs]
  show wpAny _ _ (spliced ((false, eval e X.env) :: backTo pos (starEach [] X.env))) _ _ s
  refine Calls.spliced_cons (thn (he.run pins s σ H _ I h) ?_)
  rintro u s1 ⟨v, H1, I1, r1, q1⟩
  refine Calls.spliced_nil ⟨I1.kIn, ?_⟩
  show wpAny _ _ (call (.ref C) [u]) _ _ _
  obtain ⟨nm, N, qn, bs, bm, hdct, sn, sub, ab, col, dd, k0, k1, k2, k3, k5, hC, hT⟩ := exn_of I1.kIn q
  have hi' : PySem.W.Looks (model X.prog X.w) s1.heap (typeLookup (.ref C) "__init__") (some (.ref fI)) := PySem.W.looks_findIn I1.kIn hi
  have hbi := fun self => PySem.W.bind_fn (M := model X.prog X.w) I1.kIn self tf
  obtain ⟨hp, g, d, tk, os⟩ := s1
  have n1 : H1 (hp.objs.size + 1) = none := I1.hok.fresh (Nat.le_succ _)
  have n2 : H1 hp.objs.size = none := I1.hok.fresh (Nat.le_refl _)
  have ne : hp.objs.size ≠ hp.objs.size + 1 := Nat.ne_of_lt (Nat.lt_succ_self _)
  have kp : ∀ b o, hp.get? b = some o → ((hp.push (PySem.W.excTup [u])).push (exr C none hp.objs.size)).get? b = some o := fun b o z => Heap.get?_push_of_some _ (Heap.get?_push_of_some _ z)
  have gA : ((hp.push (PySem.W.excTup [u])).push (exr C none hp.objs.size)).get? (hp.objs.size + 1) = some (exr C none hp.objs.size) := by heap_get
  have gT : ((hp.push (PySem.W.excTup [u])).push (exr C none hp.objs.size)).get? hp.objs.size = some (PySem.W.excTup [u]) := Heap.get?_push_of_some _ (Heap.get?_push_size hp rfl)
  have one : [u].length ≤ sizeLine := by show 1 ≤ sizeLine; rw [sizeLine_eq]; omega
  have I2 := laid2 (tk := tk) (o := exq (hp.objs.size + 1) C none hp.objs.size) (u := .tup [v]) I1 kp (Nat.le_succ _) (Nat.le_refl _) ne
    ⟨by show 1 ≤ sizeLine; rw [sizeLine_eq]; omega, [u], .cons r1 .nil, ⟨_, gT, rfl, _, rfl⟩⟩ (exq_ok gA)
  have hq := q1 _ _ n1 n2 ne
  have hl : (Value.ref (hp.objs.size + 1) :: [u]).length = ps.length := by
    have z := G.len _ _ _ hq
    exact z
  have b := hb _ (Value.ref (hp.objs.size + 1) :: [u]) I2.kIn (by rw [List.append_nil]; exact hl)
  rw [List.append_nil] at b
  have gu : (X.A.under (.builtin "type.__call__" ⟨.ref C :: [u], []⟩)).guards = some [] := by
    first
      | exact hgu
      | (simp [Around.under, Code.guards, Code.isGuard, pushGuards, hgu]; done)
      | (simp +decide [Around.under, Code.guards, Code.isGuard, pushGuards, hgu, guardIds]; done)
  refine wpAny_call (callU F hT hC one hi' hbi (codeAny_mono (G.run _ X.stack _ _ ⟨Value.ref (hp.objs.size + 1) :: [u], []⟩ (Value.ref (hp.objs.size + 1) :: [u]) _ _ (hr.make C [u] []) gu (I2.env0.make C [u] []) b (show Vals (V.ref (hp.objs.size + 1) :: [v]) (Value.ref (hp.objs.size + 1) :: [u]) from .cons rfl (.cons r1 .nil)) hq) fun r s' hq' => ?_))
  rcases r with er | fl
  · exact hq'.elim
  · cases fl with
    | ret u2 =>
      obtain ⟨v3, H3, I3, rv, ev, q3⟩ := I2.after hq'
      subst ev
      exact ⟨rv, ⟨V.ref (hp.objs.size + 1), H3, I3, rfl, q3⟩⟩
    | _ => exact False.elim hq'

/-- B.__init__(self, ..), B built-in or a class of the program -/
def tBIn (K : PySem.W.Frag) (newId Bn B : String) (ta : TA) : TE := fun σ H Q => ta σ H fun vs H1 => ∃ (a C t : Addr) (ws : List V), vs = .ref a :: ws ∧ ws.length ≤ 1000 ∧ exnB K C newId Bn B = true ∧
  H1 a = some (exq a C none t) ∧ ∀ t', Q .non (upd H1 a (exq a C none t'))
theorem bin_run {pins : List (Addr × Obj)} {σ : L2.St} {H1 : Hp} {s1 : Shared} {Q : VK} {a t : Addr} {us : List Value} (F : IniF B initId) (q : exnB X.K C newId Bn B = true) (I1 : Inv X pins σ H1 s1) (ea : H1 a = some (exq a C none t)) (hz : us.length ≤ sizeLine)
    (h : ∀ t', Q .non (upd H1 a (exq a C none t'))) : wpAny (model X.prog X.w) X.A (call (.builtin initId) (.ref a :: us)) (EP X pins σ Q) X.xe s1 := by
  obtain ⟨nm, N, qn, bs, bm, hdct, sn, sub, ab, col, dd, k0, k1, k2, k3, k5, hC, hT⟩ := exn_of I1.kIn q
  have z := exq_at I1.hok ea
  obtain ⟨hp, g, d, tk, os⟩ := s1
  refine wpAny_call (initU F hT hC z hz fun h' t1 kp e' => ?_)
  exact ⟨.non, _, I1.write (t' := tk) (x := a) (e := a) (o := exq a C none t1) (by rw [ea]; exact True.intro) (.inl rfl) kp ⟨_, e'⟩ (exq_ok e'), rfl, h t1⟩
theorem pe_binB {pl : Sem Bool} {bn : Str} (F : IniF B initId) (hg : Gl X bn) (hm : X.mg bn = none) (hv : bootBuiltins bn = some (.type B)) (hnn : bn ≠ "__name__") (hty : typeOf (.type B) = pure (.type "type")) (hst : Manifest.isStub B = false)
    (vV : PySem.W.findCls X.K (.type B) (.type "type") "__init__" = some (.val (.builtin initId))) (hh : PySem.W.handedIn (.builtin initId) = true) (ha : PA X (e :: es) ta) (hdb : (bn == ("__debug__" : Str)) = false := by decide)
    (hc : eval (.Call (.Attribute (.Name bn p1) "__init__" p2) (e :: es) [] pos) X.env = (do
      let v ← eval (.Name bn p1) X.env
      standAt p2.atName
      let (f, first) ← holding [v] (getMethod v "__init__" pl)
      callWith pos f first (backTo pos (starEach (e :: es) X.env)) (backToKw pos (keywordEach [] X.env))) := by rfl)
    (he : starEach (e :: es) X.env = (false, eval e X.env) :: starEach es X.env := by rfl) (hpl : (backTo pos (starEach es X.env)).any (·.1) = false := by rfl) :
    PE X (.Call (.Attribute (.Name bn p1) "__init__" p2) (e :: es) [] pos) (tBIn X.K newId Bn B ta) := by
  refine ⟨fun pins s σ H Q I h => ?_⟩
  refine PySem.W.methodCall_KW (ld_blt I hg hm hv ?_ hnn hdb) hc
  obtain ⟨m, fr⟩ := I.fr
  refine PySem.W.method_type fr I.ok.mod.kin hty hst vV hh ?_
  show wpAny _ _ (callWith pos (Value.builtin initId) [] (backTo pos (starEach (e :: es) X.env)) []) _ _ _
  refine PyProof.Rows.callWith_method1 (thn (ha.run pos pins _ σ H _ (I.tok _) h) ?_) he hpl
  rintro us s1 ⟨vs, H1, I1, r1, a, C, t, ws, rfl, hl, q, ea, hq⟩
  cases r1 with
  | @cons _ u0 _ ur ra rw' =>
    cases (show u0 = Value.ref a from ra)
    exact bin_run F q I1 ea (by rw [← Paired.length rw', sizeLine_eq]; omega) hq
theorem pe_binC {pl : Sem Bool} {cn : Str} {D : Addr} (F : IniF B initId) (hg : Gl X cn) (hm : X.mg cn = some (.ref D)) (sg : PySem.W.specialIn X.K (.ref D) "__getattribute__" = some (some (.builtin "type.__getattribute__")))
    (rd : PySem.W.readsIn X.K D (.type "type") = true) (vV : PySem.W.findCls X.K (.ref D) (.type "type") "__init__" = some (.val (.builtin initId))) (hh : PySem.W.handedIn (.builtin initId) = true) (ha : PA X (e :: es) ta) (hdb : (cn == ("__debug__" : Str)) = false := by decide)
    (hc : eval (.Call (.Attribute (.Name cn p1) "__init__" p2) (e :: es) [] pos) X.env = (do
      let v ← eval (.Name cn p1) X.env
      standAt p2.atName
      let (f, first) ← holding [v] (getMethod v "__init__" pl)
      callWith pos f first (backTo pos (starEach (e :: es) X.env)) (backToKw pos (keywordEach [] X.env))) := by rfl)
    (he : starEach (e :: es) X.env = (false, eval e X.env) :: starEach es X.env := by rfl) (hpl : (backTo pos (starEach es X.env)).any (·.1) = false := by rfl) :
    PE X (.Call (.Attribute (.Name cn p1) "__init__" p2) (e :: es) [] pos) (tBIn X.K newId Bn B ta) := by
  refine ⟨fun pins s σ H Q I h => ?_⟩
  refine PySem.W.methodCall_KW (ld_glob I hg hm ?_ hdb) hc
  refine PySem.W.method_cls I.kIn sg (PySem.W.cls_value I.kIn rd vV hh ?_)
  show wpAny _ _ (callWith pos (Value.builtin initId) [] (backTo pos (starEach (e :: es) X.env)) []) _ _ _
  refine PyProof.Rows.callWith_method1 (thn (ha.run pos pins _ σ H _ (I.tok _) h) ?_) he hpl
  rintro us s1 ⟨vs, H1, I1, r1, a, C, t, ws, rfl, hl, q, ea, hq⟩
  cases r1 with
  | @cons _ u0 _ ur ra rw' =>
    cases (show u0 = Value.ref a from ra)
    exact bin_run F q I1 ea (by rw [← Paired.length rw', sizeLine_eq]; omega) hq
end
end DW

namespace DW
open PySem PySem.Spec PyProof.Rows L2
/-! ### the law as it is called behind the top, where its promise asks that no repr is under way -/
section
variable {P : Program} {w : World} {K : PySem.W.Frag} {mg mb : Str → Option Value} {k : Nat} {fa a : Addr} {fd : FuncData} {x : Str} {sp : Sp} {s : Shared} {vs : List Value} {ns : List Int}
abbrev scrO (vs : List Value) : Obj := { cls := .type "list", data := .seq vs.toArray }
/-- the script alone is tracked, and only if the module has not laid it -/
noncomputable def scrH (K : PySem.W.Frag) (a : Addr) (vs : List Value) (ns : List Int) : Hp :=
  fun b => if b = a ∧ K.lookup a = none then some (.frz (scrO vs) (.lst (ns.map V.int))) else none
theorem scr_in {b : Addr} {u : HO} (e : scrH K a vs ns b = some u) : b = a ∧ K.lookup a = none ∧ u = .frz (scrO vs) (.lst (ns.map V.int)) := by
  unfold scrH at e
  by_cases z : b = a ∧ K.lookup a = none
  · rw [if_pos z] at e
    exact ⟨z.1, z.2, (Option.some.inj e).symm⟩
  · rw [if_neg z] at e
    cases e
theorem scr_out {b : Addr} (n : ¬ (b = a ∧ K.lookup a = none)) : scrH K a vs ns b = none := if_neg n
theorem scr_vals : ∀ {vs : List Value} {ns : List Int}, IntsAre vs ns → Vals (ns.map V.int) vs
  | _, _, .nil => Paired.nil
  | _, _, .cons n t r => Paired.cons ⟨t, rfl⟩ (scr_vals r)
theorem scr_seq (KX : K.In s.heap) (ha : s.heap.get? a = some (scrO vs)) (hi : IntsAre vs ns) (hl : ns.length ≤ sizeLine) : SqL K (scrH K a vs ns) a (ns.map V.int) := by
  cases q : K.lookup a with
  | none => exact .inl (.inr ⟨scrO vs, if_pos ⟨rfl, q⟩⟩)
  | some o =>
    have same : o = scrO vs := Option.some.inj ((KX a o q).symm.trans ha)
    rw [same] at q
    have len := hi.length
    exact .inr ⟨_, vs.toArray, _, q, rfl, rfl, rfl, by rw [List.size_toArray, len]; exact hl, by simpa using scr_vals hi⟩
theorem scr_ok (ha : s.heap.get? a = some (scrO vs)) (hi : IntsAre vs ns) (hl : ns.length ≤ sizeLine) : HOk P w (scrH K a vs ns) s.heap := fun b u e => by
  obtain ⟨rfl, _, rfl⟩ := scr_in e
  exact ⟨ha, by rw [List.length_map]; exact hl, vs, _, scr_vals hi, ha⟩
theorem lawG (KX : K.In s.heap) (hm : s.heap.Ns mainGlobals mg) (hb : s.heap.Ns builtinsNs mb) (hq : ∀ y : Str, y ≠ "__name__" → mb y = bootBuiltins y) (nl : s.heap.NoLimit) (hg : s.gens = #[]) (ha : s.heap.get? a = some (scrO vs)) (hi : IntsAre vs ns)
    (hl : ns.length ≤ sizeLine) (hr : Room k callerA) (F : ∀ base : Heap, K.In base → FnG P w K mg base k fa fd [x] sp) (hbind : ∀ (t : Shared) (u : Value), BindsTo t fd ⟨[u], []⟩ [(x, u)])
    (hsp : ∀ H : Hp, SqL K H a (ns.map V.int) → sp [.ref a] H (fun v _ => v = .bl true) E0) :
    codeAny (model P w) callerA (.call (.ref fa) ⟨[.ref a], []⟩) (fun r s' => r = .ok (.ret (.bool true)) ∧ OldK s.heap s'.heap ∧ s'.os = s.os ∧ AllBare s'.gens) s := by
  have stay : ∀ {b : Addr} {o : Obj}, s.heap.get? b = some o → scrH K a vs ns b = none → (hidT s.heap (scrH K a vs ns)).get? b = some o := fun e n => hidT_get e n
  have notA : ∀ {b : Addr} {o : Obj}, s.heap.get? b = some o → o ≠ scrO vs → scrH K a vs ns b = none := fun e n => scr_out fun z => by
    rw [z.1, ha] at e
    exact n (Option.some.inj e).symm
  have nsS : ∀ {b : Addr} {m : Str → Option Value}, s.heap.Ns b m → (hidT s.heap (scrH K a vs ns)).Ns b m := fun {b m} ⟨o, es, ep, e, d, r⟩ =>
    ⟨o, es, ep, stay e (notA e fun z => by rw [z] at d; have d' : Data.seq vs.toArray _ = Data.dict es ep := d; cases d'), d, r⟩
  have KB : K.In (hidT s.heap (scrH K a vs ns)) := fun b o e => stay (KX b o e) (scr_out fun z => by rw [z.1, z.2] at e; cases e)
  have md : Mod K mg (hidT s.heap (scrH K a vs ns)) := ⟨KB, nsS hm, ⟨mb, nsS hb, hq⟩, let ⟨c, h1, h2⟩ := nl; ⟨c, nsS h1, h2⟩⟩
  have ev : Env0 P w K mg (hidT s.heap (scrH K a vs ns)) callerA [] s (scrH K a vs ns) :=
    ⟨rfl, md, fun b o e => of_hidT e, Nat.le_of_eq (hidT_size _ _), trivial, fun b z => absurd (show b ∈ ([] : List Addr) from z) (by simp), scr_ok ha hi hl, .of_eq hg⟩
  have go := (F _ KB).run callerA [] s (scrH K a vs ns) ⟨[.ref a], []⟩ [.ref a] [.ref a] _ hr rfl ev (hbind s (.ref a)) (Paired.cons rfl Paired.nil) (hsp _ (scr_seq KX ha hi hl))
  refine codeAny_mono go fun r s' h => ?_
  match r, h with
  | .ok (.ret u), ⟨v, H', os, bare, un, ok', rv, q⟩ =>
    cases (show v = V.bl true from q)
    cases (show u = Value.bool true from rv)
    refine ⟨rfl, OldK.of_keep fun b o e => ?_, os, bare⟩
    cases z : scrH K a vs ns b with
    | none => exact un.keep b o e z (by intro y; exact absurd (show b ∈ ([] : List Addr) from y) (by simp)) (by simp)
    | some u =>
      obtain ⟨rfl, _, rfl⟩ := scr_in z
      have later := un.frzs b (scrO vs) _ z
      obtain ⟨e1, _⟩ := ok' b _ later
      rw [ha] at e
      cases e
      exact e1
end
/-- what k_head leaves, from such a promise -/
theorem walkG {l : PySem.W.OpenLaw} {n k : Nat} {q : Program} {loose : List Str} {XP : (Str → Option Value) → Heap → Prop} {YP : World → Heap → Prop} {d : DefRec} {K : Params → PySem.W.Frag} {sp : PySem.W.Frag → Sp} {x : Str} (hn : l.most = some n) (hz : n ≤ sizeLine)
    (hd : d.params.defaults = []) (hr : Room k callerA) (hY : ∀ (w : World) (h : Heap), YP w h → (K w.params).In h)
    (F : ∀ (w : World) (mg : Str → Option Value) (fa : Addr) (h : Heap), (K w.params).In h → h.Ns mainGlobals mg → mg d.name = some (.ref fa) →
      ∃ fd : FuncData, (∀ (t : Shared) (u : Value), BindsTo t fd ⟨[u], []⟩ [(x, u)]) ∧ ∀ base : Heap, (K w.params).In base → FnG l.prog w (K w.params) mg base k fa fd [x] (sp (K w.params)))
    (hsp : ∀ (K : PySem.W.Frag) (H : Hp) (a : Addr) (ns : List Int), ns.length ≤ n → SqL K H a (ns.map V.int) → sp K [.ref a] H (fun v _ => v = .bl true) E0) :
    PySem.W.WalkO q loose XP YP l.row.toRowW d [] (fun f vs => PySem.call f vs) := by
  refine Att.attach_call hn hd fun w _ s mg mb fa _ _ _ _ a vs ns G Y _ _ _ hmg ho hi hl hg => ?_
  have KX := hY w _ Y
  obtain ⟨fd, hbind, hF⟩ := F w mg fa _ KX G.T.g hmg
  exact lawG KX G.T.g G.T.b G.T.builtins G.T.nolimit hg ho hi (Nat.le_trans hl hz) hr hF hbind fun H hS => hsp _ H a ns hl hS
end DW

namespace K1
open PySem PySem.Spec PyProof.Rows L2 DW
def top (i : Nat) : Stmt := PySem.Challenge.pw_dawnway_k01_errors.main.body.getD i (.Pass ⟨0, 0, 0, 0⟩)
abbrev sDice : Stmt := top 20
abbrev sRoll : Stmt := top 21
abbrev sPick : Stmt := top 22
section
variable {P : Program} {w : World} {K : PySem.W.Frag} {mg : Str → Option Value} {base : Heap}
/-! ### draws -/
def spRoll : Sp := fun vs H Q _ => ∃ (a : Addr) (d0 d1 d2 t : Int), vs = [.ref a, .int t] ∧ H a = some (.lst [.int d0, .int d1, .int d2]) ∧ 0 < t ∧ t < 1073741824 ∧
  ∀ r e0 e2 : Int, 0 ≤ r → r < t → Q (.int r) (upd H a (.lst [.int e0, .int d1, .int e2]))
theorem scRoll : FnScope ["dice", "total", "found", "one", "two"] ["dice", "total"] (defScope sRoll) := ⟨rfl, rfl, rfl, by decide +kernel, rfl, by decide +kernel, by decide +kernel⟩
theorem fm0 {i j : Int} (h : 0 < j) : 0 ≤ i.fmod j := Int.fmod_nonneg_of_pos i h
theorem fm1 {i j : Int} (h : 0 < j) : i.fmod j < j := Int.fmod_lt_of_pos i h
theorem ok_roll {f : Addr} {fd : FuncData} (F : Fun K "_law_roll" "_law_roll" sRoll f fd) : FnOk P w K mg base CX0 1 f fd ["dice", "total"] spRoll := by
  refine F.ok scRoll (fun vs H Q E h => ?_) (fun cdv A outer s H vs Q E hr h => ?_)
  · obtain ⟨a, d0, d1, d2, t, rfl, _⟩ := h
    rfl
  · obtain ⟨a, d0, d1, d2, t, rfl, hA, ht, ht2, k⟩ := h
    refine ⟨_, pss_cons (ps_if (pt_cmpR op_gt (pe_ix ix_list (pv 0) pe_int (fun _ _ => rfl)) pe_int (nomark _))
        (pss_cons (ps_set (i := 2) scRoll.nd rfl (Or.inl rfl) (pe_op op_modN (pe_ix ix_list (pv 0) pe_int (fun _ _ => rfl)) (pv 1)))
        (pss_cons (ps_asg (pe_op op_fdivN (pe_ix ix_list (pv 0) pe_int (fun _ _ => rfl)) (pv 1)) (pg_sub (pv 0) pe_int set_list))
        (pss_one (ps_ret (pv 2))))) pss_nil)
      (pss_cons (ps_asg (pe_op op_add (pe_ix ix_list (pv 0) pe_int (fun _ _ => rfl)) pe_int) (pg_sub (pv 0) pe_int set_list))
      (pss_cons (ps_set (i := 3) scRoll.nd rfl (Or.inl rfl) (pe_op op_modN (pe_op op_add (pe_ix ix_list (pv 0) pe_int (fun _ _ => rfl)) (pe_op op_mul pe_int (pe_ix ix_list (pv 0) pe_int (fun _ _ => rfl)))) pe_int))
      (pss_cons (ps_set (i := 4) scRoll.nd rfl (Or.inl rfl) (pe_op op_add (pe_op op_mul (pe_op op_modN (pe_op op_mul (pv 3) (pv 3)) pe_int) (pv 3)) (pe_op op_mul pe_int (pe_ix ix_list (pv 0) pe_int (fun _ _ => rfl)))))
      (pss_one (ps_ret (pe_op op_modN (pe_op op_fdivN (pe_op op_modN (pe_op op_add (pv 4) (pe_ix ix_list (pv 0) pe_int (fun _ _ => rfl))) pe_int) pe_int) (pv 1))))))), ?_⟩
    have h0 : t ≠ 0 := by omega
    refine ⟨_, rfl, a, _, _, _, rfl, rfl, SqL.of hA, rfl, _, _, rfl, rfl, _, rfl, ite2 (fun _ => ?_) (fun _ => ?_)⟩
    · refine ⟨_, rfl, a, _, _, _, rfl, rfl, SqL.of hA, rfl, _, rfl, _, _, rfl, rfl, h0, ?_⟩
      refine ⟨_, rfl, a, _, _, _, rfl, rfl, SqL.of hA, rfl, _, rfl, _, _, rfl, rfl, ⟨h0, by omega⟩, ?_⟩
      refine ⟨_, rfl, a, _, _, _, rfl, rfl, hA, rfl, ?_⟩
      exact ⟨_, rfl, k _ _ _ (fm0 ht) (fm1 ht)⟩
    · refine ⟨_, rfl, a, _, _, _, rfl, rfl, SqL.of hA, rfl, _, _, rfl, rfl, ?_⟩
      refine ⟨_, rfl, a, _, _, _, rfl, rfl, hA, rfl, ?_⟩
      have hB : upd H a (.lst [.int d0, .int d1, .int (d2 + 1)]) a = some (.lst [.int d0, .int d1, .int (d2 + 1)]) := upd_same
      refine ⟨_, rfl, a, _, _, _, rfl, rfl, SqL.of hB, rfl, _, rfl, a, _, _, _, rfl, rfl, SqL.of hB, rfl, _, _, rfl, rfl, .inl ⟨by decide, by decide⟩, _, _, rfl, rfl, _, _, rfl, rfl, (show (2305843009213693907 : Int) ≠ 0 by decide), ?_⟩
      have b1 := fm0 (i := d1 + 654188429 * (d2 + 1)) (j := 2305843009213693907) (by decide)
      have b2 := fm1 (i := d1 + 654188429 * (d2 + 1)) (j := 2305843009213693907) (by decide)
      have c1 := fm0 (i := (d1 + 654188429 * (d2 + 1)).fmod 2305843009213693907 * (d1 + 654188429 * (d2 + 1)).fmod 2305843009213693907) (j := 1152921504606846871) (by decide)
      have c2 := fm1 (i := (d1 + 654188429 * (d2 + 1)).fmod 2305843009213693907 * (d1 + 654188429 * (d2 + 1)).fmod 2305843009213693907) (j := 1152921504606846871) (by decide)
      refine ⟨_, rfl, _, rfl, _, _, rfl, rfl, .inl ⟨by omega, by omega⟩, _, _, rfl, rfl, (show (1152921504606846871 : Int) ≠ 0 by decide), _, rfl, _, _, rfl, rfl, .inl ⟨by omega, by omega⟩, _, rfl, a, _, _, _, rfl, rfl, SqL.of hB, rfl, _, _, rfl, rfl, .inl ⟨by decide, by decide⟩, _, _, rfl, rfl, ?_⟩
      refine ⟨_, rfl, _, rfl, a, _, _, _, rfl, rfl, SqL.of hB, rfl, _, _, rfl, rfl, _, _, rfl, rfl, (show (8796093022151 : Int) ≠ 0 by decide), _, _, rfl, rfl, ⟨by decide, by decide⟩, _, rfl, _, _, rfl, rfl, h0, ?_⟩
      exact k _ _ _ (fm0 ht) (fm1 ht)
def spPick (K : PySem.W.Frag) : Sp := fun vs H Q _ => ∃ (a p : Addr) (d0 d1 d2 : Int) (xs : List V), vs = [.ref a, .ref p] ∧ H a = some (.lst [.int d0, .int d1, .int d2]) ∧ H p = some (.lst xs) ∧ p ≠ a ∧
  0 < xs.length ∧ xs.length < 1000 ∧ ∀ (i : Nat) (v : V) (e0 e2 : Int), xs[i]? = some v → Q v (upd H a (.lst [.int e0, .int d1, .int e2]))
theorem scPick : FnScope ["dice", "items"] ["dice", "items"] (defScope sPick) := ⟨rfl, rfl, rfl, by decide +kernel, rfl, by decide +kernel, by decide +kernel⟩
theorem ok_pick {f fR : Addr} {fd fdR : FuncData} (F : Fun K "_law_pick" "_law_pick" sPick f fd) (FR : Fun K "_law_roll" "_law_roll" sRoll fR fdR) (bR : Binds K fdR ["dice", "total"] []) (gR : mg "_law_roll" = some (.ref fR)) (zL : mg "len" = none) :
    FnOk P w K mg base CX0 2 f fd ["dice", "items"] (spPick K) := by
  have GR : FnOk P w K mg base CX0 1 fR fdR ["dice", "total"] spRoll := ok_roll FR
  refine F.ok scPick (fun vs H Q E h => ?_) (fun cdv A outer s H vs Q E hr h => ?_)
  · obtain ⟨a, p, d0, d1, d2, xs, rfl, _⟩ := h
    rfl
  · obtain ⟨a, p, d0, d1, d2, xs, rfl, hA, hP, ne, hl, hl2, k⟩ := h
    refine ⟨_, pss_one (ps_ret (pe_ix ix_list (pv 1) (pe_call GR hr rfl gR FR.kp bR .nil pass0 (pa_cons (pv 0) (pa_cons (pe_callB call_len_seq (by rfl) zL PySem.boot_len (pa_cons (pv 1) pa_nil)) pa_nil))) (fun _ _ => rfl))), ?_⟩
    refine ⟨_, rfl, _, rfl, _, rfl, p, _, rfl, .inl (SqL.of hP), a, d0, d1, d2, _, rfl, hA, by omega, by omega, fun r e0 e2 r0 r1 => ?_⟩
    obtain ⟨n, rfl⟩ : ∃ n : Nat, r = n := ⟨r.toNat, by omega⟩
    have hn : n < xs.length := by omega
    have hg : xs[n]? = some xs[n] := by simp [hn]
    exact ⟨p, xs, _, _, rfl, rfl, SqL.of (by rw [upd_ne ne]; exact hP), atI_nat hg, k n _ _ _ hg⟩
end
end K1

namespace DW
open PySem PySem.Spec PyProof.Rows L2
theorem same_new {H : Hp} {p : Addr} {o : HO} (h : H p = none) : Same H (upd H p o) := fun b u e => by
  rw [upd_ne (ne_of_none e h)]; exact e
theorem same_mut {H0 H : Hp} {p : Addr} {o : HO} (s : Same H0 H) (h : H0 p = none) : Same H0 (upd H p o) := fun b u e => by
  rw [upd_ne (ne_of_none e h)]; exact s b u e
/-- a ledger of tracked objects -/
def Has (H : Hp) (L : List (Addr × HO)) : Prop := ∀ p ∈ L, H p.1 = some p.2
theorem Has.get {H : Hp} {L : List (Addr × HO)} {a : Addr} {o : HO} (h : Has H L) (m : (a, o) ∈ L) : H a = some o := h _ m
theorem Has.nil {H : Hp} : Has H [] := fun _ z => nomatch z
theorem Has.put {H : Hp} {L : List (Addr × HO)} {a : Addr} {o : HO} (h : Has H L) (e : H a = some o) : Has H ((a, o) :: L) := fun p m => by
  rcases List.mem_cons.mp m with rfl | m
  · exact e
  · exact h p m
theorem Has.of {H H' : Hp} {L : List (Addr × HO)} (h : Has H L) (s : Same H H') : Has H' L := fun p m => s _ _ (h p m)
theorem Has.new {H : Hp} {L : List (Addr × HO)} {a : Addr} {o : HO} (h : Has H L) (e : H a = none) : Has (upd H a o) ((a, o) :: L) := (h.of (same_new e)).put upd_same
theorem Has.mut {H : Hp} {L : List (Addr × HO)} {a : Addr} {o u : HO} (h : Has H L) (e : H a = some u) (ne : ∀ p ∈ L, p.2 ≠ u) : Has (upd H a o) L := fun p m => by
  have z := h p m
  rw [upd_ne fun q => ?_]
  · exact z
  · rw [q, e] at z
    exact ne p m (Option.some.inj z).symm
end DW
namespace K1
open PySem PySem.Spec PyProof.Rows L2 DW
/-! ### the words, and the words of the classes that each error is one of -/
def wd : Nat → Str
  | 0 => "name" | 1 => "net" | 2 => "row" | 3 => "table" | 4 => "course" | 5 => "way" | 6 => "day" | 7 => "deal" | 8 => "operation" | 9 => "command"
  | 10 => "parse" | 11 => "unknown" | 12 => "number" | 13 => "many" | 14 => "refused" | 15 => "undo" | _ => ""
def due : Nat → List Str
  | 11 => ["KEY", "LOOKUP"] | 12 => ["RUNTIME"] | 13 => ["OVERFLOW", "ARITHMETIC"] | 14 => ["ARITHMETIC"] | 15 => ["INDEX", "LOOKUP"] | _ => ["DAY", "VALUE"]
abbrev sWords : Stmt := top 27
abbrev sDue : Stmt := top 26
section
variable {X : Cx}
theorem op_powW : OpR X (binaryOp .Pow) (rI (fun i j => 0 ≤ j ∧ (Builtin.Int.intBits i : Int) * j ≤ 2 ^ 27) fun i j => .int (i ^ j.toNat)) := by
  intro pins s σ H x y v u Q I rx ry h
  obtain ⟨i, j, rfl, rfl, hc, q⟩ := h
  obtain ⟨t, rfl⟩ := rx
  obtain ⟨t', rfl⟩ := ry
  exact PyProof.Rows.pow_int hc.1 hc.2 ⟨.int _, H, I.tok _, ⟨_, rfl⟩, q⟩
theorem op_mulS : OpR X (binaryOp .Mult) (fun x y H Q => ∃ (a : Str) (n : Int), x = .str a ∧ y = .int n ∧ MulOk a n ∧ Q (.str (Txt.mul a n)) H) := by
  intro pins s σ H x y v u Q I rx ry h
  obtain ⟨i, j, rfl, rfl, hc, q⟩ := h
  obtain ⟨t, rfl⟩ := rx
  obtain ⟨t', rfl⟩ := ry
  exact PySem.SB.mul hc fun t' k => ⟨.str _, H, I.tok _, ⟨_, rfl⟩, q⟩
end
local macro_rules | `(tactic| walk_at "k1dice") => `(tactic| (
  refine ⟨_, rfl, _, rfl, _, _, rfl, rfl, ⟨by decide, by decide +kernel⟩, _, _, rfl, rfl, ⟨by decide, by decide +kernel⟩, _, _, rfl, rfl, (show ((10 ^ Int.toNat 60) ^ Int.toNat 10 : Int) ≠ 0 by decide +kernel), ?_⟩
  refine ⟨_, rfl, _, _, rfl, rfl, .inr ⟨by decide, by decide⟩, _, rfl, _, _, rfl, rfl, .inl ⟨by decide, by decide⟩, _, _, rfl, rfl, _, rfl, _, _, rfl, rfl, .inr ⟨_, rfl, _, _, rfl, rfl, .inl ⟨by decide, by decide⟩, _, _, rfl, rfl, _, _, rfl, rfl, ?_⟩⟩
  refine ⟨_, rfl, _, _, rfl, rfl, ⟨by decide, by decide +kernel⟩, _, _, rfl, rfl, _, _, rfl, _, rfl, _, _, rfl, rfl, (show (1152921504606846883 : Int) ≠ 0 by decide), ?_⟩))
section
variable {P : Program} {w : World} {K : PySem.W.Frag} {mg : Str → Option Value} {base : Heap}
def spDice (K : PySem.W.Frag) : Sp := fun vs H Q _ => ∃ (a : Addr) (ns : List Int) (s : Int), vs = [.ref a, .int s] ∧ SqL K H a (ns.map V.int) ∧ 0 ≤ s ∧ s < 1000 ∧
  ∀ (p : Addr) (d0 d1 : Int), H p = none → Q (.ref p) (upd H p (.lst [.int d0, .int d1, .int 0]))
theorem scDice : FnScope ["script", "spot", "cell", "whole", "mixed"] ["script", "spot"] (defScope sDice) := ⟨rfl, rfl, rfl, by decide +kernel, rfl, by decide +kernel, by decide +kernel⟩
theorem ok_dice {f : Addr} {fd : FuncData} (F : Fun K "_law_dice" "_law_dice" sDice f fd) (zL : mg "len" = none) (zI : mg "int" = none) (zA : mg "abs" = none) (zM : mg "max" = none) :
    FnOk P w K mg base CX0 1 f fd ["script", "spot"] (spDice K) := by
  refine F.ok scDice (fun vs H Q E h => ?_) (fun cdv A outer s H vs Q E hr h => ?_)
  · obtain ⟨a, ns, s, rfl, _⟩ := h
    rfl
  · obtain ⟨a, ns, s, rfl, hS, s0, s1, k⟩ := h
    refine ⟨_, pss_cons (ps_set (i := 2) scDice.nd rfl (Or.inl rfl) (pe_ifExp (pt_cmpR op_lt (pv 1) (pe_callB call_len_seq (by rfl) zL PySem.boot_len (pa_cons (pv 0) pa_nil)) (nomark _))
          (pe_callTy call_int1 (by rfl) zI (by decide +kernel) (pa_cons (pe_ix ix_list (pv 0) (pv 1) (fun _ _ => rfl)) pa_nil)) (pe_op op_add (pe_op op_mul pe_int (pv 1)) pe_int)))
      (pss_cons (ps_set (i := 3) scDice.nd rfl (Or.inl rfl) (pe_op op_modN (pe_callB call_abs (by rfl) zA (by decide +kernel) (pa_cons (pv 2) pa_nil)) (pe_op op_powW (pe_op op_powW pe_int pe_int) pe_int)))
      (pss_cons (ps_set (i := 4) scDice.nd rfl (Or.inl rfl) (pe_op op_add (pe_op op_add (pe_op op_add (pe_op op_mul (pv 3) pe_int) (pe_op op_mul pe_int (pv 1))) (pe_op op_mul pe_int (pe_callTy call_int1 (by rfl) zI (by decide +kernel) (pa_cons (pe_cmpR op_lt (pv 2) pe_int (nomark _)) pa_nil)))) pe_int))
      (pss_one (ps_ret (pe_lst (pa_cons (pe_callB (call_max2 rfl) (by rfl) zM (by decide +kernel) (pa_cons pe_int (pa_cons (pe_op op_sub (pv 3) (pe_op op_powW pe_int pe_int)) pa_nil))) (pa_cons (pe_op op_modN (pv 4) pe_int) (pa_cons pe_int pa_nil)))))))), ?_⟩
    refine ⟨_, rfl, _, rfl, a, _, rfl, .inl hS, _, _, rfl, rfl, _, rfl, ite2 (fun h => ?_) (fun h => ?_)⟩
    · obtain ⟨n, rfl⟩ : ∃ n : Nat, s = n := ⟨s.toNat, by omega⟩
      have h : (n : Int) < ((ns.map V.int).length : Nat) := by simpa using h
      have hn : n < ns.length := by rw [List.length_map] at h; omega
      have hg : (ns.map V.int)[n]? = some (V.int ns[n]) := by simp [hn]
      refine ⟨_, rfl, _, rfl, a, _, _, _, rfl, rfl, hS, atI_nat hg, .inl ⟨_, rfl, ?_⟩⟩
      walk_at "k1dice"
      exact ⟨by show 3 ≤ sizeLine; decide, fun p hp => k p _ _ hp⟩
    · refine ⟨_, rfl, _, _, rfl, rfl, .inl ⟨by decide, by decide⟩, _, _, rfl, rfl, ?_⟩
      walk_at "k1dice"
      exact ⟨by show 3 ≤ sizeLine; decide, fun p hp => k p _ _ hp⟩
/-! ### lists of words -/
def spWords : Sp := fun vs H Q _ => vs = [] ∧ ∀ (H' : Hp) (p : Addr), Same H H' → H p = none →
  H' p = some (.lst ((List.range 16).map fun n => V.str (wd n))) → Q (.ref p) H'
theorem scWords : FnScope ["found"] [] (defScope sWords) := ⟨rfl, rfl, rfl, by decide +kernel, rfl, by decide +kernel, by decide +kernel⟩
theorem ok_words {f : Addr} {fd : FuncData} (F : Fun K "_law_words" "_law_words" sWords f fd) : FnOk P w K mg base CX0 1 f fd [] spWords := by
  refine F.ok scWords (fun vs H Q E h => ?_) (fun cdv A outer s H vs Q E hr h => ?_)
  · obtain ⟨rfl, _⟩ := h
    rfl
  · obtain ⟨rfl, k⟩ := h
    refine ⟨_, pss_cons (ps_set (i := 0) scWords.nd rfl (Or.inl rfl) (pe_lst (pa_cons pe_str (pa_cons pe_str (pa_cons pe_str (pa_cons pe_str (pa_cons pe_str (pa_cons pe_str (pa_cons pe_str (pa_cons pe_str (pa_cons pe_str (pa_cons pe_str pa_nil))))))))))))
      (pss_one (ps_ret (pe_op op_cat (pv 0) (pe_lst (pa_cons pe_str (pa_cons pe_str (pa_cons pe_str (pa_cons pe_str (pa_cons pe_str (pa_cons pe_str pa_nil)))))))))), ?_⟩
    refine ⟨by show 10 ≤ sizeLine; decide, fun p hp => ?_⟩
    refine ⟨_, rfl, by show 6 ≤ sizeLine; decide, fun q hq => ?_⟩
    have npq : p ≠ q := ne_of_none (upd_same (H := H) (a := p)) hq
    refine ⟨p, q, _, _, rfl, rfl, by rw [upd_ne npq, upd_same], upd_same, by show 16 ≤ sizeLine; decide, fun r hr2 => ?_⟩
    exact k _ r ((same_new hp).trans ((same_new hq).trans (same_new hr2))) (((same_new hp).trans (same_new hq)).free hr2) upd_same

def spDue : Sp := fun vs H Q _ => ∃ n : Nat, n < 16 ∧ vs = [.str (wd n)] ∧ ∀ (H' : Hp) (p : Addr), Same H H' → H p = none → H' p = some (.lst (.str (wd n) :: (due n).map V.str)) → Q (.ref p) H'
theorem scDue : FnScope ["word", "table"] ["word"] (defScope sDue) := ⟨rfl, rfl, rfl, by decide +kernel, rfl, by decide +kernel, by decide +kernel⟩
theorem ok_due {f : Addr} {fd : FuncData} (F : Fun K "_law_due" "_law_due" sDue f fd) : FnOk P w K mg base CX0 1 f fd ["word"] spDue := by
  refine F.ok scDue (fun vs H Q E h => ?_) (fun cdv A outer s H vs Q E hr h => ?_)
  · obtain ⟨n, _, rfl, _⟩ := h
    rfl
  · obtain ⟨n, hn, rfl, k⟩ := h
    have hu := hu_of hr
    refine ⟨_, pss_cons (ps_set (i := 1) scDue.nd rfl (Or.inl rfl) (pe_disp (pps_cons pe_str (pe_lst (pa_cons pe_str (pa_cons pe_str pa_nil))) (pps_cons pe_str (pe_lst (pa_cons pe_str pa_nil)) (pps_cons pe_str (pe_lst (pa_cons pe_str (pa_cons pe_str pa_nil))) pps_nil))) rfl rfl (fun z => nomatch z) (by decide)))
      (pss_cons (ps_asg (pe_tup (pa_cons (pe_lst (pa_cons pe_str pa_nil)) (pa_cons (pe_lst (pa_cons pe_str (pa_cons pe_str pa_nil))) (pa_cons (pe_lst (pa_cons pe_str (pa_cons pe_str pa_nil))) pa_nil))))
        (pg_tup rfl (pgs_cons (pg_sub (pv 1) pe_str (set_dict hu)) (pgs_cons (pg_sub (pv 1) pe_str (set_dict hu)) (pgs_cons (pg_sub (pv 1) pe_str (set_dict hu)) pgs_nil)))))
      (pss_one (ps_ret (pe_op op_cat (pe_lst (pa_cons (pv 0) pa_nil)) (pe_dget2 hu (pv 1) (pv 0) (pe_lst (pa_cons pe_str (pa_cons pe_str pa_nil))) ⟨by rfl, by rfl, by rfl, by rfl⟩))))), ?_⟩
    intro d hd
    have gd0 : upd H d (.dK []) d = some (.dK []) := upd_same
    refine ⟨by show 2 ≤ sizeLine; decide, fun l1 h1 => ⟨by show 1 ≤ sizeLine; decide, fun l2 h2 => ⟨by show 2 ≤ sizeLine; decide, fun l3 h3 => ?_⟩⟩⟩
    have gd1 := same_new (o := .lst [.str "KEY", .str "LOOKUP"]) h1 _ _ gd0
    have gd2 := same_new (o := .lst [.str "RUNTIME"]) h2 _ _ gd1
    have gd3 := same_new (o := .lst [.str "OVERFLOW", .str "ARITHMETIC"]) h3 _ _ gd2
    have gl3 := ((Has.nil.new (o := .lst [.str "KEY", .str "LOOKUP"]) h1).new (o := .lst [.str "RUNTIME"]) h2).new (o := .lst [.str "OVERFLOW", .str "ARITHMETIC"]) h3
    have sm3 := (((same_new (o := .dK []) hd).trans (same_new (o := .lst [.str "KEY", .str "LOOKUP"]) h1)).trans (same_new (o := .lst [.str "RUNTIME"]) h2)).trans (same_new (o := .lst [.str "OVERFLOW", .str "ARITHMETIC"]) h3)
    refine ⟨gd3, [(Sum.inr "unknown", V.ref l1), (Sum.inr "number", V.ref l2), (Sum.inr "many", V.ref l3)], rfl, by show 3 ≤ 15; decide, ?_⟩
    have gl4 := gl3.mut (o := .dK (mergeK [] [(Sum.inr "unknown", V.ref l1), (Sum.inr "number", V.ref l2), (Sum.inr "many", V.ref l3)])) gd3 (by simp)
    have sm4 := same_mut (o := .dK (mergeK [] [(Sum.inr "unknown", V.ref l1), (Sum.inr "number", V.ref l2), (Sum.inr "many", V.ref l3)])) sm3 hd
    generalize hH4 : upd _ d (HO.dK (mergeK [] [(Sum.inr "unknown", V.ref l1), (Sum.inr "number", V.ref l2), (Sum.inr "many", V.ref l3)])) = H4 at gl4 sm4 ⊢
    have gd4 : H4 d = some (.dK [(Sum.inr "unknown", V.ref l1), (Sum.inr "number", V.ref l2), (Sum.inr "many", V.ref l3)]) := by
      rw [← hH4, upd_same]
      kernel_rfl
    clear gd0 gd1 gd2 gd3 gl3 sm3 h1 h2 h3 hH4
    refine ⟨by show 1 ≤ sizeLine; decide, fun l4 h4 => ⟨by show 2 ≤ sizeLine; decide, fun l5 h5 => ⟨by show 2 ≤ sizeLine; decide, fun l6 h6 => ⟨by show 3 ≤ sizeLine; decide, fun t ht => ?_⟩⟩⟩⟩
    have gl5 := (((gl4.new (o := .lst [.str "ARITHMETIC"]) h4).new (o := .lst [.str "INDEX", .str "LOOKUP"]) h5).new (o := .lst [.str "DAY", .str "VALUE"]) h6).of (same_new (o := .tup [.ref l4, .ref l5, .ref l6]) ht)
    have up := (((same_new (o := .lst [.str "ARITHMETIC"]) h4).trans (same_new (o := .lst [.str "INDEX", .str "LOOKUP"]) h5)).trans (same_new (o := .lst [.str "DAY", .str "VALUE"]) h6)).trans (same_new (o := .tup [.ref l4, .ref l5, .ref l6]) ht)
    have gd5 := up _ _ gd4
    have sm5 := sm4.trans up
    refine ⟨t, _, rfl, SqT.of upd_same, rfl, _, _, rfl, _, rfl, d, _, rfl, DPut.k (k := Sum.inr "refused") gd5 (by show 3 < sizeLine; decide), ?_⟩
    generalize upd _ t (HO.tup [.ref l4, .ref l5, .ref l6]) = H5 at gl5 gd5 sm5 ⊢
    clear up gl4 gd4 sm4 h4 h5 h6 ht
    have go : ∀ (kvs : List (Key × V)) (k : Key) (v : V) (H : Hp), H5 = H ∨ True → True := fun _ _ _ _ _ => trivial
    have gl6 := gl5.mut (o := .dK (putK [(Sum.inr "unknown", V.ref l1), (Sum.inr "number", V.ref l2), (Sum.inr "many", V.ref l3)] (Sum.inr "refused") (V.ref l4))) gd5 (by simp)
    have sm6 := same_mut (o := .dK (putK [(Sum.inr "unknown", V.ref l1), (Sum.inr "number", V.ref l2), (Sum.inr "many", V.ref l3)] (Sum.inr "refused") (V.ref l4))) sm5 hd
    generalize hH6 : upd H5 d _ = H6 at gl6 sm6 ⊢
    have gd6 : H6 d = some (.dK [(Sum.inr "unknown", V.ref l1), (Sum.inr "number", V.ref l2), (Sum.inr "many", V.ref l3), (Sum.inr "refused", V.ref l4)]) := by
      rw [← hH6, upd_same]
      kernel_rfl
    clear hH6 gl5 sm5 gd5 go
    refine ⟨_, _, rfl, _, rfl, d, _, rfl, DPut.k (k := Sum.inr "undo") gd6 (by show 4 < sizeLine; decide), ?_⟩
    have gl7 := gl6.mut (o := .dK (putK [(Sum.inr "unknown", V.ref l1), (Sum.inr "number", V.ref l2), (Sum.inr "many", V.ref l3), (Sum.inr "refused", V.ref l4)] (Sum.inr "undo") (V.ref l5))) gd6 (by simp)
    have sm7 := same_mut (o := .dK (putK [(Sum.inr "unknown", V.ref l1), (Sum.inr "number", V.ref l2), (Sum.inr "many", V.ref l3), (Sum.inr "refused", V.ref l4)] (Sum.inr "undo") (V.ref l5))) sm6 hd
    generalize hH7 : upd H6 d _ = H7 at gl7 sm7 ⊢
    have gd7 : H7 d = some (.dK [(Sum.inr "unknown", V.ref l1), (Sum.inr "number", V.ref l2), (Sum.inr "many", V.ref l3), (Sum.inr "refused", V.ref l4), (Sum.inr "undo", V.ref l5)]) := by
      rw [← hH7, upd_same]
      kernel_rfl
    clear hH7 gl6 sm6 gd6
    refine ⟨_, _, rfl, _, rfl, d, _, rfl, DPut.k (k := Sum.inr "day") gd7 (by show 5 < sizeLine; decide), ?_⟩
    have gl8 := gl7.mut (o := .dK (putK [(Sum.inr "unknown", V.ref l1), (Sum.inr "number", V.ref l2), (Sum.inr "many", V.ref l3), (Sum.inr "refused", V.ref l4), (Sum.inr "undo", V.ref l5)] (Sum.inr "day") (V.ref l6))) gd7 (by simp)
    have sm8 := same_mut (o := .dK (putK [(Sum.inr "unknown", V.ref l1), (Sum.inr "number", V.ref l2), (Sum.inr "many", V.ref l3), (Sum.inr "refused", V.ref l4), (Sum.inr "undo", V.ref l5)] (Sum.inr "day") (V.ref l6))) sm7 hd
    generalize hH8 : upd H7 d _ = H8 at gl8 sm8 ⊢
    have gd8 : H8 d = some (.dK [(Sum.inr "unknown", V.ref l1), (Sum.inr "number", V.ref l2), (Sum.inr "many", V.ref l3), (Sum.inr "refused", V.ref l4), (Sum.inr "undo", V.ref l5), (Sum.inr "day", V.ref l6)]) := by
      rw [← hH8, upd_same]
      kernel_rfl
    clear hH8 gl7 sm7 gd7
    refine ⟨rfl, _, rfl, by show 1 ≤ sizeLine; decide, fun x hx => ⟨_, rfl, d, rfl, .inl ⟨_, .inl (same_new hx _ _ gd8)⟩, _, rfl, by show 2 ≤ sizeLine; decide, fun z hz => ?_⟩⟩
    have gd9 := same_new (o := .lst [.str "DAY", .str "VALUE"]) hz _ _ (same_new (o := .lst [.str (wd n)]) hx _ _ gd8)
    have gl9 := (gl8.of (same_new (o := .lst [.str (wd n)]) hx)).new (o := .lst [.str "DAY", .str "VALUE"]) hz
    have gx := same_new (o := .lst [.str "DAY", .str "VALUE"]) hz _ _ (upd_same (H := H8) (a := x) (o := .lst [.str (wd n)]))
    have sm9 := sm8.trans ((same_new (o := .lst [.str (wd n)]) hx).trans (same_new (o := .lst [.str "DAY", .str "VALUE"]) hz))
    refine ⟨_, DGet.k (k := Sum.inr (wd n)) gd9, ?_⟩
    generalize upd _ z (HO.lst [.str "DAY", .str "VALUE"]) = H9 at gd9 gl9 gx sm9 ⊢
    obtain ⟨b, eb, hb⟩ : ∃ b, (valV ([(Sum.inr "unknown", V.ref l1), (Sum.inr "number", V.ref l2), (Sum.inr "many", V.ref l3), (Sum.inr "refused", V.ref l4), (Sum.inr "undo", V.ref l5), (Sum.inr "day", V.ref l6)] : List (Key × V)) (Sum.inr (wd n))).getD (.ref z) = .ref b ∧
        H9 b = some (.lst ((due n).map V.str)) := by
      have cs : n = 0 ∨ n = 1 ∨ n = 2 ∨ n = 3 ∨ n = 4 ∨ n = 5 ∨ n = 6 ∨ n = 7 ∨ n = 8 ∨ n = 9 ∨ n = 10 ∨ n = 11 ∨ n = 12 ∨ n = 13 ∨ n = 14 ∨ n = 15 := by omega
      rcases cs with rfl | rfl | rfl | rfl | rfl | rfl | rfl | rfl | rfl | rfl | rfl | rfl | rfl | rfl | rfl | rfl
      · exact ⟨z, by kernel_rfl, gl9.get (by simp [due])⟩
      · exact ⟨z, by kernel_rfl, gl9.get (by simp [due])⟩
      · exact ⟨z, by kernel_rfl, gl9.get (by simp [due])⟩
      · exact ⟨z, by kernel_rfl, gl9.get (by simp [due])⟩
      · exact ⟨z, by kernel_rfl, gl9.get (by simp [due])⟩
      · exact ⟨z, by kernel_rfl, gl9.get (by simp [due])⟩
      · exact ⟨l6, by kernel_rfl, gl9.get (by simp [due])⟩
      · exact ⟨z, by kernel_rfl, gl9.get (by simp [due])⟩
      · exact ⟨z, by kernel_rfl, gl9.get (by simp [due])⟩
      · exact ⟨z, by kernel_rfl, gl9.get (by simp [due])⟩
      · exact ⟨z, by kernel_rfl, gl9.get (by simp [due])⟩
      · exact ⟨l1, by kernel_rfl, gl9.get (by simp [due])⟩
      · exact ⟨l2, by kernel_rfl, gl9.get (by simp [due])⟩
      · exact ⟨l3, by kernel_rfl, gl9.get (by simp [due])⟩
      · exact ⟨l4, by kernel_rfl, gl9.get (by simp [due])⟩
      · exact ⟨l5, by kernel_rfl, gl9.get (by simp [due])⟩
    rw [eb]
    have hlen : [V.str (wd n)].length + ((due n).map V.str).length ≤ sizeLine := by
      have : (due n).length ≤ 2 := by unfold due; split <;> decide
      rw [List.length_map, sizeLine_eq]
      show 1 + _ ≤ _
      omega
    exact ⟨x, b, _, _, rfl, rfl, gx, hb, hlen, fun r hr2 => k _ r (sm9.trans (same_new hr2)) (sm9.free hr2) upd_same⟩
end
end K1

namespace DW
open PySem PySem.Spec PyProof.Rows L2
/-! ### data of tuples at a depth -/
def Td (H : Hp) : Nat → V → PyData → Prop
  | 0, _, _ => False
  | n + 1, v, d => (v = .non ∧ d = .none) ∨ (∃ b, v = .bl b ∧ d = .bool b) ∨ (∃ i, v = .int i ∧ d = .int i) ∨ (∃ x, v = .str x ∧ d = .str x) ∨
    ∃ a xs ds, v = .ref a ∧ d = .tuple ds ∧ H a = some (.tup xs) ∧ xs.length < 1000 ∧ Paired (Td H n) xs ds
def KeepT (H H' : Hp) : Prop := ∀ a xs, H a = some (.tup xs) → H' a = some (.tup xs)
theorem Same.keepT {H H' : Hp} (s : Same H H') : KeepT H H' := fun a xs e => s a _ e
theorem pairedMono {α β : Type} {R R' : α → β → Prop} (f : ∀ x y, R x y → R' x y) : ∀ {xs : List α} {ys : List β}, Paired R xs ys → Paired R' xs ys
  | _, _, .nil => .nil
  | _, _, .cons r k => .cons (f _ _ r) (pairedMono f k)
theorem pairedSnoc {α β : Type} {R : α → β → Prop} : ∀ {xs : List α} {ys : List β} {x : α} {y : β}, Paired R xs ys → R x y → Paired R (xs ++ [x]) (ys ++ [y])
  | _, _, _, _, .nil, h => .cons h .nil
  | _, _, _, _, .cons r k, h => .cons r (pairedSnoc k h)
theorem pairedAt {α β : Type} {R : α → β → Prop} : ∀ {xs : List α} {ys : List β} {i : Nat} {x : α}, Paired R xs ys → xs[i]? = some x → ∃ y, ys[i]? = some y ∧ R x y
  | _, _, i, x, .nil, h => by simp at h
  | _, _, 0, x, .cons r k, h => by
    simp at h
    subst h
    exact ⟨_, rfl, r⟩
  | _, _, i + 1, x, .cons r k, h => by
    obtain ⟨y, e, q⟩ := pairedAt k (i := i) (x := x) (by simpa using h)
    exact ⟨y, by simpa using e, q⟩
theorem Td.keep {H H' : Hp} (k : KeepT H H') : ∀ {n : Nat} {v : V} {d : PyData}, Td H n v d → Td H' n v d
  | 0, _, _, h => h.elim
  | n + 1, v, d, h => by
    rcases h with h | h | h | h | ⟨a, xs, ds, e1, e2, e3, e4, e5⟩
    · exact .inl h
    · exact .inr (.inl h)
    · exact .inr (.inr (.inl h))
    · exact .inr (.inr (.inr (.inl h)))
    · exact .inr (.inr (.inr (.inr ⟨a, xs, ds, e1, e2, k _ _ e3, e4, pairedMono (fun x y z => Td.keep k z) e5⟩)))
theorem Td.int {H : Hp} {n : Nat} {v : V} {i : Int} (h : Td H (n + 1) v (.int i)) : v = .int i := by
  rcases h with h | ⟨b, _, h⟩ | ⟨j, e, h⟩ | ⟨x, _, h⟩ | ⟨a, xs, ds, _, h, _⟩
  · exact absurd h.2 (by simp)
  · cases h
  · cases h; exact e
  · cases h
  · cases h
theorem tyes {σ : L2.St} {H : Hp} {A B : Hp → Prop} (h : A H) : tYes σ H fun b H3 => if b = true then A H3 else B H3 := by
  show if true = true then A H else B H
  rw [if_pos rfl]
  exact h
theorem is_no {K : PySem.W.Frag} {a b : TS} {D : Ends} {σ : L2.St} {H : Hp} {T t : String} {v : V} (hv : σ[0]? = some (some v)) (ty : TyX K H v (.type t)) (hk : kitB t T = some false) (h : b D σ H) :
    tIfS (tB (tCB (rIsi K) (tCons (tVar 0) (tCons (tC (.ty T)) tNil)))) a b D σ H := ⟨v, hv, v, .ty T, _, _, _, rfl, .ty _, ty, kit_ty hk, _, rfl, ite2 (fun z => nomatch z) (fun _ => h)⟩
theorem is_yes {K : PySem.W.Frag} {a b : TS} {D : Ends} {σ : L2.St} {H : Hp} {T t : String} {v : V} (hv : σ[0]? = some (some v)) (ty : TyX K H v (.type t)) (hk : kitB t T = some true) (h : a D σ H) :
    tIfS (tB (tCB (rIsi K) (tCons (tVar 0) (tCons (tC (.ty T)) tNil)))) a b D σ H := ⟨v, hv, v, .ty T, _, _, _, rfl, .ty _, ty, kit_ty hk, _, rfl, ite2 (fun _ => h) (fun z => absurd rfl z)⟩
theorem takeSucc {α : Type} {ds : List α} {i : Nat} {d : α} (h : ds[i]? = some d) : ds.take (i + 1) = ds.take i ++ [d] := by
  rw [List.take_add_one, h]
  rfl
end DW
namespace K1
open PySem PySem.Spec PyProof.Rows L2 DW
abbrev sCopy : Stmt := top 18
section
variable {P : Program} {w : World} {K : PySem.W.Frag} {mg : Str → Option Value} {base : Heap}
abbrev intsK (kvs : List (Key × Int)) : List (Key × V) := kvs.map fun p => (p.1, V.int p.2)
def spC : Nat → Sp
  | 0 => fun _ _ _ _ => False
  | n + 1 => fun vs H Q _ => ∃ v, vs = [v] ∧ ((∃ d, Td H (n + 1) v d ∧ ∀ v' H', Same H H' → Td H' (n + 1) v' d → Q v' H') ∨
    (∃ a xs ds, v = .ref a ∧ H a = some (.lst xs) ∧ xs.length < 1000 ∧ Paired (Td H n) xs ds ∧ ∀ p H' ys, Same H H' → H' p = some (.lst ys) → Paired (Td H' n) ys ds → Q (.ref p) H') ∨
    ∃ (a : Addr) (kvs : List (Key × Int)), v = .ref a ∧ H a = some (.dK (intsK kvs)) ∧ kvs.length ≤ 1 ∧ 0 < n ∧ ∀ p H', Same H H' → H' p = some (.dK (intsK kvs)) → Q (.ref p) H')
theorem scCopy : FnScope ["value", "item", "key"] ["value"] (defScope sCopy) := ⟨rfl, rfl, rfl, by decide +kernel, rfl, by decide +kernel, by decide +kernel⟩
theorem ok_copy {f : Addr} {fd : FuncData} {n k : Nat} (F : Fun K "own_copy" "own_copy" sCopy f fd) (G : FnOk P w K mg base CX0 k f fd ["value"] (spC n)) (bC : Binds K fd ["value"] []) (gC : mg "own_copy" = some (.ref f))
    (zI : mg "isinstance" = none) (zL : mg "list" = none) (zT : mg "tuple" = none) (zD : mg "dict" = none) : FnOk P w K mg base CX0 (k + 1) f fd ["value"] (spC (n + 1)) := by
  refine F.ok scCopy (fun vs H Q E h => ?_) (fun cdv A outer s H vs Q E hr h => ?_)
  · obtain ⟨v, rfl, _⟩ := h
    rfl
  · obtain ⟨v, rfl, h⟩ := h
    have hu := hu_of hr
    refine ⟨_, pss_cons (ps_if (pt_val (pe_callB call_isi (by rfl) zI (by rfl) (pa_cons (pv 0) (pa_cons (pe_bltn rfl zL (by rfl) (show RelV (.ty "list") (.type "list") from rfl)) pa_nil))))
        (pss_one (ps_ret (pe_lc (own := [("item", 1)]) (g := gName 1) (tt := tYes) rfl scCopy.nd (pi_list (pv 0)) (blkOk_by (own := [("item", 1)]) (N := ["value", "item", "key"]) (sc := defScope sCopy) (by decide +kernel))
          (fun _ _ _ _ _ => pg_name (i := 1) scCopy.nd rfl (Or.inl rfl)) (fun _ _ _ _ _ => pts_nil) (fun _ _ _ _ _ => pe_call G hr rfl gC F.kp bC .nil pass0 (pa_cons (pv 1) pa_nil))))) pss_nil)
      (pss_cons (ps_if (pt_val (pe_callB call_isi (by rfl) zI (by rfl) (pa_cons (pv 0) (pa_cons (pe_bltn rfl zT (by rfl) (show RelV (.ty "tuple") (.type "tuple") from rfl)) pa_nil))))
        (pss_one (ps_ret (pe_callTy call_tuple_of (by rfl) zT (by decide +kernel) (pa_cons (pe_lc (own := [("item", 1)]) (g := gName 1) (tt := tYes) rfl scCopy.nd (pi_tup (pv 0)) (blkOk_by (own := [("item", 1)]) (N := ["value", "item", "key"]) (sc := defScope sCopy) (by decide +kernel))
          (fun _ _ _ _ _ => pg_name (i := 1) scCopy.nd rfl (Or.inl rfl)) (fun _ _ _ _ _ => pts_nil) (fun _ _ _ _ _ => pe_call G hr rfl gC F.kp bC .nil pass0 (pa_cons (pv 1) pa_nil))) pa_nil)))) pss_nil)
      (pss_cons (ps_if (pt_val (pe_callB call_isi (by rfl) zI (by rfl) (pa_cons (pv 0) (pa_cons (pe_bltn rfl zD (by rfl) (show RelV (.ty "dict") (.type "dict") from rfl)) pa_nil))))
        (pss_one (ps_ret (pe_lock (pe_dc (own := [("key", 2)]) (g := gName 2) (tt := tYes) rfl scCopy.nd (pi_keys (pv 0)) (blkOk_by (own := [("key", 2)]) (N := ["value", "item", "key"]) (sc := defScope sCopy) (by decide +kernel))
          (fun _ _ _ _ _ => pg_name (i := 2) scCopy.nd rfl (Or.inl rfl)) (fun _ _ _ _ _ => pts_nil) (fun _ _ _ _ _ => pv 2) (fun _ _ _ _ _ => pe_call G hr rfl gC F.kp bC .nil pass0 (pa_cons (pe_dget hu (pv 0) (pv 2) (fun _ _ => rfl)) pa_nil)))))) pss_nil)
      (pss_one (ps_ret (pv 0))))), ?_⟩
    have q0 : ∀ {v : V}, (L2.start ["value", "item", "key"] [v])[0]? = some (some v) := rfl
    -- one more turn over a list or a tuple
    have turn : ∀ (D : Addr) (xs : List V) (ds : List PyData) (H1 H' : Hp) (i : Nat) (x : V), H D = none → xs.length < 1000 → Paired (Td H n) xs ds → xs[i]? = some x →
        (Same H H' ∧ ∃ ys, H' D = some (.lst ys) ∧ ys.length = i ∧ Paired (Td H' n) ys (ds.take i)) →
        spC n [x] H' (fun y H4 => ∃ acc, H4 D = some (.lst acc) ∧ acc.length < sizeLine ∧ (Same H (upd H4 D (.lst (acc ++ [y]))) ∧ ∃ ys, upd H4 D (.lst (acc ++ [y])) D = some (.lst ys) ∧ ys.length = i + 1 ∧ Paired (Td (upd H4 D (.lst (acc ++ [y]))) n) ys (ds.take (i + 1)))) E0 := by
      intro D xs ds H1 H' i x hD hl hp hx p
      obtain ⟨s1, ys, hy, hlen, hpp⟩ := p
      obtain ⟨d, hd, ht⟩ := pairedAt hp hx
      have hi : i < xs.length := by
        rcases Nat.lt_or_ge i xs.length with z | z
        · exact z
        · rw [List.getElem?_eq_none z] at hx; cases hx
      cases n with
      | zero => exact ht.elim
      | succ m =>
        refine ⟨x, rfl, .inl ⟨d, Td.keep (Same.keepT s1) ht, fun v' H2 s2 t2 => ?_⟩⟩
        have hy2 := s2 _ _ hy
        have kk : KeepT H2 (upd H2 D (.lst (ys ++ [v']))) := fun b zs e => by
          rw [upd_ne fun q => ?_]
          · exact e
          · rw [q, hy2] at e; cases e
        refine ⟨ys, hy2, ?_, same_mut (s1.trans s2) hD, ys ++ [v'], upd_same, by simp [hlen], ?_⟩
        · rw [hlen, sizeLine_eq]; omega
        · rw [takeSucc hd]
          exact pairedSnoc (pairedMono (fun _ _ z => Td.keep kk (Td.keep (Same.keepT s2) z)) hpp) (Td.keep kk t2)
    rcases h with ⟨d, h, k⟩ | ⟨a, xs, ds, rfl, ha, hl, hp, k⟩ | ⟨a, kvs, rfl, ha, hl, hn, k⟩
    · rcases h with ⟨rfl, e⟩ | ⟨b, rfl, e⟩ | ⟨i, rfl, e⟩ | ⟨x, rfl, e⟩ | ⟨a, xs, ds, rfl, e, ha, hl, hp⟩
      · exact is_no q0 (.base .non) (by decide +kernel) (is_no q0 (.base .non) (by decide +kernel) (is_no q0 (.base .non) (by decide +kernel) ⟨_, rfl, k _ _ (Same.refl H) (.inl ⟨rfl, e⟩)⟩))
      · exact is_no q0 (.base (.bl b)) (by decide +kernel) (is_no q0 (.base (.bl b)) (by decide +kernel) (is_no q0 (.base (.bl b)) (by decide +kernel) ⟨_, rfl, k _ _ (Same.refl H) (.inr (.inl ⟨b, rfl, e⟩))⟩))
      · exact is_no q0 (.base (.int i)) (by decide +kernel) (is_no q0 (.base (.int i)) (by decide +kernel) (is_no q0 (.base (.int i)) (by decide +kernel) ⟨_, rfl, k _ _ (Same.refl H) (.inr (.inr (.inl ⟨i, rfl, e⟩)))⟩))
      · exact is_no q0 (.base (.str x)) (by decide +kernel) (is_no q0 (.base (.str x)) (by decide +kernel) (is_no q0 (.base (.str x)) (by decide +kernel) ⟨_, rfl, k _ _ (Same.refl H) (.inr (.inr (.inr (.inl ⟨x, rfl, e⟩))))⟩))
      · subst e
        refine is_no q0 (.base (.tup ha)) (by decide +kernel) (is_yes q0 (.base (.tup ha)) (by decide +kernel) ?_)
        refine ⟨_, rfl, a, rfl, ⟨xs, SqT.of ha⟩, fun D hD => lc_tup (K := K) (xs := xs) (fun i H' => Same H H' ∧ ∃ ys, H' D = some (.lst ys) ∧ ys.length = i ∧ Paired (Td H' n) ys (ds.take i)) ⟨same_new hD, [], upd_same, rfl, .nil⟩
          (fun i H' _ p => SqT.of (p.1 _ _ ha)) (fun i x H' hx p => ⟨rfl, tyes ⟨_, rfl, turn D xs ds H H' i x hD hl hp hx p⟩⟩) (fun H' p => ?_)⟩
        obtain ⟨s1, ys, hy, hlen, hpp⟩ := p
        rw [hp.length, List.take_length] at hpp
        refine ⟨D, ys, rfl, .inl ⟨SqL.of hy, fun l hl2 => k (.ref l) _ (s1.trans (same_new hl2)) (.inr (.inr (.inr (.inr ⟨l, ys, ds, rfl, rfl, upd_same, by omega, pairedMono (fun _ _ z => Td.keep (Same.keepT (same_new hl2)) z) hpp⟩))))⟩⟩
    · refine is_yes q0 (.base (.lst ha)) (by decide +kernel) ?_
      refine ⟨_, rfl, a, rfl, ⟨xs, SqL.of ha⟩, fun D hD => lc_list (K := K) (xs := xs) (fun i H' => Same H H' ∧ ∃ ys, H' D = some (.lst ys) ∧ ys.length = i ∧ Paired (Td H' n) ys (ds.take i)) ⟨same_new hD, [], upd_same, rfl, .nil⟩
        (fun i H' _ p => SqL.of (p.1 _ _ ha)) (fun i x H' hx p => ⟨rfl, tyes ⟨_, rfl, turn D xs ds H H' i x hD hl hp hx p⟩⟩) (fun H' p => ?_)⟩
      obtain ⟨s1, ys, hy, hlen, hpp⟩ := p
      rw [hp.length, List.take_length] at hpp
      exact k D H' ys s1 hy hpp
    · refine is_no q0 (.base (.dK ha)) (by decide +kernel) (is_no q0 (.base (.dK ha)) (by decide +kernel) (is_yes q0 (.base (.dK ha)) (by decide +kernel) ?_))
      refine ⟨a, _, ha, True.intro, fun od => ⟨_, rfl, a, od, rfl, .inl ⟨intsK kvs, upd_same, fun D hD => ?_⟩⟩⟩
      have hDa : D ≠ a := fun z => by rw [z, upd_same] at hD; cases hD
      have hD0 : H D = none := by rw [upd_ne hDa] at hD; exact hD
      refine ⟨fun i m H' => m = kvs.length - i ∧ i ≤ kvs.length ∧ Same (upd H a (.frz od (.dK (intsK kvs)))) H' ∧ H' D = some (.dK ((intsK kvs).take i)), ⟨kvs.length, rfl, Nat.zero_le _, same_new hD, upd_same⟩, ?_⟩
      rintro i m H' ⟨rfl, hi, s1, hy⟩
      have hfa := s1 _ _ (upd_same (H := H) (a := a) (o := .frz od (.dK (intsK kvs))))
      by_cases hlt : i < kvs.length
      · have i0 : i = 0 := by omega
        subst i0
        match kvs, hl, hlt with
        | [(key, j)], _, _ =>
          refine .inr ⟨⟨hfa, Nat.zero_lt_one⟩, fun H'' => Same (upd H a (.frz od (.dK (intsK [(key, j)])))) H'' ∧ H'' D = some (.dK ((intsK [(key, j)]).take 1)), fun H'' p => ⟨0, Nat.zero_lt_one, rfl, Nat.le_refl 1, p.1, p.2⟩, fun x H'' y => ?_⟩
          obtain ⟨e, k0, v0, ek, ex⟩ := y
          subst e
          cases ek
          subst ex
          refine ⟨rfl, tyes ⟨_, rfl, ⟨_, rfl, _, rfl, a, .int j, rfl, .inl ⟨_, key, .inr ⟨od, hfa⟩, rfl, (valV_pos (p := (key, V.int j)) (r := []) rfl).symm⟩, ?_⟩⟩⟩
          cases n with
          | zero => exact absurd hn (by decide)
          | succ m =>
            refine ⟨_, rfl, .inl ⟨.int j, .inr (.inr (.inl ⟨j, rfl, rfl⟩)), fun v' H2 s2 t2 => ?_⟩⟩
            cases t2.int
            exact ⟨[], key, rfl, s2 _ _ hy, by show 0 < sizeLine; decide, same_mut (s1.trans s2) hD, upd_same⟩
      · have e : i = kvs.length := by omega
        subst e
        refine .inl ⟨⟨hfa, by simp⟩, hfa, k D _ (fun b o hb => ?_) ?_⟩
        · by_cases hba : b = a
          · subst hba
            rw [ha] at hb
            rw [upd_same]
            exact hb
          · rw [upd_ne hba]
            refine s1 _ _ ?_
            rw [upd_ne hba]
            exact hb
        · rw [upd_ne hDa, hy, List.take_of_length_le (by simp)]
end
end K1

namespace DW
open PySem PySem.Spec PyProof.Rows L2
theorem storeKey : StoreFacts "KeyError" [.type "KeyError", .type "LookupError", .type "Exception", .type "BaseException", .type "object"] "object.__setattr__" "object" :=
  ⟨by kernel_rfl, .of (owner := "object") (n := "__setattr__") (by rw [typeLookup_type, builtinLookup_eq_fast]; kernel_rfl) (by decide +kernel) (by decide +kernel) (by decide +kernel)
    (by first | exact .inl (by decide +kernel) | exact .inr (by decide +kernel)) (by rw [isSubtype_type]; kernel_rfl),
   (PySem.F.store_RuntimeError).entry, by decide +kernel, by decide +kernel, by decide +kernel, fun a b c => by unfold argsOk; kernel_rfl, fun self => by kernel_rfl⟩
mutual
theorem Td.dp {K : PySem.W.Frag} {H : Hp} : ∀ {n : Nat} {v : V} {d : PyData}, Td H n v d → Dp K H v d ∧ d.hasDict = false
  | 0, _, _, h => h.elim
  | n + 1, v, d, h => by
    rcases h with ⟨rfl, rfl⟩ | ⟨b, rfl, rfl⟩ | ⟨i, rfl, rfl⟩ | ⟨x, rfl, rfl⟩ | ⟨a, xs, ds, rfl, rfl, ha, _, hp⟩
    · exact ⟨.non, rfl⟩
    · exact ⟨.bl b, rfl⟩
    · exact ⟨.int i, rfl⟩
    · exact ⟨.str x, rfl⟩
    · obtain ⟨z1, z2⟩ := Td.dpAll (K := K) hp
      exact ⟨.tup (SqT.of ha) z1, z2⟩
theorem Td.dpAll {K : PySem.W.Frag} {H : Hp} : ∀ {n : Nat} {xs : List V} {ds : List PyData}, Paired (Td H n) xs ds → DpAll K H xs ds ∧ PyData.hasDictAll ds = false
  | _, _, _, .nil => ⟨.nil, rfl⟩
  | n, _, _, .cons r k => by
    obtain ⟨a1, a2⟩ := Td.dp (K := K) r
    obtain ⟨b1, b2⟩ := Td.dpAll (K := K) k
    exact ⟨.cons a1 b1, by show (_ || _) = false; rw [a2, b2]; rfl⟩
end
/-- what is copied -/
def Cp (H : Hp) (v : V) (d : PyData) : Prop := Td H 4 v d ∨ (∃ a xs ds, v = .ref a ∧ d = .list ds ∧ H a = some (.lst xs) ∧ xs.length < 1000 ∧ Paired (Td H 3) xs ds) ∨
  ∃ (a : Addr) (kvs : List (Key × Int)), v = .ref a ∧ d = .dict (kvs.map fun p => (keyD p.1, PyData.int p.2)) ∧ H a = some (.dK (kvs.map fun p => (p.1, V.int p.2))) ∧ kvs.length ≤ 1
theorem Cp.dd {K : PySem.W.Frag} {H : Hp} {v : V} {d : PyData} (h : Cp H v d) : Dd K H v d := by
  rcases h with h | ⟨a, xs, ds, rfl, rfl, ha, _, hp⟩ | ⟨a, kvs, rfl, rfl, ha, _⟩
  · obtain ⟨z1, z2⟩ := Td.dp (K := K) h
    exact .base z1 z2
  · obtain ⟨z1, z2⟩ := Td.dpAll (K := K) hp
    exact .base (.lst (SqL.of ha) z1) z2
  · exact .dct ha
def plainO : HO → Bool
  | .tup _ => true | .lst _ => true | .dK _ => true | _ => false
def KeepD (H H' : Hp) : Prop := ∀ b o, plainO o = true → H b = some o → H' b = some o
theorem Same.keepD {H H' : Hp} (s : Same H H') : KeepD H H' := fun b o _ e => s b o e
theorem KeepD.upd {H : Hp} {a : Addr} {o u : HO} (e : H a = some u) (n : plainO u = false) : KeepD H (upd H a o) := fun b z p q => by
  rw [upd_ne fun y => ?_]
  · exact q
  · rw [y, e] at q; cases q; rw [n] at p; cases p
theorem KeepD.trans {H H1 H2 : Hp} (a : KeepD H H1) (b : KeepD H1 H2) : KeepD H H2 := fun c o p h => b c o p (a c o p h)
theorem Cp.keep {H H' : Hp} {v : V} {d : PyData} (k : KeepD H H') (h : Cp H v d) : Cp H' v d := by
  have kt : KeepT H H' := fun a xs e => k a _ rfl e
  rcases h with h | ⟨a, xs, ds, rfl, rfl, ha, hl, hp⟩ | ⟨a, kvs, rfl, rfl, ha, hl⟩
  · exact .inl (Td.keep kt h)
  · exact .inr (.inl ⟨a, xs, ds, rfl, rfl, k _ _ rfl ha, hl, pairedMono (fun _ _ z => Td.keep kt z) hp⟩)
  · exact .inr (.inr ⟨a, kvs, rfl, rfl, k _ _ rfl ha, hl⟩)
theorem plain_exq {a C t : Addr} {d : Option Addr} : plainO (exq a C d t) = false := rfl
end DW
namespace K1
open PySem PySem.Spec PyProof.Rows L2 DW
theorem spC_of {H : Hp} {v : V} {d : PyData} {Q : VK} {E : XK} (h : Cp H v d) (k : ∀ v' H', Same H H' → Cp H' v' d → Q v' H') : spC 4 [v] H Q E := by
  rcases h with h | ⟨a, xs, ds, rfl, rfl, ha, hl, hp⟩ | ⟨a, kvs, rfl, rfl, ha, hl⟩
  · exact ⟨v, rfl, .inl ⟨d, h, fun v' H' s t => k v' H' s (.inl t)⟩⟩
  · exact ⟨_, rfl, .inr (.inl ⟨a, xs, ds, rfl, ha, hl, hp, fun p H' ys s e q => k _ _ s (.inr (.inl ⟨p, ys, ds, rfl, rfl, e, by rw [q.length, ← hp.length]; exact hl, q⟩))⟩)⟩
  · exact ⟨_, rfl, .inr (.inr ⟨a, kvs, rfl, ha, hl, by decide, fun p H' s e => k _ _ s (.inr (.inr ⟨p, kvs, rfl, rfl, e, hl⟩))⟩)⟩
def clsBody (s : Stmt) : List Stmt := match s with
  | .ClassDef (body := b) .. => b
  | _ => []
def iniOf (i : Nat) : Stmt := (clsBody (top i)).getD 0 (.Pass ⟨0, 0, 0, 0⟩)
section
variable {P : Program} {w : World} {K : PySem.W.Frag} {mg : Str → Option Value} {base : Heap} {fc : Addr} {fdc : FuncData}
theorem ok_copyN {f : Addr} {fd : FuncData} (F : Fun K "own_copy" "own_copy" sCopy f fd) (bC : Binds K fd ["value"] []) (gC : mg "own_copy" = some (.ref f))
    (zI : mg "isinstance" = none) (zL : mg "list" = none) (zT : mg "tuple" = none) (zD : mg "dict" = none) : ∀ n, FnOk P w K mg base CX0 n f fd ["value"] (spC n)
  | 0 => ⟨fun _ _ _ _ h => h.elim, fun _ _ _ _ _ _ _ _ _ _ _ _ _ h => h.elim⟩
  | n + 1 => ok_copy F (ok_copyN F bC gC zI zL zT zD n) bC gC zI zL zT zD
def spIni (C : Addr) (f : Str) : Sp := fun vs H Q _ => ∃ (a : Addr) (v : V) (t : Addr) (d : PyData), vs = [.ref a, v] ∧ H a = some (exq a C none t) ∧ Cp H v d ∧ d.showable = true ∧ d.shown.length ≤ 1000 ∧ d.depth ≤ 60 ∧
  ∀ (H' : Hp) (dx t' : Addr) (v' : V), (∀ b o, b ≠ a → H b = some o → H' b = some o) → H' a = some (exq a C (some dx) t') → H' dx = some (exd dx [(f, v')]) → Cp H' v' d → Q .non H'
/-- the reading of such a body -/
theorem read_ini {C : Addr} {f p0 : Str} {newId Bn B : String} {bmB : List Value} {D : Ends} {σ : L2.St} {H : Hp} {a t : Addr} {v : V} {d : PyData} (h0 : σ[0]? = some (some (.ref a))) (h1 : σ[1]? = some (some v))
    (ha : H a = some (exq a C none t)) (hc : Cp H v d) (hs : d.showable = true) (hl : d.shown.length ≤ 1000) (hd : d.depth ≤ 60) (hp : p0.length ≤ 1000) (T : ExK K C) (q : exnB K C newId Bn B = true)
    (hov : PySem.W.excOver K C bmB = true) (htk : PySem.W.takerIn K C f = some none)
    (k : ∀ (H' : Hp) (dx t' : Addr) (v' : V), (∀ b o, b ≠ a → H b = some o → H' b = some o) → H' a = some (exq a C (some dx) t') → H' dx = some (exd dx [(f, v')]) → Cp H' v' d → D.nx σ H') :
    tSeq (tDrop (tBIn K newId Bn B (tCons (tVar 0) (tCons (fun σ H Q => tJs [tC (.str p0), tFmtD K (tVar 1)] Str.empty σ H fun out H1 => Q (.str out) H1) tNil))))
      (tXst K bmB f (tVar 0) (tCall (spC 4) [] E0 (tCons (tVar 1) tNil))) D σ H := by
  refine ⟨_, h0, p0, rfl, ?_, _, h1, d, hc.dd, hs, ?_, hd, _, rfl, ?_, ?_⟩
  · rw [sizeLine_eq]; show (Str.empty ++ p0).length ≤ _; rw [PySem.Str.length_append]; show 0 + _ ≤ _; omega
  · rw [sizeLine_eq]; omega
  · rw [sizeLine_eq, PySem.Str.length_append, PySem.Str.length_append]; show 0 + _ + _ ≤ _; omega
  · refine ⟨a, C, t, _, rfl, by show 1 ≤ 1000; decide, q, ha, fun t' => ?_⟩
    have s1 : KeepD H (upd H a (exq a C none t')) := KeepD.upd ha plain_exq
    refine ⟨v, h1, spC_of (E := E0) (hc.keep s1) fun v' H3 s3 c3 => ?_⟩
    have ha3 := s3 _ _ (upd_same (H := H) (a := a) (o := exq a C none t'))
    refine ⟨_, h0, a, C, t', rfl, T, hov, htk, ha3, fun dx hdx hne => ?_⟩
    refine k _ dx t' v' (fun b o hb e => ?_) upd_same ?_ ?_
    · rw [upd_ne hb]
      have e3 := s3 b o (by rw [upd_ne hb]; exact e)
      rw [upd_ne (ne_of_none e3 hdx)]
      exact e3
    · rw [upd_ne hne, upd_same]
    · refine c3.keep ((Same.keepD (same_new hdx)).trans (KeepD.upd (u := exq a C none t') ?_ plain_exq))
      rw [upd_ne (ne_of_none ha3 hdx)]
      exact ha3

structure CopyK (P : Program) (w : World) (K : PySem.W.Frag) (mg : Str → Option Value) (base : Heap) (f : Addr) (fd : FuncData) : Prop where
  G : FnOk P w K mg base CX0 4 f fd ["value"] (spC 4)
  b : Binds K fd ["value"] []
  g : mg "own_copy" = some (.ref f)
  kp : PySem.W.keepIn K (.ref f) = true
theorem sp_len {C : Addr} {f : Str} {vs : List V} {H : Hp} {Q : VK} (h : spIni C f vs H Q E0) : vs.length = 2 := by
  obtain ⟨a, v, t, d, rfl, _⟩ := h
  rfl
theorem scParse : FnScope ["self", "line"] ["self", "line"] (defScope (iniOf 12)) := ⟨rfl, rfl, rfl, by decide +kernel, rfl, by decide +kernel, by decide +kernel⟩
theorem ok_parse {C D f : Addr} {fd : FuncData} (F : Fun K "__init__" "ParseError.__init__" (iniOf 12) f fd) (Y : CopyK P w K mg base fc fdc) (T : ExK K C) (q : exnB K C "ValueError.__new__" "ValueError" "ValueError" = true)
    (hov : PySem.W.excOver K C [.type "ValueError", .type "Exception", .type "BaseException", .type "object"] = true) (htk : PySem.W.takerIn K C "line" = some none)
    (hm : mg "DayError" = some (.ref D)) (sg : PySem.W.specialIn K (.ref D) "__getattribute__" = some (some (.builtin "type.__getattribute__")))
    (rd : PySem.W.readsIn K D (.type "type") = true) (vV : PySem.W.findCls K (.ref D) (.type "type") "__init__" = some (.val (.builtin "ValueError.__init__"))) :
    FnG P w K mg base 5 f fd ["self", "line"] (spIni C "line") := by
  refine fng F scParse (fun vs H Q h => sp_len h) (fun cdv A outer s H vs Q hr hgu h => ?_)
  obtain ⟨a, v, t, d, rfl, ha, hc, hs, hl, hd, k⟩ := h
  refine ⟨_, pss_cons (ps_expr (pe_binC (newId := "ValueError.__new__") (Bn := "ValueError") (IniF.of PySem.F.excBase_ValueError) rfl hm sg rd vV (by decide +kernel) (pa_cons (pv 0) (pa_cons (pe_joined (.cons pe_str (.cons (pe_fmtD hgu hr.units (pv 1)) .nil))) pa_nil))))
    (pss_one (ps_xst PySem.F.store_ValueError (pv 0) (pe_call Y.G hr rfl Y.g Y.kp Y.b .nil pass0 (pa_cons (pv 1) pa_nil)))), ?_⟩
  exact read_ini (p0 := "the text cannot be read: line ") rfl rfl ha hc hs hl hd (by decide) T q hov htk k
theorem sc_unknown : FnScope ["self", "wanted"] ["self", "wanted"] (defScope (iniOf 13)) := ⟨rfl, rfl, rfl, by decide +kernel, rfl, by decide +kernel, by decide +kernel⟩
theorem ok_unknown {C f : Addr} {fd : FuncData} (F : Fun K "__init__" "UnknownName.__init__" (iniOf 13) f fd) (Y : CopyK P w K mg base fc fdc) (T : ExK K C) (q : exnB K C "LookupError.__new__" "LookupError" "KeyError" = true)
    (hov : PySem.W.excOver K C [.type "KeyError", .type "LookupError", .type "Exception", .type "BaseException", .type "object"] = true) (htk : PySem.W.takerIn K C "wanted" = some none) (hm : mg "KeyError" = none)
    (vV : PySem.W.findCls K (.type "KeyError") (.type "type") "__init__" = some (.val (.builtin "KeyError.__init__"))) : FnG P w K mg base 5 f fd ["self", "wanted"] (spIni C "wanted") := by
  refine fng F sc_unknown (fun vs H Q h => sp_len h) (fun cdv A outer s H vs Q hr hgu h => ?_)
  obtain ⟨a, v, t, d, rfl, ha, hc, hs, hl, hd, k⟩ := h
  refine ⟨_, pss_cons (ps_expr (pe_binB (newId := "LookupError.__new__") (Bn := "LookupError") ini_key rfl hm (by rfl) (by decide) (by rfl) (by rfl) vV (by decide +kernel) (pa_cons (pv 0) (pa_cons (pe_joined (.cons pe_str (.cons (pe_fmtD hgu hr.units (pv 1)) .nil))) pa_nil))))
    (pss_one (ps_xst storeKey (pv 0) (pe_call Y.G hr rfl Y.g Y.kp Y.b .nil pass0 (pa_cons (pv 1) pa_nil)))), ?_⟩
  exact read_ini (p0 := "no such name: ") rfl rfl ha hc hs hl hd (by decide) T q hov htk k
theorem sc_number : FnScope ["self", "given"] ["self", "given"] (defScope (iniOf 14)) := ⟨rfl, rfl, rfl, by decide +kernel, rfl, by decide +kernel, by decide +kernel⟩
theorem ok_number {C f : Addr} {fd : FuncData} (F : Fun K "__init__" "InvalidNumber.__init__" (iniOf 14) f fd) (Y : CopyK P w K mg base fc fdc) (T : ExK K C) (q : exnB K C "RuntimeError.__new__" "RuntimeError" "RuntimeError" = true)
    (hov : PySem.W.excOver K C [.type "RuntimeError", .type "Exception", .type "BaseException", .type "object"] = true) (htk : PySem.W.takerIn K C "given" = some none) (hm : mg "RuntimeError" = none)
    (vV : PySem.W.findCls K (.type "RuntimeError") (.type "type") "__init__" = some (.val (.builtin "RuntimeError.__init__"))) : FnG P w K mg base 5 f fd ["self", "given"] (spIni C "given") := by
  refine fng F sc_number (fun vs H Q h => sp_len h) (fun cdv A outer s H vs Q hr hgu h => ?_)
  obtain ⟨a, v, t, d, rfl, ha, hc, hs, hl, hd, k⟩ := h
  refine ⟨_, pss_cons (ps_expr (pe_binB (newId := "RuntimeError.__new__") (Bn := "RuntimeError") (IniF.of PySem.F.excBase_RuntimeError) rfl hm (by rfl) (by decide) (by rfl) (by rfl) vV (by decide +kernel) (pa_cons (pv 0) (pa_cons (pe_joined (.cons pe_str (.cons (pe_fmtD hgu hr.units (pv 1)) .nil))) pa_nil))))
    (pss_one (ps_xst PySem.F.store_RuntimeError (pv 0) (pe_call Y.G hr rfl Y.g Y.kp Y.b .nil pass0 (pa_cons (pv 1) pa_nil)))), ?_⟩
  exact read_ini (p0 := "no such number: ") rfl rfl ha hc hs hl hd (by decide) T q hov htk k
theorem sc_many : FnScope ["self", "limit"] ["self", "limit"] (defScope (iniOf 15)) := ⟨rfl, rfl, rfl, by decide +kernel, rfl, by decide +kernel, by decide +kernel⟩
theorem ok_many {C f : Addr} {fd : FuncData} (F : Fun K "__init__" "TooMany.__init__" (iniOf 15) f fd) (Y : CopyK P w K mg base fc fdc) (T : ExK K C) (q : exnB K C "OverflowError.__new__" "OverflowError" "OverflowError" = true)
    (hov : PySem.W.excOver K C [.type "OverflowError", .type "ArithmeticError", .type "Exception", .type "BaseException", .type "object"] = true) (htk : PySem.W.takerIn K C "limit" = some none) (hm : mg "OverflowError" = none)
    (vV : PySem.W.findCls K (.type "OverflowError") (.type "type") "__init__" = some (.val (.builtin "OverflowError.__init__"))) : FnG P w K mg base 5 f fd ["self", "limit"] (spIni C "limit") := by
  refine fng F sc_many (fun vs H Q h => sp_len h) (fun cdv A outer s H vs Q hr hgu h => ?_)
  obtain ⟨a, v, t, d, rfl, ha, hc, hs, hl, hd, k⟩ := h
  refine ⟨_, pss_cons (ps_expr (pe_binB (newId := "OverflowError.__new__") (Bn := "OverflowError") (IniF.of PySem.F.excBase_OverflowError) rfl hm (by rfl) (by decide) (by rfl) (by rfl) vV (by decide +kernel) (pa_cons (pv 0) (pa_cons (pe_joined (.cons pe_str (.cons (pe_fmtD hgu hr.units (pv 1)) .nil))) pa_nil))))
    (pss_one (ps_xst PySem.F.store_OverflowError (pv 0) (pe_call Y.G hr rfl Y.g Y.kp Y.b .nil pass0 (pa_cons (pv 1) pa_nil)))), ?_⟩
  exact read_ini (p0 := "more than ") rfl rfl ha hc hs hl hd (by decide) T q hov htk k
theorem sc_refused : FnScope ["self", "reason"] ["self", "reason"] (defScope (iniOf 16)) := ⟨rfl, rfl, rfl, by decide +kernel, rfl, by decide +kernel, by decide +kernel⟩
theorem ok_refused {C f : Addr} {fd : FuncData} (F : Fun K "__init__" "Refused.__init__" (iniOf 16) f fd) (Y : CopyK P w K mg base fc fdc) (T : ExK K C) (q : exnB K C "ArithmeticError.__new__" "ArithmeticError" "ArithmeticError" = true)
    (hov : PySem.W.excOver K C [.type "ArithmeticError", .type "Exception", .type "BaseException", .type "object"] = true) (htk : PySem.W.takerIn K C "reason" = some none) (hm : mg "ArithmeticError" = none)
    (vV : PySem.W.findCls K (.type "ArithmeticError") (.type "type") "__init__" = some (.val (.builtin "ArithmeticError.__init__"))) : FnG P w K mg base 5 f fd ["self", "reason"] (spIni C "reason") := by
  refine fng F sc_refused (fun vs H Q h => sp_len h) (fun cdv A outer s H vs Q hr hgu h => ?_)
  obtain ⟨a, v, t, d, rfl, ha, hc, hs, hl, hd, k⟩ := h
  refine ⟨_, pss_cons (ps_expr (pe_binB (newId := "ArithmeticError.__new__") (Bn := "ArithmeticError") (IniF.of PySem.F.excBase_ArithmeticError) rfl hm (by rfl) (by decide) (by rfl) (by rfl) vV (by decide +kernel) (pa_cons (pv 0) (pa_cons (pe_joined (.cons pe_str (.cons (pe_fmtD hgu hr.units (pv 1)) .nil))) pa_nil))))
    (pss_one (ps_xst PySem.F.store_ArithmeticError (pv 0) (pe_call Y.G hr rfl Y.g Y.kp Y.b .nil pass0 (pa_cons (pv 1) pa_nil)))), ?_⟩
  exact read_ini (p0 := "refused: ") rfl rfl ha hc hs hl hd (by decide) T q hov htk k
theorem sc_undo : FnScope ["self", "wanted"] ["self", "wanted"] (defScope (iniOf 17)) := ⟨rfl, rfl, rfl, by decide +kernel, rfl, by decide +kernel, by decide +kernel⟩
theorem ok_undo {C f : Addr} {fd : FuncData} (F : Fun K "__init__" "NothingToUndo.__init__" (iniOf 17) f fd) (Y : CopyK P w K mg base fc fdc) (T : ExK K C) (q : exnB K C "IndexError.__new__" "IndexError" "IndexError" = true)
    (hov : PySem.W.excOver K C [.type "IndexError", .type "LookupError", .type "Exception", .type "BaseException", .type "object"] = true) (htk : PySem.W.takerIn K C "wanted" = some none) (hm : mg "IndexError" = none)
    (vV : PySem.W.findCls K (.type "IndexError") (.type "type") "__init__" = some (.val (.builtin "IndexError.__init__"))) : FnG P w K mg base 5 f fd ["self", "wanted"] (spIni C "wanted") := by
  refine fng F sc_undo (fun vs H Q h => sp_len h) (fun cdv A outer s H vs Q hr hgu h => ?_)
  obtain ⟨a, v, t, d, rfl, ha, hc, hs, hl, hd, k⟩ := h
  refine ⟨_, pss_cons (ps_expr (pe_binB (newId := "IndexError.__new__") (Bn := "IndexError") (IniF.of PySem.F.excBase_IndexError) rfl hm (by rfl) (by decide) (by rfl) (by rfl) vV (by decide +kernel) (pa_cons (pv 0) (pa_cons (pe_joined (.cons pe_str (.cons (pe_fmtD hgu hr.units (pv 1)) .nil))) pa_nil))))
    (pss_one (ps_xst PySem.F.store_IndexError (pv 0) (pe_call Y.G hr rfl Y.g Y.kp Y.b .nil pass0 (pa_cons (pv 1) pa_nil)))), ?_⟩
  exact read_ini (p0 := "nothing to undo: ") rfl rfl ha hc hs hl hd (by decide) T q hov htk k
end
end K1

namespace K1
open PySem PySem.Spec PyProof.Rows L2 DW
abbrev sMade : Stmt := top 23
abbrev sKept : Stmt := top 24
abbrev sKinds : Stmt := top 25
def fld : Nat → Str
  | 10 => "line" | 12 => "given" | 13 => "limit" | 14 => "reason" | _ => "wanted"
def cname : Nat → Str
  | 0 => "InvalidName"
  | 1 => "InvalidNet"
  | 2 => "InvalidRow"
  | 3 => "InvalidTable"
  | 4 => "InvalidCourse"
  | 5 => "InvalidWay"
  | 6 => "InvalidDay"
  | 7 => "InvalidDeal"
  | 8 => "InvalidOperation"
  | 9 => "InvalidCommand"
  | 10 => "ParseError"
  | 11 => "UnknownName"
  | 12 => "InvalidNumber"
  | 13 => "TooMany"
  | 14 => "Refused"
  | 15 => "NothingToUndo"
  | 16 => "DayError"
  | _ => ""
abbrev bmV : List Value := [.type "ValueError", .type "Exception", .type "BaseException", .type "object"]
def plainN (n : Nat) : Bool := decide (n < 10) || decide (n = 16)
/-- an error of the n-th class, which keeps what d tells -/
def Made (cA : Nat → Addr) (H : Hp) (n : Nat) (a : Addr) (d : PyData) : Prop :=
  (plainN n = true ∧ ∃ t m, d = .str m ∧ H a = some (exq a (cA n) none t) ∧ H t = some (.tup [.str m])) ∨
  (plainN n = false ∧ ∃ dx t v, H a = some (exq a (cA n) (some dx) t) ∧ H dx = some (exd dx [(fld n, v)]) ∧ Cp H v d)
theorem eq_no {a b : TS} {D : Ends} {σ : L2.St} {H : Hp} {x c : Str} (hv : σ[0]? = some (some (.str x))) (ne : x ≠ c) (h : b D σ H) : tIfS (tTest (tOp rEq (tVar 0) (tC (.str c)))) a b D σ H := by
  refine ⟨_, hv, rfl, _, rfl, ?_⟩
  rw [decide_eq_false (by intro z; cases z; exact ne rfl)]
  exact iteF h
theorem eq_yes {a b : TS} {D : Ends} {σ : L2.St} {H : Hp} {x c : Str} (hv : σ[0]? = some (some (.str x))) (e : x = c) (h : a D σ H) : tIfS (tTest (tOp rEq (tVar 0) (tC (.str c)))) a b D σ H := by
  subst e
  refine ⟨_, hv, rfl, _, rfl, ?_⟩
  rw [decide_eq_true rfl]
  exact iteT h
theorem eqE_yes {a b : TE} {Q : VK} {σ : L2.St} {H : Hp} {x c : Str} (hv : σ[0]? = some (some (.str x))) (e : x = c) (h : a σ H Q) : tIf (tTest (tOp rEq (tVar 0) (tC (.str c)))) a b σ H Q := by
  subst e
  refine ⟨_, hv, rfl, _, rfl, ?_⟩
  rw [decide_eq_true rfl]
  exact h
section
variable {P : Program} {w : World} {K : PySem.W.Frag} {mg : Str → Option Value} {base : Heap} {cA : Nat → Addr}
structure PlK (K : PySem.W.Frag) (mg : Str → Option Value) (nm : Str) (C : Addr) : Prop where
  ex : ExK K C
  g : mg nm = some (.ref C)
  q : PySem.W.excInitIn K C bmV "ValueError.__new__" = true
  hi : PySem.W.findIn K (.ref C) "__init__" = some (some (.builtin "ValueError.__init__"))
  hs : PySem.W.findIn K (.ref C) "__str__" = some (some (.builtin "BaseException.__str__"))
structure OwK (P : Program) (w : World) (K : PySem.W.Frag) (mg : Str → Option Value) (base : Heap) (nm f : Str) (newId Bn B : String) (C fI : Addr) (fdI : FuncData) : Prop where
  ex : ExK K C
  g : mg nm = some (.ref C)
  q : exnB K C newId Bn B = true
  hi : PySem.W.findIn K (.ref C) "__init__" = some (some (.ref fI))
  tf : PySem.W.typeIn K (.ref fI) = some (.type "function")
  b : Binds K fdI ["self", f] []
  G : FnG P w K mg base 5 fI fdI ["self", f] (spIni C f)
  nf : PySem.W.findIn K (.ref C) f = some none
/-- what is handed in -/
def Val (H : Hp) (n : Nat) (v : V) (d : PyData) : Prop := Cp H v d ∧ (n < 10 → ∃ m, v = .str m ∧ d = .str m) ∧ (10 ≤ n → d.showable = true ∧ d.shown.length ≤ 1000 ∧ d.depth ≤ 60)
def spMade (cA : Nat → Addr) : Sp := fun vs H Q _ => ∃ n v d, n < 16 ∧ vs = [.str (wd n), v] ∧ Val H n v d ∧ ∀ H' a, Same H H' → H a = none → Made cA H' n a d → Q (.ref a) H'
theorem scMade : FnScope ["word", "value"] ["word", "value"] (defScope sMade) := ⟨rfl, rfl, rfl, by decide +kernel, rfl, by decide +kernel, by decide +kernel⟩
theorem rd_plain {n : Nat} {σ : L2.St} {H : Hp} {Q : VK} {v : V} {d : PyData} (h1 : σ[1]? = some (some v)) (hn : n < 10) (hv : Val H n v d) (k : ∀ H' a, Same H H' → H a = none → Made cA H' n a d → Q (.ref a) H') : tExP (cA n) (tVar 1) σ H Q := by
  obtain ⟨hc, h0, _⟩ := hv
  obtain ⟨m, rfl, rfl⟩ := h0 hn
  refine ⟨_, h1, fun a t ha ht ne => k _ a ((same_new ht).trans (same_new (by rw [upd_ne (Ne.symm ne)]; exact ha))) ha (.inl ⟨by simp [plainN, hn], t, m, rfl, upd_same, ?_⟩)⟩
  rw [upd_ne ne, upd_same]
theorem rd_own {n : Nat} {σ : L2.St} {H : Hp} {Q : VK} {v : V} {d : PyData} (h1 : σ[1]? = some (some v)) (hn : 10 ≤ n) (hn2 : n < 16) (hv : Val H n v d) (k : ∀ H' a, Same H H' → H a = none → Made cA H' n a d → Q (.ref a) H') : tExI (cA n) (spIni (cA n) (fld n)) (tVar 1) σ H Q := by
  obtain ⟨hc, _, h0⟩ := hv
  obtain ⟨h2, h3, h4⟩ := h0 hn
  refine ⟨_, h1, fun a t ha ht ne => ?_⟩
  have s2 : Same H (upd (upd H t (.tup [v])) a (exq a (cA n) none t)) := (same_new ht).trans (same_new (by rw [upd_ne (Ne.symm ne)]; exact ha))
  refine ⟨a, v, t, d, rfl, upd_same, hc.keep (Same.keepD s2), h2, h3, h4, fun H' dx t' v' kp ea ed c => ⟨rfl, k H' a (fun b o e => kp b o (ne_of_none e ha) (s2 b o e)) ha (.inr ⟨?_, dx, t', v', ea, ed, c⟩)⟩⟩
  have z1 : ¬ n < 10 := by omega
  have z2 : ¬ n = 16 := by omega
  simp [plainN, z1, z2]
theorem ok_made {f f10 f11 f12 f13 f14 f15 : Addr} {fd d10 d11 d12 d13 d14 d15 : FuncData} (F : Fun K "_law_made" "_law_made" sMade f fd) (p0 : PlK K mg "InvalidName" (cA 0)) (p1 : PlK K mg "InvalidNet" (cA 1)) (p2 : PlK K mg "InvalidRow" (cA 2)) (p3 : PlK K mg "InvalidTable" (cA 3)) (p4 : PlK K mg "InvalidCourse" (cA 4)) (p5 : PlK K mg "InvalidWay" (cA 5)) (p6 : PlK K mg "InvalidDay" (cA 6)) (p7 : PlK K mg "InvalidDeal" (cA 7)) (p8 : PlK K mg "InvalidOperation" (cA 8)) (p9 : PlK K mg "InvalidCommand" (cA 9)) (p16 : PlK K mg "DayError" (cA 16))
    (o10 : OwK P w K mg base "ParseError" "line" "ValueError.__new__" "ValueError" "ValueError" (cA 10) f10 d10)
    (o11 : OwK P w K mg base "UnknownName" "wanted" "LookupError.__new__" "LookupError" "KeyError" (cA 11) f11 d11)
    (o12 : OwK P w K mg base "InvalidNumber" "given" "RuntimeError.__new__" "RuntimeError" "RuntimeError" (cA 12) f12 d12)
    (o13 : OwK P w K mg base "TooMany" "limit" "OverflowError.__new__" "OverflowError" "OverflowError" (cA 13) f13 d13)
    (o14 : OwK P w K mg base "Refused" "reason" "ArithmeticError.__new__" "ArithmeticError" "ArithmeticError" (cA 14) f14 d14)
    (o15 : OwK P w K mg base "NothingToUndo" "wanted" "IndexError.__new__" "IndexError" "IndexError" (cA 15) f15 d15) :
    FnG P w K mg base 7 f fd ["word", "value"] (spMade cA) := by
  refine fng F scMade (fun vs H Q h => ?_) (fun cdv A outer s H vs Q hr hgu h => ?_)
  · obtain ⟨n, v, d, _, rfl, _⟩ := h
    rfl
  · obtain ⟨n, v, d, hn, rfl, hv, k⟩ := h
    refine ⟨_, pss_cons (ps_if (pt_cmpR op_eq (pv 0) pe_str (nomark _)) (pss_one (ps_ret (pe_exP PySem.F.excBase_ValueError p0.q p0.hi p0.ex.kC p0.g rfl (pv 1)))) pss_nil)
      (pss_cons (ps_if (pt_cmpR op_eq (pv 0) pe_str (nomark _)) (pss_one (ps_ret (pe_exP PySem.F.excBase_ValueError p1.q p1.hi p1.ex.kC p1.g rfl (pv 1)))) pss_nil)
      (pss_cons (ps_if (pt_cmpR op_eq (pv 0) pe_str (nomark _)) (pss_one (ps_ret (pe_exP PySem.F.excBase_ValueError p2.q p2.hi p2.ex.kC p2.g rfl (pv 1)))) pss_nil)
      (pss_cons (ps_if (pt_cmpR op_eq (pv 0) pe_str (nomark _)) (pss_one (ps_ret (pe_exP PySem.F.excBase_ValueError p3.q p3.hi p3.ex.kC p3.g rfl (pv 1)))) pss_nil)
      (pss_cons (ps_if (pt_cmpR op_eq (pv 0) pe_str (nomark _)) (pss_one (ps_ret (pe_exP PySem.F.excBase_ValueError p4.q p4.hi p4.ex.kC p4.g rfl (pv 1)))) pss_nil)
      (pss_cons (ps_if (pt_cmpR op_eq (pv 0) pe_str (nomark _)) (pss_one (ps_ret (pe_exP PySem.F.excBase_ValueError p5.q p5.hi p5.ex.kC p5.g rfl (pv 1)))) pss_nil)
      (pss_cons (ps_if (pt_cmpR op_eq (pv 0) pe_str (nomark _)) (pss_one (ps_ret (pe_exP PySem.F.excBase_ValueError p6.q p6.hi p6.ex.kC p6.g rfl (pv 1)))) pss_nil)
      (pss_cons (ps_if (pt_cmpR op_eq (pv 0) pe_str (nomark _)) (pss_one (ps_ret (pe_exP PySem.F.excBase_ValueError p7.q p7.hi p7.ex.kC p7.g rfl (pv 1)))) pss_nil)
      (pss_cons (ps_if (pt_cmpR op_eq (pv 0) pe_str (nomark _)) (pss_one (ps_ret (pe_exP PySem.F.excBase_ValueError p8.q p8.hi p8.ex.kC p8.g rfl (pv 1)))) pss_nil)
      (pss_cons (ps_if (pt_cmpR op_eq (pv 0) pe_str (nomark _)) (pss_one (ps_ret (pe_exP PySem.F.excBase_ValueError p9.q p9.hi p9.ex.kC p9.g rfl (pv 1)))) pss_nil)
      (pss_cons (ps_if (pt_cmpR op_eq (pv 0) pe_str (nomark _)) (pss_one (ps_ret (pe_exI PySem.F.excBase_ValueError o10.q o10.hi o10.tf o10.ex.kC o10.g rfl o10.G hr hgu o10.b (pv 1)))) pss_nil)
      (pss_cons (ps_if (pt_cmpR op_eq (pv 0) pe_str (nomark _)) (pss_one (ps_ret (pe_exI PySem.F.excBase_LookupError o11.q o11.hi o11.tf o11.ex.kC o11.g rfl o11.G hr hgu o11.b (pv 1)))) pss_nil)
      (pss_cons (ps_if (pt_cmpR op_eq (pv 0) pe_str (nomark _)) (pss_one (ps_ret (pe_exI PySem.F.excBase_RuntimeError o12.q o12.hi o12.tf o12.ex.kC o12.g rfl o12.G hr hgu o12.b (pv 1)))) pss_nil)
      (pss_cons (ps_if (pt_cmpR op_eq (pv 0) pe_str (nomark _)) (pss_one (ps_ret (pe_exI PySem.F.excBase_OverflowError o13.q o13.hi o13.tf o13.ex.kC o13.g rfl o13.G hr hgu o13.b (pv 1)))) pss_nil)
      (pss_cons (ps_if (pt_cmpR op_eq (pv 0) pe_str (nomark _)) (pss_one (ps_ret (pe_exI PySem.F.excBase_ArithmeticError o14.q o14.hi o14.tf o14.ex.kC o14.g rfl o14.G hr hgu o14.b (pv 1)))) pss_nil)
      (pss_one (ps_ret (pe_ifExp (pt_cmpR op_eq (pv 0) pe_str (nomark _)) (pe_exI PySem.F.excBase_IndexError o15.q o15.hi o15.tf o15.ex.kC o15.g rfl o15.G hr hgu o15.b (pv 1)) (pe_exP PySem.F.excBase_ValueError p16.q p16.hi p16.ex.kC p16.g rfl (pv 1))))))))))))))))))), ?_⟩
    have q0 : ∀ {x v : V}, (L2.start ["word", "value"] [x, v])[0]? = some (some x) := rfl
    have q1 : ∀ {x v : V}, (L2.start ["word", "value"] [x, v])[1]? = some (some v) := rfl
    have cs : n = 0 ∨ n = 1 ∨ n = 2 ∨ n = 3 ∨ n = 4 ∨ n = 5 ∨ n = 6 ∨ n = 7 ∨ n = 8 ∨ n = 9 ∨ n = 10 ∨ n = 11 ∨ n = 12 ∨ n = 13 ∨ n = 14 ∨ n = 15 := by omega
    rcases cs with rfl | rfl | rfl | rfl | rfl | rfl | rfl | rfl | rfl | rfl | rfl | rfl | rfl | rfl | rfl | rfl
    · exact eq_yes q0 rfl (rd_plain q1 (by decide) hv k)
    · exact eq_no q0 (by decide) (eq_yes q0 rfl (rd_plain q1 (by decide) hv k))
    · exact eq_no q0 (by decide) (eq_no q0 (by decide) (eq_yes q0 rfl (rd_plain q1 (by decide) hv k)))
    · exact eq_no q0 (by decide) (eq_no q0 (by decide) (eq_no q0 (by decide) (eq_yes q0 rfl (rd_plain q1 (by decide) hv k))))
    · exact eq_no q0 (by decide) (eq_no q0 (by decide) (eq_no q0 (by decide) (eq_no q0 (by decide) (eq_yes q0 rfl (rd_plain q1 (by decide) hv k)))))
    · exact eq_no q0 (by decide) (eq_no q0 (by decide) (eq_no q0 (by decide) (eq_no q0 (by decide) (eq_no q0 (by decide) (eq_yes q0 rfl (rd_plain q1 (by decide) hv k))))))
    · exact eq_no q0 (by decide) (eq_no q0 (by decide) (eq_no q0 (by decide) (eq_no q0 (by decide) (eq_no q0 (by decide) (eq_no q0 (by decide) (eq_yes q0 rfl (rd_plain q1 (by decide) hv k)))))))
    · exact eq_no q0 (by decide) (eq_no q0 (by decide) (eq_no q0 (by decide) (eq_no q0 (by decide) (eq_no q0 (by decide) (eq_no q0 (by decide) (eq_no q0 (by decide) (eq_yes q0 rfl (rd_plain q1 (by decide) hv k))))))))
    · exact eq_no q0 (by decide) (eq_no q0 (by decide) (eq_no q0 (by decide) (eq_no q0 (by decide) (eq_no q0 (by decide) (eq_no q0 (by decide) (eq_no q0 (by decide) (eq_no q0 (by decide) (eq_yes q0 rfl (rd_plain q1 (by decide) hv k)))))))))
    · exact eq_no q0 (by decide) (eq_no q0 (by decide) (eq_no q0 (by decide) (eq_no q0 (by decide) (eq_no q0 (by decide) (eq_no q0 (by decide) (eq_no q0 (by decide) (eq_no q0 (by decide) (eq_no q0 (by decide) (eq_yes q0 rfl (rd_plain q1 (by decide) hv k))))))))))
    · exact eq_no q0 (by decide) (eq_no q0 (by decide) (eq_no q0 (by decide) (eq_no q0 (by decide) (eq_no q0 (by decide) (eq_no q0 (by decide) (eq_no q0 (by decide) (eq_no q0 (by decide) (eq_no q0 (by decide) (eq_no q0 (by decide) (eq_yes q0 rfl (rd_own q1 (by decide) (by decide) hv k)))))))))))
    · exact eq_no q0 (by decide) (eq_no q0 (by decide) (eq_no q0 (by decide) (eq_no q0 (by decide) (eq_no q0 (by decide) (eq_no q0 (by decide) (eq_no q0 (by decide) (eq_no q0 (by decide) (eq_no q0 (by decide) (eq_no q0 (by decide) (eq_no q0 (by decide) (eq_yes q0 rfl (rd_own q1 (by decide) (by decide) hv k))))))))))))
    · exact eq_no q0 (by decide) (eq_no q0 (by decide) (eq_no q0 (by decide) (eq_no q0 (by decide) (eq_no q0 (by decide) (eq_no q0 (by decide) (eq_no q0 (by decide) (eq_no q0 (by decide) (eq_no q0 (by decide) (eq_no q0 (by decide) (eq_no q0 (by decide) (eq_no q0 (by decide) (eq_yes q0 rfl (rd_own q1 (by decide) (by decide) hv k)))))))))))))
    · exact eq_no q0 (by decide) (eq_no q0 (by decide) (eq_no q0 (by decide) (eq_no q0 (by decide) (eq_no q0 (by decide) (eq_no q0 (by decide) (eq_no q0 (by decide) (eq_no q0 (by decide) (eq_no q0 (by decide) (eq_no q0 (by decide) (eq_no q0 (by decide) (eq_no q0 (by decide) (eq_no q0 (by decide) (eq_yes q0 rfl (rd_own q1 (by decide) (by decide) hv k))))))))))))))
    · exact eq_no q0 (by decide) (eq_no q0 (by decide) (eq_no q0 (by decide) (eq_no q0 (by decide) (eq_no q0 (by decide) (eq_no q0 (by decide) (eq_no q0 (by decide) (eq_no q0 (by decide) (eq_no q0 (by decide) (eq_no q0 (by decide) (eq_no q0 (by decide) (eq_no q0 (by decide) (eq_no q0 (by decide) (eq_no q0 (by decide) (eq_yes q0 rfl (rd_own q1 (by decide) (by decide) hv k)))))))))))))))
    · exact eq_no q0 (by decide) (eq_no q0 (by decide) (eq_no q0 (by decide) (eq_no q0 (by decide) (eq_no q0 (by decide) (eq_no q0 (by decide) (eq_no q0 (by decide) (eq_no q0 (by decide) (eq_no q0 (by decide) (eq_no q0 (by decide) (eq_no q0 (by decide) (eq_no q0 (by decide) (eq_no q0 (by decide) (eq_no q0 (by decide) (eq_no q0 (by decide) (eqE_yes q0 rfl (rd_own q1 (by decide) (by decide) hv k))))))))))))))))
end
end K1

namespace K1
open PySem PySem.Spec PyProof.Rows L2 DW
theorem in2E {K : PySem.W.Frag} {a b : TE} {Q : VK} {σ : L2.St} {H : Hp} {x c1 c2 : Str} {r : Bool} (hv : σ[0]? = some (some (.str x))) (e : inV (.str x) [.str c1, .str c2] = r)
    (h : ∀ p, H p = none → if r = true then a σ (upd H p (.tup [.str c1, .str c2])) Q else b σ (upd H p (.tup [.str c1, .str c2])) Q) :
    tIf (tTest (tOp (rIn K false) (tVar 0) (tTup (tCons (tC (.str c1)) (tCons (tC (.str c2)) tNil))))) a b σ H Q := by
  refine ⟨_, hv, by show 2 ≤ sizeLine; decide, fun p hp => ⟨p, _, rfl, .inr (SqT.of upd_same), rfl, rfl, ?_⟩⟩
  show ∃ k, V.bl (inV (.str x) [.str c1, .str c2]) = .bl k ∧ _
  exact ⟨_, rfl, by rw [e]; exact h p hp⟩
section
variable {P : Program} {w : World} {K : PySem.W.Frag} {mg : Str → Option Value} {base : Heap} {cA : Nat → Addr}
def spKept (cA : Nat → Addr) : Sp := fun vs H Q _ => ∃ n a d, n < 16 ∧ vs = [.str (wd n), .ref a] ∧ Made cA H n a d ∧ ∀ v' H', Same H H' → Cp H' v' d → Q v' H'
theorem scKept : FnScope ["word", "error"] ["word", "error"] (defScope sKept) := ⟨rfl, rfl, rfl, by decide +kernel, rfl, by decide +kernel, by decide +kernel⟩
theorem rd_fld {n : Nat} {a : Addr} {d : PyData} {σ : L2.St} {H0 H : Hp} {Q : VK} (T : ExK K (cA n)) (nf : PySem.W.findIn K (.ref (cA n)) (fld n) = some none) (np : plainN n = false) (h1 : σ[1]? = some (some (.ref a))) (m : Made cA H0 n a d) (s : Same H0 H)
    (k : ∀ v' H', Same H0 H' → Cp H' v' d → Q v' H') : tXfld K (fld n) (tVar 1) σ H Q := by
  rcases m with ⟨z, _⟩ | ⟨_, dx, t, v, ea, ed, c⟩
  · rw [np] at z; cases z
  · exact ⟨_, h1, a, cA n, dx, t, _, v, rfl, s _ _ ea, s _ _ ed, T, nf, by simp [List.lookup], k v H s (c.keep (Same.keepD s))⟩
theorem rd_str {n : Nat} {a : Addr} {d : PyData} {σ : L2.St} {H0 H : Hp} {Q : VK} (T : ExK K (cA n)) (hs : PySem.W.findIn K (.ref (cA n)) "__str__" = some (some (.builtin "BaseException.__str__"))) (np : plainN n = true) (h1 : σ[1]? = some (some (.ref a))) (m : Made cA H0 n a d) (s : Same H0 H)
    (k : ∀ v' H', Same H0 H' → Cp H' v' d → Q v' H') : tCB (rStrX K) (tCons (tVar 1) tNil) σ H Q := by
  rcases m with ⟨_, t, m, rfl, ea, et⟩ | ⟨z, _⟩
  · exact ⟨_, h1, a, cA n, none, t, m, rfl, s _ _ ea, s _ _ et, T, hs, k _ H s (.inl (.inr (.inr (.inr (.inl ⟨m, rfl, rfl⟩)))))⟩
  · rw [np] at z; cases z
theorem ok_kept {f : Addr} {fd : FuncData} (F : Fun K "_law_kept" "_law_kept" sKept f fd) (p0 : PlK K mg "InvalidName" (cA 0)) (p1 : PlK K mg "InvalidNet" (cA 1)) (p2 : PlK K mg "InvalidRow" (cA 2)) (p3 : PlK K mg "InvalidTable" (cA 3)) (p4 : PlK K mg "InvalidCourse" (cA 4)) (p5 : PlK K mg "InvalidWay" (cA 5)) (p6 : PlK K mg "InvalidDay" (cA 6)) (p7 : PlK K mg "InvalidDeal" (cA 7)) (p8 : PlK K mg "InvalidOperation" (cA 8)) (p9 : PlK K mg "InvalidCommand" (cA 9)) (x10 : ExK K (cA 10)) (y10 : PySem.W.findIn K (.ref (cA 10)) (fld 10) = some none) (x11 : ExK K (cA 11)) (y11 : PySem.W.findIn K (.ref (cA 11)) (fld 11) = some none) (x12 : ExK K (cA 12)) (y12 : PySem.W.findIn K (.ref (cA 12)) (fld 12) = some none) (x13 : ExK K (cA 13)) (y13 : PySem.W.findIn K (.ref (cA 13)) (fld 13) = some none) (x14 : ExK K (cA 14)) (y14 : PySem.W.findIn K (.ref (cA 14)) (fld 14) = some none) (x15 : ExK K (cA 15)) (y15 : PySem.W.findIn K (.ref (cA 15)) (fld 15) = some none) (zS : mg "str" = none) : FnOk P w K mg base CX0 1 f fd ["word", "error"] (spKept cA) := by
  refine F.ok scKept (fun vs H Q E h => ?_) (fun cdv A outer s H vs Q E hr h => ?_)
  · obtain ⟨n, a, d, _, rfl, _⟩ := h
    rfl
  · obtain ⟨n, a, d, hn, rfl, m, k⟩ := h
    refine ⟨_, pss_cons (ps_if (pt_cmpR op_eq (pv 0) pe_str (nomark _)) (pss_one (ps_ret (pe_xfld (pv 1)))) pss_nil)
      (pss_cons (ps_if (pt_cmpR op_eq (pv 0) pe_str (nomark _)) (pss_one (ps_ret (pe_xfld (pv 1)))) pss_nil)
      (pss_cons (ps_if (pt_cmpR op_eq (pv 0) pe_str (nomark _)) (pss_one (ps_ret (pe_xfld (pv 1)))) pss_nil)
      (pss_cons (ps_if (pt_cmpR op_eq (pv 0) pe_str (nomark _)) (pss_one (ps_ret (pe_xfld (pv 1)))) pss_nil)
      (pss_one (ps_ret (pe_ifExp (pt_cmpR op_in_seq (pv 0) (pe_tup (pa_cons pe_str (pa_cons pe_str pa_nil))) (by rfl)) (pe_xfld (pv 1)) (pe_callTy (call_strX hr.units) (by rfl) zS (by decide +kernel) (pa_cons (pv 1) pa_nil)))))))), ?_⟩
    have q0 : ∀ {x v : V}, (L2.start ["word", "error"] [x, v])[0]? = some (some x) := rfl
    have q1 : ∀ {x v : V}, (L2.start ["word", "error"] [x, v])[1]? = some (some v) := rfl
    have cs : n = 0 ∨ n = 1 ∨ n = 2 ∨ n = 3 ∨ n = 4 ∨ n = 5 ∨ n = 6 ∨ n = 7 ∨ n = 8 ∨ n = 9 ∨ n = 10 ∨ n = 11 ∨ n = 12 ∨ n = 13 ∨ n = 14 ∨ n = 15 := by omega
    rcases cs with rfl | rfl | rfl | rfl | rfl | rfl | rfl | rfl | rfl | rfl | rfl | rfl | rfl | rfl | rfl | rfl
    · exact eq_no q0 (by decide) (eq_no q0 (by decide) (eq_no q0 (by decide) (eq_no q0 (by decide) (in2E (r := false) q0 (by kernel_rfl) (fun p hp => iteF (rd_str (n := 0) p0.ex p0.hs rfl q1 m (same_new hp) k))))))
    · exact eq_no q0 (by decide) (eq_no q0 (by decide) (eq_no q0 (by decide) (eq_no q0 (by decide) (in2E (r := false) q0 (by kernel_rfl) (fun p hp => iteF (rd_str (n := 1) p1.ex p1.hs rfl q1 m (same_new hp) k))))))
    · exact eq_no q0 (by decide) (eq_no q0 (by decide) (eq_no q0 (by decide) (eq_no q0 (by decide) (in2E (r := false) q0 (by kernel_rfl) (fun p hp => iteF (rd_str (n := 2) p2.ex p2.hs rfl q1 m (same_new hp) k))))))
    · exact eq_no q0 (by decide) (eq_no q0 (by decide) (eq_no q0 (by decide) (eq_no q0 (by decide) (in2E (r := false) q0 (by kernel_rfl) (fun p hp => iteF (rd_str (n := 3) p3.ex p3.hs rfl q1 m (same_new hp) k))))))
    · exact eq_no q0 (by decide) (eq_no q0 (by decide) (eq_no q0 (by decide) (eq_no q0 (by decide) (in2E (r := false) q0 (by kernel_rfl) (fun p hp => iteF (rd_str (n := 4) p4.ex p4.hs rfl q1 m (same_new hp) k))))))
    · exact eq_no q0 (by decide) (eq_no q0 (by decide) (eq_no q0 (by decide) (eq_no q0 (by decide) (in2E (r := false) q0 (by kernel_rfl) (fun p hp => iteF (rd_str (n := 5) p5.ex p5.hs rfl q1 m (same_new hp) k))))))
    · exact eq_no q0 (by decide) (eq_no q0 (by decide) (eq_no q0 (by decide) (eq_no q0 (by decide) (in2E (r := false) q0 (by kernel_rfl) (fun p hp => iteF (rd_str (n := 6) p6.ex p6.hs rfl q1 m (same_new hp) k))))))
    · exact eq_no q0 (by decide) (eq_no q0 (by decide) (eq_no q0 (by decide) (eq_no q0 (by decide) (in2E (r := false) q0 (by kernel_rfl) (fun p hp => iteF (rd_str (n := 7) p7.ex p7.hs rfl q1 m (same_new hp) k))))))
    · exact eq_no q0 (by decide) (eq_no q0 (by decide) (eq_no q0 (by decide) (eq_no q0 (by decide) (in2E (r := false) q0 (by kernel_rfl) (fun p hp => iteF (rd_str (n := 8) p8.ex p8.hs rfl q1 m (same_new hp) k))))))
    · exact eq_no q0 (by decide) (eq_no q0 (by decide) (eq_no q0 (by decide) (eq_no q0 (by decide) (in2E (r := false) q0 (by kernel_rfl) (fun p hp => iteF (rd_str (n := 9) p9.ex p9.hs rfl q1 m (same_new hp) k))))))
    · exact eq_yes q0 rfl (rd_fld (n := 10) x10 y10 rfl q1 m (Same.refl H) k)
    · exact eq_no q0 (by decide) (eq_no q0 (by decide) (eq_no q0 (by decide) (eq_no q0 (by decide) (in2E (r := true) q0 (by kernel_rfl) (fun p hp => iteT (rd_fld (n := 11) x11 y11 rfl q1 m (same_new hp) k))))))
    · exact eq_no q0 (by decide) (eq_yes q0 rfl (rd_fld (n := 12) x12 y12 rfl q1 m (Same.refl H) k))
    · exact eq_no q0 (by decide) (eq_no q0 (by decide) (eq_yes q0 rfl (rd_fld (n := 13) x13 y13 rfl q1 m (Same.refl H) k)))
    · exact eq_no q0 (by decide) (eq_no q0 (by decide) (eq_no q0 (by decide) (eq_yes q0 rfl (rd_fld (n := 14) x14 y14 rfl q1 m (Same.refl H) k))))
    · exact eq_no q0 (by decide) (eq_no q0 (by decide) (eq_no q0 (by decide) (eq_no q0 (by decide) (in2E (r := true) q0 (by kernel_rfl) (fun p hp => iteT (rd_fld (n := 15) x15 y15 rfl q1 m (same_new hp) k))))))
/-! ### the kinds -/
def PrAt (H : Hp) (v : V) (p : Str × Bool) : Prop := ∃ t, v = .ref t ∧ H t = some (.tup [.str p.1, .bl p.2])
theorem PrAt.same {H H' : Hp} {v : V} {p : Str × Bool} (s : Same H H') (h : PrAt H v p) : PrAt H' v p := by
  obtain ⟨t, e, q⟩ := h
  exact ⟨t, e, s _ _ q⟩
def Pl (H0 H : Hp) (l : Addr) (ps : List (Str × Bool)) : Prop := Same H0 H ∧ H0 l = none ∧ ∃ ts, H l = some (.lst ts) ∧ Paired (PrAt H) ts ps
structure Er (K : PySem.W.Frag) (H : Hp) (a C : Addr) : Prop where
  at' : ∃ d t, H a = some (exq a C d t) ∧ ∀ x, d = some x → ∃ fs, H x = some (exd x fs)
  T : ExK K C
theorem Er.same {H H' : Hp} {a C : Addr} (s : Same H H') (h : Er K H a C) : Er K H' a C := by
  obtain ⟨⟨d, t, e, q⟩, T⟩ := h
  refine ⟨⟨d, t, s _ _ e, fun x hx => ?_⟩, T⟩
  obtain ⟨fs, z⟩ := q x hx
  exact ⟨fs, s _ _ z⟩
abbrev tPr (K : PySem.W.Frag) (x : Str) (c : V) : TE := tTup (tCons (tC (.str x)) (tCons (tCB (rIsX K) (tCons (tVar 0) (tCons (tC c) tNil))) tNil))
theorem rd_pr {C a : Addr} {x : Str} {c : V} {u : Value} {b : Bool} {σ : L2.St} {H : Hp} {Q : VK} (h0 : σ[0]? = some (some (.ref a))) (e : Er K H a C) (hc : ClsV c u) (hk : PySem.W.kitOne K (.ref C) u = some b)
    (k : ∀ p, H p = none → Q (.ref p) (upd H p (.tup [.str x, .bl b]))) : tPr K x c σ H Q := by
  obtain ⟨⟨d, t, e1, e2⟩, T⟩ := e
  exact ⟨_, h0, a, C, d, t, c, u, b, rfl, hc, e1, e2, T, hk, by show 2 ≤ sizeLine; decide, k⟩
abbrev tTwo (K : PySem.W.Frag) (x1 x2 : Str) (c1 c2 : V) : TE := tLst (tCons (tPr K x1 c1) (tCons (tPr K x2 c2) tNil))
theorem rd_two {C a : Addr} {x1 x2 : Str} {c1 c2 : V} {u1 u2 : Value} {b1 b2 : Bool} {σ : L2.St} {H : Hp} {Q : VK} (h0 : σ[0]? = some (some (.ref a))) (e : Er K H a C) (hc1 : ClsV c1 u1) (hk1 : PySem.W.kitOne K (.ref C) u1 = some b1) (hc2 : ClsV c2 u2) (hk2 : PySem.W.kitOne K (.ref C) u2 = some b2)
    (k : ∀ H' q p1 p2, Same H H' → H q = none → H' q = some (.lst [.ref p1, .ref p2]) → PrAt H' (.ref p1) (x1, b1) → PrAt H' (.ref p2) (x2, b2) → Q (.ref q) H') : tTwo K x1 x2 c1 c2 σ H Q := by
  show tPr K x1 c1 σ H (fun v H1 => tPr K x2 c2 σ H1 fun v2 H2 => [v, v2].length ≤ sizeLine ∧ ∀ p, H2 p = none → Q (.ref p) (upd H2 p (.lst [v, v2])))
  refine rd_pr h0 e hc1 hk1 fun p1 n1 => ?_
  have s1 := same_new (o := .tup [.str x1, .bl b1]) n1
  refine rd_pr h0 (e.same s1) hc2 hk2 fun p2 n2 => ?_
  have s2 := same_new (o := .tup [.str x2, .bl b2]) n2
  refine ⟨by show 2 ≤ sizeLine; decide, fun q nq => ?_⟩
  have s3 := same_new (o := .lst [.ref p1, .ref p2]) nq
  exact k _ q p1 p2 (s1.trans (s2.trans s3)) ((s1.trans s2).free nq) upd_same ⟨p1, rfl, s3 _ _ (s2 _ _ upd_same)⟩ ⟨p2, rfl, s3 _ _ upd_same⟩
theorem rd_first {C a : Addr} {x1 x2 : Str} {c1 c2 : V} {u1 u2 : Value} {b1 b2 : Bool} {D : Ends} {H : Hp} (e : Er K H a C) (hc1 : ClsV c1 u1) (hk1 : PySem.W.kitOne K (.ref C) u1 = some b1) (hc2 : ClsV c2 u2) (hk2 : PySem.W.kitOne K (.ref C) u2 = some b2)
    (k : ∀ H' l, Pl H H' l [(x1, b1), (x2, b2)] → D.nx [some (.ref a), some (.ref l), none, none] H') : tAsg (tTwo K x1 x2 c1 c2) (gName 1) D [some (.ref a), none, none, none] H := by
  show tTwo K x1 x2 c1 c2 [some (.ref a), none, none, none] H (fun x H1 => D.nx [some (.ref a), some x, none, none] H1)
  exact rd_two rfl e hc1 hk1 hc2 hk2 fun H' q p1 p2 s n hq r1 r2 => k H' q ⟨s, n, _, hq, .cons r1 (.cons r2 .nil)⟩
theorem rd_more {C a : Addr} {x1 x2 : Str} {c1 c2 : V} {u1 u2 : Value} {b1 b2 : Bool} {D : Ends} {H0 H : Hp} {l : Addr} {ps : List (Str × Bool)} (e : Er K H0 a C) (pl : Pl H0 H l ps) (hz : ps.length ≤ 100)
    (hc1 : ClsV c1 u1) (hk1 : PySem.W.kitOne K (.ref C) u1 = some b1) (hc2 : ClsV c2 u2) (hk2 : PySem.W.kitOne K (.ref C) u2 = some b2)
    (k : ∀ H' l', Pl H0 H' l' (ps ++ [(x1, b1), (x2, b2)]) → D.nx [some (.ref a), some (.ref l'), none, none] H') : tAsg (tOp rCat (tVar 1) (tTwo K x1 x2 c1 c2)) (gName 1) D [some (.ref a), some (.ref l), none, none] H := by
  obtain ⟨s0, n0, ts, hl, hp⟩ := pl
  refine ⟨_, rfl, rd_two rfl (e.same s0) hc1 hk1 hc2 hk2 fun H' q p1 p2 s n hq r1 r2 => ?_⟩
  refine ⟨l, q, ts, _, rfl, rfl, s _ _ hl, hq, ?_, fun r nr => ?_⟩
  · rw [hp.length, sizeLine_eq]; show ps.length + 2 ≤ _; omega
  · have s4 := same_new (o := .lst (ts ++ [.ref p1, .ref p2])) nr
    have up : ∀ v p, PrAt H v p → PrAt (upd H' r (.lst (ts ++ [.ref p1, .ref p2]))) v p := fun v p z => (z.same s).same s4
    refine k _ r ⟨(s0.trans s).trans s4, (s0.trans s).free nr, _, upd_same, ?_⟩
    have z := pairedSnoc (pairedSnoc (pairedMono up hp) (r1.same s4)) (r2.same s4)
    rw [List.append_assoc, List.append_assoc] at z
    exact z
def kb : Nat → Nat → Bool
  | 0, 0 => true
  | 0, 16 => true
  | 0, 17 => true
  | 1, 1 => true
  | 1, 16 => true
  | 1, 17 => true
  | 2, 2 => true
  | 2, 16 => true
  | 2, 17 => true
  | 3, 3 => true
  | 3, 16 => true
  | 3, 17 => true
  | 4, 4 => true
  | 4, 16 => true
  | 4, 17 => true
  | 5, 5 => true
  | 5, 16 => true
  | 5, 17 => true
  | 6, 6 => true
  | 6, 16 => true
  | 6, 17 => true
  | 7, 7 => true
  | 7, 16 => true
  | 7, 17 => true
  | 8, 8 => true
  | 8, 16 => true
  | 8, 17 => true
  | 9, 9 => true
  | 9, 16 => true
  | 9, 17 => true
  | 10, 10 => true
  | 10, 16 => true
  | 10, 17 => true
  | 11, 11 => true
  | 11, 18 => true
  | 11, 23 => true
  | 12, 12 => true
  | 12, 19 => true
  | 13, 13 => true
  | 13, 20 => true
  | 13, 21 => true
  | 14, 14 => true
  | 14, 21 => true
  | 15, 15 => true
  | 15, 22 => true
  | 15, 23 => true
  | 16, 16 => true
  | 16, 17 => true
  | _, _ => false
def kw : Nat → Str
  | 0 => "name"
  | 1 => "net"
  | 2 => "row"
  | 3 => "table"
  | 4 => "course"
  | 5 => "way"
  | 6 => "day"
  | 7 => "deal"
  | 8 => "operation"
  | 9 => "command"
  | 10 => "parse"
  | 11 => "unknown"
  | 12 => "number"
  | 13 => "many"
  | 14 => "refused"
  | 15 => "undo"
  | 16 => "DAY"
  | 17 => "VALUE"
  | 18 => "KEY"
  | 19 => "RUNTIME"
  | 20 => "OVERFLOW"
  | 21 => "ARITHMETIC"
  | 22 => "INDEX"
  | 23 => "LOOKUP"
  | 24 => "TYPE"
  | 25 => "ZERO"
  | _ => ""
def cu (cA : Nat → Addr) : Nat → Value
  | 17 => .type "ValueError"
  | 18 => .type "KeyError"
  | 19 => .type "RuntimeError"
  | 20 => .type "OverflowError"
  | 21 => .type "ArithmeticError"
  | 22 => .type "IndexError"
  | 23 => .type "LookupError"
  | 24 => .type "TypeError"
  | 25 => .type "ZeroDivisionError"
  | j => .ref (cA j)
def allP (n : Nat) : List (Str × Bool) := (List.range 26).map fun j => (kw j, kb n j)
def kl (n : Nat) : List Str := ((allP n).filter (·.2)).map (·.1)
def spKinds (K : PySem.W.Frag) (cA : Nat → Addr) : Sp := fun vs H Q _ => ∃ n a, n < 17 ∧ vs = [.ref a] ∧ Er K H a (cA n) ∧ ∀ H' p, Same H H' → H p = none → H' p = some (.lst ((kl n).map V.str)) → Q (.ref p) H'
theorem rd_comp {n : Nat} {x0 : Option V} {l : Addr} {H0 H : Hp} {Q : VK} (P : Pl H0 H l (allP n)) (k : ∀ H' D, Same H0 H' → H0 D = none → H' D = some (.lst ((kl n).map V.str)) → Q (.ref D) H') :
    tLc (iList K (tVar 1)) (gTup K 2 (gCons (gName 2) (gCons (gName 3) gNil))) (tB (tVar 3)) (tVar 2) [2, 3] [x0, some (.ref l), none, none] H Q := by
  obtain ⟨s0, n0, ts, hl, hp⟩ := P
  have hlt : ts.length = 26 := by rw [hp.length]; rfl
  refine ⟨_, rfl, l, rfl, ⟨ts, SqL.of hl⟩, fun D hD => lc_list (K := K) (xs := ts) (fun i H' => Same H H' ∧ H' D = some (.lst ((((allP n).take i).filter (·.2)).map fun p => V.str p.1))) ⟨same_new hD, upd_same⟩
    (fun i H' _ p => SqL.of (p.1 _ _ hl)) (fun i x H' hx p => ?_) (fun H' p => ?_)⟩
  · obtain ⟨s1, hy⟩ := p
    obtain ⟨⟨wj, bj⟩, ej, t, rfl, ht⟩ := pairedAt hp hx
    refine ⟨t, _, rfl, SqT.of (s1 _ _ ht), rfl, _, _, rfl, _, _, rfl, rfl, rfl, _, rfl, bj, rfl, ?_⟩
    rw [takeSucc ej, List.filter_append, List.map_append]
    cases bj with
    | false => exact iteF ⟨s1, by simpa using hy⟩
    | true =>
      refine iteT ⟨_, rfl, _, hy, ?_, same_mut s1 hD, ?_⟩
      · have := List.length_filter_le (fun p : Str × Bool => p.2) ((allP n).take i)
        have h2 : ((allP n).take i).length ≤ 26 := by rw [List.length_take]; exact Nat.min_le_right _ _
        rw [List.length_map, sizeLine_eq]
        omega
      · rw [upd_same]
        simp
  · obtain ⟨s1, hy⟩ := p
    rw [hlt, List.take_of_length_le (by show 26 ≤ 26; decide)] at hy
    refine k H' D (s0.trans s1) (s0.free hD) ?_
    rw [hy]
    simp [kl]
theorem scKinds : FnScope ["error", "some", "word", "is_one"] ["error"] (defScope sKinds) := ⟨rfl, rfl, rfl, by decide +kernel, rfl, by decide +kernel, by decide +kernel⟩
theorem ok_kinds {f : Addr} {fd : FuncData} (F : Fun K "_law_kinds" "_law_kinds" sKinds f fd) (g0 : mg "InvalidName" = some (.ref (cA 0))) (g1 : mg "InvalidNet" = some (.ref (cA 1))) (g2 : mg "InvalidRow" = some (.ref (cA 2))) (g3 : mg "InvalidTable" = some (.ref (cA 3))) (g4 : mg "InvalidCourse" = some (.ref (cA 4))) (g5 : mg "InvalidWay" = some (.ref (cA 5))) (g6 : mg "InvalidDay" = some (.ref (cA 6))) (g7 : mg "InvalidDeal" = some (.ref (cA 7))) (g8 : mg "InvalidOperation" = some (.ref (cA 8))) (g9 : mg "InvalidCommand" = some (.ref (cA 9))) (g10 : mg "ParseError" = some (.ref (cA 10))) (g11 : mg "UnknownName" = some (.ref (cA 11))) (g12 : mg "InvalidNumber" = some (.ref (cA 12))) (g13 : mg "TooMany" = some (.ref (cA 13))) (g14 : mg "Refused" = some (.ref (cA 14))) (g15 : mg "NothingToUndo" = some (.ref (cA 15))) (g16 : mg "DayError" = some (.ref (cA 16))) (z17 : mg "ValueError" = none) (z18 : mg "KeyError" = none) (z19 : mg "RuntimeError" = none) (z20 : mg "OverflowError" = none) (z21 : mg "ArithmeticError" = none) (z22 : mg "IndexError" = none) (z23 : mg "LookupError" = none) (z24 : mg "TypeError" = none) (z25 : mg "ZeroDivisionError" = none) (zI : mg "isinstance" = none) (kit : ∀ n j, n < 17 → j < 26 → PySem.W.kitOne K (.ref (cA n)) (cu cA j) = some (kb n j)) :
    FnOk P w K mg base CX0 1 f fd ["error"] (spKinds K cA) := by
  refine F.ok scKinds (fun vs H Q E h => ?_) (fun cdv A outer s H vs Q E hr h => ?_)
  · obtain ⟨n, a, _, rfl, _⟩ := h
    rfl
  · obtain ⟨n, a, hn, rfl, er, k⟩ := h
    refine ⟨_, pss_cons (ps_set (i := 1) scKinds.nd rfl (Or.inl rfl) (pe_lst (pa_cons (pe_tup (pa_cons pe_str (pa_cons (pe_callB call_isX (by rfl) zI (by rfl) (pa_cons (pv 0) (pa_cons (pe_glob rfl g0 (show RelV (.ref (cA 0)) (.ref (cA 0)) from rfl)) pa_nil))) pa_nil))) (pa_cons (pe_tup (pa_cons pe_str (pa_cons (pe_callB call_isX (by rfl) zI (by rfl) (pa_cons (pv 0) (pa_cons (pe_glob rfl g1 (show RelV (.ref (cA 1)) (.ref (cA 1)) from rfl)) pa_nil))) pa_nil))) pa_nil))))
      (pss_cons (ps_set (i := 1) scKinds.nd rfl (Or.inl rfl) (pe_op op_cat (pv 1) (pe_lst (pa_cons (pe_tup (pa_cons pe_str (pa_cons (pe_callB call_isX (by rfl) zI (by rfl) (pa_cons (pv 0) (pa_cons (pe_glob rfl g2 (show RelV (.ref (cA 2)) (.ref (cA 2)) from rfl)) pa_nil))) pa_nil))) (pa_cons (pe_tup (pa_cons pe_str (pa_cons (pe_callB call_isX (by rfl) zI (by rfl) (pa_cons (pv 0) (pa_cons (pe_glob rfl g3 (show RelV (.ref (cA 3)) (.ref (cA 3)) from rfl)) pa_nil))) pa_nil))) pa_nil)))))
      (pss_cons (ps_set (i := 1) scKinds.nd rfl (Or.inl rfl) (pe_op op_cat (pv 1) (pe_lst (pa_cons (pe_tup (pa_cons pe_str (pa_cons (pe_callB call_isX (by rfl) zI (by rfl) (pa_cons (pv 0) (pa_cons (pe_glob rfl g4 (show RelV (.ref (cA 4)) (.ref (cA 4)) from rfl)) pa_nil))) pa_nil))) (pa_cons (pe_tup (pa_cons pe_str (pa_cons (pe_callB call_isX (by rfl) zI (by rfl) (pa_cons (pv 0) (pa_cons (pe_glob rfl g5 (show RelV (.ref (cA 5)) (.ref (cA 5)) from rfl)) pa_nil))) pa_nil))) pa_nil)))))
      (pss_cons (ps_set (i := 1) scKinds.nd rfl (Or.inl rfl) (pe_op op_cat (pv 1) (pe_lst (pa_cons (pe_tup (pa_cons pe_str (pa_cons (pe_callB call_isX (by rfl) zI (by rfl) (pa_cons (pv 0) (pa_cons (pe_glob rfl g6 (show RelV (.ref (cA 6)) (.ref (cA 6)) from rfl)) pa_nil))) pa_nil))) (pa_cons (pe_tup (pa_cons pe_str (pa_cons (pe_callB call_isX (by rfl) zI (by rfl) (pa_cons (pv 0) (pa_cons (pe_glob rfl g7 (show RelV (.ref (cA 7)) (.ref (cA 7)) from rfl)) pa_nil))) pa_nil))) pa_nil)))))
      (pss_cons (ps_set (i := 1) scKinds.nd rfl (Or.inl rfl) (pe_op op_cat (pv 1) (pe_lst (pa_cons (pe_tup (pa_cons pe_str (pa_cons (pe_callB call_isX (by rfl) zI (by rfl) (pa_cons (pv 0) (pa_cons (pe_glob rfl g8 (show RelV (.ref (cA 8)) (.ref (cA 8)) from rfl)) pa_nil))) pa_nil))) (pa_cons (pe_tup (pa_cons pe_str (pa_cons (pe_callB call_isX (by rfl) zI (by rfl) (pa_cons (pv 0) (pa_cons (pe_glob rfl g9 (show RelV (.ref (cA 9)) (.ref (cA 9)) from rfl)) pa_nil))) pa_nil))) pa_nil)))))
      (pss_cons (ps_set (i := 1) scKinds.nd rfl (Or.inl rfl) (pe_op op_cat (pv 1) (pe_lst (pa_cons (pe_tup (pa_cons pe_str (pa_cons (pe_callB call_isX (by rfl) zI (by rfl) (pa_cons (pv 0) (pa_cons (pe_glob rfl g10 (show RelV (.ref (cA 10)) (.ref (cA 10)) from rfl)) pa_nil))) pa_nil))) (pa_cons (pe_tup (pa_cons pe_str (pa_cons (pe_callB call_isX (by rfl) zI (by rfl) (pa_cons (pv 0) (pa_cons (pe_glob rfl g11 (show RelV (.ref (cA 11)) (.ref (cA 11)) from rfl)) pa_nil))) pa_nil))) pa_nil)))))
      (pss_cons (ps_set (i := 1) scKinds.nd rfl (Or.inl rfl) (pe_op op_cat (pv 1) (pe_lst (pa_cons (pe_tup (pa_cons pe_str (pa_cons (pe_callB call_isX (by rfl) zI (by rfl) (pa_cons (pv 0) (pa_cons (pe_glob rfl g12 (show RelV (.ref (cA 12)) (.ref (cA 12)) from rfl)) pa_nil))) pa_nil))) (pa_cons (pe_tup (pa_cons pe_str (pa_cons (pe_callB call_isX (by rfl) zI (by rfl) (pa_cons (pv 0) (pa_cons (pe_glob rfl g13 (show RelV (.ref (cA 13)) (.ref (cA 13)) from rfl)) pa_nil))) pa_nil))) pa_nil)))))
      (pss_cons (ps_set (i := 1) scKinds.nd rfl (Or.inl rfl) (pe_op op_cat (pv 1) (pe_lst (pa_cons (pe_tup (pa_cons pe_str (pa_cons (pe_callB call_isX (by rfl) zI (by rfl) (pa_cons (pv 0) (pa_cons (pe_glob rfl g14 (show RelV (.ref (cA 14)) (.ref (cA 14)) from rfl)) pa_nil))) pa_nil))) (pa_cons (pe_tup (pa_cons pe_str (pa_cons (pe_callB call_isX (by rfl) zI (by rfl) (pa_cons (pv 0) (pa_cons (pe_glob rfl g15 (show RelV (.ref (cA 15)) (.ref (cA 15)) from rfl)) pa_nil))) pa_nil))) pa_nil)))))
      (pss_cons (ps_set (i := 1) scKinds.nd rfl (Or.inl rfl) (pe_op op_cat (pv 1) (pe_lst (pa_cons (pe_tup (pa_cons pe_str (pa_cons (pe_callB call_isX (by rfl) zI (by rfl) (pa_cons (pv 0) (pa_cons (pe_glob rfl g16 (show RelV (.ref (cA 16)) (.ref (cA 16)) from rfl)) pa_nil))) pa_nil))) (pa_cons (pe_tup (pa_cons pe_str (pa_cons (pe_callB call_isX (by rfl) zI (by rfl) (pa_cons (pv 0) (pa_cons (pe_bltn rfl z17 (by rfl) (show RelV (.ty "ValueError") (.type "ValueError") from rfl)) pa_nil))) pa_nil))) pa_nil)))))
      (pss_cons (ps_set (i := 1) scKinds.nd rfl (Or.inl rfl) (pe_op op_cat (pv 1) (pe_lst (pa_cons (pe_tup (pa_cons pe_str (pa_cons (pe_callB call_isX (by rfl) zI (by rfl) (pa_cons (pv 0) (pa_cons (pe_bltn rfl z18 (by rfl) (show RelV (.ty "KeyError") (.type "KeyError") from rfl)) pa_nil))) pa_nil))) (pa_cons (pe_tup (pa_cons pe_str (pa_cons (pe_callB call_isX (by rfl) zI (by rfl) (pa_cons (pv 0) (pa_cons (pe_bltn rfl z19 (by rfl) (show RelV (.ty "RuntimeError") (.type "RuntimeError") from rfl)) pa_nil))) pa_nil))) pa_nil)))))
      (pss_cons (ps_set (i := 1) scKinds.nd rfl (Or.inl rfl) (pe_op op_cat (pv 1) (pe_lst (pa_cons (pe_tup (pa_cons pe_str (pa_cons (pe_callB call_isX (by rfl) zI (by rfl) (pa_cons (pv 0) (pa_cons (pe_bltn rfl z20 (by rfl) (show RelV (.ty "OverflowError") (.type "OverflowError") from rfl)) pa_nil))) pa_nil))) (pa_cons (pe_tup (pa_cons pe_str (pa_cons (pe_callB call_isX (by rfl) zI (by rfl) (pa_cons (pv 0) (pa_cons (pe_bltn rfl z21 (by rfl) (show RelV (.ty "ArithmeticError") (.type "ArithmeticError") from rfl)) pa_nil))) pa_nil))) pa_nil)))))
      (pss_cons (ps_set (i := 1) scKinds.nd rfl (Or.inl rfl) (pe_op op_cat (pv 1) (pe_lst (pa_cons (pe_tup (pa_cons pe_str (pa_cons (pe_callB call_isX (by rfl) zI (by rfl) (pa_cons (pv 0) (pa_cons (pe_bltn rfl z22 (by rfl) (show RelV (.ty "IndexError") (.type "IndexError") from rfl)) pa_nil))) pa_nil))) (pa_cons (pe_tup (pa_cons pe_str (pa_cons (pe_callB call_isX (by rfl) zI (by rfl) (pa_cons (pv 0) (pa_cons (pe_bltn rfl z23 (by rfl) (show RelV (.ty "LookupError") (.type "LookupError") from rfl)) pa_nil))) pa_nil))) pa_nil)))))
      (pss_cons (ps_set (i := 1) scKinds.nd rfl (Or.inl rfl) (pe_op op_cat (pv 1) (pe_lst (pa_cons (pe_tup (pa_cons pe_str (pa_cons (pe_callB call_isX (by rfl) zI (by rfl) (pa_cons (pv 0) (pa_cons (pe_bltn rfl z24 (by rfl) (show RelV (.ty "TypeError") (.type "TypeError") from rfl)) pa_nil))) pa_nil))) (pa_cons (pe_tup (pa_cons pe_str (pa_cons (pe_callB call_isX (by rfl) zI (by rfl) (pa_cons (pv 0) (pa_cons (pe_bltn rfl z25 (by rfl) (show RelV (.ty "ZeroDivisionError") (.type "ZeroDivisionError") from rfl)) pa_nil))) pa_nil))) pa_nil)))))
      (pss_one (ps_ret (pe_lc (own := [("word", 2), ("is_one", 3)]) (g := gTup K 2 (gCons (gName 2) (gCons (gName 3) gNil))) (tt := tB (tVar 3)) rfl scKinds.nd (pi_list (pv 1)) (blkOk_by (own := [("word", 2), ("is_one", 3)]) (N := ["error", "some", "word", "is_one"]) (sc := defScope sKinds) (by decide +kernel))
        (fun _ _ _ _ _ => pg_tup rfl (pgs_cons (pg_name (i := 2) scKinds.nd rfl (Or.inl rfl)) (pgs_cons (pg_name (i := 3) scKinds.nd rfl (Or.inl rfl)) pgs_nil))) (fun _ _ _ _ _ => pts_one (pt_val (pv 3))) (fun _ _ _ _ _ => pv 2)))))))))))))))), ?_⟩
    have kt : ∀ j, j < 26 → PySem.W.kitOne K (.ref (cA n)) (cu cA j) = some (kb n j) := fun j h => kit n j hn h
    refine rd_first (C := cA n) er (.own _) (kt 0 (by decide)) (.own _) (kt 1 (by decide)) fun H1 l1 P1 => ?_
    refine rd_more (C := cA n) er P1 (Nat.le_of_ble_eq_true rfl) (.own _) (kt 2 (by decide)) (.own _) (kt 3 (by decide)) fun H2 l2 P2 => ?_
    refine rd_more (C := cA n) er P2 (Nat.le_of_ble_eq_true rfl) (.own _) (kt 4 (by decide)) (.own _) (kt 5 (by decide)) fun H3 l3 P3 => ?_
    refine rd_more (C := cA n) er P3 (Nat.le_of_ble_eq_true rfl) (.own _) (kt 6 (by decide)) (.own _) (kt 7 (by decide)) fun H4 l4 P4 => ?_
    refine rd_more (C := cA n) er P4 (Nat.le_of_ble_eq_true rfl) (.own _) (kt 8 (by decide)) (.own _) (kt 9 (by decide)) fun H5 l5 P5 => ?_
    refine rd_more (C := cA n) er P5 (Nat.le_of_ble_eq_true rfl) (.own _) (kt 10 (by decide)) (.own _) (kt 11 (by decide)) fun H6 l6 P6 => ?_
    refine rd_more (C := cA n) er P6 (Nat.le_of_ble_eq_true rfl) (.own _) (kt 12 (by decide)) (.own _) (kt 13 (by decide)) fun H7 l7 P7 => ?_
    refine rd_more (C := cA n) er P7 (Nat.le_of_ble_eq_true rfl) (.own _) (kt 14 (by decide)) (.own _) (kt 15 (by decide)) fun H8 l8 P8 => ?_
    refine rd_more (C := cA n) er P8 (Nat.le_of_ble_eq_true rfl) (.own _) (kt 16 (by decide)) (.ty _) (kt 17 (by decide)) fun H9 l9 P9 => ?_
    refine rd_more (C := cA n) er P9 (Nat.le_of_ble_eq_true rfl) (.ty _) (kt 18 (by decide)) (.ty _) (kt 19 (by decide)) fun H10 l10 P10 => ?_
    refine rd_more (C := cA n) er P10 (Nat.le_of_ble_eq_true rfl) (.ty _) (kt 20 (by decide)) (.ty _) (kt 21 (by decide)) fun H11 l11 P11 => ?_
    refine rd_more (C := cA n) er P11 (Nat.le_of_ble_eq_true rfl) (.ty _) (kt 22 (by decide)) (.ty _) (kt 23 (by decide)) fun H12 l12 P12 => ?_
    refine rd_more (C := cA n) er P12 (Nat.le_of_ble_eq_true rfl) (.ty _) (kt 24 (by decide)) (.ty _) (kt 25 (by decide)) fun H13 l13 P13 => ?_
    exact rd_comp P13 k
end
end K1

namespace K1
open PySem PySem.Spec PyProof.Rows L2 DW
abbrev sLaw : Stmt := top 28
/-! ### the values that are drawn -/
def Small (d : PyData) : Prop := d.showable = true ∧ d.shown.length ≤ 1000 ∧ d.depth ≤ 60
def It1 (H : Hp) (D : Addr) (v : V) : Prop := v ≠ .ref D ∧ ∃ d, Cp H v d ∧ Small d
/-- all but the dice stays -/
def But (D : Addr) (H H' : Hp) : Prop := ∀ b o, b ≠ D → H b = some o → H' b = some o
def Dc (H : Hp) (D : Addr) : Prop := ∃ d0 d1 d2 : Int, H D = some (.lst [.int d0, .int d1, .int d2])
theorem Same.but {D : Addr} {H H' : Hp} (s : Same H H') : But D H H' := fun b o _ e => s b o e
theorem But.trans {D : Addr} {H H1 H2 : Hp} (x : But D H H1) (y : But D H1 H2) : But D H H2 := fun b o n e => y b o n (x b o n e)
theorem But.upd {D : Addr} {H : Hp} {o : HO} : But D H (upd H D o) := fun b u n e => by rw [upd_ne n]; exact e
theorem Dc.same {D : Addr} {H H' : Hp} (s : Same H H') (h : Dc H D) : Dc H' D := by
  obtain ⟨a, b, c, e⟩ := h
  exact ⟨a, b, c, s _ _ e⟩
theorem cp_but {D : Addr} {H H' : Hp} {v : V} {d : PyData} (k : But D H H') (hD : Dc H D) (n : v ≠ .ref D) (h : Cp H v d) : Cp H' v d := by
  obtain ⟨d0, d1, d2, eD⟩ := hD
  have kt : KeepT H H' := fun a xs e => k a _ (by rintro rfl; rw [eD] at e; cases e) e
  rcases h with h | ⟨a, xs, ds, rfl, rfl, ha, hl, hp⟩ | ⟨a, kvs, rfl, rfl, ha, hl⟩
  · exact .inl (Td.keep kt h)
  · exact .inr (.inl ⟨a, xs, ds, rfl, rfl, k _ _ (by rintro rfl; exact n rfl) ha, hl, pairedMono (fun _ _ z => Td.keep kt z) hp⟩)
  · exact .inr (.inr ⟨a, kvs, rfl, rfl, k _ _ (by rintro rfl; exact n rfl) ha, hl⟩)
theorem It1.but {D : Addr} {H H' : Hp} {v : V} (k : But D H H') (hD : Dc H D) (h : It1 H D v) : It1 H' D v := by
  obtain ⟨n, d, c, s⟩ := h
  exact ⟨n, d, cp_but k hD n c, s⟩
theorem it_non {H : Hp} {D : Addr} : It1 H D .non := ⟨fun z => (nomatch z), .none, .inl (.inl ⟨rfl, rfl⟩), by decide +kernel, by decide +kernel, by decide +kernel⟩
theorem it_bl {H : Hp} {D : Addr} : It1 H D (.bl true) := ⟨fun z => (nomatch z), .bool true, .inl (.inr (.inl ⟨true, rfl, rfl⟩)), by decide +kernel, by decide +kernel, by decide +kernel⟩
theorem it_int {H : Hp} {D : Addr} {i : Int} (s : Small (.int i)) : It1 H D (.int i) := ⟨fun z => (nomatch z), .int i, .inl (.inr (.inr (.inl ⟨i, rfl, rfl⟩))), s⟩
theorem it_str {H : Hp} {D : Addr} {x : Str} (s : Small (.str x)) : It1 H D (.str x) := ⟨fun z => (nomatch z), .str x, .inl (.inr (.inr (.inr (.inl ⟨x, rfl, rfl⟩)))), s⟩
theorem td_str {H : Hp} {n : Nat} {x : Str} : Td H (n + 1) (.str x) (.str x) := .inr (.inr (.inr (.inl ⟨x, rfl, rfl⟩)))
theorem td_int {H : Hp} {n : Nat} {i : Int} : Td H (n + 1) (.int i) (.int i) := .inr (.inr (.inl ⟨i, rfl, rfl⟩))
theorem td_tup {H : Hp} {n : Nat} {a : Addr} {xs : List V} {ds : List PyData} (e : H a = some (.tup xs)) (hl : xs.length < 1000) (h : Paired (Td H n) xs ds) : Td H (n + 1) (.ref a) (.tuple ds) := .inr (.inr (.inr (.inr ⟨a, xs, ds, rfl, rfl, e, hl, h⟩)))
theorem it_tup {H : Hp} {D a : Addr} {d : PyData} (n : a ≠ D) (h : Td H 4 (.ref a) d) (s : Small d) : It1 H D (.ref a) := ⟨fun z => n (by cases z; rfl), d, .inl h, s⟩
theorem it_lst {H : Hp} {D a : Addr} {xs : List V} {ds : List PyData} (n : a ≠ D) (e : H a = some (.lst xs)) (hl : xs.length < 1000) (h : Paired (Td H 3) xs ds) (s : Small (.list ds)) : It1 H D (.ref a) := ⟨fun z => n (by cases z; rfl), .list ds, .inr (.inl ⟨a, xs, ds, rfl, rfl, e, hl, h⟩), s⟩
theorem it_dict {H : Hp} {D a : Addr} {kvs : List (Key × Int)} (n : a ≠ D) (e : H a = some (.dK (kvs.map fun p => (p.1, V.int p.2)))) (hl : kvs.length ≤ 1) (s : Small (.dict (kvs.map fun p => (keyD p.1, PyData.int p.2)))) : It1 H D (.ref a) :=
  ⟨fun z => n (by cases z; rfl), _, .inr (.inr ⟨a, kvs, rfl, rfl, e, hl⟩), s⟩
section
variable {P : Program} {w : World} {K : PySem.W.Frag} {mg : Str → Option Value} {base : Heap} {cA : Nat → Addr}
theorem small_of {d : PyData} (h : (d.showable && decide (d.shown.length ≤ 1000) && decide (d.depth ≤ 60)) = true) : Small d := by
  simp only [Bool.and_eq_true, decide_eq_true_eq] at h
  exact ⟨h.1.1, h.1.2, h.2⟩
/-- a draw from a list that was just made -/
theorem sp_pick {H : Hp} {D p : Addr} {xs : List V} {Q : VK} {E : XK} (hD : Dc H D) (hp : H p = some (.lst xs)) (ne : p ≠ D) (l0 : 0 < xs.length) (l1 : xs.length < 1000)
    (k : ∀ v H', v ∈ xs → But D H H' → Dc H' D → Q v H') : spPick K [.ref D, .ref p] H Q E := by
  obtain ⟨d0, d1, d2, e⟩ := hD
  refine ⟨D, p, d0, d1, d2, xs, rfl, e, hp, ne, l0, l1, fun i v e0 e2 hx => k v _ (List.mem_of_getElem? hx) But.upd ⟨e0, d1, e2, upd_same⟩⟩
theorem new_ne {H : Hp} {D p : Addr} (hD : Dc H D) (hp : H p = none) : p ≠ D := by
  obtain ⟨d0, d1, d2, e⟩ := hD
  rintro rfl
  rw [hp] at e
  cases e
abbrev tMenu : TE := tLst (tCons (tC (.str "")) (tCons (tC (.str "a")) (tCons (tC (.str "two words")) (tCons (tOp (fun x y H Q => ∃ (a : Str) (n : Int), x = .str a ∧ y = .int n ∧ MulOk a n ∧ Q (.str (Txt.mul a n)) H) (tC (.str "x")) (tC (.int 300))) tNil))))
theorem rd_menu {σ : L2.St} {H : Hp} {D : Addr} {Q : VK} (h2 : σ[2]? = some (some (.ref D))) (hD : Dc H D) (k : ∀ m H', Small (.str m) → But D H H' → Dc H' D → Q (.str m) H') :
    tCall (spPick K) [] E0 (tCons (tVar 2) (tCons tMenu tNil)) σ H Q := by
  refine ⟨_, h2, _, _, rfl, rfl, ⟨by decide +kernel, fun _ _ => by decide +kernel, fun _ _ => by decide +kernel⟩, by show 4 ≤ sizeLine; decide, fun p hp => ?_⟩
  have s1 := same_new (o := .lst [.str "", .str "a", .str "two words", .str (Txt.mul "x" 300)]) hp
  refine sp_pick (K := K) (E := E0) (hD.same s1) upd_same (new_ne hD hp) (by show 0 < 4; decide) (by show 4 < 1000; decide) fun v H' hv b d => ?_
  have e : ∃ m, v = .str m ∧ Small (.str m) := by
    simp only [List.mem_cons, List.not_mem_nil, or_false] at hv
    rcases hv with rfl | rfl | rfl | rfl
    · exact ⟨_, rfl, small_of (by decide +kernel)⟩
    · exact ⟨_, rfl, small_of (by decide +kernel)⟩
    · exact ⟨_, rfl, small_of (by decide +kernel)⟩
    · exact ⟨_, rfl, small_of (by decide +kernel)⟩
  obtain ⟨m, rfl, sm⟩ := e
  exact k m H' sm ((Same.but s1).trans b) d
abbrev rPow : R2 := rI (fun i j => 0 ≤ j ∧ (Builtin.Int.intBits i : Int) * j ≤ 2 ^ 27) fun i j => .int (i ^ j.toNat)
abbrev tSome : TE := tLst (tCons (tC .non) (tCons (tC (.int 0)) (tCons (tC (.int 7)) (tCons (tUn (rU fun i => .int (-i)) (tC (.int 3))) (tCons (tOp rPow (tC (.int 10)) (tC (.int 39))) (tCons (tC (.bl true)) (tCons (tC (.str "")) (tCons (tC (.str "a")) (tCons (tC (.str "b.1 c"))
  (tCons (tTup tNil) (tCons (tTup (tCons (tC (.int 1)) (tCons (tC (.str "a")) tNil))) (tCons (tTup (tCons (tTup (tCons (tC (.str "bound")) (tCons (tC (.str "x")) tNil))) tNil)) tNil))))))))))))
theorem rd_some {σ : L2.St} {H : Hp} {D : Addr} {Q : VK} (hD : Dc H D) (k : ∀ s xs H', Same H H' → s ≠ D → H' s = some (.lst xs) → xs.length = 12 → (∀ v ∈ xs, It1 H' D v) → Q (.ref s) H') : tSome σ H Q := by
  refine ⟨_, rfl, _, _, rfl, rfl, ⟨by decide, by decide +kernel⟩, ?_⟩
  refine ⟨by show 0 ≤ sizeLine; decide, fun t0 n0 => ⟨by show 2 ≤ sizeLine; decide, fun t1 n1 => ⟨by show 2 ≤ sizeLine; decide, fun t2 n2 => ⟨by show 1 ≤ sizeLine; decide, fun t3 n3 => ⟨by show 12 ≤ sizeLine; decide, fun s ns => ?_⟩⟩⟩⟩⟩
  have a0 := same_new (o := .tup []) n0
  have a1 := same_new (o := .tup [.int 1, .str "a"]) n1
  have a2 := same_new (o := .tup [.str "bound", .str "x"]) n2
  have a3 := same_new (o := .tup [.ref t2]) n3
  have a4 := same_new (o := .lst [.non, .int 0, .int 7, .int (-3), .int (10 ^ Int.toNat 39), .bl true, .str "", .str "a", .str "b.1 c", .ref t0, .ref t1, .ref t3]) ns
  have L := ((((Has.nil.new (o := .tup []) n0).new (o := .tup [.int 1, .str "a"]) n1).new (o := .tup [.str "bound", .str "x"]) n2).new (o := .tup [.ref t2]) n3).of a4
  have q1 := hD.same a0
  have q2 := q1.same a1
  have q3 := q2.same a2
  have q4 := q3.same a3
  have g0 := L.get (a := t0) (o := .tup []) (by simp)
  have g1 := L.get (a := t1) (o := .tup [.int 1, .str "a"]) (by simp)
  have g2 := L.get (a := t2) (o := .tup [.str "bound", .str "x"]) (by simp)
  have g3 := L.get (a := t3) (o := .tup [.ref t2]) (by simp)
  have m0 := new_ne hD n0
  have m1 := new_ne q1 n1
  have m3 := new_ne q3 n3
  refine k s _ _ (a0.trans (a1.trans (a2.trans (a3.trans a4)))) (new_ne q4 ns) upd_same rfl fun v hv => ?_
  simp only [List.mem_cons, List.not_mem_nil, or_false] at hv
  rcases hv with rfl | rfl | rfl | rfl | rfl | rfl | rfl | rfl | rfl | rfl | rfl | rfl
  · exact it_non
  · exact it_int (small_of (by decide +kernel))
  · exact it_int (small_of (by decide +kernel))
  · exact it_int (small_of (by decide +kernel))
  · exact it_int (small_of (by decide +kernel))
  · exact it_bl
  · exact it_str (small_of (by decide +kernel))
  · exact it_str (small_of (by decide +kernel))
  · exact it_str (small_of (by decide +kernel))
  · exact it_tup m0 (td_tup g0 (by decide) .nil) (small_of (by decide +kernel))
  · exact it_tup m1 (td_tup (n := 3) (ds := [.int 1, .str "a"]) g1 (by decide) (.cons td_int (.cons td_str .nil))) (small_of (by decide +kernel))
  · exact it_tup m3 (td_tup (n := 3) (ds := [.tuple [.str "bound", .str "x"]]) g3 (show 1 < 1000 by decide) (.cons (td_tup (n := 2) g2 (by decide) (.cons td_str (.cons td_str .nil))) .nil)) (small_of (by decide +kernel))
abbrev tMore : TE := tLst (tCons (tTup (tCons (tC (.str "torn")) (tCons (tC (.str "a")) tNil))) (tCons (tLst tNil) (tCons tDNewK (tCons (tLst (tCons (tC (.int 1)) tNil)) (tCons (tDisp [(tC (.str "a"), tC (.int 1))]) tNil)))))
theorem rd_mores {σ : L2.St} {H : Hp} {D s : Addr} {xs : List V} {Q : VK} (h2 : σ[2]? = some (some (.ref D))) (h5 : σ[5]? = some (some (.ref s))) (hD : Dc H D) (ne : s ≠ D) (hs : H s = some (.lst xs)) (hl : xs.length = 12) (hi : ∀ v ∈ xs, It1 H D v)
    (k : ∀ v H', But D H H' → Dc H' D → It1 H' D v → Q v H') : tCall (spPick K) [] E0 (tCons (tVar 2) (tCons (tOp rCat (tVar 5) tMore) tNil)) σ H Q := by
  refine ⟨_, h2, _, h5, by show 2 ≤ sizeLine; decide, fun t0 n0 => ⟨by show 0 ≤ sizeLine; decide, fun l1 n1 => fun e2 n2 => ⟨by show 1 ≤ sizeLine; decide, fun l3 n3 => fun d4 n4 => ?_⟩⟩⟩
  have a0 := same_new (o := .tup [.str "torn", .str "a"]) n0
  have a1 := same_new (o := .lst []) n1
  have a2 := same_new (o := .dK []) n2
  have a3 := same_new (o := .lst [.int 1]) n3
  refine ⟨upd_same, [(Sum.inr "a", V.int 1)], rfl, by show 1 ≤ 15; decide, by show 5 ≤ sizeLine; decide, fun l5 n5 => ?_⟩
  have a4 := same_mut (o := .dK (mergeK [] [(Sum.inr "a", V.int 1)])) (same_new (o := .dK []) n4) n4
  have L3 := (((Has.nil.new (o := .tup [.str "torn", .str "a"]) n0).new (o := .lst []) n1).new (o := .dK []) n2).new (o := .lst [.int 1]) n3
  have L4 := (L3.of a4).put (upd_same (a := d4) (o := .dK (mergeK [] [(Sum.inr "a", V.int 1)])))
  have sm4 := a0.trans (a1.trans (a2.trans (a3.trans a4)))
  have m0 := new_ne hD n0
  have m1 := new_ne (hD.same a0) n1
  have m2 := new_ne ((hD.same a0).same a1) n2
  have m3 := new_ne (((hD.same a0).same a1).same a2) n3
  have m4 := new_ne ((((hD.same a0).same a1).same a2).same a3) n4
  have L5 := L4.of (same_new (o := .lst [.ref t0, .ref l1, .ref e2, .ref l3, .ref d4]) n5)
  have sm5 := sm4.trans (same_new (o := .lst [.ref t0, .ref l1, .ref e2, .ref l3, .ref d4]) n5)
  refine ⟨s, l5, xs, _, rfl, rfl, sm5 _ _ hs, upd_same, by rw [hl]; show 12 + 5 ≤ sizeLine; decide, fun r nr => ?_⟩
  have sm6 := sm5.trans (same_new (o := .lst (xs ++ [.ref t0, .ref l1, .ref e2, .ref l3, .ref d4])) nr)
  have L6 := L5.of (same_new (o := .lst (xs ++ [.ref t0, .ref l1, .ref e2, .ref l3, .ref d4])) nr)
  have g0 := L6.get (a := t0) (o := .tup [.str "torn", .str "a"]) (by simp)
  have g1 := L6.get (a := l1) (o := .lst []) (by simp)
  have g2 := L6.get (a := e2) (o := .dK []) (by simp)
  have g3 := L6.get (a := l3) (o := .lst [.int 1]) (by simp)
  have g4 := L6.get (a := d4) (o := .dK (mergeK [] [(Sum.inr "a", V.int 1)])) (by simp)
  have nr2 := new_ne (hD.same sm5) nr
  refine sp_pick (K := K) (E := E0) (hD.same sm6) upd_same nr2 (by rw [List.length_append, hl]; show 0 < 12 + 5; decide) (by rw [List.length_append, hl]; show 12 + 5 < 1000; decide) fun v H' hv b d => ?_
  refine k v H' ((Same.but sm6).trans b) d (It1.but b (hD.same sm6) ?_)
  rcases List.mem_append.mp hv with hv | hv
  · exact It1.but (Same.but sm6) hD (hi v hv)
  · simp only [List.mem_cons, List.not_mem_nil, or_false] at hv
    rcases hv with rfl | rfl | rfl | rfl | rfl
    · exact it_tup m0 (td_tup (n := 3) (ds := [.str "torn", .str "a"]) g0 (by decide) (.cons td_str (.cons td_str .nil))) (small_of (by decide +kernel))
    · exact it_lst (ds := []) m1 g1 (by decide) .nil (small_of (by decide +kernel))
    · exact it_dict (kvs := []) m2 g2 (by decide) (small_of (by decide +kernel))
    · exact it_lst (ds := [.int 1]) m3 g3 (by decide) (.cons td_int .nil) (small_of (by decide +kernel))
    · exact it_dict (kvs := [(Sum.inr "a", 1)]) m4 g4 (by decide) (small_of (by decide +kernel))

abbrev six : List V := [.str "parse", .str "unknown", .str "number", .str "many", .str "refused", .str "undo"]
theorem in_six : ∀ n, n < 16 → inV (.str (wd n)) six = decide (10 ≤ n) := fun n hn => by
  have cs : n = 0 ∨ n = 1 ∨ n = 2 ∨ n = 3 ∨ n = 4 ∨ n = 5 ∨ n = 6 ∨ n = 7 ∨ n = 8 ∨ n = 9 ∨ n = 10 ∨ n = 11 ∨ n = 12 ∨ n = 13 ∨ n = 14 ∨ n = 15 := by omega
  rcases cs with rfl | rfl | rfl | rfl | rfl | rfl | rfl | rfl | rfl | rfl | rfl | rfl | rfl | rfl | rfl | rfl <;> kernel_rfl
theorem rd_six {A B : TS} {D : Ends} {σ : L2.St} {H : Hp} {n : Nat} (h3 : σ[3]? = some (some (.str (wd n)))) (hn : n < 16) (k1 : 10 ≤ n → ∀ H', Same H H' → A D σ H') (k2 : n < 10 → ∀ H', Same H H' → B D σ H') :
    tIfS (tTest (tOp (rIn K false) (tVar 3) (tLst (tCons (tC (.str "parse")) (tCons (tC (.str "unknown")) (tCons (tC (.str "number")) (tCons (tC (.str "many")) (tCons (tC (.str "refused")) (tCons (tC (.str "undo")) tNil))))))))) A B D σ H := by
  refine ⟨_, h3, by show 6 ≤ sizeLine; decide, fun p hp => ⟨p, six, rfl, .inl (SqL.of upd_same), rfl, rfl, ?_⟩⟩
  show ∃ c, V.bl (inV (.str (wd n)) six) = .bl c ∧ _
  refine ⟨_, rfl, ?_⟩
  rw [in_six n hn]
  by_cases h : 10 ≤ n
  · rw [decide_eq_true h]
    exact iteT (k1 h _ (same_new hp))
  · rw [decide_eq_false h]
    exact iteF (k2 (by omega) _ (same_new hp))
theorem kl_due : ∀ n, n < 16 → kl n = wd n :: due n := fun n hn => by
  have cs : n = 0 ∨ n = 1 ∨ n = 2 ∨ n = 3 ∨ n = 4 ∨ n = 5 ∨ n = 6 ∨ n = 7 ∨ n = 8 ∨ n = 9 ∨ n = 10 ∨ n = 11 ∨ n = 12 ∨ n = 13 ∨ n = 14 ∨ n = 15 := by omega
  rcases cs with rfl | rfl | rfl | rfl | rfl | rfl | rfl | rfl | rfl | rfl | rfl | rfl | rfl | rfl | rfl | rfl <;> kernel_rfl
theorem strs_dp {H : Hp} : ∀ xs : List Str, DpAll K H (xs.map V.str) (xs.map PyData.str)
  | [] => .nil
  | x :: r => .cons (.str x) (strs_dp r)
abbrev dK (n : Nat) : PyData := .list ((kl n).map PyData.str)
theorem sh_kl : ∀ n, n < 17 → SeqAt.shaped (dK n) = true ∧ PyData.eqv (dK n) (dK n) = true := fun n hn => by
  have cs : n = 0 ∨ n = 1 ∨ n = 2 ∨ n = 3 ∨ n = 4 ∨ n = 5 ∨ n = 6 ∨ n = 7 ∨ n = 8 ∨ n = 9 ∨ n = 10 ∨ n = 11 ∨ n = 12 ∨ n = 13 ∨ n = 14 ∨ n = 15 ∨ n = 16 := by omega
  rcases cs with rfl | rfl | rfl | rfl | rfl | rfl | rfl | rfl | rfl | rfl | rfl | rfl | rfl | rfl | rfl | rfl | rfl <;> exact ⟨by kernel_rfl, by kernel_rfl⟩
theorem dp_kl {H : Hp} {p : Addr} {n : Nat} (e : H p = some (.lst ((kl n).map V.str))) : Dp K H (.ref p) (dK n) := .lst (SqL.of e) (strs_dp _)
theorem made_er {H : Hp} {n : Nat} {a : Addr} {d : PyData} (T : ExK K (cA n)) (m : Made cA H n a d) : Er K H a (cA n) := by
  rcases m with ⟨_, t, x, _, e, _⟩ | ⟨_, dx, t, v, e, ed, _⟩
  · exact ⟨⟨none, t, e, fun y z => by cases z⟩, T⟩
  · exact ⟨⟨some dx, t, e, fun y z => by cases z; exact ⟨_, ed⟩⟩, T⟩
end
end K1

namespace K1
open PySem PySem.Spec PyProof.Rows L2 DW
section
variable {P : Program} {w : World} {K : PySem.W.Frag} {mg : Str → Option Value} {base : Heap} {cA : Nat → Addr}
abbrev tTail (K : PySem.W.Frag) (cA : Nat → Addr) : TS := tSeq (tAsg (tCall (spMade cA) [] E0 (tCons (tVar 3) (tCons (tVar 4) tNil))) (gName 6))
  (tIfS (tOr (tTest (tOp rNe (tCB (rRepr K) (tCons (tCall (spKept cA) [] E0 (tCons (tVar 3) (tCons (tVar 6) tNil))) tNil)) (tCB (rRepr K) (tCons (tVar 4) tNil))))
    (tTest (tOp (rNeD K) (tCall (spKinds K cA) [] E0 (tCons (tVar 6) tNil)) (tCall spDue [] E0 (tCons (tVar 3) tNil))))) (tRet (tC (.bl false))) tNext)
theorem len_ok {d : PyData} (h : Small d) : d.shown.length ≤ sizeLine := by
  have z := h.2.1
  rw [sizeLine_eq]
  omega
theorem rd_tail {D : Ends} {H : Hp} {n : Nat} {v : V} {d : PyData} {x0 x1 x2 x5 x6 : Option V} (hn : n < 16) (T : ExK K (cA n)) (hv : Val H n v d) (hs : Small d)
    (k : ∀ H' e, Same H H' → D.nx [x0, x1, x2, some (.str (wd n)), some v, x5, some (.ref e), none] H') : tTail K cA D [x0, x1, x2, some (.str (wd n)), some v, x5, x6, none] H := by
  refine ⟨_, rfl, _, rfl, n, v, d, hn, rfl, hv, fun H1 e s1 ne m => ?_⟩
  refine ⟨_, rfl, _, rfl, n, e, d, hn, rfl, m, fun v' H2 s2 c2 => ?_⟩
  have cv : Cp H2 v d := (hv.1.keep (Same.keepD s1)).keep (Same.keepD s2)
  refine ⟨v', d, rfl, c2.dd, hs.1, len_ok hs, hs.2.2, _, rfl, v, d, rfl, cv.dd, hs.1, len_ok hs, hs.2.2, rfl, _, rfl, ?_⟩
  rw [decide_eq_true rfl]
  refine iteF ?_
  refine ⟨_, rfl, n, e, by omega, rfl, (made_er T m).same s2, fun H3 p s3 np ep => ⟨_, rfl, n, hn, rfl, fun H4 q s4 nq eq => ?_⟩⟩
  have eq' : H4 q = some (.lst ((kl n).map V.str)) := by
    rw [eq, kl_due n hn]
    rfl
  refine ⟨dK n, dK n, dp_kl (s4 _ _ ep), dp_kl eq', (sh_kl n (by omega)).1, (sh_kl n (by omega)).1, _, rfl, ?_⟩
  rw [(sh_kl n (by omega)).2]
  exact iteF (k H4 e (s1.trans (s2.trans (s3.trans s4))))
theorem rd_set4 {te : TE} {t : TS} {D : Ends} {H : Hp} {x0 x1 x2 x3 x4 x5 x6 x7 : Option V} (h : te [x0, x1, x2, x3, x4, x5, x6, x7] H (fun y H1 => t D [x0, x1, x2, x3, some y, x5, x6, x7] H1)) : tSeq (tAsg te (gName 4)) t D [x0, x1, x2, x3, x4, x5, x6, x7] H := h
theorem rd_set5 {te : TE} {t : TS} {D : Ends} {H : Hp} {x0 x1 x2 x3 x4 x5 x6 x7 : Option V} (h : te [x0, x1, x2, x3, x4, x5, x6, x7] H (fun y H1 => t D [x0, x1, x2, x3, x4, some y, x6, x7] H1)) : tSeq (tAsg te (gName 5)) t D [x0, x1, x2, x3, x4, x5, x6, x7] H := h
theorem rd_last4 {te : TE} {D : Ends} {H : Hp} {x0 x1 x2 x3 x4 x5 x6 x7 : Option V} (h : te [x0, x1, x2, x3, x4, x5, x6, x7] H (fun y H1 => D.nx [x0, x1, x2, x3, some y, x5, x6, x7] H1)) : tAsg te (gName 4) D [x0, x1, x2, x3, x4, x5, x6, x7] H := h
theorem rd_if {c : TT} {A B t : TS} {D : Ends} {σ : L2.St} {H : Hp} (h : tIfS c A B { D with nx := t D } σ H) : tSeq (tIfS c A B) t D σ H := h
theorem rd_next {t : TS} {D : Ends} {σ : L2.St} {H : Hp} (h : t D σ H) : tNext { D with nx := t D } σ H := h
abbrev tPick1 (K : PySem.W.Frag) : TE := tCall (spPick K) [] E0 (tCons (tVar 2) (tCons tMenu tNil))
abbrev tPick2 (K : PySem.W.Frag) : TE := tCall (spPick K) [] E0 (tCons (tVar 2) (tCons (tOp rCat (tVar 5) tMore) tNil))
abbrev tSix (K : PySem.W.Frag) : TT := tTest (tOp (rIn K false) (tVar 3) (tLst (tCons (tC (.str "parse")) (tCons (tC (.str "unknown")) (tCons (tC (.str "number")) (tCons (tC (.str "many")) (tCons (tC (.str "refused")) (tCons (tC (.str "undo")) tNil))))))))
abbrev tBody (K : PySem.W.Frag) (cA : Nat → Addr) : TS := tSeq (tAsg (tPick1 K) (gName 4)) (tSeq (tIfS (tSix K) (tSeq (tAsg tSome (gName 5)) (tAsg (tPick2 K) (gName 4))) tNext) (tTail K cA))
theorem rd_body {Dd : Ends} {H : Hp} {n : Nat} {D : Addr} {x0 x1 x4 x5 x6 : Option V} (hn : n < 16) (T : ExK K (cA n)) (dc : Dc H D)
    (k : ∀ H' y4 y5 y6, But D H H' → Dc H' D → Dd.nx [x0, x1, some (.ref D), some (.str (wd n)), y4, y5, y6, none] H') : tBody K cA Dd [x0, x1, some (.ref D), some (.str (wd n)), x4, x5, x6, none] H := by
  refine rd_set4 ?_
  refine rd_menu (K := K) (D := D) rfl dc fun m H1 sm b1 dc1 => ?_
  refine rd_if ?_
  refine rd_six (n := n) rfl hn (fun hj2 H2 s2 => ?_) fun hj2 H2 s2 => ?_
  · refine rd_set5 ?_
    refine rd_some (dc1.same s2) fun s xs H3 s3 ne hs hl hi2 => ?_
    refine rd_last4 ?_
    refine rd_mores (K := K) (D := D) rfl rfl ((dc1.same s2).same s3) ne hs hl hi2 fun v H4 b4 dc4 it => ?_
    obtain ⟨_, d, cv, sv⟩ := it
    refine rd_tail (n := n) hn T ⟨cv, fun z => by omega, fun _ => sv⟩ sv fun H5 e s5 => ?_
    exact k _ _ _ _ (b1.trans ((Same.but s2).trans ((Same.but s3).trans (b4.trans (Same.but s5))))) (dc4.same s5)
  · refine rd_next ?_
    refine rd_tail (n := n) (v := .str m) (d := .str m) hn T ⟨.inl td_str, fun _ => ⟨m, rfl, rfl⟩, fun z => by omega⟩ sm fun H5 e s5 => ?_
    exact k _ _ _ _ (b1.trans ((Same.but s2).trans (Same.but s5))) ((dc1.same s2).same s5)
abbrev tEnd (K : PySem.W.Frag) (cA : Nat → Addr) : TS := tSeq (tAsg (tExP (cA 16) (tC (.str "a day"))) (gName 7))
  (tRet (tAndV (tOp (rEqD K) (tCall (spKinds K cA) [] E0 (tCons (tVar 7) tNil)) (tLst (tCons (tC (.str "DAY")) (tCons (tC (.str "VALUE")) tNil)))) (tOp rEq (tCB (rStrX K) (tCons (tVar 7) tNil)) (tC (.str "a day")))))
theorem rd_end {D : Ends} {H : Hp} {x0 x1 x2 x3 x4 x5 x6 x7 : Option V} (T : ExK K (cA 16)) (hs : PySem.W.findIn K (.ref (cA 16)) "__str__" = some (some (.builtin "BaseException.__str__"))) (k : ∀ H', D.rt (.bl true) H') :
    tEnd K cA D [x0, x1, x2, x3, x4, x5, x6, x7] H := by
  intro e t ne nt nte
  have he : upd (upd H t (.tup [.str "a day"])) e (exq e (cA 16) none t) e = some (exq e (cA 16) none t) := upd_same
  have ht : upd (upd H t (.tup [.str "a day"])) e (exq e (cA 16) none t) t = some (.tup [.str "a day"]) := by rw [upd_ne nte, upd_same]
  generalize upd (upd H t (.tup [.str "a day"])) e (exq e (cA 16) none t) = H1 at he ht ⊢
  refine ⟨_, rfl, 16, e, by decide, rfl, ⟨⟨none, t, he, fun y z => by cases z⟩, T⟩, fun H2 p s2 np ep => ⟨by show 2 ≤ sizeLine; decide, fun q nq => ?_⟩⟩
  have sq := same_new (o := .lst [.str "DAY", .str "VALUE"]) nq
  have eq' : upd H2 q (.lst [.str "DAY", .str "VALUE"]) q = some (.lst ((kl 16).map V.str)) := by
    rw [upd_same]
    rfl
  refine ⟨dK 16, dK 16, dp_kl (sq _ _ ep), dp_kl eq', (sh_kl 16 (by decide)).1, (sh_kl 16 (by decide)).1, _, rfl, ?_⟩
  rw [(sh_kl 16 (by decide)).2]
  refine iteT ⟨_, rfl, e, cA 16, none, t, "a day", rfl, sq _ _ (s2 _ _ he), sq _ _ (s2 _ _ ht), T, hs, rfl, ?_⟩
  rw [decide_eq_true rfl]
  exact k _
structure Cal (P : Program) (w : World) (K : PySem.W.Frag) (mg : Str → Option Value) (base : Heap) (x : Str) (k : Nat) (ps : List Str) (sp : Sp) (f : Addr) (fd : FuncData) : Prop where
  G : FnOk P w K mg base CX0 k f fd ps sp
  kp : PySem.W.keepIn K (.ref f) = true
  b : Binds K fd ps []
  g : mg x = some (.ref f)
structure CalG (P : Program) (w : World) (K : PySem.W.Frag) (mg : Str → Option Value) (base : Heap) (x : Str) (k : Nat) (ps : List Str) (sp : Sp) (f : Addr) (fd : FuncData) : Prop where
  G : FnG P w K mg base k f fd ps sp
  kp : PySem.W.keepIn K (.ref f) = true
  b : Binds K fd ps []
  g : mg x = some (.ref f)
def spLaw (K : PySem.W.Frag) : Sp := fun vs H Q _ => ∃ (a : Addr) (ns : List Int), vs = [.ref a] ∧ SqL K H a (ns.map V.int) ∧ ns.length ≤ 63 ∧ ∀ H', Q (.bl true) H'
abbrev lawN : List Str := ["script", "spot", "dice", "word", "value", "some", "error", "plain"]
theorem scLaw : FnScope lawN ["script"] (defScope sLaw) := ⟨rfl, rfl, rfl, by decide +kernel, rfl, by decide +kernel, by decide +kernel⟩
abbrev words : List V := (List.range 16).map fun n => V.str (wd n)
theorem words_at {j : Nat} {x : V} (h : words[j]? = some x) : j < 16 ∧ x = .str (wd j) := by
  rw [List.getElem?_map] at h
  by_cases hj : j < 16
  · rw [List.getElem?_range hj] at h
    exact ⟨hj, (Option.some.inj h).symm⟩
  · rw [List.getElem?_eq_none (by rw [List.length_range]; omega)] at h
    cases h
theorem ok_law {f f1 f2 f3 f4 f5 f6 f7 : Addr} {fd d1 d2 d3 d4 d5 d6 d7 : FuncData} (F : Fun K "law" "law" sLaw f fd)
    (cDice : Cal P w K mg base "_law_dice" 1 ["script", "spot"] (spDice K) f1 d1) (cWords : Cal P w K mg base "_law_words" 1 [] spWords f2 d2) (cPick : Cal P w K mg base "_law_pick" 2 ["dice", "items"] (spPick K) f3 d3)
    (cMade : CalG P w K mg base "_law_made" 7 ["word", "value"] (spMade cA) f4 d4) (cKept : Cal P w K mg base "_law_kept" 1 ["word", "error"] (spKept cA) f5 d5) (cKinds : Cal P w K mg base "_law_kinds" 1 ["error"] (spKinds K cA) f6 d6)
    (cDue : Cal P w K mg base "_law_due" 1 ["word"] spDue f7 d7) (T : ∀ n, n < 16 → ExK K (cA n)) (pD : PlK K mg "DayError" (cA 16))
    (zL : mg "len" = none) (zM : mg "max" = none) (zN : mg "min" = none) (zR : mg "range" = none) (zP : mg "repr" = none) (zS : mg "str" = none) : FnG P w K mg base 8 f fd ["script"] (spLaw K) := by
  refine fng F scLaw (fun vs H Q h => ?_) (fun cdv A outer s H vs Q hr hgu h => ?_)
  · obtain ⟨a, ns, rfl, _⟩ := h
    rfl
  · obtain ⟨a, ns, rfl, hS, hlen, k⟩ := h
    have hr1 : Room 1 _ := hr.mono (by decide)
    have hr2 : Room 2 _ := hr.mono (by decide)
    have hu := hu_of hr
    refine ⟨_, pss_cons (ps_for PassesOwn.never rfl (pi_range1 rfl zR (pa_cons (pe_callB (call_max2 rfl) (by rfl) zM (by decide +kernel) (pa_cons pe_int (pa_cons (pe_callB (call_min2 rfl) (by rfl) zN (by decide +kernel) (pa_cons pe_int (pa_cons (pe_callB call_len_seq (by rfl) zL PySem.boot_len (pa_cons (pv 0) pa_nil)) pa_nil))) pa_nil))) pa_nil)) (pg_name (i := 1) scLaw.nd rfl (Or.inl rfl))
        (pss_cons (ps_set (i := 2) scLaw.nd rfl (Or.inl rfl) (pe_call cDice.G hr1 rfl cDice.g cDice.kp cDice.b .nil pass0 (pa_cons (pv 0) (pa_cons (pv 1) pa_nil))))
        (pss_one (ps_for PassesOwn.never rfl (pi_list (pe_call0 cWords.G hr1 rfl cWords.g cWords.kp cWords.b .nil pass0)) (pg_name (i := 3) scLaw.nd rfl (Or.inl rfl))
          (pss_cons (ps_set (i := 4) scLaw.nd rfl (Or.inl rfl) (pe_call cPick.G hr2 rfl cPick.g cPick.kp cPick.b .nil pass0 (pa_cons (pv 2) (pa_cons (pe_lst (pa_cons pe_str (pa_cons pe_str (pa_cons pe_str (pa_cons (pe_op op_mulS pe_str pe_int) pa_nil))))) pa_nil))))
          (pss_cons (ps_if (pt_cmpR op_in_seq (pv 3) (pe_lst (pa_cons pe_str (pa_cons pe_str (pa_cons pe_str (pa_cons pe_str (pa_cons pe_str (pa_cons pe_str pa_nil))))))) (by rfl))
            (pss_cons (ps_set (i := 5) scLaw.nd rfl (Or.inl rfl) (pe_lst (pa_cons pe_non (pa_cons pe_int (pa_cons pe_int (pa_cons (pe_un un_neg pe_int) (pa_cons (pe_op op_powW pe_int pe_int) (pa_cons pe_bl (pa_cons pe_str (pa_cons pe_str (pa_cons pe_str (pa_cons (pe_tup pa_nil)
                (pa_cons (pe_tup (pa_cons pe_int (pa_cons pe_str pa_nil))) (pa_cons (pe_tup (pa_cons (pe_tup (pa_cons pe_str (pa_cons pe_str pa_nil))) pa_nil)) pa_nil))))))))))))))
            (pss_one (ps_set (i := 4) scLaw.nd rfl (Or.inl rfl) (pe_call cPick.G hr2 rfl cPick.g cPick.kp cPick.b .nil pass0 (pa_cons (pv 2) (pa_cons (pe_op op_cat (pv 5) (pe_lst (pa_cons (pe_tup (pa_cons pe_str (pa_cons pe_str pa_nil))) (pa_cons (pe_lst pa_nil) (pa_cons pe_dnewK (pa_cons (pe_lst (pa_cons pe_int pa_nil))
                (pa_cons (pe_disp (pps_cons pe_str pe_int pps_nil) rfl rfl (fun z => nomatch z) (by decide)) pa_nil))))))) pa_nil)))))) pss_nil)
          (pss_cons (ps_set (i := 6) scLaw.nd rfl (Or.inl rfl) (pe_g cMade.G hr hgu rfl cMade.g cMade.kp cMade.b (pa_cons (pv 3) (pa_cons (pv 4) pa_nil))))
          (pss_one (ps_if (PW.pt (pw_or (pt_cmpR op_ne (pe_callB (call_repr hgu hr.units) (by rfl) zP (by rfl) (pa_cons (pe_call cKept.G hr1 rfl cKept.g cKept.kp cKept.b .nil pass0 (pa_cons (pv 3) (pa_cons (pv 6) pa_nil))) pa_nil)) (pe_callB (call_repr hgu hr.units) (by rfl) zP (by rfl) (pa_cons (pv 4) pa_nil)) (nomark _))
              (pw_or1 (pt_cmpR (op_neD hr.units) (pe_call cKinds.G hr1 rfl cKinds.g cKinds.kp cKinds.b .nil pass0 (pa_cons (pv 6) pa_nil)) (pe_call cDue.G hr1 rfl cDue.g cDue.kp cDue.b .nil pass0 (pa_cons (pv 3) pa_nil)) (nomark _)))))
            (pss_one (ps_ret pe_bl)) pss_nil)))))))))
      (pss_cons (ps_set (i := 7) scLaw.nd rfl (Or.inl rfl) (pe_exP PySem.F.excBase_ValueError pD.q pD.hi pD.ex.kC pD.g rfl pe_str))
      (pss_one (ps_ret (pe_and (pe_cmpR (op_eqD hr.units) (pe_call cKinds.G hr1 rfl cKinds.g cKinds.kp cKinds.b .nil pass0 (pa_cons (pv 7) pa_nil)) (pe_lst (pa_cons pe_str (pa_cons pe_str pa_nil))) (nomark _))
        (pe_one (pe_cmpR op_eq (pe_callTy (call_strX hr.units) (by rfl) zS (by decide +kernel) (pa_cons (pv 7) pa_nil)) pe_str (nomark _))))))), ?_⟩
    have bd : ∀ j : Int, (if (if j < 6 then j else 6) > 1 then (if j < 6 then j else 6) else 1) ≤ 6 ∧ 1 ≤ (if (if j < 6 then j else 6) > 1 then (if j < 6 then j else 6) else 1) := fun j => by
      split <;> split <;> constructor <;> omega
    refine ⟨_, rfl, a, _, rfl, .inl hS, _, _, rfl, _, _, rfl, _, rfl, ?_, ?_, ?_⟩
    · have z := (bd ((ns.map V.int).length : Nat)).2
      omega
    · have z := (bd ((ns.map V.int).length : Nat)).1
      omega
    have top6 : (if (if (((ns.map V.int).length : Nat) : Int) < 6 then (((ns.map V.int).length : Nat) : Int) else 6) > 1 then (if (((ns.map V.int).length : Nat) : Int) < 6 then (((ns.map V.int).length : Nat) : Int) else 6) else 1).toNat ≤ 6 := by
      have z := (bd ((ns.map V.int).length : Nat)).1
      omega
    generalize (if (if (((ns.map V.int).length : Nat) : Int) < 6 then (((ns.map V.int).length : Nat) : Int) else 6) > 1 then (if (((ns.map V.int).length : Nat) : Int) < 6 then (((ns.map V.int).length : Nat) : Int) else 6) else 1).toNat = turns at top6 ⊢
    refine for_range (lo := 0) (n := turns) (fun i σ H' => Same H H' ∧ ∃ x1 x2 x3 x4 x5 x6, σ = [some (.ref a), x1, x2, x3, x4, x5, x6, none]) ⟨Same.refl H, none, none, none, none, none, none, rfl⟩ ?_ ?_
    · rintro i _ H0 hi ⟨s0, x1, x2, x3, x4, x5, x6, rfl⟩
      refine ⟨_, rfl, _, rfl, a, ns, _, rfl, Same.seq s0 hS, by omega, by omega, fun D d0 d1 hD => ?_⟩
      have sD := same_new (o := .lst [.int d0, .int d1, .int 0]) hD
      have hDc : Dc (upd H0 D (.lst [.int d0, .int d1, .int 0])) D := ⟨d0, d1, 0, upd_same⟩
      generalize upd H0 D (.lst [.int d0, .int d1, .int 0]) = HD at sD hDc ⊢
      refine ⟨rfl, fun HL L sL nL hL => ⟨L, rfl, ⟨_, SqL.of hL⟩, ?_⟩⟩
      have neL := new_ne hDc nL
      have s00 : Same H HL := s0.trans (sD.trans sL)
      have hDn : H D = none := s0.free hD
      refine for_list (K := K) (a := L) (xs := words) (fun j σ H' => But D HL H' ∧ Dc H' D ∧ ∃ x1 x3 x4 x5 x6, σ = [some (.ref a), x1, some (.ref D), x3, x4, x5, x6, none]) ⟨fun _ _ _ z => z, hDc.same sL, _, _, _, _, _, rfl⟩ ?_ ?_ ?_
      · rintro j _ H' _ ⟨b, _, _⟩
        exact SqL.of (b _ _ neL hL)
      · rintro j x _ H' hx ⟨b, dc, y1, y3, y4, y5, y6, rfl⟩
        obtain ⟨hj, rfl⟩ := words_at hx
        exact rd_body (K := K) (cA := cA) (n := j) (D := D) hj (T j hj) dc fun H1 z4 z5 z6 b1 d1 => ⟨b.trans b1, d1, _, _, _, _, _, rfl⟩
      · rintro _ H' ⟨b, dc, y1, y3, y4, y5, y6, rfl⟩
        refine ⟨fun c o e => b c o (by rintro rfl; rw [hDn] at e; cases e) (s00 _ _ e), _, _, _, _, _, _, rfl⟩
    · rintro _ H' ⟨s0, x1, x2, x3, x4, x5, x6, rfl⟩
      exact rd_end pD.ex pD.hs k
end
end K1

namespace K1
open PySem PySem.Spec PyProof.Rows L2 DW
def exkB (K : PySem.W.Frag) (C : Addr) : Bool :=
  PySem.W.keepIn K (.ref C) && ((PySem.W.clsIn K C).isSome && (PySem.W.hasDictIn K C && (PySem.W.findIn K (.ref C) "__getattribute__" == some (some (.builtin "BaseException.__getattribute__")) &&
  (PySem.W.findIn K (.ref C) "__getattr__" == some none && (PySem.W.findIn K (.ref C) "__setattr__" == some (some (.builtin "object.__setattr__")) &&
  ((PySem.W.findIn K (.ref C) "__str__" == some (some (.builtin "BaseException.__str__")) || PySem.W.findIn K (.ref C) "__str__" == some (some (.builtin "KeyError.__str__"))) &&
  (PySem.W.subIn K (.ref C) (.type "BaseException") == some true && (PySem.W.findIn K (.ref C) "__class__" == some (some (.builtin "object.__class__")) &&
  (PySem.W.specialIn K (.builtin "object.__class__") "__get__" == some (some (.builtin "getset_descriptor.__get__")) && (PySem.W.takesIn K (.builtin "object.__class__") == some true &&
  PySem.W.mroIn K C (.type "object") == some true))))))))))
theorem exk_of {K : PySem.W.Frag} {C : Addr} (h : exkB K C = true) : ExK K C := by
  unfold exkB at h
  simp only [Bool.and_eq_true, Bool.or_eq_true, beq_iff_eq] at h
  obtain ⟨a, b, c, d, e, f, g, i, j, k, l, m⟩ := h
  exact ⟨a, b, c, d, e, f, g, i, j, k, l, m⟩
def plB (K : PySem.W.Frag) (C : Addr) : Bool := PySem.W.excInitIn K C bmV "ValueError.__new__" && (PySem.W.findIn K (.ref C) "__init__" == some (some (.builtin "ValueError.__init__")) && PySem.W.findIn K (.ref C) "__str__" == some (some (.builtin "BaseException.__str__")))
theorem pl_of {K : PySem.W.Frag} {mg : Str → Option Value} {nm : Str} {C : Addr} (e : exkB K C = true) (h : plB K C = true) (g : mg nm = some (.ref C)) : PlK K mg nm C := by
  unfold plB at h
  simp only [Bool.and_eq_true, beq_iff_eq] at h
  exact ⟨exk_of e, g, h.1, h.2.1, h.2.2⟩
def owB (K : PySem.W.Frag) (C : Addr) (f : Str) (newId Bn B : String) (bmB : List Value) (fI : Addr) : Bool :=
  exnB K C newId Bn B && (PySem.W.typeIn K (.ref fI) == some (.type "function") && (PySem.W.findIn K (.ref C) f == some none && (PySem.W.excOver K C bmB && PySem.W.takerIn K C f == some none)))
theorem ow_of {K : PySem.W.Frag} {C fI : Addr} {f : Str} {newId Bn B : String} {bmB : List Value} (h : owB K C f newId Bn B bmB fI = true) :
    exnB K C newId Bn B = true ∧ PySem.W.typeIn K (.ref fI) = some (.type "function") ∧ PySem.W.findIn K (.ref C) f = some none ∧ PySem.W.excOver K C bmB = true ∧ PySem.W.takerIn K C f = some none := by
  unfold owB at h
  simpa only [Bool.and_eq_true, beq_iff_eq] using h
def cOf (l : List Addr) (n : Nat) : Addr := l.getD n 0
def kitAll (K : PySem.W.Frag) (l : List Addr) : Bool := (List.range 17).all fun n => (List.range 26).all fun j => PySem.W.kitOne K (.ref (cOf l n)) (cu (cOf l) j) == some (kb n j)
theorem kit_of' {K : PySem.W.Frag} {l : List Addr} (h : kitAll K l = true) : ∀ n j, n < 17 → j < 26 → PySem.W.kitOne K (.ref (cOf l n)) (cu (cOf l) j) = some (kb n j) := fun n j hn hj => by
  unfold kitAll at h
  rw [List.all_eq_true] at h
  have a := h n (List.mem_range.mpr hn)
  rw [List.all_eq_true] at a
  exact beq_iff_eq.mp (a j (List.mem_range.mpr hj))
theorem all_mk {l : PySem.W.OpenLaw} {w : World} {K : PySem.W.Frag} {h : Heap} {mg : Str → Option Value} {fa fC fDi fRo fPi fMa fKe fKn fDu fWo fLa c0 c1 c2 c3 c4 c5 c6 c7 c8 c9 c10 c11 c12 c13 c14 c15 c16 i10 i11 i12 i13 i14 i15 : Addr} {odC anC odDi anDi odRo anRo odPi anPi odMa anMa odKe anKe odKn anKn odDu anDu odWo anWo odLa anLa od10 an10 od11 an11 od12 an12 od13 an13 od14 an14 od15 an15 : Option Addr} {slC slDi slRo slPi slMa slKe slKn slDu slWo slLa sl10 sl11 sl12 sl13 sl14 sl15 : Array (Option Value)} {ocC kVC dcC pmC cdC ctC ocDi kVDi dcDi pmDi cdDi ctDi ocRo kVRo dcRo pmRo cdRo ctRo ocPi kVPi dcPi pmPi cdPi ctPi ocMa kVMa dcMa pmMa cdMa ctMa ocKe kVKe dcKe pmKe cdKe ctKe ocKn kVKn dcKn pmKn cdKn ctKn ocDu kVDu dcDu pmDu cdDu ctDu ocWo kVWo dcWo pmWo cdWo ctWo ocLa kVLa dcLa pmLa cdLa ctLa oc10 kV10 dc10 pm10 cd10 ct10 oc11 kV11 dc11 pm11 cd11 ct11 oc12 kV12 dc12 pm12 cd12 ct12 oc13 kV13 dc13 pm13 cd13 ct13 oc14 kV14 dc14 pm14 cd14 ct14 oc15 kV15 dc15 pm15 cd15 ct15 : Value} (X : K.In h) (G : h.Ns mainGlobals mg) (hfa : mg "law" = some (.ref fa))
    (aC : PySem.W.nsIn K mainGlobals "own_copy" = some (some (.ref fC)))
    (lC : K.lookup fC = some ⟨ocC, odC, .func (PySem.W.fnOf "own_copy" "own_copy" (defArgs sCopy) (defBody sCopy) (defScope sCopy) .none kVC dcC pmC anC cdC ctC), slC⟩)
    (dC : PySem.W.codeIn K cdC "own_copy" = true)
    (kC : PySem.W.keepIn K (.ref fC) = true)
    (aDi : PySem.W.nsIn K mainGlobals "_law_dice" = some (some (.ref fDi)))
    (lDi : K.lookup fDi = some ⟨ocDi, odDi, .func (PySem.W.fnOf "_law_dice" "_law_dice" (defArgs sDice) (defBody sDice) (defScope sDice) .none kVDi dcDi pmDi anDi cdDi ctDi), slDi⟩)
    (dDi : PySem.W.codeIn K cdDi "_law_dice" = true)
    (kDi : PySem.W.keepIn K (.ref fDi) = true)
    (aRo : PySem.W.nsIn K mainGlobals "_law_roll" = some (some (.ref fRo)))
    (lRo : K.lookup fRo = some ⟨ocRo, odRo, .func (PySem.W.fnOf "_law_roll" "_law_roll" (defArgs sRoll) (defBody sRoll) (defScope sRoll) .none kVRo dcRo pmRo anRo cdRo ctRo), slRo⟩)
    (dRo : PySem.W.codeIn K cdRo "_law_roll" = true)
    (kRo : PySem.W.keepIn K (.ref fRo) = true)
    (aPi : PySem.W.nsIn K mainGlobals "_law_pick" = some (some (.ref fPi)))
    (lPi : K.lookup fPi = some ⟨ocPi, odPi, .func (PySem.W.fnOf "_law_pick" "_law_pick" (defArgs sPick) (defBody sPick) (defScope sPick) .none kVPi dcPi pmPi anPi cdPi ctPi), slPi⟩)
    (dPi : PySem.W.codeIn K cdPi "_law_pick" = true)
    (kPi : PySem.W.keepIn K (.ref fPi) = true)
    (aMa : PySem.W.nsIn K mainGlobals "_law_made" = some (some (.ref fMa)))
    (lMa : K.lookup fMa = some ⟨ocMa, odMa, .func (PySem.W.fnOf "_law_made" "_law_made" (defArgs sMade) (defBody sMade) (defScope sMade) .none kVMa dcMa pmMa anMa cdMa ctMa), slMa⟩)
    (dMa : PySem.W.codeIn K cdMa "_law_made" = true)
    (kMa : PySem.W.keepIn K (.ref fMa) = true)
    (aKe : PySem.W.nsIn K mainGlobals "_law_kept" = some (some (.ref fKe)))
    (lKe : K.lookup fKe = some ⟨ocKe, odKe, .func (PySem.W.fnOf "_law_kept" "_law_kept" (defArgs sKept) (defBody sKept) (defScope sKept) .none kVKe dcKe pmKe anKe cdKe ctKe), slKe⟩)
    (dKe : PySem.W.codeIn K cdKe "_law_kept" = true)
    (kKe : PySem.W.keepIn K (.ref fKe) = true)
    (aKn : PySem.W.nsIn K mainGlobals "_law_kinds" = some (some (.ref fKn)))
    (lKn : K.lookup fKn = some ⟨ocKn, odKn, .func (PySem.W.fnOf "_law_kinds" "_law_kinds" (defArgs sKinds) (defBody sKinds) (defScope sKinds) .none kVKn dcKn pmKn anKn cdKn ctKn), slKn⟩)
    (dKn : PySem.W.codeIn K cdKn "_law_kinds" = true)
    (kKn : PySem.W.keepIn K (.ref fKn) = true)
    (aDu : PySem.W.nsIn K mainGlobals "_law_due" = some (some (.ref fDu)))
    (lDu : K.lookup fDu = some ⟨ocDu, odDu, .func (PySem.W.fnOf "_law_due" "_law_due" (defArgs sDue) (defBody sDue) (defScope sDue) .none kVDu dcDu pmDu anDu cdDu ctDu), slDu⟩)
    (dDu : PySem.W.codeIn K cdDu "_law_due" = true)
    (kDu : PySem.W.keepIn K (.ref fDu) = true)
    (aWo : PySem.W.nsIn K mainGlobals "_law_words" = some (some (.ref fWo)))
    (lWo : K.lookup fWo = some ⟨ocWo, odWo, .func (PySem.W.fnOf "_law_words" "_law_words" (defArgs sWords) (defBody sWords) (defScope sWords) .none kVWo dcWo pmWo anWo cdWo ctWo), slWo⟩)
    (dWo : PySem.W.codeIn K cdWo "_law_words" = true)
    (kWo : PySem.W.keepIn K (.ref fWo) = true)
    (aLa : PySem.W.nsIn K mainGlobals "law" = some (some (.ref fLa)))
    (lLa : K.lookup fLa = some ⟨ocLa, odLa, .func (PySem.W.fnOf "law" "law" (defArgs sLaw) (defBody sLaw) (defScope sLaw) .none kVLa dcLa pmLa anLa cdLa ctLa), slLa⟩)
    (dLa : PySem.W.codeIn K cdLa "law" = true)
    (kLa : PySem.W.keepIn K (.ref fLa) = true)
    (g0 : PySem.W.nsIn K mainGlobals "InvalidName" = some (some (.ref c0)))
    (g1 : PySem.W.nsIn K mainGlobals "InvalidNet" = some (some (.ref c1)))
    (g2 : PySem.W.nsIn K mainGlobals "InvalidRow" = some (some (.ref c2)))
    (g3 : PySem.W.nsIn K mainGlobals "InvalidTable" = some (some (.ref c3)))
    (g4 : PySem.W.nsIn K mainGlobals "InvalidCourse" = some (some (.ref c4)))
    (g5 : PySem.W.nsIn K mainGlobals "InvalidWay" = some (some (.ref c5)))
    (g6 : PySem.W.nsIn K mainGlobals "InvalidDay" = some (some (.ref c6)))
    (g7 : PySem.W.nsIn K mainGlobals "InvalidDeal" = some (some (.ref c7)))
    (g8 : PySem.W.nsIn K mainGlobals "InvalidOperation" = some (some (.ref c8)))
    (g9 : PySem.W.nsIn K mainGlobals "InvalidCommand" = some (some (.ref c9)))
    (g10 : PySem.W.nsIn K mainGlobals "ParseError" = some (some (.ref c10)))
    (g11 : PySem.W.nsIn K mainGlobals "UnknownName" = some (some (.ref c11)))
    (g12 : PySem.W.nsIn K mainGlobals "InvalidNumber" = some (some (.ref c12)))
    (g13 : PySem.W.nsIn K mainGlobals "TooMany" = some (some (.ref c13)))
    (g14 : PySem.W.nsIn K mainGlobals "Refused" = some (some (.ref c14)))
    (g15 : PySem.W.nsIn K mainGlobals "NothingToUndo" = some (some (.ref c15)))
    (g16 : PySem.W.nsIn K mainGlobals "DayError" = some (some (.ref c16)))
    (j10 : PySem.W.findIn K (.ref c10) "__init__" = some (some (.ref i10)))
    (l10 : K.lookup i10 = some ⟨oc10, od10, .func (PySem.W.fnOf "__init__" "ParseError.__init__" (defArgs (iniOf 12)) (defBody (iniOf 12)) (defScope (iniOf 12)) .none kV10 dc10 pm10 an10 cd10 ct10), sl10⟩)
    (d10 : PySem.W.codeIn K cd10 "ParseError.__init__" = true)
    (k10 : PySem.W.keepIn K (.ref i10) = true)
    (j11 : PySem.W.findIn K (.ref c11) "__init__" = some (some (.ref i11)))
    (l11 : K.lookup i11 = some ⟨oc11, od11, .func (PySem.W.fnOf "__init__" "UnknownName.__init__" (defArgs (iniOf 13)) (defBody (iniOf 13)) (defScope (iniOf 13)) .none kV11 dc11 pm11 an11 cd11 ct11), sl11⟩)
    (d11 : PySem.W.codeIn K cd11 "UnknownName.__init__" = true)
    (k11 : PySem.W.keepIn K (.ref i11) = true)
    (j12 : PySem.W.findIn K (.ref c12) "__init__" = some (some (.ref i12)))
    (l12 : K.lookup i12 = some ⟨oc12, od12, .func (PySem.W.fnOf "__init__" "InvalidNumber.__init__" (defArgs (iniOf 14)) (defBody (iniOf 14)) (defScope (iniOf 14)) .none kV12 dc12 pm12 an12 cd12 ct12), sl12⟩)
    (d12 : PySem.W.codeIn K cd12 "InvalidNumber.__init__" = true)
    (k12 : PySem.W.keepIn K (.ref i12) = true)
    (j13 : PySem.W.findIn K (.ref c13) "__init__" = some (some (.ref i13)))
    (l13 : K.lookup i13 = some ⟨oc13, od13, .func (PySem.W.fnOf "__init__" "TooMany.__init__" (defArgs (iniOf 15)) (defBody (iniOf 15)) (defScope (iniOf 15)) .none kV13 dc13 pm13 an13 cd13 ct13), sl13⟩)
    (d13 : PySem.W.codeIn K cd13 "TooMany.__init__" = true)
    (k13 : PySem.W.keepIn K (.ref i13) = true)
    (j14 : PySem.W.findIn K (.ref c14) "__init__" = some (some (.ref i14)))
    (l14 : K.lookup i14 = some ⟨oc14, od14, .func (PySem.W.fnOf "__init__" "Refused.__init__" (defArgs (iniOf 16)) (defBody (iniOf 16)) (defScope (iniOf 16)) .none kV14 dc14 pm14 an14 cd14 ct14), sl14⟩)
    (d14 : PySem.W.codeIn K cd14 "Refused.__init__" = true)
    (k14 : PySem.W.keepIn K (.ref i14) = true)
    (j15 : PySem.W.findIn K (.ref c15) "__init__" = some (some (.ref i15)))
    (l15 : K.lookup i15 = some ⟨oc15, od15, .func (PySem.W.fnOf "__init__" "NothingToUndo.__init__" (defArgs (iniOf 17)) (defBody (iniOf 17)) (defScope (iniOf 17)) .none kV15 dc15 pm15 an15 cd15 ct15), sl15⟩)
    (d15 : PySem.W.codeIn K cd15 "NothingToUndo.__init__" = true)
    (k15 : PySem.W.keepIn K (.ref i15) = true)
    (e0 : exkB K c0 = true)
    (e1 : exkB K c1 = true)
    (e2 : exkB K c2 = true)
    (e3 : exkB K c3 = true)
    (e4 : exkB K c4 = true)
    (e5 : exkB K c5 = true)
    (e6 : exkB K c6 = true)
    (e7 : exkB K c7 = true)
    (e8 : exkB K c8 = true)
    (e9 : exkB K c9 = true)
    (e10 : exkB K c10 = true)
    (e11 : exkB K c11 = true)
    (e12 : exkB K c12 = true)
    (e13 : exkB K c13 = true)
    (e14 : exkB K c14 = true)
    (e15 : exkB K c15 = true)
    (e16 : exkB K c16 = true)
    (p0 : plB K c0 = true)
    (p1 : plB K c1 = true)
    (p2 : plB K c2 = true)
    (p3 : plB K c3 = true)
    (p4 : plB K c4 = true)
    (p5 : plB K c5 = true)
    (p6 : plB K c6 = true)
    (p7 : plB K c7 = true)
    (p8 : plB K c8 = true)
    (p9 : plB K c9 = true)
    (p16 : plB K c16 = true)
    (o10 : owB K c10 "line" "ValueError.__new__" "ValueError" "ValueError" [.type "ValueError", .type "Exception", .type "BaseException", .type "object"] i10 = true)
    (o11 : owB K c11 "wanted" "LookupError.__new__" "LookupError" "KeyError" [.type "KeyError", .type "LookupError", .type "Exception", .type "BaseException", .type "object"] i11 = true)
    (o12 : owB K c12 "given" "RuntimeError.__new__" "RuntimeError" "RuntimeError" [.type "RuntimeError", .type "Exception", .type "BaseException", .type "object"] i12 = true)
    (o13 : owB K c13 "limit" "OverflowError.__new__" "OverflowError" "OverflowError" [.type "OverflowError", .type "ArithmeticError", .type "Exception", .type "BaseException", .type "object"] i13 = true)
    (o14 : owB K c14 "reason" "ArithmeticError.__new__" "ArithmeticError" "ArithmeticError" [.type "ArithmeticError", .type "Exception", .type "BaseException", .type "object"] i14 = true)
    (o15 : owB K c15 "wanted" "IndexError.__new__" "IndexError" "IndexError" [.type "IndexError", .type "LookupError", .type "Exception", .type "BaseException", .type "object"] i15 = true)
    (v11 : PySem.W.findCls K (.type "KeyError") (.type "type") "__init__" = some (.val (.builtin "KeyError.__init__")))
    (v12 : PySem.W.findCls K (.type "RuntimeError") (.type "type") "__init__" = some (.val (.builtin "RuntimeError.__init__")))
    (v13 : PySem.W.findCls K (.type "OverflowError") (.type "type") "__init__" = some (.val (.builtin "OverflowError.__init__")))
    (v14 : PySem.W.findCls K (.type "ArithmeticError") (.type "type") "__init__" = some (.val (.builtin "ArithmeticError.__init__")))
    (v15 : PySem.W.findCls K (.type "IndexError") (.type "type") "__init__" = some (.val (.builtin "IndexError.__init__")))
    (sg : PySem.W.specialIn K (.ref c16) "__getattribute__" = some (some (.builtin "type.__getattribute__")))
    (rd : PySem.W.readsIn K c16 (.type "type") = true)
    (v10 : PySem.W.findCls K (.ref c16) (.type "type") "__init__" = some (.val (.builtin "ValueError.__init__")))
    (kt : kitAll K [c0, c1, c2, c3, c4, c5, c6, c7, c8, c9, c10, c11, c12, c13, c14, c15, c16] = true)
    (z_isinstance : PySem.W.nsIn K mainGlobals "isinstance" = some none)
    (z_list : PySem.W.nsIn K mainGlobals "list" = some none)
    (z_tuple : PySem.W.nsIn K mainGlobals "tuple" = some none)
    (z_dict : PySem.W.nsIn K mainGlobals "dict" = some none)
    (z_str : PySem.W.nsIn K mainGlobals "str" = some none)
    (z_repr : PySem.W.nsIn K mainGlobals "repr" = some none)
    (z_len : PySem.W.nsIn K mainGlobals "len" = some none)
    (z_int : PySem.W.nsIn K mainGlobals "int" = some none)
    (z_abs : PySem.W.nsIn K mainGlobals "abs" = some none)
    (z_max : PySem.W.nsIn K mainGlobals "max" = some none)
    (z_min : PySem.W.nsIn K mainGlobals "min" = some none)
    (z_range : PySem.W.nsIn K mainGlobals "range" = some none)
    (z_ValueError : PySem.W.nsIn K mainGlobals "ValueError" = some none)
    (z_KeyError : PySem.W.nsIn K mainGlobals "KeyError" = some none)
    (z_RuntimeError : PySem.W.nsIn K mainGlobals "RuntimeError" = some none)
    (z_OverflowError : PySem.W.nsIn K mainGlobals "OverflowError" = some none)
    (z_ArithmeticError : PySem.W.nsIn K mainGlobals "ArithmeticError" = some none)
    (z_IndexError : PySem.W.nsIn K mainGlobals "IndexError" = some none)
    (z_LookupError : PySem.W.nsIn K mainGlobals "LookupError" = some none)
    (z_TypeError : PySem.W.nsIn K mainGlobals "TypeError" = some none)
    (z_ZeroDivisionError : PySem.W.nsIn K mainGlobals "ZeroDivisionError" = some none)
    : ∃ fd : FuncData, (∀ (t : Shared) (v : Value), BindsTo t fd ⟨[v], []⟩ [("script", v)]) ∧ ∀ base : Heap, K.In base → FnG l.prog w K mg base 8 fa fd ["script"] (spLaw K) := by
  have e := hfa.symm.trans (PySem.W.mg_of X G aLa)
  cases e
  have y_isinstance := PySem.W.mg_none_of X G z_isinstance
  have y_list := PySem.W.mg_none_of X G z_list
  have y_tuple := PySem.W.mg_none_of X G z_tuple
  have y_dict := PySem.W.mg_none_of X G z_dict
  have y_str := PySem.W.mg_none_of X G z_str
  have y_repr := PySem.W.mg_none_of X G z_repr
  have y_len := PySem.W.mg_none_of X G z_len
  have y_int := PySem.W.mg_none_of X G z_int
  have y_abs := PySem.W.mg_none_of X G z_abs
  have y_max := PySem.W.mg_none_of X G z_max
  have y_min := PySem.W.mg_none_of X G z_min
  have y_range := PySem.W.mg_none_of X G z_range
  have y_ValueError := PySem.W.mg_none_of X G z_ValueError
  have y_KeyError := PySem.W.mg_none_of X G z_KeyError
  have y_RuntimeError := PySem.W.mg_none_of X G z_RuntimeError
  have y_OverflowError := PySem.W.mg_none_of X G z_OverflowError
  have y_ArithmeticError := PySem.W.mg_none_of X G z_ArithmeticError
  have y_IndexError := PySem.W.mg_none_of X G z_IndexError
  have y_LookupError := PySem.W.mg_none_of X G z_LookupError
  have y_TypeError := PySem.W.mg_none_of X G z_TypeError
  have y_ZeroDivisionError := PySem.W.mg_none_of X G z_ZeroDivisionError
  have FC : Fun K "own_copy" "own_copy" sCopy fC _ := fun_mk (st := sCopy) lC dC kC
  have bC := FC.binds (ps := ["value"]) fun _ _ _ _ _ _ us hl => match us, hl with | [_], _ => rfl
  have mC := PySem.W.mg_of X G aC
  have FDi : Fun K "_law_dice" "_law_dice" sDice fDi _ := fun_mk (st := sDice) lDi dDi kDi
  have bDi := FDi.binds (ps := ["script", "spot"]) fun _ _ _ _ _ _ us hl => match us, hl with | [_, _], _ => rfl
  have mDi := PySem.W.mg_of X G aDi
  have FRo : Fun K "_law_roll" "_law_roll" sRoll fRo _ := fun_mk (st := sRoll) lRo dRo kRo
  have bRo := FRo.binds (ps := ["dice", "total"]) fun _ _ _ _ _ _ us hl => match us, hl with | [_, _], _ => rfl
  have mRo := PySem.W.mg_of X G aRo
  have FPi : Fun K "_law_pick" "_law_pick" sPick fPi _ := fun_mk (st := sPick) lPi dPi kPi
  have bPi := FPi.binds (ps := ["dice", "items"]) fun _ _ _ _ _ _ us hl => match us, hl with | [_, _], _ => rfl
  have mPi := PySem.W.mg_of X G aPi
  have FMa : Fun K "_law_made" "_law_made" sMade fMa _ := fun_mk (st := sMade) lMa dMa kMa
  have bMa := FMa.binds (ps := ["word", "value"]) fun _ _ _ _ _ _ us hl => match us, hl with | [_, _], _ => rfl
  have mMa := PySem.W.mg_of X G aMa
  have FKe : Fun K "_law_kept" "_law_kept" sKept fKe _ := fun_mk (st := sKept) lKe dKe kKe
  have bKe := FKe.binds (ps := ["word", "error"]) fun _ _ _ _ _ _ us hl => match us, hl with | [_, _], _ => rfl
  have mKe := PySem.W.mg_of X G aKe
  have FKn : Fun K "_law_kinds" "_law_kinds" sKinds fKn _ := fun_mk (st := sKinds) lKn dKn kKn
  have bKn := FKn.binds (ps := ["error"]) fun _ _ _ _ _ _ us hl => match us, hl with | [_], _ => rfl
  have mKn := PySem.W.mg_of X G aKn
  have FDu : Fun K "_law_due" "_law_due" sDue fDu _ := fun_mk (st := sDue) lDu dDu kDu
  have bDu := FDu.binds (ps := ["word"]) fun _ _ _ _ _ _ us hl => match us, hl with | [_], _ => rfl
  have mDu := PySem.W.mg_of X G aDu
  have FWo : Fun K "_law_words" "_law_words" sWords fWo _ := fun_mk (st := sWords) lWo dWo kWo
  have bWo := FWo.binds (ps := []) fun _ _ _ _ _ _ us hl => match us, hl with | [], _ => rfl
  have mWo := PySem.W.mg_of X G aWo
  have FLa : Fun K "law" "law" sLaw fa _ := fun_mk (st := sLaw) lLa dLa kLa
  have mLa := PySem.W.mg_of X G aLa
  have F10 : Fun K "__init__" "ParseError.__init__" (iniOf 12) i10 _ := fun_mk (st := iniOf 12) l10 d10 k10
  have b10 := F10.binds (ps := ["self", "line"]) fun _ _ _ _ _ _ us hl => match us, hl with | [_, _], _ => rfl
  have F11 : Fun K "__init__" "UnknownName.__init__" (iniOf 13) i11 _ := fun_mk (st := iniOf 13) l11 d11 k11
  have b11 := F11.binds (ps := ["self", "wanted"]) fun _ _ _ _ _ _ us hl => match us, hl with | [_, _], _ => rfl
  have F12 : Fun K "__init__" "InvalidNumber.__init__" (iniOf 14) i12 _ := fun_mk (st := iniOf 14) l12 d12 k12
  have b12 := F12.binds (ps := ["self", "given"]) fun _ _ _ _ _ _ us hl => match us, hl with | [_, _], _ => rfl
  have F13 : Fun K "__init__" "TooMany.__init__" (iniOf 15) i13 _ := fun_mk (st := iniOf 15) l13 d13 k13
  have b13 := F13.binds (ps := ["self", "limit"]) fun _ _ _ _ _ _ us hl => match us, hl with | [_, _], _ => rfl
  have F14 : Fun K "__init__" "Refused.__init__" (iniOf 16) i14 _ := fun_mk (st := iniOf 16) l14 d14 k14
  have b14 := F14.binds (ps := ["self", "reason"]) fun _ _ _ _ _ _ us hl => match us, hl with | [_, _], _ => rfl
  have F15 : Fun K "__init__" "NothingToUndo.__init__" (iniOf 17) i15 _ := fun_mk (st := iniOf 17) l15 d15 k15
  have b15 := F15.binds (ps := ["self", "wanted"]) fun _ _ _ _ _ _ us hl => match us, hl with | [_, _], _ => rfl
  have m0 := PySem.W.mg_of X G g0
  have t0 := exk_of e0
  have m1 := PySem.W.mg_of X G g1
  have t1 := exk_of e1
  have m2 := PySem.W.mg_of X G g2
  have t2 := exk_of e2
  have m3 := PySem.W.mg_of X G g3
  have t3 := exk_of e3
  have m4 := PySem.W.mg_of X G g4
  have t4 := exk_of e4
  have m5 := PySem.W.mg_of X G g5
  have t5 := exk_of e5
  have m6 := PySem.W.mg_of X G g6
  have t6 := exk_of e6
  have m7 := PySem.W.mg_of X G g7
  have t7 := exk_of e7
  have m8 := PySem.W.mg_of X G g8
  have t8 := exk_of e8
  have m9 := PySem.W.mg_of X G g9
  have t9 := exk_of e9
  have m10 := PySem.W.mg_of X G g10
  have t10 := exk_of e10
  have m11 := PySem.W.mg_of X G g11
  have t11 := exk_of e11
  have m12 := PySem.W.mg_of X G g12
  have t12 := exk_of e12
  have m13 := PySem.W.mg_of X G g13
  have t13 := exk_of e13
  have m14 := PySem.W.mg_of X G g14
  have t14 := exk_of e14
  have m15 := PySem.W.mg_of X G g15
  have t15 := exk_of e15
  have m16 := PySem.W.mg_of X G g16
  have t16 := exk_of e16
  have q0 : PlK K mg "InvalidName" (cOf [c0, c1, c2, c3, c4, c5, c6, c7, c8, c9, c10, c11, c12, c13, c14, c15, c16] 0) := pl_of e0 p0 m0
  have q1 : PlK K mg "InvalidNet" (cOf [c0, c1, c2, c3, c4, c5, c6, c7, c8, c9, c10, c11, c12, c13, c14, c15, c16] 1) := pl_of e1 p1 m1
  have q2 : PlK K mg "InvalidRow" (cOf [c0, c1, c2, c3, c4, c5, c6, c7, c8, c9, c10, c11, c12, c13, c14, c15, c16] 2) := pl_of e2 p2 m2
  have q3 : PlK K mg "InvalidTable" (cOf [c0, c1, c2, c3, c4, c5, c6, c7, c8, c9, c10, c11, c12, c13, c14, c15, c16] 3) := pl_of e3 p3 m3
  have q4 : PlK K mg "InvalidCourse" (cOf [c0, c1, c2, c3, c4, c5, c6, c7, c8, c9, c10, c11, c12, c13, c14, c15, c16] 4) := pl_of e4 p4 m4
  have q5 : PlK K mg "InvalidWay" (cOf [c0, c1, c2, c3, c4, c5, c6, c7, c8, c9, c10, c11, c12, c13, c14, c15, c16] 5) := pl_of e5 p5 m5
  have q6 : PlK K mg "InvalidDay" (cOf [c0, c1, c2, c3, c4, c5, c6, c7, c8, c9, c10, c11, c12, c13, c14, c15, c16] 6) := pl_of e6 p6 m6
  have q7 : PlK K mg "InvalidDeal" (cOf [c0, c1, c2, c3, c4, c5, c6, c7, c8, c9, c10, c11, c12, c13, c14, c15, c16] 7) := pl_of e7 p7 m7
  have q8 : PlK K mg "InvalidOperation" (cOf [c0, c1, c2, c3, c4, c5, c6, c7, c8, c9, c10, c11, c12, c13, c14, c15, c16] 8) := pl_of e8 p8 m8
  have q9 : PlK K mg "InvalidCommand" (cOf [c0, c1, c2, c3, c4, c5, c6, c7, c8, c9, c10, c11, c12, c13, c14, c15, c16] 9) := pl_of e9 p9 m9
  have q16 : PlK K mg "DayError" (cOf [c0, c1, c2, c3, c4, c5, c6, c7, c8, c9, c10, c11, c12, c13, c14, c15, c16] 16) := pl_of e16 p16 m16
  obtain ⟨x10, tf10, nf10, ov10, tk10⟩ := ow_of o10
  obtain ⟨x11, tf11, nf11, ov11, tk11⟩ := ow_of o11
  obtain ⟨x12, tf12, nf12, ov12, tk12⟩ := ow_of o12
  obtain ⟨x13, tf13, nf13, ov13, tk13⟩ := ow_of o13
  obtain ⟨x14, tf14, nf14, ov14, tk14⟩ := ow_of o14
  obtain ⟨x15, tf15, nf15, ov15, tk15⟩ := ow_of o15
  refine ⟨PySem.W.fnOf "law" "law" (defArgs sLaw) (defBody sLaw) (defScope sLaw) .none kVLa dcLa pmLa anLa cdLa ctLa, fun t v => .of_eq rfl, fun base _ => ?_⟩
  have Y : CopyK l.prog w K mg base fC _ := ⟨ok_copyN FC bC mC y_isinstance y_list y_tuple y_dict 4, bC, mC, FC.kp⟩
  have w10 : OwK l.prog w K mg base "ParseError" "line" "ValueError.__new__" "ValueError" "ValueError" (cOf [c0, c1, c2, c3, c4, c5, c6, c7, c8, c9, c10, c11, c12, c13, c14, c15, c16] 10) i10 _ := ⟨t10, m10, x10, j10, tf10, b10, ok_parse F10 Y t10 x10 ov10 tk10 m16 sg rd v10, nf10⟩
  have w11 : OwK l.prog w K mg base "UnknownName" "wanted" "LookupError.__new__" "LookupError" "KeyError" (cOf [c0, c1, c2, c3, c4, c5, c6, c7, c8, c9, c10, c11, c12, c13, c14, c15, c16] 11) i11 _ := ⟨t11, m11, x11, j11, tf11, b11, ok_unknown F11 Y t11 x11 ov11 tk11 y_KeyError v11, nf11⟩
  have w12 : OwK l.prog w K mg base "InvalidNumber" "given" "RuntimeError.__new__" "RuntimeError" "RuntimeError" (cOf [c0, c1, c2, c3, c4, c5, c6, c7, c8, c9, c10, c11, c12, c13, c14, c15, c16] 12) i12 _ := ⟨t12, m12, x12, j12, tf12, b12, ok_number F12 Y t12 x12 ov12 tk12 y_RuntimeError v12, nf12⟩
  have w13 : OwK l.prog w K mg base "TooMany" "limit" "OverflowError.__new__" "OverflowError" "OverflowError" (cOf [c0, c1, c2, c3, c4, c5, c6, c7, c8, c9, c10, c11, c12, c13, c14, c15, c16] 13) i13 _ := ⟨t13, m13, x13, j13, tf13, b13, ok_many F13 Y t13 x13 ov13 tk13 y_OverflowError v13, nf13⟩
  have w14 : OwK l.prog w K mg base "Refused" "reason" "ArithmeticError.__new__" "ArithmeticError" "ArithmeticError" (cOf [c0, c1, c2, c3, c4, c5, c6, c7, c8, c9, c10, c11, c12, c13, c14, c15, c16] 14) i14 _ := ⟨t14, m14, x14, j14, tf14, b14, ok_refused F14 Y t14 x14 ov14 tk14 y_ArithmeticError v14, nf14⟩
  have w15 : OwK l.prog w K mg base "NothingToUndo" "wanted" "IndexError.__new__" "IndexError" "IndexError" (cOf [c0, c1, c2, c3, c4, c5, c6, c7, c8, c9, c10, c11, c12, c13, c14, c15, c16] 15) i15 _ := ⟨t15, m15, x15, j15, tf15, b15, ok_undo F15 Y t15 x15 ov15 tk15 y_IndexError v15, nf15⟩
  have GRo := ok_roll (P := l.prog) (w := w) (mg := mg) (base := base) FRo
  refine ok_law (cA := cOf [c0, c1, c2, c3, c4, c5, c6, c7, c8, c9, c10, c11, c12, c13, c14, c15, c16]) FLa ⟨ok_dice FDi y_len y_int y_abs y_max, FDi.kp, bDi, mDi⟩ ⟨ok_words FWo, FWo.kp, bWo, mWo⟩ ⟨ok_pick FPi FRo bRo mRo y_len, FPi.kp, bPi, mPi⟩
    ⟨ok_made FMa q0 q1 q2 q3 q4 q5 q6 q7 q8 q9 q16 w10 w11 w12 w13 w14 w15, FMa.kp, bMa, mMa⟩ ⟨ok_kept FKe q0 q1 q2 q3 q4 q5 q6 q7 q8 q9 t10 nf10 t11 nf11 t12 nf12 t13 nf13 t14 nf14 t15 nf15 y_str, FKe.kp, bKe, mKe⟩
    ⟨ok_kinds FKn m0 m1 m2 m3 m4 m5 m6 m7 m8 m9 m10 m11 m12 m13 m14 m15 m16 y_ValueError y_KeyError y_RuntimeError y_OverflowError y_ArithmeticError y_IndexError y_LookupError y_TypeError y_ZeroDivisionError y_isinstance (kit_of' kt), FKn.kp, bKn, mKn⟩
    ⟨ok_due FDu, FDu.kp, bDu, mDu⟩ (fun n hn => ?_) q16 y_len y_max y_min y_range y_repr y_str
  have cs : n = 0 ∨ n = 1 ∨ n = 2 ∨ n = 3 ∨ n = 4 ∨ n = 5 ∨ n = 6 ∨ n = 7 ∨ n = 8 ∨ n = 9 ∨ n = 10 ∨ n = 11 ∨ n = 12 ∨ n = 13 ∨ n = 14 ∨ n = 15 := by omega
  rcases cs with rfl | rfl | rfl | rfl | rfl | rfl | rfl | rfl | rfl | rfl | rfl | rfl | rfl | rfl | rfl | rfl
  · exact t0
  · exact t1
  · exact t2
  · exact t3
  · exact t4
  · exact t5
  · exact t6
  · exact t7
  · exact t8
  · exact t9
  · exact t10
  · exact t11
  · exact t12
  · exact t13
  · exact t14
  · exact t15
theorem walk {l : PySem.W.OpenLaw} {q : Program} {loose : List Str} {XP : (Str → Option Value) → Heap → Prop} {YP : World → Heap → Prop} {d : DefRec} {K : Params → PySem.W.Frag} (hn : l.most = some 63) (hdf : d.params.defaults = [])
    (hY : ∀ (w : World) (h : Heap), YP w h → (K w.params).In h)
    (F : ∀ (w : World) (mg : Str → Option Value) (fa : Addr) (h : Heap), (K w.params).In h → h.Ns mainGlobals mg → mg d.name = some (.ref fa) →
      ∃ fd : FuncData, (∀ (t : Shared) (u : Value), BindsTo t fd ⟨[u], []⟩ [("script", u)]) ∧ ∀ base : Heap, (K w.params).In base → FnG l.prog w (K w.params) mg base 8 fa fd ["script"] (spLaw (K w.params))) :
    PySem.W.WalkO q loose XP YP l.row.toRowW d [] (fun f vs => PySem.call f vs) :=
  walkG (n := 63) (k := 8) (x := "script") (sp := spLaw) hn (by decide) hdf ⟨rfl, by decide, by decide⟩ hY F fun _ _ a ns hl hS => ⟨a, ns, rfl, hS, hl, fun _ => rfl⟩
end K1

open PySem PySem.W PyProof.Rows in
set_option maxRecDepth 100000 in
set_option maxHeartbeats 0 in
theorem PySem.Challenge.cw_dawnway_k01_errors_holds : PySem.Challenge.rw_dawnway_k01_errors.Holds := by
  w_on; o_law; k_head; (case hw => w_witness2)
  k_fill
  refine K1.walk (l := PySem.Challenge.rw_dawnway_k01_errors) rfl rfl (fun w h Y => PySem.W.kIn_of Y) ?F
  case F =>
    intro w mg fa h KX G hmg
    refine' K1.all_mk KX G hmg ?q7_aC ?q7_lC ?q7_dC ?q7_kC ?q7_aDi ?q7_lDi ?q7_dDi ?q7_kDi ?q7_aRo ?q7_lRo ?q7_dRo ?q7_kRo ?q7_aPi ?q7_lPi ?q7_dPi ?q7_kPi ?q7_aMa ?q7_lMa ?q7_dMa ?q7_kMa ?q7_aKe ?q7_lKe ?q7_dKe ?q7_kKe ?q7_aKn ?q7_lKn ?q7_dKn ?q7_kKn ?q7_aDu ?q7_lDu ?q7_dDu ?q7_kDu ?q7_aWo ?q7_lWo ?q7_dWo ?q7_kWo ?q7_aLa ?q7_lLa ?q7_dLa ?q7_kLa ?q7_g0 ?q7_g1 ?q7_g2 ?q7_g3 ?q7_g4 ?q7_g5 ?q7_g6 ?q7_g7 ?q7_g8 ?q7_g9 ?q7_g10 ?q7_g11 ?q7_g12 ?q7_g13 ?q7_g14 ?q7_g15 ?q7_g16 ?q7_j10 ?q7_l10 ?q7_d10 ?q7_k10 ?q7_j11 ?q7_l11 ?q7_d11 ?q7_k11 ?q7_j12 ?q7_l12 ?q7_d12 ?q7_k12 ?q7_j13 ?q7_l13 ?q7_d13 ?q7_k13 ?q7_j14 ?q7_l14 ?q7_d14 ?q7_k14 ?q7_j15 ?q7_l15 ?q7_d15 ?q7_k15 ?q7_e0 ?q7_e1 ?q7_e2 ?q7_e3 ?q7_e4 ?q7_e5 ?q7_e6 ?q7_e7 ?q7_e8 ?q7_e9 ?q7_e10 ?q7_e11 ?q7_e12 ?q7_e13 ?q7_e14 ?q7_e15 ?q7_e16 ?q7_p0 ?q7_p1 ?q7_p2 ?q7_p3 ?q7_p4 ?q7_p5 ?q7_p6 ?q7_p7 ?q7_p8 ?q7_p9 ?q7_p16 ?q7_o10 ?q7_o11 ?q7_o12 ?q7_o13 ?q7_o14 ?q7_o15 ?q7_v11 ?q7_v12 ?q7_v13 ?q7_v14 ?q7_v15 ?q7_sg ?q7_rd ?q7_v10 ?q7_kt ?q7_z_isinstance ?q7_z_list ?q7_z_tuple ?q7_z_dict ?q7_z_str ?q7_z_repr ?q7_z_len ?q7_z_int ?q7_z_abs ?q7_z_max ?q7_z_min ?q7_z_range ?q7_z_ValueError ?q7_z_KeyError ?q7_z_RuntimeError ?q7_z_OverflowError ?q7_z_ArithmeticError ?q7_z_IndexError ?q7_z_LookupError ?q7_z_TypeError ?q7_z_ZeroDivisionError
    (case q7_aC => k_is)
    (case q7_lC => k_is)
    (case q7_dC => k_is)
    (case q7_kC => k_is)
    (case q7_aDi => k_is)
    (case q7_lDi => k_is)
    (case q7_dDi => k_is)
    (case q7_kDi => k_is)
    (case q7_aRo => k_is)
    (case q7_lRo => k_is)
    (case q7_dRo => k_is)
    (case q7_kRo => k_is)
    (case q7_aPi => k_is)
    (case q7_lPi => k_is)
    (case q7_dPi => k_is)
    (case q7_kPi => k_is)
    (case q7_aMa => k_is)
    (case q7_lMa => k_is)
    (case q7_dMa => k_is)
    (case q7_kMa => k_is)
    (case q7_aKe => k_is)
    (case q7_lKe => k_is)
    (case q7_dKe => k_is)
    (case q7_kKe => k_is)
    (case q7_aKn => k_is)
    (case q7_lKn => k_is)
    (case q7_dKn => k_is)
    (case q7_kKn => k_is)
    (case q7_aDu => k_is)
    (case q7_lDu => k_is)
    (case q7_dDu => k_is)
    (case q7_kDu => k_is)
    (case q7_aWo => k_is)
    (case q7_lWo => k_is)
    (case q7_dWo => k_is)
    (case q7_kWo => k_is)
    (case q7_aLa => k_is)
    (case q7_lLa => k_is)
    (case q7_dLa => k_is)
    (case q7_kLa => k_is)
    (case q7_g0 => k_is)
    (case q7_g1 => k_is)
    (case q7_g2 => k_is)
    (case q7_g3 => k_is)
    (case q7_g4 => k_is)
    (case q7_g5 => k_is)
    (case q7_g6 => k_is)
    (case q7_g7 => k_is)
    (case q7_g8 => k_is)
    (case q7_g9 => k_is)
    (case q7_g10 => k_is)
    (case q7_g11 => k_is)
    (case q7_g12 => k_is)
    (case q7_g13 => k_is)
    (case q7_g14 => k_is)
    (case q7_g15 => k_is)
    (case q7_g16 => k_is)
    (case q7_j10 => k_is)
    (case q7_l10 => k_is)
    (case q7_d10 => k_is)
    (case q7_k10 => k_is)
    (case q7_j11 => k_is)
    (case q7_l11 => k_is)
    (case q7_d11 => k_is)
    (case q7_k11 => k_is)
    (case q7_j12 => k_is)
    (case q7_l12 => k_is)
    (case q7_d12 => k_is)
    (case q7_k12 => k_is)
    (case q7_j13 => k_is)
    (case q7_l13 => k_is)
    (case q7_d13 => k_is)
    (case q7_k13 => k_is)
    (case q7_j14 => k_is)
    (case q7_l14 => k_is)
    (case q7_d14 => k_is)
    (case q7_k14 => k_is)
    (case q7_j15 => k_is)
    (case q7_l15 => k_is)
    (case q7_d15 => k_is)
    (case q7_k15 => k_is)
    (case q7_e0 => first | kernel_rfl | k_is)
    (case q7_e1 => first | kernel_rfl | k_is)
    (case q7_e2 => first | kernel_rfl | k_is)
    (case q7_e3 => first | kernel_rfl | k_is)
    (case q7_e4 => first | kernel_rfl | k_is)
    (case q7_e5 => first | kernel_rfl | k_is)
    (case q7_e6 => first | kernel_rfl | k_is)
    (case q7_e7 => first | kernel_rfl | k_is)
    (case q7_e8 => first | kernel_rfl | k_is)
    (case q7_e9 => first | kernel_rfl | k_is)
    (case q7_e10 => first | kernel_rfl | k_is)
    (case q7_e11 => first | kernel_rfl | k_is)
    (case q7_e12 => first | kernel_rfl | k_is)
    (case q7_e13 => first | kernel_rfl | k_is)
    (case q7_e14 => first | kernel_rfl | k_is)
    (case q7_e15 => first | kernel_rfl | k_is)
    (case q7_e16 => first | kernel_rfl | k_is)
    (case q7_p0 => first | kernel_rfl | k_is)
    (case q7_p1 => first | kernel_rfl | k_is)
    (case q7_p2 => first | kernel_rfl | k_is)
    (case q7_p3 => first | kernel_rfl | k_is)
    (case q7_p4 => first | kernel_rfl | k_is)
    (case q7_p5 => first | kernel_rfl | k_is)
    (case q7_p6 => first | kernel_rfl | k_is)
    (case q7_p7 => first | kernel_rfl | k_is)
    (case q7_p8 => first | kernel_rfl | k_is)
    (case q7_p9 => first | kernel_rfl | k_is)
    (case q7_p16 => first | kernel_rfl | k_is)
    (case q7_o10 => first | kernel_rfl | k_is)
    (case q7_o11 => first | kernel_rfl | k_is)
    (case q7_o12 => first | kernel_rfl | k_is)
    (case q7_o13 => first | kernel_rfl | k_is)
    (case q7_o14 => first | kernel_rfl | k_is)
    (case q7_o15 => first | kernel_rfl | k_is)
    (case q7_v11 => k_is)
    (case q7_v12 => k_is)
    (case q7_v13 => k_is)
    (case q7_v14 => k_is)
    (case q7_v15 => k_is)
    (case q7_sg => k_is)
    (case q7_rd => k_is)
    (case q7_v10 => k_is)
    (case q7_kt => first | kernel_rfl | k_is)
    (case q7_z_isinstance => k_is)
    (case q7_z_list => k_is)
    (case q7_z_tuple => k_is)
    (case q7_z_dict => k_is)
    (case q7_z_str => k_is)
    (case q7_z_repr => k_is)
    (case q7_z_len => k_is)
    (case q7_z_int => k_is)
    (case q7_z_abs => k_is)
    (case q7_z_max => k_is)
    (case q7_z_min => k_is)
    (case q7_z_range => k_is)
    (case q7_z_ValueError => k_is)
    (case q7_z_KeyError => k_is)
    (case q7_z_RuntimeError => k_is)
    (case q7_z_OverflowError => k_is)
    (case q7_z_ArithmeticError => k_is)
    (case q7_z_IndexError => k_is)
    (case q7_z_LookupError => k_is)
    (case q7_z_TypeError => k_is)
    (case q7_z_ZeroDivisionError => k_is)
