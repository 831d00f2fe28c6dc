import PyProof.Rows.All
import Wide.All
import OpenK.AllK
import Wide.FinOn
import HandS.ForMost
import HandS.More
import HandS.WordsExc
import HandS.Defaults
import HandS.Exc
import HandS.TryOnly
import HandS.ExcOwn
import HandS.Wide
import HandS.Flow
import HandS.ExcInit
import HandS.ExcValue
import HandS.SlotsOwn
import HandS.Property
import HandS.IsInst
import HandS.Gcd
import KE.KOpsOwn
import HandS.WideBits
import PyProof.InstEq
import HandS.ExcField
import PyProof.ReprRoads
import HandS.MakeKwOnly
import HandS.Comp
import HandS.Ends
import KE.KExcIs
import HandS.ExcIs
import HandS.Rev
import HandS.MapObj
import HandS.Text
import HandS.Strs
import HandS.Codes
import PyProof.StrLawsTight
import KE.KIntText
import HandS.Iter
import HandS.FStr
import HandS.StrMore
import HandS.Steps
import HandS.ClsMeth
import HandS.Walk
import HandS.Zip
import HandS.Star
import KE.KMathG
import HandS.OwnEq
import HandS.MakeKw
import PySem.Challenge.RW_paystreams_k05_systems
section
set_option Elab.async false
set_option linter.all false
set_option maxRecDepth 100000
set_option maxHeartbeats 3900000
/-! W0: defs that run where no guard stands (repr asks that); the end of a law over such defs. -/
namespace Q
open L2 PySem PySem.Spec PyProof.Rows

structure RoomG (k : Nat) (A : Around) : Prop where
  r : Room k A
  g : A.guards = some []
theorem RoomG.mono {j k : Nat} {A : Around} (h : RoomG j A) (e : k ≤ j) : RoomG k A := ⟨h.r.mono e, h.g⟩
theorem RoomG.in1 {k : Nat} {A : Around} (h : RoomG (k + 1) A) : RoomG k A.in1 := ⟨h.r.in1, h.g⟩
theorem RoomG.deeper {k : Nat} {A : Around} (h : RoomG (k + 1) A) (env : Env) : RoomG k (A.deeper env) := ⟨h.r.deeper env, h.g⟩
theorem RoomG.make {k : Nat} {A : Around} (h : RoomG (k + 1) A) (C : Addr) (us : List Value) (kw : List (Str × Value)) : RoomG k (A.under (.builtin "type.__call__" ⟨.ref C :: us, kw⟩)) :=
  ⟨h.r.make C us kw, by
    show pushGuards (Code.builtin "type.__call__" ⟨.ref C :: us, kw⟩).guards A.guards = some []
    rw [h.g]
    rfl⟩
/-- a def's promise, kept where no guard stands -/
structure FnGk (P : Program) (w : World) (K : PySem.W.Frag) (mg : Str → Option Value) (base : Heap) (CX : CXT) (k : Nat) (f : Addr) (fd : FuncData) (ps : List Str) (sp : Sp) : Prop where
  len : ∀ us H Q E, sp us H Q E → us.length = ps.length
  run : ∀ (A : Around) (outer : List Env) (s : Shared) (H : Hp) (args : Args) (us : List Value) (vs : List V) (Q : VK) (E : XK), RoomG k A → Env0 P w K mg base A outer s H → BindsTo s fd args (ps.zip us) → Vals vs us →
    sp vs H Q E → codeAny (model P w) A (.call (.ref f) args) (CR CX outer P w H s Q E) s
def FnG (P : Program) (w : World) (K : PySem.W.Frag) (mg : Str → Option Value) (base : Heap) (CX : CXT) (k : Nat) (f : Addr) (sp : Sp) : Prop :=
  ∀ (A : Around) (outer : List Env) (s : Shared) (H : Hp) (us : List Value) (vs : List V) (Q : VK) (E : XK), RoomG k A → Env0 P w K mg base A outer s H → Vals vs us → sp vs H Q E →
    codeAny (model P w) A (.call (.ref f) ⟨us, []⟩)
      (CR CX outer P w H s Q E) s
section
variable {P : Program} {w : World} {K : PySem.W.Frag} {mg : Str → Option Value} {base : Heap} {CX : CXT} {k : Nat} {f : Addr} {fd : FuncData} {ps : List Str} {sp sp' : Sp}
theorem gk (F : FnOk P w K mg base CX k f fd ps sp) : FnGk P w K mg base CX k f fd ps sp := ⟨F.len, fun A outer s H as us vs Q E hr => F.run A outer s H as us vs Q E hr.r⟩
theorem gr (F : FnR P w K mg base CX k f sp) : FnG P w K mg base CX k f sp := fun A outer s H us vs Q E hr => F A outer s H us vs Q E hr.r
theorem FnG.imp (F : FnG P w K mg base CX k f sp) (h : ∀ vs H Q E, sp' vs H Q E → sp vs H Q E) : FnG P w K mg base CX k f sp' := fun A outer s H us vs Q E hr e r q => F A outer s H us vs Q E hr e r (h _ _ _ _ q)
theorem FnGk.raw {ds : List Value} {dvs : List V} (F : FnGk P w K mg base CX k f fd ps sp) (hb : Binds K fd ps ds) (hd : Vals dvs ds) : FnG P w K mg base CX k f (fun vs H Q E => sp (vs ++ dvs) H Q E) := by
  intro A outer s H us vs Q E room e0 r q
  have both : Vals (vs ++ dvs) (us ++ ds) := r.append hd
  have n := F.len _ _ _ _ q
  rw [both.length] at n
  have kin := e0.mod.kin.keeps fun b o e => (e0.bs b o e).1
  exact F.run A outer s H ⟨us, []⟩ (us ++ ds) (vs ++ dvs) Q E room e0 (hb s us kin n) both q
theorem FnGk.raw0 (F : FnGk P w K mg base CX k f fd ps sp) (hb : Binds K fd ps []) : FnG P w K mg base CX k f sp := by
  have h := F.raw hb (dvs := []) .nil
  exact h.imp fun vs H Q E q => by rw [List.append_nil]; exact q
/-- the rule for a def, where no guard stands -/
theorem fn_ofG {qual name : Str} {params : Arguments} {body : List Stmt} {scope : Scope} {dV kV doc pm cdv ct oc : Value} {an od : Option Addr} {sl : Array (Option Value)} {N : List Str}
    (look : K.lookup f = some ⟨oc, od, .func (PySem.W.fnOf name qual params body scope dV kV doc pm an cdv ct), sl⟩) (code : PySem.W.codeIn K cdv qual = true) (S : FnScope N ps scope) (len : ∀ vs H Q E, sp vs H Q E → vs.length = ps.length)
    (go : ∀ (A : Around) (outer : List Env) (s : Shared) (H : Hp) (vs : List V) (Q : VK) (E : XK), RoomG k (A.deeper (envOfC qual scope s.heap.objs.size f cdv)) → sp vs H Q E →
      ∃ t, PSs (cxOf CX P w K mg base N qual scope f cdv A outer s H E) body t ∧ t ⟨fun _ H' => Q .non H', Q, fun _ _ => False, fun _ _ => False⟩ (L2.start N vs) H) :
    FnGk P w K mg base CX (k + 1) f (PySem.W.fnOf name qual params body scope dV kV doc pm an cdv ct) ps sp := by
  constructor
  case len => exact len
  case run =>
    intro A outer s H as us vs Q E room e0 bind r q
    have n := len _ _ _ _ q
    have old : ∀ b o, base.get? b = some o → s.heap.get? b = some o := fun b o e => (e0.bs b o e).1
    have kin : K.In s.heap := e0.mod.kin.keeps old
    have lim : s.heap.NoLimit := e0.mod.nolimit.keeps old
    have kinds : ∀ y ∈ ps.zip us, scope.names.lookup y.1 = some .local ∨ (scope.names.lookup y.1 = some .cell ∧ ((cellsFrom (s.heap.objs.size + 1) scope.names []).lookup y.1).isSome = true) := by
      rintro ⟨y, v⟩ hy
      exact (S.par y (List.of_mem_zip hy).1).imp id fun z => ⟨z, PySem.W.cellsFrom_some _ _ _ (.inl z)⟩
    refine codeAny_call_function room.r.depth (kin _ _ look) rfl S.co S.gen rfl (PySem.W.codeRec_of kin code) (bind _ _ _ _ (wpAny_newFunctionEnv_cells S.kind kinds fun env he s1 x => ?_))
    subst he
    refine ⟨lim.keeps x.toInCall.keep, codeAny_func ?_⟩; obtain ⟨t, ht, hq⟩ := go A outer s H vs Q E (room.deeper _) q
    have I := inv_start (CX := CX) (E := E) S room.r.hd e0 n r x
    refine wpAny_mono (ht.run [] s1 (L2.start N vs) H _ I hq) ?_ fun _ _ z => z
    intro fl s' hs
    match fl, hs with
    | .ret u, ⟨v, σ', H', J, rv, z⟩ => exact ⟨v, H', J.os, J.bare, J.base, J.hok, rv, z⟩
    | .next, ⟨σ', H', J, z⟩ => exact ⟨V.non, H', J.os, J.bare, J.base, J.hok, rfl, z⟩
    | .brk, ⟨_, _, _, z⟩ => exact z.elim
    | .cont, ⟨_, _, _, z⟩ => exact z.elim
theorem okG {x qual : Str} {st : Stmt} {N : List Str} (F : Fun K x qual st f fd) (S : FnScope N ps (defScope st)) (len : ∀ vs H Q E, sp vs H Q E → vs.length = ps.length)
    (go : ∀ (cdv : Value) (A : Around) (outer : List Env) (s : Shared) (H : Hp) (vs : List V) (Q : VK) (E : XK), RoomG k (A.deeper (envOfC qual (defScope st) s.heap.objs.size f cdv)) → sp vs H Q E →
      ∃ t, PSs (cxOf (L2.CX P w) P w K mg base N qual (defScope st) f cdv A outer s H E) (defBody st) t ∧ t ⟨fun _ H' => Q .non H', Q, fun _ _ => False, fun _ _ => False⟩ (L2.start N vs) H) : FnGk P w K mg base (L2.CX P w) (k + 1) f fd ps sp := by
  obtain ⟨oc, od, kV, doc, pm, an, cdv, ct, osl, rfl, lk, hcd⟩ := F.ex; exact fn_ofG lk hcd S len (go cdv)
theorem okGD {x qual : Str} {params : Arguments} {body : List Stmt} {scope : Scope} {dvs : List V} {kws : List (Str × V)} {N : List Str} (F : FunD K x qual params body scope dvs kws f fd) (S : FnScope N ps scope) (len : ∀ vs H Q E, sp vs H Q E → vs.length = ps.length)
    (go : ∀ (cdv : Value) (A : Around) (outer : List Env) (s : Shared) (H : Hp) (vs : List V) (Q : VK) (E : XK), RoomG k (A.deeper (envOfC qual scope s.heap.objs.size f cdv)) → sp vs H Q E →
      ∃ t, PSs (cxOf (L2.CX P w) P w K mg base N qual scope f cdv A outer s H E) body t ∧ t ⟨fun _ H' => Q .non H', Q, fun _ _ => False, fun _ _ => False⟩ (L2.start N vs) H) : FnGk P w K mg base (L2.CX P w) (k + 1) f fd ps sp := by
  obtain ⟨oc, od, dV, kV, doc, pm, an, cdv, ct, osl, rfl, lk, hcd, _, _⟩ := F.ex; exact fn_ofG lk hcd S len (go cdv)
end
end Q
end

section
set_option Elab.async false
set_option linter.all false
set_option maxRecDepth 100000
set_option maxHeartbeats 3900000
/-! W1: what the program's values are, without the heap; a state of them; what an expression and a statement do to it. -/
namespace Q
open PySem L2

inductive D where
  | non | bl (b : Bool) | int (i : Int) | str (x : Str) | rat (q : Rat)
  | tup (l : List D) | lst (l : List D) | box | scr (l : List Int) | own (a : Addr) (l : List D)
  | ty (n : String) | cls (a : Addr) | dct (ks : List Key) (ds : List D)
  | err (a p : Addr) (f : Str) (d : D)
  | exc (C : Addr) | exf (C : Addr) (f : Str) (d : D) | obj (C : Addr) (ns : List Str) (ds : List D)
  | lsa (a : Addr) (bs : List Addr) (l : List D)

/-- at a: an exception of the class at C, not raised (none: without a dict of its own) -/
def excAt (H : Hp) (a C : Addr) : Prop := H a = some (ExO (.ref C) a) ∨ ∃ dx fs, H a = some (exo a C (some dx)) ∧ H dx = some (exd dx fs)
theorem excAt.mono {H H' : Hp} {a C : Addr} (e : Same H H') (h : excAt H a C) : excAt H' a C := h.imp (fun h => e _ _ h) fun ⟨dx, fs, h1, h2⟩ => ⟨dx, fs, e _ _ h1, e _ _ h2⟩
/-- what does not change through a proof: the written part, the classes -/
structure Tab where
  K : PySem.W.Frag
  C : Addr
abbrev Fs := List (Str × V)
def ratF (q : Rat) : Fs := [("_top", .int q.num), ("_bottom", .int (q.den : Int))]

mutual
def rep (T : Tab) (H : Hp) : D → V → Prop
  | .non, v => v = .non
  | .bl b, v => v = .bl b
  | .int i, v => v = .int i
  | .str x, v => v = .str x
  | .rat q, v => ∃ a dx, v = .ref a ∧ H a = some (.ins T.C dx (ratF q))
  | .tup l, v => ∃ a vs, v = .ref a ∧ H a = some (.tup vs) ∧ reps T H l vs
  | .lst l, v => ∃ a vs, v = .ref a ∧ H a = some (.lst vs) ∧ reps T H l vs
  | .box, v => False
  | .scr l, v => ∃ a, v = .ref a ∧ SqL T.K H a (l.map V.int)
  | .own _ _, _ => False
  | .ty n, v => v = .ty n
  | .cls a, v => v = .ref a
  | .dct ks ds, v => ∃ a kvs, v = .ref a ∧ H a = some (.dK kvs) ∧ kvs.map (·.1) = ks ∧ reps T H ds (kvs.map (·.2))
  | .err a p f d, v => v = .ref a ∧ ∃ w, H p = some (.xd [(f, w)]) ∧ rep T H d w
  | .exc C, v => ∃ a, v = .ref a ∧ H a = some (ExO (.ref C) a)
  | .exf C f d, v => ∃ a dx w, v = .ref a ∧ H a = some (exo a C (some dx)) ∧ H dx = some (exd dx [(f, w)]) ∧ rep T H d w
  | .obj C ns ds, v => ∃ a dx vs, v = .ref a ∧ H a = some (.ins C dx (ns.zip vs)) ∧ ns.length = ds.length ∧ reps T H ds vs
  | .lsa a bs l, v => v = .ref a ∧ H a = some (.lst (bs.map V.ref)) ∧ (a :: bs).Nodup ∧ reps T H l (bs.map V.ref)
def reps (T : Tab) (H : Hp) : List D → List V → Prop
  | [], vs => vs = []
  | d :: l, vs => ∃ v r, vs = v :: r ∧ rep T H d v ∧ reps T H l r
end
theorem seqS {K : PySem.W.Frag} {H H' : Hp} {a : Addr} {xs : List V} (e : Same H H') (h : SqL K H a xs) : SqL K H' a xs := e.seq h
theorem same_t {K : PySem.W.Frag} {H H' : Hp} {a : Addr} {xs : List V} (e : Same H H') (h : SqT K H a xs) : SqT K H' a xs := by
  rcases h with (h | ⟨w, h⟩) | h
  · exact .inl (.inl (e _ _ h))
  · exact .inl (.inr ⟨w, e _ _ h⟩)
  · exact .inr h
mutual
theorem rep.mono {T : Tab} {H H' : Hp} (e : Same H H') : ∀ {d : D} {v : V}, rep T H d v → rep T H' d v
  | .non, _, h => h
  | .bl _, _, h => h
  | .int _, _, h => h
  | .str _, _, h => h
  | .rat q, _, ⟨a, dx, h, k⟩ => ⟨a, dx, h, e _ _ k⟩
  | .tup l, _, ⟨a, vs, h, k, r⟩ => ⟨a, vs, h, e _ _ k, reps.mono e r⟩
  | .lst l, _, ⟨a, vs, h, k, r⟩ => ⟨a, vs, h, e _ _ k, reps.mono e r⟩
  | .box, _, h => h
  | .scr l, _, ⟨a, h, k⟩ => ⟨a, h, e.seq k⟩
  | .own _ _, _, h => h
  | .ty _, _, h => h
  | .cls _, _, h => h
  | .dct ks ds, _, ⟨a, kvs, h, k, l, r⟩ => ⟨a, kvs, h, e _ _ k, l, reps.mono e r⟩
  | .err a p f d, _, ⟨h, w, k, r⟩ => ⟨h, w, e _ _ k, rep.mono e r⟩
  | .exc C, _, ⟨a, h, k⟩ => ⟨a, h, e _ _ k⟩
  | .exf C f d, _, ⟨a, dx, w, h, k, l, r⟩ => ⟨a, dx, w, h, e _ _ k, e _ _ l, rep.mono e r⟩
  | .obj C ns ds, _, ⟨a, dx, vs, h, k, l, r⟩ => ⟨a, dx, vs, h, e _ _ k, l, reps.mono e r⟩
  | .lsa a bs l, _, ⟨h, k, n, r⟩ => ⟨h, e _ _ k, n, reps.mono e r⟩
theorem reps.mono {T : Tab} {H H' : Hp} (e : Same H H') : ∀ {l : List D} {vs : List V}, reps T H l vs → reps T H' l vs
  | [], _, h => h
  | d :: l, _, ⟨v, r, h, k, q⟩ => ⟨v, r, h, rep.mono e k, reps.mono e q⟩
end
theorem reps.len {T : Tab} {H : Hp} : ∀ {l : List D} {vs : List V}, reps T H l vs → vs.length = l.length
  | [], _, h => by
    have e : _ = [] := h
    subst e
    rfl
  | d :: l, _, ⟨v, r, h, k, q⟩ => by
    subst h
    simp [q.len]
theorem reps.get {T : Tab} {H : Hp} : ∀ {l : List D} {vs : List V} {i : Nat} {d : D}, reps T H l vs → l[i]? = some d → ∃ v, vs[i]? = some v ∧ rep T H d v
  | [], _, _, _, h, e => by simp at e
  | d :: l, _, 0, d', ⟨v, r, h, k, q⟩, e => by
    subst h
    simp at e
    subst e
    exact ⟨v, rfl, k⟩
  | d :: l, _, i + 1, d', ⟨v, r, h, k, q⟩, e => by
    subst h
    simp at e
    obtain ⟨w, h1, h2⟩ := q.get e
    exact ⟨w, by simpa using h1, h2⟩
theorem reps.append {T : Tab} {H : Hp} : ∀ {l : List D} {vs : List V} {m : List D} {ws : List V}, reps T H l vs → reps T H m ws → reps T H (l ++ m) (vs ++ ws)
  | [], _, _, _, h, k => by
    have e : _ = [] := h
    subst e
    exact k
  | d :: l, _, _, _, ⟨v, r, h, k, q⟩, k' => by
    subst h
    exact ⟨v, _, rfl, k, q.append k'⟩
theorem reps.one {T : Tab} {H : Hp} {d : D} {v : V} (h : rep T H d v) : reps T H [d] [v] := ⟨v, [], rfl, h, rfl⟩
theorem reps.set {T : Tab} {H : Hp} : ∀ {l : List D} {vs : List V} {d : D} {v : V} (i : Nat), reps T H l vs → rep T H d v → reps T H (l.set i d) (vs.set i v)
  | [], _, _, _, _, h, _ => by
    have e : _ = [] := h
    subst e
    simp [reps]
  | d :: l, _, d', v', 0, ⟨v, r, h, k, q⟩, k' => by
    subst h
    exact ⟨v', r, rfl, k', q⟩
  | d :: l, _, d', v', i + 1, ⟨v, r, h, k, q⟩, k' => by
    subst h
    exact ⟨v, r.set i v', rfl, k, q.set i k'⟩

/-! ### what is hidden: boxes (which others change), own lists (which the body changes) -/
abbrev Bm := Addr → Option (Option HO)
def vis (B : Bm) (H : Hp) : Hp := fun a => match B a with | none => H a | some _ => none
def BoxO (c : Nat) (o : HO) : Prop := ∃ x y z : Int, o = .lst [.int x, .int y, .int z] ∧ 0 ≤ x ∧ 0 ≤ y ∧ y ≤ c ∧ 0 ≤ z ∧ z ≤ 2 ^ 40
theorem BoxO.mono {c c' : Nat} {o : HO} (h : BoxO c o) (e : c ≤ c') : BoxO c' o := by
  obtain ⟨x, y, z, h, h1, h2, h3, h4, h5⟩ := h
  exact ⟨x, y, z, h, h1, h2, by omega, h4, h5⟩
structure okW (B : Bm) (c : Nat) (H : Hp) : Prop where
  box : ∀ a, B a = some none → ∃ o, H a = some o ∧ BoxO c o
  fix : ∀ a o, B a = some (some o) → H a = some o
theorem okW.mono {B : Bm} {c c' : Nat} {H : Hp} (h : okW B c H) (e : c ≤ c') : okW B c' H := ⟨fun a b => let ⟨o, k, l⟩ := h.box a b; ⟨o, k, l.mono e⟩, h.fix⟩
theorem okW.fresh {B : Bm} {c : Nat} {H : Hp} (h : okW B c H) {p : Addr} (e : H p = none) : B p = none := by
  cases q : B p with
  | none => rfl
  | some x =>
    cases x with
    | none =>
      obtain ⟨o, k, _⟩ := h.box p q
      rw [e] at k
      cases k
    | some o =>
      have k := h.fix p o q
      rw [e] at k
      cases k
theorem vis_some {B : Bm} {H : Hp} {a : Addr} {o : HO} (h : vis B H a = some o) : H a = some o := by
  unfold vis at h
  cases q : B a with
  | none => rw [q] at h; exact h
  | some x => rw [q] at h; cases h
theorem vis_free {B : Bm} {H : Hp} {a : Addr} (h : H a = none) : vis B H a = none := by
  unfold vis
  cases q : B a with
  | none => exact h
  | some x => rfl
theorem vis_of {B : Bm} {H : Hp} {a : Addr} {o : HO} (h : H a = some o) (b : B a = none) : vis B H a = some o := by
  unfold vis
  rw [b]
  exact h
theorem vis_same {B : Bm} {H : Hp} : Same (vis B H) H := fun _ _ h => vis_some h
theorem vis_upd {B : Bm} {H : Hp} {p : Addr} {o : HO} (b : B p = none) : vis B (upd H p o) = upd (vis B H) p o := by
  funext a
  unfold vis upd
  by_cases e : a = p
  · subst e
    rw [b]
    simp
  · rw [if_neg e, if_neg e]
theorem same_new {H : Hp} {p : Addr} {o : HO} (h : H p = none) : Same H (upd H p o) := fun b x e => by
  rw [upd_ne (ne_of_none e h)]
  exact e
theorem Same.vis_ {B : Bm} {H H' : Hp} (e : Same H H') : Same (vis B H) (vis B H') := fun a o h => by
  unfold vis at h ⊢
  cases q : B a with
  | none => rw [q] at h; exact e _ _ h
  | some x => rw [q] at h; cases h
theorem okW.same {B : Bm} {c : Nat} {H H' : Hp} (h : okW B c H) (e : Same H H') : okW B c H' := ⟨fun a b => let ⟨o, k, l⟩ := h.box a b; ⟨o, e _ _ k, l⟩, fun a o b => e _ _ (h.fix a o b)⟩

/-! ### slots -/
def slotOk (T : Tab) (B : Bm) (G : Hp) : D → V → Prop
  | .own a l, v => v = .ref a ∧ ∃ vs, B a = some (some (.lst vs)) ∧ reps T G l vs
  | .box, v => ∃ a, v = .ref a ∧ B a = some none
  | d, v => rep T G d v
/-- a value of an expression: a datum, or a box -/
def val (T : Tab) (B : Bm) (G : Hp) : D → V → Prop
  | .box, v => ∃ a, v = .ref a ∧ B a = some none
  | d, v => rep T G d v
theorem val.of {T : Tab} {B : Bm} {G : Hp} {d : D} {v : V} (h : rep T G d v) : val T B G d v := by
  cases d <;> first | exact h | exact h.elim
theorem val.mono {T : Tab} {B : Bm} {G G' : Hp} {d : D} {v : V} (h : val T B G d v) (e : Same G G') : val T B G' d v := by
  cases d <;> first | exact h | exact rep.mono e h
theorem slot_of {T : Tab} {B : Bm} {G : Hp} {d : D} {v : V} (h : val T B G d v) : slotOk T B G d v := by
  cases d <;> first | exact h | exact h.elim
theorem slotOk.mono {T : Tab} {B : Bm} {G G' : Hp} {d : D} {v : V} (h : slotOk T B G d v) (e : Same G G') : slotOk T B G' d v := by
  cases d <;> first | exact h | exact rep.mono e h | (obtain ⟨h1, vs, h2, h3⟩ := h; exact ⟨h1, vs, h2, h3.mono e⟩)
def slots (T : Tab) (B : Bm) (G : Hp) : List (Option D) → St → Prop
  | [], σ => σ = []
  | none :: s, σ => ∃ x r, σ = x :: r ∧ slots T B G s r
  | some d :: s, σ => ∃ v r, σ = some v :: r ∧ slotOk T B G d v ∧ slots T B G s r
theorem slots.mono {T : Tab} {B : Bm} {G G' : Hp} (e : Same G G') : ∀ {s : List (Option D)} {σ : St}, slots T B G s σ → slots T B G' s σ
  | [], _, h => h
  | none :: s, _, ⟨x, r, h, k⟩ => ⟨x, r, h, k.mono e⟩
  | some d :: s, _, ⟨v, r, h, k, q⟩ => ⟨v, r, h, k.mono e, q.mono e⟩
theorem slots.get {T : Tab} {B : Bm} {G : Hp} : ∀ {s : List (Option D)} {σ : St} {i : Nat} {d : D}, slots T B G s σ → s[i]? = some (some d) → ∃ v, σ[i]? = some (some v) ∧ slotOk T B G d v
  | [], _, _, _, _, e => by simp at e
  | none :: s, _, 0, _, _, e => by simp at e
  | none :: s, _, i + 1, _, ⟨x, r, h, k⟩, e => by
    subst h
    obtain ⟨v, h1, h2⟩ := k.get (i := i) (by simpa using e)
    exact ⟨v, by simpa using h1, h2⟩
  | some d :: s, _, 0, _, ⟨v, r, h, k, q⟩, e => by
    subst h
    simp at e
    subst e
    exact ⟨v, rfl, k⟩
  | some d :: s, _, i + 1, _, ⟨v, r, h, k, q⟩, e => by
    subst h
    obtain ⟨v, h1, h2⟩ := q.get (i := i) (by simpa using e)
    exact ⟨v, by simpa using h1, h2⟩
theorem slots.set {T : Tab} {B : Bm} {G : Hp} {d : D} {v : V} (hv : slotOk T B G d v) : ∀ {s : List (Option D)} {σ : St} (i : Nat), slots T B G s σ → slots T B G (s.set i (some d)) (σ.set i (some v))
  | [], _, i, h => by
    have e : _ = [] := h
    subst e
    simp [slots]
  | none :: s, _, 0, ⟨x, r, h, k⟩ => by
    subst h
    exact ⟨v, r, rfl, hv, k⟩
  | none :: s, _, i + 1, ⟨x, r, h, k⟩ => by
    subst h
    exact ⟨x, r.set i (some v), rfl, k.set hv i⟩
  | some d' :: s, _, 0, ⟨x, r, h, k, q⟩ => by
    subst h
    exact ⟨v, r, rfl, hv, q⟩
  | some d' :: s, _, i + 1, ⟨x, r, h, k, q⟩ => by
    subst h
    exact ⟨x, r.set i (some v), rfl, k, q.set hv i⟩
theorem slots.unset {T : Tab} {B : Bm} {G : Hp} : ∀ {s : List (Option D)} {σ : St} (i : Nat), slots T B G s σ → slots T B G (s.set i none) (σ.set i none)
  | [], _, i, h => by
    have e : _ = [] := h
    subst e
    simp [slots]
  | none :: s, _, 0, ⟨x, r, h, k⟩ => by
    subst h
    exact ⟨none, r, rfl, k⟩
  | none :: s, _, i + 1, ⟨x, r, h, k⟩ => by
    subst h
    exact ⟨x, r.set i none, rfl, k.unset i⟩
  | some d' :: s, _, 0, ⟨x, r, h, k, q⟩ => by
    subst h
    exact ⟨none, r, rfl, q⟩
  | some d' :: s, _, i + 1, ⟨x, r, h, k, q⟩ => by
    subst h
    exact ⟨x, r.set i none, rfl, k, q.unset i⟩
theorem slots.len {T : Tab} {B : Bm} {G : Hp} : ∀ {s : List (Option D)} {σ : St}, slots T B G s σ → σ.length = s.length
  | [], _, h => by
    have e : _ = [] := h
    subst e
    rfl
  | none :: s, _, ⟨x, r, h, k⟩ => by
    subst h
    simp [k.len]
  | some d :: s, _, ⟨v, r, h, k, q⟩ => by
    subst h
    simp [q.len]
/-- forget slots -/
inductive Less : List (Option D) → List (Option D) → Prop
  | nil : Less [] []
  | keep {x s t} : Less s t → Less (x :: s) (x :: t)
  | drop {x s t} : Less s t → Less (none :: s) (x :: t)
theorem Less.refl : ∀ {s : List (Option D)}, Less s s
  | [] => .nil
  | _ :: _ => .keep Less.refl
theorem slots.less {T : Tab} {B : Bm} {G : Hp} : ∀ {s t : List (Option D)} {σ : St}, Less s t → slots T B G t σ → slots T B G s σ
  | _, _, _, .nil, h => h
  | _, _, _, .keep (x := none) l, ⟨x, r, h, k⟩ => ⟨x, r, h, k.less l⟩
  | _, _, _, .keep (x := some d) l, ⟨v, r, h, k, q⟩ => ⟨v, r, h, k, q.less l⟩
  | _, _, _, .drop (x := none) l, ⟨x, r, h, k⟩ => ⟨x, r, h, k.less l⟩
  | _, _, _, .drop (x := some d) l, ⟨v, r, h, k, q⟩ => ⟨_, r, h, q.less l⟩
end Q
end

section
set_option Elab.async false
set_option linter.all false
set_option maxRecDepth 100000
set_option maxHeartbeats 3900000
namespace Q
open PySem L2

/-- an exception: its class, its field -/
abbrev Er := Addr × Option (Str × D)
structure Rho where
  B : Bm
  s : List (Option D)
  c : Nat
abbrev Rho.wc (ρ : Rho) (c : Nat) : Rho := ⟨ρ.B, ρ.s, c⟩
abbrev Rho.set (ρ : Rho) (i : Nat) (d : D) : Rho := ⟨ρ.B, ρ.s.set i (some d), ρ.c⟩
abbrev Rho.unset (ρ : Rho) (i : Nat) : Rho := ⟨ρ.B, ρ.s.set i none, ρ.c⟩
structure Zt where
  X : Cx
  T : Tab
  B0 : Bm
  H0 : Hp
  g : List (D × V)
  R : Er → Rho → Prop
  rt : D → Nat → Prop
def erRel (T : Tab) (G : Hp) (e : Er) (cls : Value) (dx : Option Addr) : Prop :=
  cls = .ref e.1 ∧ match e.2 with
    | none => dx = none
    | some (f, d) => ∃ p v, dx = some p ∧ G p = some (.xd [(f, v)]) ∧ rep T G d v

structure SR (Z : Zt) (ρ : Rho) (σ : St) (H : Hp) : Prop where
  ok : okW ρ.B ρ.c H
  le : ∀ a, Z.B0 a ≠ none → ρ.B a = Z.B0 a
  ex : Same (vis Z.B0 Z.H0) (vis ρ.B H)
  sl : slots Z.T ρ.B (vis ρ.B H) ρ.s σ
  gh : ∀ p ∈ Z.g, rep Z.T (vis ρ.B H) p.1 p.2
def Zt.W (Z : Zt) : WX := fun cls dx σ H => ∃ ρ e, SR Z ρ σ H ∧ erRel Z.T (vis ρ.B H) e cls dx ∧ Z.R e ρ
structure Zok (Z : Zt) : Prop where
  tk : Takes Z.X Z.W
  po : PassesOwn (model Z.X.prog Z.X.w) Z.X.A Z.X.env Z.X.xe
  K : Z.X.K = Z.T.K
  nd : Z.X.N.Nodup

variable {Z : Zt} {ρ : Rho} {σ : St} {H H' : Hp}
/-- more objects -/
theorem SR.grow {H' : Hp} {c' : Nat} (S : SR Z ρ σ H) (e : Same H H') (h : ρ.c ≤ c') : SR Z (ρ.wc c') σ H' :=
  ⟨(S.ok.same e).mono h, S.le, fun a o q => Same.vis_ e _ _ (S.ex a o q), S.sl.mono (Same.vis_ e), fun p hp => (S.gh p hp).mono (Same.vis_ e)⟩
theorem SR.same (S : SR Z ρ σ H) (e : Same H H') : SR Z ρ σ H' := S.grow e (Nat.le_refl _)
/-- behind a call, which may have changed boxes -/
theorem SR.call {H' : Hp} {c' : Nat} (S : SR Z ρ σ H) (ok : okW ρ.B c' H') (e : Same (vis ρ.B H) (vis ρ.B H')) : SR Z (ρ.wc c') σ H' :=
  ⟨ok, S.le, fun a o q => e _ _ (S.ex a o q), S.sl.mono e, fun p hp => (S.gh p hp).mono e⟩
theorem SR.set (S : SR Z ρ σ H) (i : Nat) {d : D} {v : V} (h : slotOk Z.T ρ.B (vis ρ.B H) d v) : SR Z (ρ.set i d) (σ.set i (some v)) H :=
  ⟨S.ok, S.le, S.ex, S.sl.set h i, S.gh⟩
theorem SR.unset (S : SR Z ρ σ H) (i : Nat) : SR Z (ρ.unset i) (σ.set i none) H := ⟨S.ok, S.le, S.ex, S.sl.unset i, S.gh⟩
theorem SR.less {s : List (Option D)} (S : SR Z ρ σ H) (l : Less s ρ.s) : SR Z ⟨ρ.B, s, ρ.c⟩ σ H := ⟨S.ok, S.le, S.ex, S.sl.less l, S.gh⟩

/-! ### expressions -/
def tAny (X : Cx) (e : Expr) : TE := fun σ H Q => ∃ t : TE, PE X e t ∧ t σ H Q
theorem pe_any {X : Cx} {e : Expr} : PE X e (tAny X e) := ⟨fun pins s σ H Q I h => let ⟨t, p, q⟩ := h; p.run pins s σ H Q I q⟩
theorem pe_imp {X : Cx} {e : Expr} {t t' : TE} (p : PE X e t) (h : ∀ σ H Q, t' σ H Q → t σ H Q) : PE X e t' := ⟨fun pins s σ H Q I q => p.run pins s σ H Q I (h σ H Q q)⟩
def ttAny (X : Cx) (e : Expr) : TT := fun σ H Q => ∃ t : TT, PT X e t ∧ t σ H Q
theorem pt_any {X : Cx} {e : Expr} : PT X e (ttAny X e) := ⟨fun pins s σ H Q I h => let ⟨t, p, q⟩ := h; p.run pins s σ H Q I q⟩
theorem pt_imp {X : Cx} {e : Expr} {t t' : TT} (p : PT X e t) (h : ∀ σ H Q, t' σ H Q → t σ H Q) : PT X e t' := ⟨fun pins s σ H Q I q => p.run pins s σ H Q I (h σ H Q q)⟩

def Post (Z : Zt) (ρ : Rho) (σ : St) (H : Hp) (P : D → Nat → Prop) (Q : VK) : Prop :=
  ∀ v H' d c', SR Z (ρ.wc c') σ H' → Same (vis ρ.B H) (vis ρ.B H') → val Z.T ρ.B (vis ρ.B H') d v → P d c' → Q v H'
def Zt.tE (Z : Zt) (ρ : Rho) (P : D → Nat → Prop) : TE := fun σ H Q => SR Z ρ σ H ∧ Post Z ρ σ H P Q
/-- e evaluates to what P says -/
def EV (Z : Zt) (ρ : Rho) (e : Expr) (P : D → Nat → Prop) : Prop := PE Z.X e (Z.tE ρ P)
def PostT (Z : Zt) (ρ : Rho) (σ : St) (H : Hp) (P : Bool → Nat → Prop) (Q : Bool → Hp → Prop) : Prop :=
  ∀ b H' c', SR Z (ρ.wc c') σ H' → Same (vis ρ.B H) (vis ρ.B H') → P b c' → Q b H'
def Zt.tT (Z : Zt) (ρ : Rho) (P : Bool → Nat → Prop) : TT := fun σ H Q => SR Z ρ σ H ∧ PostT Z ρ σ H P Q
def ET (Z : Zt) (ρ : Rho) (e : Expr) (P : Bool → Nat → Prop) : Prop := PT Z.X e (Z.tT ρ P)
def PostA (Z : Zt) (ρ : Rho) (σ : St) (H : Hp) (P : List D → Nat → Prop) (Q : List V → Hp → Prop) : Prop :=
  ∀ vs H' ds c', SR Z (ρ.wc c') σ H' → Same (vis ρ.B H) (vis ρ.B H') → Paired (val Z.T ρ.B (vis ρ.B H')) ds vs → P ds c' → Q vs H'
def Zt.tA (Z : Zt) (ρ : Rho) (P : List D → Nat → Prop) : TA := fun σ H Q => SR Z ρ σ H ∧ PostA Z ρ σ H P Q
def EA (Z : Zt) (ρ : Rho) (es : List Expr) (P : List D → Nat → Prop) : Prop := PA Z.X es (Z.tA ρ P)

variable {P P' : D → Nat → Prop} {e a b : Expr} {pos : Pos}
theorem EV.mono (h : EV Z ρ e P) (k : ∀ d c, P d c → P' d c) : EV Z ρ e P' := pe_imp h fun σ H Q q => ⟨q.1, fun v H' d c' S s r p => q.2 v H' d c' S s r (k d c' p)⟩
theorem ET.mono {P P' : Bool → Nat → Prop} (h : ET Z ρ e P) (k : ∀ d c, P d c → P' d c) : ET Z ρ e P' := pt_imp h fun σ H Q q => ⟨q.1, fun b H' c' S s p => q.2 b H' c' S s (k b c' p)⟩
theorem Post.here {v : V} {d : D} {Q : VK} (p : Post Z ρ σ H P Q) (S : SR Z ρ σ H) (h : P d ρ.c) (r : val Z.T ρ.B (vis ρ.B H) d v) : Q v H := p v H d ρ.c S (fun _ _ q => q) r h
theorem ev_of {t : TE} (p : PE Z.X e t) (h : ∀ σ H Q, SR Z ρ σ H → Post Z ρ σ H P Q → t σ H Q) : EV Z ρ e P := pe_imp p fun σ H Q q => h σ H Q q.1 q.2
theorem et_of {t : TT} {P : Bool → Nat → Prop} (p : PT Z.X e t) (h : ∀ σ H Q, SR Z ρ σ H → PostT Z ρ σ H P Q → t σ H Q) : ET Z ρ e P := pt_imp p fun σ H Q q => h σ H Q q.1 q.2
theorem ev_any {Q : VK} (h : EV Z ρ e P) (S : SR Z ρ σ H) (k : Post Z ρ σ H P Q) : tAny Z.X e σ H Q := ⟨_, h, S, k⟩
theorem et_any {P : Bool → Nat → Prop} {Q : Bool → Hp → Prop} (h : ET Z ρ e P) (S : SR Z ρ σ H) (k : PostT Z ρ σ H P Q) : ttAny Z.X e σ H Q := ⟨_, h, S, k⟩

def isOwn : D → Bool
  | .own _ _ => true
  | _ => false
theorem val_slot {T : Tab} {B : Bm} {G : Hp} {d : D} {v : V} (h : slotOk T B G d v) (n : isOwn d = false) : val T B G d v := by
  cases d <;> first | exact h | cases n
theorem ev_var (i : Nat) {x : Str} {d : D} (hs : ρ.s[i]? = some (some d)) (h : P d ρ.c) (n : isOwn d = false := by rfl) (hN : Z.X.N[i]? = some x := by rfl)
    (hv : Vis Z.X.env.scope x := by first | exact Or.inl rfl | exact Or.inr (Or.inl rfl) | exact Or.inr (Or.inr rfl)) (hd : (x == ("__debug__" : Str)) = false := by decide)
    (hcd : (x == ("__classdict__" : Str)) = false := by decide) : EV Z ρ (.Name x pos) P := by
  refine ev_of (pe_var hN hv hd hcd) fun σ H Q S k => ?_
  obtain ⟨v, h1, h2⟩ := S.sl.get hs
  exact ⟨v, h1, k.here S h (val_slot h2 n)⟩
theorem ev_int {i j} (h : P (.int i) ρ.c) : EV Z ρ (.Constant (.int i) j pos) P := ev_of pe_int fun _ _ _ S k => k.here S h rfl
theorem ev_bl {i j} (h : P (.bl i) ρ.c) : EV Z ρ (.Constant (.bool i) j pos) P := ev_of pe_bl fun _ _ _ S k => k.here S h rfl
theorem ev_non {j} (h : P .non ρ.c) : EV Z ρ (.Constant .none j pos) P := ev_of pe_non fun _ _ _ S k => k.here S h rfl
theorem ev_str {i j} (h : P (.str i) ρ.c) : EV Z ρ (.Constant (.str i) j pos) P := ev_of pe_str fun _ _ _ S k => k.here S h rfl

/-- two operands, a rule over values -/
theorem two {r : R2} {t : TE} (p : PE Z.X e t)
    (ht : ∀ σ H Q, (tAny Z.X a σ H fun x H1 => tAny Z.X b σ H1 fun y H2 => r x y H2 Q) → t σ H Q)
    (h : EV Z ρ a fun d1 c1 => EV Z (ρ.wc c1) b fun d2 c2 => ∀ σ H v1 v2 (Q : VK), SR Z (ρ.wc c2) σ H → val Z.T ρ.B (vis ρ.B H) d1 v1 → val Z.T ρ.B (vis ρ.B H) d2 v2 → Post Z (ρ.wc c2) σ H P Q → r v1 v2 H Q) :
    EV Z ρ e P := ev_of p fun σ H Q S k => ht σ H Q (ev_any h S fun v1 H1 d1 c1 S1 e1 r1 h2 => by
      refine ev_any h2 S1 fun v2 H2 d2 c2 S2 e2 r2 h3 => ?_
      exact h3 σ H2 v1 v2 Q S2 (r1.mono e2) r2 fun v H' d c' S' e' r' p => k v H' d c' S' (fun _ _ q => e' _ _ (e2 _ _ (e1 _ _ q))) r' p)
theorem ev_two {op : Operator} {r : R2} (ho : OpR Z.X (binaryOp op) r)
    (h : EV Z ρ a fun d1 c1 => EV Z (ρ.wc c1) b fun d2 c2 => ∀ σ H v1 v2 (Q : VK), SR Z (ρ.wc c2) σ H → val Z.T ρ.B (vis ρ.B H) d1 v1 → val Z.T ρ.B (vis ρ.B H) d2 v2 → Post Z (ρ.wc c2) σ H P Q → r v1 v2 H Q) :
    EV Z ρ (.BinOp a op b pos) P := two (r := r) (pe_op ho pe_any pe_any) (fun σ H Q q => q) h
theorem ev_cmp2 {op : CmpOp} {r : R2} (ho : OpR Z.X (compareOp op) r) (hm : behindInMarks op b = false)
    (h : EV Z ρ a fun d1 c1 => EV Z (ρ.wc c1) b fun d2 c2 => ∀ σ H v1 v2 (Q : VK), SR Z (ρ.wc c2) σ H → val Z.T ρ.B (vis ρ.B H) d1 v1 → val Z.T ρ.B (vis ρ.B H) d2 v2 → Post Z (ρ.wc c2) σ H P Q → r v1 v2 H Q) :
    EV Z ρ (.Compare a [op] [b] pos) P := two (r := r) (pe_cmpR ho pe_any pe_any hm) (fun σ H Q q => q) h

/-- two ints -/
def i2 (f : Int → Int → (D → Nat → Prop) → Nat → Prop) : D → D → (D → Nat → Prop) → Nat → Prop
  | .int i, .int j, P, c => f i j P c
  | _, _, _, _ => False
theorem i2_elim {f : Int → Int → (D → Nat → Prop) → Nat → Prop} {d1 d2 : D} {c : Nat} (h : i2 f d1 d2 P c) : ∃ i j, d1 = .int i ∧ d2 = .int j ∧ f i j P c := by
  cases d1 <;> first | exact h.elim | skip
  cases d2 <;> first | exact h.elim | exact ⟨_, _, rfl, rfl, h⟩
theorem ev_opI {op : Operator} {C : Int → Int → Prop} {g : Int → Int → Int} (ho : OpR Z.X (binaryOp op) (rI C fun i j => .int (g i j)))
    (h : EV Z ρ a fun d1 c1 => EV Z (ρ.wc c1) b fun d2 c2 => i2 (fun i j P c => C i j ∧ P (.int (g i j)) c) d1 d2 P c2) : EV Z ρ (.BinOp a op b pos) P :=
  ev_two ho (h.mono fun d1 c1 h2 => h2.mono fun d2 c2 h3 σ H v1 v2 Q S r1 r2 k => by
    obtain ⟨i, j, rfl, rfl, hc, hp⟩ := i2_elim h3
    exact ⟨i, j, r1, r2, hc, k.here S hp rfl⟩)
theorem ev_opI0 {op : Operator} {g : Int → Int → Int} (ho : OpR Z.X (binaryOp op) (rI0 fun i j => .int (g i j)))
    (h : EV Z ρ a fun d1 c1 => EV Z (ρ.wc c1) b fun d2 c2 => i2 (fun i j P c => P (.int (g i j)) c) d1 d2 P c2) : EV Z ρ (.BinOp a op b pos) P :=
  ev_two ho (h.mono fun d1 c1 h2 => h2.mono fun d2 c2 h3 σ H v1 v2 Q S r1 r2 k => by
    obtain ⟨i, j, rfl, rfl, hp⟩ := i2_elim h3
    exact ⟨i, j, r1, r2, k.here S hp rfl⟩)
theorem ev_add (h : EV Z ρ a fun d1 c1 => EV Z (ρ.wc c1) b fun d2 c2 => i2 (fun i j P c => P (.int (i + j)) c) d1 d2 P c2) : EV Z ρ (.BinOp a .Add b pos) P := ev_opI0 op_add h
theorem ev_sub (h : EV Z ρ a fun d1 c1 => EV Z (ρ.wc c1) b fun d2 c2 => i2 (fun i j P c => P (.int (i - j)) c) d1 d2 P c2) : EV Z ρ (.BinOp a .Sub b pos) P := ev_opI0 op_sub h
theorem ev_mul (h : EV Z ρ a fun d1 c1 => EV Z (ρ.wc c1) b fun d2 c2 => i2 (fun i j P c => CMulW i j ∧ P (.int (i * j)) c) d1 d2 P c2) : EV Z ρ (.BinOp a .Mult b pos) P := ev_opI op_mulW h
theorem ev_mod (h : EV Z ρ a fun d1 c1 => EV Z (ρ.wc c1) b fun d2 c2 => i2 (fun i j P c => 0 < j ∧ P (.int (i % j)) c) d1 d2 P c2) : EV Z ρ (.BinOp a .Mod b pos) P := ev_opI op_mod h
theorem ev_fdiv (h : EV Z ρ a fun d1 c1 => EV Z (ρ.wc c1) b fun d2 c2 => i2 (fun i j P c => CDivW i j ∧ P (.int (i / j)) c) d1 d2 P c2) : EV Z ρ (.BinOp a .FloorDiv b pos) P := ev_opI op_fdivW h
/-- comparisons of ints -/
theorem ev_cmpI {op : CmpOp} {p : Int → Int → Bool} (ho : OpR Z.X (compareOp op) (rI0 fun i j => .bl (p i j))) (hm : behindInMarks op b = false)
    (h : EV Z ρ a fun d1 c1 => EV Z (ρ.wc c1) b fun d2 c2 => i2 (fun i j P c => P (.bl (p i j)) c) d1 d2 P c2) : EV Z ρ (.Compare a [op] [b] pos) P :=
  ev_cmp2 ho hm (h.mono fun d1 c1 h2 => h2.mono fun d2 c2 h3 σ H v1 v2 Q S r1 r2 k => by
    obtain ⟨i, j, rfl, rfl, hp⟩ := i2_elim h3
    exact ⟨i, j, r1, r2, k.here S hp rfl⟩)
theorem ev_lt (h : EV Z ρ a fun d1 c1 => EV Z (ρ.wc c1) b fun d2 c2 => i2 (fun i j P c => P (.bl (decide (i < j))) c) d1 d2 P c2) : EV Z ρ (.Compare a [.Lt] [b] pos) P := ev_cmpI op_lt (nomark _) h
theorem ev_le (h : EV Z ρ a fun d1 c1 => EV Z (ρ.wc c1) b fun d2 c2 => i2 (fun i j P c => P (.bl (decide (i ≤ j))) c) d1 d2 P c2) : EV Z ρ (.Compare a [.LtE] [b] pos) P := ev_cmpI op_le (nomark _) h
theorem ev_gt (h : EV Z ρ a fun d1 c1 => EV Z (ρ.wc c1) b fun d2 c2 => i2 (fun i j P c => P (.bl (decide (j < i))) c) d1 d2 P c2) : EV Z ρ (.Compare a [.Gt] [b] pos) P := ev_cmpI op_gt (nomark _) h
theorem ev_ge (h : EV Z ρ a fun d1 c1 => EV Z (ρ.wc c1) b fun d2 c2 => i2 (fun i j P c => P (.bl (decide (j ≤ i))) c) d1 d2 P c2) : EV Z ρ (.Compare a [.GtE] [b] pos) P := ev_cmpI op_ge (nomark _) h
/-- == of ints, bools, texts, None -/
def eqD : D → D → Option Bool
  | .int i, .int j => some (decide (i = j))
  | .bl i, .bl j => some (decide (i = j))
  | .str i, .str j => some (decide (i = j))
  | _, _ => none
theorem eqD_ok {d1 d2 : D} {k : Bool} {T : Tab} {B : Bm} {G : Hp} {v1 v2 : V} (h : eqD d1 d2 = some k) (r1 : val T B G d1 v1) (r2 : val T B G d2 v2) : scal v1 v2 = true ∧ decide (v1 = v2) = k := by
  cases d1 <;> cases d2 <;> first | (cases h; done) | skip
  all_goals
    have e1 : v1 = _ := r1
    have e2 : v2 = _ := r2
    subst e1
    subst e2
    have e := Option.some.inj h
    subst e
    refine ⟨rfl, ?_⟩
    congr 1
    simp
theorem ev_eq (h : EV Z ρ a fun d1 c1 => EV Z (ρ.wc c1) b fun d2 c2 => ∃ k, eqD d1 d2 = some k ∧ P (.bl k) c2) : EV Z ρ (.Compare a [.Eq] [b] pos) P :=
  ev_cmp2 op_eq (nomark _) (h.mono fun d1 c1 h2 => h2.mono fun d2 c2 ⟨k, hk, hp⟩ σ H v1 v2 Q S r1 r2 q => by
    obtain ⟨e1, e2⟩ := eqD_ok hk r1 r2
    refine ⟨e1, ?_⟩
    rw [e2]
    exact q.here S hp rfl)
theorem ev_ne (h : EV Z ρ a fun d1 c1 => EV Z (ρ.wc c1) b fun d2 c2 => ∃ k, eqD d1 d2 = some k ∧ P (.bl (!k)) c2) : EV Z ρ (.Compare a [.NotEq] [b] pos) P :=
  ev_cmp2 op_ne (nomark _) (h.mono fun d1 c1 h2 => h2.mono fun d2 c2 ⟨k, hk, hp⟩ σ H v1 v2 Q S r1 r2 q => by
    obtain ⟨e1, e2⟩ := eqD_ok hk r1 r2
    refine ⟨e1, ?_⟩
    rw [e2]
    exact q.here S hp rfl)
/-- one operand -/
theorem ev_one {t : TE} {r : V → Hp → VK → Prop} (p : PE Z.X e t) (ht : ∀ σ H Q, (tAny Z.X a σ H fun x H1 => r x H1 Q) → t σ H Q)
    (h : EV Z ρ a fun d1 c1 => ∀ σ H v1 (Q : VK), SR Z (ρ.wc c1) σ H → val Z.T ρ.B (vis ρ.B H) d1 v1 → Post Z (ρ.wc c1) σ H P Q → r v1 H Q) : EV Z ρ e P :=
  ev_of p fun σ H Q S k => ht σ H Q (ev_any h S fun v1 H1 d1 c1 S1 e1 r1 h2 => h2 σ H1 v1 Q S1 r1 fun v H' d c' S' e' r' p => k v H' d c' S' (fun _ _ q => e' _ _ (e1 _ _ q)) r' p)
def i1 (f : Int → (D → Nat → Prop) → Nat → Prop) : D → (D → Nat → Prop) → Nat → Prop
  | .int i, P, c => f i P c
  | _, _, _ => False
theorem i1_elim {f : Int → (D → Nat → Prop) → Nat → Prop} {d1 : D} {c : Nat} (h : i1 f d1 P c) : ∃ i, d1 = .int i ∧ f i P c := by
  cases d1 <;> first | exact h.elim | exact ⟨_, rfl, h⟩
theorem ev_neg (h : EV Z ρ a (i1 (fun i P c => P (.int (-i)) c) · P ·)) : EV Z ρ (.UnaryOp .USub a pos) P :=
  ev_one (r := rU fun i => .int (-i)) (pe_un un_neg pe_any) (fun _ _ _ q => q) (h.mono fun d c h σ H v Q S r k => by
    obtain ⟨i, rfl, hp⟩ := i1_elim h
    exact ⟨i, r, k.here S hp rfl⟩)
/-! ### tests -/
theorem et_val {P : Bool → Nat → Prop} (h : EV Z ρ e fun d c => ∃ k, d = .bl k ∧ P k c) (he : ∀ whole, isTrue e Z.X.env whole = (do let v ← whole; standAt e.pos; holding [v] (truthy v)) := by intro _; rfl) :
    ET Z ρ e P := et_of (pt_val pe_any he) fun σ H Q S k => ev_any h S fun v H1 d c S1 e1 r ⟨b, hb, hp⟩ => by
      subst hb
      exact ⟨b, r, k b H1 c S1 e1 hp⟩
theorem et_cmp2 {op : CmpOp} {r : R2} {P : Bool → Nat → Prop} (ho : OpR Z.X (compareOp op) r) (hm : behindInMarks op b = false)
    (h : EV Z ρ a fun d1 c1 => EV Z (ρ.wc c1) b fun d2 c2 => ∀ σ H v1 v2 (Q : VK), SR Z (ρ.wc c2) σ H → val Z.T ρ.B (vis ρ.B H) d1 v1 → val Z.T ρ.B (vis ρ.B H) d2 v2 → Post Z (ρ.wc c2) σ H (fun d c => ∃ k, d = .bl k ∧ P k c) Q → r v1 v2 H Q) :
    ET Z ρ (.Compare a [op] [b] pos) P := et_of (pt_cmpR ho pe_any pe_any hm) fun σ H Q S k => ev_any h S fun v1 H1 d1 c1 S1 e1 r1 h2 => ev_any h2 S1 fun v2 H2 d2 c2 S2 e2 r2 h3 =>
      h3 σ H2 v1 v2 _ S2 (r1.mono e2) r2 fun v H' d c' S' e' r' ⟨b, hb, hp⟩ => by
        subst hb
        exact ⟨b, r', k b H' c' S' (fun _ _ q => e' _ _ (e2 _ _ (e1 _ _ q))) hp⟩
theorem et_cmpI {op : CmpOp} {p : Int → Int → Bool} {P : Bool → Nat → Prop} (ho : OpR Z.X (compareOp op) (rI0 fun i j => .bl (p i j))) (hm : behindInMarks op b = false)
    (h : EV Z ρ a fun d1 c1 => EV Z (ρ.wc c1) b fun d2 c2 => i2 (fun i j P' c => P (p i j) c) d1 d2 (fun _ _ => True) c2) : ET Z ρ (.Compare a [op] [b] pos) P :=
  et_cmp2 ho hm (h.mono fun d1 c1 h2 => h2.mono fun d2 c2 h3 σ H v1 v2 Q S r1 r2 k => by
    obtain ⟨i, j, rfl, rfl, hp⟩ := i2_elim h3
    exact ⟨i, j, r1, r2, k.here (d := .bl (p i j)) S ⟨_, rfl, hp⟩ rfl⟩)
section
variable {P : Bool → Nat → Prop}
theorem et_lt (h : EV Z ρ a fun d1 c1 => EV Z (ρ.wc c1) b fun d2 c2 => i2 (fun i j _ c => P (decide (i < j)) c) d1 d2 (fun _ _ => True) c2) : ET Z ρ (.Compare a [.Lt] [b] pos) P := et_cmpI op_lt (nomark _) h
theorem et_le (h : EV Z ρ a fun d1 c1 => EV Z (ρ.wc c1) b fun d2 c2 => i2 (fun i j _ c => P (decide (i ≤ j)) c) d1 d2 (fun _ _ => True) c2) : ET Z ρ (.Compare a [.LtE] [b] pos) P := et_cmpI op_le (nomark _) h
theorem et_gt (h : EV Z ρ a fun d1 c1 => EV Z (ρ.wc c1) b fun d2 c2 => i2 (fun i j _ c => P (decide (j < i)) c) d1 d2 (fun _ _ => True) c2) : ET Z ρ (.Compare a [.Gt] [b] pos) P := et_cmpI op_gt (nomark _) h
theorem et_ge (h : EV Z ρ a fun d1 c1 => EV Z (ρ.wc c1) b fun d2 c2 => i2 (fun i j _ c => P (decide (j ≤ i)) c) d1 d2 (fun _ _ => True) c2) : ET Z ρ (.Compare a [.GtE] [b] pos) P := et_cmpI op_ge (nomark _) h
theorem et_eq (h : EV Z ρ a fun d1 c1 => EV Z (ρ.wc c1) b fun d2 c2 => ∃ k, eqD d1 d2 = some k ∧ P k c2) : ET Z ρ (.Compare a [.Eq] [b] pos) P :=
  et_cmp2 op_eq (nomark _) (h.mono fun d1 c1 h2 => h2.mono fun d2 c2 ⟨k, hk, hp⟩ σ H v1 v2 Q S r1 r2 q => by
    obtain ⟨e1, e2⟩ := eqD_ok hk r1 r2
    refine ⟨e1, ?_⟩
    rw [e2]
    exact q.here (d := .bl k) S ⟨_, rfl, hp⟩ rfl)
theorem et_ne (h : EV Z ρ a fun d1 c1 => EV Z (ρ.wc c1) b fun d2 c2 => ∃ k, eqD d1 d2 = some k ∧ P (!k) c2) : ET Z ρ (.Compare a [.NotEq] [b] pos) P :=
  et_cmp2 op_ne (nomark _) (h.mono fun d1 c1 h2 => h2.mono fun d2 c2 ⟨k, hk, hp⟩ σ H v1 v2 Q S r1 r2 q => by
    obtain ⟨e1, e2⟩ := eqD_ok hk r1 r2
    refine ⟨e1, ?_⟩
    rw [e2]
    exact q.here (d := .bl (!k)) S ⟨_, rfl, hp⟩ rfl)
theorem et_not (h : ET Z ρ a fun k c => P (!k) c) : ET Z ρ (.UnaryOp .Not a pos) P := et_of (pt_not pt_any) fun σ H Q S k => et_any h S fun b H1 c S1 e1 hp => k (!b) H1 c S1 e1 hp
def isNone : D → Option Bool
  | .non => some true
  | .box => none
  | .own _ _ => none
  | _ => some false
theorem isNone_ok {d : D} {k : Bool} {T : Tab} {B : Bm} {G : Hp} {v : V} (hk : isNone d = some k) (r : val T B G d v) : decide (v = .non) = k := by
  cases d <;> first | (cases hk; done) | skip
  all_goals
    have e := Option.some.inj hk
    subst e
    first | (have r' : v = _ := r; subst r'; rfl) | (obtain ⟨a, _, h, _⟩ := r; subst h; rfl)  | (obtain ⟨a, h, _⟩ := r; subst h; rfl) | (obtain ⟨h, _⟩ := r; subst h; rfl) | (obtain ⟨a, dx, vs, h, _⟩ := r; subst h; rfl)
theorem et_isN {j pos'} (h : EV Z ρ a fun d c => ∃ k, isNone d = some k ∧ P k c) : ET Z ρ (.Compare a [.Is] [.Constant .none j pos'] pos) P :=
  et_of (pt_cmp (pc_isN pe_any) rfl) fun σ H Q S q => ev_any h S fun v H1 d c S1 e1 r ⟨k, hk, hp⟩ => by
    refine ⟨decide (v = .non), rfl, ?_⟩
    rw [isNone_ok hk r]
    exact q k H1 c S1 e1 hp
theorem et_notN {j pos'} (h : EV Z ρ a fun d c => ∃ k, isNone d = some k ∧ P (!k) c) : ET Z ρ (.Compare a [.IsNot] [.Constant .none j pos'] pos) P :=
  et_of (pt_cmp (pc_notN pe_any) rfl) fun σ H Q S q => ev_any h S fun v H1 d c S1 e1 r ⟨k, hk, hp⟩ => by
    refine ⟨!decide (v = .non), rfl, ?_⟩
    rw [isNone_ok hk r]
    exact q (!k) H1 c S1 e1 hp
def EW (Z : Zt) (ρ : Rho) (e : Expr) (P : Bool → Nat → Prop) : Prop := PW Z.X e (Z.tT ρ P)
theorem pw_imp {X : Cx} {e : Expr} {t t' : TT} (p : PW X e t) (h : ∀ σ H Q, t' σ H Q → t σ H Q) : PW X e t' := ⟨fun w pins s σ H Q I q => p.run w pins s σ H Q I (h σ H Q q)⟩
def twAny (X : Cx) (e : Expr) : TT := fun σ H Q => ∃ t : TT, PW X e t ∧ t σ H Q
theorem pw_any {X : Cx} {e : Expr} : PW X e (twAny X e) := ⟨fun w pins s σ H Q I h => let ⟨t, p, q⟩ := h; p.run w pins s σ H Q I q⟩
theorem et_bool (h : EW Z ρ e P) : ET Z ρ e P := PW.pt h
theorem ew_and1 (h : ET Z ρ a P) : EW Z ρ (.BoolOp .And [a] pos) P := pw_and1 h
theorem ew_or1 (h : ET Z ρ a P) : EW Z ρ (.BoolOp .Or [a] pos) P := pw_or1 h
theorem ew_and {rest : List Expr} (h : ET Z ρ a fun k c => (k = true → EW Z (ρ.wc c) (.BoolOp .And (b :: rest) pos) P) ∧ (k = false → P false c)) : EW Z ρ (.BoolOp .And (a :: b :: rest) pos) P :=
  pw_imp (pw_and pt_any pw_any) fun σ H Q q => et_any h q.1 fun k H1 c S1 e1 hp => by
    cases k with
    | true => exact ⟨_, hp.1 rfl, S1, fun b H' c' S' e' p => q.2 b H' c' S' (fun _ _ z => e' _ _ (e1 _ _ z)) p⟩
    | false => exact q.2 false H1 c S1 e1 (hp.2 rfl)
theorem ew_or {rest : List Expr} (h : ET Z ρ a fun k c => (k = false → EW Z (ρ.wc c) (.BoolOp .Or (b :: rest) pos) P) ∧ (k = true → P true c)) : EW Z ρ (.BoolOp .Or (a :: b :: rest) pos) P :=
  pw_imp (pw_or pt_any pw_any) fun σ H Q q => et_any h q.1 fun k H1 c S1 e1 hp => by
    cases k with
    | false => exact ⟨_, hp.1 rfl, S1, fun b H' c' S' e' p => q.2 b H' c' S' (fun _ _ z => e' _ _ (e1 _ _ z)) p⟩
    | true => exact q.2 true H1 c S1 e1 (hp.2 rfl)
end
/-- as values -/
theorem ev_bone {op} (h : EV Z ρ a P) : EV Z ρ (.BoolOp op [a] pos) P := pe_one h
theorem ev_and {rest : List Expr} (h : EV Z ρ a fun d c => ∃ k, d = .bl k ∧ (k = true → EV Z (ρ.wc c) (.BoolOp .And (b :: rest) pos) P) ∧ (k = false → P (.bl false) c)) : EV Z ρ (.BoolOp .And (a :: b :: rest) pos) P :=
  ev_of (pe_and pe_any pe_any) fun σ H Q S q => ev_any h S fun v H1 d c S1 e1 r ⟨k, hk, h1, h2⟩ => by
    subst hk
    refine ⟨k, r, ?_⟩
    cases k with
    | true => exact ev_any (h1 rfl) S1 fun v H' d c' S' e' r' p => q v H' d c' S' (fun _ _ z => e' _ _ (e1 _ _ z)) r' p
    | false => exact q (.bl false) H1 (.bl false) c S1 e1 rfl (h2 rfl)
theorem ev_or {rest : List Expr} (h : EV Z ρ a fun d c => ∃ k, d = .bl k ∧ (k = false → EV Z (ρ.wc c) (.BoolOp .Or (b :: rest) pos) P) ∧ (k = true → P (.bl true) c)) : EV Z ρ (.BoolOp .Or (a :: b :: rest) pos) P :=
  ev_of (pe_or pe_any pe_any) fun σ H Q S q => ev_any h S fun v H1 d c S1 e1 r ⟨k, hk, h1, h2⟩ => by
    subst hk
    refine ⟨k, r, ?_⟩
    cases k with
    | false => exact ev_any (h1 rfl) S1 fun v H' d c' S' e' r' p => q v H' d c' S' (fun _ _ z => e' _ _ (e1 _ _ z)) r' p
    | true => exact q (.bl true) H1 (.bl true) c S1 e1 rfl (h2 rfl)
theorem ev_not (h : EV Z ρ a fun d c => ∃ k, d = .bl k ∧ P (.bl (!k)) c) : EV Z ρ (.UnaryOp .Not a pos) P :=
  ev_of (pe_not pe_any) fun σ H Q S q => ev_any h S fun v H1 d c S1 e1 r ⟨k, hk, h1⟩ => by
    subst hk
    exact ⟨k, r, q (.bl (!k)) H1 (.bl (!k)) c S1 e1 rfl h1⟩
theorem ev_if {t : Expr} (h : ET Z ρ t fun k c => (k = true → EV Z (ρ.wc c) a P) ∧ (k = false → EV Z (ρ.wc c) b P)) : EV Z ρ (.IfExp t a b pos) P :=
  ev_of (pe_ifExp pt_any pe_any pe_any) fun σ H Q S q => et_any h S fun k H1 c S1 e1 ⟨h1, h2⟩ => by
    cases k with
    | true => exact ev_any (h1 rfl) S1 fun v H' d c' S' e' r' p => q v H' d c' S' (fun _ _ z => e' _ _ (e1 _ _ z)) r' p
    | false => exact ev_any (h2 rfl) S1 fun v H' d c' S' e' r' p => q v H' d c' S' (fun _ _ z => e' _ _ (e1 _ _ z)) r' p
theorem ev_isN' {j pos'} (h : EV Z ρ a fun d c => ∃ k, isNone d = some k ∧ P (.bl k) c) : EV Z ρ (.Compare a [.Is] [.Constant .none j pos'] pos) P :=
  ev_one (r := fun x H1 Q => Q (.bl (decide (x = .non))) H1) (pe_cmp (pc_isN pe_any) rfl) (fun _ _ _ q => q) (h.mono fun d c ⟨k, hk, hp⟩ σ H v Q S r q => by
    show Q (.bl (decide (v = .non))) H
    rw [isNone_ok hk r]
    exact q.here S hp rfl)
/-! ### arguments, tuples, lists -/
def taAny (X : Cx) (es : List Expr) : TA := fun σ H Q => ∃ t : TA, PA X es t ∧ t σ H Q
theorem pa_any {X : Cx} {es : List Expr} : PA X es (taAny X es) := ⟨fun pos pins s σ H Q I h => let ⟨t, p, q⟩ := h; p.run pos pins s σ H Q I q⟩
theorem pa_imp {X : Cx} {es : List Expr} {t t' : TA} (p : PA X es t) (h : ∀ σ H Q, t' σ H Q → t σ H Q) : PA X es t' := ⟨fun pos pins s σ H Q I q => p.run pos pins s σ H Q I (h σ H Q q)⟩
theorem ea_nil {P : List D → Nat → Prop} (h : P [] ρ.c) : EA Z ρ [] P := pa_imp pa_nil fun σ H Q q => q.2 [] H [] ρ.c q.1 (fun _ _ z => z) .nil h
theorem pr_mono {T : Tab} {B : Bm} {G G' : Hp} (e : Same G G') : ∀ {ds : List D} {vs : List V}, Paired (val T B G) ds vs → Paired (val T B G') ds vs
  | _, _, .nil => .nil
  | _, _, .cons r t => .cons (r.mono e) (pr_mono e t)
theorem ea_cons {es : List Expr} {P : List D → Nat → Prop} (h : EV Z ρ e fun d c => EA Z (ρ.wc c) es fun ds c' => P (d :: ds) c') (hs : starEach (e :: es) Z.X.env = (false, eval e Z.X.env) :: starEach es Z.X.env := by rfl) : EA Z ρ (e :: es) P :=
  pa_imp (pa_cons pe_any pa_any hs) fun σ H Q q => ev_any h q.1 fun v H1 d c S1 e1 r h2 => ⟨_, h2, S1, fun vs H' ds c' S' e' r' p => q.2 (v :: vs) H' (d :: ds) c' S' (fun _ _ z => e' _ _ (e1 _ _ z)) (.cons (r.mono e') r') p⟩
theorem ea_any {es : List Expr} {P : List D → Nat → Prop} {Q : List V → Hp → Prop} (h : EA Z ρ es P) (S : SR Z ρ σ H) (k : PostA Z ρ σ H P Q) : taAny Z.X es σ H Q := ⟨_, h, S, k⟩
theorem EA.mono {es : List Expr} {P P' : List D → Nat → Prop} (h : EA Z ρ es P) (k : ∀ d c, P d c → P' d c) : EA Z ρ es P' := pa_imp h fun σ H Q q => ⟨q.1, fun v H' d c' S s r p => q.2 v H' d c' S s r (k d c' p)⟩
/-- data that may stand in a list, a tuple: no box, no own list -/
def plain : D → Bool
  | .box => false
  | .own _ _ => false
  | _ => true
theorem val_rep {T : Tab} {B : Bm} {G : Hp} {d : D} {v : V} (h : val T B G d v) (n : plain d = true) : rep T G d v := by
  cases d <;> first | exact h | cases n
theorem reps_of {T : Tab} {B : Bm} {G : Hp} : ∀ {ds : List D} {vs : List V}, Paired (val T B G) ds vs → ds.all plain = true → reps T G ds vs
  | _, _, .nil, _ => rfl
  | d :: ds, _, .cons r t, n => by
    rw [List.all_cons, Bool.and_eq_true] at n
    exact ⟨_, _, rfl, val_rep r n.1, reps_of t n.2⟩
theorem pr_len {T : Tab} {B : Bm} {G : Hp} : ∀ {ds : List D} {vs : List V}, Paired (val T B G) ds vs → vs.length = ds.length
  | _, _, .nil => rfl
  | _, _, .cons r t => by simp [pr_len t]
/-- a new object that is told -/
theorem new_obj {P : D → Nat → Prop} {Q : VK} {o : HO} {d : D} {p : Addr} (S : SR Z ρ σ H) (k : Post Z ρ σ H P Q) (hp : H p = none) (r : rep Z.T (vis ρ.B (upd H p o)) d (.ref p)) (h : P d ρ.c) : Q (.ref p) (upd H p o) :=
  k (.ref p) (upd H p o) d ρ.c (S.same (same_new hp)) (Same.vis_ (same_new hp)) (val.of r) h
theorem sizeS {n : Nat} (h : n ≤ 100000) : n ≤ sizeLine := Nat.le_trans h (by decide)
theorem new_at {o : HO} {p : Addr} (S : SR Z ρ σ H) (hp : H p = none) : vis ρ.B (upd H p o) p = some o := by
  rw [vis_upd (S.ok.fresh hp)]
  exact upd_same
theorem ev_tup {es : List Expr} {x1} (h : EA Z ρ es fun ds c => ds.all plain = true ∧ ds.length ≤ 100000 ∧ P (.tup ds) c) : EV Z ρ (.Tuple es x1 pos) P :=
  ev_of (pe_tup pa_any) fun σ H Q S k => ea_any h S fun vs H1 ds c S1 e1 r ⟨h1, h2, h3⟩ => ⟨sizeS (by rw [pr_len r]; exact h2), fun p hp => by
    refine new_obj (P := P) S1 (fun v H' d c' S' e' => k v H' d c' S' (fun _ _ z => e' _ _ (e1 _ _ z))) hp ?_ h3
    exact ⟨p, vs, rfl, new_at S1 hp, (reps_of r h1).mono (Same.vis_ (same_new hp))⟩⟩
theorem ev_lst {es : List Expr} (h : EA Z ρ es fun ds c => ds.all plain = true ∧ ds.length ≤ 100000 ∧ P (.lst ds) c) : EV Z ρ (.List es pos) P :=
  ev_of (pe_lst pa_any) fun σ H Q S k => ea_any h S fun vs H1 ds c S1 e1 r ⟨h1, h2, h3⟩ => ⟨sizeS (by rw [pr_len r]; exact h2), fun p hp => by
    refine new_obj (P := P) S1 (fun v H' d c' S' e' => k v H' d c' S' (fun _ _ z => e' _ _ (e1 _ _ z))) hp ?_ h3
    exact ⟨p, vs, rfl, new_at S1 hp, (reps_of r h1).mono (Same.vis_ (same_new hp))⟩⟩
end Q
end

section
set_option Elab.async false
set_option linter.all false
set_option maxRecDepth 100000
set_option maxHeartbeats 3900000
namespace Q
open PySem L2

/-- what a def does to data: arguments, count, the end, the raising end -/
abbrev Fw := List D → Nat → (D → Nat → Prop) → (Er → Nat → Prop) → Prop
def SpW (T : Tab) (F : Fw) : Sp := fun vs H Q E => ∃ (B : Bm) (c : Nat) (ds : List D) (P : D → Nat → Prop) (R : Er → Nat → Prop), okW B c H ∧ Paired (val T B (vis B H)) ds vs ∧ F ds c P R ∧
  (∀ v H' d c', okW B c' H' → Same (vis B H) (vis B H') → val T B (vis B H') d v → P d c' → Q v H') ∧
  (∀ e cls dx H' c', okW B c' H' → Same (vis B H) (vis B H') → erRel T (vis B H') e cls dx → R e c' → E cls dx H')
/-- the def at f does F -/
def Does (Z : Zt) (k : Nat) (f : Addr) (F : Fw) : Prop := FnG Z.X.prog Z.X.w Z.X.K Z.X.mg Z.X.base (L2.CX Z.X.prog Z.X.w) k f (SpW Z.T F)
variable {Z : Zt} {ρ : Rho} {σ : St} {H H' : Hp} {P : D → Nat → Prop} {e a b : Expr} {pos p apos : Pos} {k : Nat} {f : Addr} {F : Fw} {x m : Str} {es : List Expr}

/-- a def runs; what it raises is wished for at the slots σ -/
theorem runS {X : Cx} {pins : List (Addr × Obj)} {s : Shared} {sp : Sp} {W : WX} {Q : VK} {us : List Value} {vs : List V} (G : FnG X.prog X.w X.K X.mg X.base (L2.CX X.prog X.w) k f sp) (hr : RoomG k X.A) (tk : Takes X W)
    (I : Inv X pins σ H s) (r : Vals vs us) (h : sp vs H Q (fun c d H' => W c d σ H')) : wpAny (model X.prog X.w) X.A (call (.ref f) us) (EP X pins σ Q) X.xe s := by
  have g := G X.A X.stack s H us vs Q _ hr I.env0 r h
  refine wpAny_call (codeAny_mono g ?_)
  intro r s' hq
  match r, hq with
  | .error er, hq => exact tk er s' (XE.of_call I (fun _ _ _ z => z) hq)
  | .ok (.ret u), hq => exact I.after hq
/-- the promise at a state -/
theorem sp_at {vs : List V} {ds : List D} {Q : VK} (S : SR Z ρ σ H) (r : Paired (val Z.T ρ.B (vis ρ.B H)) ds vs) (h : F ds ρ.c P (fun er c' => Z.R er (ρ.wc c'))) (k : Post Z ρ σ H P Q) :
    SpW Z.T F vs H Q (fun c d H' => Z.W c d σ H') :=
  ⟨ρ.B, ρ.c, ds, P, _, S.ok, r, h, fun v H' d c' ok s r' p => k v H' d c' (S.call ok s) s r' p, fun er cls dx H' c' ok s r' p => ⟨ρ.wc c', er, S.call ok s, r', p⟩⟩
theorem Post.from {Q : VK} {c : Nat} (k : Post Z ρ σ H P Q) (e1 : Same (vis ρ.B H) (vis ρ.B H')) : Post Z (ρ.wc c) σ H' P Q := fun v H2 d c' S' e' r' p => k v H2 d c' S' (fun _ _ z => e' _ _ (e1 _ _ z)) r' p

def tCallW (X : Cx) (f : Addr) (es : List Expr) (sp : Sp) (W : WX) : TE := fun σ H Q => taAny X es σ H fun vs H1 => sp vs H1 Q (fun c d H' => W c d σ H')
theorem pe_callW {X : Cx} {sp : Sp} {W : WX} (G : FnG X.prog X.w X.K X.mg X.base (L2.CX X.prog X.w) k f sp) (hr : RoomG k X.A) (tk : Takes X W) (hg : Gl X x) (hm : X.mg x = some (.ref f)) (hk : PySem.W.keepIn X.K (.ref f) = true)
    (hdb : (x == ("__debug__" : Str)) = false := by decide)
    (he : starEach (e :: es) X.env = (false, eval e X.env) :: starEach es X.env := by rfl)
    (hpl : (backTo pos (starEach es X.env)).any (·.1) = false := by rfl) :
    PE X (.Call (.Name x p) (e :: es) [] pos) (tCallW X f (e :: es) sp W) := ⟨fun pins s σ H Q I h => by
  obtain ⟨t, ha, h⟩ := h
  have g := ha.run pos pins s σ H _ I h
  exact wpAny_Call_Name_kw (ld_glob I hg hm (PySem.W.callWith_K (h₀ := X.base) I.ok.mod.kin hk (thn g fun us s1 ⟨vs, H1, I1, r, q⟩ => ⟨I1.kIn, runS G hr tk I1 r q⟩) he hpl) hdb)⟩
theorem ev_call (ok : Zok Z) (G : Does Z k f F) (hr : RoomG k Z.X.A) (hg : Gl Z.X x) (hm : Z.X.mg x = some (.ref f)) (hk : PySem.W.keepIn Z.X.K (.ref f) = true)
    (h : EA Z ρ (e :: es) fun ds c => F ds c P (fun er c' => Z.R er (ρ.wc c')))
    (hdb : (x == ("__debug__" : Str)) = false := by decide)
    (he : starEach (e :: es) Z.X.env = (false, eval e Z.X.env) :: starEach es Z.X.env := by rfl) (hpl : (backTo pos (starEach es Z.X.env)).any (·.1) = false := by rfl) :
    EV Z ρ (.Call (.Name x p) (e :: es) [] pos) P :=
  ev_of (pe_callW G hr ok.tk hg hm hk hdb he hpl) fun σ H Q S k => ea_any h S fun vs H1 ds c S1 e1 r h1 => sp_at (ρ := ρ.wc c) S1 r h1 (k.from e1)
def tCallW0 (f : Addr) (sp : Sp) (W : WX) : TE := fun σ H Q => sp [] H Q (fun c d H' => W c d σ H')
theorem pe_callW0 {X : Cx} {sp : Sp} {W : WX} (G : FnG X.prog X.w X.K X.mg X.base (L2.CX X.prog X.w) k f sp) (hr : RoomG k X.A) (tk : Takes X W) (hg : Gl X x) (hm : X.mg x = some (.ref f)) (hk : PySem.W.keepIn X.K (.ref f) = true)
    (hdb : (x == ("__debug__" : Str)) = false := by decide) : PE X (.Call (.Name x p) [] [] pos) (tCallW0 f sp W) := ⟨fun pins s σ H Q I h => by
  exact wpAny_Call_Name_kw (ld_glob I hg hm (PySem.W.callWith_K0 I.kIn hk (runS (us := []) G hr tk I .nil h)) hdb)⟩
theorem ev_call0 (ok : Zok Z) (G : Does Z k f F) (hr : RoomG k Z.X.A) (hg : Gl Z.X x) (hm : Z.X.mg x = some (.ref f)) (hk : PySem.W.keepIn Z.X.K (.ref f) = true)
    (h : F [] ρ.c P (fun er c' => Z.R er (ρ.wc c'))) (hdb : (x == ("__debug__" : Str)) = false := by decide) : EV Z ρ (.Call (.Name x p) [] [] pos) P :=
  ev_of (pe_callW0 G hr ok.tk hg hm hk hdb) fun σ H Q S k => sp_at (ρ := ρ) S .nil h k

/-! ### built-ins by name -/
theorem ev_blt {id : String} {r : List V → Hp → VK → Prop} (hc : CallR Z.X (.builtin id) r) (hg : Gl Z.X x) (hm : Z.X.mg x = none) (hv : bootBuiltins x = some (.builtin id))
    (h : EA Z ρ (e :: es) fun ds c => ∀ σ H vs (Q : VK), SR Z (ρ.wc c) σ H → Paired (val Z.T ρ.B (vis ρ.B H)) ds vs → Post Z (ρ.wc c) σ H P Q → r vs H Q) (hn : x ≠ "__name__" := by decide) (hdb : (x == ("__debug__" : Str)) = false := by decide)
    (he : starEach (e :: es) Z.X.env = (false, eval e Z.X.env) :: starEach es Z.X.env := by rfl) (hpl : (backTo pos (starEach es Z.X.env)).any (·.1) = false := by rfl) : EV Z ρ (.Call (.Name x p) (e :: es) [] pos) P :=
  ev_of (pe_callB hc hg hm hv pa_any hn hdb he hpl) fun σ H Q S k => ea_any h S fun vs H1 ds c S1 e1 r h1 => h1 σ H1 vs Q S1 r (k.from e1)
theorem ev_typ {id : String} {r : List V → Hp → VK → Prop} (hc : CallR Z.X (.type id) r) (hg : Gl Z.X x) (hm : Z.X.mg x = none) (hv : bootBuiltins x = some (.type id))
    (h : EA Z ρ (e :: es) fun ds c => ∀ σ H vs (Q : VK), SR Z (ρ.wc c) σ H → Paired (val Z.T ρ.B (vis ρ.B H)) ds vs → Post Z (ρ.wc c) σ H P Q → r vs H Q) (hn : x ≠ "__name__" := by decide) (hdb : (x == ("__debug__" : Str)) = false := by decide)
    (he : starEach (e :: es) Z.X.env = (false, eval e Z.X.env) :: starEach es Z.X.env := by rfl) (hpl : (backTo pos (starEach es Z.X.env)).any (·.1) = false := by rfl) : EV Z ρ (.Call (.Name x p) (e :: es) [] pos) P :=
  ev_of (pe_callTy hc hg hm hv pa_any hn hdb he hpl) fun σ H Q S k => ea_any h S fun vs H1 ds c S1 e1 r h1 => h1 σ H1 vs Q S1 r (k.from e1)
theorem pr1 {T : Tab} {B : Bm} {G : Hp} {d : D} {vs : List V} (h : Paired (val T B G) [d] vs) : ∃ v, vs = [v] ∧ val T B G d v := by
  cases h with
  | cons r t =>
    cases t
    exact ⟨_, rfl, r⟩
theorem pr2 {T : Tab} {B : Bm} {G : Hp} {d d' : D} {vs : List V} (h : Paired (val T B G) [d, d'] vs) : ∃ v v', vs = [v, v'] ∧ val T B G d v ∧ val T B G d' v' := by
  cases h with
  | cons r t =>
    obtain ⟨v', h, q⟩ := pr1 t
    subst h
    exact ⟨_, _, rfl, r, q⟩
/-- a built-in over ints -/
def l1 (g : Int → (D → Nat → Prop) → Nat → Prop) : List D → (D → Nat → Prop) → Nat → Prop
  | [.int i], P, c => g i P c
  | _, _, _ => False
def l2 (g : Int → Int → (D → Nat → Prop) → Nat → Prop) : List D → (D → Nat → Prop) → Nat → Prop
  | [.int i, .int j], P, c => g i j P c
  | _, _, _ => False
theorem l1_elim {g : Int → (D → Nat → Prop) → Nat → Prop} {ds : List D} {c : Nat} (h : l1 g ds P c) : ∃ i, ds = [.int i] ∧ g i P c := by
  unfold l1 at h
  split at h
  · exact ⟨_, rfl, h⟩
  · exact h.elim
theorem l2_elim {g : Int → Int → (D → Nat → Prop) → Nat → Prop} {ds : List D} {c : Nat} (h : l2 g ds P c) : ∃ i j, ds = [.int i, .int j] ∧ g i j P c := by
  unfold l2 at h
  split at h
  · exact ⟨_, _, rfl, h⟩
  · exact h.elim
theorem ev_abs (hg : Gl Z.X "abs") (hm : Z.X.mg "abs" = none) (h : EA Z ρ [a] fun ds c => l1 (fun i P c => P (.int (if i < 0 then -i else i)) c) ds P c) (he : starEach [a] Z.X.env = (false, eval a Z.X.env) :: starEach [] Z.X.env := by rfl) : EV Z ρ (.Call (.Name "abs" p) [a] [] pos) P :=
  ev_blt call_abs hg hm (by decide +kernel) (h.mono fun ds c h σ H vs Q S r k => by
    obtain ⟨i, rfl, hp⟩ := l1_elim h
    obtain ⟨v, rfl, hv⟩ := pr1 r
    cases hv
    exact ⟨i, rfl, k.here S hp rfl⟩) (he := he)
theorem ev_max (ok : Zok Z) (hg : Gl Z.X "max") (hm : Z.X.mg "max" = none) (h : EA Z ρ [a, b] fun ds c => l2 (fun i j P c => P (.int (if j > i then j else i)) c) ds P c) (he : starEach [a, b] Z.X.env = (false, eval a Z.X.env) :: starEach [b] Z.X.env := by rfl) (hpl : (backTo pos (starEach [b] Z.X.env)).any (·.1) = false := by rfl) (hc : Z.X.calm = true := by rfl) : EV Z ρ (.Call (.Name "max" p) [a, b] [] pos) P :=
  ev_blt (call_max2 hc) hg hm (by decide +kernel) (h.mono fun ds c h σ H vs Q S r k => by
    obtain ⟨i, j, rfl, hp⟩ := l2_elim h
    obtain ⟨v, v', rfl, hv, hv'⟩ := pr2 r
    cases hv
    cases hv'
    exact ⟨i, j, rfl, k.here S hp rfl⟩) (he := he) (hpl := hpl)
theorem ev_min (ok : Zok Z) (hg : Gl Z.X "min") (hm : Z.X.mg "min" = none) (h : EA Z ρ [a, b] fun ds c => l2 (fun i j P c => P (.int (if j < i then j else i)) c) ds P c) (he : starEach [a, b] Z.X.env = (false, eval a Z.X.env) :: starEach [b] Z.X.env := by rfl) (hpl : (backTo pos (starEach [b] Z.X.env)).any (·.1) = false := by rfl) (hc : Z.X.calm = true := by rfl) : EV Z ρ (.Call (.Name "min" p) [a, b] [] pos) P :=
  ev_blt (call_min2 hc) hg hm (by decide +kernel) (h.mono fun ds c h σ H vs Q S r k => by
    obtain ⟨i, j, rfl, hp⟩ := l2_elim h
    obtain ⟨v, v', rfl, hv, hv'⟩ := pr2 r
    cases hv
    cases hv'
    exact ⟨i, j, rfl, k.here S hp rfl⟩) (he := he) (hpl := hpl)
theorem ev_toInt (hg : Gl Z.X "int") (hm : Z.X.mg "int" = none) (h : EA Z ρ [a] fun ds c => l1 (fun i P c => P (.int i) c) ds P c) (he : starEach [a] Z.X.env = (false, eval a Z.X.env) :: starEach [] Z.X.env := by rfl) : EV Z ρ (.Call (.Name "int" p) [a] [] pos) P :=
  ev_typ call_int1 hg hm (by decide +kernel) (h.mono fun ds c h σ H vs Q S r k => by
    obtain ⟨i, rfl, hp⟩ := l1_elim h
    obtain ⟨v, rfl, hv⟩ := pr1 r
    cases hv
    exact .inl ⟨i, rfl, k.here S hp rfl⟩) (he := he)
/-- len -/
def lenD : D → Option Nat
  | .lst l => some l.length
  | .tup l => some l.length
  | .scr l => some l.length
  | _ => none
theorem seq_at {T : Tab} {G : Hp} {d : D} {v : V} {n : Nat} (h : lenD d = some n) (r : rep T G d v) : ∃ p ys, v = .ref p ∧ (SqL T.K G p ys ∨ SqT T.K G p ys) ∧ ys.length = n := by
  cases d <;> first | (cases h; done) | skip
  case tup l =>
    obtain ⟨q, vs, h1, h2, h3⟩ := r
    refine ⟨q, vs, h1, .inr (.inl (.inl h2)), ?_⟩
    rw [h3.len]
    exact Option.some.inj h
  case lst l =>
    obtain ⟨q, vs, h1, h2, h3⟩ := r
    refine ⟨q, vs, h1, .inl (.inl (.inl h2)), ?_⟩
    rw [h3.len]
    exact Option.some.inj h
  case scr l =>
    obtain ⟨q, h1, h2⟩ := r
    refine ⟨q, _, h1, .inl h2, ?_⟩
    rw [List.length_map]
    exact Option.some.inj h
theorem lenD_plain {d : D} {n : Nat} (h : lenD d = some n) : plain d = true := by
  cases d <;> first | rfl | cases h
theorem ev_len (hK : Z.X.K = Z.T.K) (hg : Gl Z.X "len") (hm : Z.X.mg "len" = none) (h : EA Z ρ [a] fun ds c => ∃ d n, ds = [d] ∧ lenD d = some n ∧ P (.int (n : Nat)) c) (he : starEach [a] Z.X.env = (false, eval a Z.X.env) :: starEach [] Z.X.env := by rfl) : EV Z ρ (.Call (.Name "len" p) [a] [] pos) P :=
  ev_blt call_len_seq hg hm (by decide +kernel) (h.mono fun ds c h σ H vs Q S r k => by
    obtain ⟨d, n, rfl, hn, hp⟩ := h
    obtain ⟨v, rfl, hv⟩ := pr1 r
    obtain ⟨q, ys, rfl, h1, h2⟩ := seq_at hn (val_rep hv (lenD_plain hn))
    refine ⟨q, ys, rfl, ?_, ?_⟩
    · rw [hK]
      rcases h1 with h1 | h1
      · exact .inl (seqS vis_same h1)
      · exact .inr (same_t vis_same h1)
    · rw [h2]
      exact k.here (d := .int (n : Nat)) S hp rfl) (he := he)
theorem ev_gcd (hg : Gl Z.X "gcd") (hm : Z.X.mg "gcd" = some (.builtin "math.gcd")) (h : EA Z ρ [a, b] fun ds c => l2 (fun i j P c => P (.int ((Nat.gcd i.natAbs j.natAbs : Nat) : Int)) c) ds P c) (he : starEach [a, b] Z.X.env = (false, eval a Z.X.env) :: starEach [b] Z.X.env := by rfl) (hpl : (backTo pos (starEach [b] Z.X.env)).any (·.1) = false := by rfl) : EV Z ρ (.Call (.Name "gcd" p) [a, b] [] pos) P :=
  ev_of (pe_callBfun cr_gcd hg hm pa_any (he := he) (hpl := hpl)) fun σ H Q S k => ea_any h S fun vs H1 ds c S1 e1 r h1 => by
    obtain ⟨i, j, rfl, hp⟩ := l2_elim h1
    obtain ⟨v, v', rfl, hv, hv'⟩ := pr2 r
    cases hv
    cases hv'
    exact ⟨i, j, rfl, (k.from (c := c) e1).here (d := .int _) S1 hp rfl⟩

/-! ### subscripts -/
def ixD : D → Int → Option D
  | .lst l, i => atI l i
  | .tup l, i => atI l i
  | .scr l, i => (atI l i).map .int
  | .str z, i => if z.length ≤ 100000 then (atI z.cps.toList i).map fun c => .str ⟨#[c]⟩ else none
  | _, _ => none
theorem atI_reps {T : Tab} {G : Hp} {l : List D} {vs : List V} {i : Int} {d : D} (r : reps T G l vs) (h : atI l i = some d) : ∃ v, atI vs i = some v ∧ rep T G d v := by
  unfold atI at h ⊢
  rw [r.len]
  cases e : ixN l.length i with
  | none =>
    rw [e] at h
    cases h
  | some j =>
    rw [e] at h
    exact r.get h
theorem atI_map {l : List Int} {i n : Int} (h : atI l i = some n) : atI (l.map V.int) i = some (.int n) := by
  unfold atI at h ⊢
  rw [List.length_map]
  cases e : ixN l.length i with
  | none =>
    rw [e] at h
    cases h
  | some j =>
    rw [e] at h
    have h' : l[j]? = some n := h
    show (l.map V.int)[j]? = some (.int n)
    rw [List.getElem?_map, h']
    rfl
theorem ev_ix (hK : Z.X.K = Z.T.K) (h : EV Z ρ a fun d1 c1 => EV Z (ρ.wc c1) b fun d2 c2 => ∃ i d, d2 = .int i ∧ ixD d1 i = some d ∧ P d c2) (hs : PlainIx b := by exact fun _ _ => rfl) : EV Z ρ (.Subscript a b pos) P :=
  two (r := rIx Z.X.K) (pe_ix ix_seq pe_any pe_any hs) (fun σ H Q q => q) (h.mono fun d1 c1 h2 => h2.mono fun d2 c2 ⟨i, d, hd, hx, hp⟩ σ H v1 v2 Q S r1 r2 k => by
    subst hd
    cases r2
    rw [hK]
    cases d1 <;> first | (cases hx; done) | skip
    case tup l _ =>
      obtain ⟨q, vs, rfl, h2, h3⟩ := r1
      obtain ⟨v, g1, g2⟩ := atI_reps h3 hx
      exact .inr (.inl ⟨q, vs, i, v, rfl, rfl, .inl (.inl (vis_some h2)), g1, k.here S hp (.of g2)⟩)
    case lst l _ =>
      obtain ⟨q, vs, rfl, h2, h3⟩ := r1
      obtain ⟨v, g1, g2⟩ := atI_reps h3 hx
      exact .inl ⟨q, vs, i, v, rfl, rfl, .inl (.inl (vis_some h2)), g1, k.here S hp (.of g2)⟩
    case scr l _ =>
      obtain ⟨q, rfl, h2⟩ := r1
      obtain ⟨n, e1, e2⟩ := Option.map_eq_some_iff.mp (show (atI l i).map D.int = some d from hx)
      subst e2
      exact .inl ⟨q, _, i, _, rfl, rfl, seqS vis_same h2, atI_map e1, k.here (d := .int n) S hp rfl⟩
    case str z _ =>
      cases r1
      have hx' : (if z.length ≤ 100000 then (atI z.cps.toList i).map fun c => D.str ⟨#[c]⟩ else none) = some d := hx
      split at hx'
      · obtain ⟨n, e1, e2⟩ := Option.map_eq_some_iff.mp hx'
        subst e2
        exact .inr (.inr ⟨z, i, n, rfl, rfl, sizeS (by assumption), e1, k.here (d := .str _) S hp rfl⟩)
      · cases hx')
end Q
end

section
set_option Elab.async false
set_option linter.all false
set_option maxRecDepth 100000
set_option maxHeartbeats 3900000
namespace Q
open PySem L2

/-- where a statement may go on -/
structure Out where
  nx : Rho → Prop
  bk : Rho → Prop
  ct : Rho → Prop
structure OK (Z : Zt) (O : Out) (D : Ends) : Prop where
  nx : ∀ σ H ρ, SR Z ρ σ H → O.nx ρ → D.nx σ H
  bk : ∀ σ H ρ, SR Z ρ σ H → O.bk ρ → D.bk σ H
  ct : ∀ σ H ρ, SR Z ρ σ H → O.ct ρ → D.ct σ H
  rt : ∀ σ H ρ v d, SR Z ρ σ H → rep Z.T (vis ρ.B H) d v → Z.rt d ρ.c → D.rt v H
def Zt.tS (Z : Zt) (ρ : Rho) (O : Out) : TS := fun D σ H => SR Z ρ σ H ∧ OK Z O D
def ST (Z : Zt) (ρ : Rho) (st : Stmt) (O : Out) : Prop := PS Z.X st (Z.tS ρ O)
def SS (Z : Zt) (ρ : Rho) (l : List Stmt) (O : Out) : Prop := PSs Z.X l (Z.tS ρ O)

variable {Z : Zt} {ρ : Rho} {σ : St} {H H' : Hp} {O : Out} {e a b : Expr} {pos p apos : Pos} {st : Stmt} {l l' : List Stmt} {D' : Ends}
def tsAny (X : Cx) (st : Stmt) : TS := fun D σ H => ∃ t : TS, PS X st t ∧ t D σ H
theorem ps_any {X : Cx} : PS X st (tsAny X st) := ⟨fun pins s σ H D I h => let ⟨t, p, q⟩ := h; p.run pins s σ H D I q⟩
theorem ps_imp {X : Cx} {t t' : TS} (p : PS X st t) (h : ∀ D σ H, t' D σ H → t D σ H) : PS X st t' := ⟨fun pins s σ H D I q => p.run pins s σ H D I (h D σ H q)⟩
def tssAny (X : Cx) (l : List Stmt) : TS := fun D σ H => ∃ t : TS, PSs X l t ∧ t D σ H
theorem pss_any {X : Cx} : PSs X l (tssAny X l) := ⟨fun pins s σ H D I h => let ⟨t, p, q⟩ := h; p.run pins s σ H D I q⟩
theorem pss_imp {X : Cx} {t t' : TS} (p : PSs X l t) (h : ∀ D σ H, t' D σ H → t D σ H) : PSs X l t' := ⟨fun pins s σ H D I q => p.run pins s σ H D I (h D σ H q)⟩
theorem st_of {t : TS} (p : PS Z.X st t) (h : ∀ D σ H, SR Z ρ σ H → OK Z O D → t D σ H) : ST Z ρ st O := ps_imp p fun D σ H q => h D σ H q.1 q.2
theorem ss_any (h : SS Z ρ l O) (S : SR Z ρ σ H) (k : OK Z O D') : tssAny Z.X l D' σ H := ⟨_, h, S, k⟩
theorem st_any (h : ST Z ρ st O) (S : SR Z ρ σ H) (k : OK Z O D') : tsAny Z.X st D' σ H := ⟨_, h, S, k⟩
theorem SS.mono {O' : Out} (h : SS Z ρ l O) (n : ∀ r, O.nx r → O'.nx r) (b : ∀ r, O.bk r → O'.bk r) (c : ∀ r, O.ct r → O'.ct r) : SS Z ρ l O' :=
  pss_imp h fun D σ H q => ⟨q.1, ⟨fun σ H r S x => q.2.nx σ H r S (n r x), fun σ H r S x => q.2.bk σ H r S (b r x), fun σ H r S x => q.2.ct σ H r S (c r x), q.2.rt⟩⟩

theorem ss_nil (h : O.nx ρ) : SS Z ρ [] O := pss_imp pss_nil fun D σ H q => q.2.nx σ H ρ q.1 h
theorem ss_cons (h : ST Z ρ st ⟨fun r => SS Z r l O, O.bk, O.ct⟩) : SS Z ρ (st :: l) O := pss_imp (pss_cons ps_any pss_any) fun D σ H q =>
  st_any h q.1 ⟨fun σ H r S x => ss_any x S q.2, q.2.bk, q.2.ct, q.2.rt⟩
theorem ss_one (h : ST Z ρ st O) : SS Z ρ [st] O := pss_imp (pss_one ps_any) fun D σ H q => st_any h q.1 q.2
theorem st_ret (h : EV Z ρ e fun d c => plain d = true ∧ Z.rt d c) : ST Z ρ (.Return (some e) pos) O := st_of (ps_ret pe_any) fun D σ H S k => ev_any h S fun v H' d c' S' _ r p => k.rt σ H' (ρ.wc c') v d S' (val_rep r p.1) p.2
theorem st_pass (h : O.nx ρ) : ST Z ρ (.Pass pos) O := st_of ps_pass fun D σ H S k => k.nx σ H ρ S h
theorem st_break (h : O.bk ρ) : ST Z ρ (.Break pos) O := st_of ps_break fun D σ H S k => k.bk σ H ρ S h
theorem st_cont (h : O.ct ρ) : ST Z ρ (.Continue pos) O := st_of ps_continue fun D σ H S k => k.ct σ H ρ S h
theorem st_expr (h : EV Z ρ e fun _ c => O.nx (ρ.wc c)) (hs : swapsWith e none pos.line Z.X.env = pure false := by rfl) : ST Z ρ (.Expr e pos) O :=
  st_of (ps_expr pe_any hs) fun D σ H S k => ev_any h S fun v H' d c' S' _ r p => k.nx σ H' (ρ.wc c') S' p
theorem st_set {i : Nat} {x : Str} {pos' : Pos} (ok : Zok Z) (h : EV Z ρ e fun d c => O.nx ((ρ.wc c).set i d)) (hi : Z.X.N[i]? = some x := by rfl) (hx : Loc Z.X.env.scope x := by first | exact Or.inl rfl | exact Or.inr rfl)
    (hs : swapsWith e (some (.Name x pos')) pos.line Z.X.env = pure false := by rfl) (hf : Z.X.fn x = true ∨ Z.X.env.scope.names.lookup x = some .local := by first | exact .inl rfl | exact .inr rfl) : ST Z ρ (.Assign [.Name x pos'] e pos) O :=
  st_of (ps_set ok.nd hi hx pe_any hs hf) fun D σ H S k => ev_any h S fun v H' d c' S' _ r p => k.nx _ H' _ (S'.set i (slot_of r)) p
theorem st_if {c : Expr} (h : ET Z ρ c fun k n => (k = true → SS Z (ρ.wc n) l O) ∧ (k = false → SS Z (ρ.wc n) l' O)) : ST Z ρ (.If c l l' pos) O :=
  st_of (ps_if pt_any pss_any pss_any) fun D σ H S q => et_any h S fun k H1 n S1 e1 ⟨h1, h2⟩ => by
    cases k with
    | true => exact ss_any (h1 rfl) S1 q
    | false => exact ss_any (h2 rfl) S1 q
theorem st_never (h : False) : ST Z ρ st O := h.elim
/-- a, b = x, y -/
theorem st_par (i j : Nat) {x y : Str} {px py pt pt2 : Pos} {kt k2 : Nat} (ok : Zok Z) (h : EA Z ρ [a, b] fun ds c => ∃ d d', ds = [d, d'] ∧ O.nx (((ρ.wc c).set i d).set j d'))
    (hi : Z.X.N[i]? = some x := by rfl) (hj : Z.X.N[j]? = some y := by rfl) (hij : i ≠ j := by decide) (hx : Z.X.env.scope.names.lookup x = some .local := by rfl) (hy : Z.X.env.scope.names.lookup y = some .local := by rfl)
    (hw : swappedStores [.Tuple [.Name x px, .Name y py] kt pt] (.Tuple [a, b] k2 pt2) Z.X.env = pure (some [x, y]) := by rfl) (hs : swapsWithSole [.Tuple [.Name x px, .Name y py] kt pt] (.Tuple [a, b] k2 pt2) pos.line Z.X.env = pure false := by rfl) (hc : Z.X.calm = true := by rfl) :
    ST Z ρ (.Assign [.Tuple [.Name x px, .Name y py] kt pt] (.Tuple [a, b] k2 pt2) pos) O :=
  st_of (ps_par hc ok.nd hi hj hij hx hy pa_any hw hs) fun D σ H S k => ea_any h S fun vs H1 ds c S1 e1 r ⟨d, d', hd, hp⟩ => by
    subst hd
    obtain ⟨v, v', rfl, r1, r2⟩ := pr2 r
    exact ⟨v, v', rfl, k.nx _ _ _ ((S1.set i (slot_of r1)).set j (slot_of r2)) hp⟩

/-! ### while -/
theorem st_while {c : Expr} (ok : Zok Z) (I : Nat → Rho → Prop) (m : Nat) (h0 : I m ρ)
    (hs : ∀ m ρ, I m ρ → ET Z ρ c fun k n => (k = true → SS Z (ρ.wc n) l ⟨fun r => ∃ m', m' < m ∧ I m' r, O.nx, fun r => ∃ m', m' < m ∧ I m' r⟩) ∧ (k = false → O.nx (ρ.wc n))) : ST Z ρ (.While c l [] pos) O :=
  st_of (ps_while ok.po pt_any pss_any) fun D σ H S q => by
    refine ⟨fun m σ H => ∃ ρ, SR Z ρ σ H ∧ I m ρ, ⟨m, ρ, S, h0⟩, fun m σ H ⟨ρ, S, hi⟩ => et_any (hs m ρ hi) S fun k H1 n S1 e1 hp => ?_⟩
    cases k with
    | true =>
      refine ⟨fun σ H => ∃ m', m' < m ∧ ∃ ρ, SR Z ρ σ H ∧ I m' ρ, fun σ' H' z => z, ss_any (hp.1 rfl) S1 ⟨fun σ H r S ⟨m', h1, h2⟩ => ⟨m', h1, r, S, h2⟩, fun σ H r S x => q.nx σ H r S x, fun σ H r S ⟨m', h1, h2⟩ => ⟨m', h1, r, S, h2⟩, q.rt⟩⟩
    | false => exact q.nx σ H1 _ S1 (hp.2 rfl)

/-! ### for -/
/-- a ghost more -/
abbrev Zt.gh (Z : Zt) (d : D) (v : V) : Zt := { Z with g := (d, v) :: Z.g }
theorem SR.gh_in {d : D} {v : V} (S : SR Z ρ σ H) (r : rep Z.T (vis ρ.B H) d v) : SR (Z.gh d v) ρ σ H := ⟨S.ok, S.le, S.ex, S.sl, fun p hp => by
  rcases List.mem_cons.mp hp with y | hp
  · subst y; exact r
  · exact S.gh p hp⟩
theorem SR.gh_out {d : D} {v : V} (S : SR (Z.gh d v) ρ σ H) : SR Z ρ σ H := ⟨S.ok, S.le, S.ex, S.sl, fun p hp => S.gh p (List.mem_cons_of_mem _ hp)⟩
theorem SR.gh_at {d : D} {v : V} (S : SR (Z.gh d v) ρ σ H) : rep Z.T (vis ρ.B H) d v := S.gh _ List.mem_cons_self
theorem Zok.gh {d : D} {v : V} (ok : Zok Z) : Zok (Z.gh d v) := ⟨ok.tk.imp fun c dx σ H ⟨ρ, e, S, r, x⟩ => ⟨ρ, e, S.gh_out, r, x⟩, ok.po, ok.K, ok.nd⟩
/-- the turns of a for over ds; body: what a turn does -/
def turns (body : Rho → D → (Rho → Prop) → Prop) (N : Rho → Prop) : List D → Rho → Prop
  | [], ρ => N ρ
  | d :: r, ρ => body ρ d (fun ρ' => turns body N r ρ')
def items : D → Option (List D)
  | .lst l => some l
  | .scr l => some (l.map .int)
  | _ => none
theorem items_at {T : Tab} {G : Hp} {d : D} {v : V} {l : List D} (h : items d = some l) (r : rep T G d v) : ∃ a xs, v = .ref a ∧ SqL T.K G a xs ∧ reps T G l xs := by
  cases d <;> first | (cases h; done) | skip
  case lst l' =>
    obtain ⟨a, vs, h1, h2, h3⟩ := r
    have e := Option.some.inj h
    subst e
    exact ⟨a, vs, h1, .inl (.inl h2), h3⟩
  case scr l' =>
    obtain ⟨a, h1, h2⟩ := r
    have e := Option.some.inj h
    subst e
    refine ⟨a, _, h1, h2, ?_⟩
    clear h h1 h2
    induction l' with
    | nil => rfl
    | cons n r ih => exact ⟨_, _, rfl, rfl, ih⟩
theorem items_plain {d : D} {l : List D} (h : items d = some l) : plain d = true := by
  cases d <;> first | rfl | cases h
/-- a for's target that is a name -/
theorem st_for {i : Nat} {x : Str} {iter : Expr} {px : Pos} (ok : Zok Z)
    (h : EV Z ρ iter fun d c => ∃ l', items d = some l' ∧ ∀ v, turns (fun ρ y K => SS (Z.gh d v) (ρ.set i y) l ⟨K, O.nx, K⟩) O.nx l' (ρ.wc c))
    (hs : ∀ x, foldedSetIterable iter Z.X.env x = pure x := by intro _; rfl) (hi : Z.X.N[i]? = some x := by rfl) (hx : Loc Z.X.env.scope x := by first | exact Or.inl rfl | exact Or.inr rfl) (hf : Z.X.fn x = true ∨ Z.X.env.scope.names.lookup x = some .local := by first | exact .inl rfl | exact .inr rfl) (hc : Z.X.calm = true := by rfl) :
    ST Z ρ (.For (.Name x px) iter l [] pos) O :=
  st_of (ps_for ok.po hc (pi_list pe_any) (pg_name ok.nd hi hx hf) pss_any (hs := hs)) fun D' σ H S q => ev_any h S fun v H1 d c S1 e1 r ⟨l', hl, ht⟩ => by
    have r0 := val_rep r (items_plain hl)
    obtain ⟨a, xs, rfl, hs, hr⟩ := items_at hl r0
    refine ⟨a, rfl, ⟨xs, by rw [ok.K]; exact seqS vis_same hs⟩, ?_⟩
    rw [ok.K]
    have Sg : SR (Z.gh d (.ref a)) (ρ.wc c) σ H1 := S1.gh_in r0
    have stay : ∀ {ρ' : Rho} {σ' : St} {H' : Hp}, SR (Z.gh d (.ref a)) ρ' σ' H' → ∃ ys, SqL Z.T.K H' a ys ∧ reps Z.T (vis ρ'.B H') l' ys := fun S' => by
      obtain ⟨a', ys, e, h1, h2⟩ := items_at hl S'.gh_at
      cases e
      exact ⟨ys, seqS vis_same h1, h2⟩
    refine ⟨fun j n σ' H' => ∃ ρ', SR (Z.gh d (.ref a)) ρ' σ' H' ∧ j + n = l'.length ∧ turns (fun ρ y K => SS (Z.gh d (.ref a)) (ρ.set i y) l ⟨K, O.nx, K⟩) O.nx (l'.drop j) ρ', ⟨l'.length, ρ.wc c, Sg, Nat.zero_add _, ht _⟩, fun j n σ' H' ⟨ρ', S', hn, ht'⟩ => ?_⟩
    obtain ⟨ys, hy, hry⟩ := stay S'
    cases n with
    | zero =>
      have hd : l'.drop j = [] := List.drop_of_length_le (by omega)
      rw [hd] at ht'
      exact .inl ⟨⟨ys, hy, by rw [hry.len]; omega⟩, q.nx _ _ _ S'.gh_out ht'⟩
    | succ n =>
      have hj : j < l'.length := by omega
      have hd : l'.drop j = l'[j] :: l'.drop (j + 1) := List.drop_eq_getElem_cons hj
      rw [hd] at ht'
      obtain ⟨w, hw, rw_⟩ := hry.get (List.getElem?_eq_getElem hj)
      refine .inr ⟨⟨ys, w, hy, hw⟩, fun σ2 H2 => ∃ ρ2, SR (Z.gh d (.ref a)) ρ2 σ2 H2 ∧ turns (fun ρ y K => SS (Z.gh d (.ref a)) (ρ.set i y) l ⟨K, O.nx, K⟩) O.nx (l'.drop (j + 1)) ρ2, fun σ2 H2 ⟨ρ2, S2, t2⟩ => ⟨n, by omega, ρ2, S2, by omega, t2⟩, fun x2 H2 hy2 => ?_⟩
      obtain ⟨rfl, fv⟩ := hy2
      have ex : x2 = w := Option.some.inj ((fv ys hy).symm.trans hw)
      subst ex
      exact ss_any (Z := Z.gh d (.ref a)) ht' (S'.set i (slot_of (.of rw_))) ⟨fun σ H r S x => ⟨r, S, x⟩, fun σ H r S x => q.nx σ H r S.gh_out x, fun σ H r S x => ⟨r, S, x⟩, fun σ H r v d S => q.rt σ H r v d S.gh_out⟩
/-- for i in range(n) -/
def spins (body : Rho → Int → (Rho → Prop) → Prop) (N : Rho → Prop) : Nat → Int → Rho → Prop
  | 0, _, ρ => N ρ
  | n + 1, j, ρ => body ρ j (fun ρ' => spins body N n (j + 1) ρ')
theorem st_range {i : Nat} {x : Str} {px pr pc : Pos} (ok : Zok Z) (hg : Gl Z.X "range") (hm : Z.X.mg "range" = none)
    (h : EA Z ρ [a] fun ds c => ∃ n : Int, ds = [.int n] ∧ n < 2 ^ 62 ∧ -(2 ^ 62) ≤ n ∧ spins (fun ρ y K => SS Z (ρ.set i (.int y)) l ⟨K, O.nx, K⟩) O.nx n.toNat 0 (ρ.wc c))
    (hst : starEach [a] Z.X.env = [(false, eval a Z.X.env)] := by rfl) (hi : Z.X.N[i]? = some x := by rfl) (hx : Loc Z.X.env.scope x := by first | exact Or.inl rfl | exact Or.inr rfl)
    (hf : Z.X.fn x = true ∨ Z.X.env.scope.names.lookup x = some .local := by first | exact .inl rfl | exact .inr rfl) (hc : Z.X.calm = true := by rfl) : ST Z ρ (.For (.Name x px) (.Call (.Name "range" pr) [a] [] pc) l [] pos) O :=
  st_of (ps_for ok.po hc (pi_range1 hg hm pa_any hst) (pg_name ok.nd hi hx hf) pss_any) fun D' σ H S q => ea_any h S fun vs H1 ds c S1 e1 r ⟨n, hd, h1, h2, ht⟩ => by
    subst hd
    obtain ⟨v, rfl, hv⟩ := pr1 r
    cases hv
    refine ⟨n, rfl, h2, h1, ?_⟩
    refine ⟨fun j m σ' H' => ∃ ρ', SR Z ρ' σ' H' ∧ j + m = n.toNat ∧ spins (fun ρ y K => SS Z (ρ.set i (.int y)) l ⟨K, O.nx, K⟩) O.nx m (j : Int) ρ', ⟨n.toNat, ρ.wc c, S1, Nat.zero_add _, ht⟩, fun j m σ' H' ⟨ρ', S', hn, ht'⟩ => ?_⟩
    cases m with
    | zero => exact .inl ⟨by show n.toNat ≤ j; omega, q.nx _ _ _ S' ht'⟩
    | succ m =>
      refine .inr ⟨by show j < n.toNat; omega, fun σ2 H2 => ∃ ρ2, SR Z ρ2 σ2 H2 ∧ spins (fun ρ y K => SS Z (ρ.set i (.int y)) l ⟨K, O.nx, K⟩) O.nx m ((j : Int) + 1) ρ2, fun σ2 H2 ⟨ρ2, S2, t2⟩ => ⟨m, by omega, ρ2, S2, by omega, (by rw [show ((j + 1 : Nat) : Int) = (j : Int) + 1 from rfl]; exact t2)⟩, fun x2 H2 hy2 => ?_⟩
      obtain ⟨rfl, rfl⟩ := hy2
      rw [Int.zero_add]
      exact ss_any ht' (S'.set i (slot_of (d := .int j) rfl)) ⟨fun σ H r S x => ⟨r, S, x⟩, fun σ H r S x => q.nx σ H r S x, fun σ H r S x => ⟨r, S, x⟩, q.rt⟩

/-! ### a def -/
theorem slots_start {T : Tab} {B : Bm} {G : Hp} : ∀ {ds : List D} {vs : List V} (n : Nat), Paired (val T B G) ds vs → slots T B G (ds.map some ++ List.replicate n none) (vs.map some ++ List.replicate n none)
  | _, _, n, .cons r t => ⟨_, _, rfl, slot_of r, slots_start n t⟩
  | _, _, 0, .nil => rfl
  | _, _, n + 1, .nil => ⟨none, _, rfl, slots_start n .nil⟩
/-- the data at the entry -/
def entry (N : List Str) (ds : List D) : List (Option D) := ds.map some ++ List.replicate (N.length - ds.length) none
/-- the context of a def's body -/
def zBody (P : Program) (w : World) (T : Tab) (mg : Str → Option Value) (base : Heap) (N : List Str) (qual : Str) (scope : Scope) (f : Addr) (cdv : Value) (A : Around) (outer : List Env) (s : Shared) (H : Hp) (E : XK)
    (B : Bm) (R : Er → Nat → Prop) (rt : D → Nat → Prop) : Zt :=
  { X := cxOf (L2.CX P w) P w T.K mg base N qual scope f cdv A outer s H E, T := T, B0 := B, H0 := H, g := [], R := fun er r => R er r.c, rt := rt }
theorem Fun.does {P : Program} {w : World} {T : Tab} {mg : Str → Option Value} {base : Heap} {x qual : Str} {st : Stmt} {f : Addr} {fd : FuncData} {N ps : List Str} {k : Nat} {F : Fw} (U : Fun T.K x qual st f fd) (S : FnScope N ps (defScope st))
    (len : ∀ ds c P R, F ds c P R → ds.length = ps.length)
    (body : ∀ (Z : Zt) (c : Nat) (ds : List D) (cdv : Value) (A : Around) (outer : List Env) (s : Shared) (H : Hp) (E : XK) (B : Bm) (R : Er → Nat → Prop) (rt : D → Nat → Prop),
      Z = zBody P w T mg base N qual (defScope st) f cdv A outer s H E B R rt → Zok Z → Room k Z.X.A → F ds c rt R → SS Z ⟨B, entry N ds, c⟩ (defBody st) ⟨fun r => rt .non r.c, fun _ => False, fun _ => False⟩) :
    FnOk P w T.K mg base (L2.CX P w) (k + 1) f fd ps (SpW T F) := by
  refine U.okX S (fun vs H Q E h => ?_) (fun cdv A outer s H vs Q E hr h => ?_)
  · obtain ⟨B, c, ds, P, R, _, r, h, _⟩ := h
    rw [pr_len r]
    exact len _ _ _ _ h
  · obtain ⟨B, c, ds, rt, R, ok, r, h, hQ, hE⟩ := h
    have fin : ∀ {ρ : Rho} {σ' : St} {H' : Hp}, SR (zBody P w T mg base N qual (defScope st) f cdv A outer s H E B R rt) ρ σ' H' → okW B ρ.c H' ∧ Same (vis B H) (vis B H') ∧ ∀ {d v}, rep T (vis ρ.B H') d v → rep T (vis B H') d v := fun {ρ σ' H'} S' => by
      have sub : Same (vis ρ.B H') (vis B H') := fun a o q => by
        refine vis_of (vis_some q) ?_
        cases e : B a with
        | none => rfl
        | some x =>
          have e2 := S'.le a (by show B a ≠ none; rw [e]; intro z; cases z)
          have e3 : ρ.B a = some x := e2.trans e
          unfold vis at q
          rw [e3] at q
          cases q
      refine ⟨⟨fun a q => ?_, fun a o q => ?_⟩, fun a o q => sub _ _ (S'.ex a o q), fun {d v} z => z.mono sub⟩
      · have e2 := S'.le a (by show B a ≠ none; rw [q]; intro z; cases z)
        exact S'.ok.box a (e2.trans q)
      · have e2 := S'.le a (by show B a ≠ none; rw [q]; intro z; cases z)
        exact S'.ok.fix a o (e2.trans q)
    have zok : Zok (zBody P w T mg base N qual (defScope st) f cdv A outer s H E B R rt) := by
      refine ⟨Takes.imp (W := fun cls d _ H => E cls d H) (takes_of rfl rfl rfl rfl) (fun cls dx σ' H' z => ?_), passes_of rfl, rfl, S.nd⟩
      obtain ⟨ρ, er, S', h1, h2⟩ := z
      refine hE er cls dx H' ρ.c (fin S').1 (fin S').2.1 ?_ h2
      obtain ⟨h3, h4⟩ := h1
      refine ⟨h3, ?_⟩
      obtain ⟨C, o⟩ := er
      cases o with
      | none => exact h4
      | some fd =>
        obtain ⟨p, v, e1, e2, e3⟩ := h4
        refine ⟨p, v, e1, ?_, (fin S').2.2 e3⟩
        have := (fin S').2.2 (d := .non) (v := .non) rfl
        have sub : Same (vis ρ.B H') (vis B H') := fun a o q => by
          refine vis_of (vis_some q) ?_
          cases e : B a with
          | none => rfl
          | some x =>
            have e2 := S'.le a (by show B a ≠ none; rw [e]; intro z; cases z)
            have e3 : ρ.B a = some x := e2.trans e
            unfold vis at q
            rw [e3] at q
            cases q
        exact sub _ _ e2
    refine ⟨_, body _ c ds cdv A outer s H E B R rt rfl zok hr h, ⟨ok, fun a _ => rfl, fun _ _ z => z, ?_, fun p hp => nomatch hp⟩, ⟨fun σ' H' ρ S' z => ?_, fun _ _ _ _ z => z.elim, fun _ _ _ _ z => z.elim, fun σ' H' ρ v d S' z hd => ?_⟩⟩
    · show slots T B (vis B H) (entry N ds) (L2.start N vs)
      unfold entry L2.start
      rw [pr_len r]
      exact slots_start _ r
    · exact hQ .non H' .non ρ.c (fin S').1 (fin S').2.1 rfl z
    · exact hQ v H' d ρ.c (fin S').1 (fin S').2.1 (.of ((fin S').2.2 z)) hd
theorem Fun.doesG {P : Program} {w : World} {T : Tab} {mg : Str → Option Value} {base : Heap} {x qual : Str} {st : Stmt} {f : Addr} {fd : FuncData} {N ps : List Str} {k : Nat} {F : Fw} (U : Fun T.K x qual st f fd) (S : FnScope N ps (defScope st))
    (len : ∀ ds c P R, F ds c P R → ds.length = ps.length)
    (body : ∀ (Z : Zt) (c : Nat) (ds : List D) (cdv : Value) (A : Around) (outer : List Env) (s : Shared) (H : Hp) (E : XK) (B : Bm) (R : Er → Nat → Prop) (rt : D → Nat → Prop),
      Z = zBody P w T mg base N qual (defScope st) f cdv A outer s H E B R rt → Zok Z → RoomG k Z.X.A → F ds c rt R → SS Z ⟨B, entry N ds, c⟩ (defBody st) ⟨fun r => rt .non r.c, fun _ => False, fun _ => False⟩) :
    FnGk P w T.K mg base (L2.CX P w) (k + 1) f fd ps (SpW T F) := by
  refine okG U S (fun vs H Q E h => ?_) (fun cdv A outer s H vs Q E hr h => ?_)
  · obtain ⟨B, c, ds, P, R, _, r, h, _⟩ := h
    rw [pr_len r]
    exact len _ _ _ _ h
  · obtain ⟨B, c, ds, rt, R, ok, r, h, hQ, hE⟩ := h
    have fin : ∀ {ρ : Rho} {σ' : St} {H' : Hp}, SR (zBody P w T mg base N qual (defScope st) f cdv A outer s H E B R rt) ρ σ' H' → okW B ρ.c H' ∧ Same (vis B H) (vis B H') ∧ ∀ {d v}, rep T (vis ρ.B H') d v → rep T (vis B H') d v := fun {ρ σ' H'} S' => by
      have sub : Same (vis ρ.B H') (vis B H') := fun a o q => by
        refine vis_of (vis_some q) ?_
        cases e : B a with
        | none => rfl
        | some x =>
          have e2 := S'.le a (by show B a ≠ none; rw [e]; intro z; cases z)
          have e3 : ρ.B a = some x := e2.trans e
          unfold vis at q
          rw [e3] at q
          cases q
      refine ⟨⟨fun a q => ?_, fun a o q => ?_⟩, fun a o q => sub _ _ (S'.ex a o q), fun {d v} z => z.mono sub⟩
      · have e2 := S'.le a (by show B a ≠ none; rw [q]; intro z; cases z)
        exact S'.ok.box a (e2.trans q)
      · have e2 := S'.le a (by show B a ≠ none; rw [q]; intro z; cases z)
        exact S'.ok.fix a o (e2.trans q)
    have zok : Zok (zBody P w T mg base N qual (defScope st) f cdv A outer s H E B R rt) := by
      refine ⟨Takes.imp (W := fun cls d _ H => E cls d H) (takes_of rfl rfl rfl rfl) (fun cls dx σ' H' z => ?_), passes_of rfl, rfl, S.nd⟩
      obtain ⟨ρ, er, S', h1, h2⟩ := z
      refine hE er cls dx H' ρ.c (fin S').1 (fin S').2.1 ?_ h2
      obtain ⟨h3, h4⟩ := h1
      refine ⟨h3, ?_⟩
      obtain ⟨C, o⟩ := er
      cases o with
      | none => exact h4
      | some fd =>
        obtain ⟨p, v, e1, e2, e3⟩ := h4
        refine ⟨p, v, e1, ?_, (fin S').2.2 e3⟩
        have := (fin S').2.2 (d := .non) (v := .non) rfl
        have sub : Same (vis ρ.B H') (vis B H') := fun a o q => by
          refine vis_of (vis_some q) ?_
          cases e : B a with
          | none => rfl
          | some x =>
            have e2 := S'.le a (by show B a ≠ none; rw [e]; intro z; cases z)
            have e3 : ρ.B a = some x := e2.trans e
            unfold vis at q
            rw [e3] at q
            cases q
        exact sub _ _ e2
    refine ⟨_, body _ c ds cdv A outer s H E B R rt rfl zok hr h, ⟨ok, fun a _ => rfl, fun _ _ z => z, ?_, fun p hp => nomatch hp⟩, ⟨fun σ' H' ρ S' z => ?_, fun _ _ _ _ z => z.elim, fun _ _ _ _ z => z.elim, fun σ' H' ρ v d S' z hd => ?_⟩⟩
    · show slots T B (vis B H) (entry N ds) (L2.start N vs)
      unfold entry L2.start
      rw [pr_len r]
      exact slots_start _ r
    · exact hQ .non H' .non ρ.c (fin S').1 (fin S').2.1 rfl z
    · exact hQ v H' d ρ.c (fin S').1 (fin S').2.1 (.of ((fin S').2.2 z)) hd
end Q
end

section
set_option Elab.async false
set_option linter.all false
set_option maxRecDepth 100000
set_option maxHeartbeats 3900000
namespace Q
open PySem L2
def topS (i : Nat) : Stmt := PySem.Challenge.pw_paystreams_k05_systems.main.body.getD i (.Pass ⟨0, 0, 0, 0⟩)
abbrev s_wall : Stmt := topS 1
theorem sc_wall : FnScope ["k"] ["k"] (defScope s_wall) := ⟨rfl, rfl, rfl, by decide +kernel, rfl, by decide +kernel, by decide +kernel⟩
abbrev s_BadNumber_init : Stmt := inClass (topS 7) 0
theorem sc_BadNumber_init : FnScope ["self", "given"] ["self", "given"] (defScope s_BadNumber_init) := ⟨rfl, rfl, rfl, by decide +kernel, rfl, by decide +kernel, by decide +kernel⟩
abbrev s_written : Stmt := topS 11
theorem sc_written : FnScope ["number", "parts", "part"] ["number"] (defScope s_written) := ⟨rfl, rfl, rfl, by decide +kernel, rfl, by decide +kernel, by decide +kernel⟩
abbrev s_read_digits : Stmt := topS 12
theorem sc_read_digits : FnScope ["text", "digits", "missing", "padded", "number", "start"] ["text"] (defScope s_read_digits) := ⟨rfl, rfl, rfl, by decide +kernel, rfl, by decide +kernel, by decide +kernel⟩
abbrev s_Ratio_init : Stmt := inClass (topS 14) 0
theorem sc_Ratio_init : FnScope ["self", "top", "bottom", "shared"] ["self", "top", "bottom"] (defScope s_Ratio_init) := ⟨rfl, rfl, rfl, by decide +kernel, rfl, by decide +kernel, by decide +kernel⟩
abbrev s_Ratio_read : Stmt := inClass (topS 14) 1
theorem sc_Ratio_read : FnScope ["cls", "text", "head", "slash", "tail", "top", "bottom", "ratio"] ["cls", "text"] (defScope s_Ratio_read) := ⟨rfl, rfl, rfl, by decide +kernel, rfl, by decide +kernel, by decide +kernel⟩
abbrev s_Ratio_top : Stmt := inClass (topS 14) 2
theorem sc_Ratio_top : FnScope ["self"] ["self"] (defScope s_Ratio_top) := ⟨rfl, rfl, rfl, by decide +kernel, rfl, by decide +kernel, by decide +kernel⟩
abbrev s_Ratio_bottom : Stmt := inClass (topS 14) 3
theorem sc_Ratio_bottom : FnScope ["self"] ["self"] (defScope s_Ratio_bottom) := ⟨rfl, rfl, rfl, by decide +kernel, rfl, by decide +kernel, by decide +kernel⟩
abbrev s_Ratio_add : Stmt := inClass (topS 14) 4
theorem sc_Ratio_add : FnScope ["self", "other", "number"] ["self", "other"] (defScope s_Ratio_add) := ⟨rfl, rfl, rfl, by decide +kernel, rfl, by decide +kernel, by decide +kernel⟩
abbrev s_Ratio_sub : Stmt := inClass (topS 14) 5
theorem sc_Ratio_sub : FnScope ["self", "other", "number"] ["self", "other"] (defScope s_Ratio_sub) := ⟨rfl, rfl, rfl, by decide +kernel, rfl, by decide +kernel, by decide +kernel⟩
abbrev s_Ratio_mul : Stmt := inClass (topS 14) 6
theorem sc_Ratio_mul : FnScope ["self", "other", "number"] ["self", "other"] (defScope s_Ratio_mul) := ⟨rfl, rfl, rfl, by decide +kernel, rfl, by decide +kernel, by decide +kernel⟩
abbrev s_Ratio_neg : Stmt := inClass (topS 14) 7
theorem sc_Ratio_neg : FnScope ["self"] ["self"] (defScope s_Ratio_neg) := ⟨rfl, rfl, rfl, by decide +kernel, rfl, by decide +kernel, by decide +kernel⟩
abbrev s_Ratio_eq : Stmt := inClass (topS 14) 8
theorem sc_Ratio_eq : FnScope ["self", "other"] ["self", "other"] (defScope s_Ratio_eq) := ⟨rfl, rfl, rfl, by decide +kernel, rfl, by decide +kernel, by decide +kernel⟩
abbrev s_Ratio_lt : Stmt := inClass (topS 14) 9
theorem sc_Ratio_lt : FnScope ["self", "other", "number"] ["self", "other"] (defScope s_Ratio_lt) := ⟨rfl, rfl, rfl, by decide +kernel, rfl, by decide +kernel, by decide +kernel⟩
abbrev s_Ratio_le : Stmt := inClass (topS 14) 10
theorem sc_Ratio_le : FnScope ["self", "other", "number"] ["self", "other"] (defScope s_Ratio_le) := ⟨rfl, rfl, rfl, by decide +kernel, rfl, by decide +kernel, by decide +kernel⟩
abbrev s_Ratio_over : Stmt := inClass (topS 14) 11
theorem sc_Ratio_over : FnScope ["self", "number"] ["self", "number"] (defScope s_Ratio_over) := ⟨rfl, rfl, rfl, by decide +kernel, rfl, by decide +kernel, by decide +kernel⟩
abbrev s_Ratio_text : Stmt := inClass (topS 14) 12
theorem sc_Ratio_text : FnScope ["self"] ["self"] (defScope s_Ratio_text) := ⟨rfl, rfl, rfl, by decide +kernel, rfl, by decide +kernel, by decide +kernel⟩
abbrev s_is_whole : Stmt := topS 15
theorem sc_is_whole : FnScope ["value"] ["value"] (defScope s_is_whole) := ⟨rfl, rfl, rfl, by decide +kernel, rfl, by decide +kernel, by decide +kernel⟩
abbrev s_as_ratio : Stmt := topS 16
theorem sc_as_ratio : FnScope ["given"] ["given"] (defScope s_as_ratio) := ⟨rfl, rfl, rfl, by decide +kernel, rfl, by decide +kernel, by decide +kernel⟩
abbrev s_total : Stmt := topS 17
theorem sc_total : FnScope ["numbers", "result", "number"] ["numbers"] (defScope s_total) := ⟨rfl, rfl, rfl, by decide +kernel, rfl, by decide +kernel, by decide +kernel⟩
abbrev s_solved : Stmt := topS 19
theorem sc_solved : FnScope ["rows", "right", "number", "row"] ["rows", "right"] (defScope s_solved) := ⟨rfl, rfl, rfl, by decide +kernel, rfl, by decide +kernel, by decide +kernel⟩
abbrev s_inverse : Stmt := topS 20
theorem sc_inverse : FnScope ["rows"] ["rows"] (defScope s_inverse) := ⟨rfl, rfl, rfl, by decide +kernel, rfl, by decide +kernel, by decide +kernel⟩
abbrev s_applied : Stmt := topS 21
theorem sc_applied : FnScope ["rows", "numbers", "row"] ["rows", "numbers"] (defScope s_applied) := ⟨rfl, rfl, rfl, by decide +kernel, rfl, by decide +kernel, by decide +kernel⟩
abbrev s_least_place : Stmt := topS 22
theorem sc_least_place : FnScope ["numbers", "ratios", "best", "place", "ratio", "number"] ["numbers"] (defScope s_least_place) := ⟨rfl, rfl, rfl, by decide +kernel, rfl, by decide +kernel, by decide +kernel⟩
abbrev s_weighed : Stmt := topS 23
theorem sc_weighed : FnScope ["numbers", "weights", "number", "weight"] ["numbers", "weights"] (defScope s_weighed) := ⟨rfl, rfl, rfl, by decide +kernel, rfl, by decide +kernel, by decide +kernel⟩
abbrev s_unit_rows : Stmt := topS 24
theorem sc_unit_rows : FnScope ["size", "place", "other"] ["size"] (defScope s_unit_rows) := ⟨rfl, rfl, rfl, by decide +kernel, rfl, by decide +kernel, by decide +kernel⟩
abbrev s_eliminated : Stmt := topS 25
theorem sc_eliminated : FnScope ["rows", "sides", "size", "table", "lead", "place", "other", "row", "side", "item"] ["rows", "sides"] (defScope s_eliminated) := ⟨rfl, rfl, rfl, by decide +kernel, rfl, by decide +kernel, by decide +kernel⟩
abbrev s_whole_row : Stmt := topS 26
theorem sc_whole_row : FnScope ["row", "ratios", "factor", "ratio", "number"] ["row"] (defScope s_whole_row) := ⟨rfl, rfl, rfl, by decide +kernel, rfl, by decide +kernel, by decide +kernel⟩
abbrev s_lead_place : Stmt := topS 27
theorem sc_lead_place : FnScope ["table", "place", "other"] ["table", "place"] (defScope s_lead_place) := ⟨rfl, rfl, rfl, by decide +kernel, rfl, by decide +kernel, by decide +kernel⟩
abbrev s_cleared : Stmt := topS 28
theorem sc_cleared : FnScope ["table", "place", "before", "chosen", "at", "row"] ["table", "place", "before"] (defScope s_cleared) := ⟨rfl, rfl, rfl, by decide +kernel, rfl, by decide +kernel, by decide +kernel⟩
abbrev s_combined : Stmt := topS 29
theorem sc_combined : FnScope ["row", "chosen", "place", "before", "lead", "times", "item", "taken"] ["row", "chosen", "place", "before"] (defScope s_combined) := ⟨rfl, rfl, rfl, by decide +kernel, rfl, by decide +kernel, by decide +kernel⟩
abbrev s_law_cell : Stmt := topS 31
theorem sc_law_cell : FnScope ["_law_script", "_law_k"] ["_law_script", "_law_k"] (defScope s_law_cell) := ⟨rfl, rfl, rfl, by decide +kernel, rfl, by decide +kernel, by decide +kernel⟩
abbrev s_law_box : Stmt := topS 32
theorem sc_law_box : FnScope ["_law_script", "_law_k"] ["_law_script", "_law_k"] (defScope s_law_box) := ⟨rfl, rfl, rfl, by decide +kernel, rfl, by decide +kernel, by decide +kernel⟩
abbrev s_law_take : Stmt := topS 33
theorem sc_law_take : FnScope ["_law_box_here", "_law_many", "_law_digit", "_law_mixed"] ["_law_box_here", "_law_many"] (defScope s_law_take) := ⟨rfl, rfl, rfl, by decide +kernel, rfl, by decide +kernel, by decide +kernel⟩
abbrev s_law_frac : Stmt := topS 34
theorem sc_law_frac : FnScope ["_law_up", "_law_down", "_law_one", "_law_other"] ["_law_up", "_law_down"] (defScope s_law_frac) := ⟨rfl, rfl, rfl, by decide +kernel, rfl, by decide +kernel, by decide +kernel⟩
abbrev s_law_plus : Stmt := topS 35
theorem sc_law_plus : FnScope ["_law_x", "_law_y"] ["_law_x", "_law_y"] (defScope s_law_plus) := ⟨rfl, rfl, rfl, by decide +kernel, rfl, by decide +kernel, by decide +kernel⟩
abbrev s_law_times : Stmt := topS 36
theorem sc_law_times : FnScope ["_law_x", "_law_y"] ["_law_x", "_law_y"] (defScope s_law_times) := ⟨rfl, rfl, rfl, by decide +kernel, rfl, by decide +kernel, by decide +kernel⟩
abbrev s_law_less : Stmt := topS 37
theorem sc_law_less : FnScope ["_law_x", "_law_y"] ["_law_x", "_law_y"] (defScope s_law_less) := ⟨rfl, rfl, rfl, by decide +kernel, rfl, by decide +kernel, by decide +kernel⟩
abbrev s_law_told : Stmt := topS 38
theorem sc_law_told : FnScope ["_law_amount"] ["_law_amount"] (defScope s_law_told) := ⟨rfl, rfl, rfl, by decide +kernel, rfl, by decide +kernel, by decide +kernel⟩
abbrev s_law_row : Stmt := topS 39
theorem sc_law_row : FnScope ["_law_numbers", "_law_x"] ["_law_numbers"] (defScope s_law_row) := ⟨rfl, rfl, rfl, by decide +kernel, rfl, by decide +kernel, by decide +kernel⟩
abbrev s_law_ratio : Stmt := topS 40
theorem sc_law_ratio : FnScope ["_law_x"] ["_law_x"] (defScope s_law_ratio) := ⟨rfl, rfl, rfl, by decide +kernel, rfl, by decide +kernel, by decide +kernel⟩
abbrev s_law_determinant : Stmt := topS 41
theorem sc_law_determinant : FnScope ["_law_lines", "_law_found", "_law_sign", "_law_k", "_law_rest", "_law_part", "_law_row_here"] ["_law_lines"] (defScope s_law_determinant) := ⟨rfl, rfl, rfl, by decide +kernel, rfl, by decide +kernel, by decide +kernel⟩
abbrev s_law_sum : Stmt := topS 42
theorem sc_law_sum : FnScope ["_law_row_here", "_law_numbers", "_law_found", "_law_k"] ["_law_row_here", "_law_numbers"] (defScope s_law_sum) := ⟨rfl, rfl, rfl, by decide +kernel, rfl, by decide +kernel, by decide +kernel⟩
abbrev s_law_drawn : Stmt := topS 43
theorem sc_law_drawn : FnScope ["_law_box_here", "_law_size", "_law_k", "_law_row_here"] ["_law_box_here", "_law_size"] (defScope s_law_drawn) := ⟨rfl, rfl, rfl, by decide +kernel, rfl, by decide +kernel, by decide +kernel⟩
abbrev s_law_rows : Stmt := topS 44
theorem sc_law_rows : FnScope ["_law_box_here", "_law_size", "_law_found", "_law_way", "_law_at", "_law_by", "_law_k", "_law_x"] ["_law_box_here", "_law_size"] (defScope s_law_rows) := ⟨rfl, rfl, rfl, by decide +kernel, rfl, by decide +kernel, by decide +kernel⟩
abbrev s_law_handed : Stmt := topS 45
theorem sc_law_handed : FnScope ["_law_lines", "_law_x", "_law_row_here"] ["_law_lines"] (defScope s_law_handed) := ⟨rfl, rfl, rfl, by decide +kernel, rfl, by decide +kernel, by decide +kernel⟩
abbrev s_law_refused : Stmt := topS 46
theorem sc_law_refused : FnScope ["_law_lines", "_law_right_told", "_law_found"] ["_law_lines", "_law_right_told"] (defScope s_law_refused) := ⟨rfl, rfl, rfl, by decide +kernel, rfl, by decide +kernel, by decide +kernel⟩
abbrev s_law_least : Stmt := topS 47
theorem sc_law_least : FnScope ["_law_numbers", "_law_at", "_law_x"] ["_law_numbers"] (defScope s_law_least) := ⟨rfl, rfl, rfl, by decide +kernel, rfl, by decide +kernel, by decide +kernel⟩
abbrev s_law : Stmt := topS 48
theorem sc_law : FnScope ["_law_script", "_law_k", "_law_box_here", "_law_size", "_law_lines", "_law_numbers", "_law_row_here", "_law_right_told", "_law_handed_here", "_law_given", "_law_other", "_law_back", "_law_told_here", "_law_x", "_law_j"] ["_law_script"] (defScope s_law) := ⟨rfl, rfl, rfl, by decide +kernel, rfl, by decide +kernel, by decide +kernel⟩

end Q
end

section
set_option Elab.async false
set_option linter.all false
set_option maxRecDepth 100000
set_option maxHeartbeats 3900000
namespace Q
open PySem L2
variable {P : Program} {w : World} {T : Tab} {mg : Str → Option Value} {base : Heap} {f : Addr} {fd : FuncData}
def F_cell : Fw := fun ds c P R => ∃ (l : List Int) (k : Nat), ds = [.scr l, .int (k : Int)] ∧ P (.int (l.getD k 0)) c
theorem ok_law_cell (U : Fun T.K "_law_cell" "_law_cell" s_law_cell f fd) (ml : mg "len" = none) : FnGk P w T.K mg base (L2.CX P w) 1 f fd ["_law_script", "_law_k"] (SpW T F_cell) := by
  refine Fun.doesG U sc_law_cell (fun ds c P R h => ?_) (fun Z c ds cdv A outer s H E B R rt hZ ok hr h => ?_)
  · obtain ⟨l, k, rfl, _⟩ := h
    rfl
  · obtain ⟨l, k, rfl, h⟩ := h
    subst hZ
    refine ss_one (st_ret (ev_if (et_lt (ev_var 1 rfl (ev_len rfl (by rfl) ml (ea_cons (ev_var 0 rfl (ea_nil ⟨_, _, rfl, rfl, ?_⟩)))))))) 
    refine ⟨fun hk => ?_, fun hk => ?_⟩
    · have hk' : k < l.length := by simpa using hk
      refine ev_ix rfl (ev_var 0 rfl (ev_var 1 rfl ⟨_, _, rfl, ?_, rfl, h⟩))
      show (atI l k).map D.int = _
      rw [atI_nat (v := l.getD k 0) (by simp [hk'])]
      rfl
    · have hk' : ¬ k < l.length := by simpa using hk
      refine ev_int ⟨rfl, ?_⟩
      have e : l.getD k 0 = 0 := by simp [hk']
      rw [e] at h
      exact h
end Q
end

section
set_option Elab.async false
set_option linter.all false
set_option maxRecDepth 100000
set_option maxHeartbeats 3900000
namespace Q
open PySem L2
variable {Z : Zt} {ρ : Rho} {σ : St} {H H' : Hp} {O : Out} {P : D → Nat → Prop} {e a b : Expr} {pos p apos : Pos} {X : Cx}

/-! ### wide numbers -/
def CPowW (i j : Int) : Prop := 2 ≤ i ∧ 1 ≤ j ∧ j ≤ 8 ∧ i.natAbs < 2 ^ 100000
theorem op_powW : OpR X (binaryOp .Pow) (rI CPowW fun i j => .int (i ^ j.toNat)) := opI fun i j t u s Q' E hc q => by
  obtain ⟨h1, h2, h3, h4⟩ := hc
  refine AutoIntOps.pow_4 (by omega) (by simp; omega) (by simp; omega) (by simp; omega) ?_ q
  have hb : Builtin.Int.intBits i ≤ i.natAbs.log2 + 1 := by
    unfold Builtin.Int.intBits
    split <;> omega
  have hl : i.natAbs.log2 < 100000 := (Nat.log2_lt (by omega)).mpr h4
  have e : bitsLine = 134217728 := (by decide); unfold Builtin.Int.intTooBig
  rw [e]
  have hm : ((Builtin.Int.intBits i : Nat) : Int) * j ≤ 100001 * 8 := by
    have a1 : ((Builtin.Int.intBits i : Nat) : Int) ≤ 100001 := by omega
    calc ((Builtin.Int.intBits i : Nat) : Int) * j ≤ 100001 * j := Int.mul_le_mul_of_nonneg_right a1 (by omega)
      _ ≤ 100001 * 8 := Int.mul_le_mul_of_nonneg_left h3 (by omega)
  intro z
  have z2 := of_decide_eq_true z; omega
def CFd (i j : Int) : Prop := j ≠ 0 ∧ Builtin.divisionGoesByPylong i j = false
theorem op_fdivF : OpR X (binaryOp .FloorDiv) (rI CFd fun i j => .int (i.fdiv j)) := opI fun _ _ _ _ _ _ _ hc q => PyProof.Rows.floordiv_int hc.1 q (.inl hc.2)
theorem CFd.of {i j : Int} (h : j ≠ 0) (b : j.natAbs < 2 ^ 9000) : CFd i j := ⟨h, PyProof.noPylong_of_log2 ((Nat.log2_lt (by omega)).mpr b)⟩
theorem ev_fdivF (h : EV Z ρ a fun d1 c1 => EV Z (ρ.wc c1) b fun d2 c2 => i2 (fun i j P c => CFd i j ∧ P (.int (i.fdiv j)) c) d1 d2 P c2) : EV Z ρ (.BinOp a .FloorDiv b pos) P := ev_opI op_fdivF h
theorem ev_pow (h : EV Z ρ a fun d1 c1 => EV Z (ρ.wc c1) b fun d2 c2 => i2 (fun i j P c => CPowW i j ∧ P (.int (i ^ j.toNat)) c) d1 d2 P c2) : EV Z ρ (.BinOp a .Pow b pos) P := ev_opI op_powW h
theorem ev_pow' (h : EV Z ρ a fun d1 c1 => EV Z (ρ.wc c1) b fun d2 c2 => i2 (fun i j P c => CPow i j ∧ P (.int (i ^ j.toNat)) c) d1 d2 P c2) : EV Z ρ (.BinOp a .Pow b pos) P := ev_opI op_pow h

/-! ### lists of one's own -/
abbrev Rho.own (ρ : Rho) (B : Bm) (i : Nat) (d : D) : Rho := ⟨B, ρ.s.set i (some d), ρ.c⟩
/-- an own list is read by place -/
theorem ev_ixo (i : Nat) {x : Str} {px : Pos} {o : Addr} {l : List D} (hs : ρ.s[i]? = some (some (.own o l))) (hK : Z.X.K = Z.T.K) (h : EV Z ρ b fun d c => ∃ j d', d = .int j ∧ atI l j = some d' ∧ P d' c) (hN : Z.X.N[i]? = some x := by rfl)
    (hv : Vis Z.X.env.scope x := by first | exact Or.inl rfl | exact Or.inr (Or.inl rfl) | exact Or.inr (Or.inr rfl)) (hd : (x == ("__debug__" : Str)) = false := by decide)
    (hcd : (x == ("__classdict__" : Str)) = false := by decide) (hpx : PlainIx b := by exact fun _ _ => rfl) : EV Z ρ (.Subscript (.Name x px) b pos) P :=
  ev_of (pe_ix ix_list (pe_var hN hv hd hcd) pe_any hpx) fun σ H Q S k => by
    obtain ⟨v, h1, h2⟩ := S.sl.get hs
    refine ⟨v, h1, ev_any h S fun w H1 d c S1 e1 r ⟨j, d', hd, hj, hp⟩ => ?_⟩
    subst hd
    cases r
    obtain ⟨v2, h3, h4⟩ := S1.sl.get hs
    have ev : v2 = v := by
      rw [h1] at h3
      exact (Option.some.inj (Option.some.inj h3)).symm
    subst ev
    obtain ⟨rfl, vs, hb, hr⟩ := h4
    obtain ⟨v', g1, g2⟩ := atI_reps hr hj
    exact ⟨o, vs, j, v', rfl, rfl, .inl (.inl (S1.ok.fix _ _ hb)), g1, (k.from (c := c) e1).here S1 hp (.of g2)⟩
theorem ev_leno (i : Nat) {x : Str} {px : Pos} {o : Addr} {l : List D} (hs : ρ.s[i]? = some (some (.own o l))) (hK : Z.X.K = Z.T.K) (hg : Gl Z.X "len") (hm : Z.X.mg "len" = none) (h : P (.int (l.length : Nat)) ρ.c) (hN : Z.X.N[i]? = some x := by rfl)
    (hv : Vis Z.X.env.scope x := by first | exact Or.inl rfl | exact Or.inr (Or.inl rfl) | exact Or.inr (Or.inr rfl)) (hd : (x == ("__debug__" : Str)) = false := by decide)
    (hcd : (x == ("__classdict__" : Str)) = false := by decide) (he : starEach [.Name x px] Z.X.env = (false, eval (.Name x px) Z.X.env) :: starEach [] Z.X.env := by rfl) : EV Z ρ (.Call (.Name "len" p) [.Name x px] [] pos) P :=
  ev_of (pe_callB call_len_seq hg hm (by decide +kernel) (pa_cons (pe_var hN hv hd hcd) pa_nil he) (he := he)) fun σ H Q S k => by
    obtain ⟨v, h1, h2⟩ := S.sl.get hs
    obtain ⟨rfl, vs, hb, hr⟩ := h2
    refine ⟨_, h1, o, vs, rfl, .inl (.inl (.inl (S.ok.fix _ _ hb))), ?_⟩
    rw [hr.len]
    exact k.here (d := .int _) S h rfl
/-- the hidden list at o is changed -/
theorem SR.put {o : Addr} {xs ys : List V} (S : SR Z ρ σ H) (hb : ρ.B o = some (some (.lst xs))) (n0 : Z.B0 o = none) (i : Nat) {l m : List D} (hs : ρ.s[i]? = some (some (.own o l))) (hm : reps Z.T (vis ρ.B H) m ys)
    (one : ∀ j l', ρ.s[j]? = some (some (.own o l')) → j = i) : ∃ B', SR Z (ρ.own B' i (.own o m)) σ (upd H o (.lst ys)) ∧ vis B' (upd H o (.lst ys)) = vis ρ.B H := by
  let B' : Bm := fun a => if a = o then some (some (.lst ys)) else ρ.B a
  have same : vis B' (upd H o (.lst ys)) = vis ρ.B H := by
    funext a
    show (match (if a = o then some (some (.lst ys)) else ρ.B a) with | none => upd H o (.lst ys) a | some _ => none) = _
    by_cases e : a = o
    · subst e
      rw [if_pos rfl]
      unfold vis
      rw [hb]
    · rw [if_neg e, upd_ne e]
      rfl
  refine ⟨B', ⟨⟨fun a q => ?_, fun a u q => ?_⟩, fun a q => ?_, ?_, ?_, ?_⟩, same⟩
  · have q' : (if a = o then some (some (HO.lst ys)) else ρ.B a) = some none := q
    by_cases e : a = o
    · rw [if_pos e] at q'
      cases q'
    · rw [if_neg e] at q'
      rw [upd_ne e]
      exact S.ok.box a q'
  · have q' : (if a = o then some (some (HO.lst ys)) else ρ.B a) = some (some u) := q
    by_cases e : a = o
    · rw [if_pos e] at q'
      cases q'
      subst e
      exact upd_same
    · rw [if_neg e] at q'
      rw [upd_ne e]
      exact S.ok.fix a u q'
  · show (if a = o then some (some (HO.lst ys)) else ρ.B a) = _
    rw [if_neg (fun z => by subst z; exact q n0)]
    exact S.le a q
  · show Same _ (vis B' (upd H o (.lst ys)))
    rw [same]
    exact S.ex
  · show slots Z.T B' (vis B' (upd H o (.lst ys))) (ρ.s.set i (some (.own o m))) σ
    rw [same]
    have key : ∀ (s : List (Option D)) (σ : St) (k : Nat), slots Z.T ρ.B (vis ρ.B H) s σ → (∀ j l', s[j]? = some (some (.own o l')) → j + k = i) → (∀ j, j + k = i → ∃ l', s[j]? = some (some (.own o l'))) →
        slots Z.T B' (vis ρ.B H) (if i < k then s else s.set (i - k) (some (.own o m))) σ := by
      intro s
      induction s with
      | nil =>
        intro σ k h _ _
        have e : σ = [] := h
        subst e
        split
        · exact rfl
        · simp [slots]
      | cons d s ih =>
        intro σ k h h1 h2
        have next := fun (σ' : St) (h' : slots Z.T ρ.B (vis ρ.B H) s σ') => ih σ' (k + 1) h' (fun j l' q => by have := h1 (j + 1) l' (by simpa using q); omega) (fun j q => by
          obtain ⟨l', e⟩ := h2 (j + 1) (by omega)
          exact ⟨l', by simpa using e⟩)
        by_cases hik : i = k
        · subst hik
          rw [if_neg (Nat.lt_irrefl _), Nat.sub_self]
          obtain ⟨l', e⟩ := h2 0 (by omega)
          have ed : d = some (.own o l') := by simpa using e
          subst ed
          obtain ⟨v, r, rfl, hv, hr⟩ := h
          refine ⟨v, r, rfl, ?_, ?_⟩
          · obtain ⟨hv1, _⟩ := hv
            exact ⟨hv1, ys, if_pos rfl, hm⟩
          · have := next r hr
            rw [if_pos (by omega)] at this
            exact this
        · have tail : ∀ {x : Option V} {r : St}, slots Z.T ρ.B (vis ρ.B H) s r → slots Z.T B' (vis ρ.B H) (if i < k + 1 then s else s.set (i - (k + 1)) (some (.own o m))) r := fun {x r} hr => next r hr
          have hd : ∀ y, d = some y → ∀ v, slotOk Z.T ρ.B (vis ρ.B H) y v → slotOk Z.T B' (vis ρ.B H) y v := fun y hy v hv => by
            cases y <;> first | exact hv | skip
            · obtain ⟨a, h3, h4⟩ := hv
              refine ⟨a, h3, ?_⟩
              show (if a = o then some (some (HO.lst ys)) else ρ.B a) = _
              rw [if_neg (fun z => by subst z; rw [hb] at h4; cases h4)]
              exact h4
            · obtain ⟨h3, ws, h4, h5⟩ := hv
              refine ⟨h3, ws, ?_, h5⟩
              show (if _ = o then some (some (HO.lst ys)) else ρ.B _) = _
              rw [if_neg (fun z => by
                subst z
                have := h1 0 _ (by rw [hy]; rfl)
                omega)]
              exact h4
          have shape : (if i < k then d :: s else (d :: s).set (i - k) (some (.own o m))) = d :: (if i < k + 1 then s else s.set (i - (k + 1)) (some (.own o m))) := by
            by_cases hlt : i < k
            · rw [if_pos hlt, if_pos (by omega)]
            · rw [if_neg hlt, if_neg (by omega), show i - k = (i - (k + 1)) + 1 by omega]
              rfl
          rw [shape]
          cases d with
          | none =>
            obtain ⟨x, r, rfl, hr⟩ := h
            exact ⟨x, r, rfl, next r hr⟩
          | some y =>
            obtain ⟨v, r, rfl, hv, hr⟩ := h
            exact ⟨v, r, rfl, hd y rfl v hv, next r hr⟩
    have := key ρ.s σ 0 S.sl (fun j l' q => by have := one j l' q; omega) (fun j q => ⟨l, by rw [show j = i by omega]; exact hs⟩)
    rw [if_neg (Nat.not_lt_zero _), Nat.sub_zero] at this
    exact this
  · intro q hq
    show rep Z.T (vis B' (upd H o (.lst ys))) q.1 q.2
    rw [same]
    exact S.gh q hq
end Q
end

section
set_option Elab.async false
set_option linter.all false
set_option maxRecDepth 100000
set_option maxHeartbeats 3900000
namespace Q
open PySem L2
variable {Z : Zt} {ρ : Rho} {σ : St} {H H' : Hp} {O : Out} {P : D → Nat → Prop} {e a b : Expr} {pos p apos : Pos} {X : Cx}

def hideAt (B : Bm) (q : Addr) (k : Option HO) : Bm := fun a => if a = q then some k else B a
theorem vis_hide {B : Bm} {q : Addr} {k : Option HO} {H : Hp} {o : HO} (b : H q = none) : vis (hideAt B q k) (upd H q o) = vis B H := by
  funext a
  unfold vis hideAt
  by_cases e : a = q
  · subst e
    rw [if_pos rfl]
    cases B a with
    | none => exact b.symm
    | some x => rfl
  · rw [if_neg e, upd_ne e]
theorem slots_B {T : Tab} {B B' : Bm} {G : Hp} (h : ∀ a x, B a = some x → B' a = some x) : ∀ {s : List (Option D)} {σ : St}, slots T B G s σ → slots T B' G s σ
  | [], _, q => q
  | none :: s, _, ⟨x, r, e, k⟩ => ⟨x, r, e, slots_B h k⟩
  | some d :: s, _, ⟨v, r, e, k, q⟩ => ⟨v, r, e, by
      cases d <;> first | exact k | skip
      · obtain ⟨a, h1, h2⟩ := k
        exact ⟨a, h1, h _ _ h2⟩
      · obtain ⟨h1, vs, h2, h3⟩ := k
        exact ⟨h1, vs, h _ _ h2, h3⟩, slots_B h q⟩
/-- a new object is hidden -/
theorem SR.hide {q : Addr} {k : Option HO} {o : HO} (S : SR Z ρ σ H) (hq : H q = none) (hk : ∀ u, k = some u → u = o) (hb : k = none → BoxO ρ.c o) : SR Z ⟨hideAt ρ.B q k, ρ.s, ρ.c⟩ σ (upd H q o) ∧ Z.B0 q = none := by
  have b0 := S.ok.fresh hq
  have same := vis_hide (B := ρ.B) (k := k) (o := o) hq
  have n0 : Z.B0 q = none := by
    cases e : Z.B0 q with
    | none => rfl
    | some x =>
      have := S.le q (by rw [e]; intro z; cases z)
      rw [b0, e] at this
      cases this
  refine ⟨⟨⟨fun a h => ?_, fun a u h => ?_⟩, fun a h => ?_, ?_, ?_, ?_⟩, n0⟩
  · have h' : (if a = q then some k else ρ.B a) = some none := h
    by_cases e : a = q
    · rw [if_pos e] at h'
      subst e
      exact ⟨o, upd_same, hb (Option.some.inj h')⟩
    · rw [if_neg e] at h'
      rw [upd_ne e]
      exact S.ok.box a h'
  · have h' : (if a = q then some k else ρ.B a) = some (some u) := h
    by_cases e : a = q
    · rw [if_pos e] at h'
      subst e
      rw [upd_same, hk u (Option.some.inj h')]
    · rw [if_neg e] at h'
      rw [upd_ne e]
      exact S.ok.fix a u h'
  · show (if a = q then some k else ρ.B a) = _
    rw [if_neg (fun z => by subst z; exact h n0)]
    exact S.le a h
  · show Same _ (vis (hideAt ρ.B q k) (upd H q o))
    rw [same]
    exact S.ex
  · show slots Z.T (hideAt ρ.B q k) (vis (hideAt ρ.B q k) (upd H q o)) ρ.s σ
    rw [same]
    refine slots_B (fun a x h => ?_) S.sl
    show (if a = q then some k else ρ.B a) = _
    rw [if_neg (fun z => by subst z; rw [b0] at h; cases h)]
    exact h
  · intro r hr
    show rep Z.T (vis (hideAt ρ.B q k) (upd H q o)) r.1 r.2
    rw [same]
    exact S.gh r hr
/-- x = [..], the list one's own -/
theorem st_own {i : Nat} {x : Str} {pos' : Pos} {es : List Expr} (ok : Zok Z) (h : EA Z ρ es fun ds c => ds.all plain = true ∧ ds.length ≤ 100000 ∧ ∀ B' o, Z.B0 o = none → (∀ a u, ρ.B a = some u → a ≠ o) → O.nx ⟨B', ρ.s.set i (some (.own o ds)), c⟩)
    (hi : Z.X.N[i]? = some x := by rfl) (hx : Loc Z.X.env.scope x := by first | exact Or.inl rfl | exact Or.inr rfl)
    (hs : swapsWith (.List es pos) (some (.Name x pos')) p.line Z.X.env = pure false := by rfl) (hf : Z.X.fn x = true ∨ Z.X.env.scope.names.lookup x = some .local := by first | exact .inl rfl | exact .inr rfl) :
    ST Z ρ (.Assign [.Name x pos'] (.List es pos) p) O :=
  st_of (ps_set ok.nd hi hx (pe_lst pa_any) hs hf) fun D σ H S k => ea_any h S fun vs H1 ds c S1 e1 r ⟨h1, h2, h3⟩ => ⟨sizeS (by rw [pr_len r]; exact h2), fun q hq => by
    have hr := reps_of r h1
    obtain ⟨S2, n0⟩ := S1.hide (k := some (.lst vs)) (o := .lst vs) hq (fun u e => (Option.some.inj e).symm) (fun e => nomatch e)
    refine k.nx _ _ _ (S2.set i (d := .own q ds) ⟨rfl, vs, if_pos rfl, ?_⟩) (h3 _ q n0 (fun a u ha z => ?_))
    · show reps Z.T (vis (hideAt ρ.B q (some (.lst vs))) (upd H1 q (.lst vs))) ds vs
      rw [vis_hide hq]
      exact hr
    · subst z
      have := S1.ok.fresh hq
      rw [show (ρ.wc c).B = ρ.B from rfl, ha] at this
      cases this⟩
/-- x.append(e) -/
theorem st_append (i : Nat) {x : Str} {px : Pos} {o : Addr} {l : List D} (ok : Zok Z) (hs : ρ.s[i]? = some (some (.own o l))) (n0 : Z.B0 o = none) (one : ∀ j l', ρ.s[j]? = some (some (.own o l')) → j = i)
    (h : EA Z ρ [e] fun ds c => ∃ d, ds = [d] ∧ plain d = true ∧ l.length < 100000 ∧ ∀ B', O.nx ⟨B', ρ.s.set i (some (.own o (l ++ [d]))), c⟩) (hN : Z.X.N[i]? = some x := by rfl)
    (hv : Vis Z.X.env.scope x := by first | exact Or.inl rfl | exact Or.inr (Or.inl rfl) | exact Or.inr (Or.inr rfl)) (hd : (x == ("__debug__" : Str)) = false := by decide)
    (hcd : (x == ("__classdict__" : Str)) = false := by decide) {st : Stmt} (pm : ∀ {ta : TE} {tb : TA}, PE Z.X (.Name x px) ta → PA Z.X [e] tb → PS Z.X st (tDrop (tBM Z.X.K "list" rAppend ta tb))) : ST Z ρ st O :=
  st_of (pm (pe_var (i := i) hN hv hd hcd) (pa_any (es := [e]))) fun D σ H S k => by
    obtain ⟨v, h1, h2⟩ := S.sl.get hs
    obtain ⟨rfl, vs, hb, hr⟩ := h2
    refine ⟨_, h1, .inl ⟨rfl, vs, .inl (.inl (S.ok.fix _ _ hb))⟩, ?_⟩
    refine ea_any h S fun ws H1 ds c S1 e1 r ⟨d, hd, h3, h4, h5⟩ => ?_
    subst hd
    obtain ⟨w, rfl, rw_⟩ := pr1 r
    obtain ⟨v2, g1, g2⟩ := S1.sl.get hs
    obtain ⟨rfl, vs2, hb2, hr2⟩ := g2
    have e2 : vs2 = vs := by
      have := hb2.symm.trans hb
      cases this
      rfl
    subst e2
    refine ⟨o, vs2, w, rfl, rfl, S1.ok.fix _ _ hb2, ?_, ?_⟩
    · rw [hr2.len]
      exact Nat.lt_of_lt_of_le h4 (by decide)
    · obtain ⟨B', S3, _⟩ := S1.put hb2 n0 i hs (hr2.append (reps.one (val_rep rw_ h3))) one
      have hσ : σ.set i (some (.ref o)) = σ := by
        apply List.ext_getElem?
        intro j
        by_cases hj : j = i
        · subst hj
          rw [List.getElem?_set_self (List.getElem?_eq_some_iff.mp h1).1, h1]
        · rw [List.getElem?_set_ne (fun z => hj z.symm)]
      exact k.nx _ _ _ S3 (h5 B')
/-- x[i] = e -/
theorem st_seto (i : Nat) {x : Str} {px pt : Pos} {o : Addr} {l : List D} (ok : Zok Z) (hs : ρ.s[i]? = some (some (.own o l))) (n0 : Z.B0 o = none) (one : ∀ j l', ρ.s[j]? = some (some (.own o l')) → j = i)
    (h : EV Z ρ e fun d c => plain d = true ∧ EV Z (ρ.wc c) b fun di c' => ∃ z k, di = .int z ∧ ixN l.length z = some k ∧ ∀ B', O.nx ⟨B', ρ.s.set i (some (.own o (l.set k d))), c'⟩) (hN : Z.X.N[i]? = some x := by rfl)
    (hv : Vis Z.X.env.scope x := by first | exact Or.inl rfl | exact Or.inr (Or.inl rfl) | exact Or.inr (Or.inr rfl)) (hd : (x == ("__debug__" : Str)) = false := by decide)
    (hcd : (x == ("__classdict__" : Str)) = false := by decide) {st : Stmt} (pm : ∀ {te ta tb : TE}, PE Z.X e te → PE Z.X (.Name x px) ta → PE Z.X b tb → PS Z.X st (tAsg te (gSub ta tb rSetL))) : ST Z ρ st O :=
  st_of (pm pe_any (pe_var (i := i) hN hv hd hcd) pe_any) fun D σ H S k => ev_any h S fun w H1 d c S1 e1 r ⟨hpl, h2⟩ => by
    obtain ⟨v, g1, g2⟩ := S1.sl.get hs
    refine ⟨v, g1, ev_any h2 S1 fun w' H2 di c' S2 e2 r' ⟨z, j, hz, hj, hp⟩ => ?_⟩
    subst hz
    cases r'
    obtain ⟨v2, k1, k2⟩ := S2.sl.get hs
    have ev : v2 = v := by
      rw [g1] at k1
      exact (Option.some.inj (Option.some.inj k1)).symm
    subst ev
    obtain ⟨rfl, vs, hb, hr⟩ := k2
    obtain ⟨B', S3, _⟩ := S2.put hb n0 i hs (hr.set j (val_rep (r.mono e2) hpl)) one
    refine ⟨o, vs, z, j, rfl, rfl, S2.ok.fix _ _ hb, ?_, k.nx _ _ _ S3 (hp B')⟩
    rw [hr.len]
    exact hj
/-- an own list is given up -/
theorem SR.free {o : Addr} {xs : List V} (S : SR Z ρ σ H) (n0 : Z.B0 o = none) (i : Nat) {l : List D} (hs : ρ.s[i]? = some (some (.own o l)))
    (one : ∀ j l', ρ.s[j]? = some (some (.own o l')) → j = i) : ∃ B', SR Z (ρ.own B' i (.lst l)) σ H := by
  let B' : Bm := fun a => if a = o then none else ρ.B a
  obtain ⟨v0, g1, rfl, vs, hb, hr⟩ := S.sl.get hs
  have grow : Same (vis ρ.B H) (vis B' H) := fun a u q => by
    have q1 := vis_some q
    have q2 : ρ.B a = none := by
      cases e : ρ.B a with
      | none => rfl
      | some x =>
        unfold vis at q
        rw [e] at q
        cases q
    refine vis_of q1 ?_
    show (if a = o then none else ρ.B a) = none
    split
    · rfl
    · exact q2
  have hv : vis B' H o = some (.lst vs) := vis_of (S.ok.fix _ _ hb) (if_pos rfl)
  refine ⟨B', ⟨⟨fun a q => ?_, fun a u q => ?_⟩, fun a q => ?_, fun a u q => grow _ _ (S.ex a u q), ?_, fun p hp => (S.gh p hp).mono grow⟩⟩
  · have q' : (if a = o then none else ρ.B a) = some none := q
    by_cases e : a = o
    · rw [if_pos e] at q'
      cases q'
    · rw [if_neg e] at q'
      exact S.ok.box a q'
  · have q' : (if a = o then none else ρ.B a) = some (some u) := q
    by_cases e : a = o
    · rw [if_pos e] at q'
      cases q'
    · rw [if_neg e] at q'
      exact S.ok.fix a u q'
  · show (if a = o then none else ρ.B a) = _
    rw [if_neg (fun z => by subst z; exact q n0)]
    exact S.le a q
  · show slots Z.T B' (vis B' H) (ρ.s.set i (some (.lst l))) σ
    have key : ∀ (s : List (Option D)) (σ : St) (k : Nat), slots Z.T ρ.B (vis ρ.B H) s σ → (∀ j l', s[j]? = some (some (.own o l')) → j + k = i) → (∀ j, j + k = i → s[j]? = some (some (.own o l))) →
        slots Z.T B' (vis B' H) (if i < k then s else s.set (i - k) (some (.lst l))) σ := by
      intro s
      induction s with
      | nil =>
        intro σ k h _ _
        have e : σ = [] := h
        subst e
        split
        · exact rfl
        · simp [slots]
      | cons d s ih =>
        intro σ k h h1 h2
        have next := fun (σ' : St) (h' : slots Z.T ρ.B (vis ρ.B H) s σ') => ih σ' (k + 1) h' (fun j l' q => by have := h1 (j + 1) l' (by simpa using q); omega) (fun j q => by
          have e := h2 (j + 1) (by omega)
          simpa using e)
        by_cases hik : i = k
        · subst hik
          rw [if_neg (Nat.lt_irrefl _), Nat.sub_self]
          have e := h2 0 (by omega)
          have ed : d = some (.own o l) := by simpa using e
          subst ed
          obtain ⟨v, r, rfl, hv', hr'⟩ := h
          obtain ⟨rfl, ws, hw, hrw⟩ := hv'
          have ews : ws = vs := by
            have := hw.symm.trans hb
            cases this
            rfl
          subst ews
          refine ⟨_, r, rfl, ⟨o, ws, rfl, hv, hrw.mono grow⟩, ?_⟩
          have := next r hr'
          rw [if_pos (by omega)] at this
          exact this
        · have hd : ∀ y, d = some y → ∀ v, slotOk Z.T ρ.B (vis ρ.B H) y v → slotOk Z.T B' (vis B' H) y v := fun y hy v hv => by
            cases y <;> first | exact rep.mono grow hv | skip
            · obtain ⟨a, h3, h4⟩ := hv
              refine ⟨a, h3, ?_⟩
              show (if a = o then none else ρ.B a) = _
              rw [if_neg (fun z => by subst z; rw [hb] at h4; cases h4)]
              exact h4
            · obtain ⟨h3, ws, h4, h5⟩ := hv
              refine ⟨h3, ws, ?_, h5.mono grow⟩
              show (if _ = o then none else ρ.B _) = _
              rw [if_neg (fun z => by
                subst z
                have := h1 0 _ (by rw [hy]; rfl)
                omega)]
              exact h4
          have shape : (if i < k then d :: s else (d :: s).set (i - k) (some (.lst l))) = d :: (if i < k + 1 then s else s.set (i - (k + 1)) (some (.lst l))) := by
            by_cases hlt : i < k
            · rw [if_pos hlt, if_pos (by omega)]
            · rw [if_neg hlt, if_neg (by omega), show i - k = (i - (k + 1)) + 1 by omega]
              rfl
          rw [shape]
          cases d with
          | none =>
            obtain ⟨x, r, rfl, hr⟩ := h
            exact ⟨x, r, rfl, next r hr⟩
          | some y =>
            obtain ⟨v, r, rfl, hv, hr⟩ := h
            exact ⟨v, r, rfl, hd y rfl v hv, next r hr⟩
    have := key ρ.s σ 0 S.sl (fun j l' q => by have := one j l' q; omega) (fun j q => by rw [show j = i by omega]; exact hs)
    rw [if_neg (Nat.not_lt_zero _), Nat.sub_zero] at this
    exact this
theorem ss_free (i : Nat) {o : Addr} {l : List D} {sts : List Stmt} (n0 : Z.B0 o = none) (hs : ρ.s[i]? = some (some (.own o l))) (one : ∀ j l', ρ.s[j]? = some (some (.own o l')) → j = i)
    (h : ∀ B', SS Z (ρ.own B' i (.lst l)) sts O) : SS Z ρ sts O := ⟨fun pins s σ H D I q => by
  obtain ⟨S, k⟩ := q
  obtain ⟨B', S'⟩ := S.free (xs := []) n0 i hs one
  exact (h B').run pins s σ H D I ⟨S', k⟩⟩
end Q
end

section
set_option Elab.async false
set_option linter.all false
set_option maxRecDepth 100000
set_option maxHeartbeats 3900000
namespace Q
open PySem L2
variable {P : Program} {w : World} {T : Tab} {mg : Str → Option Value} {base : Heap} {f : Addr} {fd : FuncData}
def F_take : Fw := fun ds c P R => ∃ n : Int, ds = [.box, .int n] ∧ 0 < n ∧ n < 2 ^ 200 ∧ c < 1000000 ∧ ∀ r : Int, 0 ≤ r → r < n → P (.int r) (c + 1)
theorem pow_lt {a : Int} {n : Nat} (h0 : 0 ≤ a) (h : a < 2 ^ n) : a.natAbs < 2 ^ n := by
  have e : ((2 ^ n : Nat) : Int) = (2 : Int) ^ n := by simp
  omega
theorem take_wide {x y z : Int} (hx : 0 ≤ x) (hx' : x < 10 ^ 18) (hy : 0 ≤ y) (hy' : y ≤ 1000000) (hz : 0 ≤ z) (hz' : z ≤ 2 ^ 40) : CPowW ((x + 7) * 69069 + y * 40692 + z) 3 := by
  refine ⟨by omega, by omega, by omega, Nat.lt_of_lt_of_le (pow_lt (n := 100) (by omega) (by omega)) (Nat.pow_le_pow_right (by decide) (by decide))⟩
theorem take_wide2 {m y : Int} (h0 : 0 ≤ m) (h : m < 2147483647) (hy : 1 ≤ y) (hy' : y ≤ 1000000) : CPowW (m + y * 17389) 3 := by
  refine ⟨by omega, by omega, by omega, Nat.lt_of_lt_of_le (pow_lt (n := 100) (by omega) (by omega)) (Nat.pow_le_pow_right (by decide) (by decide))⟩
theorem wmul {i j : Int} (hi : i.natAbs < 2 ^ 300) (hj : j.natAbs < 2 ^ 300) : CMulW i j := wide_mul hi hj (by decide) (by decide) (by decide)
theorem ok_law_take (U : Fun T.K "_law_take" "_law_take" s_law_take f fd) (mi : mg "int" = none) : FnGk P w T.K mg base (L2.CX P w) 1 f fd ["_law_box_here", "_law_many"] (SpW T F_take) := by
  have U' := U
  refine okG U sc_law_take (fun vs H Q E h => ?_) (fun cdv A outer s H vs Q E hr h => ?_)
  · obtain ⟨B, c, ds, P, R, _, r, ⟨n, rfl, _⟩, _⟩ := h
    rw [pr_len r]
    rfl
  · obtain ⟨B, c, ds, P, R, ok, r, ⟨n, rfl, hn, hn', hc, hP⟩, hQ, _⟩ := h
    obtain ⟨v, v', rfl, ⟨b, rfl, hb⟩, hv'⟩ := pr2 r
    cases hv'
    obtain ⟨o, ho, x, y, z, rfl, hx, hy, hyc, hz, hz'⟩ := ok.box b hb
    have ix : ∀ i : Nat, PlainIx (.Constant (.int i) 0 ⟨0, 0, 0, 0⟩) := fun _ _ _ => rfl
    have fin : ∀ {x' y' : Int} {H' : Hp} {rr : Int}, H' = upd H b (.lst [.int x', .int y', .int z]) → 0 ≤ x' → 0 ≤ y' → y' ≤ y + 1 → 0 ≤ rr → rr < n → Q (.int rr) H' := fun {x' y' H' rr} e h1 h2 h3 h4 h5 => by
      subst e
      refine hQ (.int rr) _ (.int rr) (c + 1) ⟨fun a q => ?_, fun a u q => ?_⟩ (fun a u q => ?_) rfl (hP rr h4 h5)
      · by_cases e : a = b
        · subst e
          exact ⟨_, upd_same, x', y', z, rfl, h1, h2, by omega, hz, hz'⟩
        · rw [upd_ne e]
          obtain ⟨o, k, l⟩ := ok.box a q
          exact ⟨o, k, l.mono (by omega)⟩
      · rw [upd_ne (fun e => by subst e; rw [hb] at q; cases q)]
        exact ok.fix a u q
      · have e : a ≠ b := fun e => by
          subst e
          unfold vis at q
          rw [hb] at q
          cases q
        unfold vis at q ⊢
        rw [upd_ne e]
        exact q
    refine ⟨_, pss_cons (ps_if (pt_cmpR op_ge (pe_ix ix_list (pv 0) pe_int (fun _ _ => rfl)) (pe_op op_pow pe_int pe_int) (nomark _))
        (pss_cons (ps_set (i := 2) sc_law_take.nd rfl (.inl rfl) (pe_op op_mod (pe_callTy call_int1 (by rfl) mi (by decide +kernel) (pa_cons (pe_ix ix_list (pv 0) pe_int (fun _ _ => rfl)) pa_nil)) (pv 1)))
        (pss_cons (ps_asg (pe_op op_fdivW (pe_ix ix_list (pv 0) pe_int (fun _ _ => rfl)) (pv 1)) (pg_sub (pv 0) pe_int set_list))
        (pss_one (ps_ret (pv 2))))) pss_nil)
      (pss_cons (ps_asg (pe_op op_add (pe_ix ix_list (pv 0) pe_int (fun _ _ => rfl)) pe_int) (pg_sub (pv 0) pe_int set_list))
      (pss_cons (ps_set (i := 3) sc_law_take.nd rfl (.inl rfl) (pe_op op_mod (pe_op op_powW (pe_callTy call_int1 (by rfl) mi (by decide +kernel) (pa_cons
          (pe_op op_add (pe_op op_add (pe_op op_mulW (pe_op op_add (pe_ix ix_list (pv 0) pe_int (fun _ _ => rfl)) pe_int) pe_int) (pe_op op_mulW (pe_ix ix_list (pv 0) pe_int (fun _ _ => rfl)) pe_int)) (pe_ix ix_list (pv 0) pe_int (fun _ _ => rfl))) pa_nil)) pe_int) pe_int))
      (pss_cons (ps_set (i := 3) sc_law_take.nd rfl (.inl rfl) (pe_op op_mod (pe_op op_powW (pe_callTy call_int1 (by rfl) mi (by decide +kernel) (pa_cons
          (pe_op op_add (pv 3) (pe_op op_mulW (pe_ix ix_list (pv 0) pe_int (fun _ _ => rfl)) pe_int)) pa_nil)) pe_int) pe_int))
      (pss_one (ps_ret (pe_op op_mod (pe_callTy call_int1 (by rfl) mi (by decide +kernel) (pa_cons (pe_op op_fdivW (pv 3) pe_int) pa_nil)) (pv 1))))))), ?_⟩
    have g0 : ∀ {x' y' : Int}, atI [V.int x', .int y', .int z] 0 = some (.int x') := fun {x' y'} => rfl
    have g1 : ∀ {x' y' : Int}, atI [V.int x', .int y', .int z] 1 = some (.int y') := fun {x' y'} => rfl
    have g2 : ∀ {x' y' : Int}, atI [V.int x', .int y', .int z] 2 = some (.int z) := fun {x' y'} => rfl
    refine ⟨_, rfl, b, _, 0, _, rfl, rfl, SqL.of ho, g0, 10, 18, rfl, rfl, ⟨by decide, by decide, by decide⟩, x, (10 ^ 18 : Int), rfl, rfl, _, rfl, ite2 (fun hge => ?_) (fun hge => ?_)⟩
    · have hge' : (10 : Int) ^ 18 ≤ x := of_decide_eq_true hge
      refine ⟨_, rfl, b, _, 0, _, rfl, rfl, SqL.of ho, g0, .inl ⟨x, rfl, .int n, rfl, x, n, rfl, rfl, hn, ?_⟩⟩
      refine ⟨_, rfl, b, _, 0, _, rfl, rfl, SqL.of ho, g0, .int n, rfl, x, n, rfl, rfl, wide_div (b := 200) hn (pow_lt (by omega) hn') (by decide) (by decide), ?_⟩
      refine ⟨_, rfl, b, _, 0, 0, rfl, rfl, ho, rfl, ?_⟩
      refine ⟨.int (x % n), rfl, ?_⟩
      exact fin (x' := x / n) (y' := y) rfl (Int.ediv_nonneg hx (by omega)) hy (by omega) (Int.emod_nonneg _ (by omega)) (Int.emod_lt_of_pos _ hn)
    · have hge' : ¬ (10 : Int) ^ 18 ≤ x := fun h => hge (decide_eq_true h)
      refine ⟨_, rfl, b, _, 1, _, rfl, rfl, SqL.of ho, g1, y, 1, rfl, rfl, ?_⟩
      refine ⟨_, rfl, b, _, 1, 1, rfl, rfl, ho, rfl, ?_⟩
      have h2 : (upd H b (.lst [V.int x, .int (y + 1), .int z])) b = some (.lst [V.int x, .int (y + 1), .int z]) := upd_same
      have m1 := Int.emod_nonneg (((x + 7) * 69069 + (y + 1) * 40692 + z) ^ 3) (show (2147483647 : Int) ≠ 0 by decide)
      have m2 := Int.emod_lt_of_pos (((x + 7) * 69069 + (y + 1) * 40692 + z) ^ 3) (show (0 : Int) < 2147483647 by decide)
      refine ⟨_, rfl, b, _, 0, _, rfl, rfl, SqL.of h2, g0, x, 7, rfl, rfl, x + 7, 69069, rfl, rfl, wmul (pow_lt (by omega) (by omega)) (by decide), _, rfl, b, _, 1, _, rfl, rfl, SqL.of h2, g1, y + 1, 40692, rfl, rfl, wmul (pow_lt (by omega) (by omega)) (by decide),
        (x + 7) * 69069, (y + 1) * 40692, rfl, rfl, _, rfl, b, _, 2, _, rfl, rfl, SqL.of h2, g2, (x + 7) * 69069 + (y + 1) * 40692, z, rfl, rfl, .inl ⟨_, rfl, _, 3, rfl, rfl, take_wide hx (by omega) (by omega) (by omega) hz hz', _, 2147483647, rfl, rfl, (by show (0 : Int) < 2147483647; decide), ?_⟩⟩
      refine ⟨_, rfl, _, rfl, b, _, 1, _, rfl, rfl, SqL.of h2, g1, y + 1, 17389, rfl, rfl, wmul (pow_lt (by omega) (by omega)) (by decide), _, (y + 1) * 17389, rfl, rfl, .inl ⟨_, rfl, _, 3, rfl, rfl, take_wide2 m1 m2 (by omega) (by omega), _, 2147483399, rfl, rfl, (by show (0 : Int) < 2147483399; decide), ?_⟩⟩
      refine ⟨_, rfl, _, 64, rfl, rfl, ⟨by decide, by decide⟩, .inl ⟨_, rfl, .int n, rfl, _, n, rfl, rfl, hn, ?_⟩⟩
      exact fin (x' := x) (y' := y + 1) rfl hx (by omega) (by omega) (Int.emod_nonneg _ (by omega)) (Int.emod_lt_of_pos _ hn)
end Q
end

section
set_option Elab.async false
set_option linter.all false
set_option maxRecDepth 100000
set_option maxHeartbeats 3900000
namespace Q
open PySem L2
variable {Z : Zt} {ρ : Rho} {σ : St} {H H' : Hp} {O : Out} {P : D → Nat → Prop} {e a b : Expr} {pos p apos : Pos} {X : Cx} {k : Nat} {f C : Addr} {F : Fw} {x m : Str} {es : List Expr}

/-! ### objects made -/
/-- what a maker does: the arguments' data, the made datum -/
def SpMk (T : Tab) (C : Addr) (F : Fw) (mk : Addr → Hp → D → Prop) : Sp := fun vs H Q E => ∃ (B : Bm) (c : Nat) (ds : List D) (P : D → Nat → Prop) (R : Er → Nat → Prop) (x dx : Addr) (ws : List V), vs = .ref x :: ws ∧ H x = some (.ins C dx []) ∧ B x = none ∧ okW B c H ∧
  Paired (val T B (vis B H)) ds ws ∧ F ds c P R ∧
  (∀ H' d c', okW B c' H' → (∀ a o, vis B H a = some o → a ≠ x → vis B H' a = some o) → mk x (vis B H') d → P d c' → Q .non H') ∧
  (∀ e cls dx H' c', okW B c' H' → (∀ a o, vis B H a = some o → a ≠ x → vis B H' a = some o) → erRel T (vis B H') e cls dx → R e c' → E cls dx H')
theorem runMk {pins : List (Addr × Obj)} {s : Shared} {sp : Sp} {W : WX} {Q : VK} {us : List Value} {vs : List V} (M : Mk X.K C f) (G : FnG X.prog X.w X.K X.mg X.base (L2.CX X.prog X.w) k f sp) (hr : RoomG (k + 1) X.A) (tk : Takes X W)
    (I : Inv X pins σ H s) (r : Vals vs us)
    (h : ∀ x dx, H x = none → H dx = none → dx ≠ x → sp (.ref x :: vs) (upd (upd H dx (.own x)) x (.ins C dx [])) (fun v H2 => v = .non ∧ Q (.ref x) H2) (fun c d H' => W c d σ H')) : wpAny (model X.prog X.w) X.A (call (.ref C) us) (EP X pins σ Q) X.xe s := by
  have I2 := Inv.made (C := C) I; have hq := h (s.heap.objs.size + 1) s.heap.objs.size (I.hok.fresh (Nat.le_succ _)) (I.hok.fresh (Nat.le_refl _)) (Nat.ne_of_lt (Nat.lt_succ_self _))
  have g := G _ X.stack _ _ (Value.ref (s.heap.objs.size + 1) :: us) (V.ref (s.heap.objs.size + 1) :: vs) _ _ (hr.make C us []) (I2.env0.make C us []) (.cons rfl r) hq
  refine wpAny_call (make_map (f := f) I.kIn M.makes M.init (beq_iff_eq.mp M.fn) (codeAny_mono g ?_))
  intro r s' hq'
  match r, hq' with
  | .error er, hq' => exact tk er s' (XE.of_call I2 (fun _ _ _ z => z) hq')
  | .ok (.ret u), hq' =>
    obtain ⟨v, H3, I3, rv, ev, q3⟩ := I2.after hq'
    subst ev
    exact ⟨rv, V.ref (s.heap.objs.size + 1), H3, I3, rfl, q3⟩
def tMakeW (X : Cx) (C : Addr) (es : List Expr) (sp : Sp) (W : WX) : TE := fun σ H Q => taAny X es σ H fun vs H1 => ∀ x dx, H1 x = none → H1 dx = none → dx ≠ x →
  sp (.ref x :: vs) (upd (upd H1 dx (.own x)) x (.ins C dx [])) (fun v H2 => v = .non ∧ Q (.ref x) H2) (fun c d H' => W c d σ H')
theorem pe_makeW {sp : Sp} {W : WX} (M : Mk X.K C f) (G : FnG X.prog X.w X.K X.mg X.base (L2.CX X.prog X.w) k f sp) (hr : RoomG (k + 1) X.A) (tk : Takes X W) (hg : Gl X x) (hm : X.mg x = some (.ref C))
    (hdb : (x == ("__debug__" : Str)) = false := by decide)
    (he : starEach (e :: es) X.env = (false, eval e X.env) :: starEach es X.env := by rfl)
    (hpl : (backTo pos (starEach es X.env)).any (·.1) = false := by rfl) :
    PE X (.Call (.Name x p) (e :: es) [] pos) (tMakeW X C (e :: es) sp W) := ⟨fun pins s σ H Q I h => by
  obtain ⟨t, ha, h⟩ := h
  have g := ha.run pos pins s σ H _ I h
  exact wpAny_Call_Name_kw (ld_glob I hg hm (PySem.W.callWith_K (h₀ := X.base) I.ok.mod.kin M.kp (thn g fun us s1 ⟨vs, H1, I1, r, q⟩ => ⟨I1.kIn, runMk M G hr tk I1 r q⟩) he hpl) hdb)⟩
/-- the promise of a maker at a state -/
theorem mk_at {vs : List V} {ds : List D} {Q : VK} {mk : Addr → Hp → D → Prop} {y dy : Addr} (S : SR Z ρ σ H) (r : Paired (val Z.T ρ.B (vis ρ.B H)) ds vs) (h : F ds ρ.c P (fun er c' => Z.R er (ρ.wc c'))) (k : Post Z ρ σ H P Q)
    (hy : H y = none) (hdy : H dy = none) (hn : dy ≠ y) (hmk : ∀ G d, mk y G d → rep Z.T G d (.ref y)) :
    SpMk Z.T C F mk (.ref y :: vs) (upd (upd H dy (.own y)) y (.ins C dy [])) (fun v H2 => v = .non ∧ Q (.ref y) H2) (fun c d H' => Z.W c d σ H') := by
  have e1 : Same H (upd (upd H dy (.own y)) y (.ins C dy [])) := fun a o q => by
    rw [upd_ne (ne_of_none q hy), upd_ne (ne_of_none q hdy)]
    exact q
  have by_ := S.ok.fresh hy
  have keep : ∀ {H' : Hp}, (∀ a o, vis ρ.B (upd (upd H dy (.own y)) y (.ins C dy [])) a = some o → a ≠ y → vis ρ.B H' a = some o) → Same (vis ρ.B H) (vis ρ.B H') := fun {H'} z a o q => z a o (Same.vis_ e1 _ _ q) (ne_of_none (vis_some q) hy)
  refine ⟨ρ.B, ρ.c, ds, P, _, y, dy, vs, rfl, upd_same, by_, S.ok.same e1, pr_mono (Same.vis_ e1) r, h, fun H' d c' ok z hm hp => ⟨rfl, ?_⟩, fun er cls dx H' c' ok z hr hp => ⟨ρ.wc c', er, S.call ok (keep z), hr, hp⟩⟩
  exact k (.ref y) H' d c' (S.call ok (keep z)) (keep z) (.of (hmk _ _ hm)) hp
theorem ev_make {mk : Addr → Hp → D → Prop} (ok : Zok Z) (M : Mk Z.X.K C f) (G : FnG Z.X.prog Z.X.w Z.X.K Z.X.mg Z.X.base (L2.CX Z.X.prog Z.X.w) k f (SpMk Z.T C F mk)) (hr : RoomG (k + 1) Z.X.A) (hg : Gl Z.X x) (hm : Z.X.mg x = some (.ref C))
    (hmk : ∀ y G d, mk y G d → rep Z.T G d (.ref y)) (h : EA Z ρ (e :: es) fun ds c => F ds c P (fun er c' => Z.R er (ρ.wc c')))
    (hdb : (x == ("__debug__" : Str)) = false := by decide)
    (he : starEach (e :: es) Z.X.env = (false, eval e Z.X.env) :: starEach es Z.X.env := by rfl) (hpl : (backTo pos (starEach es Z.X.env)).any (·.1) = false := by rfl) :
    EV Z ρ (.Call (.Name x p) (e :: es) [] pos) P :=
  ev_of (pe_makeW M G hr ok.tk hg hm hdb he hpl) fun σ H Q S k => ea_any h S fun vs H1 ds c S1 e1 r h1 y dy hy hdy hn => mk_at (ρ := ρ.wc c) S1 r h1 (k.from (c := c) e1) hy hdy hn (hmk y)

/-! ### methods, properties, operators -/
/-- o is an instance of the class at C, its fields known not to hide a method -/
def isIns (T : Tab) (C : Addr) (d : D) (m : Str) : Prop := ∀ G v, rep T G d v → ∃ a dx fs, v = .ref a ∧ G a = some (.ins C dx fs) ∧ fs.lookup m = none
def tMethW (X : Cx) (C : Addr) (m : Str) (o : Expr) (es : List Expr) (sp : Sp) (W : WX) : TE := fun σ H Q => tAny X o σ H fun x H1 => ∃ a dx fs, x = .ref a ∧ H1 a = some (.ins C dx fs) ∧ fs.lookup m = none ∧
  taAny X es σ H1 fun vs H2 => sp (x :: vs) H2 Q (fun c d H' => W c d σ H')
theorem pe_methW {pl : Sem Bool} {sp : Sp} {W : WX} {o : Expr} (c : Cls X.K C) (hm : Meth X.K C m f) (G : FnG X.prog X.w X.K X.mg X.base (L2.CX X.prog X.w) k f sp) (hr : RoomG k X.A) (tk : Takes X W)
    (hst : starEach (e :: es) X.env = (false, eval e X.env) :: starEach es X.env := by rfl)
    (hpl : (backTo pos (starEach es X.env)).any (·.1) = false := by rfl)
    (ht : eval (.Call (.Attribute o m apos)
      (e :: es) [] pos) X.env = (do
      let ov ← eval o X.env
      standAt apos.atName
      let (f, first) ← holding [ov]
        (getMethod ov m pl)
      callWith pos f first (backTo pos (starEach (e :: es) X.env)) (backToKw pos (keywordEach [] X.env))) := by rfl) : PE X (.Call (.Attribute o m apos) (e :: es) [] pos) (tMethW X C m o (e :: es) sp W) := ⟨fun pins s σ H Q I h => by
  refine PySem.W.methodCall_KW (pl := pl) (thn (pe_any.run pins s σ H _ I h) fun u s1 ⟨x, H1, I1, rx, a, dx, fs, ex, ea, l, q⟩ => ?_) ht
  subst ex
  cases rx
  refine getmeth_ok I1 ea c hm l ?_; exact PySem.W.callWith_K (first := [.ref a]) (h₀ := X.base) I.ok.mod.kin hm.kp (thn (pa_any.run pos pins s1 σ H1 _ I1 q) fun us s2 ⟨vs, H2, I2, r, q2⟩ => ⟨I2.kIn, runS (us := .ref a :: us) (vs := .ref a :: vs) G hr tk I2 (.cons rfl r) q2⟩) hst hpl⟩
theorem ev_meth {pl : Sem Bool} {o : Expr} (ok : Zok Z) (c : Cls Z.X.K C) (hm : Meth Z.X.K C m f) (G : Does Z k f F) (hr : RoomG k Z.X.A)
    (h : EV Z ρ o fun d c1 => plain d = true ∧ isIns Z.T C d m ∧ EA Z (ρ.wc c1) (e :: es) fun ds c2 => F (d :: ds) c2 P (fun er c' => Z.R er (ρ.wc c')))
    (hst : starEach (e :: es) Z.X.env = (false, eval e Z.X.env) :: starEach es Z.X.env := by rfl) (hpl : (backTo pos (starEach es Z.X.env)).any (·.1) = false := by rfl)
    (ht : eval (.Call (.Attribute o m apos) (e :: es) [] pos) Z.X.env = (do
      let ov ← eval o Z.X.env
      standAt apos.atName
      let (f, first) ← holding [ov]
        (getMethod ov m pl)
      callWith pos f first (backTo pos (starEach (e :: es) Z.X.env)) (backToKw pos (keywordEach [] Z.X.env))) := by rfl) : EV Z ρ (.Call (.Attribute o m apos) (e :: es) [] pos) P :=
  ev_of (pe_methW c hm G hr ok.tk hst hpl ht) fun σ H Q S k => ev_any h S fun v H1 d c1 S1 e1 r ⟨hp, hi, h2⟩ => by
    obtain ⟨a, dx, fs, rfl, ha, hl⟩ := hi _ _ (val_rep r hp)
    refine ⟨a, dx, fs, rfl, vis_some ha, hl, ea_any h2 S1 fun vs H2 ds c2 S2 e2 r2 h3 => ?_⟩
    exact sp_at (ρ := ρ.wc c2) S2 (.cons (r.mono e2) r2) h3 (k.from (c := c2) fun _ _ q => e2 _ _ (e1 _ _ q))
def tMethW0 (X : Cx) (C : Addr) (m : Str) (o : Expr) (sp : Sp) (W : WX) : TE := fun σ H Q => tAny X o σ H fun x H1 => ∃ a dx fs, x = .ref a ∧ H1 a = some (.ins C dx fs) ∧ fs.lookup m = none ∧ sp [x] H1 Q (fun c d H' => W c d σ H')
theorem pe_methW0 {pl : Sem Bool} {sp : Sp} {W : WX} {o : Expr} (c : Cls X.K C) (hm : Meth X.K C m f) (G : FnG X.prog X.w X.K X.mg X.base (L2.CX X.prog X.w) k f sp) (hr : RoomG k X.A) (tk : Takes X W)
    (ht : eval (.Call (.Attribute o m apos)
      [] [] pos) X.env = (do
      let ov ← eval o X.env
      standAt apos.atName
      let (f, first) ← holding [ov]
        (getMethod ov m pl)
      callWith pos f first (backTo pos (starEach [] X.env)) (backToKw pos (keywordEach [] X.env))) := by rfl) : PE X (.Call (.Attribute o m apos) [] [] pos) (tMethW0 X C m o sp W) := ⟨fun pins s σ H Q I h => by
  refine PySem.W.methodCall_KW (pl := pl) (thn (pe_any.run pins s σ H _ I h) fun u s1 ⟨x, H1, I1, rx, a, dx, fs, ex, ea, l, q⟩ => ?_) ht
  subst ex
  cases rx
  exact getmeth_ok I1 ea c hm l (PySem.W.callWith_K0 (first := [.ref a]) I1.kIn hm.kp (runS (us := [.ref a]) (vs := [.ref a]) G hr tk I1 (.cons rfl .nil) q))⟩
theorem ev_meth0 {pl : Sem Bool} {o : Expr} (ok : Zok Z) (c : Cls Z.X.K C) (hm : Meth Z.X.K C m f) (G : Does Z k f F) (hr : RoomG k Z.X.A)
    (h : EV Z ρ o fun d c1 => plain d = true ∧ isIns Z.T C d m ∧ F [d] c1 P (fun er c' => Z.R er (ρ.wc c')))
    (ht : eval (.Call (.Attribute o m apos) [] [] pos) Z.X.env = (do
      let ov ← eval o Z.X.env
      standAt apos.atName
      let (f, first) ← holding [ov]
        (getMethod ov m pl)
      callWith pos f first (backTo pos (starEach [] Z.X.env)) (backToKw pos (keywordEach [] Z.X.env))) := by rfl) : EV Z ρ (.Call (.Attribute o m apos) [] [] pos) P :=
  ev_of (pe_methW0 c hm G hr ok.tk ht) fun σ H Q S k => ev_any h S fun v H1 d c1 S1 e1 r ⟨hp, hi, h2⟩ => by
    obtain ⟨a, dx, fs, rfl, ha, hl⟩ := hi _ _ (val_rep r hp)
    exact ⟨a, dx, fs, rfl, vis_some ha, hl, sp_at (ρ := ρ.wc c1) S1 (.cons r .nil) h2 (k.from (c := c1) e1)⟩
/-- no raising end is wished -/
theorem sp_at0 {vs : List V} {ds : List D} {Q : VK} (S : SR Z ρ σ H) (r : Paired (val Z.T ρ.B (vis ρ.B H)) ds vs) (h : F ds ρ.c P (fun _ _ => False)) (k : Post Z ρ σ H P Q) : SpW Z.T F vs H Q E0 :=
  ⟨ρ.B, ρ.c, ds, P, _, S.ok, r, h, fun v H' d c' ok s r' p => k v H' d c' (S.call ok s) s r' p, fun _ _ _ _ _ _ _ _ z => z.elim⟩
/-- e.f, a property -/
theorem ev_prop {q : Addr} {fd : FuncData} {ps : List Str} (c : Cls Z.X.K C) (hp : PropOf Z.X.K C m q f) (G : FnOk Z.X.prog Z.X.w Z.X.K Z.X.mg Z.X.base (L2.CX Z.X.prog Z.X.w) k f fd ps (SpW Z.T F)) (hr : RoomG (k + 1) Z.X.A) (hb : Binds Z.X.K fd ps [])
    (h : EV Z ρ e fun d c => plain d = true ∧ isIns Z.T C d m ∧ F [d] c P (fun _ _ => False)) (hab : attributeBase e m Z.X.env (eval e Z.X.env) = eval e Z.X.env := by rfl) : EV Z ρ (.Attribute e m pos) P :=
  ev_of (pe_prop (E := E0) pe_any c hp G hr.r hb .nil (passL (X := Z.X.nox)) hab) fun σ H Q S k => ev_any h S fun v H1 d c1 S1 e1 r ⟨hp, hi, h2⟩ => by
    obtain ⟨a, dx, fs, rfl, ha, hl⟩ := hi _ _ (val_rep r hp)
    exact ⟨a, dx, fs, rfl, vis_some ha, sp_at0 (ρ := ρ.wc c1) S1 (.cons r .nil) h2 (k.from (c := c1) e1)⟩
/-- e.f, a field -/
theorem ev_fld (hK : Z.X.K = Z.T.K) (c : Cls Z.X.K C) (n : NoAttr Z.X.K C m)
    (h : EV Z ρ e fun d c => plain d = true ∧ ∃ d', plain d' = true ∧ (∀ G v, rep Z.T G d v → ∃ a dx fs w, v = .ref a ∧ G a = some (.ins C dx fs) ∧ fs.lookup m = some w ∧ rep Z.T G d' w) ∧ P d' c) (hab : attributeBase e m Z.X.env (eval e Z.X.env) = eval e Z.X.env := by rfl) : EV Z ρ (.Attribute e m pos) P :=
  ev_of (pe_fld pe_any hab) fun σ H Q S k => ev_any h S fun v H1 d c1 S1 e1 r ⟨hp, d', hp', hi, h2⟩ => by
    obtain ⟨a, dx, fs, w, rfl, ha, hl, hw⟩ := hi _ _ (val_rep r hp)
    exact ⟨a, C, dx, fs, w, rfl, vis_some ha, c, n, hl, (k.from (c := c1) e1).here S1 h2 (.of hw)⟩
theorem run0 {pins : List (Addr × Obj)} {s : Shared} {sp : Sp} {Q : VK} {us : List Value} {vs : List V} (G : FnG X.prog X.w X.K X.mg X.base (L2.CX X.prog X.w) k f sp) (hr : RoomG k X.A)
    (I : Inv X pins σ H s) (r : Vals vs us) (h : sp vs H Q E0) : wpAny (model X.prog X.w) X.A (call (.ref f) us) (EP X pins σ Q) X.xe s := runS (W := fun _ _ _ _ => False) G hr takes0 I r h
/-- the result is not NotImplemented -/
theorem back {pins : List (Addr × Obj)} {Q : VK} {s : Shared} {t : Sem Value} (h : wpAny (model X.prog X.w) X.A t (EP X pins σ Q) X.xe s) : wpAny (model X.prog X.w) X.A t (PySem.W.CmpBack (EP X pins σ Q)) X.xe s :=
  wpAny_mono h (fun _ _ z => SlX.cmpback (z.choose_spec.choose_spec.2.1) z) fun _ _ z => z
/-- x op y, both instances of C -/
def rBinC (C : Addr) (sp : Sp) : R2 := fun x y H Q => ∃ a dx fs b dy gs, x = .ref a ∧ y = .ref b ∧ H a = some (.ins C dx fs) ∧ H b = some (.ins C dy gs) ∧ sp [x, y] H Q E0
theorem op_binC {op : Operator} {sp : Sp} (G : FnG X.prog X.w X.K X.mg X.base (L2.CX X.prog X.w) k f sp) (hr : RoomG k X.A) (hs : PySem.W.findIn X.K (.ref C) (PySem.dunder op.info.2) = some (some (.ref f))) (hf : PySem.W.isFn X.K (.ref f) = true)
    (hc : PySem.W.selfFirst X.K C = true) : OpR X (binaryOp op) (rBinC C sp) := by
  intro pins s σ H x y v u Q I rx ry h; obtain ⟨a, dx, fs, b, dy, gs, rfl, rfl, ha, hb, q⟩ := h
  cases rx
  cases ry
  obtain ⟨mA, J, _⟩ := ins_get I.hok ha; obtain ⟨mB, J', _⟩ := ins_get I.hok hb
  obtain ⟨od, J, _⟩ := J.look
  obtain ⟨od', J', _⟩ := J'.look; obtain ⟨m, hF⟩ := I.fr
  exact PySem.W.binop_K (op := op) hF I.ok.mod.kin J J'.type hc hs hf (back (run0 (us := [.ref a, .ref b]) (vs := [.ref a, .ref b]) G hr I (.cons rfl (.cons rfl .nil)) q))
/-- x op n, x an instance of C, n an int -/
def rBinI (C : Addr) (sp : Sp) : R2 := fun x y H Q => ∃ a dx fs n, x = .ref a ∧ y = .int n ∧ H a = some (.ins C dx fs) ∧ sp [x, y] H Q E0
theorem op_binI {op : Operator} {sp : Sp} {fo ro rc : Option Value} (G : FnG X.prog X.w X.K X.mg X.base (L2.CX X.prog X.w) k f sp) (hr : RoomG k X.A) (hs : PySem.W.findIn X.K (.ref C) (PySem.dunder op.info.2) = some (some (.ref f))) (hf : PySem.W.isFn X.K (.ref f) = true)
    (hc : PySem.W.selfFirst X.K C = true) (h0 : PySem.W.findIn X.K (.ref C) (PySem.dunderR op.info.2) = some rc) (hp : rc = none ∨ ∃ g : Addr, rc = some (.ref g))
    (h1 : PySem.W.findIn X.K (.type "int") (PySem.dunder op.info.2) = some fo) (h2 : PySem.W.findIn X.K (.type "int") (PySem.dunderR op.info.2) = some ro) (hsub : PySem.W.subIn X.K (.type "int") (.ref C) = some false) : OpR X (binaryOp op) (rBinI C sp) := by
  intro pins s σ H x y v u Q I rx ry h; obtain ⟨a, dx, fs, n, rfl, rfl, ha, q⟩ := h
  cases rx
  obtain ⟨t, rfl⟩ := ry
  obtain ⟨mA, J, _⟩ := ins_get I.hok ha; obtain ⟨od, J, _⟩ := J.look
  obtain ⟨m, hF⟩ := I.fr
  exact PySem.W.ksp_binT (op := op) (T := "int") hF I.ok.mod.kin J rfl hc hs hf h0 hp h1 h2 hsub (back (run0 (us := [.ref a, .int n t]) (vs := [.ref a, .int n]) G hr I (.cons rfl (.cons ⟨t, rfl⟩ .nil)) q))
/-- -x -/
def rNegC (C : Addr) (sp : Sp) : V → Hp → VK → Prop := fun x H Q => ∃ a dx fs, x = .ref a ∧ H a = some (.ins C dx fs) ∧ sp [x] H Q E0
theorem un_negC {sp : Sp} (G : FnG X.prog X.w X.K X.mg X.base (L2.CX X.prog X.w) k f sp) (hr : RoomG k X.A) (hs : PySem.W.findIn X.K (.ref C) "__neg__" = some (some (.ref f))) (hf : PySem.W.isFn X.K (.ref f) = true) : UnR X (unaryOp .USub) (rNegC C sp) := by
  intro pins s σ H x v Q I rx h
  obtain ⟨a, dx, fs, rfl, ha, q⟩ := h; cases rx
  obtain ⟨mA, J, _⟩ := ins_get I.hok ha; obtain ⟨od, J, _⟩ := J.look
  obtain ⟨m, hF⟩ := I.fr
  exact PySem.W.ksp_neg hF I.ok.mod.kin J hs hf (run0 (us := [.ref a]) (vs := [.ref a]) G hr I (.cons rfl .nil) q)
/-- what type() tells of a value -/
inductive YT (H : Hp) : V → Value → Prop
  | int (i : Int) : YT H (.int i) (.type "int")
  | bl (i : Bool) : YT H (.bl i) (.type "bool")
  | str (i : Str) : YT H (.str i) (.type "str")
  | non : YT H .non (.type "NoneType")
  | ins {a C dx fs} (h : H a = some (.ins C dx fs)) : YT H (.ref a) (.ref C)
  | lst {a xs} (h : H a = some (.lst xs)) : YT H (.ref a) (.type "list")
  | tup {a xs} (h : H a = some (.tup xs)) : YT H (.ref a) (.type "tuple")
  | dK {a xs} (h : H a = some (.dK xs)) : YT H (.ref a) (.type "dict")
theorem YT.looks {pins : List (Addr × Obj)} {s : Shared} {y : V} {u t : Value} (I : Inv X pins σ H s) (r : RelV y u) (h : YT H y t) : PySem.W.Looks (model X.prog X.w) s.heap (typeOf u) t := by
  cases h with
  | int i =>
    obtain ⟨t, rfl⟩ := r
    exact fun A Q E s k q => wpAny_pure q
  | bl i =>
    cases r
    exact fun A Q E s k q => wpAny_pure q
  | str i =>
    obtain ⟨t, rfl⟩ := r
    exact fun A Q E s k q => wpAny_pure q
  | non =>
    cases r
    exact fun A Q E s k q => wpAny_pure q
  | ins h =>
    cases r
    obtain ⟨mA, J, _⟩ := ins_get I.hok h
    obtain ⟨od, J, _⟩ := J.look
    exact J.type
  | lst h =>
    cases r
    obtain ⟨_, its, n, _, e⟩ := I.hok _ _ h
    exact fun A Q E s k q => wpAny_typeOf_ref (k _ _ e) q
  | tup h =>
    cases r
    obtain ⟨_, its, _, p⟩ := I.hok _ _ h
    obtain ⟨o, e, c, _⟩ := p
    exact fun A Q E s k q => wpAny_typeOf_ref (k _ _ e) (by rw [c]; exact q)
  | dK h =>
    cases r
    obtain ⟨_, _, vs, _, o, es, ep, e, c, _⟩ := I.hok _ _ h
    exact fun A Q E s k q => wpAny_typeOf_ref (k _ _ e) (by rw [c.1]; exact q)
/-- x op y, a comparison, x an instance of C; y any whose type is known -/
def rCmpC (K : PySem.W.Frag) (C : Addr) (sp : Sp) : R2 := fun x y H Q => ∃ a dx fs, x = .ref a ∧ H a = some (.ins C dx fs) ∧ (∃ t, YT H y t ∧ PySem.W.notFirst K C t = true) ∧ sp [x, y] H Q E0
theorem op_cmpC {op : CmpOp} {sp : Sp} (hop : ∀ a b, compareOp op a b = richCompare op a b) (G : FnG X.prog X.w X.K X.mg X.base (L2.CX X.prog X.w) k f sp) (hr : RoomG k X.A) (hs : PySem.W.findIn X.K (.ref C) (cmpInfo op).2.1 = some (some (.ref f)))
    (hf : PySem.W.isFn X.K (.ref f) = true) : OpR X (compareOp op) (rCmpC X.K C sp) := by
  intro pins s σ H x y v u Q I rx ry h; obtain ⟨a, dx, fs, rfl, ha, ⟨t, ht, hn⟩, q⟩ := h
  cases rx
  obtain ⟨mA, J, _⟩ := ins_get I.hok ha; obtain ⟨od, J, _⟩ := J.look
  obtain ⟨m, hF⟩ := I.fr
  rw [hop]
  exact PySem.W.cmp_K (op := op) hr.r.units0 hF I.ok.mod.kin J (ht.looks I ry) hn hs hf (back (run0 (us := [.ref a, u]) (vs := [.ref a, y]) G hr I (.cons rfl (.cons ry .nil)) q))
end Q
end

section
set_option Elab.async false
set_option linter.all false
set_option maxRecDepth 100000
set_option maxHeartbeats 3900000
namespace Q
open L2 PySem PySem.Spec PyProof.Rows

section
variable {M : Model} {prog : Program} {w : World} {A : Around} {E : Value → Shared → Prop} {s : Shared} {K : PySem.W.Frag} {x C f : Addr} {ox : Obj} {od : Option Obj} {b : Value}
/-- the bound object.__ne__ of an instance whose class has none of its own -/
theorem ne_bound {R : Option Value → Shared → Prop} {as : List Value} (X : K.In s.heap) (I : PySem.W.InstAt s.heap x ox C od) (hs : PySem.W.findIn K (.ref C) "__ne__" = some (some (.builtin "object.__ne__")))
    (h : wpAny M A (call (.builtin "object.__ne__") (.ref x :: as)) (fun v => R (some v)) E s) : wpAny M A (callSpecialIfBound? (.ref x) "__ne__" as) R E s := by
  simp only [callSpecialIfBound?, bindSpecialIfBound?]; have last : wpAny M A (call (.builtin "object.__ne__") ([.ref x] ++ as) >>= fun v => pure (some v)) R E s :=
    wpAny_bind (wpAny_mono h (fun v s' q => wpAny_pure q) fun _ _ q => q)
  refine wpAny_holding (wpAny_bind (wpAny_bind (wpAny_bind (I.type.here (PySem.W.Looks.here (PySem.W.looks_findIn X hs) ?_)))))
  refine wpAny_bind (wpAny_askSetting (wpAny_ite ?_)); split
  case isTrue => exact wpAny_bind (wpAny_of_eq (F.cmp_object.ne.bind _) (wpAny_pure last))
  case isFalse => exact wpAny_tryCatch (wpAny_bind (wpAny_of_eq (F.cmp_object.ne.bind _) (wpAny_pure last)))
/-- its body: the opposite of the own == -/
theorem ne_entry {R : Fin → Shared → Prop} (hu : A.units < cLine) (X : K.In s.heap) (I : PySem.W.InstAt s.heap x ox C od) (hs : PySem.W.findIn K (.ref C) "__eq__" = some (some (.ref f))) (hf : PySem.W.isFn K (.ref f) = true)
    (h : wpAny M A (call (.ref f) [.ref x, b]) (fun v s' => ∃ k, v = .bool k ∧ R (.done (.ret (.bool (!k)))) s') E s) : wpAny M A (Builtin.«object.__ne__» ⟨[.ref x, b], []⟩) R E s := by
  unfold Builtin.«object.__ne__»; refine wpAny_bind (m := slotArgs _ _ _) (wpAny_pure ?_)
  refine wpAny_bind (wpAny_cRoomFor hu ?_); refine wpAny_bind (PySem.W.ifBound_K X I hs hf (wpAny_mono h (fun v s' hv => ?_) fun _ _ e => e))
  obtain ⟨k, hk, q⟩ := hv
  subst hk
  refine wpAny_bind (wpAny_truthy_bool ?_)
  exact wpAny_pure q
theorem ne_own {R : Value → Shared → Prop} {t : Value} {L : Addr} {h₀ : Heap} {m : Str → Option Value} (hu : A.units + 1 < cLine) (Fm : Fr h₀ L s.heap m) (X₀ : K.In h₀) (I : PySem.W.InstAt s.heap x ox C od) (hb : PySem.W.Looks (model prog w) s.heap (typeOf b) t)
    (hn : PySem.W.notFirst K C t = true) (hm : PySem.W.mroIn K C (.type "object") = some true) (hs : PySem.W.findIn K (.ref C) "__ne__" = some (some (.builtin "object.__ne__")))
    (he : PySem.W.findIn K (.ref C) "__eq__" = some (some (.ref f))) (hf : PySem.W.isFn K (.ref f) = true)
    (h : wpAny (model prog w) A.in1 (call (.ref f) [.ref x, b]) (fun v s' => ∃ k, v = .bool k ∧ R (.bool (!k)) s') E s) : wpAny (model prog w) A (richCompare .NotEq (.ref x) b) R E s := by
  have X := X₀.keeps Fm.keep
  have ask : wpAny (model prog w) A (call (.builtin "object.__ne__") [.ref x, b]) (fun v s' => ∃ k, v = .bool k ∧ R (.bool k) s') E s := by
    have body := ne_entry (R := fun fin s' => ∃ k, fin = .done (.ret (.bool k)) ∧ R (.bool k) s') (by show A.units + 1 < cLine; exact hu) X I he hf (wpAny_mono h (fun v s' ⟨k, hk, q⟩ => ⟨k, hk, !k, rfl, q⟩) fun _ _ e => e)
    refine wpAny_call (codeAny_call_builtin F.cmp_object.ne.plain F.cmpEntry_ne (PySem.W.check_slot F.cmpKind_ne F.cmpSplit_ne (I.type.andThen (PySem.W.looks_mroIn X hm)) (F.cmpArgs_ne _ _) ?_))
    refine wpAny_mono body (fun fin s' z => ?_) fun _ _ e => e
    obtain ⟨k, rfl, q⟩ := z
    exact ⟨k, rfl, q⟩
  have one : wpAny (model prog w) A (tryCompare (.ref x) "__ne__" b) (fun r s' => ∃ v, r = some v ∧ R v s') E s := by
    unfold tryCompare
    refine wpAny_bind (ne_bound X I hs (wpAny_mono ask (fun v s' z => ?_) fun _ _ e => e))
    obtain ⟨k, hk, q⟩ := z
    subst hk
    exact wpAny_pure ⟨_, rfl, q⟩
  simp only [richCompare, cmpInfo_NotEq, oneThing_ref]; refine wpAny_holding (wpAny_bind (wpAny_cRoomFor (by omega) (wpAny_bind (I.type.here (wpAny_bind (hb.here ?_))))))
  split
  case isTrue q =>
    have sub : PySem.W.subIn K t (.ref C) = some false := by
      cases Bool.or_eq_true_iff.mp hn with
      | inl z =>
        rw [beq_iff_eq.mp z] at q
        simp at q
      | inr z => exact beq_iff_eq.mp z
    refine wpAny_bind ((PySem.W.looks_subIn X sub).here ?_)
    simp only [Bool.false_eq_true, if_false]; refine wpAny_bind (wpAny_mono one (fun r s' z => ?_) fun _ _ e => e)
    obtain ⟨v, hv, q⟩ := z
    subst hv
    exact wpAny_pure q
  case isFalse q =>
    refine wpAny_bind (wpAny_pure ?_); simp only [Bool.false_eq_true, if_false]
    refine wpAny_bind (wpAny_mono one (fun r s' z => ?_) fun _ _ e => e); obtain ⟨v, hv, q⟩ := z
    subst hv
    exact wpAny_pure q
end
section
variable {X : Cx} {k : Nat} {f C : Addr}
/-- x != y by the own == -/
def rNeC (K : PySem.W.Frag) (C : Addr) (sp : Sp) : R2 := fun x y H Q => ∃ a dx fs, x = .ref a ∧ H a = some (.ins C dx fs) ∧ (∃ t, YT H y t ∧ PySem.W.notFirst K C t = true) ∧ sp [x, y] H (fun v H' => ∃ k, v = .bl k ∧ Q (.bl (!k)) H') E0
theorem op_neC {sp : Sp} (G : FnG X.prog X.w X.K X.mg X.base (L2.CX X.prog X.w) k f sp) (hr : RoomG (k + 1) X.A) (hm : PySem.W.mroIn X.K C (.type "object") = some true) (hs : PySem.W.findIn X.K (.ref C) "__ne__" = some (some (.builtin "object.__ne__")))
    (he : PySem.W.findIn X.K (.ref C) "__eq__" = some (some (.ref f))) (hf : PySem.W.isFn X.K (.ref f) = true) : OpR X (compareOp .NotEq) (rNeC X.K C sp) := by
  intro pins s σ H x y v u Q I rx ry h; obtain ⟨a, dx, fs, rfl, ha, ⟨t, ht, hn⟩, q⟩ := h
  cases rx
  obtain ⟨mA, J, _⟩ := ins_get I.hok ha; obtain ⟨od, J, _⟩ := J.look
  obtain ⟨m, hF⟩ := I.fr
  show wpAny (model X.prog X.w) X.A (richCompare .NotEq (.ref a) u) (EP X pins σ Q) X.xe s
  have room := hr.r.units
  refine ne_own (by omega) hF I.ok.mod.kin J (ht.looks I ry) hn hm hs he hf ?_
  have g := G X.A.in1 X.stack s H [.ref a, u] [.ref a, y] _ _ hr.in1 I.env0.in1 (.cons rfl (.cons ry .nil)) q
  refine wpAny_call (codeAny_mono g ?_)
  intro r s' hq
  match r, hq with
  | .error er, hq =>
    obtain ⟨_, _, _, _, _, _, _, _, _, _, _, _, z⟩ := hq
    exact z.elim
  | .ok (.ret z), hq =>
    obtain ⟨v, H', I', rv, k, hk, qk⟩ := I.after hq
    subst hk
    cases rv
    exact ⟨k, rfl, .bl (!k), H', I', rfl, qk⟩
end
end Q
end

section
/-! R1: quotients, by core Lean's Rat. -/
namespace Q
/-- the sign is the bottom's -/
def sgd (u d : Int) : Int := if d < 0 then -((Nat.gcd u.natAbs d.natAbs : Nat) : Int) else ((Nat.gcd u.natAbs d.natAbs : Nat) : Int)
abbrev fr (u d : Int) : Rat := Rat.divInt u d
theorem gcd_pos {u d : Int} (h : d ≠ 0) : 0 < Nat.gcd u.natAbs d.natAbs := Nat.gcd_pos_of_pos_right _ (by omega)
theorem sgd_ne {u d : Int} (h : d ≠ 0) : sgd u d ≠ 0 := by
  have := gcd_pos (u := u) h
  unfold sgd
  split <;> omega
theorem dvd_u (u d : Int) : ((Nat.gcd u.natAbs d.natAbs : Nat) : Int) ∣ u := Int.ofNat_dvd_left.mpr (Nat.gcd_dvd_left _ _)
theorem dvd_d (u d : Int) : ((Nat.gcd u.natAbs d.natAbs : Nat) : Int) ∣ d := Int.ofNat_dvd_left.mpr (Nat.gcd_dvd_right _ _)
theorem fr_num {u d : Int} (h : d ≠ 0) : u.fdiv (sgd u d) = (fr u d).num := by
  have e : d.gcd u = Nat.gcd u.natAbs d.natAbs := by rw [Int.gcd_comm]; rfl
  rw [Rat.num_divInt, e]
  unfold sgd
  split
  · rename_i hd
    rw [Int.fdiv_eq_ediv_of_dvd (Int.neg_dvd.mpr (dvd_u u d)), Int.ediv_neg, Int.sign_eq_neg_one_of_neg hd, Int.neg_mul, Int.one_mul]
    obtain ⟨k, hk⟩ := dvd_u u d
    have hp : ((Nat.gcd u.natAbs d.natAbs : Nat) : Int) ≠ 0 := by have := gcd_pos (u := u) h; omega
    generalize hg : ((Nat.gcd u.natAbs d.natAbs : Nat) : Int) = g at *
    rw [hk, Int.mul_ediv_cancel_left _ hp, ← Int.mul_neg, Int.mul_ediv_cancel_left _ hp]
  · rename_i hd
    rw [Int.fdiv_eq_ediv_of_dvd (dvd_u u d), Int.sign_eq_one_of_pos (by omega), Int.one_mul]
theorem fr_den {u d : Int} (h : d ≠ 0) : d.fdiv (sgd u d) = ((fr u d).den : Int) := by
  have e : d.gcd u = Nat.gcd u.natAbs d.natAbs := by rw [Int.gcd_comm]; rfl
  rw [Rat.den_divInt, e, if_neg h]
  have hp := gcd_pos (u := u) h
  rw [Int.natCast_ediv]
  unfold sgd
  split
  · rename_i hd
    rw [Int.fdiv_eq_ediv_of_dvd (Int.neg_dvd.mpr (dvd_d u d)), Int.ediv_neg]
    obtain ⟨k, hk⟩ := dvd_d u d
    have en : ((d.natAbs : Nat) : Int) = -d := by omega
    rw [en]
    have hp' : ((Nat.gcd u.natAbs d.natAbs : Nat) : Int) ≠ 0 := by omega
    generalize hg : ((Nat.gcd u.natAbs d.natAbs : Nat) : Int) = g at *
    rw [hk, Int.mul_ediv_cancel_left _ hp', ← Int.mul_neg, Int.mul_ediv_cancel_left _ hp']
  · rename_i hd
    rw [Int.fdiv_eq_ediv_of_dvd (dvd_d u d)]
    have en : ((d.natAbs : Nat) : Int) = d := by omega
    rw [en]
/-- sizes -/
structure Sz (k : Nat) (q : Rat) : Prop where
  num : q.num.natAbs < 2 ^ k
  den : q.den < 2 ^ k
theorem Sz.mono {j k : Nat} {q : Rat} (h : Sz j q) (e : j ≤ k) : Sz k q := ⟨Nat.lt_of_lt_of_le h.num (Nat.pow_le_pow_right (by decide) e), Nat.lt_of_lt_of_le h.den (Nat.pow_le_pow_right (by decide) e)⟩
theorem Sz.fr {k : Nat} {u d : Int} (hu : u.natAbs < 2 ^ k) (hd : d.natAbs < 2 ^ k) (h : d ≠ 0) : Sz k (fr u d) := by
  have e : d.gcd u = Nat.gcd u.natAbs d.natAbs := by rw [Int.gcd_comm]; rfl
  refine ⟨?_, ?_⟩
  · rw [← fr_num h]
    obtain ⟨m, hm⟩ := dvd_u u d
    have hp := gcd_pos (u := u) h
    have key : (u.fdiv (sgd u d)).natAbs ≤ u.natAbs := by
      have dv : sgd u d ∣ u := by
        unfold sgd
        split
        · exact Int.neg_dvd.mpr (dvd_u u d)
        · exact dvd_u u d
      rw [Int.fdiv_eq_ediv_of_dvd dv]
      exact Int.natAbs_ediv_le_natAbs u _
    omega
  · rw [Rat.den_divInt, if_neg h]
    exact Nat.lt_of_le_of_lt (Nat.div_le_self _ _) hd
theorem nat_mul {a b j k : Nat} (h : a < 2 ^ j) (h' : b < 2 ^ k) : a * b < 2 ^ (j + k) := by
  rw [Nat.pow_add]
  exact Nat.mul_lt_mul'' h h'
theorem int_mul {a b : Int} {j k : Nat} (h : a.natAbs < 2 ^ j) (h' : b.natAbs < 2 ^ k) : (a * b).natAbs < 2 ^ (j + k) := by
  rw [Int.natAbs_mul]
  exact nat_mul h h'
theorem int_add {a b : Int} {k : Nat} (h : a.natAbs < 2 ^ k) (h' : b.natAbs < 2 ^ k) : (a + b).natAbs < 2 ^ (k + 1) := by
  rw [Nat.pow_succ]
  omega
theorem int_sub {a b : Int} {k : Nat} (h : a.natAbs < 2 ^ k) (h' : b.natAbs < 2 ^ k) : (a - b).natAbs < 2 ^ (k + 1) := by
  rw [Nat.pow_succ]
  omega
theorem int_mono {a : Int} {j k : Nat} (h : a.natAbs < 2 ^ j) (e : j ≤ k) : a.natAbs < 2 ^ k := Nat.lt_of_lt_of_le h (Nat.pow_le_pow_right (by decide) e)
theorem Sz.d {k : Nat} {q : Rat} (h : Sz k q) : (q.den : Int).natAbs < 2 ^ k := h.den
theorem den_ne (q : Rat) : (q.den : Int) ≠ 0 := by have := q.den_pos; omega
theorem den_pos (q : Rat) : 0 < (q.den : Int) := by have := q.den_pos; omega
theorem fr_self (q : Rat) : fr q.num q.den = q := Rat.num_divInt_den q
theorem add_fr (p q : Rat) : fr (p.num * q.den + q.num * p.den) (p.den * q.den) = p + q := by
  unfold fr
  rw [← Rat.divInt_add_divInt _ _ (den_ne p) (den_ne q), Rat.num_divInt_den, Rat.num_divInt_den]
theorem sub_fr (p q : Rat) : fr (p.num * q.den - q.num * p.den) (p.den * q.den) = p - q := by
  unfold fr
  rw [← Rat.divInt_sub_divInt _ _ (den_ne p) (den_ne q), Rat.num_divInt_den, Rat.num_divInt_den]
theorem mul_fr (p q : Rat) : fr (p.num * q.num) (p.den * q.den) = p * q := by
  unfold fr
  rw [← Rat.divInt_mul_divInt, Rat.num_divInt_den, Rat.num_divInt_den]
theorem inv_fr (q : Rat) : fr q.den q.num = q⁻¹ := (Rat.inv_def q).symm
theorem div_fr (p q : Rat) : fr (p.num * q.den) (p.den * q.num) = p / q := by
  unfold fr
  rw [← Rat.divInt_mul_divInt, Rat.num_divInt_den, show Rat.divInt q.den q.num = q⁻¹ from inv_fr q, Rat.div_def]
theorem neg_fr (q : Rat) : fr (-q.num) q.den = -q := by
  unfold fr
  rw [← Rat.neg_divInt, Rat.num_divInt_den]
theorem fr_int (i : Int) : fr i 1 = (i : Rat) := by
  apply Rat.ext
  · rw [Rat.num_divInt]
    simp
  · rw [Rat.den_divInt]
    simp
theorem Sz.add {j k : Nat} {p q : Rat} (h : Sz j p) (h' : Sz k q) : Sz (j + k + 1) (p + q) := by
  rw [← add_fr]
  exact Sz.fr (int_add (int_mul h.num h'.d) (by rw [Nat.add_comm j k]; exact int_mul h'.num h.d)) (int_mono (int_mul h.d h'.d) (Nat.le_succ _)) (Int.mul_ne_zero (den_ne p) (den_ne q))
theorem Sz.sub {j k : Nat} {p q : Rat} (h : Sz j p) (h' : Sz k q) : Sz (j + k + 1) (p - q) := by
  rw [← sub_fr]
  exact Sz.fr (int_sub (int_mul h.num h'.d) (by rw [Nat.add_comm j k]; exact int_mul h'.num h.d)) (int_mono (int_mul h.d h'.d) (Nat.le_succ _)) (Int.mul_ne_zero (den_ne p) (den_ne q))
theorem Sz.mul {j k : Nat} {p q : Rat} (h : Sz j p) (h' : Sz k q) : Sz (j + k) (p * q) := by
  rw [← mul_fr]
  exact Sz.fr (int_mul h.num h'.num) (int_mul h.d h'.d) (Int.mul_ne_zero (den_ne p) (den_ne q))
theorem num_ne {q : Rat} (h : q ≠ 0) : q.num ≠ 0 := fun z => h (Rat.num_eq_zero.mp z)
theorem Sz.div {j k : Nat} {p q : Rat} (h : Sz j p) (h' : Sz k q) (n : q ≠ 0) : Sz (j + k) (p / q) := by
  rw [← div_fr]
  exact Sz.fr (int_mul h.num h'.d) (int_mul h.d h'.num) (Int.mul_ne_zero (den_ne p) (num_ne n))
theorem Sz.neg {k : Nat} {q : Rat} (h : Sz k q) : Sz k (-q) := by
  refine ⟨?_, ?_⟩
  · rw [Rat.neg_num]
    have := h.num
    omega
  · rw [Rat.neg_den]
    exact h.den
theorem Sz.int {k : Nat} {i : Int} (h : i.natAbs < 2 ^ k) (h1 : 1 ≤ k) : Sz k (i : Rat) := by
  refine ⟨by simpa using h, ?_⟩
  have : 2 ^ 1 ≤ 2 ^ k := Nat.pow_le_pow_right (by decide) h1
  simp
  omega
theorem lt_fr (p q : Rat) : decide (p.num * q.den < q.num * p.den) = decide (p < q) := by
  exact decide_eq_decide.mpr (Rat.lt_iff p q).symm
theorem le_fr (p q : Rat) : decide (p.num * q.den ≤ q.num * p.den) = decide (p ≤ q) := by
  exact decide_eq_decide.mpr (Rat.le_iff p q).symm
end Q
end

section
set_option Elab.async false
set_option linter.all false
set_option maxRecDepth 100000
set_option maxHeartbeats 3900000
set_option exponentiation.threshold 20000
namespace Q
open PySem L2
variable {P : Program} {w : World} {T : Tab} {mg : Str → Option Value} {base : Heap} {f : Addr} {fd : FuncData}
/-- a fraction of the law: a tuple of two ints -/
abbrev D.fr (q : Rat) : D := .tup [.int q.num, .int (q.den : Int)]
def F_frac : Fw := fun ds c P R => ∃ u d : Int, ds = [.int u, .int d] ∧ d ≠ 0 ∧ u.natAbs < 2 ^ 8500 ∧ d.natAbs < 2 ^ 8500 ∧ P (.fr (fr u d)) c
theorem ok_law_frac (U : Fun T.K "_law_frac" "_law_frac" s_law_frac f fd) (ma : mg "abs" = none) : FnGk P w T.K mg base (L2.CX P w) 1 f fd ["_law_up", "_law_down"] (SpW T F_frac) := by
  refine Fun.doesG U sc_law_frac (fun ds c P R h => ?_) (fun Z c ds cdv A outer s H E B R rt hZ ok hr h => ?_)
  · obtain ⟨u, d, rfl, _⟩ := h
    rfl
  · obtain ⟨u, d, rfl, hd, hu, hd', h⟩ := h
    subst hZ
    refine ss_cons (st_par 2 3 ok (ea_cons (ev_abs (by rfl) ma (ea_cons (ev_var 0 rfl (ea_nil ?_))))))
    refine ea_cons (ev_abs (by rfl) ma (ea_cons (ev_var 1 rfl (ea_nil ?_))))
    refine ea_nil ⟨_, _, rfl, ?_⟩
    -- the while
    have na : ∀ i : Int, (if i < 0 then -i else i) = (i.natAbs : Int) := fun i => by split <;> omega
    rw [na, na]
    refine ss_cons (st_while ok (fun m r => ∃ a b : Nat, r = ⟨B, [some (.int u), some (.int d), some (.int (a : Int)), some (.int (b : Int))], c⟩ ∧ b = m ∧ Nat.gcd a b = Nat.gcd u.natAbs d.natAbs) _ ⟨u.natAbs, d.natAbs, rfl, rfl, rfl⟩ ?_)
    rintro m r ⟨a, b, rfl, rfl, hg⟩
    refine et_gt (ev_var 3 rfl (ev_int ⟨fun hk => ?_, fun hk => ?_⟩))
    · have hb : 0 < b := by simpa using hk
      refine ss_one (st_par 2 3 ok (ea_cons (ev_var 3 rfl (ea_cons (ev_mod (ev_var 2 rfl (ev_var 3 rfl ⟨by omega, ea_nil ⟨_, _, rfl, ?_⟩⟩)))))))
      refine ⟨a % b, Nat.mod_lt _ hb, b, a % b, rfl, rfl, ?_⟩
      rw [← hg, Nat.gcd_comm b, ← Nat.gcd_rec, Nat.gcd_comm]
    · have hb : b = 0 := by
        have : ¬ 0 < b := by simpa using hk
        omega
      subst hb
      have ha : a = Nat.gcd u.natAbs d.natAbs := by rw [← hg, Nat.gcd_zero_right]
      have hs : (sgd u d).natAbs < 2 ^ 9000 := by
        have h1 : (sgd u d).natAbs = Nat.gcd u.natAbs d.natAbs := by
          unfold sgd
          split <;> omega
        have h2 := Nat.gcd_le_right u.natAbs (show 0 < d.natAbs by omega)
        have h3 : 2 ^ 8500 ≤ 2 ^ 9000 := Nat.pow_le_pow_right (by decide) (by decide)
        omega
      have fin : ∀ z : Int, z = sgd u d → SS (zBody P w T mg base ["_law_up", "_law_down", "_law_one", "_law_other"] "_law_frac" (defScope s_law_frac) f cdv A outer s H E B R rt) ⟨B, [some (.int u), some (.int d), some (.int z), some (.int ((0 : Nat) : Int))], c⟩ ((defBody s_law_frac).drop 3)
          ⟨fun r => rt .non r.c, fun _ => False, fun _ => False⟩ := fun z hz => by
        subst hz
        refine ss_one (st_ret (ev_tup (ea_cons (ev_fdivF (ev_var 0 rfl (ev_var 2 rfl ⟨.of (sgd_ne hd) hs, ea_cons (ev_fdivF (ev_var 1 rfl (ev_var 2 rfl ⟨.of (sgd_ne hd) hs, ea_nil ⟨rfl, by show 2 ≤ 100000; decide, rfl, ?_⟩⟩)))⟩))))))
        rw [fr_num hd, fr_den hd]
        exact h
      refine ss_cons (st_if (et_lt (ev_var 1 rfl (ev_int ⟨fun hk => ?_, fun hk => ?_⟩))))
      · have hn : d < 0 := by simpa using hk
        refine ss_one (st_set (i := 2) ok (ev_sub (ev_int (ev_var 2 rfl ?_))))
        refine fin _ ?_
        unfold sgd
        rw [if_pos hn, ha]
        omega
      · have hn : ¬ d < 0 := by simpa using hk
        refine ss_nil (fin _ ?_)
        unfold sgd
        rw [if_neg hn, ha]
end Q
end

section
set_option Elab.async false
set_option linter.all false
set_option maxRecDepth 100000
set_option maxHeartbeats 3900000
namespace Q
open PySem L2
variable {Z : Zt} {ρ : Rho} {σ : St} {H H' : Hp} {O : Out} {P : D → Nat → Prop} {e a b : Expr} {pos p apos : Pos} {X : Cx} {k : Nat} {f C : Addr} {F : Fw} {x m : Str} {es : List Expr}

/-! ### names of the module, of types -/
theorem ev_globC (hg : Gl Z.X x) (hm : Z.X.mg x = some (.ref C)) (h : P (.cls C) ρ.c) (hd : (x == ("__debug__" : Str)) = false := by decide) : EV Z ρ (.Name x pos) P :=
  ev_of (pe_glob (v := .ref C) hg hm rfl hd) fun σ H Q S k => k.here S h rfl
theorem ev_globI {i : Int} {t : Tok} (hg : Gl Z.X x) (hm : Z.X.mg x = some (.int i t)) (h : P (.int i) ρ.c) (hd : (x == ("__debug__" : Str)) = false := by decide) : EV Z ρ (.Name x pos) P :=
  ev_of (pe_glob (v := .int i) hg hm ⟨_, rfl⟩ hd) fun σ H Q S k => k.here S h rfl
theorem ev_ty {n : String} (hg : Gl Z.X x) (hm : Z.X.mg x = none) (hv : bootBuiltins x = some (.type n)) (h : P (.ty n) ρ.c) (hn : x ≠ "__name__" := by decide) (hd : (x == ("__debug__" : Str)) = false := by decide) : EV Z ρ (.Name x pos) P :=
  ev_of (pe_bltn (v := .ty n) hg hm hv rfl hn hd) fun σ H Q S k => k.here S h rfl

/-! ### isinstance -/
/-- the type's name of a datum; a Ratio's is the class at C -/
def tyV (T : Tab) : D → Option Value
  | .non => some (.type "NoneType")
  | .bl _ => some (.type "bool")
  | .int _ => some (.type "int")
  | .str _ => some (.type "str")
  | .rat _ => some (.ref T.C)
  | .tup _ => some (.type "tuple")
  | .lst _ => some (.type "list")
  | .dct _ _ => some (.type "dict")
  | _ => none
structure InsF (K : PySem.W.Frag) (C : Addr) : Prop where
  cl : Cls K C
  ha : PySem.W.findIn K (.ref C) "__class__" = some (some (Value.builtin "object.__class__"))
  hn : PySem.W.specialIn K (.builtin "object.__class__") "__get__" = some (some (Value.builtin "getset_descriptor.__get__"))
  ht : PySem.W.takesIn K (Value.builtin "object.__class__") = some true
  hm : PySem.W.mroIn K C (Value.type "object") = some true
theorem tyV_ok {T : Tab} {B : Bm} {H : Hp} {d : D} {v : V} {t : Value} (I : InsF T.K T.C) (h : tyV T d = some t) (r : rep T (vis B H) d v) : TyX T.K H v t := by
  cases d <;> first | (cases h; done) | skip
  all_goals
    have e := Option.some.inj h
    subst e
  case non => cases r; exact .base .non
  case bl b => cases r; exact .base (.bl b)
  case int b => cases r; exact .base (.int b)
  case str b => cases r; exact .base (.str b)
  case rat q =>
    obtain ⟨a, dx, rfl, h⟩ := r
    exact .base (.ins (vis_some h) I.cl I.ha I.hn I.ht I.hm)
  case tup l =>
    obtain ⟨a, vs, rfl, h, _⟩ := r
    exact .base (.tup (vis_some h))
  case lst l =>
    obtain ⟨a, vs, rfl, h, _⟩ := r
    exact .base (.lst (vis_some h))
  case dct ks ds =>
    obtain ⟨a, kvs, rfl, h, _⟩ := r
    exact .base (.dK (vis_some h))
theorem tyV_plain {T : Tab} {d : D} {t : Value} (h : tyV T d = some t) : plain d = true := by
  cases d <;> first | rfl | cases h
/-- isinstance(x, c) by what the kit says -/
theorem ev_isinst (hK : Z.X.K = Z.T.K) (hI : InsF Z.T.K Z.T.C) (hg : Gl Z.X "isinstance") (hm : Z.X.mg "isinstance" = none)
    (h : EA Z ρ [a, b] fun ds c => ∃ d u t v k, ds = [d, v] ∧ tyV Z.T d = some t ∧ (v = .ty u ∧ PySem.W.kitOne Z.T.K t (.type u) = some k ∨ v = .cls f ∧ PySem.W.kitOne Z.T.K t (.ref f) = some k) ∧ P (.bl k) c)
    (he : starEach [a, b] Z.X.env = (false, eval a Z.X.env) :: starEach [b] Z.X.env := by rfl) (hpl : (backTo pos (starEach [b] Z.X.env)).any (·.1) = false := by rfl) : EV Z ρ (.Call (.Name "isinstance" p) [a, b] [] pos) P :=
  ev_blt call_isi hg hm (by decide +kernel) (h.mono fun ds c h σ H vs Q S r k => by
    obtain ⟨d, u, t, v, kk, rfl, ht, hv, hp⟩ := h
    obtain ⟨v1, v2, rfl, r1, r2⟩ := pr2 r
    have ty := tyV_ok hI ht (val_rep r1 (tyV_plain ht))
    rw [hK]
    rcases hv with ⟨rfl, hk⟩ | ⟨rfl, hk⟩
    · cases r2
      exact ⟨v1, .ty u, t, .type u, kk, rfl, .ty u, ty, hk, k.here (d := .bl kk) S hp rfl⟩
    · cases r2
      exact ⟨v1, .ref f, t,   .ref f, kk, rfl, .own f, ty, hk, k.here (d := .bl kk) S hp rfl⟩) (he := he) (hpl := hpl)

/-! ### == of data at any depth -/
mutual
def toP : D → Option PyData
  | .non => some .none
  | .bl b => some (.bool b)
  | .int i => some (.int i)
  | .str x => some (.str x)
  | .tup l => (toPs l).map .tuple
  | .lst l => (toPs l).map .list
  | _ => none
def toPs : List D → Option (List PyData)
  | [] => some []
  | d :: l => match toP d, toPs l with
    | some p, some ps => some (p :: ps)
    | _, _ => none
end
mutual
theorem toP_ok {T : Tab} {B : Bm} {H : Hp} : ∀ {d : D} {v : V} {p : PyData}, toP d = some p → rep T (vis B H) d v → Dp T.K H v p
  | .non, _, _, h, r => by
    cases r
    cases h
    exact .non
  | .bl b, _, _, h, r => by
    cases r
    cases h
    exact .bl b
  | .int i, _, _, h, r => by
    cases r
    cases h
    exact .int i
  | .str x, _, _, h, r => by
    cases r
    cases h
    exact .str x
  | .tup l, _, _, h, ⟨a, vs, e, h2, r⟩ => by
    subst e
    obtain ⟨ps, h3, h4⟩ := Option.map_eq_some_iff.mp (show (toPs l).map PyData.tuple = some _ from h)
    subst h4
    exact .tup (.inl (.inl (vis_some h2))) (toPs_ok h3 r)
  | .lst l, _, _, h, ⟨a, vs, e, h2, r⟩ => by
    subst e
    obtain ⟨ps, h3, h4⟩ := Option.map_eq_some_iff.mp (show (toPs l).map PyData.list = some _ from h)
    subst h4
    exact .lst (.inl (.inl (vis_some h2))) (toPs_ok h3 r)
  | .rat _, _, _, h, _ => by cases h
  | .box, _, _, h, _ => by cases h
  | .scr _, _, _, h, _ => by cases h
  | .own _ _, _, _, h, _ => by cases h
  | .ty _, _, _, h, _ => by cases h
  | .cls _, _, _, h, _ => by cases h
  | .dct _ _, _, _, h, _ => by cases h
theorem toPs_ok {T : Tab} {B : Bm} {H : Hp} : ∀ {l : List D} {vs : List V} {ps : List PyData}, toPs l = some ps → reps T (vis B H) l vs → DpAll T.K H vs ps
  | [], _, _, h, r => by
    have e : _ = [] := r
    subst e
    cases h
    exact .nil
  | d :: l, _, _, h, ⟨v, r, e, h1, h2⟩ => by
    subst e
    unfold toPs at h
    split at h
    · rename_i p ps hp hps
      cases h
      exact .cons (toP_ok hp h1) (toPs_ok hps h2)
    · cases h
end
theorem toP_plain {d : D} {p : PyData} (h : toP d = some p) : plain d = true := by
  cases d <;> first | rfl | cases h
theorem ev_eqP (hK : Z.X.K = Z.T.K) (hr : RoomG k Z.X.A) (h : EV Z ρ a fun d1 c1 => EV Z (ρ.wc c1) b fun d2 c2 => ∃ x y, toP d1 = some x ∧ toP d2 = some y ∧ SeqAt.shaped x = true ∧ SeqAt.shaped y = true ∧ P (.bl (PyData.eqv x y)) c2) : EV Z ρ (.Compare a [.Eq] [b] pos) P :=
  ev_cmp2 (op_eqD hr.r.units) (nomark _) (h.mono fun d1 c1 h2 => h2.mono fun d2 c2 ⟨x, y, hx, hy, sx, sy, hp⟩ σ H v1 v2 Q S r1 r2 q => by
    rw [hK]
    exact ⟨x, y, toP_ok hx (val_rep r1 (toP_plain hx)), toP_ok hy (val_rep r2 (toP_plain hy)), sx, sy, q.here (d := .bl _) S hp rfl⟩)
theorem ev_neP (hK : Z.X.K = Z.T.K) (hr : RoomG k Z.X.A) (h : EV Z ρ a fun d1 c1 => EV Z (ρ.wc c1) b fun d2 c2 => ∃ x y, toP d1 = some x ∧ toP d2 = some y ∧ SeqAt.shaped x = true ∧ SeqAt.shaped y = true ∧ P (.bl (!PyData.eqv x y)) c2) : EV Z ρ (.Compare a [.NotEq] [b] pos) P :=
  ev_cmp2 (op_neD hr.r.units) (nomark _) (h.mono fun d1 c1 h2 => h2.mono fun d2 c2 ⟨x, y, hx, hy, sx, sy, hp⟩ σ H v1 v2 Q S r1 r2 q => by
    rw [hK]
    exact ⟨x, y, toP_ok hx (val_rep r1 (toP_plain hx)), toP_ok hy (val_rep r2 (toP_plain hy)), sx, sy, q.here (d := .bl _) S hp rfl⟩)
theorem et_eqP {P : Bool → Nat → Prop} (hK : Z.X.K = Z.T.K) (hr : RoomG k Z.X.A) (h : EV Z ρ a fun d1 c1 => EV Z (ρ.wc c1) b fun d2 c2 => ∃ x y, toP d1 = some x ∧ toP d2 = some y ∧ SeqAt.shaped x = true ∧ SeqAt.shaped y = true ∧ P (PyData.eqv x y) c2) : ET Z ρ (.Compare a [.Eq] [b] pos) P :=
  et_cmp2 (op_eqD hr.r.units) (nomark _) (h.mono fun d1 c1 h2 => h2.mono fun d2 c2 ⟨x, y, hx, hy, sx, sy, hp⟩ σ H v1 v2 Q S r1 r2 q => by
    rw [hK]
    exact ⟨x, y, toP_ok hx (val_rep r1 (toP_plain hx)), toP_ok hy (val_rep r2 (toP_plain hy)), sx, sy, q.here (d := .bl _) S ⟨_, rfl, hp⟩ rfl⟩)
theorem et_neP {P : Bool → Nat → Prop} (hK : Z.X.K = Z.T.K) (hr : RoomG k Z.X.A) (h : EV Z ρ a fun d1 c1 => EV Z (ρ.wc c1) b fun d2 c2 => ∃ x y, toP d1 = some x ∧ toP d2 = some y ∧ SeqAt.shaped x = true ∧ SeqAt.shaped y = true ∧ P (!PyData.eqv x y) c2) : ET Z ρ (.Compare a [.NotEq] [b] pos) P :=
  et_cmp2 (op_neD hr.r.units) (nomark _) (h.mono fun d1 c1 h2 => h2.mono fun d2 c2 ⟨x, y, hx, hy, sx, sy, hp⟩ σ H v1 v2 Q S r1 r2 q => by
    rw [hK]
    exact ⟨x, y, toP_ok hx (val_rep r1 (toP_plain hx)), toP_ok hy (val_rep r2 (toP_plain hy)), sx, sy, q.here (d := .bl _) S ⟨_, rfl, hp⟩ rfl⟩)
example (a b c d : Int) : SeqAt.shaped (.tuple [.int a, .int b]) = true := rfl
example (a b c d : Int) : PyData.eqv (.tuple [.int a, .int b]) (.tuple [.int c, .int d]) = (a == c && (b == d && true)) := rfl
end Q
end

section
set_option Elab.async false
set_option linter.all false
set_option maxRecDepth 100000
set_option maxHeartbeats 3900000
namespace Q
open L2 PySem PySem.Spec PyProof.Rows
abbrev veAll : List Value := [.type "ValueError", .type "Exception", .type "BaseException", .type "object"]
/-- an own class of errors without an __init__ of its own -/
structure ErrC (K : PySem.W.Frag) (mg : Str → Option Value) (name : Str) (C : Addr) : Prop where
  m : mg name = some (.ref C)
  x : PySem.W.excIn K C veAll "ValueError.__new__" = true
  k : PySem.W.keepIn K (.ref C) = true
  s : PySem.W.subIn K (.ref C) (.type "BaseException") = some true
  t : PySem.W.typeIn K (.ref C) = some (.type "type")
section
variable {X : Cx} {x : Str} {C : Addr} {p pos : Pos}
/-- X(), raised -/
theorem pmk0 (E : ErrC X.K X.mg x C) (hg : Gl X x) (hd : (x == ("__debug__" : Str)) = false := by decide) : PMk X (.Call (.Name x p) [] [] pos) (fun _ H Q => Q (.ref C) none H) := fun pins s σ H Q I h => by
  refine wpAny_Call_Name_kw (ld_glob I hg E.m ?_ hd)
  refine PySem.W.callWith_K0 I.kIn E.k ?_
  obtain ⟨_, _, _, _, _, _, _, _, _, _, _, _, _, _, _, _, _, hC, hN, hni, T⟩ := exc_obj I.kIn E.x
  exact wpAny_call_exc_subT PySem.F.excBase_ValueError T hC hN hni (fun h' e hm => mk_of I hm (raises_own E.s E.t) h (I.hok.gone hm.new)) (by show 0 ≤ sizeLine; exact Nat.zero_le _)
end
end Q
end

section
set_option Elab.async false
set_option linter.all false
set_option maxRecDepth 100000
set_option maxHeartbeats 3900000
namespace Q
open PySem L2
variable {Z : Zt} {ρ : Rho} {σ : St} {H H' : Hp} {O : Out} {e a b : Expr} {pos p apos : Pos} {X : Cx} {k : Nat} {f C : Addr} {x m : Str} {es : List Expr}
theorem st_raise0 (ok : Zok Z) (E : ErrC Z.X.K Z.X.mg x C) (h : Z.R (C, none) ρ) (hg : Gl Z.X x := by rfl) (hd : (x == ("__debug__" : Str)) = false := by decide) (hc : Z.X.calm = true := by rfl) : ST Z ρ (.Raise (some (.Call (.Name x p) [] [] pos)) none apos) O :=
  st_of (ps_raise hc ok.tk (pmk0 E hg hd)) fun D σ H S q => ⟨ρ, (C, none), S, ⟨rfl, rfl⟩, h⟩
/-- the __init__ of an own error that keeps one field -/
def spErr (C : Addr) (fld : Str) : Sp := fun vs H Q _ => ∃ (a : Addr) (y : V), vs = [.ref a, y] ∧ H a = some (exo a C none) ∧ ∀ dx, H dx = none → dx ≠ a → Q .non (upd (upd H dx (exd dx [(fld, y)])) a (exo a C (some dx)))
/-- such a class -/
structure ErrF (P : Program) (w : World) (K : PySem.W.Frag) (mg : Str → Option Value) (base : Heap) (name fld : Str) (k : Nat) (C : Addr) : Prop where
  m : mg name = some (.ref C)
  o : OexC K C
  i : ∃ fI fd ps, PySem.W.findIn K (.ref C) "__init__" = some (some (.ref fI)) ∧ PySem.W.typeIn K (.ref fI) = some (.type "function") ∧ FnOk P w K mg base (L2.CX P w) k fI fd ps (spErr C fld) ∧ Binds K fd ps []
theorem del_upd {H : Hp} {a d : Addr} {o u v o' : HO} (ha : H a = none) (hd : d ≠ a) : upd (del (upd (upd (upd H a o) d u) a o') a) d v = upd H d v := by
  funext b
  by_cases e : b = d
  · subst e
    rw [upd_same, upd_same]
  · rw [upd_ne e, upd_ne e]
    by_cases e2 : b = a
    · subst e2
      rw [del_same, ha]
    · rw [del_ne e2, upd_ne e2, upd_ne e, upd_ne e2]
theorem exd_inj {d : Addr} {fs gs : List (Str × V)} {H : Hp} (h1 : H d = some (exd d fs)) : True := trivial
theorem st_raiseF {fld : Str} (ok : Zok Z) (E : ErrF Z.X.prog Z.X.w Z.X.K Z.X.mg Z.X.base x fld k C) (hr : RoomG (k + 1) Z.X.A)
    (h : EA Z ρ [e] fun ds c => ∃ d, ds = [d] ∧ plain d = true ∧ Z.R (C, some (fld, d)) (ρ.wc c)) (hg : Gl Z.X x := by rfl) (hd : (x == ("__debug__" : Str)) = false := by decide)
    (he : starEach [e] Z.X.env = (false, eval e Z.X.env) :: starEach [] Z.X.env := by rfl) (hpl : (backTo pos (starEach [] Z.X.env)).any (·.1) = false := by rfl) (hc : Z.X.calm = true := by rfl) : ST Z ρ (.Raise (some (.Call (.Name x p) [e] [] pos)) none apos) O := by
  obtain ⟨fI, fd, ps, i1, i2, G, hb⟩ := E.i
  refine st_of (ps_raise hc ok.tk (pmk_oex E.o i1 i2 G hr.r hb .nil passL hg E.m pa_any hd he hpl)) fun D σ H S q => ea_any h S fun vs H1 ds c S1 e1 r ⟨d, hds, hpl, hR⟩ => ?_
  subst hds
  obtain ⟨v, rfl, rv⟩ := pr1 r
  refine ⟨by show 1 ≤ 1000; decide, fun y hy => ⟨y, v, rfl, upd_same, fun dx hdx hne => ⟨rfl, dx, [(fld, v)], upd_same, ?_, ?_, ?_⟩⟩⟩
  · rw [upd_ne hne]
    exact upd_same
  · rw [upd_ne hne] at hdx
    exact hdx
  · rw [upd_ne hne] at hdx
    rw [del_upd hy hne]
    refine ⟨ρ.wc c, (C, some (fld, d)), S1.same (same_new hdx), ⟨rfl, dx, v, rfl, new_at S1 hdx, ?_⟩, hR⟩
    exact (val_rep rv hpl).mono (Same.vis_ (same_new hdx))
theorem st_raiseN {fld : Str} : True := trivial
/-- the def __init__(self, fld): self.fld = fld of an own error -/
theorem err_init {P : Program} {w : World} {K : PySem.W.Frag} {mg : Str → Option Value} {base : Heap} {C f : Addr} {fd : FuncData} {qual : Str} {st : Stmt} {fld : Str} {p0 p1 p2 p3 : Pos} (U : Fun K "__init__" qual st f fd) (S : FnScope ["self", fld] ["self", fld] (defScope st))
    (hb : defBody st = [.Assign [.Attribute (.Name "self" p0) fld p1] (.Name fld p2) p3]) (o : OexC K C) (n : PySem.W.findIn K (.ref C) fld = some none)
    (hd : (fld == ("__debug__" : Str)) = false := by decide) (hcd : (fld == ("__classdict__" : Str)) = false := by decide) : FnOk P w K mg base (L2.CX P w) 1 f fd ["self", fld] (spErr C fld) := by
  refine U.okX S (fun vs H Q E h => ?_) (fun cdv A outer s H vs Q E hr h => ?_)
  · obtain ⟨a, y, rfl, _⟩ := h
    rfl
  · obtain ⟨a, y, rfl, ha, q⟩ := h
    rw [hb]
    have vis : ∀ x ∈ (["self", fld] : List Str), Vis (defScope st) x := fun x hx => (S.par x hx).elim (fun z => .inl z) (fun z => .inr (.inl z))
    refine ⟨_, pss_one (ps_ost (pe_var (i := 0) rfl (vis _ (List.Mem.head _))) (pe_var (i := 1) rfl (vis _ (List.Mem.tail _ (List.Mem.head _))) hd hcd) rfl), ?_⟩
    exact ⟨y, rfl, .ref a, rfl, a, C, rfl, o, n, .inl ⟨ha, fun dx h1 h2 => q dx h1 h2⟩⟩
end Q
end

section
set_option Elab.async false
set_option linter.all false
set_option maxRecDepth 100000
set_option maxHeartbeats 3900000
set_option exponentiation.threshold 20000
namespace Q
open PySem L2
variable {P : Program} {w : World} {T : Tab} {mg : Str → Option Value} {base : Heap} {f : Addr} {fd : FuncData}
/-! ### a class of numbers: what its top has written -/
/-- Ratio(top, bottom) -/
def F_mk (CZ : Addr) : Fw := fun ds c P R => ∃ t b : Int, ds = [.int t, .int b] ∧ (b = 0 → R (CZ, none) c) ∧ (b ≠ 0 → t.natAbs < 2 ^ 8500 ∧ b.natAbs < 2 ^ 8500 ∧ P (.rat (fr t b)) c)
def F_mk1 : Fw := fun ds c P R => ∃ t : Int, ds = [.int t] ∧ t.natAbs < 2 ^ 8500 ∧ P (.rat (t : Rat)) c
def mkR (C : Addr) : Addr → Hp → D → Prop := fun x G d => ∃ q dx, d = .rat q ∧ G x = some (.ins C dx (ratF q))
theorem ratF_put (q : Rat) : putF "_bottom" (.int (q.den : Int)) (putF "_top" (.int q.num) []) = ratF q := by
  show (if ("_top" : Str) = "_bottom" then _ else (("_top" : Str), V.int q.num) :: putF "_bottom" (.int (q.den : Int)) []) = ratF q
  rw [if_neg (by decide +kernel)]; rfl
theorem ratF_no (q : Rat) {m : Str} (h1 : ¬ m = "_top") (h2 : ¬ m = "_bottom") : (ratF q).lookup m = none := by
  unfold ratF
  rw [List.lookup_cons, List.lookup_cons]
  have e1 : (m == ("_top" : Str)) = false := by simpa using h1
  have e2 : (m == ("_bottom" : Str)) = false := by simpa using h2
  rw [e1, e2]
  rfl
structure RCls (K : PySem.W.Frag) (mg : Str → Option Value) (C : Addr) : Prop where
  I : InsF K C
  m : mg "Ratio" = some (.ref C)
  nt : NoAttr K C "_top"
  nb : NoAttr K C "_bottom"
  sf : PySem.W.selfFirst K C = true
  kk : PySem.W.kitOne K (.ref C) (.ref C) = some true
  ki : PySem.W.kitOne K (.ref C) (.type "int") = some false
  k1 : PySem.W.kitOne K (.type "int") (.ref C) = some false
  k2 : PySem.W.kitOne K (.type "bool") (.ref C) = some false
  k3 : PySem.W.kitOne K (.type "NoneType") (.ref C) = some false
  k4 : PySem.W.kitOne K (.type "str") (.ref C) = some false
  k5 : PySem.W.kitOne K (.type "list") (.ref C) = some false
  k6 : PySem.W.kitOne K (.type "tuple") (.ref C) = some false
  k7 : PySem.W.kitOne K (.type "dict") (.ref C) = some false
def isRat : D → Bool
  | .rat _ => true
  | _ => false
def isWh : D → Bool
  | .int _ => true
  | _ => false
def isI : D → Bool
  | .int _ => true
  | .bl _ => true
  | _ => false
def isB : D → Bool
  | .bl _ => true
  | _ => false
theorem RCls.kit (r : RCls T.K mg T.C) {d : D} {t : Value} (h : tyV T d = some t) : PySem.W.kitOne T.K t (.ref T.C) = some (isRat d) := by
  cases d <;> first | (cases h; done) | skip
  all_goals
    have e := Option.some.inj h
    subst e
  case non => exact r.k3
  case bl => exact r.k2
  case int => exact r.k1
  case str => exact r.k4
  case rat => exact r.kk
  case tup => exact r.k6
  case lst => exact r.k5
  case dct => exact r.k7
theorem RCls.kitI (r : RCls T.K mg T.C) {d : D} {t : Value} (h : tyV T d = some t) : PySem.W.kitOne T.K t (.type "int") = some (isI d) := by
  cases d <;> first | (cases h; done) | skip
  all_goals
    have e := Option.some.inj h
    subst e
  case non => exact kit_ty (show L2.kitB "NoneType" "int" = some false by decide +kernel)
  case bl => exact kit_ty (show L2.kitB "bool" "int" = some true by decide +kernel)
  case int => exact kit_ty (show L2.kitB "int" "int" = some true by decide +kernel)
  case str => exact kit_ty (show L2.kitB "str" "int" = some false by decide +kernel)
  case rat => exact r.ki
  case tup => exact kit_ty (show L2.kitB "tuple" "int" = some false by decide +kernel)
  case lst => exact kit_ty (show L2.kitB "list" "int" = some false by decide +kernel)
  case dct => exact kit_ty (show L2.kitB "dict" "int" = some false by decide +kernel)
theorem kit_bool {K : PySem.W.Frag} {d : D} {t : Value} (h : tyV T d = some t) (hr : isI d = true) : PySem.W.kitOne K t (.type "bool") = some (isB d) := by
  cases d <;> first | (cases h; done) | (cases hr; done) | skip
  all_goals
    have e := Option.some.inj h
    subst e
  case bl => exact kit_ty (show L2.kitB "bool" "bool" = some true by decide +kernel)
  case int => exact kit_ty (show L2.kitB "int" "bool" = some false by decide +kernel)
theorem subB {K : PySem.W.Frag} {C : Addr} {n : String} {l : List Value} (e : fastBuiltinMro n = some l) (h : l.contains (.ref C) = false) : PySem.W.subIn K (.type n) (.ref C) = some false := by
  show (fastBuiltinMro n).map (·.contains (.ref C)) = some false
  rw [e]
  show some (l.contains (.ref C)) = some false
  rw [h]
theorem nf_ty {K : PySem.W.Frag} {C : Addr} {n : String} {l : List Value} (e : fastBuiltinMro n = some l) (h : l.contains (.ref C) = false) : PySem.W.notFirst K C (.type n) = true := by
  unfold PySem.W.notFirst
  rw [subB e h]
  simp
theorem nf_self {K : PySem.W.Frag} {C : Addr} : PySem.W.notFirst K C (.ref C) = true := by
  unfold PySem.W.notFirst
  simp
theorem nf_of {K : PySem.W.Frag} {d : D} {t : Value} (h : tyV T d = some t) : PySem.W.notFirst K T.C t = true := by
  cases d <;> first | (cases h; done) | skip
  all_goals
    have e := Option.some.inj h
    subst e
  case rat q => exact nf_self
  case non => exact nf_ty (l := [.type "NoneType", .type "object"]) (by decide +kernel) (by simp)
  case bl => exact nf_ty (l := [.type "bool", .type "int", .type "object"]) (by decide +kernel) (by simp)
  case int => exact nf_ty (l := [.type "int", .type "object"]) (by decide +kernel) (by simp)
  case str => exact nf_ty (l := [.type "str", .type "object"]) (by decide +kernel) (by simp)
  case tup => exact nf_ty (l := [.type "tuple", .type "object"]) (by decide +kernel) (by simp)
  case lst => exact nf_ty (l := [.type "list", .type "object"]) (by decide +kernel) (by simp)
  case dct => exact nf_ty (l := [.type "dict", .type "object"]) (by decide +kernel) (by simp)
theorem yt_of {B : Bm} {H : Hp} {d : D} {v : V} {t : Value} (h : tyV T d = some t) (r : rep T (vis B H) d v) : YT H v t := by
  cases d <;> first | (cases h; done) | skip
  all_goals
    have e := Option.some.inj h
    subst e
  case non => cases r; exact .non
  case bl b => cases r; exact .bl b
  case int b => cases r; exact .int b
  case str b => cases r; exact .str b
  case rat q =>
    obtain ⟨a, dx, rfl, h⟩ := r
    exact .ins (vis_some h)
  case tup l =>
    obtain ⟨a, vs, rfl, h, _⟩ := r
    exact .tup (vis_some h)
  case lst l =>
    obtain ⟨a, vs, rfl, h, _⟩ := r
    exact .lst (vis_some h)
  case dct ks ds =>
    obtain ⟨a, kvs, rfl, h, _⟩ := r
    exact .dK (vis_some h)
/-- a def of the top, with what it does -/
structure Df (P : Program) (w : World) (T : Tab) (mg : Str → Option Value) (base : Heap) (name : Str) (k : Nat) (f : Addr) (F : Fw) : Prop where
  g : FnG P w T.K mg base (L2.CX P w) k f (SpW T F)
  m : mg name = some (.ref f)
  kp : PySem.W.keepIn T.K (.ref f) = true
/-- a property -/
structure Dp (P : Program) (w : World) (T : Tab) (mg : Str → Option Value) (base : Heap) (C : Addr) (name : Str) (k : Nat) (F : Fw) : Prop where
  e : ∃ q g fd ps, PropOf T.K C name q g ∧ FnOk P w T.K mg base (L2.CX P w) k g fd ps (SpW T F) ∧ Binds T.K fd ps []
/-- an operator's method -/
structure Dm (P : Program) (w : World) (T : Tab) (mg : Str → Option Value) (base : Heap) (C : Addr) (name : Str) (k : Nat) (f : Addr) (F : Fw) : Prop where
  g : FnG P w T.K mg base (L2.CX P w) k f (SpW T F)
  s : PySem.W.findIn T.K (.ref C) name = some (some (.ref f))
  fn : PySem.W.isFn T.K (.ref f) = true
/-- a maker -/
structure Dk (P : Program) (w : World) (T : Tab) (mg : Str → Option Value) (base : Heap) (C : Addr) (k : Nat) (f : Addr) (F : Fw) : Prop where
  M : Mk T.K C f
  g : FnG P w T.K mg base (L2.CX P w) k f (SpMk T C F (mkR C))
section
variable {Z : Zt} {ρ : Rho} {σ : St} {H : Hp} {P' : D → Nat → Prop} {name : Str} {k j : Nat} {F : Fw} {e a b : Expr} {es : List Expr} {p pos : Pos} {C CZ : Addr}
theorem ev_df (D : Df Z.X.prog Z.X.w Z.T Z.X.mg Z.X.base name k f F) (ok : Zok Z) (hr : RoomG j Z.X.A) (hj : k ≤ j)
    (h : EA Z ρ (e :: es) fun ds c => F ds c P' (fun er c' => Z.R er (ρ.wc c'))) (hg : Gl Z.X name := by rfl)
    (hdb : (name == ("__debug__" : Str)) = false := by decide) (he : starEach (e :: es) Z.X.env = (false, eval e Z.X.env) :: starEach es Z.X.env := by rfl) (hpl : (backTo pos (starEach es Z.X.env)).any (·.1) = false := by rfl) :
    EV Z ρ (.Call (.Name name p) (e :: es) [] pos) P' :=
  ev_call ok (k := k) (F := F) (by unfold Does; rw [ok.K]; exact D.g) (hr.mono hj) hg D.m (by rw [ok.K]; exact D.kp) h hdb he hpl
theorem isIns_rat {q : Rat} {m : Str} (h1 : ¬ m = "_top") (h2 : ¬ m = "_bottom") : isIns T T.C (.rat q) m := fun G v r => by
  obtain ⟨a, dx, e, h⟩ := r
  exact ⟨a, dx, _, e, h, ratF_no q h1 h2⟩
theorem ev_dp (D : Dp Z.X.prog Z.X.w Z.T Z.X.mg Z.X.base Z.T.C name k F) (cl : Cls Z.T.K Z.T.C) (ok : Zok Z) (hr : RoomG j Z.X.A) (hj : k + 1 ≤ j) (h : EV Z ρ e fun d c => ∃ q, d = .rat q ∧ F [d] c P' (fun _ _ => False))
    (h1 : ¬ name = "_top" := by decide +kernel) (h2 : ¬ name = "_bottom" := by decide +kernel) (hab : attributeBase e name Z.X.env (eval e Z.X.env) = eval e Z.X.env := by rfl) : EV Z ρ (.Attribute e name pos) P' := by
  obtain ⟨q, g, fd, ps, hp, G, hb⟩ := D.e
  rw [← ok.K] at hp G hb cl
  exact ev_prop cl hp G (hr.mono hj) hb (h.mono fun d c ⟨q, hd, hf⟩ => by subst hd; exact ⟨rfl, isIns_rat h1 h2, hf⟩) hab
theorem ev_mk (D : Dk Z.X.prog Z.X.w Z.T Z.X.mg Z.X.base Z.T.C k f F) (hm : Z.X.mg name = some (.ref Z.T.C)) (ok : Zok Z) (hr : RoomG j Z.X.A) (hj : k + 1 ≤ j) (h : EA Z ρ (e :: es) fun ds c => F ds c P' (fun er c' => Z.R er (ρ.wc c'))) (hg : Gl Z.X name := by rfl)
    (hdb : (name == ("__debug__" : Str)) = false := by decide) (he : starEach (e :: es) Z.X.env = (false, eval e Z.X.env) :: starEach es Z.X.env := by rfl) (hpl : (backTo pos (starEach es Z.X.env)).any (·.1) = false := by rfl) :
    EV Z ρ (.Call (.Name name p) (e :: es) [] pos) P' :=
  ev_make ok (k := k) (f := f) (mk := mkR Z.T.C) (by rw [ok.K]; exact D.M) (by rw [ok.K]; exact D.g) (hr.mono hj) hg hm (fun y G d ⟨q, dx, hd, h⟩ => by subst hd; exact ⟨y, dx, rfl, h⟩) h hdb he hpl
/-- numbers -/
def numD : D → Option Rat
  | .rat q => some q
  | .int i => some (i : Rat)
  | _ => none
/-- an operator of numbers, a Ratio on the left -/
theorem ev_opR {op : Operator} {fo ro rc : Option Value} (D : Dm Z.X.prog Z.X.w Z.T Z.X.mg Z.X.base Z.T.C (PySem.dunder op.info.2) k f F) (RC : RCls Z.T.K Z.X.mg Z.T.C) (ok : Zok Z) (hr : RoomG j Z.X.A) (hj : k ≤ j)
    (h0 : PySem.W.findIn Z.T.K (.ref Z.T.C) (PySem.dunderR op.info.2) = some none)
    (h1 : PySem.W.findIn Z.T.K (.type "int") (PySem.dunder op.info.2) = some fo) (h2 : PySem.W.findIn Z.T.K (.type "int") (PySem.dunderR op.info.2) = some ro)
    (h : EV Z ρ a fun d1 c1 => EV Z (ρ.wc c1) b fun d2 c2 => ∃ p q, d1 = .rat p ∧ numD d2 = some q ∧ F [d1, d2] c2 P' (fun _ _ => False)) : EV Z ρ (.BinOp a op b pos) P' := by
  have G : FnG Z.X.prog Z.X.w Z.X.K Z.X.mg Z.X.base (L2.CX Z.X.prog Z.X.w) k f (SpW Z.T F) := by rw [ok.K]; exact D.g
  have sub : PySem.W.subIn Z.X.K (.type "int") (.ref Z.T.C) = some false := subB (l := [.type "int", .type "object"]) (by decide +kernel) (by simp)
  rw [← ok.K] at h0 h1 h2
  refine ev_two (OpR.or (op_binC (C := Z.T.C) G (hr.mono hj) (by rw [ok.K]; exact D.s) (by rw [ok.K]; exact D.fn) (by rw [ok.K]; exact RC.sf)) (op_binI (C := Z.T.C) G (hr.mono hj) (by rw [ok.K]; exact D.s) (by rw [ok.K]; exact D.fn) (by rw [ok.K]; exact RC.sf) h0 (.inl rfl) h1 h2 sub)) ?_
  refine h.mono fun d1 c1 h2 => h2.mono fun d2 c2 ⟨p, q, hp, hq, hf⟩ σ H v1 v2 Q S r1 r2 kk => ?_
  subst hp
  have pr : Paired (val Z.T ρ.B (vis ρ.B H)) [.rat p, d2] [v1, v2] := .cons r1 (.cons r2 .nil)
  have sp : SpW Z.T F [v1, v2] H Q E0 := sp_at0 (ρ := ρ.wc c2) S pr hf kk
  obtain ⟨x, dx, rfl, hx⟩ := r1
  cases d2 <;> first | (cases hq; done) | skip
  case int i _ =>
    cases r2
    exact .inr ⟨x, dx, _, i, rfl, rfl, vis_some hx, sp⟩
  case rat q' _ =>
    obtain ⟨y, dy, rfl, hy⟩ := r2
    exact .inl ⟨x, dx, _, y, dy, _, rfl, rfl, vis_some hx, vis_some hy, sp⟩
theorem ev_negR (D : Dm Z.X.prog Z.X.w Z.T Z.X.mg Z.X.base Z.T.C "__neg__" k f F) (ok : Zok Z) (hr : RoomG j Z.X.A) (hj : k ≤ j) (h : EV Z ρ a fun d1 c1 => ∃ p, d1 = .rat p ∧ F [d1] c1 P' (fun _ _ => False)) : EV Z ρ (.UnaryOp .USub a pos) P' := by
  have G : FnG Z.X.prog Z.X.w Z.X.K Z.X.mg Z.X.base (L2.CX Z.X.prog Z.X.w) k f (SpW Z.T F) := by rw [ok.K]; exact D.g
  refine ev_one (pe_un (un_negC (C := Z.T.C) G (hr.mono hj) (by rw [ok.K]; exact D.s) (by rw [ok.K]; exact D.fn)) pe_any) (fun _ _ _ q => q) (h.mono fun d1 c1 ⟨p, hp, hf⟩ σ H v1 Q S r1 kk => ?_)
  subst hp
  have sp : SpW Z.T F [v1] H Q E0 := sp_at0 (ρ := ρ.wc c1) S (.cons r1 .nil) hf kk
  obtain ⟨x, dx, rfl, hx⟩ := r1
  exact ⟨x, dx, _, rfl, vis_some hx, sp⟩
/-- a comparison, a Ratio on the left, the right side of a known type -/
theorem cmpR {op : CmpOp} {P'' : D → Nat → Prop} (D : Dm Z.X.prog Z.X.w Z.T Z.X.mg Z.X.base Z.T.C (cmpInfo op).2.1 k f F) (ok : Zok Z) {d1 d2 : Q.D} {c2 : Nat} {v1 v2 : V} {Q : VK} (S : SR Z (ρ.wc c2) σ H)
    (r1 : val Z.T ρ.B (vis ρ.B H) d1 v1) (r2 : val Z.T ρ.B (vis ρ.B H) d2 v2) (kk : Post Z (ρ.wc c2) σ H P'' Q) (h : ∃ p t, d1 = .rat p ∧ tyV Z.T d2 = some t ∧ F [d1, d2] c2 P'' (fun _ _ => False)) : rCmpC Z.X.K Z.T.C (SpW Z.T F) v1 v2 H Q := by
  obtain ⟨p, t, hp, ht, hf⟩ := h
  subst hp
  have sp : SpW Z.T F [v1, v2] H Q E0 := sp_at0 (ρ := ρ.wc c2) S (.cons r1 (.cons r2 .nil)) hf kk
  obtain ⟨x, dx, rfl, hx⟩ := r1
  exact ⟨x, dx, _, rfl, vis_some hx, ⟨t, yt_of ht (val_rep r2 (tyV_plain ht)), nf_of ht⟩, sp⟩
theorem ev_cmpR {op : CmpOp} (hop : ∀ a b, compareOp op a b = richCompare op a b) (hm : behindInMarks op b = false) (D : Dm Z.X.prog Z.X.w Z.T Z.X.mg Z.X.base Z.T.C (cmpInfo op).2.1 k f F) (ok : Zok Z) (hr : RoomG j Z.X.A) (hj : k ≤ j)
    (h : EV Z ρ a fun d1 c1 => EV Z (ρ.wc c1) b fun d2 c2 => ∃ p t, d1 = .rat p ∧ tyV Z.T d2 = some t ∧ F [d1, d2] c2 P' (fun _ _ => False)) : EV Z ρ (.Compare a [op] [b] pos) P' := by
  have G : FnG Z.X.prog Z.X.w Z.X.K Z.X.mg Z.X.base (L2.CX Z.X.prog Z.X.w) k f (SpW Z.T F) := by rw [ok.K]; exact D.g
  exact ev_cmp2 (op_cmpC (C := Z.T.C) hop G (hr.mono hj) (by rw [ok.K]; exact D.s) (by rw [ok.K]; exact D.fn)) hm (h.mono fun d1 c1 h2 => h2.mono fun d2 c2 hh σ H v1 v2 Q S r1 r2 kk => cmpR D ok S r1 r2 kk hh)
theorem et_cmpR {op : CmpOp} {P' : Bool → Nat → Prop} (hop : ∀ a b, compareOp op a b = richCompare op a b) (hm : behindInMarks op b = false) (D : Dm Z.X.prog Z.X.w Z.T Z.X.mg Z.X.base Z.T.C (cmpInfo op).2.1 k f F) (ok : Zok Z) (hr : RoomG j Z.X.A) (hj : k ≤ j)
    (h : EV Z ρ a fun d1 c1 => EV Z (ρ.wc c1) b fun d2 c2 => ∃ p t, d1 = .rat p ∧ tyV Z.T d2 = some t ∧ F [d1, d2] c2 (fun d c => ∃ k, d = .bl k ∧ P' k c) (fun _ _ => False)) : ET Z ρ (.Compare a [op] [b] pos) P' := by
  have G : FnG Z.X.prog Z.X.w Z.X.K Z.X.mg Z.X.base (L2.CX Z.X.prog Z.X.w) k f (SpW Z.T F) := by rw [ok.K]; exact D.g
  exact et_cmp2 (op_cmpC (C := Z.T.C) hop G (hr.mono hj) (by rw [ok.K]; exact D.s) (by rw [ok.K]; exact D.fn)) hm (h.mono fun d1 c1 h2 => h2.mono fun d2 c2 hh σ H v1 v2 Q S r1 r2 kk => cmpR D ok S r1 r2 kk hh)
/-- != by the own == -/
theorem neR {P'' : D → Nat → Prop} {d1 d2 : D} {c2 : Nat} {v1 v2 : V} {Q : VK} (ok : Zok Z) (S : SR Z (ρ.wc c2) σ H)
    (r1 : val Z.T ρ.B (vis ρ.B H) d1 v1) (r2 : val Z.T ρ.B (vis ρ.B H) d2 v2) (kk : Post Z (ρ.wc c2) σ H P'' Q) (h : ∃ p t, d1 = .rat p ∧ tyV Z.T d2 = some t ∧ F [d1, d2] c2 (fun d c => ∃ k, d = .bl k ∧ P'' (.bl (!k)) c) (fun _ _ => False)) : rNeC Z.X.K Z.T.C (SpW Z.T F) v1 v2 H Q := by
  obtain ⟨p, t, hp, ht, hf⟩ := h
  subst hp
  have sp : SpW Z.T F [v1, v2] H (fun v H' => ∃ k, v = .bl k ∧ Q (.bl (!k)) H') E0 := sp_at0 (ρ := ρ.wc c2) S (.cons r1 (.cons r2 .nil)) hf (fun v H' d c' S' e' r' ⟨b, hb, hp⟩ => by
    subst hb
    exact ⟨b, r', kk (.bl (!b)) H' (.bl (!b)) c' S' e' rfl hp⟩)
  obtain ⟨x, dx, rfl, hx⟩ := r1
  exact ⟨x, dx, _, rfl, vis_some hx, ⟨t, yt_of ht (val_rep r2 (tyV_plain ht)), nf_of ht⟩, sp⟩
theorem ev_neR (D : Dm Z.X.prog Z.X.w Z.T Z.X.mg Z.X.base Z.T.C "__eq__" k f F) (RC : RCls Z.T.K Z.X.mg Z.T.C) (hne : PySem.W.findIn Z.T.K (.ref Z.T.C) "__ne__" = some (some (.builtin "object.__ne__"))) (ok : Zok Z) (hr : RoomG j Z.X.A) (hj : k + 1 ≤ j)
    (h : EV Z ρ a fun d1 c1 => EV Z (ρ.wc c1) b fun d2 c2 => ∃ p t, d1 = .rat p ∧ tyV Z.T d2 = some t ∧ F [d1, d2] c2 (fun d c => ∃ k, d = .bl k ∧ P' (.bl (!k)) c) (fun _ _ => False)) : EV Z ρ (.Compare a [.NotEq] [b] pos) P' := by
  have G : FnG Z.X.prog Z.X.w Z.X.K Z.X.mg Z.X.base (L2.CX Z.X.prog Z.X.w) k f (SpW Z.T F) := by rw [ok.K]; exact D.g
  exact ev_cmp2 (op_neC (C := Z.T.C) G (hr.mono hj) (by rw [ok.K]; exact RC.I.hm) (by rw [ok.K]; exact hne) (by rw [ok.K]; exact D.s) (by rw [ok.K]; exact D.fn)) (nomark _) (h.mono fun d1 c1 h2 => h2.mono fun d2 c2 hh σ H v1 v2 Q S r1 r2 kk => neR ok S r1 r2 kk hh)
theorem et_neR {P' : Bool → Nat → Prop} (D : Dm Z.X.prog Z.X.w Z.T Z.X.mg Z.X.base Z.T.C "__eq__" k f F) (RC : RCls Z.T.K Z.X.mg Z.T.C) (hne : PySem.W.findIn Z.T.K (.ref Z.T.C) "__ne__" = some (some (.builtin "object.__ne__"))) (ok : Zok Z) (hr : RoomG j Z.X.A) (hj : k + 1 ≤ j)
    (h : EV Z ρ a fun d1 c1 => EV Z (ρ.wc c1) b fun d2 c2 => ∃ p t, d1 = .rat p ∧ tyV Z.T d2 = some t ∧ F [d1, d2] c2 (fun d c => ∃ k, d = .bl k ∧ ∃ k1, Q.D.bl (!k) = .bl k1 ∧ P' k1 c) (fun _ _ => False)) : ET Z ρ (.Compare a [.NotEq] [b] pos) P' := by
  have G : FnG Z.X.prog Z.X.w Z.X.K Z.X.mg Z.X.base (L2.CX Z.X.prog Z.X.w) k f (SpW Z.T F) := by rw [ok.K]; exact D.g
  refine et_cmp2 (op_neC (C := Z.T.C) G (hr.mono hj) (by rw [ok.K]; exact RC.I.hm) (by rw [ok.K]; exact hne) (by rw [ok.K]; exact D.s) (by rw [ok.K]; exact D.fn)) (nomark _) (h.mono fun d1 c1 h2 => h2.mono fun d2 c2 hh σ H v1 v2 Q S r1 r2 kk => neR ok S r1 r2 kk ?_)
  obtain ⟨p, t, h1, h2, h3⟩ := hh
  exact ⟨p, t, h1, h2, h3⟩
end
end Q
end

section
set_option Elab.async false
set_option linter.all false
set_option maxRecDepth 100000
set_option maxHeartbeats 3900000
set_option exponentiation.threshold 20000
namespace Q
open PySem L2
variable {P : Program} {w : World} {T : Tab} {mg : Str → Option Value} {base : Heap} {f : Addr} {fd : FuncData}
/-- tuples, lists by a written place -/
theorem ix0 {x y : D} : ixD (.tup [x, y]) 0 = some x := rfl
theorem ix1 {x y : D} : ixD (.tup [x, y]) 1 = some y := rfl
theorem mulW {i j : Int} (hi : i.natAbs < 2 ^ 20000) (hj : j.natAbs < 2 ^ 20000) : CMulW i j := wide_mul hi hj (by decide) (by decide) (by decide)
theorem Sz.nm {k : Nat} {q : Rat} (h : Sz k q) (e : k ≤ 20000 := by decide) : q.num.natAbs < 2 ^ 20000 := (h.mono e).num
theorem Sz.dm {k : Nat} {q : Rat} (h : Sz k q) (e : k ≤ 20000 := by decide) : (q.den : Int).natAbs < 2 ^ 20000 := (h.mono e).d
local macro_rules | `(tactic| walk_at "nb") => `(tactic| first | exact Sz.nm (by assumption) | exact Sz.dm (by assumption) | decide)
local macro_rules | `(tactic| walk_at "mw") => `(tactic| exact mulW (by walk_at "nb") (by walk_at "nb"))
def F_fr2 (g : Rat → Rat → Rat) : Fw := fun ds c P R => ∃ p q : Rat, ds = [.fr p, .fr q] ∧ Sz 4000 p ∧ Sz 4000 q ∧ P (.fr (g p q)) c
theorem ok_law_plus {fF : Addr} (U : Fun T.K "_law_plus" "_law_plus" s_law_plus f fd) (Dlaw_frac : Df P w T mg base "_law_frac" 1 fF F_frac) : FnGk P w T.K mg base (L2.CX P w) 2 f fd ["_law_x", "_law_y"] (SpW T (F_fr2 (· + ·))) := by
  refine Fun.doesG U sc_law_plus (fun ds c P R h => ?_) (fun Z c ds cdv A outer s H E B R rt hZ ok hr h => ?_)
  · obtain ⟨p, q, rfl, _⟩ := h
    rfl
  · obtain ⟨p, q, rfl, hp, hq, h⟩ := h
    subst hZ
    refine (ss_one (st_ret (ev_df Dlaw_frac ok hr (by decide) (ea_cons (ev_add (ev_mul (ev_ix rfl (ev_var 0 rfl (ev_int ⟨_, _, rfl, rfl, (ev_ix rfl (ev_var 1 rfl (ev_int ⟨_, _, rfl, rfl, ⟨(by walk_at "mw"), (ev_mul (ev_ix rfl (ev_var 1 rfl (ev_int ⟨_, _, rfl, rfl, (ev_ix rfl (ev_var 0 rfl (ev_int ⟨_, _, rfl, rfl, ⟨(by walk_at "mw"), (ea_cons (ev_mul (ev_ix rfl (ev_var 0 rfl (ev_int ⟨_, _, rfl, rfl, (ev_ix rfl (ev_var 1 rfl (ev_int ⟨_, _, rfl, rfl, ⟨(by walk_at "mw"), (ea_nil ⟨_, _, rfl, ?_, ?_, ?_, ⟨rfl, ?_⟩⟩)⟩⟩)))⟩)))))⟩⟩)))⟩))))⟩⟩)))⟩)))))))))
    · exact Int.mul_ne_zero (den_ne p) (den_ne q)
    · exact int_mono (int_add (int_mul hp.num hq.d) (int_mul hq.num hp.d)) (by decide)
    · exact int_mono (int_mul hp.d hq.d) (by decide)
    · rw [add_fr]
      exact h
theorem ok_law_times {fF : Addr} (U : Fun T.K "_law_times" "_law_times" s_law_times f fd) (Dlaw_frac : Df P w T mg base "_law_frac" 1 fF F_frac) : FnGk P w T.K mg base (L2.CX P w) 2 f fd ["_law_x", "_law_y"] (SpW T (F_fr2 (· * ·))) := by
  refine Fun.doesG U sc_law_times (fun ds c P R h => ?_) (fun Z c ds cdv A outer s H E B R rt hZ ok hr h => ?_)
  · obtain ⟨p, q, rfl, _⟩ := h
    rfl
  · obtain ⟨p, q, rfl, hp, hq, h⟩ := h
    subst hZ
    refine (ss_one (st_ret (ev_df Dlaw_frac ok hr (by decide) (ea_cons (ev_mul (ev_ix rfl (ev_var 0 rfl (ev_int ⟨_, _, rfl, rfl, (ev_ix rfl (ev_var 1 rfl (ev_int ⟨_, _, rfl, rfl, ⟨(by walk_at "mw"), (ea_cons (ev_mul (ev_ix rfl (ev_var 0 rfl (ev_int ⟨_, _, rfl, rfl, (ev_ix rfl (ev_var 1 rfl (ev_int ⟨_, _, rfl, rfl, ⟨(by walk_at "mw"), (ea_nil ⟨_, _, rfl, ?_, ?_, ?_, ⟨rfl, ?_⟩⟩)⟩⟩)))⟩)))))⟩⟩)))⟩))))))))
    · exact Int.mul_ne_zero (den_ne p) (den_ne q)
    · exact int_mono (int_mul hp.num hq.num) (by decide)
    · exact int_mono (int_mul hp.d hq.d) (by decide)
    · rw [mul_fr]
      exact h
def F_less : Fw := fun ds c P R => ∃ p q : Rat, ds = [.fr p, .fr q] ∧ Sz 9000 p ∧ Sz 9000 q ∧ P (.bl (decide (p < q))) c
theorem ok_law_less (U : Fun T.K "_law_less" "_law_less" s_law_less f fd) : FnGk P w T.K mg base (L2.CX P w) 1 f fd ["_law_x", "_law_y"] (SpW T F_less) := by
  refine Fun.doesG U sc_law_less (fun ds c P R h => ?_) (fun Z c ds cdv A outer s H E B R rt hZ ok hr h => ?_)
  · obtain ⟨p, q, rfl, _⟩ := h
    rfl
  · obtain ⟨p, q, rfl, hp, hq, h⟩ := h
    subst hZ
    refine (ss_one (st_ret (ev_lt (ev_mul (ev_ix rfl (ev_var 0 rfl (ev_int ⟨_, _, rfl, rfl, (ev_ix rfl (ev_var 1 rfl (ev_int ⟨_, _, rfl, rfl, ⟨(by walk_at "mw"), (ev_mul (ev_ix rfl (ev_var 1 rfl (ev_int ⟨_, _, rfl, rfl, (ev_ix rfl (ev_var 0 rfl (ev_int ⟨_, _, rfl, rfl, ⟨(by walk_at "mw"), ⟨rfl, ?_⟩⟩⟩)))⟩))))⟩⟩)))⟩)))))))
    rw [lt_fr]
    exact h
end Q
end

section
set_option Elab.async false
set_option linter.all false
set_option maxRecDepth 100000
set_option maxHeartbeats 3900000
set_option exponentiation.threshold 20000
namespace Q
open PySem L2
variable {P : Program} {w : World} {T : Tab} {mg : Str → Option Value} {base : Heap} {f : Addr} {fd : FuncData}
theorem ok_Ratio_init {CZ : Addr} (U : FunD T.K "__init__" "Ratio.__init__" (defArgs s_Ratio_init) (defBody s_Ratio_init) (defScope s_Ratio_init) [.int 1] [] f fd) (cl : Cls T.K T.C) (nt : NoAttr T.K T.C "_top") (nb : NoAttr T.K T.C "_bottom") (mgc : mg "gcd" = some (.builtin "math.gcd")) (EZ : ErrC T.K mg "ByZero" CZ) :
    FnGk P w T.K mg base (L2.CX P w) 1 f fd ["self", "top", "bottom"] (SpMk T T.C (F_mk CZ) (mkR T.C)) := by
  refine okGD U sc_Ratio_init (fun vs H Q E h => ?_) (fun cdv A outer s H vs Q E hr h => ?_)
  · obtain ⟨B, c, ds, P, R, x, dx, ws, rfl, _, _, _, r, ⟨t, b, rfl, _⟩, _⟩ := h
    show ws.length + 1 = 3
    rw [pr_len r]
    rfl
  · obtain ⟨B, c, ds, P, R, x, dx, ws, rfl, hx, bx, ok, r, ⟨t, b, rfl, h0, h1⟩, hQ, hE⟩ := h
    obtain ⟨v, v', rfl, hv, hv'⟩ := pr2 r
    cases hv
    cases hv'
    refine ⟨_, pss_cons (ps_if (pt_cmpR op_eq (pv 2) pe_int (nomark _)) (pss_one (ps_raise rfl (takes_of rfl rfl rfl rfl) (pmk0 EZ rfl))) pss_nil)
      (pss_cons (ps_set (i := 3) sc_Ratio_init.nd rfl (.inl rfl) (pe_callBfun cr_gcd rfl mgc (pa_cons (pv 1) (pa_cons (pv 2) pa_nil))))
      (pss_cons (ps_if (pt_cmpR op_lt (pv 2) pe_int (nomark _)) (pss_one (ps_set (i := 3) sc_Ratio_init.nd rfl (.inl rfl) (pe_un un_neg (pv 3)))) pss_nil)
      (pss_cons (ps_fld (pv 0) (pe_op op_fdivF (pv 1) (pv 3)) rfl)
      (pss_one (ps_fld (pv 0) (pe_op op_fdivF (pv 2) (pv 3)) rfl))))), ?_⟩
    refine ⟨_, rfl, rfl, _, rfl, ite2 (fun e => ?_) (fun e => ?_)⟩
    · have hb : b = 0 := V.int.inj (of_decide_eq_true e)
      exact hE (CZ, none) (.ref CZ) none H c ok (fun _ _ q _ => q) ⟨rfl, rfl⟩ (h0 hb)
    · have hb : b ≠ 0 := fun z => e (decide_eq_true (by rw [z]))
      obtain ⟨ht, hb', hP⟩ := h1 hb
      have hs : (sgd t b).natAbs < 2 ^ 9000 := by
        have h1 : (sgd t b).natAbs = Nat.gcd t.natAbs b.natAbs := by
          unfold sgd
          split <;> omega
        have h2 := Nat.gcd_le_right t.natAbs (show 0 < b.natAbs by omega)
        have h3 : 2 ^ 8500 ≤ 2 ^ 9000 := Nat.pow_le_pow_right (by decide) (by decide)
        omega
      have last : ∀ z : Int, z = sgd t b → tSeq (sFld T.K (tVar 0) (tOp (rI CFd fun i j => .int (i.fdiv j)) (tVar 1) (tVar 3)) "_top") (sFld T.K (tVar 0) (tOp (rI CFd fun i j => .int (i.fdiv j)) (tVar 2) (tVar 3)) "_bottom") { nx := fun _ H' => Q .non H', rt := Q } [some (.ref x), some (.int t), some (.int b), some (.int z)] H := fun z hz => by
        subst hz
        refine ⟨_, rfl, _, rfl, t, _, rfl, rfl, .of (sgd_ne hb) hs, _, rfl, x, T.C, dx, [], rfl, hx, cl, nt, (by show 0 < 1000; decide), ?_⟩
        refine ⟨_, rfl, _, rfl, b, _, rfl, rfl, .of (sgd_ne hb) hs, _, rfl, x, T.C, dx, _, rfl, upd_same, cl, nb, (by show 1 < 1000; decide), ?_⟩
        show Q .non (upd (upd H x (.ins T.C dx (putF "_top" (.int (t.fdiv (sgd t b))) []))) x (.ins T.C dx (putF "_bottom" (.int (b.fdiv (sgd t b))) (putF "_top" (.int (t.fdiv (sgd t b))) []))))
        rw [fr_num hb, fr_den hb, upd_upd, ratF_put]
        refine hQ _ (.rat (fr t b)) c ⟨fun a q => ?_, fun a u q => ?_⟩ (fun a o q n => ?_) ⟨fr t b, dx, rfl, vis_of upd_same bx⟩ hP
        · rw [upd_ne (fun e => by subst e; rw [bx] at q; cases q)]
          exact ok.box a q
        · rw [upd_ne (fun e => by subst e; rw [bx] at q; cases q)]
          exact ok.fix a u q
        · unfold vis at q ⊢
          rw [upd_ne n]
          exact q
      refine ⟨_, rfl, _, rfl, t, b, rfl, ?_⟩
      refine ⟨_, rfl, _, 0, rfl, rfl, _, rfl, ite2 (fun hk => ?_) (fun hk => ?_)⟩
      · have hn : b < 0 := of_decide_eq_true hk
        refine ⟨_, rfl, _, rfl, ?_⟩
        exact last _ (by unfold sgd; rw [if_pos hn])
      · have hn : ¬ b < 0 := fun z => hk (decide_eq_true z)
        exact last _ (by unfold sgd; rw [if_neg hn])
end Q
end

section
set_option Elab.async false
set_option linter.all false
set_option maxRecDepth 100000
set_option maxHeartbeats 3900000
set_option exponentiation.threshold 20000
namespace Q
open PySem L2
variable {P : Program} {w : World} {T : Tab} {mg : Str → Option Value} {base : Heap} {f : Addr} {fd : FuncData}
def F_top : Fw := fun ds c P R => ∃ q : Rat, ds = [.rat q] ∧ P (.int q.num) c
def F_bottom : Fw := fun ds c P R => ∃ q : Rat, ds = [.rat q] ∧ P (.int (q.den : Int)) c
theorem ok_Ratio_top (U : Fun T.K "top" "Ratio.top" s_Ratio_top f fd) (RC : RCls T.K mg T.C) : FnOk P w T.K mg base (L2.CX P w) 1 f fd ["self"] (SpW T F_top) := by
  refine Fun.does U sc_Ratio_top (fun ds c P R h => ?_) (fun Z c ds cdv A outer s H E B R rt hZ ok hr h => ?_)
  · obtain ⟨q, rfl, _⟩ := h
    rfl
  · obtain ⟨q, rfl, h⟩ := h
    subst hZ
    exact ss_one (st_ret (ev_fld rfl RC.I.cl RC.nt (ev_var 0 rfl ⟨rfl, .int q.num, rfl, fun G v ⟨a, dx, e, g⟩ => ⟨a, dx, _, .int q.num, e, g, rfl, rfl⟩, rfl, h⟩)))
theorem ok_Ratio_bottom (U : Fun T.K "bottom" "Ratio.bottom" s_Ratio_bottom f fd) (RC : RCls T.K mg T.C) : FnOk P w T.K mg base (L2.CX P w) 1 f fd ["self"] (SpW T F_bottom) := by
  refine Fun.does U sc_Ratio_bottom (fun ds c P R h => ?_) (fun Z c ds cdv A outer s H E B R rt hZ ok hr h => ?_)
  · obtain ⟨q, rfl, _⟩ := h
    rfl
  · obtain ⟨q, rfl, h⟩ := h
    subst hZ
    exact ss_one (st_ret (ev_fld rfl RC.I.cl RC.nb (ev_var 0 rfl ⟨rfl, .int (q.den : Int), rfl, fun G v ⟨a, dx, e, g⟩ => ⟨a, dx, _, .int (q.den : Int), e, g, rfl, rfl⟩, rfl, h⟩)))
theorem mk1_of {k : Nat} {CZ : Addr} (G : FnGk P w T.K mg base (L2.CX P w) k f fd ["self", "top", "bottom"] (SpMk T T.C (F_mk CZ) (mkR T.C))) {t1 : Tok} (hb : Binds T.K fd ["self", "top", "bottom"] [.int 1 t1]) :
    FnG P w T.K mg base (L2.CX P w) k f (SpMk T T.C F_mk1 (mkR T.C)) := by
  refine (G.raw hb (dvs := [.int 1]) (.cons ⟨t1, rfl⟩ .nil)).imp fun vs H Q E h => ?_
  obtain ⟨B, c, ds, P, R, x, dx, ws, rfl, hx, bx, ok, r, ⟨t, rfl, h1, h2⟩, hQ, hE⟩ := h
  obtain ⟨v, rfl, hv⟩ := pr1 r
  cases hv
  refine ⟨B, c, [.int t, .int 1], P, R, x, dx, [.int t, .int 1], rfl, hx, bx, ok, .cons rfl (.cons rfl .nil), ⟨t, 1, rfl, fun z => by omega, fun _ => ⟨h1, by decide, ?_⟩⟩, hQ, hE⟩
  rw [fr_int]
  exact h2
def F_is_whole : Fw := fun ds c P R => ∃ d, ds = [d] ∧ (tyV ⟨default, 0⟩ d).isSome = true ∧ P (.bl (isWh d)) c
theorem tyV_some {d : D} {T T' : Tab} (h : (tyV T d).isSome = true) : ∃ t, tyV T' d = some t := by
  cases d <;> first | exact ⟨_, rfl⟩ | cases h
abbrev tyd (d : D) : Prop := (tyV ⟨default, 0⟩ d).isSome = true
theorem ok_is_whole (U : Fun T.K "is_whole" "is_whole" s_is_whole f fd) (RC : RCls T.K mg T.C) (mis : mg "isinstance" = none) (mi : mg "int" = none) (mb : mg "bool" = none) :
    FnGk P w T.K mg base (L2.CX P w) 1 f fd ["value"] (SpW T F_is_whole) := by
  refine Fun.doesG U sc_is_whole (fun ds c P R h => ?_) (fun Z c ds cdv A outer s H E B R rt hZ ok hr h => ?_)
  · obtain ⟨d, rfl, _⟩ := h
    rfl
  · obtain ⟨d, rfl, hd, h⟩ := h
    obtain ⟨t, ht⟩ := tyV_some (T' := T) hd
    have own : isOwn d = false := by cases d <;> first | rfl | cases hd
    subst hZ
    refine ss_one (st_ret (ev_and (ev_isinst (f := 0) rfl RC.I rfl mis (ea_cons (ev_var 0 rfl (n := own) (ea_cons (ev_ty rfl mi (by decide +kernel) (ea_nil ⟨d, _, t, _, _, rfl, ht, .inl ⟨rfl, RC.kitI ht⟩, _, rfl, fun hk => ?_, fun hk => ?_⟩))))))))
    · refine ev_bone (ev_not (ev_isinst (f := 0) rfl RC.I rfl mis (ea_cons (ev_var 0 rfl (n := own) (ea_cons (ev_ty rfl mb (by decide +kernel) (ea_nil ⟨d, _, t, _, _, rfl, ht, .inl ⟨rfl, kit_bool ht hk⟩, _, rfl, rfl, ?_⟩)))))))
      have e : (!isB d) = isWh d := by cases d <;> first | rfl | cases hk
      rw [e]
      exact h
    · refine ⟨rfl, ?_⟩
      have e : isWh d = false := by cases d <;> first | rfl | cases hk
      rw [e] at h
      exact h
/-- as_ratio -/
def F_as (CB : Addr) : Fw := fun ds c P R => ∃ d, ds = [d] ∧ tyd d ∧ (∀ i, d = .int i → i.natAbs < 2 ^ 8500) ∧ (∀ q, numD d = some q → P (.rat q) c) ∧ (numD d = none → R (CB, some ("given", d)) c)
theorem ok_as_ratio {CB fW fI : Addr} {k : Nat} (U : Fun T.K "as_ratio" "as_ratio" s_as_ratio f fd) (RC : RCls T.K mg T.C) (mis : mg "isinstance" = none) (DW : Df P w T mg base "is_whole" 1 fW F_is_whole) (EB : ErrF P w T.K mg base "BadNumber" "given" 1 CB)
    (MK1 : Dk P w T mg base T.C 1 fI F_mk1) : FnGk P w T.K mg base (L2.CX P w) 3 f fd ["given"] (SpW T (F_as CB)) := by
  refine Fun.doesG U sc_as_ratio (fun ds c P R h => ?_) (fun Z c ds cdv A outer s H E B R rt hZ ok hr h => ?_)
  · obtain ⟨d, rfl, _⟩ := h
    rfl
  · obtain ⟨d, rfl, hd, hs, hP, hR⟩ := h
    obtain ⟨t, ht⟩ := tyV_some (T' := T) hd
    have own : isOwn d = false := by cases d <;> first | rfl | cases hd
    have pl : plain d = true := by cases d <;> first | rfl | cases hd
    subst hZ
    refine ss_cons (st_if (et_val (ev_isinst rfl RC.I rfl mis (ea_cons (ev_var 0 rfl (n := own) (ea_cons (ev_globC rfl RC.m (ea_nil ⟨d, "", t, _, _, rfl, ht, .inr ⟨rfl, RC.kit ht⟩, _, rfl, fun hk => ?_, fun hk => ?_⟩))))))))
    · cases d <;> first | (cases hk; done) | skip
      case rat q => exact ss_one (st_ret (ev_var 0 rfl ⟨rfl, hP q rfl⟩))
    · refine ss_nil (ss_cons (st_if (et_not (et_val (ev_df DW ok hr (by decide) (ea_cons (ev_var 0 rfl (n := own) (ea_nil ⟨d, rfl, hd, _, rfl, fun hk2 => ?_, fun hk2 => ?_⟩))))))))
      · have no : numD d = none := by cases d <;> first | rfl | (cases hk; done) | (cases hk2; done)
        exact ss_one (st_raiseF ok EB (hr.mono (by decide)) (ea_cons (ev_var 0 rfl (n := own) (ea_nil ⟨d, rfl, pl, hR no⟩))))
      · cases d <;> first | (cases hk2; done) | (cases hk; done) | skip
        case int i => exact ss_nil (ss_one (st_ret (ev_mk MK1 RC.m ok hr (by decide) (ea_cons (ev_var 0 rfl (ea_nil ⟨i, rfl, hs i rfl, rfl, hP i rfl⟩))))))
end Q
end

section
set_option Elab.async false
set_option linter.all false
set_option maxRecDepth 100000
set_option maxHeartbeats 3900000
set_option exponentiation.threshold 20000
namespace Q
open PySem L2
variable {P : Program} {w : World} {T : Tab} {mg : Str → Option Value} {base : Heap} {f fA fI CZ : Addr} {fd : FuncData}
section
variable {Z : Zt} {ρ : Rho} {P' : D → Nat → Prop} {e : Expr} {pos : Pos}
theorem ev_ftop (hK : Z.X.K = Z.T.K) (RC : RCls Z.T.K Z.X.mg Z.T.C) (h : EV Z ρ e fun d c => ∃ q, d = .rat q ∧ P' (.int q.num) c) (hab : attributeBase e "_top" Z.X.env (eval e Z.X.env) = eval e Z.X.env := by rfl) : EV Z ρ (.Attribute e "_top" pos) P' :=
  ev_fld hK (by rw [hK]; exact RC.I.cl) (by rw [hK]; exact RC.nt) (h.mono fun d c ⟨q, hd, hp⟩ => by subst hd; exact ⟨rfl, .int q.num, rfl, fun G v ⟨a, dx, e, g⟩ => ⟨a, dx, _, .int q.num, e, g, rfl, rfl⟩, hp⟩) hab
theorem ev_fbottom (hK : Z.X.K = Z.T.K) (RC : RCls Z.T.K Z.X.mg Z.T.C) (h : EV Z ρ e fun d c => ∃ q, d = .rat q ∧ P' (.int (q.den : Int)) c) (hab : attributeBase e "_bottom" Z.X.env (eval e Z.X.env) = eval e Z.X.env := by rfl) : EV Z ρ (.Attribute e "_bottom" pos) P' :=
  ev_fld hK (by rw [hK]; exact RC.I.cl) (by rw [hK]; exact RC.nb) (h.mono fun d c ⟨q, hd, hp⟩ => by subst hd; exact ⟨rfl, .int (q.den : Int), rfl, fun G v ⟨a, dx, e, g⟩ => ⟨a, dx, _, .int (q.den : Int), e, g, rfl, rfl⟩, hp⟩) hab
end
theorem Df.imp {name : Str} {k : Nat} {F F' : Fw} (D : Df P w T mg base name k f F) (h : ∀ ds c P R, F' ds c P R → F ds c P R) : Df P w T mg base name k f F' :=
  ⟨D.g.imp fun vs H Q E ⟨B, c, ds, P, R, ok, r, hf, hQ, hE⟩ => ⟨B, c, ds, P, R, ok, r, h _ _ _ _ hf, hQ, hE⟩, D.m, D.kp⟩
/-- as_ratio of a number -/
def F_asN : Fw := fun ds c P R => ∃ d q, ds = [d] ∧ numD d = some q ∧ Sz 8500 q ∧ P (.rat q) c
theorem num_tyd {d : D} {q : Rat} (h : numD d = some q) : tyd d := by cases d <;> first | rfl | cases h
theorem num_own {d : D} {q : Rat} (h : numD d = some q) : isOwn d = false := by cases d <;> first | rfl | cases h
theorem as_num {CB : Addr} (ds : List D) (c : Nat) (P : D → Nat → Prop) (R : Er → Nat → Prop) (h : F_asN ds c P R) : F_as CB ds c P R := by
  obtain ⟨d, q, rfl, hq, hs, hp⟩ := h
  refine ⟨d, rfl, num_tyd hq, fun i hi => ?_, fun q' hq' => ?_, fun hn => ?_⟩
  · subst hi
    have e := Option.some.inj hq
    subst e
    simpa using hs.num
  · rw [hq] at hq'
    rw [← Option.some.inj hq']
    exact hp
  · rw [hq] at hn
    cases hn
local macro_rules | `(tactic| walk_at "nb") => `(tactic| first | exact Sz.nm (by assumption) | exact Sz.dm (by assumption) | decide)
local macro_rules | `(tactic| walk_at "mw") => `(tactic| exact mulW (by walk_at "nb") (by walk_at "nb"))
def F_num2 (g : Rat → Rat → Rat) : Fw := fun ds c P R => ∃ p d q, ds = [.rat p, d] ∧ numD d = some q ∧ Sz 4000 p ∧ Sz 4000 q ∧ P (.rat (g p q)) c
def F_cmp (g : Rat → Rat → Bool) : Fw := fun ds c P R => ∃ p d q, ds = [.rat p, d] ∧ numD d = some q ∧ Sz 8500 p ∧ Sz 8500 q ∧ P (.bl (g p q)) c
theorem ok_Ratio_add (U : Fun T.K "__add__" "Ratio.__add__" s_Ratio_add f fd) (RC : RCls T.K mg T.C) (DA : Df P w T mg base "as_ratio" 3 fA F_asN) (DT : Dp P w T mg base T.C "top" 1 F_top) (DB : Dp P w T mg base T.C "bottom" 1 F_bottom) (MK2 : Dk P w T mg base T.C 1 fI (F_mk CZ)) : FnGk P w T.K mg base (L2.CX P w) 4 f fd ["self", "other"] (SpW T (F_num2 (· + ·))) := by
  refine Fun.doesG U sc_Ratio_add (fun ds c P R h => ?_) (fun Z c ds cdv A outer s H E B R rt hZ ok hr h => ?_)
  · obtain ⟨p, d, q, rfl, _⟩ := h
    rfl
  · obtain ⟨p, d, q, rfl, hn, hp, hq, h⟩ := h
    subst hZ
    refine (ss_cons (st_set (i := 2) ok (ev_df DA ok hr (by decide) (ea_cons (ev_var 1 rfl (n := num_own hn) (ea_nil ⟨_, _, rfl, hn, hq.mono (by decide), (ss_one (st_ret (ev_mk MK2 RC.m ok hr (by decide) (ea_cons (ev_add (ev_mul (ev_ftop rfl RC (ev_var 0 rfl ⟨_, rfl, (ev_dp DB RC.I.cl ok hr (by decide) (ev_var 2 rfl ⟨_, rfl, _, rfl, ⟨(by walk_at "mw"), (ev_mul (ev_dp DT RC.I.cl ok hr (by decide) (ev_var 2 rfl ⟨_, rfl, _, rfl, (ev_fbottom rfl RC (ev_var 0 rfl ⟨_, rfl, ⟨(by walk_at "mw"), (ea_cons (ev_mul (ev_fbottom rfl RC (ev_var 0 rfl ⟨_, rfl, (ev_dp DB RC.I.cl ok hr (by decide) (ev_var 2 rfl ⟨_, rfl, _, rfl, ⟨(by walk_at "mw"), (ea_nil ⟨_, _, rfl, fun z => ?_, fun _ => ⟨?_, ?_, ⟨rfl, ?_⟩⟩⟩)⟩⟩))⟩))))⟩⟩))⟩)))⟩⟩))⟩))))))))⟩))))))
    · exact absurd z (Int.mul_ne_zero (den_ne p) (den_ne q))
    · exact int_mono (int_add (int_mul hp.num hq.d) (int_mul hq.num hp.d)) (by decide)
    · exact int_mono (int_mul hp.d hq.d) (by decide)
    · rw [add_fr]
      exact h
theorem ok_Ratio_sub (U : Fun T.K "__sub__" "Ratio.__sub__" s_Ratio_sub f fd) (RC : RCls T.K mg T.C) (DA : Df P w T mg base "as_ratio" 3 fA F_asN) (DT : Dp P w T mg base T.C "top" 1 F_top) (DB : Dp P w T mg base T.C "bottom" 1 F_bottom) (MK2 : Dk P w T mg base T.C 1 fI (F_mk CZ)) : FnGk P w T.K mg base (L2.CX P w) 4 f fd ["self", "other"] (SpW T (F_num2 (· - ·))) := by
  refine Fun.doesG U sc_Ratio_sub (fun ds c P R h => ?_) (fun Z c ds cdv A outer s H E B R rt hZ ok hr h => ?_)
  · obtain ⟨p, d, q, rfl, _⟩ := h
    rfl
  · obtain ⟨p, d, q, rfl, hn, hp, hq, h⟩ := h
    subst hZ
    refine (ss_cons (st_set (i := 2) ok (ev_df DA ok hr (by decide) (ea_cons (ev_var 1 rfl (n := num_own hn) (ea_nil ⟨_, _, rfl, hn, hq.mono (by decide), (ss_one (st_ret (ev_mk MK2 RC.m ok hr (by decide) (ea_cons (ev_sub (ev_mul (ev_ftop rfl RC (ev_var 0 rfl ⟨_, rfl, (ev_dp DB RC.I.cl ok hr (by decide) (ev_var 2 rfl ⟨_, rfl, _, rfl, ⟨(by walk_at "mw"), (ev_mul (ev_dp DT RC.I.cl ok hr (by decide) (ev_var 2 rfl ⟨_, rfl, _, rfl, (ev_fbottom rfl RC (ev_var 0 rfl ⟨_, rfl, ⟨(by walk_at "mw"), (ea_cons (ev_mul (ev_fbottom rfl RC (ev_var 0 rfl ⟨_, rfl, (ev_dp DB RC.I.cl ok hr (by decide) (ev_var 2 rfl ⟨_, rfl, _, rfl, ⟨(by walk_at "mw"), (ea_nil ⟨_, _, rfl, fun z => ?_, fun _ => ⟨?_, ?_, ⟨rfl, ?_⟩⟩⟩)⟩⟩))⟩))))⟩⟩))⟩)))⟩⟩))⟩))))))))⟩))))))
    · exact absurd z (Int.mul_ne_zero (den_ne p) (den_ne q))
    · exact int_mono (int_sub (int_mul hp.num hq.d) (int_mul hq.num hp.d)) (by decide)
    · exact int_mono (int_mul hp.d hq.d) (by decide)
    · rw [sub_fr]
      exact h
theorem ok_Ratio_mul (U : Fun T.K "__mul__" "Ratio.__mul__" s_Ratio_mul f fd) (RC : RCls T.K mg T.C) (DA : Df P w T mg base "as_ratio" 3 fA F_asN) (DT : Dp P w T mg base T.C "top" 1 F_top) (DB : Dp P w T mg base T.C "bottom" 1 F_bottom) (MK2 : Dk P w T mg base T.C 1 fI (F_mk CZ)) : FnGk P w T.K mg base (L2.CX P w) 4 f fd ["self", "other"] (SpW T (F_num2 (· * ·))) := by
  refine Fun.doesG U sc_Ratio_mul (fun ds c P R h => ?_) (fun Z c ds cdv A outer s H E B R rt hZ ok hr h => ?_)
  · obtain ⟨p, d, q, rfl, _⟩ := h
    rfl
  · obtain ⟨p, d, q, rfl, hn, hp, hq, h⟩ := h
    subst hZ
    refine (ss_cons (st_set (i := 2) ok (ev_df DA ok hr (by decide) (ea_cons (ev_var 1 rfl (n := num_own hn) (ea_nil ⟨_, _, rfl, hn, hq.mono (by decide), (ss_one (st_ret (ev_mk MK2 RC.m ok hr (by decide) (ea_cons (ev_mul (ev_ftop rfl RC (ev_var 0 rfl ⟨_, rfl, (ev_dp DT RC.I.cl ok hr (by decide) (ev_var 2 rfl ⟨_, rfl, _, rfl, ⟨(by walk_at "mw"), (ea_cons (ev_mul (ev_fbottom rfl RC (ev_var 0 rfl ⟨_, rfl, (ev_dp DB RC.I.cl ok hr (by decide) (ev_var 2 rfl ⟨_, rfl, _, rfl, ⟨(by walk_at "mw"), (ea_nil ⟨_, _, rfl, fun z => ?_, fun _ => ⟨?_, ?_, ⟨rfl, ?_⟩⟩⟩)⟩⟩))⟩))))⟩⟩))⟩)))))))⟩))))))
    · exact absurd z (Int.mul_ne_zero (den_ne p) (den_ne q))
    · exact int_mono (int_mul hp.num hq.num) (by decide)
    · exact int_mono (int_mul hp.d hq.d) (by decide)
    · rw [mul_fr]
      exact h
theorem ok_Ratio_neg (U : Fun T.K "__neg__" "Ratio.__neg__" s_Ratio_neg f fd) (RC : RCls T.K mg T.C) (MK2 : Dk P w T mg base T.C 1 fI (F_mk CZ)) : FnGk P w T.K mg base (L2.CX P w) 3 f fd ["self"] (SpW T (fun ds c P R => ∃ p, ds = [.rat p] ∧ Sz 8500 p ∧ P (.rat (-p)) c)) := by
  refine Fun.doesG U sc_Ratio_neg (fun ds c P R h => ?_) (fun Z c ds cdv A outer s H E B R rt hZ ok hr h => ?_)
  · obtain ⟨p, rfl, _⟩ := h
    rfl
  · obtain ⟨p, rfl, hp, h⟩ := h
    subst hZ
    refine (ss_one (st_ret (ev_mk MK2 RC.m ok hr (by decide) (ea_cons (ev_neg (ev_ftop rfl RC (ev_var 0 rfl ⟨_, rfl, (ea_cons (ev_fbottom rfl RC (ev_var 0 rfl ⟨_, rfl, (ea_nil ⟨_, _, rfl, fun z => ?_, fun _ => ⟨?_, ?_, ⟨rfl, ?_⟩⟩⟩)⟩)))⟩)))))))
    · exact absurd z (den_ne p)
    · have := hp.num
      omega
    · exact hp.d
    · rw [neg_fr]
      exact h
theorem ok_Ratio_lt (U : Fun T.K "__lt__" "Ratio.__lt__" s_Ratio_lt f fd) (RC : RCls T.K mg T.C) (DA : Df P w T mg base "as_ratio" 3 fA F_asN) (DT : Dp P w T mg base T.C "top" 1 F_top) (DB : Dp P w T mg base T.C "bottom" 1 F_bottom) (MK2 : Dk P w T mg base T.C 1 fI (F_mk CZ)) : FnGk P w T.K mg base (L2.CX P w) 4 f fd ["self", "other"] (SpW T (F_cmp fun p q => decide (p < q))) := by
  refine Fun.doesG U sc_Ratio_lt (fun ds c P R h => ?_) (fun Z c ds cdv A outer s H E B R rt hZ ok hr h => ?_)
  · obtain ⟨p, d, q, rfl, _⟩ := h
    rfl
  · obtain ⟨p, d, q, rfl, hn, hp, hq, h⟩ := h
    subst hZ
    refine (ss_cons (st_set (i := 2) ok (ev_df DA ok hr (by decide) (ea_cons (ev_var 1 rfl (n := num_own hn) (ea_nil ⟨_, _, rfl, hn, hq.mono (by decide), (ss_one (st_ret (ev_lt (ev_mul (ev_ftop rfl RC (ev_var 0 rfl ⟨_, rfl, (ev_dp DB RC.I.cl ok hr (by decide) (ev_var 2 rfl ⟨_, rfl, _, rfl, ⟨(by walk_at "mw"), (ev_mul (ev_dp DT RC.I.cl ok hr (by decide) (ev_var 2 rfl ⟨_, rfl, _, rfl, (ev_fbottom rfl RC (ev_var 0 rfl ⟨_, rfl, ⟨(by walk_at "mw"), ⟨rfl, ?_⟩⟩⟩))⟩)))⟩⟩))⟩))))))⟩))))))
    rw [lt_fr]
    exact h
theorem ok_Ratio_le (U : Fun T.K "__le__" "Ratio.__le__" s_Ratio_le f fd) (RC : RCls T.K mg T.C) (DA : Df P w T mg base "as_ratio" 3 fA F_asN) (DT : Dp P w T mg base T.C "top" 1 F_top) (DB : Dp P w T mg base T.C "bottom" 1 F_bottom) (MK2 : Dk P w T mg base T.C 1 fI (F_mk CZ)) : FnGk P w T.K mg base (L2.CX P w) 4 f fd ["self", "other"] (SpW T (F_cmp fun p q => decide (p ≤ q))) := by
  refine Fun.doesG U sc_Ratio_le (fun ds c P R h => ?_) (fun Z c ds cdv A outer s H E B R rt hZ ok hr h => ?_)
  · obtain ⟨p, d, q, rfl, _⟩ := h
    rfl
  · obtain ⟨p, d, q, rfl, hn, hp, hq, h⟩ := h
    subst hZ
    refine (ss_cons (st_set (i := 2) ok (ev_df DA ok hr (by decide) (ea_cons (ev_var 1 rfl (n := num_own hn) (ea_nil ⟨_, _, rfl, hn, hq.mono (by decide), (ss_one (st_ret (ev_le (ev_mul (ev_ftop rfl RC (ev_var 0 rfl ⟨_, rfl, (ev_dp DB RC.I.cl ok hr (by decide) (ev_var 2 rfl ⟨_, rfl, _, rfl, ⟨(by walk_at "mw"), (ev_mul (ev_dp DT RC.I.cl ok hr (by decide) (ev_var 2 rfl ⟨_, rfl, _, rfl, (ev_fbottom rfl RC (ev_var 0 rfl ⟨_, rfl, ⟨(by walk_at "mw"), ⟨rfl, ?_⟩⟩⟩))⟩)))⟩⟩))⟩))))))⟩))))))
    rw [le_fr]
    exact h
def eqR (p : Rat) : D → Bool
  | .rat q => decide (p = q)
  | .int i => decide (p = (i : Rat))
  | _ => false
def F_eq : Fw := fun ds c P R => ∃ p d, ds = [.rat p, d] ∧ tyd d ∧ P (.bl (eqR p d)) c
theorem rat_eq_iff (p q : Rat) : p = q ↔ p.num = q.num ∧ (p.den : Int) = (q.den : Int) := ⟨fun h => by subst h; exact ⟨rfl, rfl⟩, fun h => Rat.ext h.1 (by have := h.2; omega)⟩
theorem ok_Ratio_eq {fW : Addr} (U : Fun T.K "__eq__" "Ratio.__eq__" s_Ratio_eq f fd) (RC : RCls T.K mg T.C) (mis : mg "isinstance" = none) (DT : Dp P w T mg base T.C "top" 1 F_top) (DB : Dp P w T mg base T.C "bottom" 1 F_bottom) (DW : Df P w T mg base "is_whole" 1 fW F_is_whole) :
    FnGk P w T.K mg base (L2.CX P w) 3 f fd ["self", "other"] (SpW T F_eq) := by
  refine Fun.doesG U sc_Ratio_eq (fun ds c P R h => ?_) (fun Z c ds cdv A outer s H E B R rt hZ ok hr h => ?_)
  · obtain ⟨p, d, rfl, _⟩ := h
    rfl
  · obtain ⟨p, d, rfl, hd, h⟩ := h
    obtain ⟨t, ht⟩ := tyV_some (T' := T) hd
    have own : isOwn d = false := by cases d <;> first | rfl | cases hd
    subst hZ
    refine ss_cons (st_if (et_val (ev_isinst rfl RC.I rfl mis (ea_cons (ev_var 1 rfl (n := own) (ea_cons (ev_globC rfl RC.m (ea_nil ⟨d, "", t, _, _, rfl, ht, .inr ⟨rfl, RC.kit ht⟩, _, rfl, fun hk => ?_, fun hk => ?_⟩))))))))
    · cases d <;> first | (cases hk; done) | skip
      case rat q =>
        refine ss_one (st_ret (ev_and (ev_eq (ev_ftop rfl RC (ev_var 0 rfl ⟨_, rfl, (ev_dp DT RC.I.cl ok hr (by decide) (ev_var 1 rfl ⟨_, rfl, _, rfl, ⟨_, rfl, ⟨_, rfl, fun hk => ?_, fun hk => ?_⟩⟩⟩))⟩)))))
        · have h1 : p.num = q.num := of_decide_eq_true hk
          refine ev_bone (ev_eq (ev_fbottom rfl RC (ev_var 0 rfl ⟨_, rfl, (ev_dp DB RC.I.cl ok hr (by decide) (ev_var 1 rfl ⟨_, rfl, _, rfl, ⟨_, rfl, rfl, ?_⟩⟩))⟩)))
          have e : decide ((p.den : Int) = (q.den : Int)) = eqR p (.rat q) := decide_eq_decide.mpr ⟨fun z => (rat_eq_iff p q).mpr ⟨h1, z⟩, fun z => ((rat_eq_iff p q).mp z).2⟩
          rw [e]
          exact h
        · have h1 : ¬ p.num = q.num := fun z => by rw [decide_eq_true z] at hk; cases hk
          refine ⟨rfl, ?_⟩
          have e : eqR p (.rat q) = false := decide_eq_false fun z => h1 (by rw [z])
          rw [e] at h
          exact h
    · refine ss_nil (ss_one (st_ret (ev_and (ev_df DW ok hr (by decide) (ea_cons (ev_var 1 rfl (n := own) (ea_nil ⟨d, rfl, hd, _, rfl, fun hk2 => ?_, fun hk2 => ?_⟩)))))))
      · cases d <;> first | (cases hk2; done) | skip
        case int i =>
          refine ev_and (ev_eq (ev_fbottom rfl RC (ev_var 0 rfl ⟨_, rfl, (ev_int ⟨_, rfl, ⟨_, rfl, fun hk => ?_, fun hk => ?_⟩⟩)⟩)))
          · have h1 : (p.den : Int) = 1 := of_decide_eq_true hk
            refine ev_bone (ev_eq (ev_ftop rfl RC (ev_var 0 rfl ⟨_, rfl, (ev_var 1 rfl ⟨_, rfl, rfl, ?_⟩)⟩)))
            have e : decide (p.num = i) = eqR p (.int i) := decide_eq_decide.mpr ⟨fun z => (rat_eq_iff p _).mpr ⟨by simpa using z, by simpa using h1⟩, fun z => by have := ((rat_eq_iff p _).mp z).1; simpa using this⟩
            rw [e]
            exact h
          · have h1 : ¬ (p.den : Int) = 1 := fun z => by rw [decide_eq_true z] at hk; cases hk
            refine ⟨rfl, ?_⟩
            have e : eqR p (.int i) = false := decide_eq_false fun z => h1 (by rw [z]; simp)
            rw [e] at h
            exact h
      · refine ⟨rfl, ?_⟩
        have e : eqR p d = false := by cases d <;> first | rfl | (cases hk; done) | (cases hk2; done)
        rw [e] at h
        exact h
/-! rules for the operators, by names -/
section
variable {Z : Zt} {ρ : Rho} {σ : St} {P' : D → Nat → Prop} {e a b : Expr} {pos : Pos} {j : Nat}
theorem ev_rle {fL : Addr} {F : Fw} {k : Nat} (D : Dm Z.X.prog Z.X.w Z.T Z.X.mg Z.X.base Z.T.C "__le__" k fL F) (ok : Zok Z) (hr : RoomG j Z.X.A) (hj : k ≤ j)
    (h : EV Z ρ a fun d1 c1 => EV Z (ρ.wc c1) b fun d2 c2 => ∃ p t, d1 = .rat p ∧ tyV Z.T d2 = some t ∧ F [d1, d2] c2 P' (fun _ _ => False)) : EV Z ρ (.Compare a [.LtE] [b] pos) P' := ev_cmpR (fun _ _ => rfl) (nomark _) D ok hr hj h
theorem ev_rlt {fL : Addr} {F : Fw} {k : Nat} (D : Dm Z.X.prog Z.X.w Z.T Z.X.mg Z.X.base Z.T.C "__lt__" k fL F) (ok : Zok Z) (hr : RoomG j Z.X.A) (hj : k ≤ j)
    (h : EV Z ρ a fun d1 c1 => EV Z (ρ.wc c1) b fun d2 c2 => ∃ p t, d1 = .rat p ∧ tyV Z.T d2 = some t ∧ F [d1, d2] c2 P' (fun _ _ => False)) : EV Z ρ (.Compare a [.Lt] [b] pos) P' := ev_cmpR (fun _ _ => rfl) (nomark _) D ok hr hj h
theorem ev_req {fL : Addr} {F : Fw} {k : Nat} (D : Dm Z.X.prog Z.X.w Z.T Z.X.mg Z.X.base Z.T.C "__eq__" k fL F) (ok : Zok Z) (hr : RoomG j Z.X.A) (hj : k ≤ j)
    (h : EV Z ρ a fun d1 c1 => EV Z (ρ.wc c1) b fun d2 c2 => ∃ p t, d1 = .rat p ∧ tyV Z.T d2 = some t ∧ F [d1, d2] c2 P' (fun _ _ => False)) : EV Z ρ (.Compare a [.Eq] [b] pos) P' := ev_cmpR (fun _ _ => rfl) (nomark _) D ok hr hj h
theorem et_rle {P' : Bool → Nat → Prop} {fL : Addr} {F : Fw} {k : Nat} (D : Dm Z.X.prog Z.X.w Z.T Z.X.mg Z.X.base Z.T.C "__le__" k fL F) (ok : Zok Z) (hr : RoomG j Z.X.A) (hj : k ≤ j)
    (h : EV Z ρ a fun d1 c1 => EV Z (ρ.wc c1) b fun d2 c2 => ∃ p t, d1 = .rat p ∧ tyV Z.T d2 = some t ∧ F [d1, d2] c2 (fun d c => ∃ k, d = .bl k ∧ P' k c) (fun _ _ => False)) : ET Z ρ (.Compare a [.LtE] [b] pos) P' := et_cmpR (fun _ _ => rfl) (nomark _) D ok hr hj h
theorem et_rlt {P' : Bool → Nat → Prop} {fL : Addr} {F : Fw} {k : Nat} (D : Dm Z.X.prog Z.X.w Z.T Z.X.mg Z.X.base Z.T.C "__lt__" k fL F) (ok : Zok Z) (hr : RoomG j Z.X.A) (hj : k ≤ j)
    (h : EV Z ρ a fun d1 c1 => EV Z (ρ.wc c1) b fun d2 c2 => ∃ p t, d1 = .rat p ∧ tyV Z.T d2 = some t ∧ F [d1, d2] c2 (fun d c => ∃ k, d = .bl k ∧ P' k c) (fun _ _ => False)) : ET Z ρ (.Compare a [.Lt] [b] pos) P' := et_cmpR (fun _ _ => rfl) (nomark _) D ok hr hj h
theorem et_req {P' : Bool → Nat → Prop} {fL : Addr} {F : Fw} {k : Nat} (D : Dm Z.X.prog Z.X.w Z.T Z.X.mg Z.X.base Z.T.C "__eq__" k fL F) (ok : Zok Z) (hr : RoomG j Z.X.A) (hj : k ≤ j)
    (h : EV Z ρ a fun d1 c1 => EV Z (ρ.wc c1) b fun d2 c2 => ∃ p t, d1 = .rat p ∧ tyV Z.T d2 = some t ∧ F [d1, d2] c2 (fun d c => ∃ k, d = .bl k ∧ P' k c) (fun _ _ => False)) : ET Z ρ (.Compare a [.Eq] [b] pos) P' := et_cmpR (fun _ _ => rfl) (nomark _) D ok hr hj h
end
end Q
end

section
set_option Elab.async false
set_option linter.all false
set_option maxRecDepth 100000
set_option maxHeartbeats 3900000
set_option exponentiation.threshold 20000
namespace Q
open PySem L2
variable {P : Program} {w : World} {T : Tab} {mg : Str → Option Value} {base : Heap} {f fA fI CZ : Addr} {fd : FuncData}
structure ROp (K : PySem.W.Frag) (C : Addr) (op : Operator) : Prop where
  h0 : PySem.W.findIn K (.ref C) (PySem.dunderR op.info.2) = some none
  h1 : ∃ fo, PySem.W.findIn K (.type "int") (PySem.dunder op.info.2) = some fo
  h2 : ∃ ro, PySem.W.findIn K (.type "int") (PySem.dunderR op.info.2) = some ro
theorem ev_ro {Z : Zt} {ρ : Rho} {P' : D → Nat → Prop} {a b : Expr} {pos : Pos} {j k : Nat} {F : Fw} {op : Operator} (D : Dm Z.X.prog Z.X.w Z.T Z.X.mg Z.X.base Z.T.C (PySem.dunder op.info.2) k f F) (O : ROp Z.T.K Z.T.C op) (RC : RCls Z.T.K Z.X.mg Z.T.C) (ok : Zok Z) (hr : RoomG j Z.X.A) (hj : k ≤ j)
    (h : EV Z ρ a fun d1 c1 => EV Z (ρ.wc c1) b fun d2 c2 => ∃ p q, d1 = .rat p ∧ numD d2 = some q ∧ F [d1, d2] c2 P' (fun _ _ => False)) : EV Z ρ (.BinOp a op b pos) P' := by
  obtain ⟨fo, h1⟩ := O.h1
  obtain ⟨ro, h2⟩ := O.h2
  exact ev_opR (rc := none) D RC ok hr hj O.h0 h1 h2 h
/-- the sum of numbers -/
def sumD : List D → Rat
  | [] => 0
  | d :: l => (numD d).getD 0 + sumD l
theorem Sz.zero : Sz 1 (0 : Rat) := ⟨by decide, by decide⟩
def F_total : Fw := fun ds c P R => ∃ (l : List D) (s : Nat), ds = [.lst l] ∧ (∀ d ∈ l, ∃ q, numD d = some q ∧ Sz s q) ∧ (s + 1) * (l.length + 1) ≤ 4000 ∧ P (.rat (sumD l)) c
theorem ok_total {fAd : Addr} (U : Fun T.K "total" "total" s_total f fd) (RC : RCls T.K mg T.C) (MK1 : Dk P w T mg base T.C 1 fI F_mk1) (DAd : Dm P w T mg base T.C "__add__" 4 fAd (F_num2 (· + ·))) (OA : ROp T.K T.C .Add) :
    FnGk P w T.K mg base (L2.CX P w) 5 f fd ["numbers"] (SpW T F_total) := by
  refine Fun.doesG U sc_total (fun ds c P R h => ?_) (fun Z c ds cdv A outer s H E B R rt hZ ok hr h => ?_)
  · obtain ⟨l, s, rfl, _⟩ := h
    rfl
  · obtain ⟨l, s', rfl, hl, hs, h⟩ := h
    have turn : ∀ (l1 l2 : List D) (acc : Rat) (v : V) (x : Option D), l = l1 ++ l2 → acc = sumD l1 → Sz ((s' + 1) * l1.length + 1) acc →
        turns (fun ρ y K => SS (Z.gh (.lst l) v) (ρ.set 2 y) [(((defBody s_total).getD 1 (.Pass ⟨0, 0, 0, 0⟩)) |> fun st => match st with | .For _ _ b _ _ => b.getD 0 (.Pass ⟨0, 0, 0, 0⟩) | x => x)] ⟨K, fun r => SS Z r ((defBody s_total).drop 2) ⟨fun r => rt .non r.c, fun _ => False, fun _ => False⟩, K⟩)
          (fun r => SS Z r ((defBody s_total).drop 2) ⟨fun r => rt .non r.c, fun _ => False, fun _ => False⟩) l2 ⟨B, [some (.lst l), some (.rat acc), x], c⟩ := by
      intro l1 l2
      induction l2 generalizing l1 with
      | nil =>
        intro acc v x e1 e2 e3
        rw [List.append_nil] at e1
        subst e1
        subst hZ
        refine ss_one (st_ret (ev_var 1 rfl ⟨rfl, ?_⟩))
        rw [e2]
        exact h
      | cons d r ih =>
        intro acc v x e1 e2 e3
        obtain ⟨q, hq, sq⟩ := hl d (by rw [e1]; simp)
        have hlen : l1.length + 1 ≤ l.length := by rw [e1]; simp
        have b1 : (s' + 1) * (l1.length + 1) ≤ (s' + 1) * (l.length + 1) := Nat.mul_le_mul_left _ (by omega)
        have b0 : s' + 1 ≤ (s' + 1) * (l.length + 1) := Nat.le_mul_of_pos_right _ (by omega)
        rw [Nat.mul_add, Nat.mul_one] at b1
        have next := ih (l1 ++ [d]) (acc + q) v (some d) (by rw [e1]; simp) (by
          rw [e2]
          have app : ∀ (a : List D), sumD (a ++ [d]) = sumD a + q := fun a => by
            induction a with
            | nil =>
              show (numD d).getD 0 + 0 = 0 + q
              rw [hq]
              show q + 0 = 0 + q
              grind
            | cons y a ih =>
              show (numD y).getD 0 + sumD (a ++ [d]) = (numD y).getD 0 + sumD a + q
              rw [ih]
              grind
          exact (app l1).symm) (by
          refine (e3.add sq).mono ?_
          rw [List.length_append, List.length_singleton, Nat.mul_add, Nat.mul_one]
          omega)
        subst hZ
        exact ss_one (st_set (i := 1) ok.gh (ev_ro DAd OA RC ok.gh hr (by decide) (ev_var 1 rfl (ev_var 2 rfl (n := num_own hq) ⟨_, _, rfl, hq, _, _, _, rfl, hq, e3.mono (by omega), sq.mono (by omega), next⟩))))
    subst hZ
    refine ss_cons (st_set (i := 1) ok (ev_mk MK1 RC.m ok hr (by decide) (ea_cons (ev_int (ea_nil ⟨0, rfl, by decide, ss_cons (st_for (i := 2) ok (ev_var 0 rfl ⟨l, rfl, fun v => ?_⟩))⟩)))))
    exact turn [] l _ v none rfl rfl (Sz.zero.mono (by omega))
theorem int_pow_lt {b : Int} {k : Nat} (h : b.natAbs < 2 ^ k) (n : Nat) : (b ^ n).natAbs ≤ 2 ^ (k * n) := by
  induction n with
  | zero => simp
  | succ n ih =>
    rw [Int.pow_succ, Int.natAbs_mul, Nat.mul_succ, Nat.pow_add]
    exact Nat.mul_le_mul ih (by omega)
theorem ev_odd {Z : Zt} {ρ : Rho} {P' : Bool → Nat → Prop} {a : Expr} {pos p2 : Pos} {j : Nat} (h : EV Z ρ a fun d c => ∃ n : Nat, d = .int (n : Int) ∧ P' (n % 2 == 1) c) : ET Z ρ (.BinOp a .BitAnd (.Constant (.int 1) j p2) pos) P' :=
  et_of (pt_truth (pe_op op_odd pe_any pe_int) (by intro _; rfl)) fun σ H Q S k => ev_any h S fun v H1 d c S1 e1 r ⟨n, hd, hp⟩ => by
    subst hd
    cases r
    refine ⟨n, rfl, rfl, n % 2 == 1, ?_, k _ H1 c S1 e1 hp⟩
    show (n % 2 == 1) = (((n % 2 : Nat) : Int) != 0)
    rcases Nat.mod_two_eq_zero_or_one n with e | e <;> rw [e] <;> rfl
theorem pow_fr (q : Rat) (n : Nat) : fr (q.num ^ n) ((q.den : Int) ^ n) = q ^ n := by
  have h := fr_self (q ^ n)
  rw [Rat.num_pow, Rat.den_pow] at h
  rw [← h]
  congr 1
end Q
end

section
set_option Elab.async false
set_option linter.all false
set_option maxRecDepth 100000
set_option maxHeartbeats 3900000
/-! W13: try, except. -/
namespace Q
open PySem L2
variable {Z : Zt} {ρ : Rho} {σ : St} {H H' : Hp} {O : Out} {P : D → Nat → Prop} {e a b : Expr} {pos p np apos pos' : Pos} {X : Cx} {k : Nat} {x n m : Str} {es : List Expr} {body suite : List Stmt} {b₀ : Stmt} {c : Value} {i : Nat}

/-- in which context the body of a try runs -/
abbrev Zt.tr (Z : Zt) (pn : List (Addr × Obj)) (xe : Value → Shared → Prop) (R : Er → Rho → Prop) : Zt := { Z with X := Z.X.tr pn xe, R := R }
/-- .. of an except suite -/
abbrev Zt.su (Z : Zt) (a : Addr) (oe : Obj) (pn : List (Addr × Obj)) : Zt := { Z with X := Z.X.suite a ((a, oe) :: pn), R := fun _ _ => False }
theorem SR.tr {pn xe R} (S : SR Z ρ σ H) : SR (Z.tr pn xe R) ρ σ H := ⟨S.ok, S.le, S.ex, S.sl, S.gh⟩
theorem SR.ofTr {pn xe R} (S : SR (Z.tr pn xe R) ρ σ H) : SR Z ρ σ H := ⟨S.ok, S.le, S.ex, S.sl, S.gh⟩
theorem SR.su {a oe pn} (S : SR Z ρ σ H) : SR (Z.su a oe pn) ρ σ H := ⟨S.ok, S.le, S.ex, S.sl, S.gh⟩
theorem SR.ofSu {a oe pn} (S : SR (Z.su a oe pn) ρ σ H) : SR Z ρ σ H := ⟨S.ok, S.le, S.ex, S.sl, S.gh⟩
theorem OK.tr {pn xe R} {D : Ends} (q : OK Z O D) : OK (Z.tr pn xe R) O D := ⟨fun σ H r S => q.nx σ H r S.ofTr, fun σ H r S => q.bk σ H r S.ofTr, fun σ H r S => q.ct σ H r S.ofTr, fun σ H r v d S => q.rt σ H r v d S.ofTr⟩
theorem OK.su {a oe pn} {D : Ends} (q : OK Z O D) : OK (Z.su a oe pn) O D := ⟨fun σ H r S => q.nx σ H r S.ofSu, fun σ H r S => q.bk σ H r S.ofSu, fun σ H r S => q.ct σ H r S.ofSu, fun σ H r v d S => q.rt σ H r v d S.ofSu⟩
theorem Zok.su (ok : Zok Z) (a : Addr) (oe : Obj) (pn : List (Addr × Obj)) : Zok (Z.su a oe pn) :=
  ⟨fun u s' ⟨_, _, _, _, _, _, _, _, _, _, _, _, _, _, _, _, _, _, _, _, w⟩ => w.elim, PassesOwn.never, ok.K, ok.nd⟩

/-- what is wished of an exception that leaves the body: except c: -/
def exOnly (Z : Zt) (c : Value) (suite : List Stmt) (O : Out) : Er → Rho → Prop := fun er ρ => ∃ b, PySem.W.exmOne Z.X.K (.ref er.1) c = some b ∧
  (b = true → ∀ a oe pn, Zok (Z.su a oe pn) → SS (Z.su a oe pn) ρ suite O) ∧ (b = false → Z.R er ρ)
theorem st_try (ok : Zok Z) (hc : Names Z.X x c) (h : ∀ pn xe, Zok (Z.tr pn xe (exOnly Z c (b₀ :: suite) O)) → SS (Z.tr pn xe (exOnly Z c (b₀ :: suite) O)) ρ body O)
    (hs : Z.X.stack = Z.X.env :: Z.X.outer := by rfl) (hf : Z.X.env.frame = some Z.X.env.locals := by rfl) : ST Z ρ (.Try body [.ExceptHandler (some (.Name x np)) none (b₀ :: suite) pos'] [] [] pos) O := by
  refine st_of (ps_try_only (tb := fun W D σ H => SR Z ρ σ H ∧ OK Z O D ∧ ∀ cls d σ' H', (∃ ρ er, SR Z ρ σ' H' ∧ erRel Z.T (vis ρ.B H') er cls d ∧ exOnly Z c (b₀ :: suite) O er ρ) → W cls d σ' H')
    (ts := fun a cls d D σ H => ∀ oe pn, tssAny (Z.X.suite a ((a, oe) :: pn)) (b₀ :: suite) D σ H) hs hf hc ok.tk (fun W pn xe tk po => ⟨fun pins s σ H D I ⟨S, q, hW⟩ => ?_⟩) (fun a oe cls d pn hz hf => ⟨fun pins s σ H D I h => pss_any.run pins s σ H D I (h oe pn)⟩)) fun D σ H S q => ⟨S, q, fun cls d σ' H' ⟨ρ', er, S', hr, hb⟩ => ?_⟩
  · have ok1 : Zok (Z.tr pn xe (exOnly Z c (b₀ :: suite) O)) := ⟨tk.imp fun cls d σ' H' ⟨ρ', er, S', hr, hb⟩ => hW cls d σ' H' ⟨ρ', er, S'.ofTr, hr, hb⟩, po, ok.K, ok.nd⟩
    exact (h pn xe ok1).run pins s σ H D I ⟨S.tr, q.tr⟩
  · obtain ⟨b, h1, h2, h3⟩ := hb
    obtain ⟨hcl, hd⟩ := hr
    subst hcl
    refine ⟨b, h1, fun e a ha oe pn => ⟨_, h2 e a oe pn (ok.su a oe pn), S'.su, q.su⟩, fun e => ⟨ρ', er, S', ⟨rfl, hd⟩, h3 e⟩⟩

/-- the datum of a caught exception -/
def caught (a : Addr) (p : Addr) : Option (Str × D) → D
  | none => .cls a
  | some (f, d) => .err a p f d
/-- except c as n: -/
def exAs (Z : Zt) (c : Value) (i : Nat) (suite : List Stmt) (O : Out) : Er → Rho → Prop := fun er ρ => ∃ b, PySem.W.exmOne Z.X.K (.ref er.1) c = some b ∧
  (b = true → ∀ a oe pn p, Zok (Z.su a oe pn) → L2.Zc (.ref er.1) (er.2.map fun _ => p) oe → (∃ vs, oe.data = .fields vs) → SS (Z.su a oe pn) (ρ.set i (caught a p er.2)) suite ⟨fun r => O.nx (r.unset i), fun r => O.bk (r.unset i), fun r => O.ct (r.unset i)⟩) ∧ (b = false → Z.R er ρ)
theorem st_tryAs (i : Nat) (ok : Zok Z) (hc : Names Z.X x c) (h : ∀ pn xe, Zok (Z.tr pn xe (exAs Z c i (b₀ :: suite) O)) → SS (Z.tr pn xe (exAs Z c i (b₀ :: suite) O)) ρ body O) (hi : Z.X.N[i]? = some n := by rfl) (hln : Z.X.env.kindOf n = some .local := by rfl)
    (hs : Z.X.stack = Z.X.env :: Z.X.outer := by rfl) (hf : Z.X.env.frame = some Z.X.env.locals := by rfl) : ST Z ρ (.Try body [.ExceptHandler (some (.Name x np)) (some n) (b₀ :: suite) pos'] [] [] pos) O := by
  refine st_of (ps_try_as (tb := fun W D σ H => SR Z ρ σ H ∧ OK Z O D ∧ ∀ cls d σ' H', (∃ ρ er, SR Z ρ σ' H' ∧ erRel Z.T (vis ρ.B H') er cls d ∧ exAs Z c i (b₀ :: suite) O er ρ) → W cls d σ' H')
    (ts := fun a cls d D σ H => ∀ oe pn, L2.Zc cls d oe → (∃ vs, oe.data = .fields vs) → tssAny (Z.X.suite a ((a, oe) :: pn)) (b₀ :: suite) D σ H) hs hf ok.nd hi hln hc ok.tk (fun W pn xe tk po => ⟨fun pins s σ H D I ⟨S, q, hW⟩ => ?_⟩) (fun a oe cls d pn hz hf => ⟨fun pins s σ H D I h => pss_any.run pins s σ H D I (h oe pn hz hf)⟩)) fun D σ H S q => ⟨S, q, fun cls d σ' H' ⟨ρ', er, S', hr, hb⟩ => ?_⟩
  · have ok1 : Zok (Z.tr pn xe (exAs Z c i (b₀ :: suite) O)) := ⟨tk.imp fun cls d σ' H' ⟨ρ', er, S', hr, hb⟩ => hW cls d σ' H' ⟨ρ', er, S'.ofTr, hr, hb⟩, po, ok.K, ok.nd⟩
    exact (h pn xe ok1).run pins s σ H D I ⟨S.tr, q.tr⟩
  · obtain ⟨b, h1, h2, h3⟩ := hb
    refine ⟨b, ?_, fun e a ha oe pn hz hf => ?_, fun e => ⟨ρ', er, S', hr, h3 e⟩⟩
    · rw [hr.1]
      exact h1
    · have q' : OK (Z.su a oe pn) ⟨fun r => O.nx (r.unset i), fun r => O.bk (r.unset i), fun r => O.ct (r.unset i)⟩ { nx := fun σ' H' => D.nx (σ'.set i none) H', rt := D.rt, bk := fun σ' H' => D.bk (σ'.set i none) H', ct := fun σ' H' => D.ct (σ'.set i none) H' } :=
        ⟨fun σ H r S x => q.nx _ H _ (S.ofSu.unset i) x, fun σ H r S x => q.bk _ H _ (S.ofSu.unset i) x, fun σ H r S x => q.ct _ H _ (S.ofSu.unset i) x, fun σ H r v d S => q.rt σ H r v d S.ofSu⟩
      obtain ⟨C, o⟩ := er
      obtain ⟨hcl, hd⟩ := hr
      have hcl' : cls = .ref C := hcl
      subst hcl'
      cases o with
      | none =>
        have hd' : d = none := hd
        subst hd'
        exact ⟨_, h2 e a oe pn a (ok.su a oe pn) hz hf, (S'.set i (d := .cls a) (v := .ref a) rfl).su, q'⟩
      | some fd =>
        obtain ⟨p, v, rfl, h5, h6⟩ := hd
        exact ⟨_, h2 e a oe pn p (ok.su a oe pn) hz hf, (S'.set i (d := .err a p fd.1 fd.2) (v := .ref a) ⟨rfl, v, h5, h6⟩).su, q'⟩
/-- e.f, e the caught exception -/
theorem ev_xf {a0 C p0 : Addr} {oe : Obj} {pn : List (Addr × Obj)} {f : Str} (T : XfC Z.X.K C) (hno : PySem.W.findIn Z.X.K (.ref C) f = some none) (hz : L2.Zc (.ref C) (some p0) oe) (hf : ∃ vs, oe.data = .fields vs)
    (h : EV (Z.su a0 oe pn) ρ e fun d c => ∃ d', d = .err a0 p0 f d' ∧ P d' c) (hb : attributeBase e f Z.X.env (eval e Z.X.env) = eval e Z.X.env := by rfl) : EV (Z.su a0 oe pn) ρ (.Attribute e f pos) P :=
  ev_of (pe_xf T hno hz hf pe_any hb) fun σ H Q S k => ev_any h S fun v H1 d c1 S1 e1 r ⟨d', hd, hp⟩ => by
    subst hd
    obtain ⟨hv, w, h1, h2⟩ := r
    refine ⟨hv, rfl, p0, _, w, rfl, vis_some h1, ?_, (k.from (c := c1) e1).here S1 hp (.of h2)⟩
    simp
end Q
end

section
set_option Elab.async false
set_option linter.all false
set_option maxRecDepth 100000
set_option maxHeartbeats 3900000
/-! W14: repr, {}, xs + ys. -/
namespace Q
open PySem L2
variable {Z : Zt} {ρ : Rho} {σ : St} {H H' : Hp} {O : Out} {P : D → Nat → Prop} {e a b : Expr} {pos p apos : Pos} {X : Cx} {k : Nat} {x n m : Str} {es : List Expr}

/-- room where repr may run -/
structure ReprAt (A : Around) : Prop where
  g : A.guards = some []
  u : A.units + 62 < cLine
theorem RoomG.repr {A : Around} (h : RoomG k A) : ReprAt A := ⟨h.g, by have := h.r.units; omega⟩
def rRepr (K : PySem.W.Frag) : List V → Hp → VK → Prop := fun xs H Q => ∃ v, xs = [v] ∧
  ((∃ p, L2.Dp K H v p ∧ p.showable = true ∧ p.hasDict = false ∧ p.depth < 40 ∧ p.shown.length ≤ sizeLine ∧ Q (.str p.shown) H) ∨ ∃ a, v = .ref a ∧ H a = some (.dK []) ∧ Q (.str "{}") H)
theorem call_reprD (h : ReprAt X.A) : CallR X (.builtin "repr") (rRepr X.K) := by
  intro pins s σ H xs us Q I r hq
  obtain ⟨v, rfl, hq⟩ := hq
  obtain ⟨u, rfl, ru⟩ := vals1 r; rcases hq with ⟨p, hd, hs, hn, hdp, hz, q⟩ | ⟨a, rfl, ha, q⟩
  · have fin : ∀ h' t tk, (∀ b o, s.heap.get? b = some o → h'.get? b = some o) → EP X pins σ Q (.str p.shown t) { s with heap := h', toks := tk } := fun h' t tk hk => ⟨.str p.shown, H, I.kept hk, ⟨t, rfl⟩, q⟩
    obtain ⟨as, rd⟩ := L2.Dp.reads I p v u hd ru
    have heap : ∀ a, u = .ref a → wpAny (model X.prog X.w) X.A (call (.builtin "repr") [u]) (EP X pins σ Q) X.xe s := fun a e => by
      subst e
      exact repr_of_reads' rd hs (fun z => by rw [hn] at z; cases z) h.g (by have := h.u; omega) (fun _ _ z => z) (fun h' t tk hk => fin h' t tk hk) hz
    cases rd with
    | none => exact PySem.P.repr_of_none (fin s.heap _ _ fun _ _ z => z)
    | bool b => exact PySem.P.repr_of_bool (by
        have := fin s.heap s.toks (s.toks + 1) fun _ _ z => z
        cases b <;> exact this)
    | int i t =>
      have hs' : decide (i.natAbs.log2 < 1920) = true := hs
      exact PySem.P.repr_of_int (of_decide_eq_true hs') (fin s.heap _ _ fun _ _ z => z)
    | str x t => exact PySem.P.repr_of_str (fin s.heap _ _ fun _ _ z => z) hz
    | list => exact heap _ rfl
    | tuple => exact heap _ rfl
    | dict => exact heap _ rfl
  · obtain rfl : u = Value.ref a := ru
    obtain ⟨hz, hsm, vs, kv, hd⟩ := I.hok a _ ha
    cases kv
    obtain ⟨o, es, ep, ho, hx, hda, _, hr, _⟩ := hd
    have hes : es.toList = [] := by
      generalize es.toList = l at hr
      cases l with
      | nil => rfl
      | cons _ _ => cases hr
    refine repr_of_reads' (d := .dict []) (as := [a]) (.dict (kvs := []) (as := []) (bs := []) ho hx.1 hda (by rw [hes]; exact .nil) (by rw [hes]; exact .nil)) rfl (fun _ z => by
      cases z with
      | head => simp at hsm
      | tail _ z => cases z) h.g (by have := h.u; show X.A.units + (PyData.depth (.dict []) + 1) < cLine; simp [PyData.depth, PyData.depthKv]; omega) (fun _ _ z => z) (fun h' t tk hk => ⟨.str "{}", H, I.kept hk, ⟨t, rfl⟩, q⟩) (by decide)
theorem ev_repr (h0 : ReprAt Z.X.A) (hK : Z.X.K = Z.T.K) (hg : Gl Z.X "repr") (hm : Z.X.mg "repr" = none)
    (h : EA Z ρ [a] fun ds c => ∃ d, ds = [d] ∧ ((∃ p, toP d = some p ∧ p.showable = true ∧ p.hasDict = false ∧ p.depth < 40 ∧ p.shown.length ≤ sizeLine ∧ P (.str p.shown) c) ∨ (d = .dct [] [] ∧ P (.str "{}") c)))
    (he : starEach [a] Z.X.env = (false, eval a Z.X.env) :: starEach [] Z.X.env := by rfl) : EV Z ρ (.Call (.Name "repr" p) [a] [] pos) P :=
  ev_blt (call_reprD h0) hg hm (by decide +kernel) (h.mono fun ds c ⟨d, hds, h⟩ σ H vs Q S r k => by
    subst hds
    obtain ⟨v, rfl, hv⟩ := pr1 r
    refine ⟨v, rfl, ?_⟩
    rw [hK]
    rcases h with ⟨p, hp, h1, h2, h3, h4, h5⟩ | ⟨rfl, h5⟩
    · exact .inl ⟨p, toP_ok hp (val_rep hv (toP_plain hp)), h1, h2, h3, h4, k.here S h5 rfl⟩
    · obtain ⟨a, kvs, rfl, h6, h7, h8⟩ := hv
      cases kvs with
      | nil => exact .inr ⟨a, rfl, vis_some h6, k.here S h5 rfl⟩
      | cons _ _ => cases h7) (he := he)
/-- xs + ys -/
theorem ev_cat (h : EV Z ρ a fun d1 c1 => EV Z (ρ.wc c1) b fun d2 c2 => ∃ l1 l2, d1 = .lst l1 ∧ d2 = .lst l2 ∧ l1.length + l2.length ≤ 100000 ∧ P (.lst (l1 ++ l2)) c2) : EV Z ρ (.BinOp a .Add b pos) P :=
  ev_two op_cat (h.mono fun d1 c1 h2 => h2.mono fun d2 c2 ⟨l1, l2, e1, e2, hl, hp⟩ σ H v1 v2 Q S r1 r2 k => by
    subst e1 e2
    obtain ⟨q1, vs1, rfl, h1, g1⟩ := r1
    obtain ⟨q2, vs2, rfl, h2, g2⟩ := r2
    refine ⟨q1, q2, vs1, vs2, rfl, rfl, vis_some h1, vis_some h2, ?_, fun d hd => ?_⟩
    · rw [g1.len, g2.len]
      exact sizeS hl
    · have S' := S.same (same_new (o := .lst (vs1 ++ vs2)) hd)
      have e := Same.vis_ (B := ρ.B) (same_new (o := .lst (vs1 ++ vs2)) hd)
      exact k _ _ _ _ S' e (.of (d := .lst (l1 ++ l2)) ⟨d, _, rfl, new_at S hd, (g1.append g2).mono e⟩) hp)
/-- {} -/
theorem ev_dct0 (h : P (.dct [] []) ρ.c) : EV Z ρ (.Dict [] [] pos) P := ev_of pe_dnewK fun σ H Q S k => by
  intro d hd
  have S' := S.same (same_new (o := .dK []) hd)
  exact k _ _ _ _ S' (Same.vis_ (same_new hd)) (.of (d := .dct [] []) ⟨d, [], rfl, new_at S hd, rfl, rfl⟩) h
end Q
end

section
set_option Elab.async false
set_option linter.all false
set_option maxRecDepth 100000
set_option maxHeartbeats 3900000
/-! W15: calls by keywords (no values by place, but the object). -/
namespace Q
open PySem L2
variable {Z : Zt} {ρ : Rho} {σ : St} {H H' : Hp} {O : Out} {P : D → Nat → Prop} {P' : D → Nat → Prop} {e a b : Expr} {pos p apos kpos : Pos} {X : Cx} {k j : Nat} {f C : Addr} {F : Fw} {x n m name : Str} {es : List Expr} {kws : List Keyword} {ks : List Str}
  {prog : Program} {w : World} {K : PySem.W.Frag} {mg : Str → Option Value} {base : Heap} {CX : CXT} {fd : FuncData} {ps : List Str} {sp : Sp}

/-- the parameters' order: the values by place, then those by keyword (r: from the last one) -/
def kg (r : Bool) {α : Type} (us ws : List α) : List α := us ++ if r then ws.reverse else ws
theorem vals_rev : ∀ {vs : List V} {us : List Value}, Vals vs us → Vals vs.reverse us.reverse
  | _, _, .nil => .nil
  | _, _, .cons r t => by
    rw [List.reverse_cons, List.reverse_cons]; exact (vals_rev t).append (.cons r .nil)
theorem kg_vals {r : Bool} {vs zs : List V} {us ws : List Value} (h : Vals vs us) (h' : Vals zs ws) : Vals (kg r vs zs) (kg r us ws) := by
  unfold kg
  cases r with
  | true => exact h.append (vals_rev h')
  | false => exact h.append h'
theorem pr_append {T : Tab} {B : Bm} {G : Hp} : ∀ {ds ds' : List D} {vs vs' : List V}, Paired (val T B G) ds vs → Paired (val T B G) ds' vs' → Paired (val T B G) (ds ++ ds') (vs ++ vs')
  | _, _, _, _, .nil, h => h
  | _, _, _, _, .cons r t, h => .cons r (pr_append t h)
theorem pr_rev {T : Tab} {B : Bm} {G : Hp} : ∀ {ds : List D} {vs : List V}, Paired (val T B G) ds vs → Paired (val T B G) ds.reverse vs.reverse
  | _, _, .nil => .nil
  | _, _, .cons r t => by
    rw [List.reverse_cons, List.reverse_cons]; exact pr_append (pr_rev t) (.cons r .nil)
theorem kg_pr {T : Tab} {B : Bm} {G : Hp} {r : Bool} {ds zs : List D} {vs ws : List V} (h : Paired (val T B G) ds vs) (h' : Paired (val T B G) zs ws) : Paired (val T B G) (kg r ds zs) (kg r vs ws) := by
  unfold kg
  cases r with
  | true => exact pr_append h (pr_rev h')
  | false => exact pr_append h h'
/-- how a def binds n values and the keywords ks -/
def Bk (K : PySem.W.Frag) (fd : FuncData) (ps : List Str) (n : Nat) (ks : List Str) (r : Bool) : Prop :=
  ∀ (s : Shared) (us ws : List Value), K.In s.heap → us.length = n → ws.length = ks.length → BindsTo s fd ⟨us, ks.zip ws⟩ (ps.zip (kg r us ws))
/-- a def called by keywords -/
def FnK (P : Program) (w : World) (K : PySem.W.Frag) (mg : Str → Option Value) (base : Heap) (CX : CXT) (k : Nat) (f : Addr) (n : Nat) (ks : List Str) (r : Bool) (sp : Sp) : Prop :=
  ∀ (A : Around) (outer : List Env) (s : Shared) (H : Hp) (us ws : List Value) (vs zs : List V) (Q : VK) (E : XK), RoomG k A → Env0 P w K mg base A outer s H → Vals vs us → Vals zs ws → vs.length = n → zs.length = ks.length → sp (kg r vs zs) H Q E →
    codeAny (model P w) A (.call (.ref f) ⟨us, ks.zip ws⟩) (CR CX outer P w H s Q E) s
theorem FnGk.keys {n : Nat} {r : Bool} (F : FnGk prog w K mg base CX k f fd ps sp) (hb : Bk K fd ps n ks r) : FnK prog w K mg base CX k f n ks r sp := by
  intro A outer s H us ws vs zs Q E room e0 rv rz l1 l2 q
  exact F.run A outer s H _ (kg r us ws) (kg r vs zs) Q E room e0 (hb s us ws (e0.mod.kin.keeps fun b o e => (e0.bs b o e).1) (by rw [← rv.length]; exact l1) (by rw [← rz.length]; exact l2)) (kg_vals rv rz) q
theorem runK {pins : List (Addr × Obj)} {s : Shared} {W : WX} {Q : VK} {us ws : List Value} {vs zs : List V} {n : Nat} {r : Bool} (G : FnK X.prog X.w X.K X.mg X.base (L2.CX X.prog X.w) k f n ks r sp) (hr : RoomG k X.A) (tk : Takes X W)
    (I : Inv X pins σ H s) (rv : Vals vs us) (rz : Vals zs ws) (l1 : vs.length = n) (l2 : zs.length = ks.length) (h : sp (kg r vs zs) H Q (fun c d H' => W c d σ H')) : wpAny (model X.prog X.w) X.A (call (.ref f) us (ks.zip ws)) (EP X pins σ Q) X.xe s := by
  refine wpAny_call (codeAny_mono (G X.A X.stack s H us ws vs zs Q _ hr I.env0 rv rz l1 l2 h) ?_)
  intro r s' hq
  match r, hq with
  | .error er, hq => exact tk er s' (XE.of_call I (fun _ _ _ z => z) hq)
  | .ok (.ret u), hq => exact I.after hq
theorem runMkK {pins : List (Addr × Obj)} {s : Shared} {W : WX} {Q : VK} {us ws : List Value} {vs zs : List V} {n : Nat} {r : Bool} (M : Mk X.K C f) (G : FnK X.prog X.w X.K X.mg X.base (L2.CX X.prog X.w) k f (n + 1) ks r sp) (hr : RoomG (k + 1) X.A) (tk : Takes X W)
    (I : Inv X pins σ H s) (rv : Vals vs us) (rz : Vals zs ws) (l1 : vs.length = n) (l2 : zs.length = ks.length)
    (h : ∀ x dx, H x = none → H dx = none → dx ≠ x → sp (kg r (.ref x :: vs) zs) (upd (upd H dx (.own x)) x (.ins C dx [])) (fun v H2 => v = .non ∧ Q (.ref x) H2) (fun c d H' => W c d σ H')) : wpAny (model X.prog X.w) X.A (call (.ref C) us (ks.zip ws)) (EP X pins σ Q) X.xe s := by
  have I2 := Inv.made (C := C) I; have hq := h (s.heap.objs.size + 1) s.heap.objs.size (I.hok.fresh (Nat.le_succ _)) (I.hok.fresh (Nat.le_refl _)) (Nat.ne_of_lt (Nat.lt_succ_self _))
  have g := G _ X.stack _ _ (Value.ref (s.heap.objs.size + 1) :: us) ws (V.ref (s.heap.objs.size + 1) :: vs) zs _ _ (hr.make C us (ks.zip ws)) (I2.env0.make C us (ks.zip ws)) (.cons rfl rv) rz (congrArg Nat.succ l1) l2 hq
  refine wpAny_call (make_map (f := f) I.kIn M.makes M.init (beq_iff_eq.mp M.fn) (codeAny_mono g ?_))
  intro r s' hq'
  match r, hq' with
  | .error er, hq' => exact tk er s' (XE.of_call I2 (fun _ _ _ z => z) hq')
  | .ok (.ret u), hq' =>
    obtain ⟨v, H3, I3, rv, ev, q3⟩ := I2.after hq'
    subst ev
    exact ⟨rv, V.ref (s.heap.objs.size + 1), H3, I3, rfl, q3⟩

/-! ### the keywords' values -/
def EK (Z : Zt) (ρ : Rho) (kws : List Keyword) (P : List D → Nat → Prop) : Prop := PK Z.X kws (Z.tA ρ P)
def tkAny (X : Cx) (kws : List Keyword) : TA := fun σ H Q => ∃ t : TA, PK X kws t ∧ t σ H Q
theorem pk_any : PK X kws (tkAny X kws) := ⟨fun pos pins s σ H Q I h => let ⟨t, p, q⟩ := h; p.run pos pins s σ H Q I q⟩
theorem pk_imp {t t' : TA} (p : PK X kws t) (h : ∀ σ H Q, t' σ H Q → t σ H Q) : PK X kws t' := ⟨fun pos pins s σ H Q I q => p.run pos pins s σ H Q I (h σ H Q q)⟩
theorem ek_nil {P : List D → Nat → Prop} (h : P [] ρ.c) : EK Z ρ [] P := pk_imp pk_nil fun σ H Q q => q.2 [] H [] ρ.c q.1 (fun _ _ z => z) .nil h
theorem ek_cons {P : List D → Nat → Prop} {nm : Option Str} (h : EV Z ρ e fun d c => EK Z (ρ.wc c) kws fun ds c' => P (d :: ds) c') : EK Z ρ (⟨nm, e, kpos⟩ :: kws) P :=
  pk_imp (pk_cons pe_any pk_any) fun σ H Q q => ev_any h q.1 fun v H1 d c S1 e1 r h2 => ⟨_, h2, S1, fun vs H' ds c' S' e' r' p => q.2 (v :: vs) H' (d :: ds) c' S' (fun _ _ z => e' _ _ (e1 _ _ z)) (.cons (r.mono e') r') p⟩
theorem ek_any {P : List D → Nat → Prop} {Q : List V → Hp → Prop} (h : EK Z ρ kws P) (S : SR Z ρ σ H) (k : PostA Z ρ σ H P Q) : tkAny Z.X kws σ H Q := ⟨_, h, S, k⟩

/-! ### f(k = v, ..) -/
def tKeys (X : Cx) (kws : List Keyword) (ks : List Str) (r : Bool) (sp : Sp) (W : WX) : TE := fun σ H Q => tkAny X kws σ H fun zs H2 => zs.length = ks.length ∧ sp (kg r [] zs) H2 Q (fun c d H' => W c d σ H')
theorem pe_keys {W : WX} {r : Bool} (G : FnK X.prog X.w X.K X.mg X.base (L2.CX X.prog X.w) k f 0 ks r sp) (hr : RoomG k X.A) (tk : Takes X W) (hg : Gl X x) (hm : X.mg x = some (.ref f)) (hk : PySem.W.keepIn X.K (.ref f) = true)
    (hall : (backToKw pos (keywordEach kws X.env)).all (·.1.isSome) = true := by rfl)
    (hks : (backToKw pos (keywordEach kws X.env)).filterMap (·.1) = ks := by rfl) (hdb : (x == ("__debug__" : Str)) = false := by decide)
    (hpl : ((backTo pos (starEach [] X.env)).any (·.1) || (backToKw pos (keywordEach kws X.env)).any (·.1.isNone)) = false := by rfl) : PE X (.Call (.Name x p) [] kws pos) (tKeys X kws ks r sp W) := ⟨fun pins s σ H Q I h => by
  refine wpAny_Call_Name_kw (ld_glob I hg hm (PySem.W.callWith_KW0 (h₀ := X.base) I.ok.mod.kin hk hall (thn (pk_any.run pos pins s σ H _ I h) fun ws s2 ⟨zs, H2, I2, rz, l2, q2⟩ => ⟨I2.kIn, ?_⟩) hpl) hdb)
  rw [hks]
  exact runK (us := []) (vs := []) G hr tk I2 .nil rz rfl l2 q2⟩
/-- a def of the top that is called by keywords -/
structure Dw (P : Program) (w : World) (T : Tab) (mg : Str → Option Value) (base : Heap) (name : Str) (k : Nat) (f : Addr) (ks : List Str) (r : Bool) (F : Fw) : Prop where
  g : FnK P w T.K mg base (L2.CX P w) k f 0 ks r (SpW T F)
  m : mg name = some (.ref f)
  kp : PySem.W.keepIn T.K (.ref f) = true
theorem ev_dw {r : Bool} (D : Dw Z.X.prog Z.X.w Z.T Z.X.mg Z.X.base name k f ks r F) (ok : Zok Z) (hr : RoomG j Z.X.A) (hj : k ≤ j) (h : EK Z ρ kws fun ds c => ds.length = ks.length ∧ F (kg r [] ds) c P' (fun er c' => Z.R er (ρ.wc c'))) (hg : Gl Z.X name := by rfl)
    (hall : (backToKw pos (keywordEach kws Z.X.env)).all (·.1.isSome) = true := by rfl) (hks : (backToKw pos (keywordEach kws Z.X.env)).filterMap (·.1) = ks := by rfl) (hdb : (name == ("__debug__" : Str)) = false := by decide)
    (hpl : ((backTo pos (starEach [] Z.X.env)).any (·.1) || (backToKw pos (keywordEach kws Z.X.env)).any (·.1.isNone)) = false := by rfl) : EV Z ρ (.Call (.Name name p) [] kws pos) P' :=
  ev_of (pe_keys (by rw [ok.K]; exact D.g) (hr.mono hj) ok.tk hg D.m (by rw [ok.K]; exact D.kp) hall hks hdb hpl) fun σ H Q S q => ek_any h S fun vs H1 ds c S1 e1 rr ⟨hl, h1⟩ =>
    ⟨by rw [pr_len rr]; exact hl, sp_at (ρ := ρ.wc c) S1 (kg_pr (ds := []) .nil rr) h1 (q.from (c := c) e1)⟩
/-! ### C(k = v, ..) -/
def tMakeKs (X : Cx) (C : Addr) (kws : List Keyword) (ks : List Str) (r : Bool) (sp : Sp) (W : WX) : TE := fun σ H Q => tkAny X kws σ H fun zs H1 => zs.length = ks.length ∧ ∀ x dx, H1 x = none → H1 dx = none → dx ≠ x →
  sp (kg r [.ref x] zs) (upd (upd H1 dx (.own x)) x (.ins C dx [])) (fun v H2 => v = .non ∧ Q (.ref x) H2) (fun c d H' => W c d σ H')
theorem pe_makeKs {W : WX} {r : Bool} (M : Mk X.K C f) (G : FnK X.prog X.w X.K X.mg X.base (L2.CX X.prog X.w) k f 1 ks r sp) (hr : RoomG (k + 1) X.A) (tk : Takes X W) (hg : Gl X x) (hm : X.mg x = some (.ref C))
    (hall : (backToKw pos (keywordEach kws X.env)).all (·.1.isSome) = true := by rfl)
    (hks : (backToKw pos (keywordEach kws X.env)).filterMap (·.1) = ks := by rfl) (hdb : (x == ("__debug__" : Str)) = false := by decide)
    (hpl : ((backTo pos (starEach [] X.env)).any (·.1) || (backToKw pos (keywordEach kws X.env)).any (·.1.isNone)) = false := by rfl) : PE X (.Call (.Name x p) [] kws pos) (tMakeKs X C kws ks r sp W) := ⟨fun pins s σ H Q I h => by
  refine wpAny_Call_Name_kw (ld_glob I hg hm (PySem.W.callWith_KW0 (h₀ := X.base) I.ok.mod.kin M.kp hall (thn (pk_any.run pos pins s σ H _ I h) fun ws s2 ⟨zs, H2, I2, rz, l2, q2⟩ => ⟨I2.kIn, ?_⟩) hpl) hdb)
  rw [hks]
  exact runMkK (n := 0) (us := []) (vs := []) M G hr tk I2 .nil rz rfl l2 q2⟩
structure Dkw (P : Program) (w : World) (T : Tab) (mg : Str → Option Value) (base : Heap) (C : Addr) (k : Nat) (f : Addr) (ks : List Str) (r : Bool) (F : Fw) : Prop where
  M : Mk T.K C f
  g : FnK P w T.K mg base (L2.CX P w) k f 1 ks r (SpMk T C F (mkR C))
theorem ev_mkw {r : Bool} (D : Dkw Z.X.prog Z.X.w Z.T Z.X.mg Z.X.base Z.T.C k f ks r F) (hm : Z.X.mg name = some (.ref Z.T.C)) (ok : Zok Z) (hr : RoomG j Z.X.A) (hj : k + 1 ≤ j) (h : EK Z ρ kws fun ds c => ds.length = ks.length ∧ F (kg r [] ds) c P' (fun er c' => Z.R er (ρ.wc c'))) (hg : Gl Z.X name := by rfl)
    (hall : (backToKw pos (keywordEach kws Z.X.env)).all (·.1.isSome) = true := by rfl) (hks : (backToKw pos (keywordEach kws Z.X.env)).filterMap (·.1) = ks := by rfl) (hdb : (name == ("__debug__" : Str)) = false := by decide)
    (hpl : ((backTo pos (starEach [] Z.X.env)).any (·.1) || (backToKw pos (keywordEach kws Z.X.env)).any (·.1.isNone)) = false := by rfl) : EV Z ρ (.Call (.Name name p) [] kws pos) P' :=
  ev_of (pe_makeKs (by rw [ok.K]; exact D.M) (by rw [ok.K]; exact D.g) (hr.mono hj) ok.tk hg hm hall hks hdb hpl) fun σ H Q S q => ek_any h S fun vs H1 ds c S1 e1 rr ⟨hl, h1⟩ =>
    ⟨by rw [pr_len rr]; exact hl, fun y dy hy hdy hn => by
      have g := mk_at (ρ := ρ.wc c) (C := Z.T.C) (mk := mkR Z.T.C) S1 (kg_pr (r := r) (ds := []) .nil rr) h1 (q.from (c := c) e1) hy hdy hn (fun G d ⟨q, dx, hd, h⟩ => by subst hd; exact ⟨y, dx, rfl, h⟩)
      unfold kg at g ⊢
      exact g⟩
/-! ### o.m(k = v, ..) -/
def tMethKs (X : Cx) (C : Addr) (m : Str) (o : Expr) (kws : List Keyword) (ks : List Str) (r : Bool) (sp : Sp) (W : WX) : TE := fun σ H Q => tAny X o σ H fun x H1 => ∃ a dx fs, x = .ref a ∧ H1 a = some (.ins C dx fs) ∧ fs.lookup m = none ∧
  tkAny X kws σ H1 fun zs H2 => zs.length = ks.length ∧ sp (kg r [x] zs) H2 Q (fun c d H' => W c d σ H')
theorem pe_methKs {pl : Sem Bool} {W : WX} {o : Expr} {r : Bool} (c : Cls X.K C) (hm : Meth X.K C m f) (G : FnK X.prog X.w X.K X.mg X.base (L2.CX X.prog X.w) k f 1 ks r sp) (hr : RoomG k X.A) (tk : Takes X W)
    (hall : (backToKw pos (keywordEach kws X.env)).all (·.1.isSome) = true := by rfl)
    (hks : (backToKw pos (keywordEach kws X.env)).filterMap (·.1) = ks := by rfl)
    (hpl : ((backTo pos (starEach [] X.env)).any (·.1) || (backToKw pos (keywordEach kws X.env)).any (·.1.isNone)) = false := by rfl)
    (ht : eval (.Call (.Attribute o m apos) [] kws pos) X.env = (do
      let ov ← eval o X.env
      standAt apos.atName
      let (f, first) ← holding [ov]
        (getMethod ov m pl)
      callWith pos f first (backTo pos (starEach [] X.env)) (backToKw pos (keywordEach kws X.env))) := by rfl) : PE X (.Call (.Attribute o m apos) [] kws pos) (tMethKs X C m o kws ks r sp W) := ⟨fun pins s σ H Q I h => by
  refine PySem.W.methodCall_KW (pl := pl) (thn (pe_any.run pins s σ H _ I h) fun u s1 ⟨x, H1, I1, rx, a, dx, fs, ex, ea, l, q⟩ => ?_) ht
  subst ex
  cases rx
  refine getmeth_ok I1 ea c hm l (PySem.W.callWith_KW0 (first := [.ref a]) (h₀ := X.base) I1.ok.mod.kin hm.kp hall (thn (pk_any.run pos pins s1 σ H1 _ I1 q) fun ws s2 ⟨zs, H2, I2, rz, l2, q2⟩ => ⟨I2.kIn, ?_⟩) hpl)
  rw [hks]
  exact runK (us := [.ref a]) (vs := [.ref a]) G hr tk I2 (.cons rfl .nil) rz rfl l2 q2⟩
/-- a method of Ratio that is called by keywords -/
structure Dmw (P : Program) (w : World) (T : Tab) (mg : Str → Option Value) (base : Heap) (C : Addr) (name : Str) (k : Nat) (f : Addr) (ks : List Str) (r : Bool) (F : Fw) : Prop where
  g : FnK P w T.K mg base (L2.CX P w) k f 1 ks r (SpW T F)
  m : Meth T.K C name f
theorem ev_dmw {pl : Sem Bool} {o : Expr} {r : Bool} (D : Dmw Z.X.prog Z.X.w Z.T Z.X.mg Z.X.base Z.T.C name k f ks r F) (cl : Cls Z.T.K Z.T.C) (ok : Zok Z) (hr : RoomG j Z.X.A) (hj : k ≤ j)
    (h : EV Z ρ o fun d c1 => ∃ q, d = .rat q ∧ EK Z (ρ.wc c1) kws fun ds c => ds.length = ks.length ∧ F (kg r [d] ds) c P' (fun er c' => Z.R er (ρ.wc c')))
    (h1 : ¬ name = "_top" := by decide +kernel) (h2 : ¬ name = "_bottom" := by decide +kernel)
    (hall : (backToKw pos (keywordEach kws Z.X.env)).all (·.1.isSome) = true := by rfl) (hks : (backToKw pos (keywordEach kws Z.X.env)).filterMap (·.1) = ks := by rfl)
    (hpl : ((backTo pos (starEach [] Z.X.env)).any (·.1) || (backToKw pos (keywordEach kws Z.X.env)).any (·.1.isNone)) = false := by rfl)
    (ht : eval (.Call (.Attribute o name apos) [] kws pos) Z.X.env = (do
      let ov ← eval o Z.X.env
      standAt apos.atName
      let (f, first) ← holding [ov]
        (getMethod ov name pl)
      callWith pos f first (backTo pos (starEach [] Z.X.env)) (backToKw pos (keywordEach kws Z.X.env))) := by rfl) : EV Z ρ (.Call (.Attribute o name apos) [] kws pos) P' := by
  obtain ⟨G, M⟩ := D
  rw [← ok.K] at G M cl
  refine ev_of (pe_methKs cl M G (hr.mono hj) ok.tk hall hks hpl ht) fun σ H Q S k => ev_any h S fun v H1 d c1 S1 e1 rr ⟨q, hd, h3⟩ => ?_
  subst hd
  obtain ⟨a, dx, fs, rfl, ha, hl⟩ := isIns_rat (T := Z.T) h1 h2 _ _ (val_rep rr rfl)
  refine ⟨a, dx, fs, rfl, vis_some ha, hl, ek_any h3 S1 fun vs H2 ds c2 S2 e2 r2 ⟨l2, h4⟩ => ⟨by rw [pr_len r2]; exact l2, ?_⟩⟩
  exact sp_at (ρ := ρ.wc c2) S2 (kg_pr (.cons (rr.mono e2) .nil) r2) h4 (k.from (c := c2) fun _ _ q => e2 _ _ (e1 _ _ q))
end Q
end

section
set_option Elab.async false
set_option linter.all false
set_option maxRecDepth 100000
set_option maxHeartbeats 3900000
/-! W16: [e for x in l if c]. -/
namespace Q
open PySem L2
variable {Z : Zt} {ρ : Rho} {σ : St} {H H' : Hp} {O : Out} {P : D → Nat → Prop} {P' : D → Nat → Prop} {e a b elt iter : Expr} {pos p px : Pos} {X : Cx} {x : Str} {ifs : List Expr} {scope : Scope}

/-- the context of a comprehension's block -/
abbrev Zt.blk (Z : Zt) (s : Shared) (H : Hp) (scope : Scope) (C : Addr) (cl : List (Str × Addr)) (fp : List Addr) : Zt := { Z with X := Z.X.blk s H scope (compEnvC scope cl C Z.X.env) fp, R := fun _ _ => False }
theorem Zok.blk (ok : Zok Z) {s H scope C cl fp} : Zok (Z.blk s H scope C cl fp) := ⟨fun u s' ⟨_, _, _, _, _, _, _, _, _, _, _, _, _, _, _, _, _, _, _, _, w⟩ => w.elim, PassesOwn.never, ok.K, ok.nd⟩
theorem SR.blk {s H1 scope C cl fp} (S : SR Z ρ σ H) : SR (Z.blk s H1 scope C cl fp) ρ σ H := ⟨S.ok, S.le, S.ex, S.sl, S.gh⟩
theorem SR.ofBlk {s H1 scope C cl fp} (S : SR (Z.blk s H1 scope C cl fp) ρ σ H) : SR Z ρ σ H := ⟨S.ok, S.le, S.ex, S.sl, S.gh⟩
/-- the test, if there is one -/
def TestOf (Z : Zt) (ρ : Rho) : List Expr → (Bool → Nat → Prop) → Prop
  | [], P => P true ρ.c
  | [t], P => ET Z ρ t P
  | _, _ => False
def onB (b : Bool) (A B : Prop) : Prop := (b = true → A) ∧ (b = false → B)
/-- what the items still give, acc there -/
def lcs (Z : Zt) (scope : Scope) (s : List (Option D)) (i : Nat) (ifs : List Expr) (elt : Expr) (P : D → Nat → Prop) : List D → List D → Nat → Prop
  | [], acc, c => P (.lst acc) c
  | y :: l, acc, c => ∀ B s1 H1 C cl fp, Zok (Z.blk s1 H1 scope C cl fp) → TestOf (Z.blk s1 H1 scope C cl fp) ⟨B, (s.set i none).set i (some y), c⟩ ifs fun b c' => onB b
      (∀ s2 H2 C2 cl2 fp2, Zok (Z.blk s2 H2 scope C2 cl2 fp2) → EV (Z.blk s2 H2 scope C2 cl2 fp2) ⟨B, (s.set i none).set i (some y), c'⟩ elt fun d c'' => plain d = true ∧ acc.length < 100000 ∧ lcs Z scope s i ifs elt P l (acc ++ [d]) c'') (lcs Z scope s i ifs elt P l acc c')
def tLcTest (X : Cx) (scope : Scope) (ifs : List Expr) : TT := fun σ H Q => ∀ s1 H1 C cl fp, ∃ t : TT, PTs (X.blk s1 H1 scope (compEnvC scope cl C X.env) fp) ifs t ∧ t σ H Q
def tLcElt (X : Cx) (scope : Scope) (elt : Expr) : TE := fun σ H Q => ∀ s1 H1 C cl fp, tAny (X.blk s1 H1 scope (compEnvC scope cl C X.env) fp) elt σ H Q
theorem hide_vis {B : Bm} {D : Addr} {k : Option HO} {H : Hp} : Same (vis (hideAt B D k) H) (vis B H) := fun a o q => by
  unfold vis hideAt at q
  by_cases e : a = D
  · rw [if_pos e] at q
    cases q
  · rw [if_neg e] at q
    exact q
theorem hide_again {B : Bm} {D : Addr} {k k' : Option HO} {H : Hp} {o : HO} : vis (hideAt B D k') (upd H D o) = vis (hideAt B D k) H := by
  funext a
  unfold vis hideAt
  by_cases e : a = D
  · subst e
    rw [if_pos rfl, if_pos rfl]
  · rw [if_neg e, if_neg e, upd_ne e]
theorem hide_of {B : Bm} {D : Addr} {k : Option HO} (hn : B D = none) : ∀ a x, B a = some x → hideAt B D k a = some x := fun a x e => by
  unfold hideAt
  rw [if_neg (fun z => by rw [z, hn] at e; cases e)]
  exact e
/-- the state between turns: the new list at D hidden, D not yet there at H1 -/
structure LcS (Z : Zt) (B : Bm) (D : Addr) (H1 : Hp) (acc : List Q.D) (c : Nat) (H : Hp) (vs : List V) : Prop where
  ok : okW (hideAt B D (some (.lst vs))) c H
  re : reps Z.T (vis (hideAt B D (some (.lst vs))) H) acc vs
  sm : Same (vis B H1) (vis (hideAt B D (some (.lst vs))) H)
section
variable {D : Addr} {H1 : Hp} {acc : List Q.D} {c : Nat} {i : Nat} {vs : List V} {y : Q.D} {v : V} {s' : List (Option Q.D)} {σ' : St}
theorem LcS.sr (L : LcS Z ρ.B D H1 acc c H vs) (S0 : SR Z ρ σ H1) (hd : H1 D = none) (sl : slots Z.T (hideAt ρ.B D (some (.lst vs))) (vis (hideAt ρ.B D (some (.lst vs))) H) s' σ') : SR Z ⟨hideAt ρ.B D (some (.lst vs)), s', c⟩ σ' H := by
  have n0 := (S0.hide (k := some (.lst [])) (o := .lst []) hd (fun u e => (Option.some.inj e).symm) (fun e => by cases e)).2
  refine ⟨L.ok, fun a h => ?_, fun a o q => L.sm _ _ (S0.ex a o q), sl, fun p hp => (S0.gh p hp).mono L.sm⟩
  show (if a = D then some (some (HO.lst vs)) else ρ.B a) = _
  rw [if_neg (fun (z : a = D) => by subst z; exact h n0)]
  exact S0.le a h
theorem LcS.start (S0 : SR Z ρ σ H1) (hd : H1 D = none) : LcS Z ρ.B D H1 [] ρ.c (upd H1 D (.lst [])) [] := by
  have h := (S0.hide (k := some (.lst [])) (o := .lst []) hd (fun u e => (Option.some.inj e).symm) (fun e => by cases e)).1
  refine ⟨h.ok, rfl, fun a o q => ?_⟩
  rw [vis_hide hd]
  exact q
theorem LcS.go (L : LcS Z ρ.B D H1 acc c H vs) {c' : Nat} (ok : okW (hideAt ρ.B D (some (.lst vs))) c' H') (e : Same (vis (hideAt ρ.B D (some (.lst vs))) H) (vis (hideAt ρ.B D (some (.lst vs))) H')) : LcS Z ρ.B D H1 acc c' H' vs :=
  ⟨ok, L.re.mono e, fun a o q => e _ _ (L.sm a o q)⟩
theorem LcS.at_ (L : LcS Z ρ.B D H1 acc c H vs) : H D = some (.lst vs) := L.ok.fix D (.lst vs) (if_pos rfl)
theorem LcS.put (L : LcS Z ρ.B D H1 acc c H vs) (r : rep Z.T (vis (hideAt ρ.B D (some (.lst vs))) H) y v) : LcS Z ρ.B D H1 (acc ++ [y]) c (upd H D (.lst (vs ++ [v]))) (vs ++ [v]) := by
  have e : vis (hideAt ρ.B D (some (.lst (vs ++ [v])))) (upd H D (.lst (vs ++ [v]))) = vis (hideAt ρ.B D (some (.lst vs))) H := hide_again
  refine ⟨⟨fun a h => ?_, fun a o h => ?_⟩, ?_, ?_⟩
  · have h' : (if a = D then some (some (HO.lst (vs ++ [v]))) else ρ.B a) = some none := h
    by_cases ea : a = D
    · rw [if_pos ea] at h'
      cases h'
    · rw [if_neg ea] at h'
      rw [upd_ne ea]
      exact L.ok.box a (by show (if a = D then _ else ρ.B a) = _; rw [if_neg ea]; exact h')
  · have h' : (if a = D then some (some (HO.lst (vs ++ [v]))) else ρ.B a) = some (some o) := h
    by_cases ea : a = D
    · rw [if_pos ea] at h'
      subst ea
      rw [upd_same]
      exact Option.some.inj h'
    · rw [if_neg ea] at h'
      rw [upd_ne ea]
      exact L.ok.fix a o (by show (if a = D then _ else ρ.B a) = _; rw [if_neg ea]; exact h')
  · rw [e]
    exact L.re.append (reps.one r)
  · rw [e]
    exact L.sm
theorem LcS.fin (L : LcS Z ρ.B D H1 acc c H vs) (S0 : SR Z ρ σ H1) (hd : H1 D = none) : SR Z (ρ.wc c) σ H ∧ Same (vis ρ.B H1) (vis ρ.B H) ∧ rep Z.T (vis ρ.B H) (.lst acc) (.ref D) := by
  have b0 := S0.ok.fresh hd
  have e : Same (vis ρ.B H1) (vis ρ.B H) := fun a o q => hide_vis _ _ (L.sm a o q)
  refine ⟨⟨⟨fun a h => L.ok.box a (hide_of b0 a _ h), fun a o h => L.ok.fix a o (hide_of b0 a _ h)⟩, S0.le, fun a o q => e _ _ (S0.ex a o q), S0.sl.mono e, fun p hp => (S0.gh p hp).mono e⟩, e, D, vs, rfl, vis_of L.at_ b0, L.re.mono hide_vis⟩
end
/-- what the comprehension reads, at a state -/
theorem lc_t (i : Nat) (ok : Zok Z) (h : EV Z ρ iter fun d c => ∃ l, items d = some l ∧ lcs Z scope ρ.s i ifs elt P l [] c) {Q : VK} (S : SR Z ρ σ H) (k : Post Z ρ σ H P Q) : tLc (iList Z.X.K (tAny Z.X iter)) (gName i) (tLcTest Z.X scope ifs) (tLcElt Z.X scope elt) [i] σ H Q := by
  refine ev_any h S fun v H1 d c S1 e1 r ⟨l, hl, hL⟩ => ?_
  obtain ⟨a, xs, rfl, hsq, hrs⟩ := items_at hl (val_rep r (items_plain hl))
  rw [ok.K]
  refine ⟨a, rfl, ⟨xs, seqS vis_same hsq⟩, fun D hd => ?_⟩
  have b0 : ρ.B D = none := S1.ok.fresh hd
  refine lc_list (fun j H => ∃ c acc vs, LcS Z ρ.B D H1 acc c H vs ∧ lcs Z scope ρ.s i ifs elt P (l.drop j) acc c) ⟨c, [], [], LcS.start (ρ := ρ.wc c) S1 hd, hL⟩ (fun j H _ ⟨c, acc, vs, L, _⟩ => seqS vis_same (seqS L.sm hsq)) (fun j x0 H hj ⟨c2, acc, vs, L, hl2⟩ => ?_) (fun H ⟨c2, acc, vs, L, hl2⟩ => ?_)
  · have lt : j < l.length := by
      have := (List.getElem?_eq_some_iff.mp hj).1
      rw [hrs.len] at this
      exact this
    obtain ⟨w, hw, rw_⟩ := hrs.get (List.getElem?_eq_getElem lt)
    have ex : w = x0 := Option.some.inj (hw.symm.trans hj)
    subst ex
    rw [List.drop_eq_getElem_cons lt] at hl2
    have sl : slots Z.T (hideAt ρ.B D (some (.lst vs))) (vis (hideAt ρ.B D (some (.lst vs))) H) ((ρ.s.set i none).set i (some l[j])) ((σ.set i none).set i (some w)) :=
      ((slots_B (hide_of b0) (S1.sl.unset i)).mono L.sm).set (slot_of (.of (rw_.mono L.sm))) i
    have S2 := L.sr (ρ := ρ.wc c) S1 hd sl
    refine ⟨?_, fun s1 H1' C cl fp => ?_⟩
    · show ((σ.set i none).set i (some w)).set i none = σ.set i none
      rw [List.set_set, List.set_set]
    · have step := hl2 (hideAt ρ.B D (some (.lst vs))) s1 H1' C cl fp ok.blk
      have go : ∀ b H3 c3, SR (Z.blk s1 H1' scope C cl fp) ⟨hideAt ρ.B D (some (.lst vs)), (ρ.s.set i none).set i (some l[j]), c3⟩ ((σ.set i none).set i (some w)) H3 → Same (vis (hideAt ρ.B D (some (.lst vs))) H) (vis (hideAt ρ.B D (some (.lst vs))) H3) →
          onB b (∀ s2 H2 C2 cl2 fp2, Zok (Z.blk s2 H2 scope C2 cl2 fp2) → EV (Z.blk s2 H2 scope C2 cl2 fp2) ⟨hideAt ρ.B D (some (.lst vs)), (ρ.s.set i none).set i (some l[j]), c3⟩ elt fun d c'' => plain d = true ∧ acc.length < 100000 ∧ lcs Z scope ρ.s i ifs elt P (l.drop (j + 1)) (acc ++ [d]) c'') (lcs Z scope ρ.s i ifs elt P (l.drop (j + 1)) acc c3) →
          if b = true then tLcElt Z.X scope elt ((σ.set i none).set i (some w)) H3 (fun y H4 => ∃ acc, H4 D = some (.lst acc) ∧ acc.length < sizeLine ∧ ∃ c acc' vs, LcS Z ρ.B D H1 acc' c (upd H4 D (.lst (acc ++ [y]))) vs ∧ lcs Z scope ρ.s i ifs elt P (l.drop (j + 1)) acc' c)
          else ∃ c acc vs, LcS Z ρ.B D H1 acc c H3 vs ∧ lcs Z scope ρ.s i ifs elt P (l.drop (j + 1)) acc c := fun b H3 c3 S3 e3 hb => by
        cases b with
        | false => exact ⟨c3, acc, vs, L.go S3.ok e3, hb.2 rfl⟩
        | true =>
          refine fun s2 H2 C2 cl2 fp2 => ev_any (hb.1 rfl s2 H2 C2 cl2 fp2 ok.blk) S3.ofBlk.blk fun y H4 d c4 S4 e4 r4 ⟨hp, hz, h4⟩ => ?_
          have L4 := (L.go S3.ok e3).go S4.ok e4
          exact ⟨vs, L4.at_, Nat.lt_of_lt_of_le (by rw [L.re.len]; exact hz) (by decide), c4, acc ++ [d], vs ++ [y], L4.put (val_rep r4 hp), h4⟩
      cases ifs with
      | nil => exact ⟨tYes, pts_nil, go true H c2 S2.blk (fun _ _ q => q) step⟩
      | cons t ts =>
        cases ts with
        | nil => exact ⟨_, pts_one pt_any, et_any step S2.blk fun b H3 c3 S3 e3 hb => go b H3 c3 S3 e3 hb⟩
        | cons _ _ => exact (show False from step).elim
  · rw [List.drop_of_length_le (by rw [hrs.len]; exact Nat.le_refl _)] at hl2
    obtain ⟨S3, e3, r3⟩ := L.fin (ρ := ρ.wc c) S1 hd
    exact k _ H (.lst acc) c2 S3 (fun _ _ q => e3 _ _ (e1 _ _ q)) (.of r3) hl2
/-- a comprehension over a list -/
theorem ev_lc (i : Nat) (ok : Zok Z) (hb : BlkOk Z.X.N Z.X.env.scope scope [(x, i)]) (hi : Z.X.N[i]? = some x := by rfl) (hx : scope.names.lookup x = some .local := by rfl)
    (h : EV Z ρ iter fun d c => ∃ l, items d = some l ∧ lcs Z scope ρ.s i ifs elt P l [] c) (hc : Z.X.calm = true := by rfl) (hs : ∀ x, foldedSetIterable iter Z.X.env x = pure x := by intro _; rfl) :
    EV Z ρ (.ListComp elt [⟨.Name x px, iter, ifs, 0⟩] scope pos) P := by
  have loc : ∀ C cl, Loc (compEnvC scope cl C Z.X.env).scope x := fun C cl => .inl (lookup_relabel_local hx)
  refine ev_of (pe_lc (wi := iList Z.X.K (tAny Z.X iter)) (g := gName i) (tt := tLcTest Z.X scope ifs) (te := tLcElt Z.X scope elt) hc ok.nd (pi_list pe_any) hb (fun s H C cl fp => pg_name ok.nd hi (loc C cl) (.inr (lookup_relabel_local hx)))
    (fun s H C cl fp => ⟨fun pins s' σ H' Q I h => let ⟨t, p, q⟩ := h s H C cl fp; p.run pins s' σ H' Q I q⟩) (fun s H C cl fp => ⟨fun pins s' σ H' Q I h => pe_any.run pins s' σ H' Q I (h s H C cl fp)⟩) hs) fun σ H Q S k => lc_t i ok h S k
/-- y = [..], on one line -/
theorem st_setLc {y : Str} {py spos : Pos} {m : Nat} (i : Nat) (ok : Zok Z) (hb : BlkOk Z.X.N Z.X.env.scope scope [(x, i)])
    (h : EV Z ρ iter fun d c => ∃ l, items d = some l ∧ lcs Z scope ρ.s i ifs elt (fun d c => O.nx ((ρ.wc c).set m d)) l [] c) (hi : Z.X.N[i]? = some x := by rfl) (hx : scope.names.lookup x = some .local := by rfl) (hm : Z.X.N[m]? = some y := by rfl) (hy : Z.X.env.scope.names.lookup y = some .local := by rfl)
    (hk : Z.X.env.scope.kind = .function := by rfl) (hl : (py.line == pos.line) = true := by rfl) (ha : (scope.names.any fun (n, k) => n == y && (k == .local || k == .cell)) = false := by rfl)
    (hc : Z.X.calm = true := by rfl) (hs : ∀ x, foldedSetIterable iter Z.X.env x = pure x := by intro _; rfl) : ST Z ρ (.Assign [.Name y py] (.ListComp elt [⟨.Name x px, iter, ifs, 0⟩] scope pos) spos) O := by
  have loc : ∀ C cl, Loc (compEnvC scope cl C Z.X.env).scope x := fun C cl => .inl (lookup_relabel_local hx)
  refine st_of (ps_setLc (wi := iList Z.X.K (tAny Z.X iter)) (g := gName i) (tt := tLcTest Z.X scope ifs) (te := tLcElt Z.X scope elt) hc ok.nd hm hy (sw_true hk hy hl ha) (pi_list pe_any) hb (fun s H C cl fp => pg_name ok.nd hi (loc C cl) (.inr (lookup_relabel_local hx)))
    (fun s H C cl fp => ⟨fun pins s' σ H' Q I h => let ⟨t, p, q⟩ := h s H C cl fp; p.run pins s' σ H' Q I q⟩) (fun s H C cl fp => ⟨fun pins s' σ H' Q I h => pe_any.run pins s' σ H' Q I (h s H C cl fp)⟩) hs) fun D σ H S k => lc_t i ok h S fun v H' d c' S' _ r p => k.nx _ H' _ (S'.set m (slot_of r)) p
end Q
end

section
set_option Elab.async false
set_option linter.all false
set_option maxRecDepth 100000
set_option maxHeartbeats 3900000
/-! W17: the draws' box. -/
namespace Q
open PySem L2
variable {Z : Zt} {ρ : Rho} {σ : St} {H H' : Hp} {O : Out} {P : D → Nat → Prop} {e a b : Expr} {pos p pos' pos2 : Pos} {X : Cx} {x n : Str} {k : Nat} {f : Addr}
/-- a new box -/
def SpBx (T : Tab) : Sp := fun vs H Q E => ∃ (B : Bm) (c : Nat) (l : List Int) (k : Nat), okW B c H ∧ Paired (val T B (vis B H)) [.scr l, .int (k : Nat)] vs ∧ k ≤ 1000 ∧
  ∀ H' q (u z : Int), okW B c H' → Same (vis B H) (vis B H') → H' q = none → 0 ≤ u → 0 ≤ z → z ≤ 2 ^ 40 → Q (.ref q) (upd H' q (.lst [.int u, .int 0, .int z]))
theorem st_box (i : Nat) (ok : Zok Z) (G : FnG Z.X.prog Z.X.w Z.X.K Z.X.mg Z.X.base (L2.CX Z.X.prog Z.X.w) k f (SpBx Z.T)) (hr : RoomG k Z.X.A) (hm : Z.X.mg n = some (.ref f)) (hk : PySem.W.keepIn Z.X.K (.ref f) = true)
    (h : EA Z ρ [a, b] fun ds c => ∃ (l : List Int) (m : Nat), ds = [.scr l, .int (m : Nat)] ∧ m ≤ 1000 ∧ ∀ q, O.nx ((⟨hideAt ρ.B q none, ρ.s, c⟩ : Rho).set i .box)) (hg : Gl Z.X n := by rfl)
    (hdb : (n == ("__debug__" : Str)) = false := by decide) (he : starEach (a :: [b]) Z.X.env = (false, eval a Z.X.env) :: starEach [b] Z.X.env := by rfl) (hpl : (backTo pos (starEach [b] Z.X.env)).any (·.1) = false := by rfl)
    (hi : Z.X.N[i]? = some x := by rfl) (hx : Loc Z.X.env.scope x := by first | exact Or.inl rfl | exact Or.inr rfl) (hs : swapsWith (.Call (.Name n p) [a, b] [] pos) (some (.Name x pos')) pos2.line Z.X.env = pure false := by rfl)
    (hf : Z.X.fn x = true ∨ Z.X.env.scope.names.lookup x = some .local := by first | exact .inl rfl | exact .inr rfl) : ST Z ρ (.Assign [.Name x pos'] (.Call (.Name n p) [a, b] [] pos) pos2) O :=
  st_of (ps_set ok.nd hi hx (pe_callW G hr ok.tk hg hm hk hdb he hpl) hs hf) fun D σ H S K => ea_any h S fun vs H1 ds c S1 e1 r ⟨l, m, hds, hm, hq⟩ => by
    subst hds
    refine ⟨ρ.B, c, l, m, S1.ok, r, hm, fun H2 q u z ok2 sm hn h1 h2 h3 => ?_⟩
    have S2 : SR Z (ρ.wc c) σ H2 := S1.call (c' := c) ok2 sm
    have S3 := (S2.hide (k := none) (o := .lst [.int u, .int 0, .int z]) hn (fun _ e => by cases e) (fun _ => ⟨u, 0, z, rfl, h1, by omega, by omega, h2, h3⟩)).1
    exact K.nx _ _ _ (S3.set i (d := .box) (v := .ref q) ⟨q, rfl, if_pos rfl⟩) (hq q)
/-- a body of no exception: the state at its start -/
theorem zok0 {P : Program} {w : World} {T : Tab} {mg : Str → Option Value} {base : Heap} {N ps : List Str} {qual : Str} {scope : Scope} {f : Addr} {cdv : Value} {A : Around} {outer : List Env} {s : Shared} {H : Hp} {E : XK} {B : Bm} {rt : D → Nat → Prop} (S : FnScope N ps scope) :
    Zok (zBody P w T mg base N qual scope f cdv A outer s H E B (fun _ _ => False) rt) :=
  ⟨Takes.imp (W := fun cls d _ H => E cls d H) (takes_of rfl rfl rfl rfl) (fun cls dx σ' H' ⟨ρ, er, _, _, z⟩ => z.elim), passes_of rfl, rfl, S.nd⟩
theorem sr0 {P : Program} {w : World} {T : Tab} {mg : Str → Option Value} {base : Heap} {N : List Str} {qual : Str} {scope : Scope} {f : Addr} {cdv : Value} {A : Around} {outer : List Env} {s : Shared} {H : Hp} {E : XK} {B : Bm} {R : Er → Nat → Prop} {rt : D → Nat → Prop} {c : Nat} {ds : List D} {vs : List V}
    (ok : okW B c H) (r : Paired (val T B (vis B H)) ds vs) : SR (zBody P w T mg base N qual scope f cdv A outer s H E B R rt) ⟨B, entry N ds, c⟩ (L2.start N vs) H := by
  refine ⟨ok, fun a _ => rfl, fun _ _ z => z, ?_, fun p hp => nomatch hp⟩
  show slots T B (vis B H) (entry N ds) (L2.start N vs)
  unfold entry L2.start
  rw [pr_len r]
  exact slots_start _ r
end Q
end

section
set_option Elab.async false
set_option linter.all false
set_option maxRecDepth 100000
set_option maxHeartbeats 1100000
/-! W18: what draws nothing and has one value. -/
namespace Q
open PySem L2
variable {Z : Zt} {ρ : Rho} {O : Out} {P : D → Nat → Prop} {e a b t : Expr} {pos p pos' : Pos} {x name : Str} {k j i : Nat} {f : Addr} {F : Fw} {es : List Expr} {d d1 d2 : D} {ds : List D} {l l' : List Stmt}
def EQ (Z : Zt) (ρ : Rho) (e : Expr) (d : D) : Prop := EV Z ρ e fun d' c' => d' = d ∧ c' = ρ.c
def TQ (Z : Zt) (ρ : Rho) (e : Expr) (b : Bool) : Prop := ET Z ρ e fun b' c' => b' = b ∧ c' = ρ.c
def AQ (Z : Zt) (ρ : Rho) (es : List Expr) (ds : List D) : Prop := EA Z ρ es fun ds' c' => ds' = ds ∧ c' = ρ.c
def KQ (Z : Zt) (ρ : Rho) (kws : List Keyword) (ds : List D) : Prop := EK Z ρ kws fun ds' c' => ds' = ds ∧ c' = ρ.c
theorem EQ.to (h : EQ Z ρ e d) (q : P d ρ.c) : EV Z ρ e P := EV.mono h fun d' c' ⟨h1, h2⟩ => by
  subst h1
  rw [h2]
  exact q
theorem TQ.to {k : Bool} {P : Bool → Nat → Prop} (h : TQ Z ρ e k) (q : P k ρ.c) : ET Z ρ e P := ET.mono h fun d' c' ⟨h1, h2⟩ => by
  subst h1
  rw [h2]
  exact q
theorem AQ.to {P : List D → Nat → Prop} (h : AQ Z ρ es ds) (q : P ds ρ.c) : EA Z ρ es P := EA.mono h fun d' c' ⟨h1, h2⟩ => by
  subst h1
  rw [h2]
  exact q
theorem KQ.to {P : List D → Nat → Prop} {kws : List Keyword} (h : KQ Z ρ kws ds) (q : P ds ρ.c) : EK Z ρ kws P := pk_imp h fun σ H Q z => ⟨z.1, fun vs H' ds' c' S s r ⟨h1, h2⟩ => by
  subst h1
  subst h2
  exact z.2 vs H' _ _ S s r q⟩
theorem eq_var (i : Nat) {x : Str} {d : D} (hs : ρ.s[i]? = some (some d)) (n : isOwn d = false := by rfl) (hN : Z.X.N[i]? = some x := by rfl)
    (hv : Vis Z.X.env.scope x := by first | exact Or.inl rfl | exact Or.inr (Or.inl rfl) | exact Or.inr (Or.inr rfl)) (hd : (x == ("__debug__" : Str)) = false := by decide)
    (hcd : (x == ("__classdict__" : Str)) = false := by decide) : EQ Z ρ (.Name x pos) d := ev_var i hs ⟨rfl, rfl⟩ n hN hv hd hcd
theorem eq_int {i : Int} {j} : EQ Z ρ (.Constant (.int i) j pos) (.int i) := ev_int ⟨rfl, rfl⟩
theorem eq_bl {i : Bool} {j} : EQ Z ρ (.Constant (.bool i) j pos) (.bl i) := ev_bl ⟨rfl, rfl⟩
theorem aq_nil : AQ Z ρ [] [] := ea_nil ⟨rfl, rfl⟩
theorem aq_cons (h : EQ Z ρ e d) (h2 : AQ Z ρ es ds) (hs : starEach (e :: es) Z.X.env = (false, eval e Z.X.env) :: starEach es Z.X.env := by rfl) : AQ Z ρ (e :: es) (d :: ds) := ea_cons (h.to (AQ.to h2 ⟨rfl, rfl⟩)) hs
theorem kq_nil : KQ Z ρ [] [] := ek_nil ⟨rfl, rfl⟩
theorem kq_cons {nm : Option Str} {kpos : Pos} {kws : List Keyword} (h : EQ Z ρ e d) (h2 : KQ Z ρ kws ds) : KQ Z ρ (⟨nm, e, kpos⟩ :: kws) (d :: ds) := ek_cons (h.to (KQ.to h2 ⟨rfl, rfl⟩))
theorem eq_lst (h : AQ Z ρ es ds) (hp : ds.all plain = true := by rfl) (hl : ds.length ≤ 100000 := by exact Nat.le_of_ble_eq_true rfl) : EQ Z ρ (.List es pos) (.lst ds) := ev_lst (h.to ⟨hp, hl, rfl, rfl⟩)
theorem eq_tup {x1} (h : AQ Z ρ es ds) (hp : ds.all plain = true := by rfl) (hl : ds.length ≤ 100000 := by exact Nat.le_of_ble_eq_true rfl) : EQ Z ρ (.Tuple es x1 pos) (.tup ds) := ev_tup (h.to ⟨hp, hl, rfl, rfl⟩)
theorem eq_ix {n : Int} (hK : Z.X.K = Z.T.K) (ha : EQ Z ρ a d1) (hb : EQ Z ρ b (.int n)) (h : ixD d1 n = some d := by rfl) (hs : PlainIx b := by exact fun _ _ => rfl) : EQ Z ρ (.Subscript a b pos) d := ev_ix hK (ha.to (EQ.to hb ⟨n, d, rfl, h, rfl, rfl⟩)) hs
theorem eq_mul {n m : Int} (ha : EQ Z ρ a (.int n)) (hb : EQ Z ρ b (.int m)) (h : CMulW n m) : EQ Z ρ (.BinOp a .Mult b pos) (.int (n * m)) := ev_mul (ha.to (EQ.to hb ⟨h, rfl, rfl⟩))
theorem eq_add {n m : Int} (ha : EQ Z ρ a (.int n)) (hb : EQ Z ρ b (.int m)) : EQ Z ρ (.BinOp a .Add b pos) (.int (n + m)) := ev_add (ha.to (EQ.to hb ⟨rfl, rfl⟩))
theorem eq_sub {n m : Int} (ha : EQ Z ρ a (.int n)) (hb : EQ Z ρ b (.int m)) : EQ Z ρ (.BinOp a .Sub b pos) (.int (n - m)) := ev_sub (ha.to (EQ.to hb ⟨rfl, rfl⟩))
theorem eq_if {k : Bool} (ht : TQ Z ρ t k) (h1 : k = true → EQ Z ρ a d) (h2 : k = false → EQ Z ρ b d) : EQ Z ρ (.IfExp t a b pos) d := ev_if (ht.to ⟨fun z => h1 z, fun z => h2 z⟩)
theorem eq_df (D : Df Z.X.prog Z.X.w Z.T Z.X.mg Z.X.base name k f F) (ok : Zok Z) (hr : RoomG j Z.X.A) (hj : k ≤ j) (h : AQ Z ρ (e :: es) ds) (hF : F ds ρ.c (fun d' c' => d' = d ∧ c' = ρ.c) (fun er c' => Z.R er (ρ.wc c'))) (hg : Gl Z.X name := by rfl)
    (hdb : (name == ("__debug__" : Str)) = false := by decide) (he : starEach (e :: es) Z.X.env = (false, eval e Z.X.env) :: starEach es Z.X.env := by rfl) (hpl : (backTo pos (starEach es Z.X.env)).any (·.1) = false := by rfl) :
    EQ Z ρ (.Call (.Name name p) (e :: es) [] pos) d := ev_df D ok hr hj (h.to hF) hg hdb he hpl
theorem eq_mk (D : Dk Z.X.prog Z.X.w Z.T Z.X.mg Z.X.base Z.T.C k f F) (hm : Z.X.mg name = some (.ref Z.T.C)) (ok : Zok Z) (hr : RoomG j Z.X.A) (hj : k + 1 ≤ j) (h : AQ Z ρ (e :: es) ds) (hF : F ds ρ.c (fun d' c' => d' = d ∧ c' = ρ.c) (fun er c' => Z.R er (ρ.wc c'))) (hg : Gl Z.X name := by rfl)
    (hdb : (name == ("__debug__" : Str)) = false := by decide) (he : starEach (e :: es) Z.X.env = (false, eval e Z.X.env) :: starEach es Z.X.env := by rfl) (hpl : (backTo pos (starEach es Z.X.env)).any (·.1) = false := by rfl) :
    EQ Z ρ (.Call (.Name name p) (e :: es) [] pos) d := ev_mk D hm ok hr hj (h.to hF) hg hdb he hpl
theorem eq_dw {r : Bool} {ks : List Str} {kws : List Keyword} (D : Dw Z.X.prog Z.X.w Z.T Z.X.mg Z.X.base name k f ks r F) (ok : Zok Z) (hr : RoomG j Z.X.A) (hj : k ≤ j) (h : KQ Z ρ kws ds) (hl : ds.length = ks.length) (hF : F (kg r [] ds) ρ.c (fun d' c' => d' = d ∧ c' = ρ.c) (fun er c' => Z.R er (ρ.wc c'))) (hg : Gl Z.X name := by rfl)
    (hall : (backToKw pos (keywordEach kws Z.X.env)).all (·.1.isSome) = true := by rfl) (hks : (backToKw pos (keywordEach kws Z.X.env)).filterMap (·.1) = ks := by rfl) (hdb : (name == ("__debug__" : Str)) = false := by decide)
    (hpl : ((backTo pos (starEach [] Z.X.env)).any (·.1) || (backToKw pos (keywordEach kws Z.X.env)).any (·.1.isNone)) = false := by rfl) : EQ Z ρ (.Call (.Name name p) [] kws pos) d := ev_dw D ok hr hj (h.to ⟨hl, hF⟩) hg hall hks hdb hpl
theorem eq_mkw {r : Bool} {ks : List Str} {kws : List Keyword} (D : Dkw Z.X.prog Z.X.w Z.T Z.X.mg Z.X.base Z.T.C k f ks r F) (hm : Z.X.mg name = some (.ref Z.T.C)) (ok : Zok Z) (hr : RoomG j Z.X.A) (hj : k + 1 ≤ j) (h : KQ Z ρ kws ds) (hl : ds.length = ks.length) (hF : F (kg r [] ds) ρ.c (fun d' c' => d' = d ∧ c' = ρ.c) (fun er c' => Z.R er (ρ.wc c'))) (hg : Gl Z.X name := by rfl)
    (hall : (backToKw pos (keywordEach kws Z.X.env)).all (·.1.isSome) = true := by rfl) (hks : (backToKw pos (keywordEach kws Z.X.env)).filterMap (·.1) = ks := by rfl) (hdb : (name == ("__debug__" : Str)) = false := by decide)
    (hpl : ((backTo pos (starEach [] Z.X.env)).any (·.1) || (backToKw pos (keywordEach kws Z.X.env)).any (·.1.isNone)) = false := by rfl) : EQ Z ρ (.Call (.Name name p) [] kws pos) d := ev_mkw D hm ok hr hj (h.to ⟨hl, hF⟩) hg hall hks hdb hpl
theorem tq_val {k : Bool} (h : EQ Z ρ e (.bl k)) (he : ∀ whole, isTrue e Z.X.env whole = (do let v ← whole; standAt e.pos; holding [v] (truthy v)) := by intro _; rfl) : TQ Z ρ e k := et_val (h.to ⟨k, rfl, rfl, rfl⟩) he
theorem tq_not {k : Bool} (h : TQ Z ρ e k) : TQ Z ρ (.UnaryOp .Not e pos) (!k) := et_not (h.to ⟨rfl, rfl⟩)
def WQ (Z : Zt) (ρ : Rho) (e : Expr) (b : Bool) : Prop := EW Z ρ e fun b' c' => b' = b ∧ c' = ρ.c
theorem wq_or1 (h : TQ Z ρ a false) : WQ Z ρ (.BoolOp .Or [a] pos) false := ew_or1 h
theorem wq_or {rest : List Expr} (h : TQ Z ρ a false) (h2 : WQ Z ρ (.BoolOp .Or (b :: rest) pos) false) : WQ Z ρ (.BoolOp .Or (a :: b :: rest) pos) false := ew_or (h.to ⟨fun _ => h2, fun z => by cases z⟩)
theorem wq_and1 {k : Bool} (h : TQ Z ρ a k) : WQ Z ρ (.BoolOp .And [a] pos) k := ew_and1 h
theorem wq_and {k k2 : Bool} {rest : List Expr} (h : TQ Z ρ a k) (h2 : k = true → WQ Z ρ (.BoolOp .And (b :: rest) pos) k2) : WQ Z ρ (.BoolOp .And (a :: b :: rest) pos) (k && k2) := ew_and (h.to ⟨fun z => by subst z; exact h2 rfl, fun z => by subst z; exact ⟨rfl, rfl⟩⟩)
theorem tq_bool {k : Bool} (h : WQ Z ρ e k) : TQ Z ρ e k := et_bool h
theorem st_ifF (h : TQ Z ρ t false) (q : SS Z ρ l' O) : ST Z ρ (.If t l l' pos) O := st_if (h.to ⟨fun z => (by cases z), fun _ => q⟩)
theorem st_setq {i : Nat} {x : Str} (ok : Zok Z) (h : EQ Z ρ e d) (q : O.nx (ρ.set i d)) (hi : Z.X.N[i]? = some x := by rfl) (hx : Loc Z.X.env.scope x := by first | exact Or.inl rfl | exact Or.inr rfl)
    (hs : swapsWith e (some (.Name x pos')) pos.line Z.X.env = pure false := by rfl) (hf : Z.X.fn x = true ∨ Z.X.env.scope.names.lookup x = some .local := by first | exact .inl rfl | exact .inr rfl) : ST Z ρ (.Assign [.Name x pos'] e pos) O := st_set ok (h.to q) hi hx hs hf
theorem tq_eqP {x y : PyData} {kk : Nat} (hK : Z.X.K = Z.T.K) (hr : RoomG kk Z.X.A) (ha : EQ Z ρ a d1) (hb : EQ Z ρ b d2) (h1 : toP d1 = some x) (h2 : toP d2 = some y) (s1 : SeqAt.shaped x = true) (s2 : SeqAt.shaped y = true) : TQ Z ρ (.Compare a [.Eq] [b] pos) (PyData.eqv x y) := et_eqP hK hr (ha.to (EQ.to hb ⟨x, y, h1, h2, s1, s2, rfl, rfl⟩))
theorem tq_neP {x y : PyData} {kk : Nat} (hK : Z.X.K = Z.T.K) (hr : RoomG kk Z.X.A) (ha : EQ Z ρ a d1) (hb : EQ Z ρ b d2) (h1 : toP d1 = some x) (h2 : toP d2 = some y) (s1 : SeqAt.shaped x = true) (s2 : SeqAt.shaped y = true) : TQ Z ρ (.Compare a [.NotEq] [b] pos) (!PyData.eqv x y) := et_neP hK hr (ha.to (EQ.to hb ⟨x, y, h1, h2, s1, s2, rfl, rfl⟩))
end Q
end

section
set_option Elab.async false
set_option linter.all false
set_option maxRecDepth 100000
set_option maxHeartbeats 1100000
/-! W19: from a law's promise to the law. -/
namespace Q
open L2 PySem PySem.Spec PyProof.Rows
/-- a law's promise -/
def F_law : Fw := fun ds c P R => ∃ l : List Int, ds = [.scr l] ∧ l.length ≤ 100000 ∧ c = 0 ∧ ∀ c', P (.bl true) c'
section
variable {P : Program} {w : World} {mg mb : Str → Option Value} {k : Nat} {fa a : Addr} {fd : FuncData} {x : Str} {T : Tab} {K : PySem.W.Frag} {s1 : Shared} {us : List Value} {ns : List Int}
/-- what is wished of the law's call -/
def Fine (s1 : Shared) (r : Result) (s' : Shared) : Prop := r = .ok (.ret (.bool true)) ∧ OldK s1.heap s'.heap ∧ s'.os = s1.os ∧ AllBare s'.gens
/-- the abstract heap holds the script at most -/
structure JustA (P : Program) (w : World) (K : PySem.W.Frag) (a : Addr) (h : Heap) (H : Hp) : Prop where
  ok : HOk P w H h
  at_ : ∀ b, H b ≠ none → b = a
  out : H a ≠ none → K.lookup a = none
  fz : ∀ b, H b ≠ none → ∃ o xs, H b = some (.frz o (.lst xs))
theorem call_just {o : Obj} {vals : Array Value} {m : Nat} (KX : T.K.In s1.heap) (hm : s1.heap.Ns mainGlobals mg) (hb : s1.heap.Ns builtinsNs mb) (hbb : ∀ x : Str, x ≠ "__name__" → mb x = bootBuiltins x) (hlim : s1.heap.NoLimit) (hg : s1.gens = #[])
    (ha : s1.heap.get? a = some o) (hd : o.data = .seq vals m) (hr : RoomG k callerA) (F : ∀ base : Heap, T.K.In base → base.Ns mainGlobals mg → FnGk P w T.K mg base (L2.CX P w) k fa fd [x] (SpW T F_law)) (bind : ∀ (s : Shared) (u : Value), BindsTo s fd ⟨[u], []⟩ [(x, u)])
    {H : Hp} (J : JustA P w T.K a s1.heap H) (hS : SqL T.K H a (ns.map V.int)) (hl : ns.length ≤ 100000) : codeAny (model P w) callerA (.call (.ref fa) ⟨[.ref a], []⟩) (Fine s1) s1 := by
  have keep : ∀ {b : Addr} {u : Obj}, s1.heap.get? b = some u → H b = none → (hidT s1.heap H).get? b = some u := fun e n => hidT_get e n
  have free : ∀ {b : Addr} {u : Obj} {es : Array DictEntry} {ep : Nat}, s1.heap.get? b = some u → u.data = .dict es ep → H b = none := fun {b u es ep} e z => by
    cases q : H b with
    | none => rfl
    | some y =>
      have eb := J.at_ b (by rw [q]; intro z; cases z)
      subst eb
      rw [ha] at e
      cases e
      rw [hd] at z
      cases z
  have names : ∀ {b : Addr} {g : Str → Option Value}, s1.heap.Ns b g → (hidT s1.heap H).Ns b g := fun {b g} ⟨u, es, ep, e, z, r⟩ => ⟨u, es, ep, keep e (free e z), z, r⟩
  have KB : T.K.In (hidT s1.heap H) := fun b u e => keep (KX b u e) (by
    cases q : H b with
    | none => rfl
    | some y =>
      have n0 : H b ≠ none := by rw [q]; intro z; cases z
      have eb := J.at_ b n0
      subst eb
      rw [J.out n0] at e
      cases e)
  have M : Mod T.K mg (hidT s1.heap H) := ⟨KB, names hm, ⟨mb, names hb, hbb⟩, let ⟨g, l1, l2⟩ := hlim; ⟨g, names l1, l2⟩⟩
  have env : Env0 P w T.K mg (hidT s1.heap H) callerA [] s1 H := ⟨rfl, M, fun b u e => of_hidT e, Nat.le_of_eq (hidT_size _ _), trivial, (fun b z => nomatch z), J.ok, .of_eq hg⟩
  have promise : SpW T F_law [.ref a] H (fun v _ => v = .bl true) (fun _ _ _ => False) := by
    refine ⟨fun _ => none, 0, [.scr ns], fun d _ => d = .bl true, fun _ _ => False, ⟨(fun b z => by cases z), (fun b u z => by cases z)⟩, .cons ?_ .nil, ⟨ns, rfl, hl, rfl, fun _ => rfl⟩, fun v H' d c' _ _ r e => ?_, fun _ _ _ _ _ _ _ _ z => z⟩
    · exact ⟨a, rfl, hS⟩
    · subst e
      exact r
  refine codeAny_mono ((F _ KB (names hm)).run callerA [] s1 H ⟨[.ref a], []⟩ [.ref a] [.ref a] _ _ hr env (bind s1 (.ref a)) (.cons rfl .nil) promise) fun r s' z => ?_
  match r, z with
  | .error e, z =>
    obtain ⟨_, _, _, _, _, _, _, _, _, _, _, _, q⟩ := z
    exact q.elim
  | .ok (.ret u), z =>
    obtain ⟨v, H', os, bare, un, ok', rv, e⟩ := z
    have e' : v = .bl true := e
    subst e'
    have hu : u = Value.bool true := rv
    subst hu
    refine ⟨rfl, OldK.of_keep fun b y eb => ?_, os, bare⟩
    cases q : H b with
    | none => exact un.keep b y eb q (fun z => nomatch z) (fun z => nomatch z)
    | some t =>
      obtain ⟨ob, xs, e2⟩ := J.fz b (by rw [q]; intro z; cases z)
      obtain ⟨g1, _⟩ := J.ok b _ e2
      obtain ⟨g2, _⟩ := ok' b _ (un.frzs b ob _ e2)
      rw [eb] at g1
      cases g1
      exact g2
/-- the goal that k_head leaves -/
theorem walk_ofG {l : PySem.W.OpenLaw} {q : Program} {loose : List Str} {XP : (Str → Option Value) → Heap → Prop} {YP : World → Heap → Prop} {d : DefRec} {T : Params → Tab} (hn : l.most = some 63) (hdf : d.params.defaults = []) (hr : RoomG k callerA) (hY : ∀ (w : World) (h : Heap), YP w h → (T w.params).K.In h)
    (F : ∀ (w : World) (mg : Str → Option Value) (fa : Addr) (h : Heap), (T w.params).K.In h → h.Ns mainGlobals mg → mg d.name = some (.ref fa) →
      ∃ fd : FuncData, (∀ (s : Shared) (u : Value), BindsTo s fd ⟨[u], []⟩ [(x, u)]) ∧ ∀ base : Heap, (T w.params).K.In base → base.Ns mainGlobals mg → FnGk l.prog w (T w.params).K mg base (L2.CX l.prog w) k fa fd [x] (SpW (T w.params) F_law)) :
    PySem.W.WalkO q loose XP YP l.row.toRowW d []
      (fun f vs => PySem.call f vs) := by
  refine Att.attach_call hn hdf fun w s0 s1 mg mb fa o pm cd doc a vs ns G Y ho hd hcd hmg hobj hints hlen hg => ?_
  have KX := hY w _ Y
  obtain ⟨fd, hb, hF⟩ := F w mg fa _ KX G.T.g hmg; have h63 : ns.length ≤ 100000 := Nat.le_trans hlen (by decide)
  have lz : ns.length ≤ sizeLine := Nat.le_trans hlen (by decide)
  have rv := L2.vals_ints hints
  have nl := hints.length
  have go : ∀ {H : Hp}, JustA l.prog w (T w.params).K a s1.heap H → SqL (T w.params).K H a (ns.map V.int) → codeAny (model l.prog w) callerA (.call (.ref fa) ⟨[.ref a], []⟩) (Fine s1) s1 := fun J hS =>
    call_just (T := T w.params) KX G.T.g G.T.b G.T.builtins G.T.nolimit hg hobj rfl hr hF hb J hS h63
  cases hk : (T w.params).K.lookup a with
  | some ob =>
    have e := KX a ob hk
    rw [hobj] at e
    cases e
    refine go (H := fun _ => none) ⟨(fun b u z => by cases z), (fun b z => (z rfl).elim), (fun z => (z rfl).elim), (fun b z => (z rfl).elim)⟩ (.inr ⟨_, vs.toArray, _, hk, rfl, rfl, rfl, ?_, by simpa using rv⟩)
    rw [List.size_toArray, nl]
    exact lz
  | none =>
    refine go (H := upd (fun _ => none) a (.frz { cls := .type "list", data := .seq vs.toArray } (.lst (ns.map V.int)))) ⟨fun b u z => ?_, fun b z => ?_, fun _ => hk, fun b z => ?_⟩ (.inl (.inr ⟨_, upd_same⟩))
    · by_cases e : b = a
      · subst e
        rw [upd_same] at z
        cases z
        exact ⟨hobj, by rw [List.length_map]; exact lz, vs, _, rv, hobj⟩
      · rw [upd_ne e] at z
        cases z
    · by_cases e : b = a
      · exact e
      · rw [upd_ne e] at z
        exact (z rfl).elim
    · by_cases e : b = a
      · subst e
        exact ⟨_, _, upd_same⟩
      · rw [upd_ne e] at z
        exact (z rfl).elim
end
end Q
end

section
set_option Elab.async false
set_option linter.all false
set_option maxRecDepth 100000
set_option maxHeartbeats 3900000
/-! X1: an own exception class called by keywords. -/
namespace Q
open PySem PySem.HandSPX PySem.Builtin PySem.Builtin.ObjectAttr
section
variable {prog : Program} {w : World} {A : Around} {E : Value → Shared → Prop} {R : Result → Shared → Prop} {h : Heap} {g : Array GenState} {d : Drawn} {t : Nat} {os : OsState} {M : Model}
variable {nm q : Str} {C N : Addr} {bs bm bmB : List Value} {hdct : Bool} {sn : List Str} {sub : List Value} {ab : Bool} {col : Option Bool} {dd : Option Addr} {k0 k1 k2 k3 k5 : Option Value} {B newId initId : String} {rest : List Value} {kw : List (Str × Value)}

theorem kw_check (F : ExcBaseFacts B newId initId bmB) (hT : ∀ X : String, bm.contains (.type X) = bmB.contains (.type X)) {Q : Unit → Shared → Prop} (hC : h.get? C = some (excClassObj nm q C N bs bm hdct sn sub ab col dd k0 k1 k2 k3 k5 newId)) (hq : Q () ⟨h, g, d, t, os⟩) :
    wpAny M A (checkBuiltinCall newId ⟨.ref C :: rest, kw⟩) Q E ⟨h, g, d, t, os⟩ := by
  have has : (Value.ref C :: bm).contains (.type B) = true := by
    rw [List.contains_cons, hT, F.hasB, Bool.or_true]
  have star := F.noStar
  simp only [checkBuiltinCall, F.newKind, F.newSplit, F.newRow]; repeat (first | refine wpAny_loadPart_at hC ?_ | (refine wpAny_isSubtype_exc hC ?_; rw [has]) | refine wpAny_staticBase_exc hC ?_ | refine wpAny_madeBy_exc hC ?_ | simp only [bne_self_eq_false, Bool.false_eq_true, if_false] | wp_step)
  exact hq
theorem kw_new (F : ExcBaseFacts B newId initId bmB) (hT : ∀ X : String, bm.contains (.type X) = bmB.contains (.type X)) (hC : h.get? C = some (excClassObj nm q C N bs bm hdct sn sub ab col dd k0 k1 k2 k3 k5 newId))
    (hq : R (.ok (.ret (.ref (h.objs.size + 1)))) ⟨(h.push (PySem.W.kdv_tup rest)).push (excO C h.objs.size), g, d, t, os⟩) (hrest : rest.length ≤ sizeLine) :
    codeAny (model prog w) A (.builtin newId ⟨.ref C :: rest, kw⟩) R ⟨h, g, d, t, os⟩ := by
  have ends := F.ends
  have has : (Value.ref C :: bm).contains (.type B) = true := by
    rw [List.contains_cons, hT, F.hasB, Bool.or_true]
  have noA : (Value.ref C :: bm).contains (.type "AttributeError") = false := by
    rw [List.contains_cons, hT, F.noAttr]; rfl
  have noN : (Value.ref C :: bm).contains (.type "NameError") = false := by
    rw [List.contains_cons, hT, F.noName]; rfl
  refine codeAny_builtinAt F.entry ?_; unfold Builtin.«BaseException.__new__»
  refine wpAt_bind ?_
  show wpAt _ _ _ (PySem.stack >>= _) _ _ _
  refine wpAt_bind (wpAt_stack fun p below => wpAt_of_wpAny ?_); wp_walk
  refine wpAt_of_wpAny ?_
  rw [F.owner]
  repeat (first | with_reducible refine wpAny_madeHere_exc F.canon hC ?_ | with_reducible refine wpAny_loadPart_at hC ?_ | (with_reducible refine wpAny_isSubtype_exc hC ?_; first | rw [has] | rw [noA] | rw [noN]) | wp_step)
  show R _ _
  rw [Heap.size_push]
  exact hq
theorem kw_type (F : ExcBaseFacts B newId initId bmB) (hT : ∀ X : String, bm.contains (.type X) = bmB.contains (.type X)) {fI : Addr} {Q : Fin → Shared → Prop} (hC : h.get? C = some (excClassObj nm q C N bs bm hdct sn sub ab col dd k0 k1 k2 k3 k5 newId))
    (hi : PySem.W.Looks (model prog w) h (typeLookup (.ref C) "__init__") (some (.ref fI))) (hb : ∀ self, PySem.W.Looks (model prog w) h (bindSpecial (.ref fI) self) (.ref fI, [self])) (hrest : rest.length ≤ sizeLine)
    (hq : codeAny (model prog w) A (.call (.ref fI) ⟨.ref (h.objs.size + 1) :: rest, kw⟩) (fun r s' => match r with | .ok (.ret v) => v = .none ∧ Q (.done (.ret (.ref (h.objs.size + 1)))) s' | .ok _ => False | .error e => E e s')
      ⟨(h.push (PySem.W.kdv_tup rest)).push (excO C h.objs.size), g, d, t, os⟩) :
    wpAny (model prog w) A (Builtin.«type.__call__» ⟨.ref C :: rest, kw⟩) Q E ⟨h, g, d, t, os⟩ := by
  repeat (first | with_reducible refine wpAny_madeBy_exc hC ?_ | with_reducible refine wpAny_loadPart_at hC ?_ | wp_step)
  refine codeAny_call_builtin_code (Code.quiet_builtin _ F.quiet) (kw_check F hT hC ?_)
  refine kw_new F hT hC ?_ hrest
  show wpAny _ _ _ _ _ _
  have kk : ∀ b o, h.get? b = some o → ((h.push (PySem.W.kdv_tup rest)).push (excO C h.objs.size)).get? b = some o := fun b o e => Heap.get?_push_of_some _ (Heap.get?_push_of_some _ e)
  have hC1 := kk _ _ hC
  have got : ((h.push (PySem.W.kdv_tup rest)).push (excO C h.objs.size)).get? (h.objs.size + 1) = some (excO C h.objs.size) := by heap_get
  have hasC : (Value.ref C :: bm).contains (.ref C) = true := by simp
  have i1 := hi.keeps kk
  have b1 := (hb (.ref (h.objs.size + 1))).keeps kk
  unfold isInstance
  repeat (first | with_reducible refine wpAny_loadPart_at got ?_ | (with_reducible refine wpAny_isSubtype_exc hC1 ?_; rw [hasC]) | wp_step)
  show wpAny _ _ (typeLookup (Value.ref C) _) _ _ _
  refine i1.at (wpAny_holding (wpAny_bind (b1.at ?_)))
  refine wpAny_bind (wpAny_call (codeAny_mono hq fun r s' z => ?_)); rcases r with e | (v | _ | _ | _) <;> first | exact z | exact z.elim | skip
  obtain ⟨rfl, z⟩ := z
  first
    | exact (wpAny_pure (wpAny_pure z))
    | (wp_walk; exact z)
/-- C(.., k = v ..): the own __init__ runs -/
theorem kw_call (F : ExcBaseFacts B newId initId bmB) (hT : ∀ X : String, bm.contains (.type X) = bmB.contains (.type X)) {fI : Addr} (hC : h.get? C = some (excClassObj nm q C N bs bm hdct sn sub ab col dd k0 k1 k2 k3 k5 newId))
    (hi : PySem.W.Looks (model prog w) h (typeLookup (.ref C) "__init__") (some (.ref fI))) (hb : ∀ self, PySem.W.Looks (model prog w) h (bindSpecial (.ref fI) self) (.ref fI, [self])) (hrest : rest.length ≤ sizeLine)
    (hq : codeAny (model prog w) (A.under (.builtin "type.__call__" ⟨.ref C :: rest, kw⟩)) (.call (.ref fI) ⟨.ref (h.objs.size + 1) :: rest, kw⟩) (PySem.W.InitBack (h.objs.size + 1) R) ⟨(h.push (PySem.W.kdv_tup rest)).push (excO C h.objs.size), g, d, t, os⟩) :
    codeAny (model prog w) A (.call (Value.ref C) ⟨rest, kw⟩) R ⟨h, g, d, t, os⟩ := by
  have f1 := tc_lookup
  have f2 := tc_bind (.ref C)
  have hTy : (⟨h, g, d, t, os⟩ : Shared).TypeIs (.ref C) "type" := ⟨_, hC, rfl⟩; refine codeAny_of_tree (show wpAny _ _ (callAny (.ref C) _) _ _ _ from ?_)
  repeat (any_goals (first | with_reducible refine wpAny_loadPart_at hC ?_ | assumption | wp_step))
  refine ⟨rfl, codeAny_call_builtin_at (Code.quiet_builtin _ (by decide +kernel)) entry_typeCall (wpAny_check_type_call_sub hC (kw_type F hT hC hi hb hrest ?_))⟩
  refine codeAny_mono hq fun r s' z => ?_; rcases r with e | (v | _ | _ | _) <;> exact z
end
end Q
end

section
set_option Elab.async false
set_option linter.all false
set_option maxRecDepth 100000
set_option maxHeartbeats 3900000
/-! X2: exceptions that are values: made by place or by keyword, a field, isinstance; {k: v}; repr of such a dict. -/
namespace Q
open PySem L2
variable {Z : Zt} {ρ : Rho} {σ : St} {H H' : Hp} {O : Out} {P : D → Nat → Prop} {e a b : Expr} {pos p apos kpos : Pos} {X : Cx} {k j : Nat} {f C : Addr} {F : Fw} {x n m name fld : Str} {es : List Expr} {kws : List Keyword} {ks : List Str} {sp : Sp}
  {prog : Program} {w : World} {K : PySem.W.Frag} {mg : Str → Option Value} {base : Heap}

/-- the class at C runs its own __init__ -/
theorem runX {pins : List (Addr × Obj)} {s : Shared} {Q : VK} {us ws : List Value} {vs zs : List V} {i : Nat} {r : Bool} {fI : Addr} (T : OexC X.K C) (iC : PySem.W.findIn X.K (.ref C) "__init__" = some (some (.ref fI))) (tI : PySem.W.typeIn X.K (.ref fI) = some (.type "function"))
    (G : FnK X.prog X.w X.K X.mg X.base (L2.CX X.prog X.w) k fI (i + 1) ks r sp) (hr : RoomG (k + 1) X.A) (I : Inv X pins σ H s) (rv : Vals vs us) (rz : Vals zs ws) (l1 : vs.length = i) (l2 : zs.length = ks.length) (hz : vs.length ≤ 1000)
    (h : ∀ y, H y = none → sp (kg r (.ref y :: vs) zs) (upd H y (exo y C none)) (fun v H2 => v = .non ∧ Q (.ref y) H2) (fun _ _ _ => False)) : wpAny (model X.prog X.w) X.A (call (.ref C) us (ks.zip ws)) (EP X pins σ Q) X.xe s := by
  obtain ⟨nm, q, N, bs, bm, sn, sub, ab, col, dd, k0, k1, k2, k3, k5, hC, hbm⟩ := T.cls; obtain ⟨hp, g, dr, tk, os⟩ := s
  have up : hp.objs.size ≤ hp.objs.size + 1 := Nat.le_succ _
  have hn : H (hp.objs.size + 1) = none := I.hok.fresh up
  have hq := h (hp.objs.size + 1) hn
  have stay : ∀ b o, hp.get? b = some o → ((hp.push (PySem.W.kdv_tup us)).push (PySem.HandSPX.excO C hp.objs.size)).get? b = some o := fun b o z => Heap.get?_push_of_some _ (Heap.get?_push_of_some _ z)
  have got : ((hp.push (PySem.W.kdv_tup us)).push (PySem.HandSPX.excO C hp.objs.size)).get? (hp.objs.size + 1) = some (PySem.HandSPX.excO C hp.objs.size) := by heap_get
  have I2 : Inv X pins σ (upd H (hp.objs.size + 1) (exo (hp.objs.size + 1) C none)) ⟨(hp.push (PySem.W.kdv_tup us)).push (PySem.HandSPX.excO C hp.objs.size), g, dr, tk, os⟩ :=
    I.laid (t' := tk) (a := hp.objs.size + 1) (o := exo (hp.objs.size + 1) C none) (h' := (hp.push (PySem.W.kdv_tup us)).push (PySem.HandSPX.excO C hp.objs.size)) stay up (exo_ok got)
  have lu : us.length ≤ sizeLine := by
    rw [← Paired.length rv, sizeLine_eq]; omega
  have g := G _ X.stack _ _ (Value.ref (hp.objs.size + 1) :: us) ws (V.ref (hp.objs.size + 1) :: vs) zs _ (fun _ _ _ => False) (hr.make C us (ks.zip ws)) (I2.env0.make C us (ks.zip ws)) (.cons rfl rv) rz (congrArg Nat.succ l1) l2 hq
  refine wpAny_call (kw_call PySem.F.excBase_ValueError (fun Y => PySem.HandSPX.refsVE_contains Y bm hbm) (I.kIn _ _ hC) (PySem.W.looks_findIn I.kIn iC) (fun self => PySem.W.bind_fn I.kIn self tI) lu (codeAny_mono g ?_))
  intro r s' hq'
  match r, hq' with
  | .error er, hq' => exact passL (X := X) pins σ _ _ er s' I2 hq'
  | .ok (.ret u), hq' =>
    obtain ⟨v, H3, I3, rv, ev, q3⟩ := I2.after hq'
    subst ev
    exact ⟨rv, V.ref _, H3, I3, rfl, q3⟩
/-- such a class -/
structure ErrX (P : Program) (w : World) (K : PySem.W.Frag) (mg : Str → Option Value) (base : Heap) (name fld : Str) (C : Addr) : Prop where
  m : mg name = some (.ref C)
  o : OexC K C
  i : ∃ fI, PySem.W.findIn K (.ref C) "__init__" = some (some (.ref fI)) ∧ PySem.W.typeIn K (.ref fI) = some (.type "function") ∧ FnK P w K mg base (L2.CX P w) 1 fI 2 [] false (spErr C fld) ∧ FnK P w K mg base (L2.CX P w) 1 fI 1 [fld] false (spErr C fld)
theorem upd3 {H : Hp} {y z : Addr} {o u o' : HO} : upd (upd (upd H y o) z u) y o' = upd (upd H z u) y o' := by
  funext b
  by_cases e : b = y
  · rw [e, upd_same, upd_same]
  · rw [upd_ne e, upd_ne e]
    by_cases e2 : b = z
    · rw [e2, upd_same, upd_same]
    · rw [upd_ne e2, upd_ne e2, upd_ne e]
/-- what the __init__ leaves -/
theorem spErr_at {d : D} {v : V} {y : Addr} {H0 : Hp} {σ0 : St} {Q : VK} (S : SR Z ρ σ H) (hpl : plain d = true) (rv : val Z.T ρ.B (vis ρ.B H) d v) (hy : H y = none) (kq : Post Z ρ σ H P Q) (h : P (.exf C fld d) ρ.c) :
    spErr C fld [.ref y, v] (upd H y (exo y C none)) (fun u H2 => u = .non ∧ Q (.ref y) H2) (fun _ _ _ => False) := by
  refine ⟨y, v, rfl, upd_same, fun dx hdx hne => ⟨rfl, ?_⟩⟩
  rw [upd3]
  rw [upd_ne hne] at hdx
  have s1 : Same H (upd H dx (exd dx [(fld, v)])) := same_new hdx
  have hy1 : (upd H dx (exd dx [(fld, v)])) y = none := by
    rw [upd_ne (Ne.symm hne)]; exact hy
  have s2 : Same (upd H dx (exd dx [(fld, v)])) (upd (upd H dx (exd dx [(fld, v)])) y (exo y C (some dx))) := same_new hy1
  have s12 : Same H (upd (upd H dx (exd dx [(fld, v)])) y (exo y C (some dx))) := fun c u q => s2 _ _ (s1 _ _ q)
  have S' := S.same s12
  have by_ : ρ.B y = none := S.ok.fresh hy
  have bd : ρ.B dx = none := S.ok.fresh hdx
  refine kq _ _ (.exf C fld d) ρ.c S' (Same.vis_ s12) (.of (d := .exf C fld d) ⟨y, dx, v, rfl, ?_, ?_, ?_⟩) h
  · exact vis_of upd_same by_
  · refine vis_of ?_ bd
    rw [upd_ne hne]; exact upd_same
  · exact (val_rep rv hpl).mono (Same.vis_ s12)
def tMkX (X : Cx) (C : Addr) (es : List Expr) (sp : Sp) : TE := fun σ H Q => taAny X es σ H fun vs H1 => vs.length = 1 ∧ ∀ y, H1 y = none → sp (.ref y :: vs) (upd H1 y (exo y C none)) (fun v H2 => v = .non ∧ Q (.ref y) H2) (fun _ _ _ => False)
theorem pe_mkx (E : ErrX X.prog X.w X.K X.mg X.base x fld C) (hr : RoomG 2 X.A) (hg : Gl X x) (hd : (x == ("__debug__" : Str)) = false := by decide)
    (he : starEach (e :: es) X.env = (false, eval e X.env) :: starEach es X.env := by rfl)
    (hpl : (backTo pos (starEach es X.env)).any (·.1) = false := by rfl) : PE X (.Call (.Name x p) (e :: es) [] pos) (tMkX X C (e :: es) (spErr C fld)) := ⟨fun pins s σ H Q I h => by
  obtain ⟨t, ha, h⟩ := h
  obtain ⟨fI, i1, i2, G, _⟩ := E.i
  refine wpAny_Call_Name_kw (ld_glob I hg E.m ?_ hd)
  refine PySem.W.callWith_K (h₀ := X.base) I.ok.mod.kin E.o.kC (thn (ha.run pos pins s σ H _ I h) fun us s1 ⟨vs, H1, I1, r1, hl, q1⟩ => ⟨I1.kIn, ?_⟩) he hpl
  exact runX (ks := []) (ws := []) (zs := []) (r := false) (i := 1) E.o i1 i2 G hr I1 r1 .nil hl rfl (by rw [hl]; decide) fun y hy => by
    show spErr C fld ((V.ref y :: vs) ++ []) _ _ _
    rw [List.append_nil]; exact q1 y hy⟩
/-- C(e) -/
theorem ev_mkx (E : ErrX Z.X.prog Z.X.w Z.X.K Z.X.mg Z.X.base x fld C) (hr : RoomG (j + 2) Z.X.A) (h : EA Z ρ [e] fun ds c => ∃ d, ds = [d] ∧ plain d = true ∧ P (.exf C fld d) c) (hg : Gl Z.X x := by rfl) (hd : (x == ("__debug__" : Str)) = false := by decide)
    (he : starEach [e] Z.X.env = (false, eval e Z.X.env) :: starEach [] Z.X.env := by rfl) (hpl : (backTo pos (starEach [] Z.X.env)).any (·.1) = false := by rfl) : EV Z ρ (.Call (.Name x p) [e] [] pos) P :=
  ev_of (pe_mkx E (hr.mono (Nat.le_add_left _ _)) hg hd he hpl) fun σ H Q S kq => ea_any h S fun vs H1 ds c S1 e1 r ⟨d, hds, hp, hP⟩ => by
    subst hds
    obtain ⟨v, rfl, rv⟩ := pr1 r
    exact ⟨rfl, fun y hy => spErr_at (ρ := ρ.wc c) (H0 := H) (σ0 := σ) S1 hp rv hy (kq.from (c := c) e1) hP⟩
def tMkXk (X : Cx) (C : Addr) (kws : List Keyword) (sp : Sp) : TE := fun σ H Q => tkAny X kws σ H fun zs H1 => zs.length = 1 ∧ ∀ y, H1 y = none → sp (.ref y :: zs) (upd H1 y (exo y C none)) (fun v H2 => v = .non ∧ Q (.ref y) H2) (fun _ _ _ => False)
theorem pe_mkxk (E : ErrX X.prog X.w X.K X.mg X.base x fld C) (hr : RoomG 2 X.A) (hg : Gl X x) (hd : (x == ("__debug__" : Str)) = false := by decide)
    (hall : (backToKw pos (keywordEach kws X.env)).all (·.1.isSome) = true := by rfl)
    (hks : (backToKw pos (keywordEach kws X.env)).filterMap (·.1) = [fld] := by rfl)
    (hpl : ((backTo pos (starEach [] X.env)).any (·.1) || (backToKw pos (keywordEach kws X.env)).any (·.1.isNone)) = false := by rfl) : PE X (.Call (.Name x p) [] kws pos) (tMkXk X C kws (spErr C fld)) := ⟨fun pins s σ H Q I h => by
  obtain ⟨fI, i1, i2, _, G⟩ := E.i
  refine wpAny_Call_Name_kw (ld_glob I hg E.m (PySem.W.callWith_KW0 (h₀ := X.base) I.ok.mod.kin E.o.kC hall (thn (pk_any.run pos pins s σ H _ I h) fun ws s2 ⟨zs, H2, I2, rz, hl, q2⟩ => ⟨I2.kIn, ?_⟩) hpl) hd)
  rw [hks]
  exact runX (ks := [fld]) (us := []) (vs := []) (r := false) (i := 0) E.o i1 i2 G hr I2 .nil rz rfl hl (by decide) fun y hy => q2 y hy⟩
/-- C(fld = e) -/
theorem ev_mkxk (E : ErrX Z.X.prog Z.X.w Z.X.K Z.X.mg Z.X.base x fld C) (hr : RoomG (j + 2) Z.X.A) (h : EK Z ρ kws fun ds c => ∃ d, ds = [d] ∧ plain d = true ∧ P (.exf C fld d) c) (hg : Gl Z.X x := by rfl) (hd : (x == ("__debug__" : Str)) = false := by decide)
    (hall : (backToKw pos (keywordEach kws Z.X.env)).all (·.1.isSome) = true := by rfl)
    (hks : (backToKw pos (keywordEach kws Z.X.env)).filterMap (·.1) = [fld] := by rfl)
    (hpl : ((backTo pos (starEach [] Z.X.env)).any (·.1) || (backToKw pos (keywordEach kws Z.X.env)).any (·.1.isNone)) = false := by rfl) : EV Z ρ (.Call (.Name x p) [] kws pos) P :=
  ev_of (pe_mkxk E (hr.mono (Nat.le_add_left _ _)) hg hd hall hks hpl) fun σ H Q S kq => ek_any h S fun vs H1 ds c S1 e1 r ⟨d, hds, hp, hP⟩ => by
    subst hds
    obtain ⟨v, rfl, rv⟩ := pr1 r
    exact ⟨rfl, fun y hy => spErr_at (ρ := ρ.wc c) (H0 := H) (σ0 := σ) S1 hp rv hy (kq.from (c := c) e1) hP⟩
/-! ### C(), no __init__ of its own -/
theorem pe_mk0 (E : ErrC X.K X.mg x C) (hg : Gl X x) (hd : (x == ("__debug__" : Str)) = false := by decide) : PE X (.Call (.Name x p) [] [] pos) (fun σ H Q => ∀ y, H y = none → Q (.ref y) (upd H y (ExO (.ref C) y))) := ⟨fun pins s σ H Q I h => by
  refine wpAny_Call_Name_kw (ld_glob I hg E.m ?_ hd)
  refine PySem.W.callWith_K0 I.kIn E.k ?_
  obtain ⟨_, _, _, _, _, _, _, _, _, _, _, _, _, _, _, _, _, hC, hN, hni, T⟩ := exc_obj I.kIn E.x
  refine PySem.wpAny_call_exc_subT PySem.F.excBase_ValueError T hC hN hni (fun h' y hm => ?_) (by show 0 ≤ sizeLine; exact Nat.zero_le _)
  have hn : H y = none := I.hok.gone hm.new
  obtain ⟨t, ht, _, _⟩ := hm.there; exact ⟨.ref y, upd H y (ExO (.ref C) y), I.laidN hm.keeps hm.new hn (exO_ok ht ⟨rfl, rfl⟩ rfl rfl rfl (show 4 < 6 by decide)), rfl, h y hn⟩⟩
theorem ev_mk0 (E : ErrC Z.X.K Z.X.mg x C) (h : P (.exc C) ρ.c) (hg : Gl Z.X x := by rfl) (hd : (x == ("__debug__" : Str)) = false := by decide) : EV Z ρ (.Call (.Name x p) [] [] pos) P :=
  ev_of (pe_mk0 E hg hd) fun σ H Q S kq y hy => by
    have S' := S.same (same_new (o := ExO (.ref C) y) hy)
    exact kq _ _ (.exc C) _ S' (Same.vis_ (same_new hy)) (.of (d := .exc C) ⟨y, rfl, new_at S hy⟩) h
/-! ### e.fld -/
def tXg (C : Addr) (n : Str) (te : TE) : TE := fun σ H Q => te σ H fun x H1 => ∃ y dx fs v, x = .ref y ∧ H1 y = some (exo y C (some dx)) ∧ H1 dx = some (exd dx fs) ∧ fs.lookup n = some v ∧ Q v H1
theorem pe_xg {te : TE} (T : XfC X.K C) (hno : PySem.W.findIn X.K (.ref C) n = some none) (he : PE X e te) (hb : attributeBase e n X.env (eval e X.env) = eval e X.env := by rfl) : PE X (.Attribute e n pos) (tXg C n te) := by
  refine ⟨fun pins s σ H Q I h => ?_⟩; refine attr_of hb (thn (he.run pins s σ H _ I h) fun u s1 hh => ?_)
  obtain ⟨x, H1, I1, rx, y, dx, fs, v, rfl, hy, hdx, hl, q⟩ := hh
  obtain rfl : u = Value.ref y := rx
  obtain ⟨t1, ho⟩ := exo_at I1.hok hy
  obtain ⟨mA, hns, hr⟩ := exd_at I1.hok hdx
  obtain ⟨od, hod, hlk⟩ := lookIn_ns hns
  obtain ⟨u, hu, ru⟩ := RelO.some_of (v := v) (o := mA n) (by rw [← hl]; exact hr n)
  have J : PySem.W.InstAt s1.heap y { cls := .ref C, dict := some dx, data := .fields #[.ref t1, .none, .none, .none, .bool false, .none] } C (some od) := ⟨ho, rfl, rfl, hod⟩
  exact HandSPX.exc_get I1.kIn J T.ga T.gg T.exC (PySem.W.findObj_own T.hdC hno rfl (by rw [hlk, hu])) (handed_of ru) ⟨v, H1, I1.tok _, ru, q⟩
theorem ev_xg (hK : Z.X.K = Z.T.K) (T : XfC Z.T.K C) (hno : PySem.W.findIn Z.T.K (.ref C) fld = some none) (h : EV Z ρ e fun d c => ∃ d', d = .exf C fld d' ∧ P d' c) (hb : attributeBase e fld Z.X.env (eval e Z.X.env) = eval e Z.X.env := by rfl) : EV Z ρ (.Attribute e fld pos) P :=
  ev_of (pe_xg (by rw [hK]; exact T) (by rw [hK]; exact hno) pe_any hb) fun σ H Q S kq => ev_any h S fun v H1 d c1 S1 e1 r ⟨d', hd, hp⟩ => by
    subst hd
    obtain ⟨y, dx, w, rfl, h1, h2, h3⟩ := r
    exact ⟨y, dx, _, w, rfl, vis_some h1, vis_some h2, by simp, (kq.from (c := c1) e1).here S1 hp (.of h3)⟩
/-! ### isinstance -/
def clsX : D → Option Addr
  | .exc C => some C
  | .exf C _ _ => some C
  | _ => none
/-- what a class must say for isinstance of its exceptions -/
structure IsX (K : PySem.W.Frag) (C : Addr) : Prop where
  c : PySem.W.isClsIn K C = true
  g : PySem.W.findIn K (.ref C) "__getattribute__" = some (some (.builtin "BaseException.__getattribute__"))
  k : PySem.W.findIn K (.ref C) "__getattr__" = some none
  s : PySem.W.subIn K (.ref C) (.type "BaseException") = some true
  a : PySem.W.findIn K (.ref C) "__class__" = some (some (.builtin "object.__class__"))
  n : PySem.W.specialIn K (.builtin "object.__class__") "__get__" = some (some (.builtin "getset_descriptor.__get__"))
  t : PySem.W.takesIn K (.builtin "object.__class__") = some true
  m : PySem.W.mroIn K C (.type "object") = some true
def rIsX (K : PySem.W.Frag) : List V → Hp → VK → Prop := fun xs H Q => ∃ (y C : Addr) (c : V) (cv : Value) (b : Bool), xs = [.ref y, c] ∧ excAt H y C ∧ IsX K C ∧ (∀ u, RelV c u → u = cv) ∧ PySem.W.kitOne K (.ref C) cv = some b ∧ Q (.bl b) H
theorem call_isX : CallR X (.builtin "isinstance") (rIsX X.K) := by
  intro pins s σ H xs us Q I r h; obtain ⟨y, C, c, cv, b, rfl, hx, T, hcv, e, q⟩ := h
  cases r with
  | cons rx rr =>
    cases rr with
    | cons rt rr =>
      cases rr
      cases rx
      have ec := hcv _ rt
      subst ec
      have inst : ∃ ox od, PySem.W.InstAt s.heap y ox C od := by
        rcases hx with hx | ⟨dx, fs, hx, hd⟩
        · obtain ⟨⟨oe, vs, ho, hz, hd, _⟩, _, _⟩ := I.hok y _ hx
          obtain ⟨oc, od, oda, osl⟩ := oe; obtain ⟨h1, h2⟩ := hz
          dsimp only at h1 h2 hd
          subst h1 h2 hd
          exact ⟨_, none, ho, rfl, rfl, trivial⟩
        · obtain ⟨t1, ho⟩ := exo_at I.hok hx
          obtain ⟨mA, hns, _⟩ := exd_at I.hok hd
          obtain ⟨od, hod, _⟩ := lookIn_ns hns
          exact ⟨_, some od, ho, rfl, rfl, hod⟩
      obtain ⟨ox, od, J⟩ := inst
      exact PySem.W.kia_one (PySem.W.kitx_exc (C := C) (x := y) (ox := ox) (od := od) T.c T.g T.k T.s T.a T.n T.t T.m) I.kIn J e (fun z => nomatch z) fun tk => ⟨.bl b, H, I.kept (t' := tk) fun _ _ z => z, rfl, q⟩
theorem clsX_at {T : Tab} {G : Hp} {d : D} {v : V} (h : clsX d = some C) (r : rep T G d v) : ∃ y, v = .ref y ∧ excAt G y C := by
  cases d <;> first | (cases h; done) | skip
  case exc C' =>
    have e := Option.some.inj h
    subst e
    obtain ⟨y, h1, h2⟩ := r
    exact ⟨y, h1, .inl h2⟩
  case exf C' f' d' =>
    have e := Option.some.inj h
    subst e
    obtain ⟨y, dx, w, h1, h2, h3, _⟩ := r
    exact ⟨y, h1, .inr ⟨dx, _, h2, h3⟩⟩
theorem clsX_plain {d : D} (h : clsX d = some C) : plain d = true := by
  cases d <;> first | rfl | cases h
theorem ev_isX (hK : Z.X.K = Z.T.K) (hg : Gl Z.X "isinstance") (hm : Z.X.mg "isinstance" = none)
    (h : EA Z ρ [a, b] fun ds c => ∃ d v C k, ds = [d, v] ∧ clsX d = some C ∧ IsX Z.T.K C ∧ ((∃ u, v = .ty u ∧ PySem.W.kitOne Z.T.K (.ref C) (.type u) = some k) ∨ ∃ g, v = .cls g ∧ PySem.W.kitOne Z.T.K (.ref C) (.ref g) = some k) ∧ P (.bl k) c)
    (he : starEach [a, b] Z.X.env = (false, eval a Z.X.env) :: starEach [b] Z.X.env := by rfl) (hpl : (backTo pos (starEach [b] Z.X.env)).any (·.1) = false := by rfl) : EV Z ρ (.Call (.Name "isinstance" p) [a, b] [] pos) P :=
  ev_blt call_isX hg hm (by decide +kernel) (h.mono fun ds c h σ H vs Q S r kq => by
    obtain ⟨d, v, C, kk, rfl, hc, hI, hv, hp⟩ := h
    obtain ⟨v1, v2, rfl, r1, r2⟩ := pr2 r
    obtain ⟨y, rfl, hx⟩ := clsX_at hc (val_rep r1 (clsX_plain hc))
    rw [hK]
    rcases hv with ⟨u, rfl, hk⟩ | ⟨g, rfl, hk⟩
    · cases r2
      exact ⟨y, C, .ty u, .type u, kk, rfl, hx.mono vis_same, hI, fun u' z => z, hk, kq.here (d := .bl kk) S hp rfl⟩
    · cases r2
      exact ⟨y, C, .ref g, .ref g, kk, rfl, hx.mono vis_same, hI, fun u' z => z, hk, kq.here (d := .bl kk) S hp rfl⟩) (he := he) (hpl := hpl)
end Q
end

section
set_option Elab.async false
set_option linter.all false
set_option maxRecDepth 100000
set_option maxHeartbeats 3900000
/-! X3: {k: v}, its repr; isinstance where there is no Ratio. -/
namespace Q
open PySem L2
variable {Z : Zt} {ρ : Rho} {σ : St} {H H' : Hp} {O : Out} {P : D → Nat → Prop} {e a b : Expr} {pos p apos kpos : Pos} {X : Cx} {k j : Nat} {f C : Addr} {x n m name fld : Str} {es : List Expr}
/-- {x: i} -/
theorem ev_dctS {i : Int} {j1 j2} {p1 p2 : Pos} (h : P (.dct [.inr x] [.int i]) ρ.c) : EV Z ρ (.Dict [some (.Constant (.str x) j1 p1)] [.Constant (.int i) j2 p2] pos) P :=
  ev_of (pe_disp (pps_cons pe_str pe_int pps_nil) rfl rfl (by simp) (by show 1 ≤ 15; omega)) fun σ H Q S kq y hy => by
    refine ⟨upd_same, [(.inr x, .int i)], rfl, by show 1 ≤ 15; omega, ?_⟩
    rw [upd_upd]
    have S' := S.same (same_new (o := .dK [(.inr x, .int i)]) hy)
    exact kq _ _ (.dct [.inr x] [.int i]) _ S' (Same.vis_ (same_new hy)) (.of (d := .dct [.inr x] [.int i]) ⟨y, _, rfl, new_at S hy, rfl, ⟨_, _, rfl, rfl, rfl⟩⟩) h
/-- repr of a datum, and of such a dict -/
def toR : D → Option PyData
  | .dct [.inr x] [.int i] => some (.dict [(.str x, .int i)])
  | d => (toP d).bind fun p => if p.hasDict then none else some p
def rReprR (K : PySem.W.Frag) : List V → Hp → VK → Prop := fun xs H Q => ∃ v, xs = [v] ∧ ∃ p : PyData, (p.hasDict = false ∧ L2.Dp K H v p ∨ ∃ y x i, v = .ref y ∧ H y = some (.dK [(.inr x, .int i)]) ∧ p = .dict [(.str x, .int i)]) ∧ p.showable = true ∧ p.depth < 40 ∧ p.shown.length ≤ sizeLine ∧ Q (.str p.shown) H
theorem call_reprR (h : ReprAt X.A) : CallR X (.builtin "repr") (rReprR X.K) := by
  intro pins s σ H xs us Q I r hq
  obtain ⟨v, hxs, p, hd | ⟨y, x, i, hv, hy, hpd⟩, hs, hdp, hz, q⟩ := hq
  · exact call_reprD h pins s σ H xs us Q I r ⟨v, hxs, .inl ⟨p, hd.2, hs, hd.1, hdp, hz, q⟩⟩
  · subst hxs hv hpd
    obtain ⟨u, rfl, ru⟩ := vals1 r; obtain rfl : u = Value.ref y := ru
    obtain ⟨_, hsm, vs, kv, hd⟩ := I.hok y _ hy
    cases kv with
    | cons a1 a2 =>
      cases a2
      rename_i q0
      obtain ⟨qk, qv⟩ := q0
      obtain ⟨ea, eb⟩ := a1
      dsimp only at ea eb
      subst ea
      obtain ⟨t, rfl⟩ : ∃ t, qv = Value.int i t := eb
      obtain ⟨o, ents, ep, ho, hx, hda, _, hr, _⟩ := hd
      have hes : ∃ e0 : DictEntry, ents.toList = [e0] ∧ (∃ t', e0.key = .str x t') ∧ e0.val = .int i t := by
        generalize ents.toList = l at hr
        cases hr with
        | cons b1 b2 b3 =>
          cases b3
          refine ⟨_, rfl, ?_, b2⟩
          rcases keyIs_shape (k := .inr x) ((mixKind_is X.prog X.w (.inr x) _).symm.trans b1) with ⟨i', t', e1, e2⟩ | ⟨x', t', e1, e2⟩
          · cases e1
          · cases e1
            exact ⟨t', e2⟩
      obtain ⟨e0, h0, ⟨t', hk⟩, hv⟩ := hes
      refine repr_of_reads' (d := .dict [(.str x, .int i)]) (as := [y]) (.dict (kvs := [(.str x, .int i)]) (as := []) (bs := []) ho hx.1 hda (by rw [h0]; show ReadsAll _ [e0.key] _ _; rw [hk]; exact .cons (.str _ _) .nil) (by rw [h0]; show ReadsAll _ [e0.val] _ _; rw [hv]; exact .cons (.int _ _) .nil)) hs (fun _ z => by
        cases z with
        | head => simp at hsm
        | tail _ z => cases z) h.g (by have := h.u; omega) (fun _ _ z => z) (fun h' t tk hk => ⟨.str _, H, I.kept hk, ⟨t, rfl⟩, q⟩) hz
theorem ev_reprR (h0 : ReprAt Z.X.A) (hK : Z.X.K = Z.T.K) (hg : Gl Z.X "repr") (hm : Z.X.mg "repr" = none)
    (h : EA Z ρ [a] fun ds c => ∃ d p, ds = [d] ∧ toR d = some p ∧ p.showable = true ∧ p.depth < 40 ∧ p.shown.length ≤ sizeLine ∧ P (.str p.shown) c)
    (he : starEach [a] Z.X.env = (false, eval a Z.X.env) :: starEach [] Z.X.env := by rfl) : EV Z ρ (.Call (.Name "repr" p) [a] [] pos) P :=
  ev_blt (call_reprR h0) hg hm (by decide +kernel) (h.mono fun ds c ⟨d, p, hds, hp, h1, h2, h3, h4⟩ σ H vs Q S r kq => by
    subst hds
    obtain ⟨v, rfl, hv⟩ := pr1 r
    refine ⟨v, rfl, p, ?_, h1, h2, h3, kq.here (d := .str p.shown) S h4 rfl⟩
    rw [hK]
    unfold toR at hp
    split at hp
    · cases hp
      obtain ⟨y, kvs, rfl, h6, h7, h8⟩ := hv
      refine .inr ⟨y, _, _, rfl, ?_, rfl⟩
      match kvs, h7, h8 with
      | [(k', v')], h7, h8 =>
        obtain ⟨w, r', e1, e2, e3⟩ := h8
        cases h7
        cases e1
        cases e2
        exact vis_some h6
    · obtain ⟨p', hp', hi⟩ := Option.bind_eq_some_iff.mp hp
      split at hi
      · cases hi
      · cases hi
        rename_i _ hno
        exact .inl ⟨Bool.eq_false_iff.mpr hno, toP_ok hp' (val_rep hv (toP_plain hp'))⟩) (he := he)
/-- isinstance of a datum that is no Ratio -/
theorem tyV0_ok {T : Tab} {B : Bm} {H : Hp} {d : D} {v : V} {t : Value} (h : tyV T d = some t) (n : ∀ q, d ≠ .rat q) (r : rep T (vis B H) d v) : TyX T.K H v t := by
  cases d <;> first | (cases h; done) | skip
  all_goals
    have e := Option.some.inj h
    subst e
  case rat q => exact (n q rfl).elim
  case non => cases r; exact .base .non
  case bl b => cases r; exact .base (.bl b)
  case int b => cases r; exact .base (.int b)
  case str b => cases r; exact .base (.str b)
  case tup l =>
    obtain ⟨a, vs, rfl, h, _⟩ := r
    exact .base (.tup (vis_some h))
  case lst l =>
    obtain ⟨a, vs, rfl, h, _⟩ := r
    exact .base (.lst (vis_some h))
  case dct ks ds =>
    obtain ⟨a, kvs, rfl, h, _⟩ := r
    exact .base (.dK (vis_some h))
theorem ev_isin0 (hK : Z.X.K = Z.T.K) (hg : Gl Z.X "isinstance") (hm : Z.X.mg "isinstance" = none)
    (h : EA Z ρ [a, b] fun ds c => ∃ d u t k, ds = [d, .ty u] ∧ tyV Z.T d = some t ∧ (∀ q, d ≠ .rat q) ∧ PySem.W.kitOne Z.T.K t (.type u) = some k ∧ P (.bl k) c)
    (he : starEach [a, b] Z.X.env = (false, eval a Z.X.env) :: starEach [b] Z.X.env := by rfl) (hpl : (backTo pos (starEach [b] Z.X.env)).any (·.1) = false := by rfl) : EV Z ρ (.Call (.Name "isinstance" p) [a, b] [] pos) P :=
  ev_blt call_isi hg hm (by decide +kernel) (h.mono fun ds c h σ H vs Q S r kq => by
    obtain ⟨d, u, t, kk, rfl, ht, hn, hk, hp⟩ := h
    obtain ⟨v1, v2, rfl, r1, r2⟩ := pr2 r
    have ty := tyV0_ok ht hn (val_rep r1 (tyV_plain ht))
    rw [hK]
    cases r2
    exact ⟨v1, .ty u, t, .type u, kk, rfl, .ty u, ty, hk, kq.here (d := .bl kk) S hp rfl⟩) (he := he) (hpl := hpl)
end Q
end

section
set_option Elab.async false
set_option linter.all false
set_option maxRecDepth 100000
set_option maxHeartbeats 1100000
/-! X4: the forms of one value; comprehensions that keep nothing, and that keep what is true. -/
namespace Q
open PySem L2
variable {Z : Zt} {ρ : Rho} {O : Out} {P : D → Nat → Prop} {e a b t : Expr} {pos p p1 p2 px pos' : Pos} {x name fld : Str} {k j i : Nat} {f C g : Addr} {F : Fw} {es : List Expr} {d d1 d2 : D} {ds : List D} {kws : List Keyword} {scope : Scope}
theorem eq_str {s : Str} {j} : EQ Z ρ (.Constant (.str s) j pos) (.str s) := ev_str ⟨rfl, rfl⟩
theorem eq_non {j} : EQ Z ρ (.Constant .none j pos) .non := ev_non ⟨rfl, rfl⟩
theorem eq_cat' {l1 l2 : List D} (ha : EQ Z ρ a (.lst l1)) (hb : EQ Z ρ b (.lst l2)) (h : l1.length + l2.length ≤ 100000 := by exact Nat.le_of_ble_eq_true rfl) : EQ Z ρ (.BinOp a .Add b pos) (.lst (l1 ++ l2)) := ev_cat (ha.to (EQ.to hb ⟨l1, l2, rfl, rfl, h, rfl, rfl⟩))
theorem eq_mkx (E : ErrX Z.X.prog Z.X.w Z.X.K Z.X.mg Z.X.base x fld C) (hr : RoomG (j + 2) Z.X.A) (h : EQ Z ρ e d) (hp : plain d = true) (hg : Gl Z.X x := by rfl) (hd : (x == ("__debug__" : Str)) = false := by decide)
    (he : starEach [e] Z.X.env = (false, eval e Z.X.env) :: starEach [] Z.X.env := by rfl) (hpl : (backTo pos (starEach [] Z.X.env)).any (·.1) = false := by rfl) : EQ Z ρ (.Call (.Name x p) [e] [] pos) (.exf C fld d) :=
  ev_mkx E hr (AQ.to (aq_cons h aq_nil he) ⟨d, rfl, hp, rfl, rfl⟩) hg hd he hpl
theorem eq_mkxk (E : ErrX Z.X.prog Z.X.w Z.X.K Z.X.mg Z.X.base x fld C) (hr : RoomG (j + 2) Z.X.A) (h : KQ Z ρ kws [d]) (hp : plain d = true) (hg : Gl Z.X x := by rfl) (hd : (x == ("__debug__" : Str)) = false := by decide)
    (hall : (backToKw pos (keywordEach kws Z.X.env)).all (·.1.isSome) = true := by rfl)
    (hks : (backToKw pos (keywordEach kws Z.X.env)).filterMap (·.1) = [fld] := by rfl)
    (hpl : ((backTo pos (starEach [] Z.X.env)).any (·.1) || (backToKw pos (keywordEach kws Z.X.env)).any (·.1.isNone)) = false := by rfl) : EQ Z ρ (.Call (.Name x p) [] kws pos) (.exf C fld d) :=
  ev_mkxk E hr (KQ.to h ⟨d, rfl, hp, rfl, rfl⟩) hg hd hall hks hpl
theorem eq_mk0 (E : ErrC Z.X.K Z.X.mg x C) (hg : Gl Z.X x := by rfl) (hd : (x == ("__debug__" : Str)) = false := by decide) : EQ Z ρ (.Call (.Name x p) [] [] pos) (.exc C) := ev_mk0 E ⟨rfl, rfl⟩ hg hd
theorem eq_xg (hK : Z.X.K = Z.T.K) (T : XfC Z.T.K C) (hno : PySem.W.findIn Z.T.K (.ref C) fld = some none) (h : EQ Z ρ e (.exf C fld d)) (hb : attributeBase e fld Z.X.env (eval e Z.X.env) = eval e Z.X.env := by rfl) : EQ Z ρ (.Attribute e fld pos) d :=
  ev_xg hK T hno (h.to ⟨d, rfl, rfl, rfl⟩) hb
theorem eq_isX {kk : Bool} (i : Nat) (hK : Z.X.K = Z.T.K) (mis : Z.X.mg "isinstance" = none) (hs : ρ.s[i]? = some (some d)) (hc : clsX d = some C) (hI : IsX Z.T.K C) (hm : Z.X.mg name = some (.ref g)) (hk : PySem.W.kitOne Z.T.K (.ref C) (.ref g) = some kk)
    (n : isOwn d = false := by rfl) (hg1 : Gl Z.X "isinstance" := by rfl) (hg : Gl Z.X name := by rfl) (hN : Z.X.N[i]? = some x := by rfl)
    (hv : Vis Z.X.env.scope x := by first | exact Or.inl rfl | exact Or.inr (Or.inl rfl) | exact Or.inr (Or.inr rfl)) (hd : (x == ("__debug__" : Str)) = false := by decide) (hcd : (x == ("__classdict__" : Str)) = false := by decide)
    (hd2 : (name == ("__debug__" : Str)) = false := by decide) : EQ Z ρ (.Call (.Name "isinstance" p) [.Name x p1, .Name name p2] [] pos) (.bl kk) :=
  ev_isX hK hg1 mis (ea_cons (ev_var i hs (ea_cons (ev_globC hg hm (ea_nil ⟨d, .cls g, C, kk, rfl, hc, hI, .inr ⟨g, rfl, hk⟩, rfl, rfl⟩) hd2)) n hN hv hd hcd))
theorem eq_isXt {kk : Bool} {u : String} (i : Nat) (hK : Z.X.K = Z.T.K) (mis : Z.X.mg "isinstance" = none) (hs : ρ.s[i]? = some (some d)) (hc : clsX d = some C) (hI : IsX Z.T.K C) (hm : Z.X.mg name = none) (hb : bootBuiltins name = some (.type u)) (hk : PySem.W.kitOne Z.T.K (.ref C) (.type u) = some kk)
    (n : isOwn d = false := by rfl) (hg1 : Gl Z.X "isinstance" := by rfl) (hg : Gl Z.X name := by rfl) (hN : Z.X.N[i]? = some x := by rfl)
    (hv : Vis Z.X.env.scope x := by first | exact Or.inl rfl | exact Or.inr (Or.inl rfl) | exact Or.inr (Or.inr rfl)) (hd : (x == ("__debug__" : Str)) = false := by decide) (hcd : (x == ("__classdict__" : Str)) = false := by decide)
    (hn : name ≠ "__name__" := by decide) (hd2 : (name == ("__debug__" : Str)) = false := by decide) : EQ Z ρ (.Call (.Name "isinstance" p) [.Name x p1, .Name name p2] [] pos) (.bl kk) :=
  ev_isX hK hg1 mis (ea_cons (ev_var i hs (ea_cons (ev_ty hg hm hb (ea_nil ⟨d, .ty u, C, kk, rfl, hc, hI, .inl ⟨u, rfl, hk⟩, rfl, rfl⟩) hn hd2)) n hN hv hd hcd))
/-- nothing is kept -/
theorem lcs_none {s : List (Option D)} {elt : Expr} : ∀ {l acc : List D} {c : Nat}, (∀ y ∈ l, ∀ B s1 H1 C cl fp, Zok (Z.blk s1 H1 scope C cl fp) → TQ (Z.blk s1 H1 scope C cl fp) ⟨B, (s.set i none).set i (some y), c⟩ t false) → P (.lst acc) c → lcs Z scope s i [t] elt P l acc c
  | [], _, _, _, h => h
  | y :: l, acc, c, ht, h => fun B s1 H1 C cl fp ok => by
    show ET _ _ t _
    refine (ht y List.mem_cons_self B s1 H1 C cl fp ok).to ?_
    exact ⟨fun z => (by cases z), fun _ => lcs_none (fun y' hy' => ht y' (List.mem_cons_of_mem _ hy')) h⟩
/-- [x for x in l if x], bools -/
theorem lcs_bits {s : List (Option D)} (hi : i < s.length) (hN : Z.X.N[i]? = some x) (hx : scope.names.lookup x = some .local) (hd : (x == ("__debug__" : Str)) = false := by decide) (hcd : (x == ("__classdict__" : Str)) = false := by decide)
    (ht : ∀ (ps : Pos) (env : Env) (whole : Sem Value), isTrue (.Name x ps) env whole = (do let v ← whole; standAt (Expr.Name x ps).pos; holding [v] (truthy v)) := by intro _ _ _; rfl) :
    ∀ {bs : List Bool} {acc : List D} {c : Nat}, acc.length + bs.length ≤ 1000 → P (.lst (acc ++ (bs.filter id).map .bl)) c → lcs Z scope s i [.Name x p1] (.Name x p2) P (bs.map .bl) acc c
  | [], acc, c, _, h => by
    rw [List.filter_nil, List.map_nil, List.append_nil] at h
    exact h
  | b :: bs, acc, c, hl, h => fun B s1 H1 C cl fp ok => by
    have look : ((s.set i none).set i (some (D.bl b)))[i]? = some (some (D.bl b)) := by
      rw [List.getElem?_set_self (by simpa using hi)]
    have vis : ∀ {C2 cl2}, Vis (compEnvC scope cl2 C2 Z.X.env).scope x := fun {C2 cl2} => .inl (lookup_relabel_local hx)
    rw [List.length_cons] at hl
    refine et_val (ev_var i look ⟨b, rfl, fun hb => ?_, fun hb => ?_⟩ rfl hN vis hd hcd) (ht _ _)
    · subst hb
      refine fun s2 H2 C2 cl2 fp2 ok2 => ev_var i look ⟨rfl, by omega, ?_⟩ rfl hN vis hd hcd
      refine lcs_bits hi hN hx hd hcd ht (by rw [List.length_append]; show acc.length + 1 + bs.length ≤ 1000; omega) ?_
      rw [List.filter_cons_of_pos (by rfl), List.map_cons, ← List.singleton_append, ← List.append_assoc] at h
      exact h
    · subst hb
      refine lcs_bits hi hN hx hd hcd ht (by omega) ?_
      rw [List.filter_cons_of_neg (by simp)] at h
      exact h
end Q
end

section
set_option Elab.async false
set_option linter.all false
set_option maxRecDepth 100000
set_option maxHeartbeats 3900000
/-! S1: sep.join(reversed(a list)). -/
namespace Q
section
open PySem PySem.Spec PyProof.Rows PySem.Calls MpR
variable {prog : Program} {A : Around} {w : World} {s : Shared}
variable {E : Value → Shared → Prop}
theorem join_rev {x : Str} {t : Tok} {it l : Addr} {items : Array Value} {ys : List Str} {Q : Value → Shared → Prop} (hh : A.handled = none) (hit : s.heap.IsRevIter it l ((items.size : Int) - 1)) (hl : s.heap.IsList l items) (hne : l ≠ it) (hn : items.size ≤ sizeLine)
    (hP : ∀ acc : Array Value, ItemsOf (fun i v => items[items.size - 1 - i]? = some v) acc items.size → StrsAre acc.toList ys) (ok : (ys.map (·.length)).sum + ys.length * x.length ≤ 16777216)
    (hq : ∀ h' t' k, (∀ b o, b ≠ it → s.heap.get? b = some o → h'.get? b = some o) → Q (.str (Txt.join x ys) t') { s with heap := h', toks := k }) :
    wpAny (model prog w) A (call (.builtin "str.join") [.str x t, .ref it]) Q E s := by
  refine wpAny_call (codeAny_call_builtin F.slot_str_join.plain F.entry_str_join (F.slot_str_join.check _ _ _ _ _ _ _ _ (typeIs_str _ _ _) (F.args_str_join_2 _ _) ?_)); rw [join_tree_other]
  refine wpAny_bind (wpAny_typeOf hit.typeIs ?_)
  show wpAny _ A.in1 ((pyIter (.ref it)).tryCatch _ >>= fun v => collect v >>= fun us => joinTail x us) _ _ s
  refine wpAny_bind (wpAny_tryCatch (wpAny_pyIter_revIter hit ?_))
  refine wpAny_bind (RT.collect_rev (A := A.in1) hh hit hl hne hn fun h' tk acc hk hacc => ?_)
  obtain ⟨ls, hls, ht⟩ := strsAre_values (hP acc hacc)
  subst ht
  rw [hls]
  have ok' := joinOk_of ok
  unfold JoinOk at ok'
  rw [Bool.not_eq_true'] at ok'
  have g : Gives (joinTail x (strValues ls)) (joinMade x ls) := by
    have g0 := gives_joinTail x ls ok'
    cases ls with
    | nil => exact g0
    | cons p r => cases r with
      | nil => exact g0
      | cons q r' => exact g0
  exact g prog w A (wants Q E) _ (post_join ls ⟨joinFit_length ok', fun t' k => hq h' t' k hk⟩)
end
open PySem L2
variable {X : Cx}
def tJoinRev (K : PySem.W.Frag) (to te : TE) : TE := fun σ H Q => to σ H fun x H1 => (∃ a, x = .str a) ∧ te σ H1 fun v H2 => ∃ (a : Str) (q : Addr) (ys : List Str), x = .str a ∧ v = .ref q ∧ SqL K H2 q (ys.map V.str) ∧ (ys.map (·.length)).sum + ys.length * a.length ≤ 16777216 ∧ Q (.str (Txt.join a ys.reverse)) H2
theorem sum_rev (f : Str → Nat) : ∀ ys : List Str, (ys.reverse.map f).sum = (ys.map f).sum
  | [] => rfl
  | y :: ys => by
    rw [List.reverse_cons, List.map_append, List.sum_append, sum_rev f ys]
    simp [Nat.add_comm]
theorem pe_joinRev {o e : Expr} {to te : TE} {apos pos p pos2 : Pos} (hc : X.calm = true) (ho : PE X o to) (hg : Gl X "reversed") (hm : X.mg "reversed" = none) (he : PE X e te)
    (hs1 : starEach [.Call (.Name "reversed" p) [e] [] pos2] X.env = [(false, eval (.Call (.Name "reversed" p) [e] [] pos2) X.env)] := by rfl)
    (hs : starEach [e] X.env = (false, eval e X.env) :: starEach [] X.env := by rfl) (hbase : attributeBase o "join" X.env (eval o X.env) = eval o X.env := by rfl)
    (hline : (apos.endLine == pos.line) = true := by rfl) :
    PE X (.Call (.Attribute o "join" apos) [.Call (.Name "reversed" p) [e] [] pos2] [] pos) (tJoinRev X.K to te) := by
  refine ⟨fun pins s σ H Q I h => ?_⟩; refine PySem.Call_method1 hbase hs1 hline (thn (ho.run pins s σ H _ I h) fun v s1 ⟨x, H1, I1, r1, q1⟩ => ?_)
  obtain ⟨⟨a, rfl⟩, q1⟩ := q1
  obtain ⟨t, rfl⟩ := _root_.id r1; refine ⟨"str", _, PySem.F.plainAttrs_str, PySem.F.slot_str_join, PySem.F.type_str_join, typeIs_str _ _ _, (fun _ e => nomatch e), Calls.callWith_builtin rfl (Calls.evalArgs_plain (Calls.spliced_cons ?_))⟩
  refine PyProof.Rows.Call_ (ld_blt I1 hg hm PyProof.Rows.boot_reversed (PyProof.Rows.callWith_type1 (PyProof.Rows.args_cons (thn (he.run pins s1 σ H1 _ I1 q1) fun u s2 ⟨v, H2, I2, r2, q2⟩ => PyProof.Rows.args_nil ?_) hs) hs rfl))
  obtain ⟨a', q, ys, ea, rfl, hq, hz, q2⟩ := q2
  cases ea
  obtain rfl : u = Value.ref q := r2
  obtain ⟨its, rv, p', hsz⟩ := I2.list hq
  have hl := p'.isList
  refine call_reversed_list hl (Calls.spliced_nil ?_)
  have k0 : ∀ b o, s2.heap.get? b = some o → (s2.heap.push (revObj q ((its.toArray.size : Int) - 1))).get? b = some o := fun b o e => Heap.get?_push_of_some _ e
  have I3 : Inv X pins σ H2 { s2 with heap := s2.heap.push (revObj q ((its.toArray.size : Int) - 1)) } := I2.kept (t' := s2.toks) k0
  obtain ⟨f0, f1, f2, f3, f4, f5⟩ := I2.fpOk (H' := H2) (b := s2.heap.objs.size) (Nat.le_refl _) (I2.hok.fresh (Nat.le_refl _))
  obtain ⟨ol, hol, _⟩ := _root_.id hl
  have hne : q ≠ s2.heap.objs.size := Nat.ne_of_lt (Heap.lt_size hol)
  have lst : its.toArray.size ≤ sizeLine := by
    rw [List.size_toArray, ← rv.length]; exact hsz
  refine join_rev (s := { s2 with heap := s2.heap.push (revObj q ((its.toArray.size : Int) - 1)) }) (ys := ys.reverse) (I2.ok.hd hc) ⟨_, Heap.get?_push_size _ rfl, rfl, rfl⟩ (hl.push _) hne lst (fun acc hacc => ?_) ?_ (fun h' t' k hk => ?_)
  · have r := RT.vals_rev rv hacc
    rw [← List.map_reverse] at r
    exact strsAre_of r
  · rw [sum_rev, List.length_reverse]; exact hz
  · exact ⟨.str _, H2, I3.turned (t' := k) (fun b o hb e => hk b o hb e) f0 f1 f3 f4 f5, ⟨t', rfl⟩, q2⟩
end Q
end

section
set_option Elab.async false
set_option linter.all false
set_option maxRecDepth 100000
set_option maxHeartbeats 3900000
/-! S2: texts of integers and of quotients, as lists of signs. -/
namespace Q
open PySem PySem.NumText TL
/-- the text of an integer -/
abbrev tx (i : Int) : Str := Str.ofString (toString i)
theorem tl_tx_nn {i : Int} (h : 0 ≤ i) : tl (tx i) = numL i.natAbs := by
  obtain ⟨m, rfl⟩ := Int.eq_ofNat_of_zero_le h
  exact tl_num m
theorem tl_tx_neg {i : Int} (h : i < 0) : tl (tx i) = 45 :: numL i.natAbs := by
  obtain ⟨m, rfl⟩ : ∃ m : Nat, i = Int.negSucc m := ⟨(-i - 1).toNat, by omega⟩
  rw [show tx (Int.negSucc m) = Str.ofString ("-" ++ toString ((m + 1 : Nat) : Int)) from rfl, tl_ofString, String.toList_append, List.map_append]
  show [45] ++ (toString ((m + 1 : Nat) : Int)).toList.map Char.toNat = _
  rw [← tl_ofString, tl_num]; rfl
theorem numL_dig (n : Nat) : AllDigits (numL n) := by
  intro c hc
  obtain ⟨ch, hch, e⟩ := List.mem_map.mp hc; rw [← e]
  exact PyProof.Rows.digit_range (Nat.isDigit_of_mem_toDigits (by decide) (by decide) hch)
theorem numL_ne (n : Nat) : numL n ≠ [] := fun e => Nat.toDigits_ne_nil (List.map_eq_nil_iff.mp e)
theorem numL_val (n : Nat) : digitsVal (numL n) = n := PySem.W.KIN.val_back n
theorem numL_len {n k : Nat} (hk : 0 < k)
    (h : n < 10 ^ k) : (numL n).length ≤ k := by
  have e := PyProof.Rows.toString_length_le (v := (n : Int)) (Int.natCast_nonneg n) hk (by exact_mod_cast h)
  rw [len_tl, tl_num] at e
  exact e
theorem numL_lead {n : Nat} : ∀ c l, numL n = c :: l → 48 ≤ c ∧ c ≤ 57 := fun c l e => numL_dig n c (by rw [e]; exact List.mem_cons_self)
theorem dash_numL {n : Nat} : ∀ l, numL n ≠ 45 :: l := fun l e => by
  have := numL_lead _ _ e
  omega
theorem slash_tx (i : Int) : 47 ∉ tl (tx i) := fun h => by
  have key : 47 ∉ numL i.natAbs := fun z => by
    have := numL_dig _ _ z
    omega
  by_cases hi : i < 0
  · rw [tl_tx_neg hi] at h
    rcases List.mem_cons.mp h with h | h
    · exact absurd h (by decide)
    · exact key h
  · rw [tl_tx_nn (by omega)] at h
    exact key h
theorem tx_len {i : Int} {k : Nat} (hk : 0 < k) (h : i.natAbs < 10 ^ k) : (tx i).length ≤ k + 1 := by
  have e := numL_len hk h
  rw [len_tl]
  by_cases hi : i < 0
  · rw [tl_tx_neg hi]; simp; omega
  · rw [tl_tx_nn (by omega)]; omega
/-! ### what a word tells -/
/-- the digits of a word, behind a minus -/
def wdig : List Nat → List Nat
  | 45 :: l => l
  | l => l
theorem wdig_neg {l : List Nat} : wdig (45 :: l) = l := rfl
theorem wdig_nn {l : List Nat} (h : ∀ r, l ≠ 45 :: r) : wdig l = l := by
  unfold wdig
  split
  · exact absurd rfl (h _)
  · rfl
/-- the digits are digits -/
def okW' (l : List Nat) : Prop := AllDigits (wdig l) ∧ wdig l ≠ []
/-- the worth of a word -/
def wval : List Nat → Int
  | 45 :: l => -((digitsVal l : Nat) : Int)
  | l => ((digitsVal l : Nat) : Int)
theorem wval_nn {l : List Nat} (h : ∀ r, l ≠ 45 :: r) : wval l = ((digitsVal l : Nat) : Int) := by
  unfold wval
  split
  · exact absurd rfl (h _)
  · rfl
theorem okW_tx (i : Int) : okW' (tl (tx i)) := by
  unfold okW'
  by_cases hi : i < 0
  · rw [tl_tx_neg hi, wdig_neg]
    exact ⟨numL_dig _, numL_ne _⟩
  · rw [tl_tx_nn (by omega), wdig_nn fun r => dash_numL r]
    exact ⟨numL_dig _, numL_ne _⟩
theorem wval_tx (i : Int) : wval (tl (tx i)) = i := by
  by_cases hi : i < 0
  · rw [tl_tx_neg hi]
    show -((digitsVal _ : Nat) : Int) = i
    rw [numL_val]; omega
  · rw [tl_tx_nn (by omega), wval_nn fun r => dash_numL r, numL_val]; omega
theorem digitsVal_lt : ∀ {l : List Nat}, AllDigits l → digitsVal l < 10 ^ l.length := by
  intro l
  have key : ∀ (l : List Nat) (a : Nat), AllDigits l → l.foldl (fun acc c => acc * 10 + (c - 48)) a < (a + 1) * 10 ^ l.length := by
    intro l
    induction l with
    | nil => intro a _; simp
    | cons c l ih =>
      intro a h
      have h1 := h.head
      have h2 := ih (a * 10 + (c - 48)) h.tail
      rw [List.foldl_cons]
      refine Nat.lt_of_lt_of_le h2 ?_
      rw [List.length_cons, Nat.pow_succ, Nat.mul_comm (10 ^ l.length) 10, ← Nat.mul_assoc]
      exact (Nat.mul_le_mul_right _ (by omega))
  intro h
  have := key l 0 h
  rw [Nat.zero_add, Nat.one_mul] at this
  exact this
theorem wval_lt {l : List Nat} (h : AllDigits (wdig l)) (hl : l.length ≤ 60) : (wval l).natAbs < 10 ^ 60 := by
  have key : ∀ r : List Nat, AllDigits r → r.length ≤ 60 → digitsVal r < 10 ^ 60 := fun r h1 h2 => Nat.lt_of_lt_of_le (digitsVal_lt h1) (Nat.pow_le_pow_right (by decide) h2)
  by_cases e : ∃ r, l = 45 :: r
  · obtain ⟨r, rfl⟩ := e
    show (-((digitsVal r : Nat) : Int)).natAbs < _
    have := key r h (by simp at hl; omega)
    omega
  · have e' : ∀ r, l ≠ 45 :: r := fun r z => e ⟨r, z⟩
    rw [wval_nn e']
    rw [wdig_nn e'] at h
    have := key l h hl
    omega
/-- int(w) -/
theorem int_word {x : Str} (h : okW' (tl x)) (hl : x.length ≤ 4300) : PySem.intText? x = some (wval (tl x)) := by
  by_cases e : ∃ r, tl x = 45 :: r
  · obtain ⟨r, e⟩ := e
    unfold okW' at h
    rw [e, wdig_neg] at h
    rw [intText_neg e h.1 h.2 hl, e]; rfl
  · have e' : ∀ r, tl x ≠ 45 :: r := fun r z => e ⟨r, z⟩
    unfold okW' at h
    rw [wdig_nn e'] at h
    rw [intText_digits h.1 h.2 hl, wval_nn e']
/-! ### the text of a quotient -/
def qtx (q : Rat) : Str := if q.den = 1 then tx q.num else tx q.num ++ S [47] ++ tx (q.den : Int)
where S (l : List Nat) : Str := ⟨l.toArray⟩
abbrev slash : Str := ⟨#[47]⟩
theorem qtx_one {q : Rat} (h : q.den = 1) : qtx q = tx q.num := if_pos h
theorem qtx_two {q : Rat} (h : q.den ≠ 1) : qtx q = tx q.num ++ slash ++ tx (q.den : Int) := if_neg h
theorem part_one {x : Str} (h : 47 ∉ tl x) : Txt.partition x slash = (x, Str.empty, Str.empty) := TL.partition_none (s := 47) (S := []) rfl h
theorem part_two {a b : Str} (h : 47 ∉ tl a) : Txt.partition (a ++ slash ++ b) slash = (a, slash, b) := TL.partition_app (s := 47) (S := []) rfl h
theorem mem_slash {a b : Str} : 47 ∈ tl (a ++ slash ++ b) := by
  rw [tl_append, tl_append]
  exact List.mem_append_left _ (List.mem_append_right _ List.mem_cons_self)
/-- a list cut at its first c -/
theorem cut_inj {c : Nat} : ∀ {a a' b b' : List Nat}, c ∉ a → c ∉ a' → a ++ c :: b = a' ++ c :: b' → a = a' ∧ b = b'
  | [], [], _, _, _, _, e => ⟨rfl, (List.cons.inj e).2⟩
  | [], x :: a', _, _, _, h, e => (h (by rw [← (List.cons.inj e).1]; exact List.mem_cons_self)).elim
  | x :: a, [], _, _, h, _, e => (h (by rw [(List.cons.inj e).1]; exact List.mem_cons_self)).elim
  | x :: a, y :: a', _, _, h, h', e => by
    obtain ⟨e1, e2⟩ := List.cons.inj e
    obtain ⟨r1, r2⟩ := cut_inj (fun z => h (List.mem_cons_of_mem _ z)) (fun z => h' (List.mem_cons_of_mem _ z)) e2
    exact ⟨by rw [e1, r1], r2⟩
theorem split_one {x : Str} (h : 47 ∉ tl x) : Txt.split x slash = [x] := by
  have j := StrLaws.join_split x slash
  cases e : Txt.split x slash with
  | nil =>
    have := PyProof.Rows.split_pos x slash
    rw [e] at this
    exact absurd this (by decide)
  | cons a r =>
    rw [e] at j
    cases r with
    | nil =>
      have j' : a = x := j
      rw [j']
    | cons b r =>
      have j' : a ++ slash ++ Str.join slash (b :: r) = x := j
      exact (h (by rw [← j']; exact mem_slash)).elim
theorem split_two {a b : Str} (ha : 47 ∉ tl a) (hb : 47 ∉ tl b) : Txt.split (a ++ slash ++ b) slash = [a, b] := by
  have j := StrLaws.join_split (a ++ slash ++ b) slash
  have f := StrLaws.split_free (a ++ slash ++ b) 47
  have f' : ∀ p ∈ Txt.split (a ++ slash ++ b) slash, 47 ∉ tl p := f
  generalize Txt.split (a ++ slash ++ b) slash = ws at j f'
  match ws, j, f' with
  | [], j, _ =>
    have z := congrArg tl j
    exact absurd (show 47 ∈ tl Str.empty by rw [show Str.empty = a ++ slash ++ b from j]; exact mem_slash) (by decide)
  | [p], j, f' =>
    have j' : p = a ++ slash ++ b := j
    exact (f' p List.mem_cons_self (by rw [j']; exact mem_slash)).elim
  | p :: p2 :: r, j, f' =>
    have j' : p ++ slash ++ Str.join slash (p2 :: r) = a ++ slash ++ b := j
    have z := congrArg tl j'
    rw [tl_append, tl_append, tl_append, tl_append, List.append_assoc, List.append_assoc] at z
    obtain ⟨e1, e2⟩ := cut_inj (f' p List.mem_cons_self) ha z
    have e1' := ext_tl e1
    have e2' : Str.join slash (p2 :: r) = b := ext_tl e2
    cases r with
    | nil =>
      have e3 : p2 = b := e2'
      rw [e1', e3]
    | cons p3 r =>
      have e3 : p2 ++ slash ++ Str.join slash (p3 :: r) = b := e2'
      exact (hb (by rw [← e3]; exact mem_slash)).elim
theorem split_join (x : Str) : Str.join slash (Txt.split x slash) = x := StrLaws.join_split x slash
/-- isascii and isdigit -/
theorem dig_iff (x : Str) : (Txt.isascii x && Txt.isdigit x) = true ↔ AllDigits (tl x) ∧ tl x ≠ [] := by
  have key : ∀ c : Nat, c < 128 → (Unicode.isDigit c = true ↔ (48 ≤ c ∧ c ≤ 57)) := by decide +kernel
  unfold Txt.isascii Txt.isdigit
  rw [Bool.and_eq_true, Bool.and_eq_true, ← Array.all_toList, ← Array.all_toList, List.all_eq_true, List.all_eq_true]
  have hne : decide (x.length > 0) = true ↔ tl x ≠ [] := by
    rw [decide_eq_true_eq, len_tl]
    exact List.length_pos_iff
  constructor
  · rintro ⟨h1, h2, h3⟩
    refine ⟨fun c hc => ?_, hne.mp h2⟩
    exact (key c (of_decide_eq_true (h1 c hc))).mp (h3 c hc)
  · rintro ⟨h1, h2⟩
    refine ⟨fun c hc => ?_, hne.mpr h2, fun c hc => ?_⟩
    · have := h1 c hc
      exact (decide_eq_true (by omega))
    · have := h1 c hc
      exact (key c (by omega)).mpr this
end Q
end

section
set_option Elab.async false
set_option linter.all false
set_option maxRecDepth 100000
set_option maxHeartbeats 3900000
/-! S3: rules of texts over data. -/
namespace Q
open PySem L2
variable {Z : Zt} {ρ : Rho} {σ : St} {H H' : Hp} {O : Out} {P : D → Nat → Prop} {e a b : Expr} {pos p p1 p2 p3 px apos kpos : Pos} {X : Cx} {k j : Nat} {f C : Addr} {x n m name fld : Str} {es : List Expr} {scope : Scope} {ifs : List Expr} {elt iter : Expr}
theorem eq_any {d : D} {Q : VK} (h : EQ Z ρ e d) (S : SR Z ρ σ H) (k : ∀ v H', SR Z ρ σ H' → Same (vis ρ.B H) (vis ρ.B H') → val Z.T ρ.B (vis ρ.B H') d v → Q v H') : tAny Z.X e σ H Q :=
  ev_any (P := fun d' c' => d' = d ∧ c' = ρ.c) h S fun v H' d' c' S' e r ⟨h1, h2⟩ => by
    subst h1
    subst h2
    exact k v H' S' e r
theorem sizeS' {k : Nat} (h : k ≤ 100000) : k ≤ sizeLine := sizeS h
/-! ### slices -/
theorem ev_slFrom (h : EV Z ρ a fun d1 c1 => EV Z (ρ.wc c1) b fun d2 c2 => ∃ z i, d1 = .str z ∧ d2 = .int i ∧ z.length ≤ 100000 ∧ P (.str (Txt.slice z (some i) none)) c2) : EV Z ρ (.Subscript a (.Slice (some b) none none p2) pos) P :=
  two (r := fun x y H Q => ∃ i, y = .int i ∧ C8.rSlX x (some i) none H Q) (pe_slice C8.sl_txt pe_any (po_some pe_any) po_none) (fun σ H Q q => q) (h.mono fun d1 c1 h2 => h2.mono fun d2 c2 ⟨z, i, e1, e2, hz, hp⟩ σ H v1 v2 Q S r1 r2 kq => by
    subst e1 e2
    cases r1
    cases r2
    exact ⟨i, rfl, z, rfl, sizeS hz, kq.here (d := .str _) S hp rfl⟩)
theorem ev_slTo (h : EV Z ρ a fun d1 c1 => EV Z (ρ.wc c1) b fun d2 c2 => ∃ z i, d1 = .str z ∧ d2 = .int i ∧ z.length ≤ 100000 ∧ P (.str (Txt.slice z none (some i))) c2) : EV Z ρ (.Subscript a (.Slice none (some b) none p2) pos) P :=
  two (r := fun x y H Q => ∃ i, y = .int i ∧ C8.rSlX x none (some i) H Q) (pe_slice C8.sl_txt pe_any po_none (po_some pe_any)) (fun σ H Q q => q) (h.mono fun d1 c1 h2 => h2.mono fun d2 c2 ⟨z, i, e1, e2, hz, hp⟩ σ H v1 v2 Q S r1 r2 kq => by
    subst e1 e2
    cases r1
    cases r2
    exact ⟨i, rfl, z, rfl, sizeS hz, kq.here (d := .str _) S hp rfl⟩)
theorem eq_sl2 {c : Expr} {z : Str} {lo hi : Int} (ha : EQ Z ρ a (.str z)) (hb : EQ Z ρ b (.int lo)) (hc : EQ Z ρ c (.int hi)) (hz : z.length ≤ 100000) : EQ Z ρ (.Subscript a (.Slice (some b) (some c) none p2) pos) (.str (Txt.slice z (some lo) (some hi))) :=
  ev_of (pe_slice C8.sl_txt pe_any (po_some pe_any) (po_some pe_any)) fun σ H Q S kq => eq_any ha S fun v1 H1 S1 e1 r1 => by
    cases r1
    refine eq_any hb S1 fun v2 H2 S2 e2 r2 => ?_
    cases r2
    refine ⟨lo, rfl, eq_any hc S2 fun v3 H3 S3 e3 r3 => ?_⟩
    cases r3
    exact ⟨hi, rfl, z, rfl, sizeS hz, kq _ H3 (.str _) _ S3 (fun _ _ q => e3 _ _ (e2 _ _ (e1 _ _ q))) rfl ⟨rfl, rfl⟩⟩
/-! ### texts and numbers -/
theorem ev_sadd (h : EV Z ρ a fun d1 c1 => EV Z (ρ.wc c1) b fun d2 c2 => ∃ y z, d1 = .str y ∧ d2 = .str z ∧ y.length + z.length ≤ 100000 ∧ P (.str (y ++ z)) c2) : EV Z ρ (.BinOp a .Add b pos) P :=
  ev_two op_add_str (h.mono fun d1 c1 h2 => h2.mono fun d2 c2 ⟨y, z, e1, e2, hl, hp⟩ σ H v1 v2 Q S r1 r2 kq => by
    subst e1 e2
    exact ⟨y, z, r1, r2, sizeS hl, kq.here (d := .str _) S hp rfl⟩)
theorem eq_sadd {y z : Str} (ha : EQ Z ρ a (.str y)) (hb : EQ Z ρ b (.str z)) (h : y.length + z.length ≤ 100000) : EQ Z ρ (.BinOp a .Add b pos) (.str (y ++ z)) := ev_sadd (ha.to (EQ.to hb ⟨y, z, rfl, rfl, h, rfl, rfl⟩))
theorem ev_intS (hg : Gl Z.X "int") (hm : Z.X.mg "int" = none) (h : EA Z ρ [a] fun ds c => ∃ z i, ds = [.str z] ∧ PySem.intText? z = some i ∧ z.length ≤ 640 ∧ P (.int i) c) (he : starEach [a] Z.X.env = (false, eval a Z.X.env) :: starEach [] Z.X.env := by rfl) : EV Z ρ (.Call (.Name "int" p) [a] [] pos) P :=
  ev_typ call_int_str hg hm (by decide +kernel) (h.mono fun ds c ⟨z, i, hd, hi, hl, hp⟩ σ H vs Q S r kq => by
    subst hd
    obtain ⟨v, rfl, hv⟩ := pr1 r
    cases hv
    exact ⟨z, i, rfl, hi, hl, kq.here S hp rfl⟩) (he := he)
theorem eq_intS {z : Str} {i : Int} (hm : Z.X.mg "int" = none) (ha : EQ Z ρ a (.str z)) (h : PySem.intText? z = some i) (hl : z.length ≤ 640) (hg : Gl Z.X "int" := by rfl) (he : starEach [a] Z.X.env = (false, eval a Z.X.env) :: starEach [] Z.X.env := by rfl) : EQ Z ρ (.Call (.Name "int" p) [a] [] pos) (.int i) :=
  ev_intS hg hm (AQ.to (aq_cons ha aq_nil he) ⟨z, i, rfl, h, hl, rfl, rfl⟩) he
theorem eq_strI {i : Int} (hm : Z.X.mg "str" = none) (ha : EQ Z ρ a (.int i)) (h : i.natAbs.log2 < 1920) (hg : Gl Z.X "str" := by rfl) (he : starEach [a] Z.X.env = (false, eval a Z.X.env) :: starEach [] Z.X.env := by rfl) : EQ Z ρ (.Call (.Name "str" p) [a] [] pos) (.str (tx i)) :=
  ev_typ call_str_int hg hm (by decide +kernel) ((AQ.to (P := fun ds c => ds = [.int i] ∧ c = ρ.c) (aq_cons ha aq_nil he) ⟨rfl, rfl⟩).mono fun ds c ⟨hd, hc⟩ σ H vs Q S r kq => by
    subst hd
    obtain ⟨v, rfl, hv⟩ := pr1 r
    cases hv
    exact ⟨i, rfl, h, kq.here (d := .str (tx i)) S ⟨rfl, hc⟩ rfl⟩) (he := he)
theorem eq_lenS {z : Str} (hm : Z.X.mg "len" = none) (ha : EQ Z ρ a (.str z)) (h : z.length ≤ 100000) (hg : Gl Z.X "len" := by rfl) (he : starEach [a] Z.X.env = (false, eval a Z.X.env) :: starEach [] Z.X.env := by rfl) : EQ Z ρ (.Call (.Name "len" p) [a] [] pos) (.int (z.length : Nat)) :=
  ev_blt call_len_str hg hm (by decide +kernel) ((AQ.to (P := fun ds c => ds = [.str z] ∧ c = ρ.c) (aq_cons ha aq_nil he) ⟨rfl, rfl⟩).mono fun ds c ⟨hd, hc⟩ σ H vs Q S r kq => by
    subst hd
    obtain ⟨v, rfl, hv⟩ := pr1 r
    cases hv
    exact ⟨z, rfl, sizeS h, kq.here (d := .int (z.length : Nat)) S ⟨rfl, hc⟩ rfl⟩) (he := he)
/-! ### methods -/
theorem ev_m1S {r : V → List V → Hp → VK → Prop} (p : PE Z.X e (tM1 r (tAny Z.X a) (tAny Z.X b)))
    (h : EV Z ρ a fun d1 c1 => ∃ z, d1 = .str z ∧ EV Z (ρ.wc c1) b fun d2 c2 => ∀ σ H v2 (Q : VK), SR Z (ρ.wc c2) σ H → val Z.T ρ.B (vis ρ.B H) d2 v2 → Post Z (ρ.wc c2) σ H P Q → r (.str z) [v2] H Q) : EV Z ρ e P :=
  ev_of p fun σ H Q S kq => ev_any h S fun v1 H1 d1 c1 S1 e1 r1 ⟨z, hz, h2⟩ => by
    subst hz
    cases r1
    exact ⟨⟨z, rfl⟩, ev_any h2 S1 fun v2 H2 d2 c2 S2 e2 r2 h3 => h3 σ H2 v2 Q S2 r2 fun v H' d c' S' e' r' p => kq v H' d c' S' (fun _ _ q => e' _ _ (e2 _ _ (e1 _ _ q))) r' p⟩
theorem ev_m0S {r : V → List V → Hp → VK → Prop} (p : PE Z.X e (tM0 r (tAny Z.X a)))
    (h : EV Z ρ a fun d1 c1 => ∃ z, d1 = .str z ∧ ∀ σ H (Q : VK), SR Z (ρ.wc c1) σ H → Post Z (ρ.wc c1) σ H P Q → r (.str z) [] H Q) : EV Z ρ e P :=
  ev_of p fun σ H Q S kq => ev_any h S fun v1 H1 d1 c1 S1 e1 r1 ⟨z, hz, h2⟩ => by
    subst hz
    cases r1
    exact ⟨⟨z, rfl⟩, h2 σ H1 Q S1 (kq.from (c := c1) e1)⟩
theorem eq_removeprefix {y z : Str} (ha : EQ Z ρ a (.str z)) (hb : EQ Z ρ b (.str y)) (h : z.length ≤ 100000) (hs : starEach [b] Z.X.env = [(false, eval b Z.X.env)] := by rfl) (hbase : attributeBase a "removeprefix" Z.X.env (eval a Z.X.env) = eval a Z.X.env := by rfl)
    (hline : (apos.endLine == pos.line) = true := by rfl) : EQ Z ρ (.Call (.Attribute a "removeprefix" apos) [b] [] pos) (.str (Txt.removeprefix z y)) :=
  ev_m1S (pe_m1 PySem.F.slot_str_removeprefix PySem.F.type_str_removeprefix mt_removeprefix pe_any pe_any hs hbase hline) (ha.to ⟨z, rfl, EQ.to hb fun σ H v2 Q S r2 kq => by
    cases r2
    exact ⟨z, y, rfl, rfl, sizeS h, kq.here (d := .str _) S ⟨rfl, rfl⟩ rfl⟩⟩)
theorem eq_zfill {z : Str} {i : Int} (ha : EQ Z ρ a (.str z)) (hb : EQ Z ρ b (.int i)) (h : PadOk i = true) (hs : starEach [b] Z.X.env = [(false, eval b Z.X.env)] := by rfl) (hbase : attributeBase a "zfill" Z.X.env (eval a Z.X.env) = eval a Z.X.env := by rfl)
    (hline : (apos.endLine == pos.line) = true := by rfl) : EQ Z ρ (.Call (.Attribute a "zfill" apos) [b] [] pos) (.str (Txt.zfill z i)) :=
  ev_m1S (pe_m1 PySem.F.slot_str_zfill PySem.F.type_str_zfill mt_zfill pe_any pe_any hs hbase hline) (ha.to ⟨z, rfl, EQ.to hb fun σ H v2 Q S r2 kq => by
    cases r2
    exact ⟨z, i, rfl, rfl, h, kq.here (d := .str _) S ⟨rfl, rfl⟩ rfl⟩⟩)
theorem eq_isascii {z : Str} (ha : EQ Z ρ a (.str z)) (hbase : attributeBase a "isascii" Z.X.env (eval a Z.X.env) = eval a Z.X.env := by rfl) (hline : (apos.endLine == pos.line) = true := by rfl) : EQ Z ρ (.Call (.Attribute a "isascii" apos) [] [] pos) (.bl (Txt.isascii z)) :=
  ev_m0S (pe_m0 PySem.F.slot_str_isascii PySem.F.type_str_isascii mt_isascii pe_any hbase hline) (ha.to ⟨z, rfl, fun σ H Q S kq => ⟨z, rfl, rfl, trivial, kq.here (d := .bl _) S ⟨rfl, rfl⟩ rfl⟩⟩)
theorem eq_isdigit {z : Str} (ha : EQ Z ρ a (.str z)) (hbase : attributeBase a "isdigit" Z.X.env (eval a Z.X.env) = eval a Z.X.env := by rfl) (hline : (apos.endLine == pos.line) = true := by rfl) : EQ Z ρ (.Call (.Attribute a "isdigit" apos) [] [] pos) (.bl (Txt.isdigit z)) :=
  ev_m0S (pe_m0 PySem.F.slot_str_isdigit PySem.F.type_str_isdigit mt_isdigit pe_any hbase hline) (ha.to ⟨z, rfl, fun σ H Q S kq => ⟨z, rfl, rfl, trivial, kq.here (d := .bl _) S ⟨rfl, rfl⟩ rfl⟩⟩)
/-- x.partition(y) -/
theorem eq_partition {y z : Str} (ha : EQ Z ρ a (.str z)) (hb : EQ Z ρ b (.str y)) (h : z.length ≤ 100000) (hy : (y.length == 0) = false) (hs : starEach [b] Z.X.env = [(false, eval b Z.X.env)] := by rfl) (hbase : attributeBase a "partition" Z.X.env (eval a Z.X.env) = eval a Z.X.env := by rfl)
    (hline : (apos.endLine == pos.line) = true := by rfl) : EQ Z ρ (.Call (.Attribute a "partition" apos) [b] [] pos) (.tup [.str (Txt.partition z y).1, .str (Txt.partition z y).2.1, .str (Txt.partition z y).2.2]) :=
  ev_m1S (pe_partition pe_any pe_any hs hbase hline) (ha.to ⟨z, rfl, EQ.to hb fun σ H v2 Q S r2 kq => by
    cases r2
    refine ⟨z, y, rfl, rfl, hy, sizeS h, fun q hq => ?_⟩
    have S' := S.same (same_new (o := .tup [.str (Txt.partition z y).1, .str (Txt.partition z y).2.1, .str (Txt.partition z y).2.2]) hq)
    exact kq _ _ _ _ S' (Same.vis_ (same_new hq)) (.of (d := .tup [.str (Txt.partition z y).1, .str (Txt.partition z y).2.1, .str (Txt.partition z y).2.2]) ⟨q, _, rfl, new_at S hq, ⟨_, _, rfl, rfl, _, _, rfl, rfl, _, _, rfl, rfl, rfl⟩⟩) ⟨rfl, rfl⟩⟩)
theorem reps_strs {T : Tab} {G : Hp} : ∀ ys : List Str, reps T G (ys.map .str) (ys.map V.str)
  | [] => rfl
  | y :: ys => ⟨_, _, rfl, rfl, reps_strs ys⟩
/-- x.split(y) -/
theorem eq_split {y z : Str} (ha : EQ Z ρ a (.str z)) (hb : EQ Z ρ b (.str y)) (h : z.length + 2 ≤ 100000) (hy : (y.length == 0) = false) (hs : starEach [b] Z.X.env = [(false, eval b Z.X.env)] := by rfl) (hbase : attributeBase a "split" Z.X.env (eval a Z.X.env) = eval a Z.X.env := by rfl)
    (hline : (apos.endLine == pos.line) = true := by rfl) : EQ Z ρ (.Call (.Attribute a "split" apos) [b] [] pos) (.lst ((Txt.split z y).map .str)) :=
  ev_m1S (pe_split pe_any pe_any hs hbase hline) (ha.to ⟨z, rfl, EQ.to hb fun σ H v2 Q S r2 kq => by
    cases r2
    refine ⟨z, y, rfl, rfl, hy, sizeS h, fun q hq => ?_⟩
    have S' := S.same (same_new (o := .lst ((Txt.split z y).map V.str)) hq)
    exact kq _ _ _ _ S' (Same.vis_ (same_new hq)) (.of (d := .lst _) ⟨q, _, rfl, new_at S hq, reps_strs _⟩) ⟨rfl, rfl⟩⟩)
theorem reps_strs_inv {T : Tab} {G : Hp} : ∀ {ys : List Str} {vs : List V}, reps T G (ys.map .str) vs → vs = ys.map V.str
  | [], _, h => h
  | y :: ys, _, ⟨v, r, e, h1, h2⟩ => by
    have h1' : v = .str y := h1
    rw [e, h1', reps_strs_inv h2]; rfl
/-- x.join(reversed(l)) -/
theorem eq_joinRev {y : Str} {ys : List Str} (hK : Z.X.K = Z.T.K) (hm : Z.X.mg "reversed" = none) (ha : EQ Z ρ a (.str y)) (hb : EQ Z ρ b (.lst (ys.map .str))) (h : (ys.map (·.length)).sum + ys.length * y.length ≤ 16777216) (hg : Gl Z.X "reversed" := by rfl) (hc : Z.X.calm = true := by rfl)
    (hs1 : starEach [.Call (.Name "reversed" p) [b] [] p2] Z.X.env = [(false, eval (.Call (.Name "reversed" p) [b] [] p2) Z.X.env)] := by rfl)
    (hs : starEach [b] Z.X.env = (false, eval b Z.X.env) :: starEach [] Z.X.env := by rfl)
    (hbase : attributeBase a "join" Z.X.env (eval a Z.X.env) = eval a Z.X.env := by rfl) (hline : (apos.endLine == pos.line) = true := by rfl) : EQ Z ρ (.Call (.Attribute a "join" apos) [.Call (.Name "reversed" p) [b] [] p2] [] pos) (.str (Txt.join y ys.reverse)) :=
  ev_of (pe_joinRev hc pe_any hg hm pe_any hs1 hs hbase hline) fun σ H Q S kq => eq_any ha S fun v1 H1 S1 e1 r1 => by
    cases r1
    refine ⟨⟨y, rfl⟩, eq_any hb S1 fun v2 H2 S2 e2 r2 => ?_⟩
    obtain ⟨q, vs, rfl, h3, h4⟩ := r2
    have e := reps_strs_inv h4
    subst e
    rw [hK]
    exact ⟨y, q, ys, rfl, rfl, .inl (.inl (vis_some h3)), h, kq _ H2 (.str _) _ S2 (fun _ _ q => e2 _ _ (e1 _ _ q)) rfl ⟨rfl, rfl⟩⟩
/-! ### tests -/
theorem tq_str {z : Str} (h : EQ Z ρ a (.str z)) (hl : z.length ≤ 100000) (he : ∀ whole, isTrue a Z.X.env whole = (do let v ← whole; standAt a.pos; holding [v] (truthy v)) := by intro _; rfl) : TQ Z ρ a (decide (z.length ≠ 0)) :=
  et_of (pt_truth pe_any he) fun σ H Q S kq => ev_any h S fun v H1 d c S1 e1 r ⟨hd, hc⟩ => by
    subst hd
    cases r
    refine ⟨_, ⟨sizeS hl, ?_⟩, kq (decide (z.length ≠ 0)) H1 c S1 e1 ⟨rfl, hc⟩⟩
    by_cases e : z.length = 0 <;> simp [e]
/-- a sign not in a text -/
theorem eq_notInS {c : Nat} {z : Str} (ha : EQ Z ρ a (.str ⟨#[c]⟩)) (hb : EQ Z ρ b (.str z)) (hm : behindInMarks .NotIn b = false := by rfl) : EQ Z ρ (.Compare a [.NotIn] [b] pos) (.bl (!decide (c ∈ z.cps.toList))) :=
  ev_cmp2 op_notInS hm (ha.to (EQ.to hb fun σ H v1 v2 Q S r1 r2 kq => by
    cases r1
    cases r2
    exact ⟨c, z, rfl, rfl, kq.here (d := .bl _) S ⟨rfl, rfl⟩ rfl⟩))
/-- None in a list of integers and None -/
def intN : Option Int → D
  | none => .non
  | some i => .int i
def intNv : Option Int → V
  | none => .non
  | some i => .int i
theorem reps_intN {T : Tab} {G : Hp} : ∀ {l : List (Option Int)} {vs : List V}, reps T G (l.map intN) vs → vs = l.map intNv
  | [], _, h => h
  | x :: l, _, ⟨v, r, e, h1, h2⟩ => by
    have h1' : v = intNv x := by cases x <;> exact h1
    rw [e, h1', reps_intN h2]; rfl
theorem inV_intN : ∀ l : List (Option Int), inV .non (l.map intNv) = l.any (·.isNone) := by
  intro l
  unfold inV
  rw [List.any_map]
  congr 1
  funext x
  cases x <;> rfl
theorem flat_intN (l : List (Option Int)) : (l.map intNv).all flatV = true := by
  rw [List.all_map, List.all_eq_true]
  intro x _
  cases x <;> rfl
theorem tq_noneIn {l : List (Option Int)} (hK : Z.X.K = Z.T.K) (ha : EQ Z ρ a .non) (hb : EQ Z ρ b (.lst (l.map intN))) (hm : behindInMarks .In b = false := by rfl) : TQ Z ρ (.Compare a [.In] [b] pos) (l.any (·.isNone)) :=
  et_cmp2 op_in_seq hm (ha.to (EQ.to hb fun σ H v1 v2 Q S r1 r2 kq => by
    cases r1
    obtain ⟨q, vs, rfl, h1, h2⟩ := r2
    have e := reps_intN h2
    subst e
    rw [hK]
    refine ⟨q, _, rfl, .inl (.inl (.inl (vis_some h1))), rfl, flat_intN l, ?_⟩
    show Q (.bl (inV .non (l.map intNv))) H
    rw [inV_intN]
    exact kq.here (d := .bl _) S ⟨_, rfl, rfl, rfl⟩ rfl))
/-! ### f"{a}/{b}" -/
theorem eq_joined {y z t : Str} {j} (ha : EQ Z ρ a (.str y)) (hb : EQ Z ρ b (.str z)) (h : y.length + t.length + z.length ≤ 100000) : EQ Z ρ (.JoinedStr [.FormattedValue a (-1) none p1, .Constant (.str t) j p2, .FormattedValue b (-1) none p3] pos) (.str (y ++ t ++ z)) :=
  ev_of (pe_joined (.cons (pe_fmt pe_any) (.cons pe_str (.cons (pe_fmt pe_any) .nil)))) fun σ H Q S kq => by
    have emp : ∀ u : Str, Str.empty ++ u = u := fun u => TL.ext_tl (by rw [TL.tl_append]; rfl)
    refine eq_any ha S fun v1 H1 S1 e1 r1 => ?_
    cases r1
    refine .inl ⟨y, rfl, sizeS (by omega), y, rfl, by rw [emp]; exact sizeS (by omega), t, rfl, by rw [emp, Str.length_append]; exact sizeS (by omega), ?_⟩
    refine eq_any hb S1 fun v2 H2 S2 e2 r2 => ?_
    cases r2
    refine .inl ⟨z, rfl, sizeS (by omega), z, rfl, by rw [emp, Str.length_append, Str.length_append]; exact sizeS (by omega), ?_⟩
    rw [emp]
    exact kq _ H2 (.str _) _ S2 (fun _ _ q => e2 _ _ (e1 _ _ q)) rfl ⟨rfl, rfl⟩
/-! ### x, y, z = a tuple -/
theorem st_unp3 (i j l : Nat) {x y z : Str} {px py pz pt : Pos} {kt : Nat} (ok : Zok Z) (h : EV Z ρ e fun d c => ∃ d1 d2 d3, d = .tup [d1, d2, d3] ∧ O.nx ((((ρ.wc c).set i d1).set j d2).set l d3))
    (hi : Z.X.N[i]? = some x := by rfl) (hj : Z.X.N[j]? = some y := by rfl) (hl : Z.X.N[l]? = some z := by rfl)
    (hx : Loc Z.X.env.scope x := by first | exact Or.inl rfl | exact Or.inr rfl) (hy : Loc Z.X.env.scope y := by first | exact Or.inl rfl | exact Or.inr rfl) (hz : Loc Z.X.env.scope z := by first | exact Or.inl rfl | exact Or.inr rfl)
    (fx : Z.X.fn x = true ∨ Z.X.env.scope.names.lookup x = some .local := by first | exact .inl rfl | exact .inr rfl) (fy : Z.X.fn y = true ∨ Z.X.env.scope.names.lookup y = some .local := by first | exact .inl rfl | exact .inr rfl) (fz : Z.X.fn z = true ∨ Z.X.env.scope.names.lookup z = some .local := by first | exact .inl rfl | exact .inr rfl)
    (hs : swapsWithSole [.Tuple [.Name x px, .Name y py, .Name z pz] kt pt] e pos.line Z.X.env = pure false := by rfl) (hw : swappedStores [.Tuple [.Name x px, .Name y py, .Name z pz] kt pt] e Z.X.env = pure none := by rfl)
    (h1 : (assignEach [.Tuple [.Name x px, .Name y py, .Name z pz] kt pt] Z.X.env).map (·.2) = [assign (.Tuple [.Name x px, .Name y py, .Name z pz] kt pt) Z.X.env] := by rfl)
    (hn : (assignEach [.Name x px, .Name y py, .Name z pz] Z.X.env).length = 3 := by rfl) (hst : (assignEach [.Name x px, .Name y py, .Name z pz] Z.X.env).findIdx? (·.1) = none := by rfl)
    (a1 : (assignEach [.Name x px, .Name y py, .Name z pz] Z.X.env).map (·.2) = assign (.Name x px) Z.X.env :: (assignEach [.Name y py, .Name z pz] Z.X.env).map (·.2) := by rfl)
    (a2 : (assignEach [.Name y py, .Name z pz] Z.X.env).map (·.2) = assign (.Name y py) Z.X.env :: (assignEach [.Name z pz] Z.X.env).map (·.2) := by rfl)
    (a3 : (assignEach [.Name z pz] Z.X.env).map (·.2) = assign (.Name z pz) Z.X.env :: (assignEach [] Z.X.env).map (·.2) := by rfl) (hc : Z.X.calm = true := by rfl) :
    ST Z ρ (.Assign [.Tuple [.Name x px, .Name y py, .Name z pz] kt pt] e pos) O :=
  st_of (ps_asg pe_any (pg_tup (n := 3) hc (pgs_cons (pg_name ok.nd hi hx fx) (pgs_cons (pg_name ok.nd hj hy fy) (pgs_cons (pg_name ok.nd hl hz fz) pgs_nil a3) a2) a1) hn hst) hs hw h1) fun D σ H S kq => ev_any h S fun v H' d c' S' _ r ⟨d1, d2, d3, hd, hp⟩ => by
    subst hd
    obtain ⟨q, vs, rfl, h2, h3⟩ := r
    obtain ⟨v1, r1, rfl, k1, v2, r2, rfl, k2, v3, r3, rfl, k3, k4⟩ := h3
    have e4 : r3 = [] := k4
    subst e4
    rw [ok.K]
    exact ⟨q, _, rfl, .inl (.inl (vis_some h2)), rfl, v1, _, rfl, v2, _, rfl, v3, _, rfl, rfl, kq.nx _ _ _ (((S'.set i (slot_of (.of k1))).set j (slot_of (.of k2))).set l (slot_of (.of k3))) hp⟩
/-! ### a comprehension over a text -/
def chD (z : Str) : List D := z.cps.toList.map fun c => .str ⟨#[c]⟩
def chV (z : Str) : List V := z.cps.toList.map fun c => .str ⟨#[c]⟩
theorem chs_rep {T : Tab} {G : Hp} (z : Str) : reps T G (chD z) (chV z) := by
  unfold chD chV
  induction z.cps.toList with
  | nil => rfl
  | cons c l ih => exact ⟨_, _, rfl, rfl, ih⟩
theorem lc_its {x : Str} {g : TG} {tt : TT} {te : TE} {vs : List Nat} {σ : St} {H1 : Hp} {D : Addr} {Qd : Hp → Prop} (Pv : Nat → Hp → Prop) (h0 : Pv 0 (upd H1 D (.lst [])))
    (hs : ∀ i v H, (chV x)[i]? = some v → Pv i H → g v (wipe σ vs) H fun σ2 H2 => wipe σ2 vs = wipe σ vs ∧ tt σ2 H2 fun b H3 =>
      if b = true then te σ2 H3 fun y H4 => ∃ acc, H4 D = some (.lst acc) ∧ acc.length < sizeLine ∧ Pv (i + 1) (upd H4 D (.lst (acc ++ [y]))) else Pv (i + 1) H3) (hd : ∀ H, Pv (chV x).length H → Qd H) :
    ∃ W : Nat → Nat → Hp → Prop, (∃ m, W 0 m (upd H1 D (.lst []))) ∧
      ∀ i m H, W i m H → ((Its x).stop i H ∧ Qd H) ∨ ((Its x).go i H ∧ ∃ Nx : Hp → Prop, (∀ H', Nx H' → ∃ m', m' < m ∧ W (i + 1) m' H') ∧ ∀ v H', (Its x).yld i H v H' → g v (wipe σ vs) H' fun σ2 H2 => wipe σ2 vs = wipe σ vs ∧ tt σ2 H2 fun b H3 =>
        if b = true then te σ2 H3 fun y H4 => ∃ acc, H4 D = some (.lst acc) ∧ acc.length < sizeLine ∧ Nx (upd H4 D (.lst (acc ++ [y])))
        else Nx H3) := by
  have hlen : (chV x).length = x.cps.size := by unfold chV; simp
  refine ⟨fun i m H => m = x.cps.size - i ∧ i ≤ x.cps.size ∧ Pv i H, ⟨x.cps.size, by simp, Nat.zero_le _, h0⟩, ?_⟩
  rintro i m H ⟨rfl, hi, pv⟩
  by_cases hlt : i < x.cps.size
  · refine .inr ⟨hlt, Pv (i + 1), fun H' p' => ⟨x.cps.size - (i + 1), by omega, rfl, hlt, p'⟩, fun v H' y => ?_⟩
    obtain ⟨e, c, hc, hv⟩ := y
    subst e
    refine hs i v _ ?_ pv
    unfold chV
    rw [List.getElem?_map, Array.getElem?_toList, hc, hv]; rfl
  · have e : i = x.cps.size := by omega
    subst e
    exact .inl ⟨Nat.le_refl _, hd H (by rw [hlen]; exact pv)⟩
theorem lc_tS (i : Nat) (ok : Zok Z) (h : EV Z ρ iter fun d c => ∃ z, d = .str z ∧ lcs Z scope ρ.s i ifs elt P (chD z) [] c) {Q : VK} (S : SR Z ρ σ H) (k : Post Z ρ σ H P Q) : tLc (iStr (tAny Z.X iter)) (gName i) (tLcTest Z.X scope ifs) (tLcElt Z.X scope elt) [i] σ H Q := by
  refine ev_any h S fun v H1 d c S1 e1 r ⟨z, hz, hL⟩ => ?_
  subst hz
  cases r
  have hrs : reps Z.T (vis ρ.B H1) (chD z) (chV z) := chs_rep z
  refine ⟨z, rfl, fun D hd => ?_⟩
  have b0 : ρ.B D = none := S1.ok.fresh hd
  refine lc_its (x := z) (fun j H => ∃ c acc vs, LcS Z ρ.B D H1 acc c H vs ∧ lcs Z scope ρ.s i ifs elt P ((chD z).drop j) acc c) ⟨c, [], [], LcS.start (ρ := ρ.wc c) S1 hd, hL⟩ (fun j x0 H hj ⟨c2, acc, vs, L, hl2⟩ => ?_) (fun H ⟨c2, acc, vs, L, hl2⟩ => ?_)
  · have lt : j < (chD z).length := by
      have := (List.getElem?_eq_some_iff.mp hj).1
      rw [hrs.len] at this
      exact this
    obtain ⟨w, hw, rw_⟩ := hrs.get (List.getElem?_eq_getElem lt)
    have ex : w = x0 := Option.some.inj (hw.symm.trans hj)
    subst ex
    rw [List.drop_eq_getElem_cons lt] at hl2
    have sl : slots Z.T (hideAt ρ.B D (some (.lst vs))) (vis (hideAt ρ.B D (some (.lst vs))) H) ((ρ.s.set i none).set i (some (chD z)[j])) ((σ.set i none).set i (some w)) :=
      ((slots_B (hide_of b0) (S1.sl.unset i)).mono L.sm).set (slot_of (.of (rw_.mono L.sm))) i
    have S2 := L.sr (ρ := ρ.wc c) S1 hd sl
    refine ⟨?_, fun s1 H1' C cl fp => ?_⟩
    · show ((σ.set i none).set i (some w)).set i none = σ.set i none
      rw [List.set_set, List.set_set]
    · have step := hl2 (hideAt ρ.B D (some (.lst vs))) s1 H1' C cl fp ok.blk
      have go : ∀ b H3 c3, SR (Z.blk s1 H1' scope C cl fp) ⟨hideAt ρ.B D (some (.lst vs)), (ρ.s.set i none).set i (some (chD z)[j]), c3⟩ ((σ.set i none).set i (some w)) H3 → Same (vis (hideAt ρ.B D (some (.lst vs))) H) (vis (hideAt ρ.B D (some (.lst vs))) H3) →
          onB b (∀ s2 H2 C2 cl2 fp2, Zok (Z.blk s2 H2 scope C2 cl2 fp2) → EV (Z.blk s2 H2 scope C2 cl2 fp2) ⟨hideAt ρ.B D (some (.lst vs)), (ρ.s.set i none).set i (some (chD z)[j]), c3⟩ elt fun d c'' => plain d = true ∧ acc.length < 100000 ∧ lcs Z scope ρ.s i ifs elt P ((chD z).drop (j + 1)) (acc ++ [d]) c'') (lcs Z scope ρ.s i ifs elt P ((chD z).drop (j + 1)) acc c3) →
          if b = true then tLcElt Z.X scope elt ((σ.set i none).set i (some w)) H3 (fun y H4 => ∃ acc, H4 D = some (.lst acc) ∧ acc.length < sizeLine ∧ ∃ c acc' vs, LcS Z ρ.B D H1 acc' c (upd H4 D (.lst (acc ++ [y]))) vs ∧ lcs Z scope ρ.s i ifs elt P ((chD z).drop (j + 1)) acc' c)
          else ∃ c acc vs, LcS Z ρ.B D H1 acc c H3 vs ∧ lcs Z scope ρ.s i ifs elt P ((chD z).drop (j + 1)) acc c := fun b H3 c3 S3 e3 hb => by
        cases b with
        | false => exact ⟨c3, acc, vs, L.go S3.ok e3, hb.2 rfl⟩
        | true =>
          refine fun s2 H2 C2 cl2 fp2 => ev_any (hb.1 rfl s2 H2 C2 cl2 fp2 ok.blk) S3.ofBlk.blk fun y H4 d c4 S4 e4 r4 ⟨hp, hz, h4⟩ => ?_
          have L4 := (L.go S3.ok e3).go S4.ok e4
          exact ⟨vs, L4.at_, Nat.lt_of_lt_of_le (by rw [L.re.len]; exact hz) (by decide), c4, acc ++ [d], vs ++ [y], L4.put (val_rep r4 hp), h4⟩
      cases ifs with
      | nil => exact ⟨tYes, pts_nil, go true H c2 S2.blk (fun _ _ q => q) step⟩
      | cons t ts =>
        cases ts with
        | nil => exact ⟨_, pts_one pt_any, et_any step S2.blk fun b H3 c3 S3 e3 hb => go b H3 c3 S3 e3 hb⟩
        | cons _ _ => exact (show False from step).elim
  · rw [List.drop_of_length_le (by rw [hrs.len]; exact Nat.le_refl _)] at hl2
    obtain ⟨S3, e3, r3⟩ := L.fin (ρ := ρ.wc c) S1 hd
    exact k _ H (.lst acc) c2 S3 (fun _ _ q => e3 _ _ (e1 _ _ q)) (.of r3) hl2
/-- [.. for x in a text ..] -/
theorem ev_lcS (i : Nat) (ok : Zok Z) (hb : BlkOk Z.X.N Z.X.env.scope scope [(x, i)]) (hi : Z.X.N[i]? = some x := by rfl) (hx : scope.names.lookup x = some .local := by rfl)
    (h : EV Z ρ iter fun d c => ∃ z, d = .str z ∧ lcs Z scope ρ.s i ifs elt P (chD z) [] c) (hc : Z.X.calm = true := by rfl) (hs : ∀ x, foldedSetIterable iter Z.X.env x = pure x := by intro _; rfl) :
    EV Z ρ (.ListComp elt [⟨.Name x px, iter, ifs, 0⟩] scope pos) P := by
  have loc : ∀ C cl, Loc (compEnvC scope cl C Z.X.env).scope x := fun C cl => .inl (lookup_relabel_local hx)
  refine ev_of (pe_lc (wi := iStr (tAny Z.X iter)) (g := gName i) (tt := tLcTest Z.X scope ifs) (te := tLcElt Z.X scope elt) hc ok.nd (pi_str pe_any) hb (fun s H C cl fp => pg_name ok.nd hi (loc C cl) (.inr (lookup_relabel_local hx)))
    (fun s H C cl fp => ⟨fun pins s' σ H' Q I h => let ⟨t, p, q⟩ := h s H C cl fp; p.run pins s' σ H' Q I q⟩) (fun s H C cl fp => ⟨fun pins s' σ H' Q I h => pe_any.run pins s' σ H' Q I (h s H C cl fp)⟩) hs) fun σ H Q S k => lc_tS i ok h S k
end Q
end

section
set_option Elab.async false
set_option linter.all false
set_option maxRecDepth 100000
set_option maxHeartbeats 3900000
/-! S4: classmethods, by place and by keyword; a class that a local holds, called. -/
namespace Q
open PySem L2
variable {Z : Zt} {ρ : Rho} {σ : St} {H H' : Hp} {O : Out} {P : D → Nat → Prop} {P' : D → Nat → Prop} {e a b o : Expr} {pos p apos kpos : Pos} {X : Cx} {k j : Nat} {f C g q : Addr} {F : Fw} {x n m name : Str} {es : List Expr} {kws : List Keyword} {ks : List Str} {sp : Sp} {mc : Value} {W : WX} {pl : Sem Bool}

theorem run_cmW {pins : List (Addr × Obj)} {s : Shared} {Q : VK} {us : List Value} {vs : List V} (G : FnG X.prog X.w X.K X.mg X.base (L2.CX X.prog X.w) k g sp) (hr : RoomG k X.A) (tk : Takes X W)
    (I : Inv X ((q, PySem.W.methodObj (.ref g) (.ref C)) :: pins) σ H s) (r : Vals vs us) (h : sp (.ref C :: vs) H Q (fun c d H' => W c d σ H')) : wpAny (model X.prog X.w) X.A (call (.ref q) us) (EP X pins σ Q) X.xe s := by
  refine wpAny_call (PySem.W.method_call (ClX.pin_at I) (codeAny_mono (G X.A X.stack s H (Value.ref C :: us) (V.ref C :: vs) Q _ hr I.env0 (.cons rfl r) h) ?_))
  intro r s' hq
  match r, hq with
  | .error er, hq => exact tk er s' (XE.of_call (ClX.unpin I) (fun _ _ _ z => z) hq)
  | .ok (.ret u), hq => exact (ClX.unpin I).after hq
theorem run_cmK {pins : List (Addr × Obj)} {s : Shared} {Q : VK} {us ws : List Value} {vs zs : List V} {i : Nat} {r : Bool} (G : FnK X.prog X.w X.K X.mg X.base (L2.CX X.prog X.w) k g (i + 1) ks r sp) (hr : RoomG k X.A) (tk : Takes X W)
    (I : Inv X ((q, PySem.W.methodObj (.ref g) (.ref C)) :: pins) σ H s) (rv : Vals vs us) (rz : Vals zs ws) (l1 : vs.length = i) (l2 : zs.length = ks.length) (h : sp (kg r (.ref C :: vs) zs) H Q (fun c d H' => W c d σ H')) :
    wpAny (model X.prog X.w) X.A (call (.ref q) us (ks.zip ws)) (EP X pins σ Q) X.xe s := by
  refine wpAny_call (PySem.W.method_call (ClX.pin_at I) (codeAny_mono (G X.A X.stack s H (Value.ref C :: us) ws (V.ref C :: vs) zs Q _ hr I.env0 (.cons rfl rv) rz (congrArg Nat.succ l1) l2 h) ?_))
  intro r s' hq
  match r, hq with
  | .error er, hq => exact tk er s' (XE.of_call (ClX.unpin I) (fun _ _ _ z => z) hq)
  | .ok (.ret u), hq => exact (ClX.unpin I).after hq
def tCmW (X : Cx) (C : Addr) (o : Expr) (es : List Expr) (sp : Sp) (W : WX) : TE := fun σ H Q => tAny X o σ H fun x H1 => x = .ref C ∧ taAny X es σ H1 fun vs H2 => sp (.ref C :: vs) H2 Q (fun c d H' => W c d σ H')
theorem pe_cmW {p : Addr} (r : ClX.CRead X.K C mc) (c : ClX.CMet X.K C mc m p g) (G : FnG X.prog X.w X.K X.mg X.base (L2.CX X.prog X.w) k g sp) (hr : RoomG k X.A) (tk : Takes X W)
    (hst : starEach (e :: es) X.env = (false, eval e X.env) :: starEach es X.env := by rfl)
    (hpl : (backTo pos (starEach es X.env)).any (·.1) = false := by rfl)
    (ht : eval (.Call (.Attribute o m apos)
      (e :: es) [] pos) X.env = (do
      let ov ← eval o X.env
      standAt apos.atName
      let (f, first) ← holding [ov]
        (getMethod ov m pl)
      callWith pos f first (backTo pos (starEach (e :: es) X.env))
        (backToKw pos (keywordEach [] X.env))) := by rfl) :
    PE X (.Call (.Attribute o m apos) (e :: es) [] pos) (tCmW X C o (e :: es) sp W) := by
  refine ⟨fun pins s σ H Q I h => PySem.W.methodCall_KW (pl := pl) (thn (pe_any.run pins s σ H _ I h) fun u s1 ⟨x, H1, I1, rx, ex, q⟩ => ?_) ht⟩
  subst ex
  obtain rfl : u = Value.ref C := rx; refine ClX.getmethcm_ok I1 r c fun s2 I2 => ClX.callwith_cm I2 (ClX.base_none I1 (Nat.le_refl _)) c.fi (thn (pa_any.run pos _ s2 σ H1 _ I2 q) fun us s3 ⟨vs, H2, I3, rv, q2⟩ => ⟨⟨ClX.pin_at I3, I3.kIn⟩, ?_⟩) hst hpl
  exact run_cmW G hr tk I3 rv q2
def tCmK (X : Cx) (C : Addr) (o : Expr) (kws : List Keyword) (ks : List Str) (r : Bool) (sp : Sp) (W : WX) : TE := fun σ H Q => tAny X o σ H fun x H1 => x = .ref C ∧ tkAny X kws σ H1 fun zs H2 => zs.length = ks.length ∧ sp (kg r [.ref C] zs) H2 Q (fun c d H' => W c d σ H')
theorem pe_cmK {p : Addr} {r' : Bool} (r : ClX.CRead X.K C mc) (c : ClX.CMet X.K C mc m p g) (G : FnK X.prog X.w X.K X.mg X.base (L2.CX X.prog X.w) k g 1 ks r' sp) (hr : RoomG k X.A) (tk : Takes X W)
    (hall : (backToKw pos (keywordEach kws X.env)).all (·.1.isSome) = true := by rfl)
    (hks : (backToKw pos (keywordEach kws X.env)).filterMap (·.1) = ks := by rfl)
    (hpl : ((backTo pos (starEach [] X.env)).any (·.1) || (backToKw pos (keywordEach kws X.env)).any (·.1.isNone)) = false := by rfl)
    (ht : eval (.Call (.Attribute o m apos)
      [] kws pos) X.env = (do
      let ov ← eval o X.env
      standAt apos.atName
      let (f, first) ← holding [ov]
        (getMethod ov m pl)
      callWith pos f first (backTo pos (starEach [] X.env)) (backToKw pos (keywordEach kws X.env))) := by rfl) :
    PE X (.Call (.Attribute o m apos) [] kws pos) (tCmK X C o kws ks r' sp W) := by
  refine ⟨fun pins s σ H Q I h => PySem.W.methodCall_KW (pl := pl) (thn (pe_any.run pins s σ H _ I h) fun u s1 ⟨x, H1, I1, rx, ex, q⟩ => ?_) ht⟩
  subst ex
  obtain rfl : u = Value.ref C := rx; refine ClX.getmethcm_ok I1 r c fun s2 I2 => PySem.W.callWith_of hpl (PySem.W.keeps_M c.fi) (PyProof.Rows.evalArgs_kw2_nil hall (thn (pk_any.run pos _ s2 σ H1 _ I2 q) fun ws s3 ⟨zs, H2, I3, rz, l2, q2⟩ => ⟨⟨ClX.pin_at I3, I3.kIn⟩, ?_⟩))
  rw [hks]
  exact run_cmK (i := 0) (us := []) (vs := []) G hr tk I3 .nil rz rfl l2 q2
/-- a classmethod of the class at C -/
structure Dcm (P : Program) (w : World) (T : Tab) (mg : Str → Option Value) (base : Heap) (C : Addr) (m : Str) (k : Nat) (g : Addr) (ks : List Str) (r : Bool) (F : Fw) : Prop where
  c : ∃ mc p, ClX.CRead T.K C mc ∧ ClX.CMet T.K C mc m p g
  G : FnG P w T.K mg base (L2.CX P w) k g (SpW T F)
  Gk : FnK P w T.K mg base (L2.CX P w) k g 1 ks r (SpW T F)
theorem ev_cm {r : Bool} (Dc : Dcm Z.X.prog Z.X.w Z.T Z.X.mg Z.X.base C m k g ks r F) (ok : Zok Z) (hr : RoomG j Z.X.A) (hj : k ≤ j) (h : EV Z ρ o fun d c => d = .cls C ∧ EA Z (ρ.wc c) (e :: es) fun ds c' => F (.cls C :: ds) c' P' (fun er c' => Z.R er (ρ.wc c')))
    (hst : starEach (e :: es) Z.X.env = (false, eval e Z.X.env) :: starEach es Z.X.env := by rfl)
    (hpl : (backTo pos (starEach es Z.X.env)).any (·.1) = false := by rfl)
    (ht : eval (.Call (.Attribute o m apos)
      (e :: es) [] pos) Z.X.env = (do
      let ov ← eval o Z.X.env
      standAt apos.atName
      let (f, first) ← holding [ov]
        (getMethod ov m pl)
      callWith pos f first (backTo pos (starEach (e :: es) Z.X.env)) (backToKw pos (keywordEach [] Z.X.env))) := by rfl) : EV Z ρ (.Call (.Attribute o m apos) (e :: es) [] pos) P' := by
  obtain ⟨mc, p, r1, c1⟩ := Dc.c
  have G := Dc.G
  rw [← ok.K] at r1 c1 G
  exact ev_of (pe_cmW r1 c1 G (hr.mono hj) ok.tk hst hpl ht) fun σ H Q S kq => ev_any h S fun v H1 d c S1 e1 rr ⟨hd, h1⟩ => by
    subst hd
    cases rr
    exact ⟨rfl, ea_any h1 S1 fun vs H2 ds c' S2 e2 r2 h2 => sp_at (ρ := ρ.wc c') S2 (.cons (.of (d := .cls C) rfl) r2) h2 ((kq.from (c := c) e1).from (c := c') e2)⟩
theorem ev_cmk {r : Bool} (Dc : Dcm Z.X.prog Z.X.w Z.T Z.X.mg Z.X.base C m k g ks r F) (ok : Zok Z) (hr : RoomG j Z.X.A) (hj : k ≤ j) (h : EV Z ρ o fun d c => d = .cls C ∧ EK Z (ρ.wc c) kws fun ds c' => ds.length = ks.length ∧ F (kg r [.cls C] ds) c' P' (fun er c' => Z.R er (ρ.wc c')))
    (hall : (backToKw pos (keywordEach kws Z.X.env)).all (·.1.isSome) = true := by rfl)
    (hks : (backToKw pos (keywordEach kws Z.X.env)).filterMap (·.1) = ks := by rfl)
    (hpl : ((backTo pos (starEach [] Z.X.env)).any (·.1) || (backToKw pos (keywordEach kws Z.X.env)).any (·.1.isNone)) = false := by rfl)
    (ht : eval (.Call (.Attribute o m apos)
      [] kws pos) Z.X.env = (do
      let ov ← eval o Z.X.env
      standAt apos.atName
      let (f, first) ← holding [ov]
        (getMethod ov m pl)
      callWith pos f first (backTo pos (starEach [] Z.X.env)) (backToKw pos (keywordEach kws Z.X.env))) := by rfl) : EV Z ρ (.Call (.Attribute o m apos) [] kws pos) P' := by
  obtain ⟨mc, p, r1, c1⟩ := Dc.c
  have G := Dc.Gk
  rw [← ok.K] at r1 c1 G
  exact ev_of (pe_cmK r1 c1 G (hr.mono hj) ok.tk hall hks hpl ht) fun σ H Q S kq => ev_any h S fun v H1 d c S1 e1 rr ⟨hd, h1⟩ => by
    subst hd
    cases rr
    exact ⟨rfl, ek_any h1 S1 fun vs H2 ds c' S2 e2 r2 ⟨hl, h2⟩ => ⟨by rw [pr_len r2]; exact hl, sp_at (ρ := ρ.wc c') S2 (kg_pr (.cons (.of (d := .cls C) rfl) .nil) r2) h2 ((kq.from (c := c) e1).from (c := c') e2)⟩⟩
/-! ### a local that holds a class -/
def tMakeL (X : Cx) (C : Addr) (i : Nat) (es : List Expr) (sp : Sp) (W : WX) : TE := fun σ H Q => σ[i]? = some (some (.ref C)) ∧ tMakeW X C es sp W σ H Q
theorem pe_makeL {i : Nat} (M : Mk X.K C f) (G : FnG X.prog X.w X.K X.mg X.base (L2.CX X.prog X.w) k f sp) (hr : RoomG (k + 1) X.A) (tk : Takes X W) (hN : X.N[i]? = some x) (hv : Vis X.env.scope x)
    (hdb : (x == ("__debug__" : Str)) = false := by decide)
    (hcd : (x == ("__classdict__" : Str)) = false := by decide)
    (he : starEach (e :: es) X.env = (false, eval e X.env) :: starEach es X.env := by rfl)
    (hpl : (backTo pos (starEach es X.env)).any (·.1) = false := by rfl) : PE X (.Call (.Name x p) (e :: es) [] pos) (tMakeL X C i (e :: es) sp W) := ⟨fun pins s σ H Q I h => by
  obtain ⟨hs, t, ha, h⟩ := h
  refine wpAny_Call_Name_kw (thn ((pe_var (pos := p) hN hv hdb hcd).run pins s σ H (fun v H1 => v = .ref C ∧ H1 = H) I ⟨.ref C, hs, rfl, rfl⟩) fun u s1 ⟨v, H1, I1, r1, q1⟩ => ?_)
  obtain ⟨rfl, rfl⟩ := q1
  cases r1
  have g := ha.run pos pins s1 σ _ _ I1 h
  exact PySem.W.callWith_K (h₀ := X.base) I.ok.mod.kin M.kp (thn g fun us s1 ⟨vs, H1, I1, r, q⟩ => ⟨I1.kIn, runMk M G hr tk I1 r q⟩) he hpl⟩
theorem ev_mkL (i : Nat) (Dm : Dk Z.X.prog Z.X.w Z.T Z.X.mg Z.X.base Z.T.C k f F) (ok : Zok Z) (hs : ρ.s[i]? = some (some (.cls Z.T.C))) (hr : RoomG j Z.X.A) (hj : k + 1 ≤ j) (h : EA Z ρ (e :: es) fun ds c => F ds c P' (fun er c' => Z.R er (ρ.wc c')))
    (hN : Z.X.N[i]? = some x := by rfl) (hv : Vis Z.X.env.scope x := by first | exact Or.inl rfl | exact Or.inr (Or.inl rfl) | exact Or.inr (Or.inr rfl)) (hdb : (x == ("__debug__" : Str)) = false := by decide) (hcd : (x == ("__classdict__" : Str)) = false := by decide)
    (he : starEach (e :: es) Z.X.env = (false, eval e Z.X.env) :: starEach es Z.X.env := by rfl)
    (hpl : (backTo pos (starEach es Z.X.env)).any (·.1) = false := by rfl) : EV Z ρ (.Call (.Name x p) (e :: es) [] pos) P' := by
  have M := Dm.M
  have G := Dm.g
  rw [← ok.K] at M G
  exact ev_of (pe_makeL (i := i) M G (hr.mono hj) ok.tk hN hv hdb hcd he hpl) fun σ H Q S kq => by
    obtain ⟨v, h1, h2⟩ := S.sl.get hs
    have h2' : v = .ref Z.T.C := h2
    rw [h2'] at h1
    exact ⟨h1, ea_any h S fun vs H1 ds c S1 e1 r h1 y dy hy hdy hn => mk_at (ρ := ρ.wc c) S1 r h1 (kq.from (c := c) e1) hy hdy hn (fun G d ⟨q, dx, hd, hq⟩ => by subst hd; exact ⟨y, dx, rfl, hq⟩)⟩
end Q
end

section
set_option Elab.async false
set_option linter.all false
set_option maxRecDepth 100000
set_option maxHeartbeats 3900000
/-! S5: prefixes, noughts in front, slices of words. -/
namespace Q
open PySem PySem.NumText TL PySem.Builtin PySem.Builtin.Str
theorem len0 (x : Str) : x.length = (tl x).length := len_tl x
theorem rp_iff (x : Str) : subAt x "-" 0 = true ↔ ∃ r, tl x = 45 :: r := by
  unfold subAt
  rw [beq_iff_eq]
  have e : (x.cps.extract 0 (0 + ("-" : Str).length)).toList = (tl x).take 1 := by
    rw [Array.toList_extract]; rfl
  constructor
  · intro h
    have h' := congrArg Array.toList h
    rw [e] at h'
    cases hl : tl x with
    | nil =>
      rw [hl] at h'
      exact absurd h' (by decide)
    | cons c r =>
      rw [hl] at h'
      have h2 : [c] = [45] := h'
      exact ⟨r, by rw [(List.cons.inj h2).1]⟩
  · rintro ⟨r, hr⟩
    apply Array.toList_inj.mp
    rw [e, hr]; rfl
theorem rp_neg {x : Str} {r : List Nat} (h : tl x = 45 :: r) : tl (Txt.removeprefix x "-") = r := by
  unfold Txt.removeprefix Txt.affix
  rw [if_pos ((rp_iff x).mpr ⟨r, h⟩)]
  have n : x.length = r.length + 1 := by rw [len_tl, h]; rfl
  show tl (if (x.length - 1 == x.length) = true then x else strSub x 1 x.length) = r
  rw [if_neg (by rw [beq_iff_eq]; omega), tl_strSub_end, h]; rfl
theorem rp_nn {x : Str} (h : ∀ r, tl x ≠ 45 :: r) : Txt.removeprefix x "-" = x := by
  unfold Txt.removeprefix
  rw [if_neg fun z => by
    obtain ⟨r, hr⟩ := (rp_iff x).mp z
    exact h r hr]
  rfl
theorem rp_wdig (x : Str) : tl (Txt.removeprefix x "-") = wdig (tl x) := by
  by_cases h : ∃ r, tl x = 45 :: r
  · obtain ⟨r, hr⟩ := h
    rw [rp_neg hr, hr]; rfl
  · have h' : ∀ r, tl x ≠ 45 :: r := fun r z => h ⟨r, z⟩
    rw [rp_nn h', wdig_nn h']
theorem rp_len (x : Str) : (Txt.removeprefix x "-").length ≤ x.length := by
  rw [len_tl, len_tl, rp_wdig]
  by_cases h : ∃ r, tl x = 45 :: r
  · obtain ⟨r, hr⟩ := h
    rw [hr]; show r.length ≤ r.length + 1; omega
  · rw [wdig_nn fun r z => h ⟨r, z⟩]; exact Nat.le_refl _
/-- noughts in front -/
theorem zfill_tl {x : Str} (h : AllDigits (tl x)) (hn : tl x ≠ []) {k : Nat} (hl : x.length ≤ k) : tl (Txt.zfill x (k : Int)) = List.replicate (k - x.length) 48 ++ tl x := by
  unfold Txt.zfill
  by_cases e : (k : Int) ≤ x.length
  · have e2 : k = x.length := by omega
    rw [if_pos e, e2, Nat.sub_self]; rfl
  · rw [if_neg e, Int.toNat_natCast]
    have hz : zfilled x (k - x.length) = padded x (k - x.length) 0 48 := by
      unfold zfilled
      have g : ∀ c, x.cps[0]? = some c → 48 ≤ c ∧ c ≤ 57 := fun c hc => by
        rw [← Array.getElem?_toList] at hc
        exact h c (List.mem_of_getElem? hc)
      split
      · rename_i he
        exact absurd (g _ he) (by decide)
      · rename_i he
        exact absurd (g _ he) (by decide)
      · rfl
    rw [hz]
    show ((Array.replicate (k - x.length) 48 ++ x.cps ++ Array.replicate 0 48 : Array Nat)).toList = _
    rw [Array.toList_append, Array.toList_append, Array.toList_replicate]
    simp
theorem val_pad (k : Nat) (l : List Nat) : digitsVal (List.replicate k 48 ++ l) = digitsVal l := by
  unfold digitsVal
  rw [List.foldl_append]
  congr 1
  induction k with
  | zero => rfl
  | succ k ih =>
    rw [List.replicate_succ, List.foldl_cons]; exact ih
theorem pad_dig {k : Nat} {l : List Nat} (h : AllDigits l) : AllDigits (List.replicate k 48 ++ l) := by
  intro c hc
  rcases (List.mem_append.mp hc) with hc | hc
  · rw [List.eq_of_mem_replicate hc]; decide
  · exact h c hc
theorem int_digits {x : Str} (h : AllDigits (tl x)) (h1 : tl x ≠ []) (h2 : x.length ≤ 4300) : PySem.intText? x = some ((digitsVal (tl x) : Nat) : Int) := intText_digits h h1 h2
/-- the whole, as a slice -/
theorem slice_whole {x : Str} {n : Nat} (h : x.length = n) : Txt.slice x (some 0) (some (n : Int)) = x := by
  unfold Txt.slice strSliceIndices sliceRange
  rw [if_pos]
  subst h
  simp
  split <;> omega
theorem slice_head (x : Str) : tl (Txt.slice x none (some 1)) = (tl x).take 1 := by
  have e := SX.slice_to (a := tl x) (i := 1) (by decide)
  rw [SX.S_tl] at e
  rw [e]; rfl
theorem slice_rest (x : Str) : tl (Txt.slice x (some 1) none) = (tl x).drop 1 := by
  have e := SX.slice_from (a := tl x) (i := 1) (by decide)
  rw [SX.S_tl] at e
  rw [e]; rfl
theorem head_dash (x : Str) : Txt.slice x none (some 1) = ("-" : Str) ↔ ∃ r, tl x = 45 :: r := by
  constructor
  · intro h
    have e := congrArg tl h
    rw [slice_head] at e
    cases hl : tl x with
    | nil =>
      rw [hl] at e
      exact absurd e (by decide)
    | cons c r =>
      rw [hl] at e
      have e2 : [c] = [45] := e
      exact ⟨r, by rw [(List.cons.inj e2).1]⟩
  · rintro ⟨r, hr⟩
    refine ext_tl ?_
    rw [slice_head, hr]; rfl
end Q
end

section
set_option Elab.async false
set_option linter.all false
set_option maxRecDepth 100000
set_option maxHeartbeats 600000
set_option exponentiation.threshold 20000
namespace Q
open PySem L2
variable {P : Program} {w : World} {T : Tab} {mg : Str → Option Value} {base : Heap} {f fA fI CZ CB : Addr} {fd : FuncData}
theorem ok_law_box {fC : Addr} (U : Fun T.K "_law_box" "_law_box" s_law_box f fd) (ma : mg "abs" = none) (mi : mg "int" = none) (Dlaw_cell : Df P w T mg base "_law_cell" 1 fC F_cell) : FnGk P w T.K mg base (L2.CX P w) 2 f fd ["_law_script", "_law_k"] (SpBx T) := by
  refine okG U sc_law_box (fun vs H Q E h => ?_) (fun cdv A outer s H vs Q E hr h => ?_)
  · obtain ⟨B, c, l, k, _, r, _⟩ := h
    rw [pr_len r]
    rfl
  · obtain ⟨B, c, l, k, ok, r, hk, hq⟩ := h
    have Zo : Zok (zBody P w T mg base _ "_law_box" (defScope s_law_box) f cdv A outer s H E B (fun _ _ => False) (fun _ _ => False)) := zok0 sc_law_box
    refine ⟨_, pss_one (ps_ret (pe_lst pa_any)), ?_⟩
    refine ea_any (P := fun ds c1 => ∃ u z : Int, ds = [.int u, .int 0, .int z] ∧ 0 ≤ u ∧ 0 ≤ z ∧ z ≤ 2 ^ 40 ∧ c1 = c) ?_ (sr0 (P := P) (w := w) (mg := mg) (base := base) (qual := "_law_box") (scope := defScope s_law_box) (f := f) (cdv := cdv) (A := A) (outer := outer) (s := s) (E := E) (R := fun _ _ => False) (rt := fun _ _ => False) ok r) fun vs1 H1 ds1 c1 S1 e1 r1 ⟨u, z, hds, h1, h2, h3, hc⟩ => ?_
    · refine ea_cons (ev_abs rfl ma (ea_cons (ev_toInt rfl mi (ea_cons (ev_df Dlaw_cell Zo hr (by decide) (ea_cons (ev_var 0 rfl (ea_cons (ev_var 1 rfl (ea_nil ⟨l, k, rfl, ea_nil (ea_nil ?_)⟩))))))))))
      refine ea_cons (ev_int (ea_cons (ev_add (ev_mul (ev_int (ev_var 1 rfl ⟨wmul (by decide) (Nat.lt_of_le_of_lt (show ((k : Int)).natAbs ≤ 1000 by omega) (by decide)), (ev_int (ea_nil ⟨_, _, rfl, ?_, ?_, ?_, rfl⟩))⟩))))))
      · split <;> omega
      · omega
      · omega
    · subst hds
      refine ⟨?_, fun p hp => ?_⟩
      · rw [pr_len r1]
        show 3 ≤ sizeLine
        decide
      · have e : vs1 = [.int u, .int 0, .int z] := by
          cases r1 with
          | cons a t =>
            cases a
            cases t with
            | cons a t =>
              cases a
              cases t with
              | cons a t =>
                cases a
                cases t
                rfl
        subst e
        subst hc
        exact hq H1 p u z (S1.ok) e1 hp h1 h2 h3
theorem ix_int {l : List Int} {r : Int} (h0 : 0 ≤ r) (h1 : r < l.length) : ∃ n, ixD (.lst (l.map D.int)) r = some (.int n) ∧ n ∈ l := by
  have hl : r.toNat < l.length := by omega
  refine ⟨l[r.toNat], ?_, List.getElem_mem hl⟩
  show atI (l.map D.int) r = _
  unfold atI ixN
  rw [List.length_map, if_pos h0, if_pos h1]
  show (l.map D.int)[r.toNat]? = _
  simp [hl]
theorem ix_at {l : List D} {r : Int} (h0 : 0 ≤ r) (h1 : r < l.length) : ∃ d, ixD (.lst l) r = some d ∧ d ∈ l := by
  have hl : r.toNat < l.length := by omega
  refine ⟨l[r.toNat], ?_, List.getElem_mem hl⟩
  show atI l r = _
  unfold atI ixN
  rw [if_pos h0, if_pos h1]
  show l[r.toNat]? = _
  simp [hl]
theorem ix_three {a b c r : Int} (h0 : 0 ≤ r) (h1 : r < 3) : ∃ n, ixD (.lst [.int a, .int b, .int c]) r = some (.int n) ∧ (n = a ∨ n = b ∨ n = c) := by
  have e : r = 0 ∨ r = 1 ∨ r = 2 := by omega
  rcases e with rfl | rfl | rfl
  · exact ⟨a, rfl, .inl rfl⟩
  · exact ⟨b, rfl, .inr (.inl rfl)⟩
  · exact ⟨c, rfl, .inr (.inr rfl)⟩


end Q
end

section
set_option Elab.async false
set_option linter.all false
set_option maxRecDepth 100000
set_option maxHeartbeats 3900000
/-! N1: [e for x, y in zip(..) if c], the same over enumerate. -/
namespace Q
open PySem L2
variable {Z : Zt} {ρ : Rho} {σ : St} {H H' : Hp} {O : Out} {P : D → Nat → Prop} {e a b elt iter : Expr} {pos p px py tp : Pos} {X : Cx} {x y : Str} {ifs : List Expr} {scope : Scope} {kk : Nat}
/-- the slots with the two of a turn -/
abbrev st2 (s : List (Option D)) (i i2 : Nat) (y y2 : D) : List (Option D) := (((s.set i2 none).set i none).set i (some y)).set i2 (some y2)
def lcs2 (Z : Zt) (scope : Scope) (s : List (Option D)) (i i2 : Nat) (ifs : List Expr) (elt : Expr) (P : D → Nat → Prop) : List (D × D) → List D → Nat → Prop
  | [], acc, c => P (.lst acc) c
  | (y, y2) :: l, acc, c => ∀ B s1 H1 C cl fp, Zok (Z.blk s1 H1 scope C cl fp) → TestOf (Z.blk s1 H1 scope C cl fp) ⟨B, st2 s i i2 y y2, c⟩ ifs fun b c' => onB b
      (∀ s2 H2 C2 cl2 fp2, Zok (Z.blk s2 H2 scope C2 cl2 fp2) → EV (Z.blk s2 H2 scope C2 cl2 fp2) ⟨B, st2 s i i2 y y2, c'⟩ elt fun d c'' => plain d = true ∧ acc.length < 100000 ∧ lcs2 Z scope s i i2 ifs elt P l (acc ++ [d]) c'') (lcs2 Z scope s i i2 ifs elt P l acc c')
theorem wipe_two {i i2 : Nat} (ne : i ≠ i2) (v v2 : V) : wipe ((((σ.set i2 none).set i none).set i (some v)).set i2 (some v2)) [i, i2] = wipe σ [i, i2] := by
  show (((((σ.set i2 none).set i none).set i (some v)).set i2 (some v2)).set i2 none).set i none = (σ.set i2 none).set i none
  apply List.ext_getElem?
  intro j
  by_cases h1 : j = i
  · subst h1
    simp [List.getElem?_set, ne, Ne.symm ne]
  · by_cases h2 : j = i2
    · subst h2
      simp [List.getElem?_set, ne, Ne.symm ne]
    · rw [List.getElem?_set_ne (Ne.symm h1), List.getElem?_set_ne (Ne.symm h2), List.getElem?_set_ne (Ne.symm h2), List.getElem?_set_ne (Ne.symm h1), List.getElem?_set_ne (Ne.symm h1)]
/-- what the comprehension reads, at a state; J gives new pairs -/
theorem lc_w2 {i i2 : Nat} (ne : i ≠ i2) (ok : Zok Z) {J : It} {G : Hp → Prop} {l : List (D × D)} {xs ys : Nat → Option V} {c : Nat} {H1 : Hp} {Qe : V → Hp → Prop} {D : Addr}
    (w : Walk J l.length G (YPair xs ys)) (S1 : SR Z (ρ.wc c) σ H1) (hG : ∀ H, Same (vis ρ.B H1) H → G H)
    (hx : ∀ j (h : j < l.length), ∀ v, xs j = some v → rep Z.T (vis ρ.B H1) (l[j]).1 v) (hy : ∀ j (h : j < l.length), ∀ v, ys j = some v → rep Z.T (vis ρ.B H1) (l[j]).2 v)
    (hL : lcs2 Z scope ρ.s i i2 ifs elt P l [] c) (fin : ∀ H d c', SR Z (ρ.wc c') σ H → Same (vis ρ.B H1) (vis ρ.B H) → val Z.T ρ.B (vis ρ.B H) d (.ref D) → P d c' → Qe (.ref D) H) (hd : H1 D = none) :
    ∃ W : Nat → Nat → Hp → Prop, (∃ m, W 0 m (upd H1 D (.lst []))) ∧ ∀ t m H, W t m H →
      (J.stop t H ∧ Qe (.ref D) H) ∨ (J.go t H ∧ ∃ Nx : Hp → Prop, (∀ H', Nx H' → ∃ m', m' < m ∧ W (t + 1) m' H') ∧ ∀ x0 H', J.yld t H x0 H' → gTup Z.X.K 2 (gCons (gName i) (gCons (gName i2) gNil)) x0 (wipe σ [i, i2]) H' fun σ2 H2 => wipe σ2 [i, i2] = wipe σ [i, i2] ∧ tLcTest Z.X scope ifs σ2 H2 fun b H3 =>
        if b = true then tLcElt Z.X scope elt σ2 H3 fun y H4 => ∃ acc, H4 D = some (.lst acc) ∧ acc.length < sizeLine ∧ Nx (upd H4 D (.lst (acc ++ [y]))) else Nx H3) := by
  have b0 : ρ.B D = none := S1.ok.fresh hd
  refine lc_it w (fun j H => ∃ c acc vs, LcS Z ρ.B D H1 acc c H vs ∧ lcs2 Z scope ρ.s i i2 ifs elt P (l.drop j) acc c) ⟨c, [], [], LcS.start (ρ := ρ.wc c) S1 hd, hL⟩ (fun j H _ ⟨c, acc, vs, L, _⟩ => hG H fun a o q => vis_some (L.sm _ _ q)) (fun j x0 H H' lt ⟨c2, acc, vs, L, hl2⟩ yp => ?_) (fun H ⟨c2, acc, vs, L, hl2⟩ => ?_)
  · obtain ⟨T, v, v2, rfl, hT, rfl, hv, hv2⟩ := yp
    have r1 := hx j lt v hv
    have r2 := hy j lt v2 hv2
    rw [List.drop_eq_getElem_cons lt] at hl2
    have fT : hideAt ρ.B D (some (.lst vs)) T = none := L.ok.fresh hT
    have e' : Same (vis (hideAt ρ.B D (some (.lst vs))) H) (vis (hideAt ρ.B D (some (.lst vs))) (upd H T (.tup [v, v2]))) := Same.vis_ (same_new hT)
    have L' : LcS Z ρ.B D H1 acc c2 (upd H T (.tup [v, v2])) vs := L.go (L.ok.same (same_new hT)) e'
    have sl : slots Z.T (hideAt ρ.B D (some (.lst vs))) (vis (hideAt ρ.B D (some (.lst vs))) (upd H T (.tup [v, v2]))) (st2 ρ.s i i2 (l[j]).1 (l[j]).2) ((((σ.set i2 none).set i none).set i (some v)).set i2 (some v2)) :=
      (((((slots_B (hide_of b0) (S1.sl.unset i2)).unset i).mono L'.sm).set (slot_of (.of (r1.mono L'.sm))) i).set (slot_of (.of (r2.mono L'.sm))) i2)
    have S2 := L'.sr (ρ := ρ.wc c) S1 hd sl
    refine ⟨T, [v, v2], rfl, .inl (.inl upd_same), rfl, v, [v2], rfl, v2, [], rfl, rfl, wipe_two ne v v2, fun s1 H1' C cl fp => ?_⟩
    have step := hl2 (hideAt ρ.B D (some (.lst vs))) s1 H1' C cl fp ok.blk
    have go : ∀ b H3 c3, SR (Z.blk s1 H1' scope C cl fp) ⟨hideAt ρ.B D (some (.lst vs)), st2 ρ.s i i2 (l[j]).1 (l[j]).2, c3⟩ ((((σ.set i2 none).set i none).set i (some v)).set i2 (some v2)) H3 → Same (vis (hideAt ρ.B D (some (.lst vs))) (upd H T (.tup [v, v2]))) (vis (hideAt ρ.B D (some (.lst vs))) H3) →
        onB b (∀ s2 H2 C2 cl2 fp2, Zok (Z.blk s2 H2 scope C2 cl2 fp2) → EV (Z.blk s2 H2 scope C2 cl2 fp2) ⟨hideAt ρ.B D (some (.lst vs)), st2 ρ.s i i2 (l[j]).1 (l[j]).2, c3⟩ elt fun d c'' => plain d = true ∧ acc.length < 100000 ∧ lcs2 Z scope ρ.s i i2 ifs elt P (l.drop (j + 1)) (acc ++ [d]) c'') (lcs2 Z scope ρ.s i i2 ifs elt P (l.drop (j + 1)) acc c3) →
        if b = true then tLcElt Z.X scope elt ((((σ.set i2 none).set i none).set i (some v)).set i2 (some v2)) H3 (fun y H4 => ∃ acc, H4 D = some (.lst acc) ∧ acc.length < sizeLine ∧ ∃ c acc' vs, LcS Z ρ.B D H1 acc' c (upd H4 D (.lst (acc ++ [y]))) vs ∧ lcs2 Z scope ρ.s i i2 ifs elt P (l.drop (j + 1)) acc' c)
        else ∃ c acc vs, LcS Z ρ.B D H1 acc c H3 vs ∧ lcs2 Z scope ρ.s i i2 ifs elt P (l.drop (j + 1)) acc c := fun b H3 c3 S3 e3 hb => by
      cases b with
      | false => exact ⟨c3, acc, vs, L'.go S3.ok e3, hb.2 rfl⟩
      | true =>
        refine fun s2 H2 C2 cl2 fp2 => ev_any (hb.1 rfl s2 H2 C2 cl2 fp2 ok.blk) S3.ofBlk.blk fun y H4 d c4 S4 e4 r4 ⟨hp, hz, h4⟩ => ?_
        have L4 := (L'.go S3.ok e3).go S4.ok e4
        exact ⟨vs, L4.at_, Nat.lt_of_lt_of_le (by rw [L4.re.len]; exact hz) (by decide), c4, acc ++ [d], vs ++ [y], L4.put (val_rep r4 hp), h4⟩
    cases ifs with
    | nil => exact ⟨tYes, pts_nil, go true _ c2 S2.blk (fun _ _ q => q) step⟩
    | cons t ts =>
      cases ts with
      | nil => exact ⟨_, pts_one pt_any, et_any step S2.blk fun b H3 c3 S3 e3 hb => go b H3 c3 S3 e3 hb⟩
      | cons _ _ => exact (show False from step).elim
  · rw [List.drop_of_length_le (Nat.le_refl _)] at hl2
    obtain ⟨S3, e3, r3⟩ := L.fin (ρ := ρ.wc c) S1 hd
    exact fin H (.lst acc) c2 S3 e3 (.of r3) hl2
theorem reps_at {T : Tab} {G : Hp} {l : List D} {vs : List V} (r : reps T G l vs) {j : Nat} (h : j < l.length) {v : V} (e : vs[j]? = some v) : rep T G l[j] v := by
  obtain ⟨w, h1, h2⟩ := r.get (List.getElem?_eq_getElem h)
  rw [e] at h1
  cases h1
  exact h2
section
variable {pz pt : Pos} (i i2 : Nat)
theorem ev_lcZip (ok : Zok Z) (hb : BlkOk Z.X.N Z.X.env.scope scope [(x, i), (y, i2)]) (hg : Gl Z.X "zip") (hm : Z.X.mg "zip" = none)
    (h : EA Z ρ [a, b] fun ds c => ∃ d1 d2 l1 l2, ds = [d1, d2] ∧ items d1 = some l1 ∧ items d2 = some l2 ∧ lcs2 Z scope ρ.s i i2 ifs elt P (l1.zip l2) [] c)
    (ne : i ≠ i2 := by decide) (hi : Z.X.N[i]? = some x := by rfl) (hi2 : Z.X.N[i2]? = some y := by rfl) (hx : scope.names.lookup x = some .local := by rfl) (hy : scope.names.lookup y = some .local := by rfl) (hc : Z.X.calm = true := by rfl)
    (hz : starEach [a, b] Z.X.env = (false, eval a Z.X.env) :: starEach [b] Z.X.env := by rfl) (hpl : (backTo pz (starEach [b] Z.X.env)).any (·.1) = false := by rfl)
    (hs : ∀ v, foldedSetIterable (.Call (.Name "zip" p) [a, b] [] pz) Z.X.env v = pure v := by intro _; rfl) :
    EV Z ρ (.ListComp elt [⟨.Tuple [.Name x px, .Name y py] kk pt, .Call (.Name "zip" p) [a, b] [] pz, ifs, 0⟩] scope pos) P := by
  have lx : ∀ C cl, Loc (compEnvC scope cl C Z.X.env).scope x := fun C cl => .inl (lookup_relabel_local hx)
  have ly : ∀ C cl, Loc (compEnvC scope cl C Z.X.env).scope y := fun C cl => .inl (lookup_relabel_local hy)
  refine ev_of (pe_lc (own := [(x, i), (y, i2)]) (g := gTup Z.X.K 2 (gCons (gName i) (gCons (gName i2) gNil))) (tt := tLcTest Z.X scope ifs) (te := tLcElt Z.X scope elt) hc ok.nd (pi_zip hg hm pa_any hz hpl) hb
    (fun s H C cl fp => pg_tup (n := 2) hc (pgs_cons (pg_name ok.nd hi (lx C cl) (.inr (lookup_relabel_local hx))) (pgs_cons (pg_name ok.nd hi2 (ly C cl) (.inr (lookup_relabel_local hy))) pgs_nil rfl) rfl) rfl rfl)
    (fun s H C cl fp => ⟨fun pins s' σ H' Q I h => let ⟨t, p, q⟩ := h s H C cl fp; p.run pins s' σ H' Q I q⟩) (fun s H C cl fp => ⟨fun pins s' σ H' Q I h => pe_any.run pins s' σ H' Q I (h s H C cl fp)⟩) hs) fun σ H Q S k => ?_
  refine ea_any h S fun vs H1 ds c S1 e1 r ⟨d1, d2, l1, l2, hds, h1, h2, hL⟩ => ?_
  subst hds
  obtain ⟨v1, v2, rfl, r1, r2⟩ := pr2 r
  obtain ⟨a1, xs, rfl, hsq, hrs⟩ := items_at h1 (val_rep r1 (items_plain h1))
  obtain ⟨a2, ys, rfl, hsq2, hrs2⟩ := items_at h2 (val_rep r2 (items_plain h2))
  rw [ok.K]
  refine ⟨a1, a2, xs, ys, rfl, seqS vis_same hsq, seqS vis_same hsq2, fun D hd => ?_⟩
  have := lc_w2 ne ok (J := Itz Z.T.K a1 a2) (l := l1.zip l2) (w := walk_zip (xs := xs) (ys := ys) (n := (l1.zip l2).length) (by rw [List.length_zip, hrs.len, hrs2.len])) S1 (fun H e => ⟨seqS e hsq, seqS e hsq2⟩)
    (fun j hj v hv => by
      have hj' := hj; rw [List.length_zip] at hj'
      rw [List.getElem_zip]; exact reps_at hrs (by omega) hv) (fun j hj v hv => by
      have hj' := hj; rw [List.length_zip] at hj'
      rw [List.getElem_zip]; exact reps_at hrs2 (by omega) hv) hL (Qe := Q) (fun H d c' S3 e3 r3 p => k _ H d c' S3 (fun _ _ q => e3 _ _ (e1 _ _ q)) r3 p) hd
  rw [ok.K] at this
  exact this
/-- .. and over enumerate -/
def enumD (l : List D) : List (D × D) := (List.range l.length).map (fun j => D.int (j : Nat)) |>.zip l
theorem ev_lcEnum (ok : Zok Z) (hb : BlkOk Z.X.N Z.X.env.scope scope [(x, i), (y, i2)]) (hg : Gl Z.X "enumerate") (hm : Z.X.mg "enumerate" = none)
    (h : EA Z ρ [a] fun ds c => ∃ d1 l1, ds = [d1] ∧ items d1 = some l1 ∧ lcs2 Z scope ρ.s i i2 ifs elt P (enumD l1) [] c)
    (ne : i ≠ i2 := by decide) (hi : Z.X.N[i]? = some x := by rfl) (hi2 : Z.X.N[i2]? = some y := by rfl) (hx : scope.names.lookup x = some .local := by rfl) (hy : scope.names.lookup y = some .local := by rfl) (hc : Z.X.calm = true := by rfl)
    (hz : starEach [a] Z.X.env = (false, eval a Z.X.env) :: starEach [] Z.X.env := by rfl)
    (hs : ∀ v, foldedSetIterable (.Call (.Name "enumerate" p) [a] [] pz) Z.X.env v = pure v := by intro _; rfl) :
    EV Z ρ (.ListComp elt [⟨.Tuple [.Name x px, .Name y py] kk pt, .Call (.Name "enumerate" p) [a] [] pz, ifs, 0⟩] scope pos) P := by
  have lx : ∀ C cl, Loc (compEnvC scope cl C Z.X.env).scope x := fun C cl => .inl (lookup_relabel_local hx)
  have ly : ∀ C cl, Loc (compEnvC scope cl C Z.X.env).scope y := fun C cl => .inl (lookup_relabel_local hy)
  refine ev_of (pe_lc (own := [(x, i), (y, i2)]) (g := gTup Z.X.K 2 (gCons (gName i) (gCons (gName i2) gNil))) (tt := tLcTest Z.X scope ifs) (te := tLcElt Z.X scope elt) hc ok.nd (pi_enum hg hm pa_any hz) hb
    (fun s H C cl fp => pg_tup (n := 2) hc (pgs_cons (pg_name ok.nd hi (lx C cl) (.inr (lookup_relabel_local hx))) (pgs_cons (pg_name ok.nd hi2 (ly C cl) (.inr (lookup_relabel_local hy))) pgs_nil rfl) rfl) rfl rfl)
    (fun s H C cl fp => ⟨fun pins s' σ H' Q I h => let ⟨t, p, q⟩ := h s H C cl fp; p.run pins s' σ H' Q I q⟩) (fun s H C cl fp => ⟨fun pins s' σ H' Q I h => pe_any.run pins s' σ H' Q I (h s H C cl fp)⟩) hs) fun σ H Q S k => ?_
  refine ea_any h S fun vs H1 ds c S1 e1 r ⟨d1, l1, hds, h1, hL⟩ => ?_
  subst hds
  obtain ⟨v1, rfl, r1⟩ := pr1 r
  obtain ⟨a1, xs, rfl, hsq, hrs⟩ := items_at h1 (val_rep r1 (items_plain h1))
  have hlen : (enumD l1).length = xs.length := by unfold enumD; rw [List.length_zip, List.length_map, List.length_range, hrs.len]; omega
  rw [ok.K]
  refine ⟨a1, xs, rfl, seqS vis_same hsq, fun Dn hd => ?_⟩
  have := lc_w2 ne ok (J := Ite Z.T.K a1) (l := enumD l1) (w := by rw [hlen]; exact walk_enum (xs := xs)) S1 (fun H e => seqS e hsq)
    (fun j hj v hv => by
      cases hv
      have e : (enumD l1)[j].1 = D.int (j : Nat) := by simp [enumD]
      rw [e]; rfl) (fun j hj v hv => by
      have e : (enumD l1)[j].2 = l1[j]'(by rw [hlen, hrs.len] at hj; exact hj) := by simp [enumD]
      rw [e]; exact reps_at hrs (by rw [hlen, hrs.len] at hj; exact hj) hv) hL (Qe := Q) (fun H d c' S3 e3 r3 p => k _ H d c' S3 (fun _ _ q => e3 _ _ (e1 _ _ q)) r3 p) hd
  rw [ok.K] at this
  exact this
end
end Q
end

section
set_option Elab.async false
set_option linter.all false
set_option maxRecDepth 100000
set_option maxHeartbeats 3900000
/-! N2: comprehensions of one value; over range. -/
namespace Q
open PySem L2
variable {Z : Zt} {ρ : Rho} {σ : St} {H H' : Hp} {O : Out} {P : D → Nat → Prop} {e a b elt iter t : Expr} {pos p px py pz pt : Pos} {X : Cx} {x y : Str} {ifs : List Expr} {scope : Scope} {kk : Nat}
/-- items one after another, what holds behind each -/
theorem lcs_ind {i : Nat} {s : List (Option D)} (I : List D → List D → Nat → Prop) : ∀ (l done acc : List D) (c : Nat), I done acc c →
    (∀ done y acc c, I done acc c → acc.length < 100000 ∧ ∀ B s1 H1 C cl fp, Zok (Z.blk s1 H1 scope C cl fp) → EV (Z.blk s1 H1 scope C cl fp) ⟨B, (s.set i none).set i (some y), c⟩ elt fun d c' => plain d = true ∧ I (done ++ [y]) (acc ++ [d]) c') →
    (∀ acc c, I (done ++ l) acc c → P (.lst acc) c) → lcs Z scope s i [] elt P l acc c
  | [], done, acc, c, h, _, hf => by
    rw [List.append_nil] at hf
    exact hf acc c h
  | y :: l, done, acc, c, h, hs, hf => fun B s1 H1 C cl fp ok => ⟨fun _ s2 H2 C2 cl2 fp2 ok2 => ((hs done y acc c h).2 B s2 H2 C2 cl2 fp2 ok2).mono fun d c' ⟨h1, h2⟩ => ⟨h1, (hs done y acc c h).1, lcs_ind I l (done ++ [y]) (acc ++ [d]) c' h2 hs (fun acc c h => hf acc c (by rw [List.append_assoc] at h; exact h))⟩, fun z => by cases z⟩
/-- each item gives one value -/
theorem lcs_map {i : Nat} {s : List (Option D)} {g : D → D} : ∀ (l acc : List D) (c : Nat), acc.length + l.length ≤ 100000 →
    (∀ y ∈ l, plain (g y) = true ∧ ∀ B s1 H1 C cl fp, Zok (Z.blk s1 H1 scope C cl fp) → EQ (Z.blk s1 H1 scope C cl fp) ⟨B, (s.set i none).set i (some y), c⟩ elt (g y)) → P (.lst (acc ++ l.map g)) c → lcs Z scope s i [] elt P l acc c
  | [], acc, c, _, _, hp => by
    rw [List.map_nil, List.append_nil] at hp
    exact hp
  | y :: l, acc, c, hl, h, hp => fun B s1 H1 C cl fp ok => ⟨fun _ s2 H2 C2 cl2 fp2 ok2 => by
    obtain ⟨hy, hr⟩ := List.forall_mem_cons.mp h
    rw [List.length_cons] at hl
    exact ((hy.2 B s2 H2 C2 cl2 fp2 ok2).to ⟨hy.1, by omega, lcs_map l (acc ++ [g y]) c (by rw [List.length_append, List.length_singleton]; omega) hr (by rw [List.append_assoc]; exact hp)⟩), fun z => by cases z⟩
/-- the items that pass -/
theorem lcs_fil {i : Nat} {s : List (Option D)} {g : D → D} {k : D → Bool} : ∀ (l acc : List D) (c : Nat), acc.length + l.length ≤ 100000 →
    (∀ y ∈ l, plain (g y) = true ∧ (∀ B s1 H1 C cl fp, Zok (Z.blk s1 H1 scope C cl fp) → TQ (Z.blk s1 H1 scope C cl fp) ⟨B, (s.set i none).set i (some y), c⟩ t (k y)) ∧ ∀ B s1 H1 C cl fp, Zok (Z.blk s1 H1 scope C cl fp) → EQ (Z.blk s1 H1 scope C cl fp) ⟨B, (s.set i none).set i (some y), c⟩ elt (g y)) →
    P (.lst (acc ++ (l.filter k).map g)) c → lcs Z scope s i [t] elt P l acc c
  | [], acc, c, _, _, hp => by
    rw [List.filter_nil, List.map_nil, List.append_nil] at hp
    exact hp
  | y :: l, acc, c, hl, h, hp => fun B s1 H1 C cl fp ok => by
    obtain ⟨hy, hr⟩ := List.forall_mem_cons.mp h
    rw [List.length_cons] at hl
    refine (hy.2.1 B s1 H1 C cl fp ok).to ⟨fun z s2 H2 C2 cl2 fp2 ok2 => ?_, fun z => ?_⟩
    · rw [List.filter_cons, if_pos z, List.map_cons] at hp
      exact ((hy.2.2 B s2 H2 C2 cl2 fp2 ok2).to ⟨hy.1, by omega, lcs_fil l (acc ++ [g y]) c (by rw [List.length_append, List.length_singleton]; omega) hr (by rw [List.append_assoc]; exact hp)⟩)
    · rw [List.filter_cons, if_neg (by rw [z]; exact Bool.false_ne_true)] at hp
      exact lcs_fil l acc c (by omega) hr hp
/-- pairs, each gives one value -/
theorem lcs2_map {i i2 : Nat} {s : List (Option D)} {g : D × D → D} : ∀ (l : List (D × D)) (acc : List D) (c : Nat), acc.length + l.length ≤ 100000 →
    (∀ y ∈ l, plain (g y) = true ∧ ∀ B s1 H1 C cl fp, Zok (Z.blk s1 H1 scope C cl fp) → EQ (Z.blk s1 H1 scope C cl fp) ⟨B, st2 s i i2 y.1 y.2, c⟩ elt (g y)) → P (.lst (acc ++ l.map g)) c → lcs2 Z scope s i i2 [] elt P l acc c
  | [], acc, c, _, _, hp => by
    rw [List.map_nil, List.append_nil] at hp
    exact hp
  | (y, y2) :: l, acc, c, hl, h, hp => fun B s1 H1 C cl fp ok => ⟨fun _ s2 H2 C2 cl2 fp2 ok2 => by
    obtain ⟨hy, hr⟩ := List.forall_mem_cons.mp h
    rw [List.length_cons] at hl
    exact ((hy.2 B s2 H2 C2 cl2 fp2 ok2).to ⟨hy.1, by omega, lcs2_map l (acc ++ [g (y, y2)]) c (by rw [List.length_append, List.length_singleton]; omega) hr (by rw [List.append_assoc]; exact hp)⟩), fun z => by cases z⟩
theorem eq_lcM (i : Nat) {l : List D} {d : D} {g : D → D} (ok : Zok Z) (hb : BlkOk Z.X.N Z.X.env.scope scope [(x, i)]) (hl : items d = some l) (h : EQ Z ρ iter d) (len : l.length ≤ 100000)
    (hg : ∀ y ∈ l, plain (g y) = true ∧ ∀ B s1 H1 C cl fp, Zok (Z.blk s1 H1 scope C cl fp) → EQ (Z.blk s1 H1 scope C cl fp) ⟨B, (ρ.s.set i none).set i (some y), ρ.c⟩ elt (g y))
    (hi : Z.X.N[i]? = some x := by rfl) (hx : scope.names.lookup x = some .local := by rfl) (hc : Z.X.calm = true := by rfl) (hs : ∀ x, foldedSetIterable iter Z.X.env x = pure x := by intro _; rfl) :
    EQ Z ρ (.ListComp elt [⟨.Name x px, iter, [], 0⟩] scope pos) (.lst (l.map g)) :=
  ev_lc i ok hb hi hx (h.to ⟨l, hl, lcs_map l [] ρ.c (by rw [List.length_nil]; omega) hg ⟨rfl, rfl⟩⟩) hc hs
theorem eq_lcF (i : Nat) {l : List D} {d : D} {g : D → D} {k : D → Bool} (ok : Zok Z) (hb : BlkOk Z.X.N Z.X.env.scope scope [(x, i)]) (hl : items d = some l) (h : EQ Z ρ iter d) (len : l.length ≤ 100000)
    (hg : ∀ y ∈ l, plain (g y) = true ∧ (∀ B s1 H1 C cl fp, Zok (Z.blk s1 H1 scope C cl fp) → TQ (Z.blk s1 H1 scope C cl fp) ⟨B, (ρ.s.set i none).set i (some y), ρ.c⟩ t (k y)) ∧ ∀ B s1 H1 C cl fp, Zok (Z.blk s1 H1 scope C cl fp) → EQ (Z.blk s1 H1 scope C cl fp) ⟨B, (ρ.s.set i none).set i (some y), ρ.c⟩ elt (g y))
    (hi : Z.X.N[i]? = some x := by rfl) (hx : scope.names.lookup x = some .local := by rfl) (hc : Z.X.calm = true := by rfl) (hs : ∀ x, foldedSetIterable iter Z.X.env x = pure x := by intro _; rfl) :
    EQ Z ρ (.ListComp elt [⟨.Name x px, iter, [t], 0⟩] scope pos) (.lst ((l.filter k).map g)) :=
  ev_lc i ok hb hi hx (h.to ⟨l, hl, lcs_fil l [] ρ.c (by rw [List.length_nil]; omega) hg ⟨rfl, rfl⟩⟩) hc hs
section
variable (i i2 : Nat) {l1 l2 : List D} {d1 d2 : D} {g : D × D → D}
theorem eq_lcZ (ok : Zok Z) (hb : BlkOk Z.X.N Z.X.env.scope scope [(x, i), (y, i2)]) (hm : Z.X.mg "zip" = none) (h1 : items d1 = some l1) (h2 : items d2 = some l2) (h : AQ Z ρ [a, b] [d1, d2]) (len : l1.length ≤ 100000)
    (hg : ∀ y ∈ l1.zip l2, plain (g y) = true ∧ ∀ B s1 H1 C cl fp, Zok (Z.blk s1 H1 scope C cl fp) → EQ (Z.blk s1 H1 scope C cl fp) ⟨B, st2 ρ.s i i2 y.1 y.2, ρ.c⟩ elt (g y))
    (gl : Gl Z.X "zip" := by rfl) (ne : i ≠ i2 := by decide) (hi : Z.X.N[i]? = some x := by rfl) (hi2 : Z.X.N[i2]? = some y := by rfl) (hx : scope.names.lookup x = some .local := by rfl) (hy : scope.names.lookup y = some .local := by rfl) (hc : Z.X.calm = true := by rfl)
    (hz : starEach [a, b] Z.X.env = (false, eval a Z.X.env) :: starEach [b] Z.X.env := by rfl) (hpl : (backTo pz (starEach [b] Z.X.env)).any (·.1) = false := by rfl)
    (hs : ∀ v, foldedSetIterable (.Call (.Name "zip" p) [a, b] [] pz) Z.X.env v = pure v := by intro _; rfl) :
    EQ Z ρ (.ListComp elt [⟨.Tuple [.Name x px, .Name y py] kk pt, .Call (.Name "zip" p) [a, b] [] pz, [], 0⟩] scope pos) (.lst ((l1.zip l2).map g)) :=
  ev_lcZip i i2 ok hb gl hm (h.to ⟨d1, d2, l1, l2, rfl, h1, h2, lcs2_map _ [] ρ.c (by rw [List.length_nil, List.length_zip]; omega) hg ⟨rfl, rfl⟩⟩) ne hi hi2 hx hy hc hz hpl hs
theorem eq_lcE (ok : Zok Z) (hb : BlkOk Z.X.N Z.X.env.scope scope [(x, i), (y, i2)]) (hm : Z.X.mg "enumerate" = none) (h1 : items d1 = some l1) (h : AQ Z ρ [a] [d1]) (len : l1.length ≤ 100000)
    (hg : ∀ y ∈ enumD l1, plain (g y) = true ∧ ∀ B s1 H1 C cl fp, Zok (Z.blk s1 H1 scope C cl fp) → EQ (Z.blk s1 H1 scope C cl fp) ⟨B, st2 ρ.s i i2 y.1 y.2, ρ.c⟩ elt (g y))
    (gl : Gl Z.X "enumerate" := by rfl) (ne : i ≠ i2 := by decide) (hi : Z.X.N[i]? = some x := by rfl) (hi2 : Z.X.N[i2]? = some y := by rfl) (hx : scope.names.lookup x = some .local := by rfl) (hy : scope.names.lookup y = some .local := by rfl) (hc : Z.X.calm = true := by rfl)
    (hz : starEach [a] Z.X.env = (false, eval a Z.X.env) :: starEach [] Z.X.env := by rfl) (hs : ∀ v, foldedSetIterable (.Call (.Name "enumerate" p) [a] [] pz) Z.X.env v = pure v := by intro _; rfl) :
    EQ Z ρ (.ListComp elt [⟨.Tuple [.Name x px, .Name y py] kk pt, .Call (.Name "enumerate" p) [a] [] pz, [], 0⟩] scope pos) (.lst ((enumD l1).map g)) :=
  ev_lcEnum i i2 ok hb gl hm (h.to ⟨d1, l1, rfl, h1, lcs2_map _ [] ρ.c (by rw [List.length_nil]; simp [enumD]; omega) hg ⟨rfl, rfl⟩⟩) ne hi hi2 hx hy hc hz hs
end
/-! ### over range -/
def rngD (n : Nat) : List D := (List.range n).map fun j => .int (j : Nat)
theorem rng_rep {T : Tab} {G : Hp} (n : Nat) : reps T G (rngD n) ((List.range n).map fun j => V.int (j : Nat)) := by
  unfold rngD
  induction List.range n with
  | nil => rfl
  | cons c l ih => exact ⟨_, _, rfl, rfl, ih⟩
theorem lc_tR (i : Nat) (ok : Zok Z) (h : EA Z ρ [a] fun ds c => ∃ n : Nat, ds = [.int (n : Nat)] ∧ n ≤ 100000 ∧ lcs Z scope ρ.s i ifs elt P (rngD n) [] c) {Q : VK} (S : SR Z ρ σ H) (k : Post Z ρ σ H P Q) : tLc (iRng1 (taAny Z.X [a])) (gName i) (tLcTest Z.X scope ifs) (tLcElt Z.X scope elt) [i] σ H Q := by
  refine ea_any h S fun vs0 H1 ds c S1 e1 r ⟨n, hds, hn, hL⟩ => ?_
  subst hds
  obtain ⟨v0, rfl, hv0⟩ := pr1 r
  cases hv0
  refine ⟨(n : Int), rfl, by omega, by omega, fun D hd => ?_⟩
  have b0 : ρ.B D = none := S1.ok.fresh hd
  have w : Walk (Itr 0 (n : Int).toNat) n (fun _ => True) (YFn fun i => .int (0 + (i : Nat))) := by
    rw [Int.toNat_natCast]; exact walk_range
  refine lc_it w (fun j H => ∃ c acc vs, LcS Z ρ.B D H1 acc c H vs ∧ lcs Z scope ρ.s i ifs elt P ((rngD n).drop j) acc c) ⟨c, [], [], LcS.start (ρ := ρ.wc c) S1 hd, hL⟩ (fun _ _ _ _ => trivial) (fun j x0 H H2 lt ⟨c2, acc, vs, L, hl2⟩ yp => ?_) (fun H ⟨c2, acc, vs, L, hl2⟩ => ?_)
  · obtain ⟨rfl, rfl⟩ := yp
    have hlen : (rngD n).length = n := by simp [rngD]
    have lt' : j < (rngD n).length := by rw [hlen]; exact lt
    rw [List.drop_eq_getElem_cons lt'] at hl2
    have ej : (rngD n)[j] = .int (j : Nat) := by simp [rngD]
    rw [ej] at hl2
    simp only [Int.zero_add]
    have sl : slots Z.T (hideAt ρ.B D (some (.lst vs))) (vis (hideAt ρ.B D (some (.lst vs))) H2) ((ρ.s.set i none).set i (some (.int (j : Nat)))) ((σ.set i none).set i (some (V.int (j : Nat)))) :=
      ((slots_B (hide_of b0) (S1.sl.unset i)).mono L.sm).set (slot_of (d := .int (j : Nat)) rfl) i
    have S2 := L.sr (ρ := ρ.wc c) S1 hd sl
    refine ⟨?_, fun s1 H1' C cl fp => ?_⟩
    · show ((σ.set i none).set i (some _)).set i none = σ.set i none
      rw [List.set_set, List.set_set]
    · have step := hl2 (hideAt ρ.B D (some (.lst vs))) s1 H1' C cl fp ok.blk
      have go : ∀ b H3 c3, SR (Z.blk s1 H1' scope C cl fp) ⟨hideAt ρ.B D (some (.lst vs)), (ρ.s.set i none).set i (some (.int (j : Nat))), c3⟩ ((σ.set i none).set i (some (V.int (j : Nat)))) H3 → Same (vis (hideAt ρ.B D (some (.lst vs))) H2) (vis (hideAt ρ.B D (some (.lst vs))) H3) →
          onB b (∀ s2 H2 C2 cl2 fp2, Zok (Z.blk s2 H2 scope C2 cl2 fp2) → EV (Z.blk s2 H2 scope C2 cl2 fp2) ⟨hideAt ρ.B D (some (.lst vs)), (ρ.s.set i none).set i (some (.int (j : Nat))), c3⟩ elt fun d c'' => plain d = true ∧ acc.length < 100000 ∧ lcs Z scope ρ.s i ifs elt P ((rngD n).drop (j + 1)) (acc ++ [d]) c'') (lcs Z scope ρ.s i ifs elt P ((rngD n).drop (j + 1)) acc c3) →
          if b = true then tLcElt Z.X scope elt ((σ.set i none).set i (some (V.int (j : Nat)))) H3 (fun y H4 => ∃ acc, H4 D = some (.lst acc) ∧ acc.length < sizeLine ∧ ∃ c acc' vs, LcS Z ρ.B D H1 acc' c (upd H4 D (.lst (acc ++ [y]))) vs ∧ lcs Z scope ρ.s i ifs elt P ((rngD n).drop (j + 1)) acc' c)
          else ∃ c acc vs, LcS Z ρ.B D H1 acc c H3 vs ∧ lcs Z scope ρ.s i ifs elt P ((rngD n).drop (j + 1)) acc c := fun b H3 c3 S3 e3 hb => by
        cases b with
        | false => exact ⟨c3, acc, vs, L.go S3.ok e3, hb.2 rfl⟩
        | true =>
          refine fun s2 H2 C2 cl2 fp2 => ev_any (hb.1 rfl s2 H2 C2 cl2 fp2 ok.blk) S3.ofBlk.blk fun y H4 d c4 S4 e4 r4 ⟨hp, hz, h4⟩ => ?_
          have L4 := (L.go S3.ok e3).go S4.ok e4
          exact ⟨vs, L4.at_, Nat.lt_of_lt_of_le (by rw [L4.re.len]; exact hz) (by decide), c4, acc ++ [d], vs ++ [y], L4.put (val_rep r4 hp), h4⟩
      cases ifs with
      | nil => exact ⟨tYes, pts_nil, go true _ c2 S2.blk (fun _ _ q => q) step⟩
      | cons t ts =>
        cases ts with
        | nil => exact ⟨_, pts_one pt_any, et_any step S2.blk fun b H3 c3 S3 e3 hb => go b H3 c3 S3 e3 hb⟩
        | cons _ _ => exact (show False from step).elim
  · rw [List.drop_of_length_le (by simp [rngD])] at hl2
    obtain ⟨S3, e3, r3⟩ := L.fin (ρ := ρ.wc c) S1 hd
    exact k _ H (.lst acc) c2 S3 (fun _ _ q => e3 _ _ (e1 _ _ q)) (.of r3) hl2
theorem ev_lcR (i : Nat) (ok : Zok Z) (hb : BlkOk Z.X.N Z.X.env.scope scope [(x, i)]) (hm : Z.X.mg "range" = none)
    (h : EA Z ρ [a] fun ds c => ∃ n : Nat, ds = [.int (n : Nat)] ∧ n ≤ 100000 ∧ lcs Z scope ρ.s i ifs elt P (rngD n) [] c) (gl : Gl Z.X "range" := by rfl) (hi : Z.X.N[i]? = some x := by rfl) (hx : scope.names.lookup x = some .local := by rfl)
    (hst : starEach [a] Z.X.env = [(false, eval a Z.X.env)] := by rfl) (hc : Z.X.calm = true := by rfl) (hs : ∀ v, foldedSetIterable (.Call (.Name "range" p) [a] [] pz) Z.X.env v = pure v := by intro _; rfl) :
    EV Z ρ (.ListComp elt [⟨.Name x px, .Call (.Name "range" p) [a] [] pz, ifs, 0⟩] scope pos) P := by
  have loc : ∀ C cl, Loc (compEnvC scope cl C Z.X.env).scope x := fun C cl => .inl (lookup_relabel_local hx)
  refine ev_of (pe_lc (wi := iRng1 (taAny Z.X [a])) (g := gName i) (tt := tLcTest Z.X scope ifs) (te := tLcElt Z.X scope elt) hc ok.nd (pi_range1 gl hm pa_any hst) hb (fun s H C cl fp => pg_name ok.nd hi (loc C cl) (.inr (lookup_relabel_local hx)))
    (fun s H C cl fp => ⟨fun pins s' σ H' Q I h => let ⟨t, p, q⟩ := h s H C cl fp; p.run pins s' σ H' Q I q⟩) (fun s H C cl fp => ⟨fun pins s' σ H' Q I h => pe_any.run pins s' σ H' Q I (h s H C cl fp)⟩) hs) fun σ H Q S k => lc_tR i ok h S k
end Q
end

section
set_option Elab.async false
set_option linter.all false
set_option maxRecDepth 100000
set_option maxHeartbeats 3900000
set_option exponentiation.threshold 20000
/-! N3: slices of lists, [*a, *b], properties of one value, lcm. -/
namespace Q
open PySem L2
variable {Z : Zt} {ρ : Rho} {σ : St} {H H' : Hp} {O : Out} {P : D → Nat → Prop} {e a b : Expr} {pos p p1 p2 p3 px apos : Pos} {X : Cx} {k j : Nat} {x n m name : Str} {es : List Expr}
theorem eq_dp {F : Fw} {q : Rat} {d : D} (Dq : Dp Z.X.prog Z.X.w Z.T Z.X.mg Z.X.base Z.T.C name k F) (cl : Cls Z.T.K Z.T.C) (ok : Zok Z) (hr : RoomG j Z.X.A) (hj : k + 1 ≤ j) (h : EQ Z ρ e (.rat q))
    (hF : F [.rat q] ρ.c (fun d' c' => d' = d ∧ c' = ρ.c) (fun _ _ => False)) (h1 : ¬ name = "_top" := by decide +kernel) (h2 : ¬ name = "_bottom" := by decide +kernel) (hab : attributeBase e name Z.X.env (eval e Z.X.env) = eval e Z.X.env := by rfl) :
    EQ Z ρ (.Attribute e name pos) d := ev_dp Dq cl ok hr hj (h.to ⟨q, rfl, hF⟩) h1 h2 hab
theorem spins_fin {body : Rho → Int → (Rho → Prop) → Prop} {N : Rho → Prop} {n0 : Nat} (I : Nat → Rho → Prop) (hs : ∀ j ρ K, I j ρ → j < n0 → (∀ ρ', I (j + 1) ρ' → K ρ') → body ρ (j : Nat) K) (hN : ∀ ρ, I n0 ρ → N ρ) : ∀ n j ρ, j + n = n0 → I j ρ → spins body N n (j : Nat) ρ
  | 0, j, ρ, e, h => hN ρ (by rw [← (show j = n0 by omega)]; exact h)
  | n + 1, j, ρ, e, h => hs j ρ _ h (by omega) fun ρ' h' => spins_fin I hs hN n (j + 1) ρ' (by omega) h'
/-! ### slices of lists -/
theorem reps.drop {T : Tab} {G : Hp} : ∀ {l : List D} {vs : List V} (i : Nat), reps T G l vs → reps T G (l.drop i) (vs.drop i)
  | l, vs, 0, h => by simpa using h
  | [], vs, i + 1, h => by
    have e : vs = [] := h
    subst e; exact rfl
  | d :: l, vs, i + 1, ⟨v, r, h, k, q⟩ => by
    subst h
    exact q.drop i
theorem reps.take {T : Tab} {G : Hp} : ∀ {l : List D} {vs : List V} (i : Nat), reps T G l vs → reps T G (l.take i) (vs.take i)
  | l, vs, 0, h => by simp; exact rfl
  | [], vs, i + 1, h => by
    have e : vs = [] := h
    subst e; exact rfl
  | d :: l, vs, i + 1, ⟨v, r, h, k, q⟩ => by
    subst h
    exact ⟨v, _, rfl, k, q.take i⟩
theorem eq_lFrom {d : D} {l : List D} {i : Nat} (hK : Z.X.K = Z.T.K) (hl : items d = some l) (ha : EQ Z ρ a d) (hb : EQ Z ρ b (.int (i : Nat))) : EQ Z ρ (.Subscript a (.Slice (some b) none none p2) pos) (.lst (l.drop i)) :=
  ev_of (pe_slice sl_list pe_any (po_some pe_any) po_none) fun σ H Q S kq => eq_any ha S fun v1 H1 S1 e1 r1 => by
    obtain ⟨a1, xs, rfl, hsq, hrs⟩ := items_at hl (val_rep r1 (items_plain hl))
    refine eq_any hb S1 fun v2 H2 S2 e2 r2 => ?_
    cases r2
    rw [hK]
    refine ⟨_, rfl, a1, xs, rfl, seqS vis_same (seqS e2 hsq), fun q hq => ?_⟩
    have cut : cutV xs (some ((i : Nat) : Int)) none = xs.drop i := by
      unfold cutV
      rw [HT.sIx_nat, HT.sIx_none]
      by_cases h : i ≤ xs.length
      · rw [Nat.min_eq_left h, List.take_of_length_le (by rw [List.length_drop]; omega)]
      · rw [Nat.min_eq_right (by omega), List.drop_of_length_le (Nat.le_refl _), List.drop_of_length_le (by omega)]; simp
    rw [cut]
    refine new_obj (P := fun d' c' => d' = .lst (l.drop i) ∧ c' = ρ.c) S2 (fun v H' d c' S' e' r' h => kq v H' d c' S' (fun _ _ z => e' _ _ (e2 _ _ (e1 _ _ z))) r' h) hq ?_ ⟨rfl, rfl⟩
    exact ⟨q, _, rfl, new_at S2 hq, ((hrs.mono e2).drop i).mono (Same.vis_ (same_new hq))⟩
theorem eq_lTo {d : D} {l : List D} {i : Nat} (hK : Z.X.K = Z.T.K) (hl : items d = some l) (ha : EQ Z ρ a d) (hb : EQ Z ρ b (.int (i : Nat))) : EQ Z ρ (.Subscript a (.Slice none (some b) none p2) pos) (.lst (l.take i)) :=
  ev_of (pe_slice sl_list pe_any po_none (po_some pe_any)) fun σ H Q S kq => eq_any ha S fun v1 H1 S1 e1 r1 => by
    obtain ⟨a1, xs, rfl, hsq, hrs⟩ := items_at hl (val_rep r1 (items_plain hl))
    refine eq_any hb S1 fun v2 H2 S2 e2 r2 => ?_
    cases r2
    rw [hK]
    refine ⟨_, rfl, a1, xs, rfl, seqS vis_same (seqS e2 hsq), fun q hq => ?_⟩
    have cut : cutV xs none (some ((i : Nat) : Int)) = xs.take i := by
      unfold cutV
      rw [HT.sIx_nat, HT.sIx_none, List.drop_zero, Nat.sub_zero]
      by_cases h : i ≤ xs.length
      · rw [Nat.min_eq_left h]
      · rw [Nat.min_eq_right (by omega)]; rw [List.take_of_length_le (Nat.le_refl _), List.take_of_length_le (by omega)]
    rw [cut]
    refine new_obj (P := fun d' c' => d' = .lst (l.take i) ∧ c' = ρ.c) S2 (fun v H' d c' S' e' r' h => kq v H' d c' S' (fun _ _ z => e' _ _ (e2 _ _ (e1 _ _ z))) r' h) hq ?_ ⟨rfl, rfl⟩
    exact ⟨q, _, rfl, new_at S2 hq, ((hrs.mono e2).take i).mono (Same.vis_ (same_new hq))⟩
/-! ### [*a, *b] -/
theorem eq_star2 {d1 d2 : D} {l1 l2 : List D} (hK : Z.X.K = Z.T.K) (h1 : items d1 = some l1) (h2 : items d2 = some l2) (ha : EQ Z ρ a d1) (hb : EQ Z ρ b d2) (len : l1.length + l2.length ≤ 100000)
    (s1 : starEach [.Starred a p1, .Starred b p2] Z.X.env = (true, eval a Z.X.env) :: starEach [.Starred b p2] Z.X.env := by rfl) (s2 : starEach [.Starred b p2] Z.X.env = (true, eval b Z.X.env) :: starEach [] Z.X.env := by rfl) :
    EQ Z ρ (.List [.Starred a p1, .Starred b p2] pos) (.lst (l1 ++ l2)) :=
  ev_of (pe_lst (StX.pa_star pe_any (StX.pa_star pe_any pa_nil s2) s1)) fun σ H Q S kq => eq_any ha S fun v1 H1 S1 e1 r1 => by
    obtain ⟨a1, xs, rfl, hsq, hrs⟩ := items_at h1 (val_rep r1 (items_plain h1))
    rw [hK]
    refine ⟨a1, xs, rfl, .inr (seqS vis_same hsq), eq_any hb S1 fun v2 H2 S2 e2 r2 => ?_⟩
    obtain ⟨a2, ys, rfl, hsq2, hrs2⟩ := items_at h2 (val_rep r2 (items_plain h2))
    refine ⟨a2, ys, rfl, .inr (seqS vis_same hsq2), ?_⟩
    have rr := (hrs.mono e2).append hrs2
    refine ⟨?_, fun q hq => ?_⟩
    · rw [List.append_nil]
      exact sizeS (by rw [rr.len, List.length_append]; exact len)
    · rw [List.append_nil]
      refine new_obj (P := fun d' c' => d' = .lst (l1 ++ l2) ∧ c' = ρ.c) S2 (fun v H' d c' S' e' r' h => kq v H' d c' S' (fun _ _ z => e' _ _ (e2 _ _ (e1 _ _ z))) r' h) hq ?_ ⟨rfl, rfl⟩
      exact ⟨q, _, rfl, new_at S2 hq, rr.mono (Same.vis_ (same_new hq))⟩
/-! ### lcm -/
def rLcm : List V → Hp → VK → Prop := fun vs H Q => ∃ i j : Int, vs = [.int i, .int j] ∧ i.natAbs < 2 ^ 9000 ∧ j.natAbs < 2 ^ 9000 ∧ Q (.int ((Nat.lcm i.natAbs j.natAbs : Nat) : Int)) H
theorem log_lt {n k : Nat} (h : n < 2 ^ k) (h0 : 0 < k) : n.log2 < k := by
  by_cases e : n = 0
  · subst e; rw [Nat.log2_zero]; exact h0
  · exact (Nat.log2_lt e).mpr h
theorem lcm_small {i j k : Nat} (hi : i < 2 ^ k) (hj : j < 2 ^ k) : Nat.lcm i j < 2 ^ (2 * k) := by
  have h : Nat.lcm i j ≤ i * j := Nat.div_le_self _ _
  rw [Nat.two_mul, Nat.pow_add]
  refine Nat.lt_of_le_of_lt h ?_
  exact Nat.mul_lt_mul'' hi hj
theorem cr_lcm : CallR X (.builtin "math.lcm") rLcm := by
  intro pins s σ H vs us Q I r h; obtain ⟨i, j, rfl, hi, hj, q⟩ := h
  obtain ⟨t, u, rfl⟩ := Vals.int2 r; have b1 : (max 1 i.natAbs).log2 < 9000 := log_lt (by
    rcases Nat.le_total 1 i.natAbs with z | z
    · rw [Nat.max_eq_right z]; exact hi
    · rw [Nat.max_eq_left z]; exact Nat.one_lt_two_pow (by decide)) (by decide)
  have b2 : (max i.natAbs j.natAbs).log2 < 9000 := log_lt (by
    rcases Nat.le_total i.natAbs j.natAbs with z | z
    · rw [Nat.max_eq_right z]; exact hj
    · rw [Nat.max_eq_left z]; exact hi) (by decide)
  have g := PySem.W.mg_run_lcm i t j u (by omega) (by omega) (by
    rw [Nat.lcm_one_left, Int.natAbs_natCast]
    exact Nat.lt_of_lt_of_le (log_lt (lcm_small hi hj) (by decide)) (by decide))
  rw [Nat.lcm_one_left] at g
  exact PySem.call_function_meets PySem.W.MGF.kind_lcm PySem.W.MGF.plain_lcm PySem.W.MGF.entry_lcm (PySem.W.MGF.args_lcm _ _) g.meets ⟨.int _, H, I.tok _, ⟨_, rfl⟩, q⟩
theorem eq_lcm {i j : Int} (hm : Z.X.mg "lcm" = some (.builtin "math.lcm")) (ha : EQ Z ρ a (.int i)) (hb : EQ Z ρ b (.int j)) (hi : i.natAbs < 2 ^ 9000) (hj : j.natAbs < 2 ^ 9000) (hg : Gl Z.X "lcm" := by rfl)
    (he : starEach [a, b] Z.X.env = (false, eval a Z.X.env) :: starEach [b] Z.X.env := by rfl) (he2 : starEach [b] Z.X.env = (false, eval b Z.X.env) :: starEach [] Z.X.env := by rfl) (hpl : (backTo pos (starEach [b] Z.X.env)).any (·.1) = false := by rfl) :
    EQ Z ρ (.Call (.Name "lcm" p) [a, b] [] pos) (.int ((Nat.lcm i.natAbs j.natAbs : Nat) : Int)) :=
  ev_of (pe_callBfun cr_lcm hg hm pa_any (he := he) (hpl := hpl)) fun σ H Q S k => ea_any ((AQ.to (P := fun ds c => ds = [.int i, .int j] ∧ c = ρ.c) (aq_cons ha (aq_cons hb aq_nil he2) he) ⟨rfl, rfl⟩)) S fun vs H1 ds c S1 e1 r ⟨h1, hc⟩ => by
    subst h1
    obtain ⟨v, v', rfl, hv, hv'⟩ := pr2 r
    cases hv
    cases hv'
    exact ⟨i, j, rfl, hi, hj, (k.from (c := c) e1).here (d := .int _) S1 ⟨rfl, hc⟩ rfl⟩
/-! ### numbers -/
theorem eq_mod {i j : Int} (ha : EQ Z ρ a (.int i)) (hb : EQ Z ρ b (.int j)) (h : 0 < j) : EQ Z ρ (.BinOp a .Mod b pos) (.int (i % j)) := ev_mod (ha.to (EQ.to hb ⟨h, rfl, rfl⟩))
theorem eq_fdivF {i j : Int} (ha : EQ Z ρ a (.int i)) (hb : EQ Z ρ b (.int j)) (h : CFd i j) : EQ Z ρ (.BinOp a .FloorDiv b pos) (.int (i.fdiv j)) := ev_fdivF (ha.to (EQ.to hb ⟨h, rfl, rfl⟩))
theorem tq_eqI {i j : Int} (ha : EQ Z ρ a (.int i)) (hb : EQ Z ρ b (.int j)) : TQ Z ρ (.Compare a [.Eq] [b] pos) (decide (i = j)) := et_eq (ha.to (EQ.to hb ⟨_, rfl, rfl, rfl⟩))
theorem tq_neI {i j : Int} (ha : EQ Z ρ a (.int i)) (hb : EQ Z ρ b (.int j)) : TQ Z ρ (.Compare a [.NotEq] [b] pos) (!decide (i = j)) := et_ne (ha.to (EQ.to hb ⟨_, rfl, rfl, rfl⟩))
end Q
end

section
set_option Elab.async false
set_option linter.all false
set_option maxRecDepth 100000
set_option maxHeartbeats 3900000
set_option exponentiation.threshold 20000
/-! K5j: fractions that are told. -/
namespace Q
open PySem L2
variable {P : Program} {w : World} {T : Tab} {mg : Str → Option Value} {base : Heap} {f fA fI CZ CB : Addr} {fd : FuncData}
def F_told : Fw := fun ds c P R => ∃ q : Rat, ds = [.rat q] ∧ P (.fr q) c
theorem ok_law_told (U : Fun T.K "_law_told" "_law_told" s_law_told f fd) (RC : RCls T.K mg T.C) (DT : Dp P w T mg base T.C "top" 1 F_top) (DB : Dp P w T mg base T.C "bottom" 1 F_bottom) : FnGk P w T.K mg base (L2.CX P w) 3 f fd ["_law_amount"] (SpW T F_told) := by
  refine Fun.doesG U sc_law_told (fun ds c P R h => ?_) (fun Z c ds cdv A outer s H E B R rt hZ ok hr h => ?_)
  · obtain ⟨q, rfl, _⟩ := h
    rfl
  · obtain ⟨q, rfl, h⟩ := h
    subst hZ
    exact ss_one (st_ret (EQ.to (d := .fr q) (eq_tup (aq_cons (eq_dp DT RC.I.cl ok hr (by decide) (eq_var 0 rfl) ⟨q, rfl, rfl, rfl⟩) (aq_cons (eq_dp DB RC.I.cl ok hr (by decide) (eq_var 0 rfl) ⟨q, rfl, rfl, rfl⟩) aq_nil))) ⟨rfl, h⟩))
def F_row : Fw := fun ds c P R => ∃ l : List Rat, ds = [.lst (l.map .rat)] ∧ l.length ≤ 100000 ∧ P (.lst (l.map .fr)) c
theorem ok_law_row (U : Fun T.K "_law_row" "_law_row" s_law_row f fd) (RC : RCls T.K mg T.C) (DT : Dp P w T mg base T.C "top" 1 F_top) (DB : Dp P w T mg base T.C "bottom" 1 F_bottom) : FnGk P w T.K mg base (L2.CX P w) 3 f fd ["_law_numbers"] (SpW T F_row) := by
  refine Fun.doesG U sc_law_row (fun ds c P R h => ?_) (fun Z c ds cdv A outer s H E B R rt hZ ok hr h => ?_)
  · obtain ⟨q, rfl, _⟩ := h
    rfl
  · obtain ⟨l, rfl, hl, h⟩ := h
    subst hZ
    have e : (l.map D.rat).map (fun d => match d with | .rat q => D.fr q | _ => .non) = l.map D.fr := by rw [List.map_map]; rfl
    refine ss_one (st_ret (EQ.to (eq_lcM 1 (g := fun d => match d with | .rat q => D.fr q | _ => .non) ok (blkOk_by (N := ["_law_numbers", "_law_x"]) (sc := defScope s_law_row) (by decide +kernel)) rfl (eq_var 0 rfl) (by rw [List.length_map]; exact hl) (fun y hy => ?_)) ⟨rfl, by rw [e]; exact h⟩))
    obtain ⟨q, _, rfl⟩ := List.mem_map.mp hy
    refine ⟨rfl, fun B2 s1 H1 C cl fp ok2 => ?_⟩
    exact eq_tup (aq_cons (eq_dp DT RC.I.cl ok2 hr (by decide) (eq_var 1 rfl) ⟨q, rfl, rfl, rfl⟩) (aq_cons (eq_dp DB RC.I.cl ok2 hr (by decide) (eq_var 1 rfl) ⟨q, rfl, rfl, rfl⟩) aq_nil))
/-- a number as it is handed over -/
def hdN (q : Rat) : D := if q.den = 1 ∧ q.num % 2 = 0 then .int q.num else .rat q
theorem hdN_num (q : Rat) : numD (hdN q) = some q := by
  unfold hdN
  split
  · rename_i h
    show some ((q.num : Int) : Rat) = some q
    congr 1
    exact Rat.ext (by simp) (by simp [h.1])
  · rfl
theorem hdN_plain (q : Rat) : plain (hdN q) = true := by
  unfold hdN
  split <;> rfl
def F_ratioL : Fw := fun ds c P R => ∃ q : Rat, ds = [.fr q] ∧ Sz 8500 q ∧ P (hdN q) c
theorem ok_law_ratio (U : Fun T.K "_law_ratio" "_law_ratio" s_law_ratio f fd) (RC : RCls T.K mg T.C) (MK : Dk P w T mg base T.C 1 fI (F_mk CZ)) : FnGk P w T.K mg base (L2.CX P w) 3 f fd ["_law_x"] (SpW T F_ratioL) := by
  refine Fun.doesG U sc_law_ratio (fun ds c P R h => ?_) (fun Z c ds cdv A outer s H E B R rt hZ ok hr h => ?_)
  · obtain ⟨q, rfl, _⟩ := h
    rfl
  · obtain ⟨q, rfl, hs, h⟩ := h
    subst hZ
    refine ss_one (st_ret (EQ.to (eq_if (tq_bool (wq_and (tq_eqI (eq_ix rfl (eq_var 0 rfl) eq_int ix1) eq_int) fun _ => wq_and1 (tq_eqI (eq_mod (eq_ix rfl (eq_var 0 rfl) eq_int ix0) eq_int (by decide)) eq_int))) (fun z => ?_) (fun z => ?_)) ⟨hdN_plain q, h⟩))
    · have := (Bool.and_eq_true_iff.mp z)
      have e : hdN q = .int q.num := if_pos ⟨by have := of_decide_eq_true this.1; omega, of_decide_eq_true this.2⟩
      rw [e]
      exact eq_ix rfl (eq_var 0 rfl) eq_int ix0
    · have e : hdN q = .rat q := if_neg fun y => by
        rw [decide_eq_true (show (q.den : Int) = 1 by omega), decide_eq_true y.2] at z
        cases z
      rw [e]
      exact eq_mk MK RC.m ok hr (by decide) (aq_cons (eq_ix rfl (eq_var 0 rfl) eq_int ix0) (aq_cons (eq_ix rfl (eq_var 0 rfl) eq_int ix1) aq_nil)) ⟨q.num, (q.den : Int), rfl, fun z => (den_ne q z).elim, fun _ => ⟨hs.num, hs.d, by rw [fr_self], rfl⟩⟩
abbrev lineD (l : List Rat) : D := .lst (l.map .fr)
abbrev handD (l : List Rat) : D := .lst (l.map hdN)
/-- the sum of products -/
def dot : List Rat → List Rat → Rat
  | x :: l, y :: m => x * y + dot l m
  | _, _ => 0
def dotA (x y : List Rat) : Nat → Rat
  | 0 => 0
  | k + 1 => dotA x y k + (x[k]?.getD 0) * (y[k]?.getD 0)
def F_sum : Fw := fun ds c P R => ∃ (d : D) (x y : List Rat) (j k : Nat), ds = [d, lineD y] ∧ (d = lineD x ∨ d = .tup (x.map .fr)) ∧ x.length = y.length ∧ x.length ≤ 100 ∧ (∀ q ∈ x, Sz j q) ∧ (∀ q ∈ y, Sz k q) ∧ (j + k + 1) * (x.length + 1) ≤ 4000 ∧ P (.fr (dotA x y x.length)) c
theorem fr_at {x : List Rat} {k : Nat} (h : k < x.length) : ixD (lineD x) ((k : Nat) : Int) = some (.fr (x[k]?.getD 0)) := by
  have e : x[k]? = some x[k] := List.getElem?_eq_getElem h
  rw [e]
  show atI (x.map D.fr) ((k : Nat) : Int) = _
  unfold atI
  have e2 : ixN (x.map D.fr).length ((k : Nat) : Int) = some k := by
    rw [List.length_map]; unfold ixN; simp; omega
  rw [e2]
  show (x.map D.fr)[k]? = _
  rw [List.getElem?_map, e]; rfl
theorem at_mem {x : List Rat} {k : Nat} (h : k < x.length) : x[k]?.getD 0 ∈ x := by
  rw [List.getElem?_eq_getElem h]
  exact List.getElem_mem h
theorem line_or {d : D} {x : List Rat} (h : d = lineD x ∨ d = .tup (x.map .fr)) : isOwn d = false ∧ lenD d = some x.length ∧ ∀ k, k < x.length → ixD d ((k : Nat) : Int) = some (.fr (x[k]?.getD 0)) := by
  rcases h with e | e <;> subst e
  · exact ⟨rfl, by show some (x.map D.fr).length = _; rw [List.length_map], fun k hk => fr_at hk⟩
  · exact ⟨rfl, by show some (x.map D.fr).length = _; rw [List.length_map], fun k hk => fr_at hk⟩
theorem ok_law_sum {fP fT : Addr} (U : Fun T.K "_law_sum" "_law_sum" s_law_sum f fd) (DP : Df P w T mg base "_law_plus" 2 fP (F_fr2 (· + ·))) (DM : Df P w T mg base "_law_times" 2 fT (F_fr2 (· * ·))) (ml : mg "len" = none) (mr : mg "range" = none) :
    FnGk P w T.K mg base (L2.CX P w) 3 f fd ["_law_row_here", "_law_numbers"] (SpW T F_sum) := by
  refine Fun.doesG U sc_law_sum (fun ds c P R h => ?_) (fun Z c ds cdv A outer s H E B R rt hZ ok hr h => ?_)
  · obtain ⟨d, x, y, j, k, rfl, _⟩ := h
    rfl
  · obtain ⟨d, x, y, j, k, rfl, hd, hl, h100, hx, hy, hs, h⟩ := h
    obtain ⟨nown, ln, at_⟩ := line_or hd
    subst hZ
    have len : ∀ {ρ : Rho}, ρ.s[0]? = some (some (lineD x)) → ρ.c = c → True := fun _ _ => trivial
    refine ss_cons (st_setq (i := 2) (d := .fr 0) ok (eq_tup (aq_cons eq_int (aq_cons eq_int aq_nil))) ?_)
    dsimp only [Rho.wc, Rho.set]
    refine ss_cons (st_range (i := 3) ok rfl mr (ea_cons (ev_len rfl rfl ml (ea_cons (ev_var 0 rfl (ea_nil ⟨_, _, rfl, ln, ea_nil ⟨_, rfl, ?_, ?_, ?_⟩⟩) nown)))))
    · omega
    · omega
    rw [Int.toNat_natCast]
    dsimp only [Rho.wc, Rho.set]
    refine spins_fin (n0 := x.length) (fun t ρ => ∃ o, t ≤ x.length ∧ ρ = ⟨B, [some d, some (lineD y), some (.fr (dotA x y t)), o], c⟩ ∧ Sz ((j + k + 1) * t + 1) (dotA x y t)) ?_ ?_ x.length 0 _ (Nat.zero_add _) ⟨_, Nat.zero_le _, rfl, Sz.zero⟩
    · rintro t ρ K ⟨o, _, rfl, sz⟩ ht hK
      dsimp only [Rho.wc, Rho.set]
      have ty : t < y.length := by omega
      have sx := hx _ (at_mem ht)
      have sy := hy _ (at_mem ty)
      have b1 : (j + k + 1) * (t + 1) ≤ (j + k + 1) * (x.length + 1) := Nat.mul_le_mul_left _ (by omega)
      have b2 : (j + k + 1) * (0 + 1) ≤ (j + k + 1) * (x.length + 1) := Nat.mul_le_mul_left _ (by omega)
      rw [Nat.mul_add, Nat.mul_one] at b1
      rw [Nat.mul_one] at b2
      refine ss_one (st_setq (i := 2) (d := .fr (dotA x y (t + 1))) ok (eq_df DP ok hr (by decide) (aq_cons (eq_var 2 rfl) (aq_cons (eq_df DM ok hr (by decide) (aq_cons (eq_ix rfl (eq_var 0 rfl nown) (eq_var 3 rfl) (at_ t ht)) (aq_cons (eq_ix rfl (eq_var 1 rfl) (eq_var 3 rfl) (fr_at ty)) aq_nil)) ⟨_, _, rfl, sx.mono (by omega), sy.mono (by omega), rfl, rfl⟩) aq_nil)) ⟨_, _, rfl, sz.mono (by omega), (sx.mul sy).mono (by omega), rfl, rfl⟩) ?_)
      refine hK _ ⟨_, ht, rfl, ?_⟩
      exact (sz.add (sx.mul sy)).mono (by rw [Nat.mul_add, Nat.mul_one]; omega)
    · rintro ρ ⟨o, hle, rfl, sz⟩
      exact ss_one (st_ret (ev_var 2 rfl ⟨rfl, h⟩))
end Q
end

section
set_option Elab.async false
set_option linter.all false
set_option maxRecDepth 100000
set_option maxHeartbeats 3900000
set_option exponentiation.threshold 20000
/-! K5k: lines that are handed over; sums of rows. -/
namespace Q
open PySem L2
variable {P : Program} {w : World} {T : Tab} {mg : Str → Option Value} {base : Heap} {f fA fI CZ CB : Addr} {fd : FuncData}
def lcSc : Expr → Scope
  | .ListComp _ _ sc _ => sc
  | _ => default
def retE : Stmt → Expr
  | .Return (some e) _ => e
  | _ => .Constant .none 0 ⟨0, 0, 0, 0⟩
abbrev ret0 (st : Stmt) (i : Nat) : Expr := retE ((defBody st).getD i (.Pass ⟨0, 0, 0, 0⟩))
def frOf : D → Rat
  | .tup [.int n, .int d] => fr n d
  | .rat q => q
  | .int i => i
  | _ => 0
theorem frOf_fr (q : Rat) : frOf (.fr q) = q := fr_self q
theorem frOf_hd (q : Rat) : frOf (hdN q) = q := by
  have h := hdN_num q
  unfold hdN at h ⊢
  split at h
  · rename_i z
    rw [if_pos z]
    exact Option.some.inj h
  · rename_i z
    rw [if_neg z]
    rfl
def F_handed : Fw := fun ds c P R => ∃ l : List (List Rat), ds = [.lst (l.map lineD)] ∧ l.length ≤ 100000 ∧ (∀ r ∈ l, r.length ≤ 100000 ∧ ∀ q ∈ r, Sz 8500 q) ∧ P (.lst (l.map handD)) c
theorem map_fr {g : D → D} {g' : Rat → D} {l : List Rat} (h : ∀ q, g (.fr q) = g' q) : (l.map D.fr).map g = l.map g' := by
  rw [List.map_map]
  exact List.map_congr_left fun q _ => h q
theorem ok_law_handed {fR : Addr} (U : Fun T.K "_law_handed" "_law_handed" s_law_handed f fd) (DR : Df P w T mg base "_law_ratio" 3 fR F_ratioL) : FnGk P w T.K mg base (L2.CX P w) 4 f fd ["_law_lines"] (SpW T F_handed) := by
  refine Fun.doesG U sc_law_handed (fun ds c P R h => ?_) (fun Z c ds cdv A outer s H E B R rt hZ ok hr h => ?_)
  · obtain ⟨l, rfl, _⟩ := h
    rfl
  · obtain ⟨l, rfl, hl, hq, h⟩ := h
    subst hZ
    let g : D → D := fun d => match d with | .lst l => .lst (l.map fun d => hdN (frOf d)) | _ => .non
    have e : (l.map lineD).map g = l.map handD := by
      rw [List.map_map]
      refine List.map_congr_left fun r _ => ?_
      show D.lst ((r.map D.fr).map fun d => hdN (frOf d)) = .lst (r.map hdN)
      rw [map_fr fun q => by rw [frOf_fr]]
    refine ss_one (st_ret (EQ.to (eq_lcM 2 (g := g) ok (blkOk_by (N := ["_law_lines", "_law_x", "_law_row_here"]) (sc := defScope s_law_handed) (by decide +kernel)) rfl (eq_var 0 rfl) (by rw [List.length_map]; exact hl) (fun y hy => ?_)) ⟨rfl, by rw [e]; exact h⟩))
    obtain ⟨r, hr1, rfl⟩ := List.mem_map.mp hy
    refine ⟨rfl, fun B2 s1 H1 C cl fp ok2 => ?_⟩
    obtain ⟨hlen, hsz⟩ := hq r hr1
    refine eq_lcM 1 (g := fun d => hdN (frOf d)) ok2 (blkOk_by (N := ["_law_lines", "_law_x", "_law_row_here"]) (sc := relS (lcSc (ret0 s_law_handed 0)) (defScope s_law_handed)) (by decide +kernel)) rfl (eq_var 2 rfl) (by rw [List.length_map]; exact hlen) (fun y hy => ?_)
    obtain ⟨q, hq1, rfl⟩ := List.mem_map.mp hy
    refine ⟨hdN_plain _, fun B3 s2 H2 C2 cl2 fp2 ok3 => ?_⟩
    exact eq_df DR ok3 hr (by decide) (aq_cons (eq_var 1 rfl) aq_nil) ⟨q, rfl, hsz q hq1, by rw [frOf_fr], rfl⟩
end Q
end

section
set_option Elab.async false
set_option linter.all false
set_option maxRecDepth 100000
set_option maxHeartbeats 3900000
set_option exponentiation.threshold 20000
/-! K5l: weighed, applied. -/
namespace Q
open PySem L2
variable {P : Program} {w : World} {T : Tab} {mg : Str → Option Value} {base : Heap} {f fA fI CZ CB : Addr} {fd : FuncData}
theorem dotA_cons {a b : Rat} {x y : List Rat} : ∀ k, dotA (a :: x) (b :: y) (k + 1) = a * b + dotA x y k
  | 0 => by show (0 : Rat) + a * b = a * b + 0; grind
  | k + 1 => by
    show dotA (a :: x) (b :: y) (k + 1) + (x[k]?.getD 0) * (y[k]?.getD 0) = a * b + (dotA x y k + (x[k]?.getD 0) * (y[k]?.getD 0))
    rw [dotA_cons k]; grind
theorem dotA_dot : ∀ {x y : List Rat}, x.length = y.length → dotA x y x.length = dot x y
  | [], [], _ => rfl
  | a :: x, b :: y, h => by
    show dotA (a :: x) (b :: y) (x.length + 1) = a * b + dot x y
    rw [dotA_cons, dotA_dot (by simpa using h)]
/-- the products, one by one -/
def prodD (y : D × D) : D := .rat (frOf y.1 * frOf y.2)
theorem sum_prod : ∀ {x y : List Rat}, sumD (((x.map hdN).zip (y.map hdN)).map prodD) = dot x y
  | [], _ => by simp [sumD, dot]
  | _ :: _, [] => by simp [sumD, dot]
  | a :: x, b :: y => by
    show (some (frOf (hdN a) * frOf (hdN b))).getD 0 + sumD (((x.map hdN).zip (y.map hdN)).map prodD) = a * b + dot x y
    rw [sum_prod, frOf_hd, frOf_hd]; rfl
theorem zip_mem {α β : Type} {g : α → D} {g' : β → D} {x : List α} {y : List β} {p : D × D} (h : p ∈ (x.map g).zip (y.map g')) : ∃ a ∈ x, ∃ b ∈ y, p = (g a, g' b) := by
  have h1 := List.of_mem_zip (show (p.1, p.2) ∈ (x.map g).zip (y.map g') from h)
  obtain ⟨a, ha, e1⟩ := List.mem_map.mp h1.1
  obtain ⟨b, hb, e2⟩ := List.mem_map.mp h1.2
  exact ⟨a, ha, b, hb, by rw [e1, e2]⟩
theorem eq_mulR {Z : Zt} {ρ : Rho} {a b : Expr} {pos : Pos} {j k : Nat} {p q : Rat} {d : D} (DM : Dm Z.X.prog Z.X.w Z.T Z.X.mg Z.X.base Z.T.C "__mul__" k f (F_num2 (· * ·))) (OM : ROp Z.T.K Z.T.C .Mult) (RC : RCls Z.T.K Z.X.mg Z.T.C) (ok : Zok Z) (hr : RoomG j Z.X.A) (hj : k ≤ j)
    (ha : EQ Z ρ a (.rat p)) (hb : EQ Z ρ b d) (hq : numD d = some q) (sp : Sz 4000 p) (sq : Sz 4000 q) : EQ Z ρ (.BinOp a .Mult b pos) (.rat (p * q)) :=
  ev_ro DM OM RC ok hr hj (ha.to (hb.to ⟨p, q, rfl, hq, p, d, q, rfl, hq, sp, sq, rfl, rfl⟩))
def F_weighed : Fw := fun ds c P R => ∃ (x y : List Rat) (j k : Nat), ds = [handD x, handD y] ∧ x.length = y.length ∧ x.length ≤ 100 ∧ (∀ q ∈ x, Sz j q) ∧ (∀ q ∈ y, Sz k q) ∧ (j + k + 1) * (x.length + 1) ≤ 4000 ∧ P (.rat (dot x y)) c
theorem ok_weighed {fM fA fT : Addr} (U : Fun T.K "weighed" "weighed" s_weighed f fd) (RC : RCls T.K mg T.C) (DA : Df P w T mg base "as_ratio" 3 fA F_asN) (DM : Dm P w T mg base T.C "__mul__" 4 fM (F_num2 (· * ·))) (OM : ROp T.K T.C .Mult) (DT : Df P w T mg base "total" 5 fT F_total) (mz : mg "zip" = none) :
    FnGk P w T.K mg base (L2.CX P w) 6 f fd ["numbers", "weights"] (SpW T F_weighed) := by
  refine Fun.doesG U sc_weighed (fun ds c P R h => ?_) (fun Z c ds cdv A outer s H E B R rt hZ ok hr h => ?_)
  · obtain ⟨x, y, j, k, rfl, _⟩ := h
    rfl
  · obtain ⟨x, y, j, k, rfl, hl, h100, hx, hy, hs, h⟩ := h
    subst hZ
    have b2 : (j + k + 1) * (0 + 1) ≤ (j + k + 1) * (x.length + 1) := Nat.mul_le_mul_left _ (by omega)
    rw [Nat.mul_one] at b2
    refine ss_one (st_ret (EQ.to (eq_df DT ok hr (by decide) (aq_cons (eq_lcZ 2 3 (g := prodD) ok (blkOk_by (N := ["numbers", "weights", "number", "weight"]) (sc := defScope s_weighed) (by decide +kernel)) mz rfl rfl (aq_cons (eq_var 0 rfl) (aq_cons (eq_var 1 rfl) aq_nil)) (by rw [List.length_map]; omega) (fun p hp => ?_)) aq_nil) (d := .rat (dot x y)) ⟨_, j + k, rfl, fun d hd => ?_, ?_, by rw [sum_prod], rfl⟩) ⟨rfl, h⟩))
    · obtain ⟨a, ha, b, hb, rfl⟩ := zip_mem hp
      refine ⟨rfl, fun B2 s1 H1 C cl fp ok2 => ?_⟩
      show EQ _ _ _ (.rat (frOf (hdN a) * frOf (hdN b)))
      rw [frOf_hd, frOf_hd]
      have sa := hx a ha
      have sb := hy b hb
      exact eq_mulR DM OM RC ok2 hr (by decide) (eq_df DA ok2 hr (by decide) (aq_cons (eq_var 2 rfl (n := num_own (hdN_num a))) aq_nil) ⟨_, a, rfl, hdN_num a, sa.mono (by omega), rfl, rfl⟩) (eq_var 3 rfl (n := num_own (hdN_num b))) (hdN_num b) (sa.mono (by omega)) (sb.mono (by omega))
    · obtain ⟨p, hp, rfl⟩ := List.mem_map.mp hd
      obtain ⟨a, ha, b, hb, rfl⟩ := zip_mem hp
      refine ⟨_, rfl, ?_⟩
      show Sz (j + k) (frOf (hdN a) * frOf (hdN b))
      rw [frOf_hd, frOf_hd]
      exact (hx a ha).mul (hy b hb)
    · rw [List.length_map, List.length_zip, List.length_map, List.length_map, hl, Nat.min_self, ← hl]
      exact hs
def F_applied : Fw := fun ds c P R => ∃ (l : List (List Rat)) (y : List Rat) (j k : Nat), ds = [.lst (l.map handD), handD y] ∧ l.length ≤ 100 ∧ (∀ r ∈ l, r.length = y.length ∧ ∀ q ∈ r, Sz j q) ∧ y.length ≤ 100 ∧ (∀ q ∈ y, Sz k q) ∧ (j + k + 1) * (y.length + 1) ≤ 4000 ∧ P (.lst ((l.map fun r => dot r y).map .rat)) c
theorem ok_applied {fW : Addr} (U : Fun T.K "applied" "applied" s_applied f fd) (DW : Df P w T mg base "weighed" 6 fW F_weighed) : FnGk P w T.K mg base (L2.CX P w) 7 f fd ["rows", "numbers"] (SpW T F_applied) := by
  refine Fun.doesG U sc_applied (fun ds c P R h => ?_) (fun Z c ds cdv A outer s H E B R rt hZ ok hr h => ?_)
  · obtain ⟨x, y, j, k, rfl, _⟩ := h
    rfl
  · obtain ⟨l, y, j, k, rfl, hl, hx, y100, hy, hs, h⟩ := h
    subst hZ
    let g : D → D := fun d => match d with | .lst l => .rat (dot (l.map frOf) y) | _ => .non
    have gh : ∀ r : List Rat, g (handD r) = .rat (dot r y) := fun r => by
      show D.rat (dot ((r.map hdN).map frOf) y) = _
      rw [List.map_map, show r.map (frOf ∘ hdN) = r by
        refine Eq.trans ?_ (List.map_id r)
        exact List.map_congr_left fun q _ => frOf_hd q]
    have e : (l.map handD).map g = (l.map fun r => dot r y).map .rat := by
      rw [List.map_map, List.map_map]; exact List.map_congr_left fun r _ => gh r
    refine ss_one (st_ret (EQ.to (eq_lcM 2 (g := g) ok (blkOk_by (N := ["rows", "numbers", "row"]) (sc := defScope s_applied) (by decide +kernel)) rfl (eq_var 0 rfl) (by rw [List.length_map]; omega) (fun d hd => ?_)) ⟨rfl, by rw [e]; exact h⟩))
    obtain ⟨r, hr1, rfl⟩ := List.mem_map.mp hd
    obtain ⟨hlen, hsz⟩ := hx r hr1
    rw [gh]
    refine ⟨rfl, fun B2 s1 H1 C cl fp ok2 => ?_⟩
    exact eq_df DW ok2 hr (by decide) (aq_cons (eq_var 2 rfl) (aq_cons (eq_var 1 rfl) aq_nil)) ⟨r, y, j, k, rfl, hlen, by omega, hsz, hy, by rw [hlen]; exact hs, rfl, rfl⟩
end Q
end

section
set_option Elab.async false
set_option linter.all false
set_option maxRecDepth 100000
set_option maxHeartbeats 3900000
set_option exponentiation.threshold 20000
/-! K5m: a row of integers. -/
namespace Q
open PySem L2
variable {P : Program} {w : World} {T : Tab} {mg : Str → Option Value} {base : Heap} {f fA fI CZ CB : Addr} {fd : FuncData}
theorem turns_ix {body : Rho → D → (Rho → Prop) → Prop} {N : Rho → Prop} {l : List D} (I : Nat → Rho → Prop) (hs : ∀ k ρ K (hk : k < l.length), I k ρ → (∀ ρ', I (k + 1) ρ' → K ρ') → body ρ l[k] K) (hN : ∀ ρ, I l.length ρ → N ρ) : ∀ n k ρ, k + n = l.length → I k ρ → turns body N (l.drop k) ρ
  | 0, k, ρ, e, h => by
    rw [List.drop_of_length_le (by omega)]
    exact hN ρ (by rw [← (show k = l.length by omega)]; exact h)
  | n + 1, k, ρ, e, h => by
    rw [List.drop_eq_getElem_cons (show k < l.length by omega)]
    exact hs k ρ _ (by omega) h fun ρ' h' => turns_ix I hs hN n (k + 1) ρ' (by omega) h'
/-- what a number is -/
def nv (d : D) : Rat := (numD d).getD 0
theorem nv_of {d : D} {q : Rat} (h : numD d = some q) : nv d = q := by unfold nv; rw [h]; rfl
theorem nv_hd (q : Rat) : nv (hdN q) = q := nv_of (hdN_num q)
def lcmL : List D → Nat
  | [] => 1
  | d :: l => Nat.lcm (lcmL l) (nv d).den
def lcmR (l : List D) : Nat := lcmL l.reverse
theorem lcmR_snoc (l : List D) (d : D) : lcmR (l ++ [d]) = Nat.lcm (lcmR l) (nv d).den := by unfold lcmR; rw [List.reverse_append]; rfl
theorem lcmL_pos : ∀ l : List D, 0 < lcmL l
  | [] => Nat.one_pos
  | d :: l => Nat.lcm_pos (lcmL_pos l) (nv d).den_pos
theorem lcmL_dvd : ∀ {l : List D} {d : D}, d ∈ l → (nv d).den ∣ lcmL l
  | e :: l, d, h => by
    rcases (List.mem_cons.mp h) with rfl | h
    · exact Nat.dvd_lcm_right _ _
    · exact Nat.dvd_trans (lcmL_dvd h) (Nat.dvd_lcm_left _ _)
theorem lcmR_pos (l : List D) : 0 < lcmR l := lcmL_pos _
theorem lcmR_dvd {l : List D} {d : D} (h : d ∈ l) : (nv d).den ∣ lcmR l := lcmL_dvd (List.mem_reverse.mpr h)
theorem lcmL_lt {s : Nat} : ∀ {l : List D}, (∀ d ∈ l, (nv d).den < 2 ^ s) → lcmL l < 2 ^ (s * l.length + 1)
  | [], _ => by rw [List.length_nil, Nat.mul_zero]; exact (by decide : (1 : Nat) < 2 ^ 1)
  | d :: l, h => by
    have h1 := lcmL_lt (l := l) fun d hd => h d (List.mem_cons_of_mem _ hd)
    have h2 := h d List.mem_cons_self
    have h3 : Nat.lcm (lcmL l) (nv d).den ≤ lcmL l * (nv d).den := Nat.div_le_self _ _
    refine Nat.lt_of_le_of_lt h3 (Nat.lt_of_lt_of_le (Nat.mul_lt_mul'' h1 h2) ?_)
    rw [← Nat.pow_add]
    exact Nat.pow_le_pow_right (by decide) (by rw [List.length_cons, Nat.mul_add]; omega)
theorem lcmR_lt {s : Nat} {l : List D} (h : ∀ d ∈ l, (nv d).den < 2 ^ s) : lcmR l < 2 ^ (s * l.length + 1) := by
  have := lcmL_lt (l := l.reverse) fun d hd => h d (List.mem_reverse.mp hd)
  rw [List.length_reverse] at this
  exact this
theorem rat_den (q : Rat) : q * ((q.den : Nat) : Rat) = (q.num : Rat) := by
  have h := Rat.mkRat_self q
  rw [Rat.mkRat_eq_div] at h
  have d0 : ((q.den : Nat) : Rat) ≠ 0 := fun z => q.den_nz (by exact_mod_cast z)
  conv => lhs; rw [← h]
  grind
/-- q, F times -/
def whI (F : Nat) (q : Rat) : Int := q.num * ((F / q.den : Nat) : Int)
theorem whI_rat {F : Nat} {q : Rat} (h : q.den ∣ F) : ((whI F q : Int) : Rat) = (F : Rat) * q := by
  obtain ⟨k, rfl⟩ := h
  unfold whI
  rw [Nat.mul_div_cancel_left _ q.den_pos, Rat.intCast_mul]
  have e2 : q * ((q.den : Nat) : Rat) = (q.num : Rat) := rat_den q
  rw [← e2]
  push_cast
  grind
def F_whole_row : Fw := fun ds c P R => ∃ (l : List D) (s : Nat), ds = [.lst l] ∧ l.length ≤ 100 ∧ (∀ d ∈ l, ∃ q, numD d = some q ∧ Sz s q) ∧ s * l.length + s + 1 ≤ 8000 ∧ P (.lst (l.map fun d => .int (whI (lcmR l) (nv d)))) c
theorem ok_whole_row {fA : Addr} (U : Fun T.K "_whole_row" "_whole_row" s_whole_row f fd) (RC : RCls T.K mg T.C) (DA : Df P w T mg base "as_ratio" 3 fA F_asN) (DT : Dp P w T mg base T.C "top" 1 F_top) (DB : Dp P w T mg base T.C "bottom" 1 F_bottom) (ml : mg "lcm" = some (.builtin "math.lcm")) :
    FnGk P w T.K mg base (L2.CX P w) 4 f fd ["row"] (SpW T F_whole_row) := by
  refine Fun.doesG U sc_whole_row (fun ds c P R h => ?_) (fun Z c ds cdv A outer s H E B R rt hZ ok hr h => ?_)
  · obtain ⟨x, s, rfl, _⟩ := h
    rfl
  · obtain ⟨l, z, rfl, hl, hx, hs, h⟩ := h
    subst hZ
    have den : ∀ d ∈ l, (nv d).den < 2 ^ z ∧ numD d = some (nv d) ∧ Sz z (nv d) := fun d hd => by
      obtain ⟨q, hq, sz⟩ := hx d hd
      rw [nv_of hq]
      exact ⟨sz.den, hq, sz⟩
    refine ss_cons (st_setLc (m := 1) 4 ok (blkOk_by (N := ["row", "ratios", "factor", "ratio", "number"]) (sc := defScope s_whole_row) (by decide +kernel)) (h := ev_var 0 rfl ⟨_, rfl, lcs_map (g := fun d => .rat (nv d)) l [] _ (by rw [List.length_nil]; omega) (fun d hd => ⟨rfl, fun B2 s1 H1 C cl fp ok2 => ?_⟩) ?_⟩))
    · obtain ⟨_, hq, sz⟩ := den d hd
      exact eq_df DA ok2 hr (by decide) (aq_cons (eq_var 4 rfl (n := num_own hq)) aq_nil) ⟨_, _, rfl, hq, sz.mono (by omega), rfl, rfl⟩
    rw [List.nil_append]
    dsimp only [Rho.wc, Rho.set]
    refine ss_cons (st_setq (i := 2) (d := .int 1) ok eq_int ?_)
    dsimp only [Rho.wc, Rho.set]
    refine ss_cons (st_for (i := 3) ok (ev_var 1 rfl ⟨l.map fun d => .rat (nv d), rfl, fun v => ?_⟩))
    dsimp only [Rho.wc, Rho.set]
    refine turns_ix (l := l.map fun d => .rat (nv d)) (fun k ρ => ∃ o o4, k ≤ l.length ∧ ρ = ⟨B, [some (.lst l), some (.lst (l.map fun d => .rat (nv d))), some (.int (lcmR (l.take k) : Nat)), o, o4], c⟩) ?_ ?_ _ 0 _ (Nat.zero_add _) ⟨_, _, Nat.zero_le _, rfl⟩
    · rintro k ρ K hk ⟨o, o4, _, rfl⟩ hK
      have okg := fun d => ok.gh (d := d) (v := v)
      have hk' : k < l.length := by simpa using hk
      have ek : (l.map fun d => D.rat (nv d))[k] = .rat (nv l[k]) := by simp
      obtain ⟨dk, _, _⟩ := den l[k] (List.getElem_mem hk')
      have lk : lcmR (l.take k) < 2 ^ 9000 := by
        refine Nat.lt_of_lt_of_le (lcmR_lt (s := z) fun d hd => (den d (List.mem_of_mem_take hd)).1) (Nat.pow_le_pow_right (by decide) ?_)
        have : z * (l.take k).length ≤ z * l.length := Nat.mul_le_mul_left _ (by rw [List.length_take]; omega)
        omega
      have dk' : (nv l[k]).den < 2 ^ 9000 := Nat.lt_of_lt_of_le dk (Nat.pow_le_pow_right (by decide) (by omega))
      rw [ek]
      dsimp only [Rho.wc, Rho.set]
      refine ss_one (st_setq (i := 2) (okg _) (eq_lcm ml (eq_var 2 rfl) (eq_dp DB RC.I.cl (okg _) hr (by decide) (eq_var 3 rfl) ⟨_, rfl, rfl, rfl⟩) lk dk') ?_)
      refine hK _ ⟨some (.rat (nv l[k])), o4, hk', ?_⟩
      rw [List.take_succ_eq_append_getElem hk', lcmR_snoc]
      rfl
    · rintro ρ ⟨o, o4, _, rfl⟩
      rw [List.length_map, List.take_length]
      have lk : lcmR l < 2 ^ 8001 := Nat.lt_of_lt_of_le (lcmR_lt (s := z) fun d hd => (den d hd).1) (Nat.pow_le_pow_right (by decide) (by omega))
      have e : (l.map fun d => D.rat (nv d)).map (fun d => match d with | .rat q => D.int (whI (lcmR l) q) | _ => .non) = l.map fun d => .int (whI (lcmR l) (nv d)) := by
        rw [List.map_map]; rfl
      refine ss_one (st_ret (EQ.to (eq_lcM 3 (g := fun d => match d with | .rat q => D.int (whI (lcmR l) q) | _ => .non) ok (blkOk_by (N := ["row", "ratios", "factor", "ratio", "number"]) (sc := defScope s_whole_row) (by decide +kernel)) rfl (eq_var 1 rfl) (by rw [List.length_map]; omega) (fun y hy => ?_)) ⟨rfl, by rw [e]; exact h⟩))
      obtain ⟨d, hd, rfl⟩ := List.mem_map.mp hy
      refine ⟨rfl, fun B2 s1 H1 C cl fp ok2 => ?_⟩
      obtain ⟨dk, _, sk⟩ := den d hd
      have dp := (nv d).den_pos
      have ef : ((lcmR l : Nat) : Int).fdiv ((nv d).den : Int) = ((lcmR l / (nv d).den : Nat) : Int) := by
        rw [Int.fdiv_eq_ediv_of_nonneg _ (by omega)]; rfl
      have es : whI (lcmR l) (nv d) = (nv d).num * ((lcmR l : Nat) : Int).fdiv ((nv d).den : Int) := by rw [ef]; rfl
      show EQ _ _ _ (.int (whI (lcmR l) (nv d)))
      rw [es]
      have lq : (((lcmR l : Nat) : Int).fdiv ((nv d).den : Int)).natAbs < 2 ^ 20000 := by
        rw [ef, Int.natAbs_natCast]
        exact Nat.lt_of_le_of_lt (Nat.div_le_self _ _) (Nat.lt_of_lt_of_le lk (Nat.pow_le_pow_right (by decide) (by decide)))
      exact eq_mul (eq_dp DT RC.I.cl ok2 hr (by decide) (eq_var 3 rfl) ⟨_, rfl, rfl, rfl⟩) (eq_fdivF (eq_var 2 rfl) (eq_dp DB RC.I.cl ok2 hr (by decide) (eq_var 3 rfl) ⟨_, rfl, rfl, rfl⟩) (CFd.of (by omega) (Nat.lt_of_lt_of_le dk (Nat.pow_le_pow_right (by decide) (by omega))))) (mulW (Nat.lt_of_lt_of_le sk.num (Nat.pow_le_pow_right (by decide) (by omega))) lq)
end Q
end

section
set_option Elab.async false
set_option linter.all false
set_option maxRecDepth 100000
set_option maxHeartbeats 3900000
set_option exponentiation.threshold 20000
/-! K5n: rows put together. -/
namespace Q
open PySem L2
variable {P : Program} {w : World} {T : Tab} {mg : Str → Option Value} {base : Heap} {f fA fI CZ CB : Addr} {fd : FuncData}
abbrev rowI (l : List Int) : D := .lst (l.map .int)
def itemI (l : List Int) (k : Nat) : Int := l[k]?.getD 0
theorem int_at {x : List Int} {k : Nat} (h : k < x.length) : ixD (rowI x) ((k : Nat) : Int) = some (.int (itemI x k)) := by
  unfold itemI
  have e : x[k]? = some x[k] := List.getElem?_eq_getElem h
  rw [e]
  show atI (x.map D.int) ((k : Nat) : Int) = _
  unfold atI
  have e2 : ixN (x.map D.int).length ((k : Nat) : Int) = some k := by
    rw [List.length_map]; unfold ixN; simp; omega
  rw [e2]
  show (x.map D.int)[k]? = _
  rw [List.getElem?_map, e]; rfl
def iOf : D → Int
  | .int i => i
  | _ => 0
def combI (r ch : List Int) (k : Nat) (p : Int) : List Int := (r.zip ch).map fun y => (itemI ch k * y.1 - itemI r k * y.2).fdiv p
theorem itemI_mem {x : List Int} {k : Nat} (h : k < x.length) : itemI x k ∈ x := by
  unfold itemI
  rw [List.getElem?_eq_getElem h]
  exact List.getElem_mem h
def F_combined : Fw := fun ds c P R => ∃ (r ch : List Int) (k : Nat) (p : Int), ds = [rowI r, rowI ch, .int (k : Nat), .int p] ∧ r.length = ch.length ∧ k < r.length ∧ r.length ≤ 100 ∧ p ≠ 0 ∧ p.natAbs < 2 ^ 9000 ∧ (∀ i ∈ r, i.natAbs < 2 ^ 9000) ∧ (∀ i ∈ ch, i.natAbs < 2 ^ 9000) ∧ P (rowI (combI r ch k p)) c
theorem ok_combined (U : Fun T.K "_combined" "_combined" s_combined f fd) (mz : mg "zip" = none) : FnGk P w T.K mg base (L2.CX P w) 1 f fd ["row", "chosen", "place", "before"] (SpW T F_combined) := by
  refine Fun.doesG U sc_combined (fun ds c P R h => ?_) (fun Z c ds cdv A outer s H E B R rt hZ ok hr h => ?_)
  · obtain ⟨r, ch, k, p, rfl, _⟩ := h
    rfl
  · obtain ⟨r, ch, k, p, rfl, hl, hk, h100, p0, hp, hr', hc, h⟩ := h
    subst hZ
    have big : ∀ {i : Int}, i.natAbs < 2 ^ 9000 → i.natAbs < 2 ^ 20000 := fun h => Nat.lt_of_lt_of_le h (Nat.pow_le_pow_right (by decide) (by decide))
    refine ss_cons (st_setq (i := 4) ok (eq_ix rfl (eq_var 1 rfl) (eq_var 2 rfl) (int_at (by omega))) ?_)
    dsimp only [Rho.wc, Rho.set]
    refine ss_cons (st_setq (i := 5) ok (eq_ix rfl (eq_var 0 rfl) (eq_var 2 rfl) (int_at hk)) ?_)
    dsimp only [Rho.wc, Rho.set]
    let g : D × D → D := fun y => .int ((itemI ch k * iOf y.1 - itemI r k * iOf y.2).fdiv p)
    have e : ((r.map D.int).zip (ch.map D.int)).map g = (combI r ch k p).map D.int := by
      unfold combI
      rw [List.zip_map, List.map_map, List.map_map]; rfl
    refine ss_one (st_ret (EQ.to (eq_lcZ 6 7 (g := g) ok (blkOk_by (N := ["row", "chosen", "place", "before", "lead", "times", "item", "taken"]) (sc := defScope s_combined) (by decide +kernel)) mz rfl rfl (aq_cons (eq_var 0 rfl) (aq_cons (eq_var 1 rfl) aq_nil)) (by rw [List.length_map]; omega) (fun y hy => ?_)) ⟨rfl, by rw [e]; exact h⟩))
    obtain ⟨i, hi, j, hj, rfl⟩ := zip_mem hy
    refine ⟨rfl, fun B2 s1 H1 C cl fp ok2 => ?_⟩
    have ck := hc _ (itemI_mem (x := ch) (k := k) (by omega))
    have rk := hr' _ (itemI_mem hk)
    exact eq_fdivF (eq_sub (eq_mul (eq_var 4 rfl) (eq_var 6 rfl) (mulW (big ck) (big (hr' i hi)))) (eq_mul (eq_var 5 rfl) (eq_var 7 rfl) (mulW (big rk) (big (hc j hj))))) (eq_var 3 rfl) (CFd.of p0 (Nat.lt_of_lt_of_le hp (by decide)))
/-! ### the determinant by the first row -/
end Q
end

section
set_option Elab.async false
set_option linter.all false
set_option maxRecDepth 100000
set_option maxHeartbeats 3900000
/-! M1: four columns, what their determinant does (no program here). -/
namespace Q
namespace Det
open Lean.Grind
structure V4 (R : Type) where
  a : R
  b : R
  c : R
  d : R
section
variable {R : Type} [CommRing R]
def t3 (a b c d e f g h i : R) : R := a * (e * i - f * h) - b * (d * i - f * g) + c * (d * h - e * g)
def D4 (x y z w : V4 R) : R := x.a * t3 y.b y.c y.d z.b z.c z.d w.b w.c w.d - x.b * t3 y.a y.c y.d z.a z.c z.d w.a w.c w.d + x.c * t3 y.a y.b y.d z.a z.b z.d w.a w.b w.d - x.d * t3 y.a y.b y.c z.a z.b z.c w.a w.b w.c
def V4.at (v : V4 R) : Nat → R
  | 0 => v.a
  | 1 => v.b
  | 2 => v.c
  | _ => v.d
def mkV (f : Nat → R) : V4 R := ⟨f 0, f 1, f 2, f 3⟩
/-- two slots, the others fast -/
theorem plu (u v g h a b : V4 R) : D4 u v g h * D4 u v a b = D4 u v g b * D4 u v a h - D4 u v b h * D4 u v g a := by
  unfold D4 t3; grind
end
end Det
end Q
end

section
set_option Elab.async false
set_option linter.all false
set_option maxRecDepth 100000
set_option maxHeartbeats 3900000
/-! M2: slots. -/
namespace Q
namespace Det
open Lean.Grind
section
variable {R : Type} [CommRing R] {g : Nat → V4 R}
def Dt (g : Nat → V4 R) : R := D4 (g 0) (g 1) (g 2) (g 3)
def sl (g : Nat → V4 R) (i : Nat) (v : V4 R) : Nat → V4 R := fun s => if s = i then v else g s
theorem sl_sl {i k : Nat} {x y : V4 R} (h : i ≠ k) : sl (sl g k y) i x = sl (sl g i x) k y := by
  funext s; unfold sl
  by_cases e : s = i
  · subst e; rw [if_pos rfl, if_neg h, if_pos rfl]
  · rw [if_neg e, if_neg e]
theorem sl_self {i : Nat} : sl g i (g i) = g := by
  funext s; unfold sl
  by_cases e : s = i
  · rw [if_pos e, e]
  · rw [if_neg e]
theorem sl_twice {i : Nat} {x y : V4 R} : sl (sl g i x) i y = sl g i y := by
  funext s; unfold sl
  by_cases e : s = i
  · rw [if_pos e, if_pos e]
  · rw [if_neg e, if_neg e, if_neg e]
theorem sl_at {i : Nat} {x : V4 R} : sl g i x i = x := if_pos rfl
theorem sl_ne {i s : Nat} {x : V4 R} (h : s ≠ i) : sl g i x s = g s := if_neg h
theorem lt4 {i : Nat} (h : i < 4) : i = 0 ∨ i = 1 ∨ i = 2 ∨ i = 3 := by omega
theorem two (i k : Nat) (hi : i < 4) (hk : k < 4) (h : i ≠ k) : ∃ (u v : V4 R) (s : R), s * s = 1 ∧ ∀ x y, Dt (sl (sl g i x) k y) = s * D4 u v x y := by
  rcases lt4 hi with rfl | rfl | rfl | rfl <;> rcases lt4 hk with rfl | rfl | rfl | rfl <;> first | exact (h rfl).elim | skip
  · exact ⟨g 2, g 3, 1, by grind, fun x y => by simp only [Dt, sl]; unfold D4 t3; grind⟩
  · exact ⟨g 1, g 3, -1, by grind, fun x y => by simp only [Dt, sl]; unfold D4 t3; grind⟩
  · exact ⟨g 1, g 2, 1, by grind, fun x y => by simp only [Dt, sl]; unfold D4 t3; grind⟩
  · exact ⟨g 2, g 3, -1, by grind, fun x y => by simp only [Dt, sl]; unfold D4 t3; grind⟩
  · exact ⟨g 0, g 3, 1, by grind, fun x y => by simp only [Dt, sl]; unfold D4 t3; grind⟩
  · exact ⟨g 0, g 2, -1, by grind, fun x y => by simp only [Dt, sl]; unfold D4 t3; grind⟩
  · exact ⟨g 1, g 3, 1, by grind, fun x y => by simp only [Dt, sl]; unfold D4 t3; grind⟩
  · exact ⟨g 0, g 3, -1, by grind, fun x y => by simp only [Dt, sl]; unfold D4 t3; grind⟩
  · exact ⟨g 0, g 1, 1, by grind, fun x y => by simp only [Dt, sl]; unfold D4 t3; grind⟩
  · exact ⟨g 1, g 2, -1, by grind, fun x y => by simp only [Dt, sl]; unfold D4 t3; grind⟩
  · exact ⟨g 0, g 2, 1, by grind, fun x y => by simp only [Dt, sl]; unfold D4 t3; grind⟩
  · exact ⟨g 0, g 1, -1, by grind, fun x y => by simp only [Dt, sl]; unfold D4 t3; grind⟩
/-- what a step divides -/
theorem exch {i k : Nat} (hi : i < 4) (hk : k < 4) (h : i ≠ k) (a b : V4 R) : Dt g * Dt (sl (sl g k b) i a) = Dt (sl g k b) * Dt (sl g i a) - Dt (sl g i b) * Dt (sl g k a) := by
  obtain ⟨u, v, s, hs, e⟩ := two (g := g) i k hi hk h
  have e0 : Dt g = s * D4 u v (g i) (g k) := by rw [← e, sl_self]; rw [sl_self]
  have e1 : Dt (sl (sl g k b) i a) = s * D4 u v a b := by rw [sl_sl h, e]
  have e2 : ∀ z, Dt (sl g k z) = s * D4 u v (g i) z := fun z => by rw [← e, sl_self]
  have e3 : ∀ z, Dt (sl g i z) = s * D4 u v z (g k) := fun z => by
    rw [← e]
    exact congrArg Dt (by conv => lhs; rw [← sl_self (g := sl g i z) (i := k)]; rw [sl_ne (Ne.symm h)])
  have p := plu u v (g i) (g k) a b
  rw [e0, e1, e2, e2, e3, e3]
  generalize D4 u v (g i) (g k) = x1 at p ⊢
  generalize D4 u v a b = x2 at p ⊢
  generalize D4 u v (g i) b = x3 at p ⊢
  generalize D4 u v a (g k) = x4 at p ⊢
  generalize D4 u v b (g k) = x5 at p ⊢
  generalize D4 u v (g i) a = x6 at p ⊢
  grind
def s4 (f : Nat → R) : R := f 0 + f 1 + f 2 + f 3
theorem cramer1 (v : V4 R) (r : Nat) : s4 (fun s => Dt (sl g s v) * (g s).at r) = Dt g * v.at r := by
  rcases r with _ | _ | _ | r <;> (simp only [s4, Dt, sl, V4.at]; unfold D4 t3; grind)
def comb (x : Nat → R) (g : Nat → V4 R) : V4 R := mkV fun r => s4 fun s => x s * (g s).at r
theorem cramer2 (x : Nat → R) {i : Nat} (hi : i < 4) : Dt (sl g i (comb x g)) = x i * Dt g := by
  rcases lt4 hi with rfl | rfl | rfl | rfl <;> (simp only [s4, Dt, sl, V4.at, comb, mkV]; unfold D4 t3; grind)
def tau (k o r : Nat) : Nat := if r = k then o else if r = o then k else r
def pv (k o : Nat) (v : V4 R) : V4 R := mkV fun r => v.at (tau k o r)
theorem swap_r {k o : Nat} (hk : k < 4) (ho : o < 4) (h : k ≠ o) : Dt (fun s => pv k o (g s)) = -Dt g := by
  rcases lt4 hk with rfl | rfl | rfl | rfl <;> rcases lt4 ho with rfl | rfl | rfl | rfl <;> first | exact (h rfl).elim | (simp [Dt, pv, mkV, V4.at, tau]; unfold D4 t3; grind)
theorem swap_s {k o : Nat} (hk : k < 4) (ho : o < 4) (h : k ≠ o) : Dt (fun s => g (tau k o s)) = -Dt g := by
  rcases lt4 hk with rfl | rfl | rfl | rfl <;> rcases lt4 ho with rfl | rfl | rfl | rfl <;> first | exact (h rfl).elim | (simp [Dt, tau]; unfold D4 t3; grind)
theorem zero_in {i : Nat} (hi : i < 4) : Dt (sl g i ⟨0, 0, 0, 0⟩) = 0 := by
  rcases lt4 hi with rfl | rfl | rfl | rfl <;> (simp only [Dt, sl]; unfold D4 t3; grind)
end
end Det
end Q
end

section
set_option Elab.async false
set_option linter.all false
set_option maxRecDepth 100000
set_option maxHeartbeats 3900000
/-! M3: the table of integers, step by step. -/
namespace Q
namespace Det
open Lean.Grind
abbrev Tb := Nat → Nat → Int
def col (A : Tb) (j : Nat) : V4 Int := mkV fun i => A i j
def un (s : Nat) : V4 Int := mkV fun i => if i = s then 1 else 0
def gk (A : Tb) (k s : Nat) : V4 Int := if s < k then col A s else un s
theorem mkV_at {R : Type} [CommRing R] {f : Nat → R} {r : Nat} (h : r < 4) : (mkV f).at r = f r := by
  rcases lt4 h with rfl | rfl | rfl | rfl <;> rfl
theorem v_ext {R : Type} [CommRing R] {x y : V4 R} (h : ∀ r, r < 4 → x.at r = y.at r) : x = y := by
  obtain ⟨a, b, c, d⟩ := x
  obtain ⟨a', b', c', d'⟩ := y
  have h0 : a = a' := h 0 (by decide)
  have h1 : b = b' := h 1 (by decide)
  have h2 : c = c' := h 2 (by decide)
  have h3 : d = d' := h 3 (by decide)
  rw [h0, h1, h2, h3]
structure Ivt (A : Tb) (n m k : Nat) (p : Int) (T : Tb) : Prop where
  n4 : n ≤ 4
  kn : k ≤ n
  nm : n ≤ m
  pad : ∀ i j, n ≤ i → A i j = 0
  e : p = Dt (gk A k)
  nz : p ≠ 0
  t : ∀ i j, i < n → j < m → T i j = Dt (sl (gk A k) i (col A j))
theorem gk_next {A : Tb} {k : Nat} : sl (gk A k) k (col A k) = gk A (k + 1) := by
  funext s; unfold sl gk
  by_cases e : s = k
  · subst e; rw [if_pos rfl, if_pos (Nat.lt_succ_self _)]
  · rw [if_neg e]
    by_cases h : s < k
    · rw [if_pos h]; rw [if_pos (by omega)]
    · rw [if_neg h]; rw [if_neg (by omega)]
theorem unit_in {i : Nat} (hi : i < 4) (v : V4 Int) : Dt (sl un i v) = v.at i := by
  rcases lt4 hi with rfl | rfl | rfl | rfl <;> (simp [Dt, sl, un, mkV, V4.at]; unfold D4 t3; grind)
theorem unit_D : Dt un = 1 := by decide
theorem gk0 {A : Tb} : gk A 0 = un := by
  funext s; unfold gk; rw [if_neg (Nat.not_lt_zero _)]
theorem Ivt.start {A : Tb} {n m : Nat} (n4 : n ≤ 4) (nm : n ≤ m) (pad : ∀ i j, n ≤ i → A i j = 0) : Ivt A n m 0 1 A :=
  ⟨n4, Nat.zero_le _, nm, pad, by rw [gk0, unit_D], by decide, fun i j hi _ => by rw [gk0, unit_in (show i < 4 by omega)]; exact (mkV_at (f := fun r => A r j) (show i < 4 by omega)).symm⟩
variable {A T : Tb} {n m k : Nat} {p : Int}
def cleared (T : Tb) (k : Nat) (p : Int) : Tb := fun i j => if i = k then T k j else (T k k * T i j - T i k * T k j).fdiv p
theorem Ivt.step (I : Ivt A n m k p T) (h : k < n) (q : T k k ≠ 0) : Ivt A n m (k + 1) (T k k) (cleared T k p) := by
  have n4 := I.n4; have nm := I.nm
  have eq : ∀ j, j < m → T k j = Dt (sl (gk A k) k (col A j)) := fun j hj => I.t k j h hj
  have ek : T k k = Dt (gk A (k + 1)) := by rw [eq k (by omega), gk_next]
  refine ⟨n4, h, nm, I.pad, ek, q, fun i j hi hj => ?_⟩
  unfold cleared
  by_cases e : i = k
  · subst e
    rw [if_pos rfl, eq j hj, ← gk_next, sl_twice]
  · rw [if_neg e]
    have x := exch (g := gk A k) (i := i) (k := k) (by omega) (by omega) e (col A j) (col A k)
    rw [← I.e, gk_next, ← ek, ← I.t i j hi hj, ← I.t i k hi (by omega), ← eq j hj] at x
    rw [← x]
    exact Int.mul_fdiv_cancel_left _ I.nz
/-- all the rows a column names, at an end -/
theorem Ivt.sum (I : Ivt A n m k p T) {v : V4 Int} (hv : ∀ i, n ≤ i → i < 4 → v.at i = 0) {r : Nat} (hr : r < 4) : s4 (fun s => if s < n then Dt (sl (gk A k) s v) * (gk A k s).at r else 0) = p * v.at r := by
  rw [I.e, ← cramer1 v r]
  have key : ∀ s, s < 4 → (if s < n then Dt (sl (gk A k) s v) * (gk A k s).at r else 0) = Dt (sl (gk A k) s v) * (gk A k s).at r := fun s hs => by
    by_cases h : s < n
    · rw [if_pos h]
    · rw [if_neg h]
      have c := cramer1 (g := gk A k) v s
      rw [hv s (by omega) hs, Int.mul_zero] at c
      have kn := I.kn
      have atz : ∀ t, t < 4 → t ≠ s → (gk A k t).at s = 0 := fun t ht hne => by
        unfold gk
        split
        · show (col A t).at s = 0
          unfold col; rw [mkV_at hs]; exact I.pad s t (by omega)
        · unfold un; rw [mkV_at hs]; exact if_neg (fun z => hne z.symm)
      have one : (gk A k s).at s = 1 := by
        unfold gk; rw [if_neg (by omega)]; unfold un; rw [mkV_at hs]; exact if_pos rfl
      have d0 : Dt (sl (gk A k) s v) = 0 := by
        simp only [s4] at c
        rcases lt4 hs with rfl | rfl | rfl | rfl
        · rw [one, atz 1 (by decide) (by decide), atz 2 (by decide) (by decide), atz 3 (by decide) (by decide)] at c; omega
        · rw [one, atz 0 (by decide) (by decide), atz 2 (by decide) (by decide), atz 3 (by decide) (by decide)] at c; omega
        · rw [one, atz 0 (by decide) (by decide), atz 1 (by decide) (by decide), atz 3 (by decide) (by decide)] at c; omega
        · rw [one, atz 0 (by decide) (by decide), atz 1 (by decide) (by decide), atz 2 (by decide) (by decide)] at c; omega
      rw [d0, Int.zero_mul]
  simp only [s4]
  rw [key 0 (by decide), key 1 (by decide), key 2 (by decide), key 3 (by decide)]
theorem colpad (pad : ∀ i j, n ≤ i → A i j = 0) (j : Nat) : ∀ i, n ≤ i → i < 4 → (col A j).at i = 0 := fun i hi h4 => by
  unfold col; rw [mkV_at h4]; exact pad i j hi
/-- at the end: the solution -/
theorem Ivt.done (I : Ivt A n m n p T) {c : Nat} (hc : c < m) {i : Nat} (hi : i < n) : s4 (fun s => if s < n then T s c * A i s else 0) = p * A i c := by
  have n4 := I.n4
  have h := I.sum (v := col A c) (colpad I.pad c) (r := i) (by omega)
  have e : (col A c).at i = A i c := mkV_at (by omega)
  rw [e] at h
  rw [← h]
  have key : ∀ s, (if s < n then T s c * A i s else 0) = if s < n then Dt (sl (gk A n) s (col A c)) * (gk A n s).at i else 0 := fun s => by
    by_cases hs : s < n
    · rw [if_pos hs, if_pos hs, I.t s c hs hc]
      have : (gk A n s).at i = A i s := by unfold gk; rw [if_pos hs]; exact mkV_at (by omega)
      rw [this]
    · rw [if_neg hs, if_neg hs]
  simp only [s4]
  rw [key, key, key, key]
/-- no lead: the determinant is 0 -/
theorem Ivt.fail (I : Ivt A n m k p T) (h : k < n) (z : ∀ i, k ≤ i → i < n → T i k = 0) : Dt (gk A n) = 0 := by
  have n4 := I.n4; have nm := I.nm
  let x : Nat → Int := fun s => if s < k then -(T s k) else if s = k then p else 0
  have nul : comb x (gk A n) = ⟨0, 0, 0, 0⟩ := by
    refine v_ext fun r hr => ?_
    unfold comb; rw [mkV_at hr]
    have sm := I.sum (v := col A k) (colpad I.pad k) hr
    have key : ∀ s, s < 4 → x s * (gk A n s).at r = (if s = k then p * (col A k).at r else 0) - (if s < n then Dt (sl (gk A k) s (col A k)) * (gk A k s).at r else 0) := fun s hs => by
      by_cases h1 : s < k
      · have e1 : x s = -(T s k) := if_pos h1
        rw [e1, if_neg (by omega), if_pos (by omega), ← I.t s k (by omega) (by omega)]
        have : (gk A n s) = gk A k s := by unfold gk; rw [if_pos (by omega), if_pos h1]
        rw [this]; grind
      · by_cases h2 : s = k
        · subst h2
          have e1 : x s = p := (if_neg h1).trans (if_pos rfl)
          rw [e1, if_pos rfl, if_pos h, ← I.t s s h (by omega), z s (Nat.le_refl _) h]
          have : (gk A n s) = col A s := by unfold gk; rw [if_pos h]
          rw [this]; grind
        · have e1 : x s = 0 := (if_neg h1).trans (if_neg h2)
          rw [e1, if_neg h2]
          by_cases h3 : s < n
          · rw [if_pos h3, ← I.t s k h3 (by omega), z s (by omega) h3]; grind
          · rw [if_neg h3]; grind
    have one : s4 (fun s => if s = k then p * (col A k).at r else 0) = p * (col A k).at r := by
      simp only [s4]
      rcases lt4 (show k < 4 by omega) with rfl | rfl | rfl | rfl <;> simp
    have goal0 : (⟨0, 0, 0, 0⟩ : V4 Int).at r = 0 := by rcases lt4 hr with rfl | rfl | rfl | rfl <;> rfl
    rw [goal0]
    simp only [s4] at one sm ⊢
    rw [key 0 (by decide), key 1 (by decide), key 2 (by decide), key 3 (by decide)]
    generalize p * (col A k).at r = w at *
    grind
  have c := cramer2 (g := gk A n) x (i := k) (by omega)
  rw [nul, zero_in (by omega)] at c
  have e1 : x k = p := (if_neg (Nat.lt_irrefl _)).trans (if_pos rfl)
  rw [e1] at c
  exact (Int.mul_eq_zero.mp c.symm).resolve_left I.nz
def swapped (T : Tb) (k o : Nat) : Tb := fun i j => T (tau k o i) j
theorem tau_lt {o i : Nat} (hk : k < n) (ho : o < n) (hi : i < n) : tau k o i < n := by
  unfold tau; split <;> (try split) <;> omega
theorem tau_ge {o i : Nat} (hk : k < n) (ho : o < n) (hi : n ≤ i) : tau k o i = i := by
  unfold tau; rw [if_neg (by omega), if_neg (by omega)]
theorem tau_tau {o i : Nat} : tau k o (tau k o i) = i := by
  unfold tau; grind
theorem tau_k {o : Nat} : tau k o k = o := if_pos rfl
theorem swap_id : swapped T k k = T := by
  funext i j; unfold swapped tau
  by_cases e : i = k
  · rw [if_pos e, e]
  · rw [if_neg e, if_neg e]
theorem pv_col {o j : Nat} (hk : k < 4) (ho : o < 4) : pv k o (col A j) = col (swapped A k o) j := by
  refine v_ext fun r hr => ?_
  unfold pv col
  rw [mkV_at hr, mkV_at (tau_lt hk ho hr), mkV_at hr]; rfl
theorem pv_un {o s : Nat} (hk : k < 4) (ho : o < 4) : pv k o (un s) = un (tau k o s) := by
  refine v_ext fun r hr => ?_
  unfold pv un
  rw [mkV_at hr, mkV_at (tau_lt hk ho hr), mkV_at hr]
  by_cases e : tau k o r = s
  · rw [if_pos e, ← e, tau_tau, if_pos rfl]
  · rw [if_neg e, if_neg (fun z => e (by rw [z, tau_tau]))]
theorem tau_small {o s : Nat} (hk : k ≤ o) (h : s < k) : tau k o s = s := by
  unfold tau; rw [if_neg (by omega), if_neg (by omega)]
theorem tau_big {o s : Nat} (hk : k ≤ o) (h : k ≤ s) : k ≤ tau k o s := by
  unfold tau; split <;> (try split) <;> omega
theorem Ivt.swap (I : Ivt A n m k p T) {o : Nat} (h : k < n) (ho : k ≤ o) (on : o < n) : Ivt (swapped A k o) n m k p (swapped T k o) := by
  have n4 := I.n4
  by_cases e : k = o
  · subst e; rw [swap_id, swap_id]; exact I
  have k4 : k < 4 := by omega
  have o4 : o < 4 := by omega
  have both : ∀ g : Nat → V4 Int, Dt (fun s => pv k o (g (tau k o s))) = Dt g := fun g => by
    have a := swap_r (g := fun s => g (tau k o s)) k4 o4 e
    have b := swap_s (g := g) k4 o4 e
    rw [a, b]; omega
  have gs : gk (swapped A k o) k = fun s => pv k o (gk A k (tau k o s)) := by
    funext s
    unfold gk
    by_cases hs : s < k
    · rw [if_pos hs, tau_small ho hs, if_pos hs, pv_col k4 o4]
    · rw [if_neg hs, if_neg (Nat.not_lt.mpr (tau_big ho (by omega))), pv_un k4 o4, tau_tau]
  refine ⟨n4, I.kn, I.nm, fun i j hi => ?_, ?_, I.nz, fun i j hi hj => ?_⟩
  · unfold swapped; rw [tau_ge h on hi]; exact I.pad i j hi
  · rw [gs, both]; exact I.e
  · unfold swapped
    rw [I.t _ j (tau_lt h on hi) hj, ← both]
    refine congrArg Dt (funext fun s => ?_)
    show pv k o (sl (gk A k) (tau k o i) (col A j) (tau k o s)) = _
    unfold sl
    by_cases hs : s = i
    · rw [if_pos (by rw [hs]), if_pos hs, pv_col k4 o4]; rfl
    · rw [if_neg (fun z => hs (by rw [← tau_tau (k := k) (o := o) (i := s), z, tau_tau])), if_neg hs]
      exact (congrFun gs s).symm
end Det
end Q
end

section
set_option Elab.async false
set_option linter.all false
set_option maxRecDepth 100000
set_option maxHeartbeats 3900000
/-! M4: all steps; what they keep of the table at the beginning. -/
namespace Q
namespace Det
open Lean.Grind
variable {A A0 T : Tb} {n m k : Nat} {p : Int}
/-- the numbers x solve the rows for column c, all multiplied by p -/
def Sol (A : Tb) (n c : Nat) (p : Int) (x : Nat → Int) : Prop := ∀ i, i < n → s4 (fun s => if s < n then x s * A i s else 0) = p * A i c
theorem sol_swap {o c : Nat} {x : Nat → Int} (hk : k < n) (ho : o < n) : Sol (swapped A k o) n c p x ↔ Sol A n c p x := by
  refine ⟨fun h i hi => ?_, fun h i hi => h _ (tau_lt hk ho hi)⟩
  have := h _ (tau_lt (k := k) (o := o) hk ho hi)
  unfold swapped at this
  rw [tau_tau] at this
  exact this
theorem nz_swap {o : Nat} (n4 : n ≤ 4) (hk : k < n) (ho : o < n) : Dt (gk (swapped A k o) n) = 0 ↔ Dt (gk A n) = 0 := by
  by_cases e : k = o
  · subst e; rw [swap_id]
  have g : gk (swapped A k o) n = fun s => pv k o (gk A n s) := by
    funext s
    unfold gk
    by_cases hs : s < n
    · rw [if_pos hs, if_pos hs, pv_col (by omega) (by omega)]
    · rw [if_neg hs, if_neg hs, pv_un (by omega) (by omega), tau_ge hk ho (by omega)]
  rw [g, swap_r (by omega) (by omega) e]
  omega
/-- the product of the bounds of four rows -/
def pr4 (M : Nat → Nat) : Nat := M 0 * (M 1 * (M 2 * M 3))
theorem pr4_swap {k o : Nat} (hk : k < 4) (ho : o < 4) (M : Nat → Nat) : pr4 (fun i => M (tau k o i)) = pr4 M := by
  have a : k = 0 ∨ k = 1 ∨ k = 2 ∨ k = 3 := by omega
  have b : o = 0 ∨ o = 1 ∨ o = 2 ∨ o = 3 := by omega
  rcases a with rfl | rfl | rfl | rfl <;> rcases b with rfl | rfl | rfl | rfl <;> simp only [pr4, tau] <;> simp <;> grind
structure Run (A0 : Tb) (n m k : Nat) (p : Int) (T : Tb) : Prop where
  x : ∃ A, Ivt A n m k p T ∧ (Dt (gk A n) = 0 ↔ Dt (gk A0 n) = 0) ∧ (∀ c q x, Sol A n c q x ↔ Sol A0 n c q x) ∧ ∀ M : Nat → Nat, (∀ i, 1 ≤ M i) → (∀ i j, j < m → (A0 i j).natAbs ≤ M i) → ∃ M' : Nat → Nat, (∀ i, 1 ≤ M' i) ∧ pr4 M' = pr4 M ∧ ∀ i j, j < m → (A i j).natAbs ≤ M' i
theorem Run.start (n4 : n ≤ 4) (nm : n ≤ m) (pad : ∀ i j, n ≤ i → A0 i j = 0) : Run A0 n m 0 1 A0 := ⟨A0, .start n4 nm pad, .rfl, fun _ _ _ => .rfl, fun M h1 h => ⟨M, h1, rfl, h⟩⟩
theorem Run.next (I : Run A0 n m k p T) {o : Nat} (h : k < n) (ho : k ≤ o) (on : o < n) (q : T o k ≠ 0) : Run A0 n m (k + 1) (T o k) (cleared (swapped T k o) k p) := by
  obtain ⟨A, I, a, b, c⟩ := I.x
  have e : swapped T k o k k = T o k := by unfold swapped; rw [tau_k]
  have J := (I.swap h ho on).step h (by rw [e]; exact q)
  rw [e] at J
  exact ⟨_, J, (nz_swap I.n4 h on).trans a, fun x y z => (sol_swap h on).trans (b x y z), fun M h1 hM => by
    obtain ⟨M', g1, g2, g3⟩ := c M h1 hM
    have := I.n4
    exact ⟨fun i => M' (tau k o i), fun i => g1 _, (pr4_swap (by omega) (by omega) M').trans g2, fun i j hj => g3 _ j hj⟩⟩
theorem Run.fail (I : Run A0 n m k p T) (h : k < n) (z : ∀ i, k ≤ i → i < n → T i k = 0) : Dt (gk A0 n) = 0 := by
  obtain ⟨A, I, a, _⟩ := I.x
  exact a.mp (I.fail h z)
theorem Run.done (I : Run A0 n m n p T) : p ≠ 0 ∧ Dt (gk A0 n) ≠ 0 ∧ ∀ c, c < m → Sol A0 n c p fun s => T s c := by
  obtain ⟨A, I, a, b, _⟩ := I.x
  exact ⟨I.nz, fun z => I.nz (I.e.trans (a.mpr z)), fun c hc => (b c p _).mp fun i hi => I.done hc hi⟩
/-! ### how great it gets -/
theorem mul3 {M x y z : Nat} (hx : x ≤ M) (hy : y ≤ M) (hz : z ≤ M) : x * (y * z) ≤ M * (M * M) := Nat.mul_le_mul hx (Nat.mul_le_mul hy hz)
theorem abs_mul_le {a b : Int} {x y : Nat} (ha : a.natAbs ≤ x) (hb : b.natAbs ≤ y) : (a * b).natAbs ≤ x * y := by
  rw [Int.natAbs_mul]; exact Nat.mul_le_mul ha hb
theorem t3_le {a b c d e f g h i : Int} {A B C : Nat} (ha : a.natAbs ≤ A) (hb : b.natAbs ≤ B) (hc : c.natAbs ≤ C) (hd : d.natAbs ≤ A) (he : e.natAbs ≤ B) (hf : f.natAbs ≤ C) (hg : g.natAbs ≤ A) (hh : h.natAbs ≤ B) (hi : i.natAbs ≤ C) :
    (t3 a b c d e f g h i).natAbs ≤ 6 * (A * (B * C)) := by
  unfold t3
  have key : ∀ {u v w x : Int} {X Y : Nat}, u.natAbs ≤ X → v.natAbs ≤ Y → w.natAbs ≤ Y → x.natAbs ≤ X → (u * v - w * x).natAbs ≤ 2 * (X * Y) := fun {u v w x X Y} hu hv hw hx => by
    have h1 := abs_mul_le hu hv
    have h2 := abs_mul_le hw hx
    rw [Nat.mul_comm Y X] at h2
    generalize X * Y = N at *
    omega
  have r1 := abs_mul_le ha (key he hi hf hh)
  have r2 := abs_mul_le hb (key hd hi hf hg)
  have r3 := abs_mul_le hc (key hd hh he hg)
  have e1 : A * (2 * (B * C)) = 2 * (A * (B * C)) := by rw [Nat.mul_left_comm]
  have e2 : B * (2 * (A * C)) = 2 * (A * (B * C)) := by rw [Nat.mul_left_comm B, Nat.mul_left_comm B A C]
  have e3 : C * (2 * (A * B)) = 2 * (A * (B * C)) := by rw [Nat.mul_left_comm C, Nat.mul_left_comm C A B, Nat.mul_comm C B]
  rw [e1] at r1; rw [e2] at r2; rw [e3] at r3
  generalize A * (B * C) = N at *
  omega
theorem D4_le {x y z w : V4 Int} {M : Nat → Nat} (hx : ∀ r, r < 4 → (x.at r).natAbs ≤ M r) (hy : ∀ r, r < 4 → (y.at r).natAbs ≤ M r) (hz : ∀ r, r < 4 → (z.at r).natAbs ≤ M r) (hw : ∀ r, r < 4 → (w.at r).natAbs ≤ M r) :
    (D4 x y z w).natAbs ≤ 24 * pr4 M := by
  unfold D4 pr4
  have y0 := hy 0 (by decide); have y1 := hy 1 (by decide); have y2 := hy 2 (by decide); have y3 := hy 3 (by decide)
  have z0 := hz 0 (by decide); have z1 := hz 1 (by decide); have z2 := hz 2 (by decide); have z3 := hz 3 (by decide)
  have w0 := hw 0 (by decide); have w1 := hw 1 (by decide); have w2 := hw 2 (by decide); have w3 := hw 3 (by decide)
  have r0 := abs_mul_le (hx 0 (by decide)) (t3_le y1 y2 y3 z1 z2 z3 w1 w2 w3)
  have r1 := abs_mul_le (hx 1 (by decide)) (t3_le y0 y2 y3 z0 z2 z3 w0 w2 w3)
  have r2 := abs_mul_le (hx 2 (by decide)) (t3_le y0 y1 y3 z0 z1 z3 w0 w1 w3)
  have r3 := abs_mul_le (hx 3 (by decide)) (t3_le y0 y1 y2 z0 z1 z2 w0 w1 w2)
  simp only [V4.at] at r0 r1 r2 r3
  generalize M 0 = a at *
  generalize M 1 = b at *
  generalize M 2 = c at *
  generalize M 3 = d at *
  have e0 : a * (6 * (b * (c * d))) = 6 * (a * (b * (c * d))) := by rw [Nat.mul_left_comm]
  have e1 : b * (6 * (a * (c * d))) = 6 * (a * (b * (c * d))) := by rw [Nat.mul_left_comm b, Nat.mul_left_comm b a]
  have e2 : c * (6 * (a * (b * d))) = 6 * (a * (b * (c * d))) := by rw [Nat.mul_left_comm c, Nat.mul_left_comm c a, Nat.mul_left_comm c b]
  have e3 : d * (6 * (a * (b * c))) = 6 * (a * (b * (c * d))) := by rw [Nat.mul_left_comm d, Nat.mul_left_comm d a, Nat.mul_left_comm d b, Nat.mul_comm d c]
  rw [e0] at r0; rw [e1] at r1; rw [e2] at r2; rw [e3] at r3
  generalize a * (b * (c * d)) = N at *
  omega
theorem Run.le (I : Run A0 n m k p T) {M : Nat → Nat} (m1 : ∀ i, 1 ≤ M i) (hM : ∀ i j, j < m → (A0 i j).natAbs ≤ M i) : p.natAbs ≤ 24 * pr4 M ∧ ∀ i j, i < n → j < m → (T i j).natAbs ≤ 24 * pr4 M := by
  obtain ⟨A, I, _, _, b⟩ := I.x
  obtain ⟨M', h1, e, h2⟩ := b M m1 hM
  rw [← e]
  have c : ∀ j, j < m → ∀ r, r < 4 → ((col A j).at r).natAbs ≤ M' r := fun j hj r hr => by
    unfold col; rw [mkV_at hr]; exact h2 r j hj
  have g : ∀ s, s < 4 → ∀ r, r < 4 → ((gk A k s).at r).natAbs ≤ M' r := fun s hs r hr => by
    unfold gk
    split
    · have := I.kn; have := I.nm; exact c s (by omega) r hr
    · unfold un; rw [mkV_at hr]; split
      · exact h1 r
      · exact Nat.zero_le _
  refine ⟨?_, fun i j hi hj => ?_⟩
  · rw [I.e]; exact D4_le (g 0 (by decide)) (g 1 (by decide)) (g 2 (by decide)) (g 3 (by decide))
  · rw [I.t i j hi hj]
    have l : ∀ s, s < 4 → ∀ r, r < 4 → ((sl (gk A k) i (col A j) s).at r).natAbs ≤ M' r := fun s hs r hr => by
      unfold sl; split
      · exact c j hj r hr
      · exact g s hs r hr
    exact D4_le (l 0 (by decide)) (l 1 (by decide)) (l 2 (by decide)) (l 3 (by decide))
end Det
end Q
end

section
set_option Elab.async false
set_option linter.all false
set_option maxRecDepth 100000
set_option maxHeartbeats 3900000
/-! M5: fractions; the determinant by the first row. -/
namespace Q
namespace Det
open Lean.Grind
variable {A A0 T : Tb} {n m k : Nat} {p : Int}
def castV (v : V4 Int) : V4 Rat := ⟨v.a, v.b, v.c, v.d⟩
theorem D4_cast (x y z w : V4 Int) : ((D4 x y z w : Int) : Rat) = D4 (castV x) (castV y) (castV z) (castV w) := by
  simp only [D4, t3, castV, Rat.intCast_add, Rat.intCast_sub, Rat.intCast_mul]
theorem Dt_cast (g : Nat → V4 Int) : ((Dt g : Int) : Rat) = Dt fun s => castV (g s) := D4_cast _ _ _ _
theorem castV_at (v : V4 Int) (r : Nat) : (castV v).at r = ((v.at r : Int) : Rat) := by
  rcases r with _ | _ | _ | r <;> rfl
/-- one solution at most -/
theorem only {y f : Nat → Rat} {L : Nat → Nat → Rat} (n4 : n ≤ 4) (pad : ∀ i j, n ≤ i → A0 i j = 0) (hA : ∀ i j, i < n → j < n → (A0 i j : Rat) = f i * L i j) (nz : Dt (gk A0 n) ≠ 0)
    (h : ∀ i, i < n → s4 (fun s => if s < n then y s * L i s else 0) = 0) {s : Nat} (hs : s < n) : y s = 0 := by
  let x : Nat → Rat := fun s => if s < n then y s else 0
  let g : Nat → V4 Rat := fun s => castV (gk A0 n s)
  have nul : comb x g = ⟨0, 0, 0, 0⟩ := by
    refine v_ext fun r hr => ?_
    unfold comb; rw [mkV_at hr]
    have goal0 : (⟨0, 0, 0, 0⟩ : V4 Rat).at r = 0 := by rcases lt4 hr with rfl | rfl | rfl | rfl <;> rfl
    rw [goal0]
    have key : ∀ s, s < 4 → x s * (g s).at r = if r < n then f r * (if s < n then y s * L r s else 0) else 0 := fun s hs => by
      by_cases h1 : s < n
      · have e1 : x s = y s := if_pos h1
        have e2 : (g s).at r = ((A0 r s : Int) : Rat) := by
          show (castV (gk A0 n s)).at r = _
          rw [castV_at]; unfold gk; rw [if_pos h1]; unfold col; rw [mkV_at hr]
        rw [e1, e2, if_pos h1]
        by_cases h2 : r < n
        · rw [if_pos h2, hA r s h2 h1]; grind
        · rw [if_neg h2, pad r s (by omega)]; grind
      · have e1 : x s = 0 := if_neg h1
        rw [e1, if_neg h1]
        split <;> grind
    simp only [s4]
    rw [key 0 (by decide), key 1 (by decide), key 2 (by decide), key 3 (by decide)]
    by_cases h2 : r < n
    · have := h r h2
      simp only [s4] at this
      rw [if_pos h2, if_pos h2, if_pos h2, if_pos h2]
      grind
    · rw [if_neg h2, if_neg h2, if_neg h2, if_neg h2]; grind
  have c := cramer2 (g := g) x (i := s) (by omega)
  rw [nul, zero_in (by omega), ← Dt_cast] at c
  have e1 : x s = y s := if_pos hs
  rw [e1] at c
  have d0 : ((Dt (gk A0 n) : Int) : Rat) ≠ 0 := fun z => nz (by exact_mod_cast z)
  exact (Rat.mul_eq_zero.mp c.symm).resolve_right d0
/-- solutions in fractions -/
theorem sol_rat {f : Nat → Rat} {L : Nat → Nat → Rat} {b : Nat → Rat} {x : Nat → Int} {c : Nat} (hA : ∀ i j, i < n → j < n → (A0 i j : Rat) = f i * L i j) (hb : ∀ i, i < n → (A0 i c : Rat) = f i * b i) (hf : ∀ i, i < n → f i ≠ 0) (p0 : p ≠ 0)
    (h : Sol A0 n c p x) {i : Nat} (hi : i < n) : s4 (fun s => if s < n then ((x s : Rat) / (p : Rat)) * L i s else 0) = b i := by
  have e := h i hi
  have e' : ((s4 (fun s => if s < n then x s * A0 i s else 0) : Int) : Rat) = ((p * A0 i c : Int) : Rat) := by rw [e]
  rw [Rat.intCast_mul, hb i hi] at e'
  have p1 : (p : Rat) ≠ 0 := fun z => p0 (by exact_mod_cast z)
  have f1 := hf i hi
  have key : ∀ s, ((if s < n then x s * A0 i s else 0 : Int) : Rat) = (p : Rat) * f i * (if s < n then ((x s : Rat) / (p : Rat)) * L i s else 0) := fun s => by
    by_cases hs : s < n
    · rw [if_pos hs, if_pos hs, Rat.intCast_mul, hA i s hi hs]
      grind
    · rw [if_neg hs, if_neg hs]; grind
  simp only [s4, Rat.intCast_add] at e' ⊢
  rw [key, key, key, key] at e'
  grind
/-- the determinant by the first row: what stands in the row from place k on, the sign, what is found -/
def lgo (sub : Nat → Rat) : List Rat → Nat → Rat → Rat → Rat
  | [], _, _, found => found
  | a :: l, k, sg, found => lgo sub l (k + 1) (-sg) (found + sg * (a * sub k))
def cut (k : Nat) (l : List Rat) : List Rat := l.take k ++ l.drop (k + 1)
def ldet : Nat → List (List Rat) → Rat
  | _, [] => 1
  | 0, _ => 0
  | f + 1, r :: rs => lgo (fun k => ldet f (rs.map (cut k))) r 0 1 0
def at2 (rows : List (List Rat)) (i j : Nat) : Rat := ((rows[i]?.getD [])[j]?).getD 0
def prodF (f : Nat → Rat) : Nat → Rat
  | 0 => 1
  | n + 1 => prodF f n * f n
theorem len1 {α : Type} {l : List α} (h : l.length = 1) : ∃ a, l = [a] := List.length_eq_one_iff.mp h
theorem len2 {α : Type} {l : List α} (h : l.length = 2) : ∃ a b, l = [a, b] := by
  match l, h with
  | [a, b], _ => exact ⟨a, b, rfl⟩
theorem len3 {α : Type} {l : List α} (h : l.length = 3) : ∃ a b c, l = [a, b, c] := by
  match l, h with
  | [a, b, c], _ => exact ⟨a, b, c, rfl⟩
theorem len4 {α : Type} {l : List α} (h : l.length = 4) : ∃ a b c d, l = [a, b, c, d] := by
  match l, h with
  | [a, b, c, d], _ => exact ⟨a, b, c, d, rfl⟩
theorem det_ldet {f : Nat → Rat} {rows : List (List Rat)} (n4 : n ≤ 4) (hn : rows.length = n) (hr : ∀ r ∈ rows, r.length = n) (pad : ∀ i j, n ≤ i → A0 i j = 0)
    (hA : ∀ i j, i < n → j < n → (A0 i j : Rat) = f i * at2 rows i j) : ((Dt (gk A0 n) : Int) : Rat) = prodF f n * ldet n rows := by
  rcases (show n = 0 ∨ n = 1 ∨ n = 2 ∨ n = 3 ∨ n = 4 by omega) with rfl | rfl | rfl | rfl | rfl
  · have e := List.length_eq_zero_iff.mp hn
    subst e
    rw [gk0, unit_D]; simp [prodF, ldet]
  · obtain ⟨a, rfl⟩ := len1 hn
    obtain ⟨a0, rfl⟩ := len1 (hr a (by simp))
    have h00 := hA 0 0 (by decide) (by decide)
    simp [at2] at h00
    rw [Dt_cast]
    simp [Dt, D4, t3, castV, gk, col, un, mkV, h00, pad, prodF, ldet, lgo]
    grind
  · obtain ⟨a, b, rfl⟩ := len2 hn
    obtain ⟨a0, a1, rfl⟩ := len2 (hr a (by simp))
    obtain ⟨b0, b1, rfl⟩ := len2 (hr b (by simp))
    have h00 := hA 0 0 (by decide) (by decide)
    have h01 := hA 0 1 (by decide) (by decide)
    have h10 := hA 1 0 (by decide) (by decide)
    have h11 := hA 1 1 (by decide) (by decide)
    simp [at2] at h00 h01 h10 h11
    rw [Dt_cast]
    simp [Dt, D4, t3, castV, gk, col, un, mkV, h00, h01, h10, h11, pad, prodF, ldet, lgo, cut]
    grind
  · obtain ⟨a, b, c, rfl⟩ := len3 hn
    obtain ⟨a0, a1, a2, rfl⟩ := len3 (hr a (by simp))
    obtain ⟨b0, b1, b2, rfl⟩ := len3 (hr b (by simp))
    obtain ⟨c0, c1, c2, rfl⟩ := len3 (hr c (by simp))
    have h00 := hA 0 0 (by decide) (by decide); have h01 := hA 0 1 (by decide) (by decide); have h02 := hA 0 2 (by decide) (by decide)
    have h10 := hA 1 0 (by decide) (by decide); have h11 := hA 1 1 (by decide) (by decide); have h12 := hA 1 2 (by decide) (by decide)
    have h20 := hA 2 0 (by decide) (by decide); have h21 := hA 2 1 (by decide) (by decide); have h22 := hA 2 2 (by decide) (by decide)
    simp [at2] at h00 h01 h02 h10 h11 h12 h20 h21 h22
    rw [Dt_cast]
    simp [Dt, D4, t3, castV, gk, col, un, mkV, h00, h01, h02, h10, h11, h12, h20, h21, h22, pad, prodF, ldet, lgo, cut]
    grind
  · obtain ⟨a, b, c, d, rfl⟩ := len4 hn
    obtain ⟨a0, a1, a2, a3, rfl⟩ := len4 (hr a (by simp))
    obtain ⟨b0, b1, b2, b3, rfl⟩ := len4 (hr b (by simp))
    obtain ⟨c0, c1, c2, c3, rfl⟩ := len4 (hr c (by simp))
    obtain ⟨d0, d1, d2, d3, rfl⟩ := len4 (hr d (by simp))
    have h00 := hA 0 0 (by decide) (by decide); have h01 := hA 0 1 (by decide) (by decide); have h02 := hA 0 2 (by decide) (by decide); have h03 := hA 0 3 (by decide) (by decide)
    have h10 := hA 1 0 (by decide) (by decide); have h11 := hA 1 1 (by decide) (by decide); have h12 := hA 1 2 (by decide) (by decide); have h13 := hA 1 3 (by decide) (by decide)
    have h20 := hA 2 0 (by decide) (by decide); have h21 := hA 2 1 (by decide) (by decide); have h22 := hA 2 2 (by decide) (by decide); have h23 := hA 2 3 (by decide) (by decide)
    have h30 := hA 3 0 (by decide) (by decide); have h31 := hA 3 1 (by decide) (by decide); have h32 := hA 3 2 (by decide) (by decide); have h33 := hA 3 3 (by decide) (by decide)
    simp [at2] at h00 h01 h02 h03 h10 h11 h12 h13 h20 h21 h22 h23 h30 h31 h32 h33
    rw [Dt_cast]
    simp [Dt, D4, t3, castV, gk, col, un, mkV, h00, h01, h02, h03, h10, h11, h12, h13, h20, h21, h22, h23, h30, h31, h32, h33, prodF, ldet, lgo, cut]
    grind
theorem prodF_ne {f : Nat → Rat} (hf : ∀ i, i < n → f i ≠ 0) : prodF f n ≠ 0 := by
  induction n with
  | zero => exact (by decide : (1 : Rat) ≠ 0)
  | succ n ih =>
    unfold prodF
    intro z
    rcases Rat.mul_eq_zero.mp z with z | z
    · exact ih (fun i hi => hf i (by omega)) z
    · exact hf n (by omega) z
end Det
end Q
end

section
set_option Elab.async false
set_option linter.all false
set_option maxRecDepth 100000
set_option maxHeartbeats 3900000
set_option exponentiation.threshold 20000
/-! K5o: the determinant by the first row. -/
namespace Q
open PySem L2
variable {P : Program} {w : World} {T : Tab} {mg : Str → Option Value} {base : Heap} {f fA fI CZ CB : Addr} {fd : FuncData}
theorem EQ.as {Z : Zt} {ρ : Rho} {e : Expr} {d d' : D} (h : EQ Z ρ e d) (q : d = d') : EQ Z ρ e d' := by rw [← q]; exact h
section
variable {α : Type} {g : α → D} {h : α → PyData}
theorem toPs_map : ∀ {l : List α}, (∀ x ∈ l, toP (g x) = some (h x)) → toPs (l.map g) = some (l.map h)
  | [], _ => rfl
  | a :: l, k => by
    show (match toP (g a), toPs (l.map g) with | some p, some ps => some (p :: ps) | _, _ => none) = _
    rw [k a List.mem_cons_self, toPs_map fun x hx => k x (List.mem_cons_of_mem _ hx)]; rfl
theorem toP_map {l : List α} (k : ∀ x ∈ l, toP (g x) = some (h x)) : toP (.lst (l.map g)) = some (.list (l.map h)) := by
  show (toPs (l.map g)).map PyData.list = _
  rw [toPs_map k]; rfl
structure Lay (k : Nat) (p : PyData) : Prop where
  l : PyData.canLay0 p = true
  d : PyData.depth p ≤ k
theorem lay_all {k : Nat} : ∀ {l : List α}, (∀ x ∈ l, Lay k (h x)) → PyData.canLayAll0 (l.map h) = true ∧ PyData.depthAll (l.map h) ≤ k
  | [], _ => ⟨rfl, Nat.zero_le _⟩
  | a :: l, q => by
    obtain ⟨h1, h2⟩ := lay_all (k := k) (l := l) fun x hx => q x (List.mem_cons_of_mem _ hx)
    have h3 := q a List.mem_cons_self
    constructor
    · rw [List.map_cons]; unfold PyData.canLayAll0
      rw [h1, h3.l]; rfl
    · rw [List.map_cons]; unfold PyData.depthAll
      exact Nat.max_le.mpr ⟨h3.d, h2⟩
theorem lay_map {k : Nat} {l : List α} (q : ∀ x ∈ l, Lay k (h x)) : Lay (k + 1) (.list (l.map h)) := by
  obtain ⟨h1, h2⟩ := lay_all q
  refine ⟨?_, ?_⟩
  · unfold PyData.canLay0; exact h1
  · show PyData.depthAll _ + 1 ≤ k + 1
    omega
theorem Lay.shaped {k : Nat} {p : PyData} (q : Lay k p) (hk : k ≤ 64 := by decide) : SeqAt.shaped p = true := by
  unfold SeqAt.shaped
  rw [q.l, Bool.true_and]
  exact decide_eq_true (Nat.le_trans q.d hk)
end
def pq (q : Rat) : PyData := .tuple [.int q.num, .int (q.den : Int)]
theorem lay_pq (q : Rat) : Lay 1 (pq q) := ⟨rfl, Nat.le_of_ble_eq_true rfl⟩
theorem toP_line (l : List Rat) : toP (lineD l) = some (.list (l.map pq)) := toP_map fun _ _ => rfl
theorem lay_line (l : List Rat) : Lay 2 (.list (l.map pq)) := lay_map fun q _ => lay_pq q
theorem toP_lines (l : List (List Rat)) : toP (.lst (l.map lineD)) = some (.list (l.map fun r => .list (r.map pq))) := toP_map fun r _ => toP_line r
theorem lay_lines (l : List (List Rat)) : Lay 3 (.list (l.map fun r => PyData.list (r.map pq))) := lay_map fun r _ => lay_line r
/-! ### sizes -/
def dsz (s0 s : Nat) : Nat → Nat
  | 0 => 1
  | n + 1 => (n + 1) * (s0 + dsz s s n + 3) + 1
def F_det (n s0 s : Nat) : Fw := fun ds c P R => ∃ rows : List (List Rat), ds = [.lst (rows.map lineD)] ∧ rows.length = n ∧ (∀ r ∈ rows, r.length = n) ∧ (∀ r ∈ rows.head?, ∀ q ∈ r, Sz s0 q) ∧ (∀ r ∈ rows.tail, ∀ q ∈ r, Sz s q) ∧ P (.fr (Det.ldet n rows)) c
theorem line_at {l : List (List Rat)} {k : Nat} (h : k < l.length) : ixD (.lst (l.map lineD)) ((k : Nat) : Int) = some (lineD (l[k]?.getD [])) := by
  have e : l[k]? = some l[k] := List.getElem?_eq_getElem h
  rw [e]
  show atI (l.map lineD) ((k : Nat) : Int) = _
  unfold atI
  have e2 : ixN (l.map lineD).length ((k : Nat) : Int) = some k := by
    rw [List.length_map]; unfold ixN; simp; omega
  rw [e2]
  show (l.map lineD)[k]? = _
  rw [List.getElem?_map, e]; rfl
/-- the loop's state -/
def sg : Nat → Int
  | 0 => 1
  | k + 1 => -sg k
def lgoA (sub : Nat → Rat) (r : List Rat) : Nat → Rat
  | 0 => 0
  | k + 1 => lgoA sub r k + (sg k : Rat) * ((r[k]?.getD 0) * sub k)
theorem lgo_from {sub : Nat → Rat} {r : List Rat} : ∀ (rest : List Rat) (k : Nat) (found : Rat), r.drop k = rest → found = lgoA sub r k → Det.lgo sub rest k (sg k : Rat) found = lgoA sub r r.length
  | [], k, found, e, h => by
    have : r.length ≤ k := by
      have := congrArg List.length e
      rw [List.length_drop, List.length_nil] at this
      omega
    show found = _
    rw [h]
    have stay : ∀ j, lgoA sub r (r.length + j) = lgoA sub r r.length := fun j => by
      induction j with
      | zero => rfl
      | succ j ih =>
        show lgoA sub r (r.length + j) + (sg (r.length + j) : Rat) * ((r[r.length + j]?.getD 0) * sub (r.length + j)) = _
        rw [ih, List.getElem?_eq_none (by omega)]
        show _ + _ * (0 * _) = _
        grind
    have := stay (k - r.length)
    rwa [show r.length + (k - r.length) = k by omega] at this
  | a :: rest, k, found, e, h => by
    have lt : k < r.length := by
      have := congrArg List.length e
      rw [List.length_drop, List.length_cons] at this
      omega
    have e2 := List.drop_eq_getElem_cons lt
    rw [e] at e2
    injection e2 with ea er
    show Det.lgo sub rest (k + 1) (-(sg k : Rat)) (found + (sg k : Rat) * (a * sub k)) = _
    have es : -(sg k : Rat) = (sg (k + 1) : Rat) := by show _ = ((-sg k : Int) : Rat); rw [Rat.intCast_neg]
    rw [es]
    refine lgo_from rest (k + 1) _ er.symm ?_
    show _ = lgoA sub r k + (sg k : Rat) * ((r[k]?.getD 0) * sub k)
    rw [h, List.getElem?_eq_getElem lt, ea]; rfl
theorem ldet_A {n : Nat} {r : List Rat} {rs : List (List Rat)} : Det.ldet (n + 1) (r :: rs) = lgoA (fun k => Det.ldet n (rs.map (Det.cut k))) r r.length := by
  show Det.lgo (fun k => Det.ldet n (rs.map (Det.cut k))) r 0 1 0 = _
  have := lgo_from (sub := fun k => Det.ldet n (rs.map (Det.cut k))) (r := r) r 0 0 (by simp) rfl
  exact this
theorem sg_abs : ∀ k, (sg k).natAbs = 1
  | 0 => rfl
  | k + 1 => by show (-sg k).natAbs = 1; rw [Int.natAbs_neg]; exact sg_abs k
theorem sg_sz (k : Nat) : Sz 1 ((sg k : Int) : Rat) := ⟨by show (sg k).natAbs < 2 ^ 1; rw [sg_abs]; decide, by show 1 < 2 ^ 1; decide⟩
def cutD (t : Nat) : D → D
  | .lst l => .lst (l.take t ++ l.drop (t + 1))
  | _ => .non
theorem cutD_line (t : Nat) (r : List Rat) : cutD t (lineD r) = lineD (Det.cut t r) := by
  show D.lst ((r.map D.fr).take t ++ (r.map D.fr).drop (t + 1)) = .lst ((r.take t ++ r.drop (t + 1)).map D.fr)
  rw [List.map_append, List.map_take, List.map_drop]
theorem dsz_pos (s0 s n : Nat) : 1 ≤ dsz s0 s n := by cases n <;> (unfold dsz; omega)
theorem cut_len {t : Nat} {r : List Rat} {n : Nat} (h : r.length = n + 1) (ht : t < n + 1) : (Det.cut t r).length = n := by
  unfold Det.cut
  rw [List.length_append, List.length_take, List.length_drop]
  omega
theorem cut_mem {t : Nat} {r : List Rat} {q : Rat} (h : q ∈ Det.cut t r) : q ∈ r := by
  unfold Det.cut at h
  rcases (List.mem_append.mp h) with h | h
  · exact List.mem_of_mem_take h
  · exact List.mem_of_mem_drop h
theorem ldet_sz {s : Nat} : ∀ {n s0 : Nat} {rows : List (List Rat)}, rows.length = n → (∀ r ∈ rows, r.length = n) → (∀ r ∈ rows.head?, ∀ q ∈ r, Sz s0 q) → (∀ r ∈ rows.tail, ∀ q ∈ r, Sz s q) → Sz (dsz s0 s n) (Det.ldet n rows)
  | 0, s0, rows, hn, _, _, _ => by
    have e := List.length_eq_zero_iff.mp hn
    subst e
    exact (⟨by decide, by decide⟩ : Sz 1 (1 : Rat))
  | n + 1, s0, r :: rs, hn, hl, h0, hs => by
    have hr := hl r List.mem_cons_self
    have hsub : ∀ t, t < n + 1 → Sz (dsz s s n) (Det.ldet n (rs.map (Det.cut t))) := fun t ht => ldet_sz (by rw [List.length_map]; simpa using hn) (fun r' h' => by
        obtain ⟨r1, h1, rfl⟩ := List.mem_map.mp h'
        exact cut_len (hl r1 (List.mem_cons_of_mem _ h1)) ht) (fun r' h' q hq => by
        obtain ⟨r1, h1, rfl⟩ := List.mem_map.mp (List.mem_of_mem_head? h')
        exact hs r1 h1 q (cut_mem hq)) (fun r' h' q hq => by
        obtain ⟨r1, h1, rfl⟩ := List.mem_map.mp (List.mem_of_mem_tail h')
        exact hs r1 h1 q (cut_mem hq))
    rw [ldet_A, hr]
    have key : ∀ t, t ≤ n + 1 → Sz (t * (s0 + dsz s s n + 3) + 1) (lgoA (fun k => Det.ldet n (rs.map (Det.cut k))) r t) := fun t => by
      induction t with
      | zero => exact fun _ => Sz.zero.mono (by omega)
      | succ t ih =>
        intro ht
        have a := ih (by omega)
        have b := h0 r rfl (r[t]?.getD 0) (at_mem (by omega))
        refine (a.add ((sg_sz t).mul (b.mul (hsub t (by omega))))).mono ?_
        rw [Nat.succ_mul]
        omega
    exact key (n + 1) (Nat.le_refl _)
end Q
end

section
set_option Elab.async false
set_option linter.all false
set_option maxRecDepth 100000
set_option maxHeartbeats 3900000
set_option exponentiation.threshold 20000
/-! K5p: the determinant, the def. -/
namespace Q
open PySem L2
variable {P : Program} {w : World} {T : Tab} {mg : Str → Option Value} {base : Heap} {f fA fI CZ CB : Addr} {fd : FuncData}
abbrev Ndet : List Str := ["_law_lines", "_law_found", "_law_sign", "_law_k", "_law_rest", "_law_part", "_law_row_here"]
theorem ok_det {fP fT : Addr} (U : Fun T.K "_law_determinant" "_law_determinant" s_law_determinant f fd) (DP : Df P w T mg base "_law_plus" 2 fP (F_fr2 (· + ·))) (DM : Df P w T mg base "_law_times" 2 fT (F_fr2 (· * ·))) (ml : mg "len" = none) (mr : mg "range" = none)
    (mk : ∀ (k : Nat) (F : Fw), FnGk P w T.K mg base (L2.CX P w) k f fd ["_law_lines"] (SpW T F) → Df P w T mg base "_law_determinant" k f F) :
    ∀ (n s0 s : Nat), n ≤ 4 → dsz s0 s n ≤ 3900 → FnGk P w T.K mg base (L2.CX P w) (n + 3) f fd ["_law_lines"] (SpW T (F_det n s0 s))
  | 0, s0, s, _, _ => by
    refine Fun.doesG U sc_law_determinant (fun ds c P R h => ?_) (fun Z c ds cdv A outer s H E B R rt hZ ok hr h => ?_)
    · obtain ⟨rows, rfl, _⟩ := h
      rfl
    · obtain ⟨rows, rfl, hn, _, _, _, h⟩ := h
      subst hZ
      have e := List.length_eq_zero_iff.mp hn
      subst e
      refine ss_cons (st_if ((tq_eqP rfl hr (eq_var 0 rfl) (eq_lst aq_nil) (toP_lines []) (x := .list []) (y := .list []) rfl rfl rfl).to ⟨fun _ => ?_, fun z => by cases z⟩))
      exact ss_one (st_ret (EQ.to (d := .fr 1) (eq_tup (aq_cons eq_int (aq_cons eq_int aq_nil))) ⟨rfl, h⟩))
  | n + 1, s0, s, n4, hs => by
    have ih := mk _ _ (ok_det U DP DM ml mr mk n s s (by omega) (by
      have := dsz_pos s s n
      have e : dsz s0 s (n + 1) = (n + 1) * (s0 + dsz s s n + 3) + 1 := rfl
      rw [e, Nat.succ_mul] at hs
      omega))
    refine Fun.doesG U sc_law_determinant (fun ds c P R h => ?_) (fun Z c ds cdv A outer sh H E B R rt hZ ok hr h => ?_)
    · obtain ⟨rows, rfl, _⟩ := h
      rfl
    · obtain ⟨rows, rfl, hn, hl, h0, h1, h⟩ := h
      subst hZ
      match rows, hn with
      | r :: rs, hn =>
      have hrl := hl r List.mem_cons_self
      have hrs : rs.length = n := by simpa using hn
      have e1 : dsz s0 s (n + 1) = (n + 1) * (s0 + dsz s s n + 3) + 1 := rfl
      rw [e1] at hs
      have hsub : ∀ t, t < n + 1 → (rs.map (Det.cut t)).length = n ∧ (∀ r' ∈ rs.map (Det.cut t), r'.length = n ∧ ∀ q ∈ r', Sz s q) := fun t ht => ⟨by rw [List.length_map]; exact hrs, fun r' h' => by
        obtain ⟨r1, m1, rfl⟩ := List.mem_map.mp h'
        exact ⟨cut_len (hl r1 (List.mem_cons_of_mem _ m1)) ht, fun q hq => h1 r1 m1 q (cut_mem hq)⟩⟩
      refine ss_cons (st_ifF (tq_eqP rfl hr (eq_var 0 rfl) (eq_lst aq_nil) (toP_lines (r :: rs)) (y := .list []) rfl (lay_lines (r :: rs)).shaped rfl) (ss_nil ?_))
      refine ss_cons (st_setq (i := 1) (d := .fr 0) ok (eq_tup (aq_cons eq_int (aq_cons eq_int aq_nil))) ?_)
      dsimp only [Rho.wc, Rho.set]
      refine ss_cons (st_setq (i := 2) (d := .int 1) ok eq_int ?_)
      dsimp only [Rho.wc, Rho.set]
      refine ss_cons (st_range (i := 3) ok rfl mr (ea_cons (ev_len rfl rfl ml (ea_cons (ev_var 0 rfl (ea_nil ⟨_, _, rfl, rfl, ea_nil ⟨_, rfl, ?_, ?_, ?_⟩⟩))))))
      · rw [List.length_map, hn]; omega
      · rw [List.length_map, hn]; omega
      rw [List.length_map, hn, Int.toNat_natCast]
      dsimp only [Rho.wc, Rho.set]
      let sub : Nat → Rat := fun k => Det.ldet n (rs.map (Det.cut k))
      refine spins_fin (n0 := n + 1) (fun t ρ => ∃ o3 o4 o5 o6, ρ = ⟨B, [some (.lst ((r :: rs).map lineD)), some (.fr (lgoA sub r t)), some (.int (sg t)), o3, o4, o5, o6], c⟩ ∧ Sz (t * (s0 + dsz s s n + 3) + 1) (lgoA sub r t)) ?_ ?_ (n + 1) 0 _ (Nat.zero_add _) ⟨_, _, _, _, rfl, Sz.zero.mono (by omega)⟩
      · rintro t ρ K ⟨o3, o4, o5, o6, rfl, sz⟩ ht hK
        dsimp only [Rho.wc, Rho.set]
        obtain ⟨len', hall⟩ := hsub t ht
        have sq := h0 r rfl (r[t]?.getD 0) (at_mem (by omega))
        have ssub : Sz (dsz s s n) (sub t) := ldet_sz len' (fun r' h' => (hall r' h').1) (fun r' h' => (hall r' (List.mem_of_mem_head? h')).2) (fun r' h' => (hall r' (List.mem_of_mem_tail h')).2)
        have b1 : (t + 1) * (s0 + dsz s s n + 3) ≤ (n + 1) * (s0 + dsz s s n + 3) := Nat.mul_le_mul_right _ (by omega)
        rw [Nat.succ_mul] at b1
        have go : ∀ p4 p5 p6, SS (zBody P w T mg base Ndet "_law_determinant" (defScope s_law_determinant) f cdv A outer sh H E B R rt) ⟨B, [some (.lst ((r :: rs).map lineD)), some (.fr (lgoA sub r (t + 1))), some (.int (sg t)), some (.int (t : Nat)), p4, p5, p6], c⟩
            [(match (defBody s_law_determinant).getD 3 (.Pass ⟨0, 0, 0, 0⟩) with | .For _ _ b _ _ => b.getD 1 (.Pass ⟨0, 0, 0, 0⟩) | x => x)] ⟨K, fun r => SS (zBody P w T mg base Ndet "_law_determinant" (defScope s_law_determinant) f cdv A outer sh H E B R rt) r ((defBody s_law_determinant).drop 4) ⟨fun r => rt .non r.c, fun _ => False, fun _ => False⟩, K⟩ := fun p4 p5 p6 => by
          refine ss_one (st_set (i := 2) ok (ev_neg (ev_var 2 rfl ?_)))
          refine hK _ ⟨_, _, _, _, rfl, ?_⟩
          refine (sz.add ((sg_sz t).mul (sq.mul ssub))).mono ?_
          rw [Nat.succ_mul]
          omega
        have l0 : ixD (D.lst ((r :: rs).map lineD)) 0 = some (lineD r) := line_at (l := r :: rs) (k := 0) (by simp)
        have lt_ : ixD (lineD r) ((t : Nat) : Int) = some (.fr (r[t]?.getD 0)) := fr_at (by omega)
        refine ss_cons (st_if ((tq_neI (eq_ix rfl (eq_ix rfl (eq_ix rfl (eq_var 0 rfl) eq_int l0) (eq_var 3 rfl) lt_) eq_int ix0) eq_int).to ⟨fun z => ?_, fun z => ?_⟩))
        · have hi : items (D.lst (((r :: rs).map lineD).drop 1)) = some (rs.map lineD) := rfl
          refine ss_cons (st_setLc (m := 4) 6 ok (blkOk_by (N := Ndet) (sc := defScope s_law_determinant) (by decide +kernel)) (h := EQ.to (eq_lFrom (i := 1) rfl rfl (eq_var 0 rfl) eq_int) ⟨_, hi, lcs_map (g := cutD t) (rs.map lineD) [] _ (by rw [List.length_nil, List.length_map, hrs]; omega) (fun d hd => ?_) ?_⟩))
          · obtain ⟨r1, m1, rfl⟩ := List.mem_map.mp hd
            refine ⟨rfl, fun B2 s1 H1 C cl fp ok2 => ?_⟩
            have hlen : (r1.map D.fr).length ≤ 5 := by rw [List.length_map, hl r1 (List.mem_cons_of_mem _ m1)]; omega
            exact eq_cat' (eq_lTo rfl rfl (eq_var 6 rfl) (eq_var 3 rfl)) (eq_lFrom (i := t + 1) rfl rfl (eq_var 6 rfl) (EQ.as (eq_add (n := (t : Nat)) (m := 1) (eq_var 3 rfl) eq_int) rfl)) (by rw [List.length_take, List.length_drop]; omega)
          have em : (rs.map lineD).map (cutD t) = (rs.map (Det.cut t)).map lineD := by
            rw [List.map_map, List.map_map]; exact List.map_congr_left fun r1 _ => cutD_line t r1
          rw [List.nil_append, em]
          dsimp only [Rho.wc, Rho.set]
          refine ss_cons (st_setq (i := 5) (d := .fr ((r[t]?.getD 0) * sub t)) ok (eq_df DM ok hr (by omega) (aq_cons (eq_ix rfl (eq_ix rfl (eq_var 0 rfl) eq_int l0) (eq_var 3 rfl) lt_) (aq_cons (eq_df (d := .fr (sub t)) ih ok hr (by omega) (aq_cons (eq_var 4 rfl) aq_nil) ⟨_, rfl, len', fun r' h' => (hall r' h').1, fun r' h' => (hall r' (List.mem_of_mem_head? h')).2, fun r' h' => (hall r' (List.mem_of_mem_tail h')).2, rfl, rfl⟩) aq_nil)) ⟨_, _, rfl, sq.mono (by omega), ssub.mono (by omega), rfl, rfl⟩) ?_)
          dsimp only [Rho.wc, Rho.set]
          refine ss_one (st_setq (i := 1) (d := .fr (lgoA sub r (t + 1))) ok (eq_df DP ok hr (by omega) (aq_cons (eq_var 1 rfl) (aq_cons (eq_df (d := .fr ((sg t : Rat) * ((r[t]?.getD 0) * sub t))) DM ok hr (by omega) (aq_cons (EQ.as (d := .tup [.int (sg t), .int 1]) (eq_tup (aq_cons (eq_var 2 rfl) (aq_cons eq_int aq_nil))) (d' := .fr (sg t : Rat)) rfl) (aq_cons (eq_var 5 rfl) aq_nil)) ⟨_, _, rfl, (sg_sz t).mono (by omega), (sq.mul ssub).mono (by omega), rfl, rfl⟩) aq_nil)) ⟨_, _, rfl, sz.mono (by omega), ((sg_sz t).mul (sq.mul ssub)).mono (by omega), rfl, rfl⟩) ?_)
          exact go _ _ _
        · have z0 : r[t]?.getD 0 = 0 := Rat.num_eq_zero.mp (by simpa using z)
          have es : lgoA sub r (t + 1) = lgoA sub r t := by
            show lgoA sub r t + (sg t : Rat) * ((r[t]?.getD 0) * sub t) = _
            rw [z0]; grind
          have g := go o4 o5 o6
          rw [es] at g
          exact ss_nil g
      · rintro ρ ⟨o3, o4, o5, o6, rfl, sz⟩
        refine ss_one (st_ret (ev_var 1 rfl ⟨rfl, ?_⟩))
        rw [ldet_A, hrl] at h
        exact h
end Q
end

section
set_option Elab.async false
set_option linter.all false
set_option maxRecDepth 100000
set_option maxHeartbeats 3900000
/-! P4: zip over two sources of any kind; a tuple and a list. -/
namespace Q
open PySem PySem.Spec PyProof.Rows L2 RZ
/-- what is iterated: its iterator `it`, its object `l`, the items; st k: k items are given out -/
structure Src (it l : Addr) (xs : Array Value) (st : Nat → Heap → Prop) : Prop where
  item : ∀ {P : Program} {w : World} {A : Around} {E : Value → Shared → Prop} {s : Shared} {k : Nat} {x : Value} {R : Value → Shared → Prop}, st k s.heap → xs[k]? = some x →
    (∀ g, st (k + 1) g → Heap.SameBut it s.heap g → R x { s with heap := g }) → wpAny (model P w) A (Builtin.SmallTypes.nextOf (.ref it)) R E s
  done : ∀ {P : Program} {w : World} {A : Around} {E : Value → Shared → Prop} {s : Shared} {k : Nat} {R : Value → Shared → Prop}, A.handled = none → st k s.heap → xs[k]? = none →
    (∀ g e, Heap.ExtBut it s.heap g → (∃ o, g.get? e = some o ∧ o.cls = .type "StopIteration") → E (.ref e) { s with heap := g }) → wpAny (model P w) A (Builtin.SmallTypes.nextOf (.ref it)) R E s
  keep : ∀ {b : Addr} {g g' : Heap} {k : Nat}, st k g → Heap.ExtBut b g g' → it ≠ b → l ≠ b → st k g'
  at_ : ∀ {g g' : Heap} {k : Nat}, st k g → (∀ c, c = it ∨ c = l → ∀ o, g.get? c = some o → g'.get? c = some o) → st k g'
  lt : ∀ {g : Heap} {k : Nat}, st k g → it < g.objs.size
  obj : ∀ {g : Heap} {k : Nat}, st k g → ∃ o fs, g.get? it = some o ∧ o.data = .fields fs
theorem src_list {it l : Addr} {xs : Array Value} (n : l ≠ it) : Src it l xs fun k g => g.IsListIter it l k ∧ g.IsList l xs where
  item := fun ⟨h1, h2⟩ hx k => wpAny_nextOf_list_item h1 h2 hx fun g h3 sb => k g ⟨h3, h2.extBut sb.extBut n⟩ sb
  done := fun hh ⟨h1, h2⟩ hx k => wpAny_nextOf_list_end hh h1 h2 hx k
  keep := fun ⟨h1, h2⟩ e a b => ⟨h1.extBut e a, h2.extBut e b⟩
  at_ := fun ⟨h1, h2⟩ e => ⟨h1.at fun o z => e _ (.inl rfl) o z, h2.at fun o z => e _ (.inr rfl) o z⟩
  lt := fun ⟨⟨_, e, _⟩, _⟩ => Heap.lt_size e
  obj := fun ⟨⟨o, e, _, d⟩, _⟩ => ⟨o, _, e, d⟩
theorem src_tup {it l : Addr} {xs : Array Value} (n : l ≠ it) : Src it l xs fun k g => g.IsTupleIter it l k ∧ g.IsTuple l xs where
  item := fun ⟨h1, h2⟩ hx k => nextOf_tuple_item h1 h2 hx fun g h3 sb => k g ⟨h3, h2.extBut sb.extBut n⟩ sb
  done := fun hh ⟨h1, h2⟩ hx k => nextOf_tuple_end hh h1 h2 hx k
  keep := fun ⟨h1, h2⟩ e a b => ⟨h1.extBut e a, h2.extBut e b⟩
  at_ := fun ⟨h1, h2⟩ e => ⟨h1.at fun o z => e _ (.inl rfl) o z, let ⟨o, y, r⟩ := h2; ⟨o, e _ (.inr rfl) o y, r⟩⟩
  lt := fun ⟨⟨_, e, _⟩, _⟩ => Heap.lt_size e
  obj := fun ⟨⟨o, e, _, d⟩, _⟩ => ⟨o, _, e, d⟩
section
variable {P : Program} {w : World} {A : Around} {E : Value → Shared → Prop} {s : Shared} {z u v i1 i2 l1 l2 : Addr} {k1 k2 : Nat} {xs ys : Array Value} {a b : Value} {st1 st2 : Nat → Heap → Prop}
theorem zipS_item {x y : Value} {R : Value → Shared → Prop} (D : ZipApart z u v i1 i2 l1 l2) (S1 : Src i1 l1 xs st1) (S2 : Src i2 l2 ys st2) (hz : IsZip s.heap z u v .none) (hu : IsPair s.heap u (.ref i1) (.ref i2)) (hv : IsPair s.heap v a b) (h1 : st1 k1 s.heap) (h2 : st2 k2 s.heap)
    (hx : xs[k1]? = some x) (hy : ys[k2]? = some y) (hR : ∀ g, IsZip g z u v (rawInt s.heap.objs.size) → IsPair g v x y → st1 (k1 + 1) g → st2 (k2 + 1) g → IsPair g s.heap.objs.size x y → g.objs.size = s.heap.objs.size + 1 →
      (∀ c o, c ≠ z → c ≠ v → c ≠ i1 → c ≠ i2 → s.heap.get? c = some o → g.get? c = some o) → R (.ref s.heap.objs.size) { s with heap := g }) :
    wpAny (model P w) A (Builtin.«zip.__next__» ⟨[.ref z], []⟩) (fun f s' => ∃ t, f = .done (.ret t) ∧ R t s') E s := by
  show wpAny _ _ (field (.ref z) 2 >>= _) _ _ _; refine wpAny_bind (wpAny_field hz rfl (x := .bool false) rfl ?_)
  show wpAny _ _ (field (.ref z) 3 >>= _) _ _ _; refine wpAny_bind (wpAny_field hz rfl (x := .ref u) rfl (wpAny_bind (wpAny_seqItems hu rfl ?_)))
  show wpAny _ _ (Builtin.SmallTypes.ownedTupleIsFree (.ref z) >>= _) _ _ _; refine wpAny_bind ?_
  unfold Builtin.SmallTypes.ownedTupleIsFree; refine wpAny_bind (wpAny_field hz rfl (x := .none) rfl (wpAny_pure ?_))
  simp only [if_true]; refine wpAny_bind (wpAny_rule (wpAny_bind (wpAny_field hz rfl (x := .ref v) rfl (wpAny_bind (wpAny_setField_rec hz (by simp) fun g1 zg1 sb1 => ?_)))))
  have z1 : IsZip g1 z u v .ellipsis := zg1
  refine wpAny_bind ?_; simp only [List.zipIdx_cons, List.zipIdx_nil, List.forIn_cons, List.forIn_nil]
  refine wpAny_bind (wpAny_bind (wpAny_onRaise ?_)); show wpAny _ _ (Builtin.SmallTypes.nextOf (.ref i1) >>= _) _ _ _
  refine wpAny_bind (S1.item (S1.keep h1 sb1.extBut D.i1z D.l1z) hx fun g2 s12 sb2 => wpAny_pure ?_)
  have v2 : IsPair g2 v a b := sb2.extBut _ _ D.TOi1 (sb1.extBut _ _ D.TOz hv)
  refine wpAny_bind (wpAny_seqItems v2 rfl (wpAny_bind (wpAny_updateSeq_pair v2 fun g3 vg3 sb3 => wpAny_bind (wpAny_letGo (wpAny_pure ?_)))))
  have v3 : IsPair g3 v x b := vg3
  refine wpAny_bind (wpAny_bind (wpAny_onRaise ?_)); show wpAny _ _ (Builtin.SmallTypes.nextOf (.ref i2) >>= _) _ _ _
  refine wpAny_bind (S2.item (S2.keep (S2.keep (S2.keep h2 sb1.extBut D.i2z D.l2z) sb2.extBut D.i12.symm D.l2i1) sb3.extBut D.TOi2.symm D.l2TO) hy fun g4 s24 sb4 => wpAny_pure ?_)
  have v4 : IsPair g4 v x b := sb4.extBut _ _ D.TOi2 v3
  refine wpAny_bind (wpAny_seqItems v4 rfl (wpAny_bind (wpAny_updateSeq_pair v4 fun g5 vg5 sb5 => wpAny_bind (wpAny_letGo (wpAny_pure (wpAny_pure ?_))))))
  have v5 : IsPair g5 v x y := vg5
  refine wpAny_bind (wpAny_seqItems v5 rfl (wpAny_bind (wpAny_newTuple ?_)))
  have size5 : g5.objs.size = s.heap.objs.size := by rw [sb5.1, sb4.1, sb3.1, sb2.1, sb1.1]
  have z5 : IsZip g5 z u v .ellipsis := sb5.extBut _ _ D.TOz.symm (sb4.extBut _ _ D.i2z.symm (sb3.extBut _ _ D.TOz.symm (sb2.extBut _ _ D.i1z.symm z1)))
  have all5 : ∀ c o, c ≠ z → c ≠ v → c ≠ i1 → c ≠ i2 → s.heap.get? c = some o → g5.get? c = some o := fun c o nz nv n1 n2 e => sb5.extBut _ _ nv (sb4.extBut _ _ n2 (sb3.extBut _ _ nv (sb2.extBut _ _ n1 (sb1.extBut _ _ nz e))))
  have a5 : st1 (k1 + 1) g5 := S1.keep (S1.keep (S1.keep s12 sb3.extBut D.TOi1.symm D.l1TO) sb4.extBut D.i12 D.l1i2) sb5.extBut D.TOi1.symm D.l1TO
  have b5 : st2 (k2 + 1) g5 := S2.keep s24 sb5.extBut D.TOi2.symm D.l2TO
  have zl : z < g5.objs.size := Heap.lt_size z5
  show wpAny _ _ (Builtin.SmallTypes.ownedTupleHandOut (.ref z) (.ref g5.objs.size) >>= _) _ _ _; refine wpAny_bind ?_
  unfold Builtin.SmallTypes.ownedTupleHandOut; have z6 : IsZip (g5.push { cls := .type "tuple", data := .seq #[x, y] }) z u v .ellipsis := Heap.get?_push_of_some _ z5
  refine wpAny_bind (wpAny_setField_rec z6 (by simp) fun g7 zg7 sb7 => ?_)
  have z7 : IsZip g7 z u v (rawInt g5.objs.size) := zg7
  refine wpAny_setField_rec z7 (by simp) fun g8 zg8 sb8 => ?_
  have z8 : IsZip g8 z u v (rawInt g5.objs.size) := zg8
  have up : ∀ c o, c ≠ z → g5.get? c = some o → g8.get? c = some o := fun c o n e => sb8.extBut _ _ n (sb7.extBut _ _ n (Heap.get?_push_of_some _ e))
  have t8 : IsPair g8 g5.objs.size x y := sb8.extBut _ _ (Nat.ne_of_gt zl) (sb7.extBut _ _ (Nat.ne_of_gt zl) (Heap.get?_push_size _ rfl))
  have n8 : g8.objs.size = g5.objs.size + 1 := by rw [sb8.1, sb7.1, Heap.size_push]
  rw [size5] at z8 t8 n8; refine wpAny_pure ⟨_, rfl, ?_⟩
  show R (.ref g5.objs.size) _; rw [size5]
  refine hR g8 z8 (up _ _ D.TOz v5) (S1.at_ a5 fun c hc o e => up c o ?_ e) (S2.at_ b5 fun c hc o e => up c o ?_ e) t8 n8 fun c o nz nv n1 n2 e => up c o nz (all5 c o nz nv n1 n2 e)
  · rcases hc with y | y <;> rw [y]
    · exact D.i1z
    · exact D.l1z
  · rcases hc with y | y <;> rw [y]
    · exact D.i2z
    · exact D.l2z
theorem zipS_done {R : Fin → Shared → Prop} (hh : A.handled = none) (D : ZipApart z u v i1 i2 l1 l2) (S1 : Src i1 l1 xs st1) (S2 : Src i2 l2 ys st2) (hz : IsZip s.heap z u v .none) (hu : IsPair s.heap u (.ref i1) (.ref i2)) (hv : IsPair s.heap v a b) (h1 : st1 k1 s.heap) (h2 : st2 k2 s.heap)
    (he : xs[k1]? = none ∨ ys[k2]? = none) (hE : ∀ g e, (∀ c o, c ≠ z → c ≠ v → c ≠ i1 → c ≠ i2 → s.heap.get? c = some o → g.get? c = some o) → (∃ o, g.get? e = some o ∧ o.cls = .type "StopIteration") → E (.ref e) { s with heap := g }) :
    wpAny (model P w) A (Builtin.«zip.__next__» ⟨[.ref z], []⟩) R E s := by
  show wpAny _ _ (field (.ref z) 2 >>= _) _ _ _; refine wpAny_bind (wpAny_field hz rfl (x := .bool false) rfl ?_)
  show wpAny _ _ (field (.ref z) 3 >>= _) _ _ _; refine wpAny_bind (wpAny_field hz rfl (x := .ref u) rfl (wpAny_bind (wpAny_seqItems hu rfl ?_)))
  show wpAny _ _ (Builtin.SmallTypes.ownedTupleIsFree (.ref z) >>= _) _ _ _; refine wpAny_bind ?_
  unfold Builtin.SmallTypes.ownedTupleIsFree; refine wpAny_bind (wpAny_field hz rfl (x := .none) rfl (wpAny_pure ?_))
  simp only [if_true]; refine wpAny_bind (wpAny_rule (wpAny_bind (wpAny_field hz rfl (x := .ref v) rfl (wpAny_bind (wpAny_setField_rec hz (by simp) fun g1 zg1 sb1 => ?_)))))
  have z1 : IsZip g1 z u v .ellipsis := zg1
  refine wpAny_bind ?_; simp only [List.zipIdx_cons, List.zipIdx_nil, List.forIn_cons, List.forIn_nil]
  refine wpAny_bind (wpAny_bind (wpAny_onRaise ?_)); show wpAny _ _ (Builtin.SmallTypes.nextOf (.ref i1) >>= _) _ _ _
  cases ex : xs[k1]? with
  | none =>
    refine wpAny_bind (S1.done hh (S1.keep h1 sb1.extBut D.i1z D.l1z) ex fun g2 e sb2 hs => ?_)
    obtain ⟨oe, g, hc⟩ := hs
    have z2 : IsZip g2 z u v .ellipsis := sb2 _ _ D.i1z.symm z1
    have nz : e ≠ z := fun q => by subst q; rw [z2] at g; cases g; simp at hc
    exact wpAny_setField_rec z2 (by simp) fun g3 _ sb3 => hE g3 e (fun c o c1 _ c3 _ q => sb3.extBut _ _ c1 (sb2 _ _ c3 (sb1.extBut _ _ c1 q))) ⟨oe, sb3.extBut _ _ nz g, hc⟩
  | some x =>
    have ey : ys[k2]? = none := he.resolve_left (by rw [ex]; exact fun q => nomatch q)
    refine wpAny_bind (S1.item (S1.keep h1 sb1.extBut D.i1z D.l1z) ex fun g2 s12 sb2 => wpAny_pure ?_)
    have v2 : IsPair g2 v a b := sb2.extBut _ _ D.TOi1 (sb1.extBut _ _ D.TOz hv)
    refine wpAny_bind (wpAny_seqItems v2 rfl (wpAny_bind (wpAny_updateSeq_pair v2 fun g3 vg3 sb3 => wpAny_bind (wpAny_letGo (wpAny_pure ?_)))))
    refine wpAny_bind (wpAny_bind (wpAny_onRaise ?_)); show wpAny _ _ (Builtin.SmallTypes.nextOf (.ref i2) >>= _) _ _ _
    refine wpAny_bind (S2.done hh (S2.keep (S2.keep (S2.keep h2 sb1.extBut D.i2z D.l2z) sb2.extBut D.i12.symm D.l2i1) sb3.extBut D.TOi2.symm D.l2TO) ey fun g4 e sb4 hs => ?_)
    obtain ⟨oe, g, hc⟩ := hs
    have z4 : IsZip g4 z u v .ellipsis := sb4 _ _ D.i2z.symm (sb3.extBut _ _ D.TOz.symm (sb2.extBut _ _ D.i1z.symm z1))
    have nz : e ≠ z := fun q => by subst q; rw [z4] at g; cases g; simp at hc
    exact wpAny_setField_rec z4 (by simp) fun g5 _ sb5 => hE g5 e (fun c o c1 c2 c3 c4 q => sb5.extBut _ _ c1 (sb4 _ _ c4 (sb3.extBut _ _ c2 (sb2.extBut _ _ c3 (sb1.extBut _ _ c1 q))))) ⟨oe, sb5.extBut _ _ nz g, hc⟩
/-- next, with an item -/
theorem nextS_item {x y : Value} {R : Option Value → Shared → Prop} (D : ZipApart z u v i1 i2 l1 l2) (S1 : Src i1 l1 xs st1) (S2 : Src i2 l2 ys st2) (hz : IsZip s.heap z u v .none) (hu : IsPair s.heap u (.ref i1) (.ref i2)) (hv : IsPair s.heap v a b) (h1 : st1 k1 s.heap) (h2 : st2 k2 s.heap)
    (hx : xs[k1]? = some x) (hy : ys[k2]? = some y) (hR : ∀ g, IsZip g z u v (rawInt s.heap.objs.size) → IsPair g v x y → st1 (k1 + 1) g → st2 (k2 + 1) g → IsPair g s.heap.objs.size x y → g.objs.size = s.heap.objs.size + 1 →
      (∀ c o, c ≠ z → c ≠ v → c ≠ i1 → c ≠ i2 → s.heap.get? c = some o → g.get? c = some o) → R (some (.ref s.heap.objs.size)) { s with heap := g }) :
    wpAny (model P w) A (pyNext (.ref z)) R E s := by
  have ty : s.TypeIs (.ref z) "zip" := ⟨_, hz, rfl⟩
  unfold pyNext; exact wpAny_bind (wpAny_attempt (wpAny_callSpecial?_slot (name := Str.ofString "__next__") ty F.slot_zip_next (wpAny_call_entry F.slot_zip_next ty F.entry_zip_next
    (zipS_item D S1 S2 hz hu hv h1 h2 hx hy fun g q1 q2 q3 q4 q5 q6 q7 => wpAny_pure (hR g q1 q2 q3 q4 q5 q6 q7)) (F.args_zip_next_1 _))))
/-- next, at the end -/
theorem nextS_done {R : Option Value → Shared → Prop} (hh : A.handled = none) (D : ZipApart z u v i1 i2 l1 l2) (S1 : Src i1 l1 xs st1) (S2 : Src i2 l2 ys st2) (hz : IsZip s.heap z u v .none) (hu : IsPair s.heap u (.ref i1) (.ref i2)) (hv : IsPair s.heap v a b) (h1 : st1 k1 s.heap) (h2 : st2 k2 s.heap)
    (he : xs[k1]? = none ∨ ys[k2]? = none) (hR : ∀ g, (∀ c o, c ≠ z → c ≠ v → c ≠ i1 → c ≠ i2 → s.heap.get? c = some o → g.get? c = some o) → R none { s with heap := g }) : wpAny (model P w) A (pyNext (.ref z)) R E s := by
  have ty : s.TypeIs (.ref z) "zip" := ⟨_, hz, rfl⟩
  unfold pyNext; refine wpAny_bind (wpAny_attempt (wpAny_callSpecial?_slot (name := Str.ofString "__next__") ty F.slot_zip_next (wpAny_call_entry F.slot_zip_next ty F.entry_zip_next (zipS_done hh D S1 S2 hz hu hv h1 h2 he fun g e hk hs => ?_) (F.args_zip_next_1 _))))
  obtain ⟨o, ho, hc⟩ := hs
  exact wpAny_bind (wpAny_isInstance (T := "StopIteration") (b := true) ⟨o, ho, hc⟩ isSubtype_stop (wpAny_pure (hR _ hk)))
end
/-! ### a tuple and a list -/
def zTL (h : Heap) (l1 l2 : Addr) : Heap :=
  ((((h.push { cls := .type "tuple_iterator", data := .fields #[.ref l1, .int 0 0] }).push { cls := .type "list_iterator", data := .fields #[.ref l2, .int 0 0] }).push { cls := .type "tuple", data := .seq #[.ref h.objs.size, .ref (h.objs.size + 1)] }).push
    { cls := .type "tuple", data := .seq #[.none, .none] }).push { cls := .type "zip", data := .fields #[.none, .bool false, .bool false, .ref (h.objs.size + 2), .ref (h.objs.size + 3)] }
theorem meets_zipTL (l1 l2 : Addr) (xs ys : Array Value) : Meets (Builtin.«zip.__new__» ⟨[.type "zip", .ref l1, .ref l2], []⟩) (fun _ R s => s.heap.IsTuple l1 xs ∧ s.heap.IsList l2 ys ∧ R (.ok (.ret (.ref (s.heap.objs.size + 4)))) { s with heap := zTL s.heap l1 l2 }) :=
  .of_wp fun P w A R s h => by
    obtain ⟨hp, g, d, tk, os⟩ := s; obtain ⟨q1, q2, q3⟩ := h
    have sub := sub_zip
    have t1 : Heap.IsTuple (Shared.heap ⟨hp, g, d, tk, os⟩) l1 xs := q1
    have t2 : Heap.IsList (Shared.heap ⟨hp.push { cls := .type "tuple_iterator", data := .fields #[.ref l1, .int 0 0] }, g, d, tk, os⟩) l2 ys := Heap.IsList.push q2 _
    wp_walk using wpAny_pyIter_tuple t1, wpAny_pyIter_list t2
    refine ⟨_, rfl, ?_⟩
    simpa [zTL, Heap.size_push, Builtin.SmallTypes.ownedTupleFields, Nat.add_assoc] using q3
theorem zTL_at (h : Heap) (l1 l2 : Addr) : IsZip (zTL h l1 l2) (h.objs.size + 4) (h.objs.size + 2) (h.objs.size + 3) .none ∧ IsPair (zTL h l1 l2) (h.objs.size + 2) (.ref h.objs.size) (.ref (h.objs.size + 1)) ∧ IsPair (zTL h l1 l2) (h.objs.size + 3) .none .none ∧
    (zTL h l1 l2).IsTupleIter h.objs.size l1 0 ∧ (zTL h l1 l2).IsListIter (h.objs.size + 1) l2 0 ∧ ∀ c o, h.get? c = some o → (zTL h l1 l2).get? c = some o := by
  have key : ∀ (g : Heap) (o : Obj) (n : Nat), g.objs.size = n → o.isFreed = false → (g.push o).get? n = some o := fun g o n e f => by subst e; exact Heap.get?_push_size _ f
  unfold zTL
  refine ⟨key _ _ _ (by simp [Heap.size_push]) rfl, Heap.get?_push_of_some _ (Heap.get?_push_of_some _ (key _ _ _ (by simp [Heap.size_push]) rfl)), Heap.get?_push_of_some _ (key _ _ _ (by simp [Heap.size_push]) rfl), ⟨_, Heap.get?_push_of_some _ (Heap.get?_push_of_some _ (Heap.get?_push_of_some _ (Heap.get?_push_of_some _ (key _ _ _ rfl rfl)))), rfl, rfl⟩,
    ⟨_, Heap.get?_push_of_some _ (Heap.get?_push_of_some _ (Heap.get?_push_of_some _ (key _ _ _ (by simp [Heap.size_push]) rfl))), rfl, rfl⟩, fun c o e => Heap.get?_push_of_some _ (Heap.get?_push_of_some _ (Heap.get?_push_of_some _ (Heap.get?_push_of_some _ (Heap.get?_push_of_some _ e))))⟩
theorem call_zTL {P : Program} {w : World} {A : Around} {E : Value → Shared → Prop} {s : Shared} {l1 l2 : Addr} {xs ys : Array Value} {R : Value → Shared → Prop} (q1 : s.heap.IsTuple l1 xs) (q2 : s.heap.IsList l2 ys) (h : R (.ref (s.heap.objs.size + 4)) { s with heap := zTL s.heap l1 l2 }) :
    wpAny (model P w) A (call (.type "zip") [.ref l1, .ref l2]) R E s := by
  refine callType_new F.called_zip (by decide) (F.typeCall_zip_2 _ _) (F.newCall_zip_2 _ _) (fun o => F.args_object_init_3 o _ _) F.entry_zip_new (meets_zipTL l1 l2 xs ys) ⟨q1, q2, ?_⟩
  exact ⟨⟨_, (zTL_at s.heap l1 l2).1, rfl⟩, h⟩
end Q
end

section
set_option Elab.async false
set_option linter.all false
set_option maxRecDepth 100000
set_option maxHeartbeats 3900000
/-! N4: for over range(a, b), over enumerate; an own list that is lent. -/
namespace Q
open PySem L2
variable {Z : Zt} {ρ : Rho} {σ : St} {H H' : Hp} {O : Out} {P : D → Nat → Prop} {e a b : Expr} {pos p px py pt pr pc : Pos} {x y : Str} {l : List Stmt} {kk : Nat}
/-- for i in range(a, b) -/
theorem st_range2 {i : Nat} (ok : Zok Z) (hg : Gl Z.X "range") (hm : Z.X.mg "range" = none)
    (h : EA Z ρ [a, b] fun ds c => ∃ lo hi : Nat, ds = [.int (lo : Nat), .int (hi : Nat)] ∧ lo ≤ hi ∧ hi < 2 ^ 62 ∧ spins (fun ρ y K => SS Z (ρ.set i (.int y)) l ⟨K, O.nx, K⟩) O.nx (hi - lo) (lo : Nat) (ρ.wc c))
    (h1 : starEach [a, b] Z.X.env = [(false, eval a Z.X.env), (false, eval b Z.X.env)] := by rfl) (h2 : starEach [b] Z.X.env = [(false, eval b Z.X.env)] := by rfl) (hi : Z.X.N[i]? = some x := by rfl) (hx : Loc Z.X.env.scope x := by first | exact Or.inl rfl | exact Or.inr rfl)
    (hf : Z.X.fn x = true ∨ Z.X.env.scope.names.lookup x = some .local := by first | exact .inl rfl | exact .inr rfl) (hc : Z.X.calm = true := by rfl) : ST Z ρ (.For (.Name x px) (.Call (.Name "range" pr) [a, b] [] pc) l [] pos) O :=
  st_of (ps_for ok.po hc (pi_range2 hg hm pa_any h1 h2) (pg_name ok.nd hi hx hf) pss_any) fun D' σ H S q => ea_any h S fun vs H1 ds c S1 e1 r ⟨lo, up, hd, hle, hlt, ht⟩ => by
    subst hd
    obtain ⟨v, v2, rfl, hv, hv2⟩ := pr2 r
    cases hv
    cases hv2
    refine ⟨(lo : Int), (up : Int), rfl, ⟨by omega, by omega, by omega, by omega⟩, ?_⟩
    have en : ((up : Int) - (lo : Int)).toNat = up - lo := by omega
    rw [en]
    refine ⟨fun j m σ' H' => ∃ ρ', SR Z ρ' σ' H' ∧ j + m = up - lo ∧ spins (fun ρ y K => SS Z (ρ.set i (.int y)) l ⟨K, O.nx, K⟩) O.nx m ((lo : Int) + (j : Int)) ρ', ⟨up - lo, ρ.wc c, S1, Nat.zero_add _, by rw [show ((lo : Int) + ((0 : Nat) : Int)) = (lo : Int) by omega]; exact ht⟩, fun j m σ' H' ⟨ρ', S', hn, ht'⟩ => ?_⟩
    cases m with
    | zero => exact .inl ⟨by show up - lo ≤ j; omega, q.nx _ _ _ S' ht'⟩
    | succ m =>
      refine .inr ⟨by show j < up - lo; omega, fun σ2 H2 => ∃ ρ2, SR Z ρ2 σ2 H2 ∧ spins (fun ρ y K => SS Z (ρ.set i (.int y)) l ⟨K, O.nx, K⟩) O.nx m ((lo : Int) + (j : Int) + 1) ρ2, fun σ2 H2 ⟨ρ2, S2, t2⟩ => ⟨m, by omega, ρ2, S2, by omega, (by rw [show ((lo : Int) + ((j + 1 : Nat) : Int)) = (lo : Int) + (j : Int) + 1 by omega]; exact t2)⟩, fun x2 H2 hy2 => ?_⟩
      obtain ⟨rfl, rfl⟩ := hy2
      exact ss_any ht' (S'.set i (slot_of (d := .int ((lo : Int) + (j : Int))) rfl)) ⟨fun σ H r S x => ⟨r, S, x⟩, fun σ H r S x => q.nx σ H r S x, fun σ H r S x => ⟨r, S, x⟩, q.rt⟩
/-- what a call leaves as it was, with o seen in between, it leaves with o hidden -/
theorem back_hidden {B B' : Bm} {o : Addr} {xs : List V} {c : Nat} (hb : B o = some (some (.lst xs))) (hB : ∀ a, B' a = if a = o then none else B a) (fix : H o = some (.lst xs)) (ok : okW B' c H') (e : Same (vis B' H) (vis B' H')) : okW B c H' ∧ Same (vis B H) (vis B H') := by
  have at_o : H' o = some (.lst xs) := vis_some (e _ _ (vis_of fix (by rw [hB, if_pos rfl])))
  refine ⟨⟨fun a q => ?_, fun a u q => ?_⟩, fun a u q => ?_⟩
  · refine ok.box a ?_
    rw [hB, if_neg (fun z => by subst z; rw [hb] at q; cases q)]
    exact q
  · by_cases z : a = o
    · subst z
      rw [hb] at q
      cases q
      exact at_o
    · refine ok.fix a u ?_
      rw [hB, if_neg z]
      exact q
  · have q1 := vis_some q
    have q2 : B a = none := by
      cases z : B a with
      | none => rfl
      | some k =>
        unfold vis at q
        rw [z] at q
        cases q
    have z : a ≠ o := fun z => by subst z; rw [hb] at q2; cases q2
    have := e _ _ (vis_of (B := B') q1 (by rw [hB, if_neg z]; exact q2))
    exact vis_of (vis_some this) q2
end Q
end

section
set_option Elab.async false
set_option linter.all false
set_option maxRecDepth 100000
set_option maxHeartbeats 3900000
/-! N5: a comprehension over range whose name an inner one reads. -/
namespace Q
open PySem L2
variable {Z : Zt} {ρ : Rho} {σ : St} {H H' : Hp} {O : Out} {P : D → Nat → Prop} {e a b elt : Expr} {pos p px py pz : Pos} {x y : Str} {ifs : List Expr} {scope : Scope}
theorem ev_lcRc (i : Nat) (ok : Zok Z) (hb : BlkOk Z.X.N Z.X.env.scope scope [(x, i)]) (hm : Z.X.mg "range" = none)
    (h : EA Z ρ [a] fun ds c => ∃ n : Nat, ds = [.int (n : Nat)] ∧ n ≤ 100000 ∧ lcs Z scope ρ.s i ifs elt P (rngD n) [] c) (gl : Gl Z.X "range" := by rfl) (hi : Z.X.N[i]? = some x := by rfl) (hx : scope.names.lookup x = some .cell := by rfl)
    (hst : starEach [a] Z.X.env = [(false, eval a Z.X.env)] := by rfl) (hc : Z.X.calm = true := by rfl) (hs : ∀ v, foldedSetIterable (.Call (.Name "range" p) [a] [] pz) Z.X.env v = pure v := by intro _; rfl) :
    EV Z ρ (.ListComp elt [⟨.Name x px, .Call (.Name "range" p) [a] [] pz, ifs, 0⟩] scope pos) P := by
  have loc : ∀ C cl, Loc (compEnvC scope cl C Z.X.env).scope x := fun C cl => .inr (lookup_relS_keep (sc := Z.X.env.scope) (fun z => by cases z) hx)
  have hf : ∀ s H C cl fp, (Z.X.blk s H scope (compEnvC scope cl C Z.X.env) fp).fn x = true := fun s H C cl fp => by
    show (scope.names.lookup x == some .cell) = true
    rw [hx]; rfl
  refine ev_of (pe_lc (wi := iRng1 (taAny Z.X [a])) (g := gName i) (tt := tLcTest Z.X scope ifs) (te := tLcElt Z.X scope elt) hc ok.nd (pi_range1 gl hm pa_any hst) hb (fun s H C cl fp => pg_name ok.nd hi (loc C cl) (.inl (hf s H C cl fp)))
    (fun s H C cl fp => ⟨fun pins s' σ H' Q I h => let ⟨t, p, q⟩ := h s H C cl fp; p.run pins s' σ H' Q I q⟩) (fun s H C cl fp => ⟨fun pins s' σ H' Q I h => pe_any.run pins s' σ H' Q I (h s H C cl fp)⟩) hs) fun σ H Q S k => lc_tR i ok h S k
section
variable (i : Nat) {n : Nat} {g : D → D}
theorem eq_lcR (ok : Zok Z) (hb : BlkOk Z.X.N Z.X.env.scope scope [(x, i)]) (hm : Z.X.mg "range" = none) (h : EQ Z ρ a (.int (n : Nat))) (hn : n ≤ 100000)
    (hg : ∀ y ∈ rngD n, plain (g y) = true ∧ ∀ B s1 H1 C cl fp, Zok (Z.blk s1 H1 scope C cl fp) → EQ (Z.blk s1 H1 scope C cl fp) ⟨B, (ρ.s.set i none).set i (some y), ρ.c⟩ elt (g y))
    (gl : Gl Z.X "range" := by rfl) (hi : Z.X.N[i]? = some x := by rfl) (hx : scope.names.lookup x = some .local := by rfl) (hst : starEach [a] Z.X.env = [(false, eval a Z.X.env)] := by rfl) (hc : Z.X.calm = true := by rfl)
    (hs : ∀ v, foldedSetIterable (.Call (.Name "range" p) [a] [] pz) Z.X.env v = pure v := by intro _; rfl) : EQ Z ρ (.ListComp elt [⟨.Name x px, .Call (.Name "range" p) [a] [] pz, [], 0⟩] scope pos) (.lst ((rngD n).map g)) :=
  ev_lcR i ok hb hm (AQ.to (aq_cons h aq_nil hst) ⟨n, rfl, hn, lcs_map _ [] ρ.c (by simp [rngD]; omega) hg ⟨rfl, rfl⟩⟩) gl hi hx hst hc hs
theorem eq_lcRc (ok : Zok Z) (hb : BlkOk Z.X.N Z.X.env.scope scope [(x, i)]) (hm : Z.X.mg "range" = none) (h : EQ Z ρ a (.int (n : Nat))) (hn : n ≤ 100000)
    (hg : ∀ y ∈ rngD n, plain (g y) = true ∧ ∀ B s1 H1 C cl fp, Zok (Z.blk s1 H1 scope C cl fp) → EQ (Z.blk s1 H1 scope C cl fp) ⟨B, (ρ.s.set i none).set i (some y), ρ.c⟩ elt (g y))
    (gl : Gl Z.X "range" := by rfl) (hi : Z.X.N[i]? = some x := by rfl) (hx : scope.names.lookup x = some .cell := by rfl) (hst : starEach [a] Z.X.env = [(false, eval a Z.X.env)] := by rfl) (hc : Z.X.calm = true := by rfl)
    (hs : ∀ v, foldedSetIterable (.Call (.Name "range" p) [a] [] pz) Z.X.env v = pure v := by intro _; rfl) : EQ Z ρ (.ListComp elt [⟨.Name x px, .Call (.Name "range" p) [a] [] pz, [], 0⟩] scope pos) (.lst ((rngD n).map g)) :=
  ev_lcRc i ok hb hm (AQ.to (aq_cons h aq_nil hst) ⟨n, rfl, hn, lcs_map _ [] ρ.c (by simp [rngD]; omega) hg ⟨rfl, rfl⟩⟩) gl hi hx hst hc hs
end
end Q
end

section
set_option Elab.async false
set_option linter.all false
set_option maxRecDepth 100000
set_option maxHeartbeats 3900000
/-! N6: for x, y in enumerate(a list). -/
namespace Q
open PySem L2
variable {Z : Zt} {ρ : Rho} {σ : St} {H H' : Hp} {O : Out} {P : D → Nat → Prop} {e a b : Expr} {pos p px py pt pc : Pos} {x y : Str} {l : List Stmt} {kk : Nat}
def turns2 (body : Rho → D → D → (Rho → Prop) → Prop) (N : Rho → Prop) : List (D × D) → Rho → Prop
  | [], ρ => N ρ
  | d :: r, ρ => body ρ d.1 d.2 (fun ρ' => turns2 body N r ρ')
theorem enum_len (l : List D) : (enumD l).length = l.length := by simp [enumD]
theorem enum_at {l : List D} {j : Nat} (h : j < l.length) : (enumD l)[j]'(by rw [enum_len]; exact h) = (.int (j : Nat), l[j]) := by simp [enumD]
theorem st_forE (i i2 : Nat) (ok : Zok Z) (hm : Z.X.mg "enumerate" = none)
    (h : EA Z ρ [a] fun ds c => ∃ d l', ds = [d] ∧ items d = some l' ∧ ∀ v, turns2 (fun ρ y y2 K => SS (Z.gh d v) ((ρ.set i y).set i2 y2) l ⟨K, O.nx, K⟩) O.nx (enumD l') (ρ.wc c))
    (gl : Gl Z.X "enumerate" := by rfl) (hi : Z.X.N[i]? = some x := by rfl) (hi2 : Z.X.N[i2]? = some y := by rfl) (hx : Loc Z.X.env.scope x := by first | exact Or.inl rfl | exact Or.inr rfl) (hy : Loc Z.X.env.scope y := by first | exact Or.inl rfl | exact Or.inr rfl)
    (fx : Z.X.fn x = true ∨ Z.X.env.scope.names.lookup x = some .local := by first | exact .inl rfl | exact .inr rfl) (fy : Z.X.fn y = true ∨ Z.X.env.scope.names.lookup y = some .local := by first | exact .inl rfl | exact .inr rfl)
    (hz : starEach [a] Z.X.env = (false, eval a Z.X.env) :: starEach [] Z.X.env := by rfl) (hs : ∀ v, foldedSetIterable (.Call (.Name "enumerate" p) [a] [] pc) Z.X.env v = pure v := by intro _; rfl) (hc : Z.X.calm = true := by rfl)
    (hn : (assignEach [.Name x px, .Name y py] Z.X.env).length = 2 := by rfl) (hst : (assignEach [.Name x px, .Name y py] Z.X.env).findIdx? (·.1) = none := by rfl)
    (a1 : (assignEach [.Name x px, .Name y py] Z.X.env).map (·.2) = assign (.Name x px) Z.X.env :: (assignEach [.Name y py] Z.X.env).map (·.2) := by rfl)
    (a2 : (assignEach [.Name y py] Z.X.env).map (·.2) = assign (.Name y py) Z.X.env :: (assignEach [] Z.X.env).map (·.2) := by rfl) :
    ST Z ρ (.For (.Tuple [.Name x px, .Name y py] kk pt) (.Call (.Name "enumerate" p) [a] [] pc) l [] pos) O :=
  st_of (ps_for ok.po hc (pi_enum gl hm pa_any hz) (pg_tup (n := 2) hc (pgs_cons (pg_name ok.nd hi hx fx) (pgs_cons (pg_name ok.nd hi2 hy fy) pgs_nil a2) a1) hn hst) pss_any (hs := hs)) fun D' σ H S q => ea_any h S fun vs H1 ds c S1 e1 r ⟨d, l', hds, hl, ht⟩ => by
    subst hds
    obtain ⟨v, rfl, r1⟩ := pr1 r
    have r0 := val_rep r1 (items_plain hl)
    obtain ⟨b, xs, rfl, hs, hr⟩ := items_at hl r0
    rw [ok.K]
    refine ⟨b, xs, rfl, seqS vis_same hs, ?_⟩
    have Sg : SR (Z.gh d (.ref b)) (ρ.wc c) σ H1 := S1.gh_in r0
    have stay : ∀ {ρ' : Rho} {σ' : St} {H' : Hp}, SR (Z.gh d (.ref b)) ρ' σ' H' → ∃ ys, SqL Z.T.K H' b ys ∧ reps Z.T (vis ρ'.B H') l' ys := fun S' => by
      obtain ⟨a', ys, e, h1, h2⟩ := items_at hl S'.gh_at
      cases e
      exact ⟨ys, seqS vis_same h1, h2⟩
    refine ⟨fun j n σ' H' => ∃ ρ', SR (Z.gh d (.ref b)) ρ' σ' H' ∧ j + n = l'.length ∧ turns2 (fun ρ y y2 K => SS (Z.gh d (.ref b)) ((ρ.set i y).set i2 y2) l ⟨K, O.nx, K⟩) O.nx ((enumD l').drop j) ρ', ⟨l'.length, ρ.wc c, Sg, Nat.zero_add _, ht _⟩, fun j n σ' H' ⟨ρ', S', hn', ht'⟩ => ?_⟩
    obtain ⟨ys, hy', hry⟩ := stay S'
    cases n with
    | zero =>
      have hd : (enumD l').drop j = [] := List.drop_of_length_le (by rw [enum_len]; omega)
      rw [hd] at ht'
      exact .inl ⟨⟨ys, hy', by rw [hry.len]; omega⟩, q.nx _ _ _ S'.gh_out ht'⟩
    | succ n =>
      have hj : j < l'.length := by omega
      have hd : (enumD l').drop j = (.int (j : Nat), l'[j]) :: (enumD l').drop (j + 1) := by
        rw [List.drop_eq_getElem_cons (by rw [enum_len]; exact hj), enum_at hj]
      rw [hd] at ht'
      obtain ⟨w, hw, rw_⟩ := hry.get (List.getElem?_eq_getElem hj)
      refine .inr ⟨⟨ys, w, hy', hw⟩, fun σ2 H2 => ∃ ρ2, SR (Z.gh d (.ref b)) ρ2 σ2 H2 ∧ turns2 (fun ρ y y2 K => SS (Z.gh d (.ref b)) ((ρ.set i y).set i2 y2) l ⟨K, O.nx, K⟩) O.nx ((enumD l').drop (j + 1)) ρ2, fun σ2 H2 ⟨ρ2, S2, t2⟩ => ⟨n, by omega, ρ2, S2, by omega, t2⟩, fun x2 H2 hy2 => ?_⟩
      obtain ⟨T, x3, rfl, hT, rfl, fv⟩ := hy2
      have ex : x3 = w := Option.some.inj ((fv ys hy').symm.trans hw)
      subst ex
      have S2 : SR (Z.gh d (.ref b)) ρ' σ' (upd H' T (.tup [.int (j : Nat), x3])) := S'.same (same_new hT)
      have rw2 := rw_.mono (Same.vis_ (B := ρ'.B) (same_new (o := .tup [.int (j : Nat), x3]) hT))
      exact ⟨T, [.int (j : Nat), x3], rfl, .inl (.inl upd_same), rfl, .int (j : Nat), [x3], rfl, x3, [], rfl, rfl, ss_any (Z := Z.gh d (.ref b)) ht' ((S2.set i (slot_of (d := .int (j : Nat)) rfl)).set i2 (slot_of (.of rw2))) ⟨fun σ H r S x => ⟨r, S, x⟩, fun σ H r S x => q.nx σ H r S.gh_out x, fun σ H r S x => ⟨r, S, x⟩, fun σ H r v d S => q.rt σ H r v d S.gh_out⟩⟩
end Q
end

section
set_option Elab.async false
set_option linter.all false
set_option maxRecDepth 100000
set_option maxHeartbeats 3900000
/-! N7: x[a], x[b] = e, x an own list. -/
namespace Q
open PySem L2
variable {Z : Zt} {ρ : Rho} {σ : St} {H H' : Hp} {O : Out} {e a b : Expr} {pos p p1 p2 q1 q2 pt : Pos} {x : Str} {kt : Nat}
theorem set_same {σ : St} {i : Nat} {v : V} (h : σ[i]? = some (some v)) : σ.set i (some v) = σ := by
  apply List.ext_getElem?
  intro j
  by_cases hj : j = i
  · subst hj
    rw [List.getElem?_set_self (List.getElem?_eq_some_iff.mp h).1, h]
  · rw [List.getElem?_set_ne (fun z => hj z.symm)]
theorem st_swp (i : Nat) {o : Addr} {l : List D} {d1 d2 : D} {k1 k2 : Int} {j1 j2 : Nat} (ok : Zok Z) (hs : ρ.s[i]? = some (some (.own o l))) (n0 : Z.B0 o = none) (one : ∀ j l', ρ.s[j]? = some (some (.own o l')) → j = i)
    (he : EQ Z ρ e (.tup [d1, d2])) (ha : EQ Z ρ a (.int k1)) (hb : ∀ B' l', EQ Z ⟨B', ρ.s.set i (some (.own o l')), ρ.c⟩ b (.int k2)) (h1 : ixN l.length k1 = some j1) (h2 : ixN l.length k2 = some j2)
    (hx : ∀ B', O.nx ⟨B', ρ.s.set i (some (.own o ((l.set j1 d1).set j2 d2))), ρ.c⟩) (hN : Z.X.N[i]? = some x := by rfl)
    (hv : Vis Z.X.env.scope x := by first | exact Or.inl rfl | exact Or.inr (Or.inl rfl) | exact Or.inr (Or.inr rfl)) (hd : (x == ("__debug__" : Str)) = false := by decide)
    (hcd : (x == ("__classdict__" : Str)) = false := by decide) (hc : Z.X.calm = true := by rfl)
    (hsw : swapsWithSole [.Tuple [.Subscript (.Name x p1) a q1, .Subscript (.Name x p2) b q2] kt pt] e pos.line Z.X.env = pure false := by rfl) (hw : swappedStores [.Tuple [.Subscript (.Name x p1) a q1, .Subscript (.Name x p2) b q2] kt pt] e Z.X.env = pure none := by rfl)
    (h0 : (assignEach [.Tuple [.Subscript (.Name x p1) a q1, .Subscript (.Name x p2) b q2] kt pt] Z.X.env).map (·.2) = [assign (.Tuple [.Subscript (.Name x p1) a q1, .Subscript (.Name x p2) b q2] kt pt) Z.X.env] := by rfl)
    (hn : (assignEach [.Subscript (.Name x p1) a q1, .Subscript (.Name x p2) b q2] Z.X.env).length = 2 := by rfl) (hst : (assignEach [.Subscript (.Name x p1) a q1, .Subscript (.Name x p2) b q2] Z.X.env).findIdx? (·.1) = none := by rfl)
    (a1 : (assignEach [.Subscript (.Name x p1) a q1, .Subscript (.Name x p2) b q2] Z.X.env).map (·.2) = assign (.Subscript (.Name x p1) a q1) Z.X.env :: (assignEach [.Subscript (.Name x p2) b q2] Z.X.env).map (·.2) := by rfl)
    (a2 : (assignEach [.Subscript (.Name x p2) b q2] Z.X.env).map (·.2) = assign (.Subscript (.Name x p2) b q2) Z.X.env :: (assignEach [] Z.X.env).map (·.2) := by rfl)
    (u1 : ∀ v, assign (.Subscript (.Name x p1) a q1) Z.X.env v = (do
      let ov ← holding [v] (eval (.Name x p1) Z.X.env); let iv ← holding [v, ov] (eval a Z.X.env); standAt q1; holding [v, ov, iv] (setItem ov iv v); release [v, ov, iv] []) := by intro _; rfl)
    (u2 : ∀ v, assign (.Subscript (.Name x p2) b q2) Z.X.env v = (do
      let ov ← holding [v] (eval (.Name x p2) Z.X.env); let iv ← holding [v, ov] (eval b Z.X.env); standAt q2; holding [v, ov, iv] (setItem ov iv v); release [v, ov, iv] []) := by intro _; rfl) :
    ST Z ρ (.Assign [.Tuple [.Subscript (.Name x p1) a q1, .Subscript (.Name x p2) b q2] kt pt] e pos) O :=
  st_of (ps_asg pe_any (pg_tup (n := 2) hc (pgs_cons (pg_sub (pe_var (i := i) hN hv hd hcd) pe_any set_list u1) (pgs_cons (pg_sub (pe_var (i := i) hN hv hd hcd) pe_any set_list u2) pgs_nil a2) a1) hn hst) hsw hw h0) fun D' σ H S kq => eq_any he S fun v H1 S1 e1 r1 => by
    obtain ⟨q, vs, rfl, g2, g3⟩ := r1
    obtain ⟨v1, r1', rfl, m1, v2, r2', rfl, m2, m3⟩ := g3
    have e4 : r2' = [] := m3
    subst e4
    rw [ok.K]
    refine ⟨q, _, rfl, .inl (.inl (vis_some g2)), rfl, v1, _, rfl, ?_⟩
    obtain ⟨w0, g4, rfl, ws, hb0, hr0⟩ := S1.sl.get hs
    refine ⟨.ref o, g4, eq_any ha S1 fun w H2 S2 e2 r2 => ?_⟩
    cases r2
    obtain ⟨w1, g5, e5, ws1, hb1, hr1⟩ := S2.sl.get hs
    obtain ⟨B1, S3, v3⟩ := S2.put hb1 n0 i hs (hr1.set j1 (m1.mono e2)) one
    refine ⟨o, ws1, k1, j1, rfl, rfl, S2.ok.fix _ _ hb1, by rw [hr1.len]; exact h1, v2, _, rfl, ?_⟩
    have i_lt : i < ρ.s.length := (List.getElem?_eq_some_iff.mp hs).1
    have hs3 : (ρ.s.set i (some (.own o (l.set j1 d1))))[i]? = some (some (.own o (l.set j1 d1))) := List.getElem?_set_self i_lt
    have one3 : ∀ j l', (ρ.s.set i (some (.own o (l.set j1 d1))))[j]? = some (some (.own o l')) → j = i := fun j l' hj => by
      by_cases z : j = i
      · exact z
      · rw [List.getElem?_set_ne (fun q => z q.symm)] at hj
        exact one j l' hj
    refine ⟨.ref o, g4, eq_any (hb B1 (l.set j1 d1)) S3 fun w H3 S4 e4 r4 => ?_⟩
    cases r4
    obtain ⟨w2, g6, e6, ws2, hb2, hr2⟩ := S4.sl.get hs3
    obtain ⟨B2, S5, v5⟩ := S4.put hb2 n0 i hs3 (hr2.set j2 ((show rep Z.T (vis B1 (upd H2 o (.lst (ws1.set j1 v1)))) d2 v2 by rw [v3]; exact m2.mono e2).mono e4)) one3
    refine ⟨o, ws2, k2, j2, rfl, rfl, S4.ok.fix _ _ hb2, by rw [hr2.len, List.length_set]; exact h2, rfl, ?_⟩
    have hh := hx B2
    have fin : (ρ.s.set i (some (.own o (l.set j1 d1)))).set i (some (.own o ((l.set j1 d1).set j2 d2))) = ρ.s.set i (some (.own o ((l.set j1 d1).set j2 d2))) := List.set_set ..
    rw [← fin] at hh
    exact kq.nx _ _ _ S5 hh
end Q
end

section
set_option Elab.async false
set_option linter.all false
set_option maxRecDepth 100000
set_option maxHeartbeats 3900000
/-! N8: an own list is lent to what tells an integer. -/
namespace Q
open PySem L2
variable {Z : Zt} {ρ : Rho} {σ : St} {H H' : Hp} {O : Out} {P : D → Nat → Prop} {e : Expr}
theorem SR.freeB {o : Addr} {xs : List V} (S : SR Z ρ σ H) (n0 : Z.B0 o = none) (i : Nat) {l : List D} (hs : ρ.s[i]? = some (some (.own o l)))
    (one : ∀ j l', ρ.s[j]? = some (some (.own o l')) → j = i) : SR Z (ρ.own (fun a => if a = o then none else ρ.B a) i (.lst l)) σ H := by
  let B' : Bm := fun a => if a = o then none else ρ.B a
  obtain ⟨v0, g1, rfl, vs, hb, hr⟩ := S.sl.get hs
  have grow : Same (vis ρ.B H) (vis B' H) := fun a u q => by
    have q1 := vis_some q
    have q2 : ρ.B a = none := by
      cases e : ρ.B a with
      | none => rfl
      | some x =>
        unfold vis at q
        rw [e] at q
        cases q
    refine vis_of q1 ?_
    show (if a = o then none else ρ.B a) = none
    split
    · rfl
    · exact q2
  have hv : vis B' H o = some (.lst vs) := vis_of (S.ok.fix _ _ hb) (if_pos rfl)
  refine ⟨⟨fun a q => ?_, fun a u q => ?_⟩, fun a q => ?_, fun a u q => grow _ _ (S.ex a u q), ?_, fun p hp => (S.gh p hp).mono grow⟩
  · have q' : (if a = o then none else ρ.B a) = some none := q
    by_cases e : a = o
    · rw [if_pos e] at q'
      cases q'
    · rw [if_neg e] at q'
      exact S.ok.box a q'
  · have q' : (if a = o then none else ρ.B a) = some (some u) := q
    by_cases e : a = o
    · rw [if_pos e] at q'
      cases q'
    · rw [if_neg e] at q'
      exact S.ok.fix a u q'
  · show (if a = o then none else ρ.B a) = _
    rw [if_neg (fun z => by subst z; exact q n0)]
    exact S.le a q
  · show slots Z.T B' (vis B' H) (ρ.s.set i (some (.lst l))) σ
    have key : ∀ (s : List (Option D)) (σ : St) (k : Nat), slots Z.T ρ.B (vis ρ.B H) s σ → (∀ j l', s[j]? = some (some (.own o l')) → j + k = i) → (∀ j, j + k = i → s[j]? = some (some (.own o l))) →
        slots Z.T B' (vis B' H) (if i < k then s else s.set (i - k) (some (.lst l))) σ := by
      intro s
      induction s with
      | nil =>
        intro σ k h _ _
        have e : σ = [] := h
        subst e
        split
        · exact rfl
        · simp [slots]
      | cons d s ih =>
        intro σ k h h1 h2
        have next := fun (σ' : St) (h' : slots Z.T ρ.B (vis ρ.B H) s σ') => ih σ' (k + 1) h' (fun j l' q => by have := h1 (j + 1) l' (by simpa using q); omega) (fun j q => by
          have e := h2 (j + 1) (by omega)
          simpa using e)
        by_cases hik : i = k
        · subst hik
          rw [if_neg (Nat.lt_irrefl _), Nat.sub_self]
          have e := h2 0 (by omega)
          have ed : d = some (.own o l) := by simpa using e
          subst ed
          obtain ⟨v, r, rfl, hv', hr'⟩ := h
          obtain ⟨rfl, ws, hw, hrw⟩ := hv'
          have ews : ws = vs := by
            have := hw.symm.trans hb
            cases this
            rfl
          subst ews
          refine ⟨_, r, rfl, ⟨o, ws, rfl, hv, hrw.mono grow⟩, ?_⟩
          have := next r hr'
          rw [if_pos (by omega)] at this
          exact this
        · have hd : ∀ y, d = some y → ∀ v, slotOk Z.T ρ.B (vis ρ.B H) y v → slotOk Z.T B' (vis B' H) y v := fun y hy v hv => by
            cases y <;> first | exact rep.mono grow hv | skip
            · obtain ⟨a, h3, h4⟩ := hv
              refine ⟨a, h3, ?_⟩
              show (if a = o then none else ρ.B a) = _
              rw [if_neg (fun z => by subst z; rw [hb] at h4; cases h4)]
              exact h4
            · obtain ⟨h3, ws, h4, h5⟩ := hv
              refine ⟨h3, ws, ?_, h5.mono grow⟩
              show (if _ = o then none else ρ.B _) = _
              rw [if_neg (fun z => by
                subst z
                have := h1 0 _ (by rw [hy]; rfl)
                omega)]
              exact h4
          have shape : (if i < k then d :: s else (d :: s).set (i - k) (some (.lst l))) = d :: (if i < k + 1 then s else s.set (i - (k + 1)) (some (.lst l))) := by
            by_cases hlt : i < k
            · rw [if_pos hlt, if_pos (by omega)]
            · rw [if_neg hlt, if_neg (by omega), show i - k = (i - (k + 1)) + 1 by omega]
              rfl
          rw [shape]
          cases d with
          | none =>
            obtain ⟨x, r, rfl, hr⟩ := h
            exact ⟨x, r, rfl, next r hr⟩
          | some y =>
            obtain ⟨v, r, rfl, hv, hr⟩ := h
            exact ⟨v, r, rfl, hd y rfl v hv, next r hr⟩
    have := key ρ.s σ 0 S.sl (fun j l' q => by have := one j l' q; omega) (fun j q => by rw [show j = i by omega]; exact hs)
    rw [if_neg (Nat.not_lt_zero _), Nat.sub_zero] at this
    exact this
theorem ev_lend (i : Nat) {o : Addr} {l : List D} (hs : ρ.s[i]? = some (some (.own o l))) (n0 : Z.B0 o = none) (one : ∀ j l', ρ.s[j]? = some (some (.own o l')) → j = i)
    (h : ∀ B', EV Z (ρ.own B' i (.lst l)) e P) (hP : ∀ d c, P d c → ∃ k, d = .int k) : EV Z ρ e P :=
  ev_of pe_any fun σ H Q S k => by
    obtain ⟨v0, g1, rfl, vs, hb, hr⟩ := S.sl.get hs
    have S' := S.freeB (xs := []) n0 i hs one
    refine ev_any (h _) S' fun v H' d c S2 e2 r hp => ?_
    obtain ⟨j, rfl⟩ := hP d c hp
    obtain ⟨ok2, sm⟩ := back_hidden hb (fun _ => rfl) (S.ok.fix _ _ hb) S2.ok e2
    exact k v H' (.int j) c (S.call ok2 sm) sm (show v = .int j from r) hp
end Q
end

section
set_option Elab.async false
set_option linter.all false
set_option maxRecDepth 100000
set_option maxHeartbeats 3900000
/-! N9: a def that tells what is new. -/
namespace Q
open PySem L2
variable {Z : Zt} {ρ : Rho} {σ : St} {H H' : Hp} {O : Out} {rt : D → Nat → Prop} {st : Stmt} {rest : List Stmt} {e : Expr} {pos : Pos}
/-- what a def does; the object it tells was not there before -/
def SpN (T : Tab) (F : Fw) : Sp := fun vs H Q E => ∃ (B : Bm) (c : Nat) (ds : List D) (P : D → Nat → Prop) (R : Er → Nat → Prop), okW B c H ∧ Paired (val T B (vis B H)) ds vs ∧ F ds c P R ∧
  (∀ v H' d c', okW B c' H' → Same (vis B H) (vis B H') → val T B (vis B H') d v → (∀ q, v = .ref q → H q = none) → P d c' → Q v H') ∧
  (∀ e cls dx H' c', okW B c' H' → Same (vis B H) (vis B H') → erRel T (vis B H') e cls dx → R e c' → E cls dx H')
theorem spw_spn {T : Tab} {F : Fw} : ∀ vs H Q E, SpW T F vs H Q E → SpN T F vs H Q E := fun vs H Q E ⟨B, c, ds, P, R, a, b, z, x, y⟩ => ⟨B, c, ds, P, R, a, b, z, fun v H' d c' o s r _ p => x v H' d c' o s r p, y⟩
def OKN (Z : Zt) (rt : D → Nat → Prop) (En : Ends) : Prop := ∀ v σ' H' H2 d r c', SR Z r σ' H' → okW r.B c' H2 → Same (vis r.B H') (vis r.B H2) → rep Z.T (vis r.B H2) d v → (∀ q, v = .ref q → H' q = none) → rt d c' → En.rt v H2
def SSN (Z : Zt) (ρ : Rho) (l : List Stmt) (rt : D → Nat → Prop) : Prop := PSs Z.X l fun En σ H => SR Z ρ σ H ∧ OKN Z rt En
theorem ssn_cons (h : ST Z ρ st ⟨fun r => SSN Z r rest rt, fun _ => False, fun _ => False⟩) (hz : ∀ d c, Z.rt d c → False := by exact fun _ _ z => z) : SSN Z ρ (st :: rest) rt :=
  pss_imp (pss_cons ps_any pss_any) fun En σ H q => st_any h q.1 ⟨fun σ H r S x => ⟨_, x, S, q.2⟩, fun _ _ _ _ z => z.elim, fun _ _ _ _ z => z.elim, fun σ H r v d S z hd => (hz _ _ hd).elim⟩
theorem ssn_ret (h : ∀ σ H Q, SR Z ρ σ H → (∀ v H2 d c', okW ρ.B c' H2 → Same (vis ρ.B H) (vis ρ.B H2) → rep Z.T (vis ρ.B H2) d v → (∀ q, v = .ref q → H q = none) → rt d c' → Q v H2) → tAny Z.X e σ H Q) : SSN Z ρ [.Return (some e) pos] rt :=
  pss_imp (pss_cons (ps_ret pe_any) pss_any) fun En σ H q => h σ H _ q.1 fun v H2 d c' o s r f p => q.2 v σ H H2 d ρ c' q.1 o s r f p
theorem Fun.doesN {P : Program} {w : World} {T : Tab} {mg : Str → Option Value} {base : Heap} {x qual : Str} {st : Stmt} {f : Addr} {fd : FuncData} {N ps : List Str} {k : Nat} {F : Fw} (U : Fun T.K x qual st f fd) (S : FnScope N ps (defScope st))
    (len : ∀ ds c P R, F ds c P R → ds.length = ps.length)
    (body : ∀ (Z : Zt) (c : Nat) (ds : List D) (cdv : Value) (A : Around) (outer : List Env) (s : Shared) (H : Hp) (E : XK) (B : Bm) (R : Er → Nat → Prop) (rt : D → Nat → Prop),
      Z = zBody P w T mg base N qual (defScope st) f cdv A outer s H E B R (fun _ _ => False) → Zok Z → RoomG k Z.X.A → F ds c rt R → SSN Z ⟨B, entry N ds, c⟩ (defBody st) rt) :
    FnGk P w T.K mg base (L2.CX P w) (k + 1) f fd ps (SpN T F) := by
  refine okG U S (fun vs H Q E h => ?_) (fun cdv A outer s H vs Q E hr h => ?_)
  · obtain ⟨B, c, ds, P, R, _, r, h, _⟩ := h
    rw [pr_len r]
    exact len _ _ _ _ h
  · obtain ⟨B, c, ds, rt, R, ok, r, h, hQ, hE⟩ := h
    have fin : ∀ {ρ : Rho} {σ' : St} {H' : Hp}, SR (zBody P w T mg base N qual (defScope st) f cdv A outer s H E B R (fun _ _ => False)) ρ σ' H' → okW B ρ.c H' ∧ Same (vis B H) (vis B H') ∧ ∀ {d v}, rep T (vis ρ.B H') d v → rep T (vis B H') d v := fun {ρ σ' H'} S' => by
      have sub : Same (vis ρ.B H') (vis B H') := fun a o q => by
        refine vis_of (vis_some q) ?_
        cases e : B a with
        | none => rfl
        | some x =>
          have e2 := S'.le a (by show B a ≠ none; rw [e]; intro z; cases z)
          have e3 : ρ.B a = some x := e2.trans e
          unfold vis at q
          rw [e3] at q
          cases q
      refine ⟨⟨fun a q => ?_, fun a o q => ?_⟩, fun a o q => sub _ _ (S'.ex a o q), fun {d v} z => z.mono sub⟩
      · have e2 := S'.le a (by show B a ≠ none; rw [q]; intro z; cases z)
        exact S'.ok.box a (e2.trans q)
      · have e2 := S'.le a (by show B a ≠ none; rw [q]; intro z; cases z)
        exact S'.ok.fix a o (e2.trans q)
    have zok : Zok (zBody P w T mg base N qual (defScope st) f cdv A outer s H E B R (fun _ _ => False)) := by
      refine ⟨Takes.imp (W := fun cls d _ H => E cls d H) (takes_of rfl rfl rfl rfl) (fun cls dx σ' H' z => ?_), passes_of rfl, rfl, S.nd⟩
      obtain ⟨ρ, er, S', h1, h2⟩ := z
      refine hE er cls dx H' ρ.c (fin S').1 (fin S').2.1 ?_ h2
      obtain ⟨h3, h4⟩ := h1
      refine ⟨h3, ?_⟩
      obtain ⟨C, o⟩ := er
      cases o with
      | none => exact h4
      | some fd =>
        obtain ⟨p, v, e1, e2, e3⟩ := h4
        refine ⟨p, v, e1, ?_, (fin S').2.2 e3⟩
        have := (fin S').2.2 (d := .non) (v := .non) rfl
        have sub : Same (vis ρ.B H') (vis B H') := fun a o q => by
          refine vis_of (vis_some q) ?_
          cases e : B a with
          | none => rfl
          | some x =>
            have e2 := S'.le a (by show B a ≠ none; rw [e]; intro z; cases z)
            have e3 : ρ.B a = some x := e2.trans e
            unfold vis at q
            rw [e3] at q
            cases q
        exact sub _ _ e2
    refine ⟨_, body _ c ds cdv A outer s H E B R rt rfl zok hr h, ⟨ok, fun a _ => rfl, fun _ _ z => z, ?_, fun p hp => nomatch hp⟩, fun v σ' H' H2 d r c' S' ok2 sm z fresh hd => ?_⟩
    · show slots T B (vis B H) (entry N ds) (L2.start N vs)
      unfold entry L2.start
      rw [pr_len r]
      exact slots_start _ r
    · have S2 : SR (zBody P w T mg base N qual (defScope st) f cdv A outer s H E B R (fun _ _ => False)) (r.wc c') σ' H2 := S'.call ok2 sm
      refine hQ v H2 d c' (fin S2).1 (fin S2).2.1 (.of ((fin S2).2.2 z)) (fun q hq => ?_) hd
      have hn := fresh q hq
      cases e0 : H q with
      | none => rfl
      | some u =>
        cases eb : B q with
        | none =>
          have := vis_some (S'.ex q u (vis_of e0 eb))
          rw [hn] at this
          cases this
        | some k =>
          have e2 := S'.le q (by show B q ≠ none; rw [eb]; intro z; cases z)
          have e3 : r.B q = some k := e2.trans eb
          rw [S'.ok.fresh hn] at e3
          cases e3

end Q
end

section
set_option Elab.async false
set_option linter.all false
set_option maxRecDepth 100000
set_option maxHeartbeats 3900000
/-! N10: return [e for x, y in enumerate(..)], the list new. -/
namespace Q
open PySem L2
variable {Z : Zt} {ρ : Rho} {σ : St} {H H' : Hp} {O : Out} {rt : D → Nat → Prop} {e a b elt : Expr} {pos p px py pz pt rp : Pos} {x y : Str} {scope : Scope} {kk : Nat}
theorem none_before {H1 : Hp} {q : Addr} {ρ' : Rho} (S1 : SR Z ρ' σ H1) (hB : ρ'.B = ρ.B) (e1 : Same (vis ρ.B H) (vis ρ.B H1)) (h : H1 q = none) : H q = none := by
  cases e0 : H q with
  | none => rfl
  | some u =>
    have b0 : ρ.B q = none := by rw [← hB]; exact S1.ok.fresh h
    have := vis_some (e1 q u (vis_of e0 b0))
    rw [h] at this
    cases this
theorem ssn_lcE (i i2 : Nat) {l1 : List D} {d1 : D} {g : D × D → D} (ok : Zok Z) (hb : BlkOk Z.X.N Z.X.env.scope scope [(x, i), (y, i2)]) (hm : Z.X.mg "enumerate" = none) (h1 : items d1 = some l1) (h : AQ Z ρ [a] [d1]) (len : l1.length ≤ 100000)
    (hg : ∀ y ∈ enumD l1, plain (g y) = true ∧ ∀ B s1 H1 C cl fp, Zok (Z.blk s1 H1 scope C cl fp) → EQ (Z.blk s1 H1 scope C cl fp) ⟨B, st2 ρ.s i i2 y.1 y.2, ρ.c⟩ elt (g y)) (hrt : rt (.lst ((enumD l1).map g)) ρ.c)
    (gl : Gl Z.X "enumerate" := by rfl) (ne : i ≠ i2 := by decide) (hi : Z.X.N[i]? = some x := by rfl) (hi2 : Z.X.N[i2]? = some y := by rfl) (hx : scope.names.lookup x = some .local := by rfl) (hy : scope.names.lookup y = some .local := by rfl) (hc : Z.X.calm = true := by rfl)
    (hz : starEach [a] Z.X.env = (false, eval a Z.X.env) :: starEach [] Z.X.env := by rfl) (hs : ∀ v, foldedSetIterable (.Call (.Name "enumerate" p) [a] [] pz) Z.X.env v = pure v := by intro _; rfl) :
    SSN Z ρ [.Return (some (.ListComp elt [⟨.Tuple [.Name x px, .Name y py] kk pt, .Call (.Name "enumerate" p) [a] [] pz, [], 0⟩] scope pos)) rp] rt := by
  have lx : ∀ C cl, Loc (compEnvC scope cl C Z.X.env).scope x := fun C cl => .inl (lookup_relabel_local hx)
  have ly : ∀ C cl, Loc (compEnvC scope cl C Z.X.env).scope y := fun C cl => .inl (lookup_relabel_local hy)
  refine ssn_ret fun σ H Q S k => ⟨_, pe_lc (own := [(x, i), (y, i2)]) (g := gTup Z.X.K 2 (gCons (gName i) (gCons (gName i2) gNil))) (tt := tLcTest Z.X scope []) (te := tLcElt Z.X scope elt) hc ok.nd (pi_enum gl hm pa_any hz) hb
    (fun s H C cl fp => pg_tup (n := 2) hc (pgs_cons (pg_name ok.nd hi (lx C cl) (.inr (lookup_relabel_local hx))) (pgs_cons (pg_name ok.nd hi2 (ly C cl) (.inr (lookup_relabel_local hy))) pgs_nil rfl) rfl) rfl rfl)
    (fun s H C cl fp => ⟨fun pins s' σ H' Q I h => let ⟨t, p, q⟩ := h s H C cl fp; p.run pins s' σ H' Q I q⟩) (fun s H C cl fp => ⟨fun pins s' σ H' Q I h => pe_any.run pins s' σ H' Q I (h s H C cl fp)⟩) hs, ?_⟩
  refine ea_any (AQ.to (P := fun ds c => ds = [d1] ∧ c = ρ.c) h ⟨rfl, rfl⟩) S fun vs H1 ds c S1 e1 r ⟨hds, hcc⟩ => ?_
  subst hds
  subst hcc
  obtain ⟨v1, rfl, r1⟩ := pr1 r
  obtain ⟨a1, xs, rfl, hsq, hrs⟩ := items_at h1 (val_rep r1 (items_plain h1))
  have hlen : (enumD l1).length = xs.length := by unfold enumD; rw [List.length_zip, List.length_map, List.length_range, hrs.len]; omega
  rw [ok.K]
  refine ⟨a1, xs, rfl, seqS vis_same hsq, fun Dn hd => ?_⟩
  have hL : lcs2 Z scope ρ.s i i2 [] elt (fun d c => d = .lst ((enumD l1).map g) ∧ c = ρ.c) (enumD l1) [] ρ.c := lcs2_map _ [] ρ.c (by rw [List.length_nil]; simp [enumD]; omega) hg ⟨rfl, rfl⟩
  have := lc_w2 ne ok (J := Ite Z.T.K a1) (l := enumD l1) (w := by rw [hlen]; exact walk_enum (xs := xs)) S1 (fun H e => seqS e hsq)
    (fun j hj v hv => by
      cases hv
      have e : (enumD l1)[j].1 = D.int (j : Nat) := by simp [enumD]
      rw [e]; rfl) (fun j hj v hv => by
      have e : (enumD l1)[j].2 = l1[j]'(by rw [hlen, hrs.len] at hj; exact hj) := by simp [enumD]
      rw [e]; exact reps_at hrs (by rw [hlen, hrs.len] at hj; exact hj) hv) hL (Qe := Q) (D := Dn) (fun H2 d c' S3 e3 r3 p => ?_) hd
  · rw [ok.K] at this
    exact this
  · obtain ⟨hd1, hd2⟩ := p
    subst hd1
    refine k (.ref Dn) H2 _ c' S3.ok (fun _ _ q => e3 _ _ (e1 _ _ q)) (val_rep r3 rfl) (fun q hq => ?_) (by rw [hd2]; exact hrt)
    cases hq
    exact none_before S1 rfl e1 hd
end Q
end

section
set_option Elab.async false
set_option linter.all false
set_option maxRecDepth 100000
set_option maxHeartbeats 3900000
/-! P1: what is told with all its new objects. -/
namespace Q
open PySem L2
variable {Z : Zt} {ρ : Rho} {σ : St} {H H' : Hp} {O : Out} {rt : D → Nat → Prop} {P : D → Nat → Prop} {st : Stmt} {rest : List Stmt} {e : Expr} {es : List Expr} {pos p pos' pos2 : Pos} {k j : Nat} {f : Addr} {F : Fw} {x n name : Str}
/-- the objects of a datum that are named -/
def adr : D → List Addr
  | .lsa a bs _ => a :: bs
  | _ => []
def SpM (T : Tab) (F : Fw) : Sp := fun vs H Q E => ∃ (B : Bm) (c : Nat) (ds : List D) (P : D → Nat → Prop) (R : Er → Nat → Prop), okW B c H ∧ Paired (val T B (vis B H)) ds vs ∧ F ds c P R ∧
  (∀ v H' d c', okW B c' H' → Same (vis B H) (vis B H') → val T B (vis B H') d v → (∀ q ∈ adr d, H q = none) → P d c' → Q v H') ∧
  (∀ e cls dx H' c', okW B c' H' → Same (vis B H) (vis B H') → erRel T (vis B H') e cls dx → R e c' → E cls dx H')
theorem rep.lsa {T : Tab} {G : Hp} {a : Addr} {bs : List Addr} {l : List D} {v : V} (h : rep T G (.lsa a bs l) v) : rep T G (.lst l) v := ⟨a, _, h.1, h.2.1, h.2.2.2⟩
/-- the same, told as a list -/
def lstF (F : Fw) : Fw := fun ds c P R => F ds c (fun d c => ∃ a bs l, d = .lsa a bs l ∧ P (.lst l) c) R
theorem spm_lst {T : Tab} {F : Fw} : ∀ vs H Q E, SpW T (lstF F) vs H Q E → SpM T F vs H Q E := fun vs H Q E ⟨B, c, ds, P, R, a, b, z, x, y⟩ => ⟨B, c, ds, _, R, a, b, z, fun v H' d c' o s r _ ⟨_, _, l, hd, hp⟩ => by
  subst hd
  exact x v H' (.lst l) c' o s (.of (rep.lsa r)) hp, y⟩
def OKM (Z : Zt) (rt : D → Nat → Prop) (En : Ends) : Prop := ∀ v σ' H' H2 d r c', SR Z r σ' H' → okW r.B c' H2 → Same (vis r.B H') (vis r.B H2) → rep Z.T (vis r.B H2) d v → (∀ q ∈ adr d, H' q = none) → rt d c' → En.rt v H2
def SSM (Z : Zt) (ρ : Rho) (l : List Stmt) (rt : D → Nat → Prop) : Prop := PSs Z.X l fun En σ H => SR Z ρ σ H ∧ OKM Z rt En
theorem ssm_cons (h : ST Z ρ st ⟨fun r => SSM Z r rest rt, fun _ => False, fun _ => False⟩) (hz : ∀ d c, Z.rt d c → False := by exact fun _ _ z => z) : SSM Z ρ (st :: rest) rt :=
  pss_imp (pss_cons ps_any pss_any) fun En σ H q => st_any h q.1 ⟨fun σ H r S x => ⟨_, x, S, q.2⟩, fun _ _ _ _ z => z.elim, fun _ _ _ _ z => z.elim, fun σ H r v d S z hd => (hz _ _ hd).elim⟩
theorem ssm_ret (h : ∀ σ H Q, SR Z ρ σ H → (∀ v H2 d c', okW ρ.B c' H2 → Same (vis ρ.B H) (vis ρ.B H2) → rep Z.T (vis ρ.B H2) d v → (∀ q ∈ adr d, H q = none) → rt d c' → Q v H2) → tAny Z.X e σ H Q) : SSM Z ρ [.Return (some e) pos] rt :=
  pss_imp (pss_cons (ps_ret pe_any) pss_any) fun En σ H q => h σ H _ q.1 fun v H2 d c' o s r f p => q.2 v σ H H2 d ρ c' q.1 o s r f p
theorem Fun.doesM {P : Program} {w : World} {T : Tab} {mg : Str → Option Value} {base : Heap} {x qual : Str} {st : Stmt} {f : Addr} {fd : FuncData} {N ps : List Str} {k : Nat} {F : Fw} (U : Fun T.K x qual st f fd) (S : FnScope N ps (defScope st))
    (len : ∀ ds c P R, F ds c P R → ds.length = ps.length)
    (body : ∀ (Z : Zt) (c : Nat) (ds : List D) (cdv : Value) (A : Around) (outer : List Env) (s : Shared) (H : Hp) (E : XK) (B : Bm) (R : Er → Nat → Prop) (rt : D → Nat → Prop),
      Z = zBody P w T mg base N qual (defScope st) f cdv A outer s H E B R (fun _ _ => False) → Zok Z → RoomG k Z.X.A → F ds c rt R → SSM Z ⟨B, entry N ds, c⟩ (defBody st) rt) :
    FnGk P w T.K mg base (L2.CX P w) (k + 1) f fd ps (SpM T F) := by
  refine okG U S (fun vs H Q E h => ?_) (fun cdv A outer s H vs Q E hr h => ?_)
  · obtain ⟨B, c, ds, P, R, _, r, h, _⟩ := h
    rw [pr_len r]
    exact len _ _ _ _ h
  · obtain ⟨B, c, ds, rt, R, ok, r, h, hQ, hE⟩ := h
    have fin : ∀ {ρ : Rho} {σ' : St} {H' : Hp}, SR (zBody P w T mg base N qual (defScope st) f cdv A outer s H E B R (fun _ _ => False)) ρ σ' H' → okW B ρ.c H' ∧ Same (vis B H) (vis B H') ∧ ∀ {d v}, rep T (vis ρ.B H') d v → rep T (vis B H') d v := fun {ρ σ' H'} S' => by
      have sub : Same (vis ρ.B H') (vis B H') := fun a o q => by
        refine vis_of (vis_some q) ?_
        cases e : B a with
        | none => rfl
        | some x =>
          have e2 := S'.le a (by show B a ≠ none; rw [e]; intro z; cases z)
          have e3 : ρ.B a = some x := e2.trans e
          unfold vis at q
          rw [e3] at q
          cases q
      refine ⟨⟨fun a q => ?_, fun a o q => ?_⟩, fun a o q => sub _ _ (S'.ex a o q), fun {d v} z => z.mono sub⟩
      · have e2 := S'.le a (by show B a ≠ none; rw [q]; intro z; cases z)
        exact S'.ok.box a (e2.trans q)
      · have e2 := S'.le a (by show B a ≠ none; rw [q]; intro z; cases z)
        exact S'.ok.fix a o (e2.trans q)
    have zok : Zok (zBody P w T mg base N qual (defScope st) f cdv A outer s H E B R (fun _ _ => False)) := by
      refine ⟨Takes.imp (W := fun cls d _ H => E cls d H) (takes_of rfl rfl rfl rfl) (fun cls dx σ' H' z => ?_), passes_of rfl, rfl, S.nd⟩
      obtain ⟨ρ, er, S', h1, h2⟩ := z
      refine hE er cls dx H' ρ.c (fin S').1 (fin S').2.1 ?_ h2
      obtain ⟨h3, h4⟩ := h1
      refine ⟨h3, ?_⟩
      obtain ⟨C, o⟩ := er
      cases o with
      | none => exact h4
      | some fd =>
        obtain ⟨p, v, e1, e2, e3⟩ := h4
        refine ⟨p, v, e1, ?_, (fin S').2.2 e3⟩
        have := (fin S').2.2 (d := .non) (v := .non) rfl
        have sub : Same (vis ρ.B H') (vis B H') := fun a o q => by
          refine vis_of (vis_some q) ?_
          cases e : B a with
          | none => rfl
          | some x =>
            have e2 := S'.le a (by show B a ≠ none; rw [e]; intro z; cases z)
            have e3 : ρ.B a = some x := e2.trans e
            unfold vis at q
            rw [e3] at q
            cases q
        exact sub _ _ e2
    refine ⟨_, body _ c ds cdv A outer s H E B R rt rfl zok hr h, ⟨ok, fun a _ => rfl, fun _ _ z => z, ?_, fun p hp => nomatch hp⟩, fun v σ' H' H2 d r c' S' ok2 sm z fresh hd => ?_⟩
    · show slots T B (vis B H) (entry N ds) (L2.start N vs)
      unfold entry L2.start
      rw [pr_len r]
      exact slots_start _ r
    · have S2 : SR (zBody P w T mg base N qual (defScope st) f cdv A outer s H E B R (fun _ _ => False)) (r.wc c') σ' H2 := S'.call ok2 sm
      refine hQ v H2 d c' (fin S2).1 (fin S2).2.1 (.of ((fin S2).2.2 z)) (fun q hq => ?_) hd
      have hn := fresh q hq
      cases e0 : H q with
      | none => rfl
      | some u =>
        cases eb : B q with
        | none =>
          have := vis_some (S'.ex q u (vis_of e0 eb))
          rw [hn] at this
          cases this
        | some k =>
          have e2 := S'.le q (by show B q ≠ none; rw [eb]; intro z; cases z)
          have e3 : r.B q = some k := e2.trans eb
          rw [S'.ok.fresh hn] at e3
          cases e3
/-- a def of the top that tells what is new -/
structure DfM (P : Program) (w : World) (T : Tab) (mg : Str → Option Value) (base : Heap) (name : Str) (k : Nat) (f : Addr) (F : Fw) : Prop where
  g : FnG P w T.K mg base (L2.CX P w) k f (SpM T F)
  m : mg name = some (.ref f)
  kp : PySem.W.keepIn T.K (.ref f) = true
structure DfN (P : Program) (w : World) (T : Tab) (mg : Str → Option Value) (base : Heap) (name : Str) (k : Nat) (f : Addr) (F : Fw) : Prop where
  g : FnG P w T.K mg base (L2.CX P w) k f (SpN T F)
  m : mg name = some (.ref f)
  kp : PySem.W.keepIn T.K (.ref f) = true
theorem DfM.lst {P : Program} {w : World} {T : Tab} {mg : Str → Option Value} {base : Heap} (D : DfM P w T mg base name k f F) : Df P w T mg base name k f (lstF F) := ⟨D.g.imp spm_lst, D.m, D.kp⟩
/-- it was not there when the body began -/
def Nw (Z : Zt) (q : Addr) : Prop := vis Z.B0 Z.H0 q = none
theorem SR.nw {q : Addr} (S : SR Z ρ σ H) (h : H q = none) : Nw Z q := by
  cases e : vis Z.B0 Z.H0 q with
  | none => exact e
  | some u =>
    have := vis_some (S.ex q u e)
    rw [h] at this
    cases this
theorem st_setM {i : Nat} (ok : Zok Z) (D : DfM Z.X.prog Z.X.w Z.T Z.X.mg Z.X.base name k f F) (hr : RoomG j Z.X.A) (hj : k ≤ j)
    (h : EA Z ρ (e :: es) fun ds c => F ds c (fun d c' => plain d = true ∧ ((∀ q ∈ adr d, Nw Z q) → O.nx ((ρ.wc c').set i d))) (fun er c' => Z.R er (ρ.wc c'))) (hg : Gl Z.X name := by rfl)
    (hdb : (name == ("__debug__" : Str)) = false := by decide) (he : starEach (e :: es) Z.X.env = (false, eval e Z.X.env) :: starEach es Z.X.env := by rfl) (hpl : (backTo pos (starEach es Z.X.env)).any (·.1) = false := by rfl)
    (hi : Z.X.N[i]? = some x := by rfl) (hx : Loc Z.X.env.scope x := by first | exact Or.inl rfl | exact Or.inr rfl) (hs : swapsWith (.Call (.Name name p) (e :: es) [] pos) (some (.Name x pos')) pos2.line Z.X.env = pure false := by rfl)
    (hf : Z.X.fn x = true ∨ Z.X.env.scope.names.lookup x = some .local := by first | exact .inl rfl | exact .inr rfl) : ST Z ρ (.Assign [.Name x pos'] (.Call (.Name name p) (e :: es) [] pos) pos2) O :=
  st_of (ps_set ok.nd hi hx (pe_callW (sp := SpM Z.T F) (by rw [ok.K]; exact D.g) (hr.mono hj) ok.tk hg D.m (by rw [ok.K]; exact D.kp) hdb he hpl) hs hf) fun En σ H S K => ea_any h S fun vs H1 ds c S1 e1 r h1 =>
    ⟨ρ.B, c, ds, _, _, S1.ok, r, h1, fun v H' d c' o s r' fr ⟨pl, pd⟩ => by
      have S2 := SR.call (ρ := ρ.wc c) S1 o s
      exact K.nx _ _ _ (S2.set i (slot_of r')) (pd fun q hq => S1.nw (fr q hq)), fun er cls dx H' c' o s r' pd => ⟨ρ.wc c', er, SR.call (ρ := ρ.wc c) S1 o s, r', pd⟩⟩
/-- slots as they were before something new -/
theorem SR.from_ {B' : Bm} {c' : Nat} (S : SR Z ρ σ H) (ok : okW B' c' H') (ext : ∀ a x, ρ.B a = some x → B' a = some x) (s : Same (vis ρ.B H) (vis B' H')) : SR Z ⟨B', ρ.s, c'⟩ σ H' :=
  ⟨ok, fun a h => by
    have e := S.le a h
    cases q : Z.B0 a with
    | none => exact (h q).elim
    | some x => exact ext a x (e.trans q), fun a o q => s _ _ (S.ex a o q), (slots_B ext S.sl).mono s, fun p hp => (S.gh p hp).mono s⟩
/-- what is new is hidden, rows of integers in it -/
def isRowI : D → Prop := fun d => ∃ m : List Int, d = .lst (m.map .int)
theorem rowI_apart {T : Tab} {G G' : Hp} {q : Addr} {vs : List V} (hq : G q = some (.lst vs)) (e : ∀ a, a ≠ q → G' a = G a) {l : List D} (hl : ∀ d ∈ l, isRowI d) (r : reps T G l vs) : reps T G' l vs := by
  have key : ∀ {d : D} {v : V}, d ∈ l → v ∈ vs → rep T G d v → rep T G' d v := fun {d v} hd hv hr => by
    obtain ⟨m, rfl⟩ := hl d hd
    obtain ⟨a, ws, rfl, h1, h2⟩ := hr
    refine ⟨a, ws, rfl, ?_, ?_⟩
    · by_cases z : a = q
      · subst z
        rw [hq] at h1
        cases h1
        exfalso
        clear hq hl r hd e
        induction m generalizing vs with
        | nil =>
          have : vs = [] := h2
          subst this
          cases hv
        | cons i m ih =>
          obtain ⟨v, rr, rfl, h3, h4⟩ := h2
          cases h3
          rcases List.mem_cons.mp hv with z | z
          · cases z
          · exact ih z h4
      · rw [e a z]; exact h1
    · clear h1 hd hv
      induction m generalizing ws with
      | nil => exact h2
      | cons i m ih =>
        obtain ⟨v, rr, rfl, h3, h4⟩ := h2
        exact ⟨v, rr, rfl, h3, ih _ h4⟩
  have go : ∀ (l' : List D) (vs' : List V), (∀ d ∈ l', d ∈ l) → (∀ v ∈ vs', v ∈ vs) → reps T G l' vs' → reps T G' l' vs' := by
    intro l'
    induction l' with
    | nil => exact fun vs' _ _ h => h
    | cons d l' ih =>
      rintro vs' h1 h2 ⟨v, rr, rfl, h3, h4⟩
      exact ⟨v, rr, rfl, key (h1 d List.mem_cons_self) (h2 v List.mem_cons_self) h3, ih rr (fun d hd => h1 d (List.mem_cons_of_mem _ hd)) (fun v hv => h2 v (List.mem_cons_of_mem _ hv)) h4⟩
  exact go l vs (fun _ h => h) (fun _ h => h) r
theorem st_ownN {i : Nat} (ok : Zok Z) (D : DfN Z.X.prog Z.X.w Z.T Z.X.mg Z.X.base name k f F) (hr : RoomG j Z.X.A) (hj : k ≤ j)
    (h : EA Z ρ (e :: es) fun ds c => F ds c (fun d c' => ∃ l, d = .lst l ∧ (∀ d ∈ l, isRowI d) ∧ ∀ B' o, Z.B0 o = none → (∀ a u, ρ.B a = some u → a ≠ o) → O.nx ⟨B', ρ.s.set i (some (.own o l)), c'⟩) (fun er c' => Z.R er (ρ.wc c'))) (hg : Gl Z.X name := by rfl)
    (hdb : (name == ("__debug__" : Str)) = false := by decide) (he : starEach (e :: es) Z.X.env = (false, eval e Z.X.env) :: starEach es Z.X.env := by rfl) (hpl : (backTo pos (starEach es Z.X.env)).any (·.1) = false := by rfl)
    (hi : Z.X.N[i]? = some x := by rfl) (hx : Loc Z.X.env.scope x := by first | exact Or.inl rfl | exact Or.inr rfl) (hs : swapsWith (.Call (.Name name p) (e :: es) [] pos) (some (.Name x pos')) pos2.line Z.X.env = pure false := by rfl)
    (hf : Z.X.fn x = true ∨ Z.X.env.scope.names.lookup x = some .local := by first | exact .inl rfl | exact .inr rfl) : ST Z ρ (.Assign [.Name x pos'] (.Call (.Name name p) (e :: es) [] pos) pos2) O :=
  st_of (ps_set ok.nd hi hx (pe_callW (sp := SpN Z.T F) (by rw [ok.K]; exact D.g) (hr.mono hj) ok.tk hg D.m (by rw [ok.K]; exact D.kp) hdb he hpl) hs hf) fun En σ H S K => ea_any h S fun vs H1 ds c S1 e1 r h1 =>
    ⟨ρ.B, c, ds, _, _, S1.ok, r, h1, fun v H' d c' o s r' fr ⟨l, hd, hl, pd⟩ => by
      subst hd
      obtain ⟨q, us, rfl, g1, g2⟩ := r'
      have n1 : H1 q = none := fr q rfl
      have b1 : ρ.B q = none := S1.ok.fresh n1
      let B' := hideAt ρ.B q (some (.lst us))
      have ok' : okW B' c' H' := ⟨fun a z => by
        have z' : (if a = q then some (some (HO.lst us)) else ρ.B a) = some none := z
        by_cases ea : a = q
        · rw [if_pos ea] at z'; cases z'
        · rw [if_neg ea] at z'; exact o.box a z', fun a u z => by
        have z' : (if a = q then some (some (HO.lst us)) else ρ.B a) = some (some u) := z
        by_cases ea : a = q
        · rw [if_pos ea] at z'; cases z'; subst ea; exact vis_some g1
        · rw [if_neg ea] at z'; exact o.fix a u z'⟩
      have vq : ∀ a, a ≠ q → vis B' H' a = vis ρ.B H' a := fun a ha => by
        have eb : B' a = ρ.B a := if_neg ha
        unfold vis
        rw [eb]
      have sm : Same (vis ρ.B H1) (vis B' H') := fun a u z => by
        have : a ≠ q := fun y => by subst y; rw [vis_free n1] at z; cases z
        rw [vq a this]
        exact s a u z
      have S2 : SR Z ⟨B', ρ.s, c'⟩ σ H' := S1.from_ ok' (hide_of b1) sm
      have n0 : Z.B0 q = none := by
        cases e0 : Z.B0 q with
        | none => rfl
        | some y =>
          have e2 := S1.le q (by rw [e0]; intro z; cases z)
          rw [e0] at e2
          rw [show (ρ.wc c).B = ρ.B from rfl, b1] at e2
          cases e2
      refine K.nx _ _ _ (S2.set i (d := .own q l) ⟨rfl, us, if_pos rfl, ?_⟩) (pd _ q n0 fun a u ha z => by subst z; rw [b1] at ha; cases ha)
      exact rowI_apart g1 (fun a ha => vq a ha) hl g2, fun er cls dx H' c' o s r' pd => ⟨ρ.wc c', er, SR.call (ρ := ρ.wc c) S1 o s, r', pd⟩⟩
end Q
end

section
set_option Elab.async false
set_option linter.all false
set_option maxRecDepth 100000
set_option maxHeartbeats 3900000
/-! P2: comprehensions that tell what is new. -/
namespace Q
open PySem L2
variable {Z : Zt} {ρ : Rho} {σ : St} {H H' : Hp} {O : Out} {rt : D → Nat → Prop} {P : D → Nat → Prop} {e a b elt iter : Expr} {pos p px pz rp : Pos} {x y : Str} {ifs : List Expr} {scope : Scope} {X : Cx}
def PostN (Z : Zt) (ρ : Rho) (σ : St) (H : Hp) (P : D → Nat → Prop) (Q : VK) : Prop :=
  ∀ v H' d c', SR Z (ρ.wc c') σ H' → Same (vis ρ.B H) (vis ρ.B H') → val Z.T ρ.B (vis ρ.B H') d v → (∀ q, v = .ref q → H q = none) → P d c' → Q v H'
/-- e tells an object that was not there -/
def EN (Z : Zt) (ρ : Rho) (e : Expr) (P : D → Nat → Prop) : Prop := PE Z.X e fun σ H Q => SR Z ρ σ H ∧ PostN Z ρ σ H P Q
theorem en_any {Q : VK} (h : EN Z ρ e P) (S : SR Z ρ σ H) (k : PostN Z ρ σ H P Q) : tAny Z.X e σ H Q := ⟨_, h, S, k⟩
theorem en_of {t : TE} (q : PE Z.X e t) (h : ∀ σ H Q, SR Z ρ σ H → PostN Z ρ σ H P Q → t σ H Q) : EN Z ρ e P := pe_imp q fun σ H Q z => h σ H Q z.1 z.2
theorem lc_tN (i : Nat) (ok : Zok Z) (h : EV Z ρ iter fun d c => ∃ l, items d = some l ∧ lcs Z scope ρ.s i ifs elt P l [] c) {Q : VK} (S : SR Z ρ σ H) (k : PostN Z ρ σ H P Q) : tLc (iList Z.X.K (tAny Z.X iter)) (gName i) (tLcTest Z.X scope ifs) (tLcElt Z.X scope elt) [i] σ H Q := by
  refine ev_any h S fun v H1 d c S1 e1 r ⟨l, hl, hL⟩ => ?_
  obtain ⟨a, xs, rfl, hsq, hrs⟩ := items_at hl (val_rep r (items_plain hl))
  rw [ok.K]
  refine ⟨a, rfl, ⟨xs, seqS vis_same hsq⟩, fun D hd => ?_⟩
  have b0 : ρ.B D = none := S1.ok.fresh hd
  refine lc_list (fun j H => ∃ c acc vs, LcS Z ρ.B D H1 acc c H vs ∧ lcs Z scope ρ.s i ifs elt P (l.drop j) acc c) ⟨c, [], [], LcS.start (ρ := ρ.wc c) S1 hd, hL⟩ (fun j H _ ⟨c, acc, vs, L, _⟩ => seqS vis_same (seqS L.sm hsq)) (fun j x0 H hj ⟨c2, acc, vs, L, hl2⟩ => ?_) (fun H ⟨c2, acc, vs, L, hl2⟩ => ?_)
  · have lt : j < l.length := by
      have := (List.getElem?_eq_some_iff.mp hj).1
      rw [hrs.len] at this
      exact this
    obtain ⟨w, hw, rw_⟩ := hrs.get (List.getElem?_eq_getElem lt)
    have ex : w = x0 := Option.some.inj (hw.symm.trans hj)
    subst ex
    rw [List.drop_eq_getElem_cons lt] at hl2
    have sl : slots Z.T (hideAt ρ.B D (some (.lst vs))) (vis (hideAt ρ.B D (some (.lst vs))) H) ((ρ.s.set i none).set i (some l[j])) ((σ.set i none).set i (some w)) :=
      ((slots_B (hide_of b0) (S1.sl.unset i)).mono L.sm).set (slot_of (.of (rw_.mono L.sm))) i
    have S2 := L.sr (ρ := ρ.wc c) S1 hd sl
    refine ⟨?_, fun s1 H1' C cl fp => ?_⟩
    · show ((σ.set i none).set i (some w)).set i none = σ.set i none
      rw [List.set_set, List.set_set]
    · have step := hl2 (hideAt ρ.B D (some (.lst vs))) s1 H1' C cl fp ok.blk
      have go : ∀ b H3 c3, SR (Z.blk s1 H1' scope C cl fp) ⟨hideAt ρ.B D (some (.lst vs)), (ρ.s.set i none).set i (some l[j]), c3⟩ ((σ.set i none).set i (some w)) H3 → Same (vis (hideAt ρ.B D (some (.lst vs))) H) (vis (hideAt ρ.B D (some (.lst vs))) H3) →
          onB b (∀ s2 H2 C2 cl2 fp2, Zok (Z.blk s2 H2 scope C2 cl2 fp2) → EV (Z.blk s2 H2 scope C2 cl2 fp2) ⟨hideAt ρ.B D (some (.lst vs)), (ρ.s.set i none).set i (some l[j]), c3⟩ elt fun d c'' => plain d = true ∧ acc.length < 100000 ∧ lcs Z scope ρ.s i ifs elt P (l.drop (j + 1)) (acc ++ [d]) c'') (lcs Z scope ρ.s i ifs elt P (l.drop (j + 1)) acc c3) →
          if b = true then tLcElt Z.X scope elt ((σ.set i none).set i (some w)) H3 (fun y H4 => ∃ acc, H4 D = some (.lst acc) ∧ acc.length < sizeLine ∧ ∃ c acc' vs, LcS Z ρ.B D H1 acc' c (upd H4 D (.lst (acc ++ [y]))) vs ∧ lcs Z scope ρ.s i ifs elt P (l.drop (j + 1)) acc' c)
          else ∃ c acc vs, LcS Z ρ.B D H1 acc c H3 vs ∧ lcs Z scope ρ.s i ifs elt P (l.drop (j + 1)) acc c := fun b H3 c3 S3 e3 hb => by
        cases b with
        | false => exact ⟨c3, acc, vs, L.go S3.ok e3, hb.2 rfl⟩
        | true =>
          refine fun s2 H2 C2 cl2 fp2 => ev_any (hb.1 rfl s2 H2 C2 cl2 fp2 ok.blk) S3.ofBlk.blk fun y H4 d c4 S4 e4 r4 ⟨hp, hz, h4⟩ => ?_
          have L4 := (L.go S3.ok e3).go S4.ok e4
          exact ⟨vs, L4.at_, Nat.lt_of_lt_of_le (by rw [L.re.len]; exact hz) (by decide), c4, acc ++ [d], vs ++ [y], L4.put (val_rep r4 hp), h4⟩
      cases ifs with
      | nil => exact ⟨tYes, pts_nil, go true H c2 S2.blk (fun _ _ q => q) step⟩
      | cons t ts =>
        cases ts with
        | nil => exact ⟨_, pts_one pt_any, et_any step S2.blk fun b H3 c3 S3 e3 hb => go b H3 c3 S3 e3 hb⟩
        | cons _ _ => exact (show False from step).elim
  · rw [List.drop_of_length_le (by rw [hrs.len]; exact Nat.le_refl _)] at hl2
    obtain ⟨S3, e3, r3⟩ := L.fin (ρ := ρ.wc c) S1 hd
    exact k _ H (.lst acc) c2 S3 (fun _ _ q => e3 _ _ (e1 _ _ q)) (.of r3) (fun q hq => by cases hq; exact none_before S1 rfl e1 hd) hl2
theorem en_lc (i : Nat) (ok : Zok Z) (hb : BlkOk Z.X.N Z.X.env.scope scope [(x, i)]) (hi : Z.X.N[i]? = some x := by rfl) (hx : scope.names.lookup x = some .local := by rfl)
    (h : EV Z ρ iter fun d c => ∃ l, items d = some l ∧ lcs Z scope ρ.s i ifs elt P l [] c) (hc : Z.X.calm = true := by rfl) (hs : ∀ x, foldedSetIterable iter Z.X.env x = pure x := by intro _; rfl) :
    EN Z ρ (.ListComp elt [⟨.Name x px, iter, ifs, 0⟩] scope pos) P := by
  have loc : ∀ C cl, Loc (compEnvC scope cl C Z.X.env).scope x := fun C cl => .inl (lookup_relabel_local hx)
  refine en_of (pe_lc (wi := iList Z.X.K (tAny Z.X iter)) (g := gName i) (tt := tLcTest Z.X scope ifs) (te := tLcElt Z.X scope elt) hc ok.nd (pi_list pe_any) hb (fun s H C cl fp => pg_name ok.nd hi (loc C cl) (.inr (lookup_relabel_local hx)))
    (fun s H C cl fp => ⟨fun pins s' σ H' Q I h => let ⟨t, p, q⟩ := h s H C cl fp; p.run pins s' σ H' Q I q⟩) (fun s H C cl fp => ⟨fun pins s' σ H' Q I h => pe_any.run pins s' σ H' Q I (h s H C cl fp)⟩) hs) fun σ H Q S k => lc_tN i ok h S k
theorem lc_tRN (i : Nat) (ok : Zok Z) (h : EA Z ρ [a] fun ds c => ∃ n : Nat, ds = [.int (n : Nat)] ∧ n ≤ 100000 ∧ lcs Z scope ρ.s i ifs elt P (rngD n) [] c) {Q : VK} (S : SR Z ρ σ H) (k : PostN Z ρ σ H P Q) : tLc (iRng1 (taAny Z.X [a])) (gName i) (tLcTest Z.X scope ifs) (tLcElt Z.X scope elt) [i] σ H Q := by
  refine ea_any h S fun vs0 H1 ds c S1 e1 r ⟨n, hds, hn, hL⟩ => ?_
  subst hds
  obtain ⟨v0, rfl, hv0⟩ := pr1 r
  cases hv0
  refine ⟨(n : Int), rfl, by omega, by omega, fun D hd => ?_⟩
  have b0 : ρ.B D = none := S1.ok.fresh hd
  have w : Walk (Itr 0 (n : Int).toNat) n (fun _ => True) (YFn fun i => .int (0 + (i : Nat))) := by
    rw [Int.toNat_natCast]; exact walk_range
  refine lc_it w (fun j H => ∃ c acc vs, LcS Z ρ.B D H1 acc c H vs ∧ lcs Z scope ρ.s i ifs elt P ((rngD n).drop j) acc c) ⟨c, [], [], LcS.start (ρ := ρ.wc c) S1 hd, hL⟩ (fun _ _ _ _ => trivial) (fun j x0 H H2 lt ⟨c2, acc, vs, L, hl2⟩ yp => ?_) (fun H ⟨c2, acc, vs, L, hl2⟩ => ?_)
  · obtain ⟨rfl, rfl⟩ := yp
    have hlen : (rngD n).length = n := by simp [rngD]
    have lt' : j < (rngD n).length := by rw [hlen]; exact lt
    rw [List.drop_eq_getElem_cons lt'] at hl2
    have ej : (rngD n)[j] = .int (j : Nat) := by simp [rngD]
    rw [ej] at hl2
    simp only [Int.zero_add]
    have sl : slots Z.T (hideAt ρ.B D (some (.lst vs))) (vis (hideAt ρ.B D (some (.lst vs))) H2) ((ρ.s.set i none).set i (some (.int (j : Nat)))) ((σ.set i none).set i (some (V.int (j : Nat)))) :=
      ((slots_B (hide_of b0) (S1.sl.unset i)).mono L.sm).set (slot_of (d := .int (j : Nat)) rfl) i
    have S2 := L.sr (ρ := ρ.wc c) S1 hd sl
    refine ⟨?_, fun s1 H1' C cl fp => ?_⟩
    · show ((σ.set i none).set i (some _)).set i none = σ.set i none
      rw [List.set_set, List.set_set]
    · have step := hl2 (hideAt ρ.B D (some (.lst vs))) s1 H1' C cl fp ok.blk
      have go : ∀ b H3 c3, SR (Z.blk s1 H1' scope C cl fp) ⟨hideAt ρ.B D (some (.lst vs)), (ρ.s.set i none).set i (some (.int (j : Nat))), c3⟩ ((σ.set i none).set i (some (V.int (j : Nat)))) H3 → Same (vis (hideAt ρ.B D (some (.lst vs))) H2) (vis (hideAt ρ.B D (some (.lst vs))) H3) →
          onB b (∀ s2 H2 C2 cl2 fp2, Zok (Z.blk s2 H2 scope C2 cl2 fp2) → EV (Z.blk s2 H2 scope C2 cl2 fp2) ⟨hideAt ρ.B D (some (.lst vs)), (ρ.s.set i none).set i (some (.int (j : Nat))), c3⟩ elt fun d c'' => plain d = true ∧ acc.length < 100000 ∧ lcs Z scope ρ.s i ifs elt P ((rngD n).drop (j + 1)) (acc ++ [d]) c'') (lcs Z scope ρ.s i ifs elt P ((rngD n).drop (j + 1)) acc c3) →
          if b = true then tLcElt Z.X scope elt ((σ.set i none).set i (some (V.int (j : Nat)))) H3 (fun y H4 => ∃ acc, H4 D = some (.lst acc) ∧ acc.length < sizeLine ∧ ∃ c acc' vs, LcS Z ρ.B D H1 acc' c (upd H4 D (.lst (acc ++ [y]))) vs ∧ lcs Z scope ρ.s i ifs elt P ((rngD n).drop (j + 1)) acc' c)
          else ∃ c acc vs, LcS Z ρ.B D H1 acc c H3 vs ∧ lcs Z scope ρ.s i ifs elt P ((rngD n).drop (j + 1)) acc c := fun b H3 c3 S3 e3 hb => by
        cases b with
        | false => exact ⟨c3, acc, vs, L.go S3.ok e3, hb.2 rfl⟩
        | true =>
          refine fun s2 H2 C2 cl2 fp2 => ev_any (hb.1 rfl s2 H2 C2 cl2 fp2 ok.blk) S3.ofBlk.blk fun y H4 d c4 S4 e4 r4 ⟨hp, hz, h4⟩ => ?_
          have L4 := (L.go S3.ok e3).go S4.ok e4
          exact ⟨vs, L4.at_, Nat.lt_of_lt_of_le (by rw [L4.re.len]; exact hz) (by decide), c4, acc ++ [d], vs ++ [y], L4.put (val_rep r4 hp), h4⟩
      cases ifs with
      | nil => exact ⟨tYes, pts_nil, go true _ c2 S2.blk (fun _ _ q => q) step⟩
      | cons t ts =>
        cases ts with
        | nil => exact ⟨_, pts_one pt_any, et_any step S2.blk fun b H3 c3 S3 e3 hb => go b H3 c3 S3 e3 hb⟩
        | cons _ _ => exact (show False from step).elim
  · rw [List.drop_of_length_le (by simp [rngD])] at hl2
    obtain ⟨S3, e3, r3⟩ := L.fin (ρ := ρ.wc c) S1 hd
    exact k _ H (.lst acc) c2 S3 (fun _ _ q => e3 _ _ (e1 _ _ q)) (.of r3) (fun q hq => by cases hq; exact none_before S1 rfl e1 hd) hl2
theorem en_lcR (i : Nat) (ok : Zok Z) (hb : BlkOk Z.X.N Z.X.env.scope scope [(x, i)]) (hm : Z.X.mg "range" = none)
    (h : EA Z ρ [a] fun ds c => ∃ n : Nat, ds = [.int (n : Nat)] ∧ n ≤ 100000 ∧ lcs Z scope ρ.s i ifs elt P (rngD n) [] c) (gl : Gl Z.X "range" := by rfl) (hi : Z.X.N[i]? = some x := by rfl) (hx : scope.names.lookup x = some .local := by rfl)
    (hst : starEach [a] Z.X.env = [(false, eval a Z.X.env)] := by rfl) (hc : Z.X.calm = true := by rfl) (hs : ∀ v, foldedSetIterable (.Call (.Name "range" p) [a] [] pz) Z.X.env v = pure v := by intro _; rfl) :
    EN Z ρ (.ListComp elt [⟨.Name x px, .Call (.Name "range" p) [a] [] pz, ifs, 0⟩] scope pos) P := by
  have loc : ∀ C cl, Loc (compEnvC scope cl C Z.X.env).scope x := fun C cl => .inl (lookup_relabel_local hx)
  refine en_of (pe_lc (wi := iRng1 (taAny Z.X [a])) (g := gName i) (tt := tLcTest Z.X scope ifs) (te := tLcElt Z.X scope elt) hc ok.nd (pi_range1 gl hm pa_any hst) hb (fun s H C cl fp => pg_name ok.nd hi (loc C cl) (.inr (lookup_relabel_local hx)))
    (fun s H C cl fp => ⟨fun pins s' σ H' Q I h => let ⟨t, p, q⟩ := h s H C cl fp; p.run pins s' σ H' Q I q⟩) (fun s H C cl fp => ⟨fun pins s' σ H' Q I h => pe_any.run pins s' σ H' Q I (h s H C cl fp)⟩) hs) fun σ H Q S k => lc_tRN i ok h S k

/-! ### a list of new lists -/
structure New1 (D : Addr) (H1 : Hp) (acc : List Q.D) (vs : List V) (bs : List Addr) : Prop where
  e : vs = bs.map V.ref
  nd : (D :: bs).Nodup
  old : ∀ b ∈ bs, H1 b = none
  rows : ∀ d ∈ acc, ∃ m, d = .lst m
theorem reps_ref {T : Tab} {G : Hp} : ∀ {l : List D} {bs : List Addr}, reps T G l (bs.map V.ref) → (∀ d ∈ l, ∃ m, d = .lst m) → ∀ b ∈ bs, ∃ ws, G b = some (.lst ws)
  | [], bs, h, _, b, hb => by
    have : bs.map V.ref = [] := h
    rw [List.map_eq_nil_iff.mp this] at hb
    cases hb
  | d :: l, bs, ⟨v, r, e, h1, h2⟩, hm, b, hb => by
    match bs, e, hb with
    | b0 :: bs, e, hb =>
      rw [List.map_cons] at e
      obtain ⟨e1, e2⟩ := List.cons.inj e
      subst e1
      subst e2
      rcases (List.mem_cons.mp hb) with z | z
      · subst z
        obtain ⟨m, rfl⟩ := hm d List.mem_cons_self
        obtain ⟨q, ws, h3, h4, _⟩ := h1
        cases h3
        exact ⟨ws, h4⟩
      · exact reps_ref h2 (fun d hd => hm d (List.mem_cons_of_mem _ hd)) b z
def lcsN (Z : Zt) (scope : Scope) (s : List (Option D)) (i : Nat) (elt : Expr) (P : List D → Nat → Prop) : List D → List D → Nat → Prop
  | [], acc, c => P acc c
  | y :: l, acc, c => acc.length < 100000 ∧ ∀ B s2 H2 C2 cl2 fp2, Zok (Z.blk s2 H2 scope C2 cl2 fp2) → EN (Z.blk s2 H2 scope C2 cl2 fp2) ⟨B, (s.set i none).set i (some y), c⟩ elt fun d c'' => (∃ m, d = .lst m) ∧ lcsN Z scope s i elt P l (acc ++ [d]) c''
section
variable {D : Addr} {H1 : Hp} {acc : List Q.D} {c c0 : Nat} {i : Nat} {vs : List V} {bs : List Addr} {y : Q.D} {x0 : V} {PL : List Q.D → Nat → Prop} {l : List Q.D}
theorem lcm_turn (ok : Zok Z) (S1 : SR Z (ρ.wc c0) σ H1) (hd : H1 D = none) (L : LcS Z ρ.B D H1 acc c H vs) (N : New1 D H1 acc vs bs) (rx : rep Z.T (vis ρ.B H1) y x0) (h : lcsN Z scope ρ.s i elt PL (y :: l) acc c) :
    tLcElt Z.X scope elt ((σ.set i none).set i (some x0)) H (fun y H4 => ∃ acc, H4 D = some (.lst acc) ∧ acc.length < sizeLine ∧ ∃ c acc' vs bs, LcS Z ρ.B D H1 acc' c (upd H4 D (.lst (acc ++ [y]))) vs ∧ New1 D H1 acc' vs bs ∧ lcsN Z scope ρ.s i elt PL l acc' c) := fun s2 H2 C2 cl2 fp2 => by
  have b0 : ρ.B D = none := S1.ok.fresh hd
  have sl : slots Z.T (hideAt ρ.B D (some (.lst vs))) (vis (hideAt ρ.B D (some (.lst vs))) H) ((ρ.s.set i none).set i (some y)) ((σ.set i none).set i (some x0)) :=
    ((slots_B (hide_of b0) (S1.sl.unset i)).mono L.sm).set (slot_of (.of (rx.mono L.sm))) i
  have S2 := L.sr (ρ := ρ.wc c0) S1 hd sl
  refine en_any (h.2 _ s2 H2 C2 cl2 fp2 ok.blk) S2.blk fun v H4 d c4 S4 e4 r4 fr ⟨⟨m, hm⟩, h4⟩ => ?_
  subst hm
  obtain ⟨b, ws, rfl, g1, g2⟩ := r4
  have hb : H b = none := fr b rfl
  have L4 := L.go S4.ok e4
  have bD : D ≠ b := fun z => by subst z; rw [L.at_] at hb; cases hb
  have bo : H1 b = none := by
    have f0 := L.ok.fresh hb
    have f1 : ρ.B b = none := by
      unfold hideAt at f0
      rw [if_neg (fun z => bD z.symm)] at f0
      exact f0
    cases e : H1 b with
    | none => rfl
    | some u =>
      have := vis_some (L.sm b u (vis_of e f1))
      rw [hb] at this
      cases this
  refine ⟨vs, L4.at_, Nat.lt_of_lt_of_le (by rw [L.re.len]; exact h.1) (by decide), c4, acc ++ [.lst m], vs ++ [.ref b], bs ++ [b], L4.put (y := .lst m) (v := .ref b) ⟨b, ws, rfl, g1, g2⟩, ⟨by rw [N.e, List.map_append]; rfl, ?_, fun q hq => ?_, fun d hd => ?_⟩, h4⟩
  · have nb : b ∉ bs := fun z => by
      have r := L.re
      rw [N.e] at r
      obtain ⟨ws', h5⟩ := reps_ref r N.rows b z
      have := vis_some h5
      rw [hb] at this
      cases this
    have e : D :: (bs ++ [b]) = (D :: bs) ++ [b] := rfl
    rw [e]
    refine List.nodup_append.mpr ⟨N.nd, by simp, fun q hq q' hq' z => ?_⟩
    have hq2 := List.mem_singleton.mp hq'
    subst hq2
    subst z
    rcases List.mem_cons.mp hq with z | z
    · exact bD z.symm
    · exact nb z
  · rcases List.mem_append.mp hq with z | z
    · exact N.old q z
    · rw [List.mem_singleton] at z; subst z; exact bo
  · rcases List.mem_append.mp hd with z | z
    · exact N.rows d z
    · rw [List.mem_singleton] at z; exact ⟨m, z⟩
theorem lcm_fin (S1 : SR Z (ρ.wc c0) σ H1) (hd : H1 D = none) (L : LcS Z ρ.B D H1 acc c H vs) (N : New1 D H1 acc vs bs) : SR Z (ρ.wc c) σ H ∧ Same (vis ρ.B H1) (vis ρ.B H) ∧ rep Z.T (vis ρ.B H) (.lsa D bs acc) (.ref D) ∧ ∀ q ∈ D :: bs, H1 q = none := by
  obtain ⟨S3, e3, r3⟩ := L.fin (ρ := ρ.wc c0) S1 hd
  have b0 : ρ.B D = none := S1.ok.fresh hd
  have g := L.at_
  rw [N.e] at g
  have r := L.re
  rw [N.e] at r
  refine ⟨S3, e3, ⟨rfl, vis_of g b0, N.nd, ?_⟩, fun q hq => ?_⟩
  · have := L.re.mono (hide_vis (B := ρ.B) (D := D) (k := some (.lst vs)) (H := H))
    rw [N.e] at this
    exact this
  · rcases List.mem_cons.mp hq with z | z
    · rw [z]; exact hd
    · exact N.old q z
def KM (Z : Zt) (ρ : Rho) (σ : St) (H : Hp) (PL : List Q.D → Nat → Prop) (Q : VK) : Prop := ∀ D bs acc H2 c', SR Z (ρ.wc c') σ H2 → Same (vis ρ.B H) (vis ρ.B H2) → rep Z.T (vis ρ.B H2) (.lsa D bs acc) (.ref D) → (∀ q ∈ D :: bs, H q = none) → PL acc c' → Q (.ref D) H2
theorem lcm_tR (i : Nat) (ok : Zok Z) (h : EA Z ρ [a] fun ds c => ∃ n : Nat, ds = [.int (n : Nat)] ∧ n ≤ 100000 ∧ lcsN Z scope ρ.s i elt PL (rngD n) [] c) {Q : VK} (S : SR Z ρ σ H) (k : KM Z ρ σ H PL Q) : tLc (iRng1 (taAny Z.X [a])) (gName i) (tLcTest Z.X scope []) (tLcElt Z.X scope elt) [i] σ H Q := by
  refine ea_any h S fun vs0 H1 ds c S1 e1 r ⟨n, hds, hn, hL⟩ => ?_
  subst hds
  obtain ⟨v0, rfl, hv0⟩ := pr1 r
  cases hv0
  refine ⟨(n : Int), rfl, by omega, by omega, fun D hd => ?_⟩
  have w : Walk (Itr 0 (n : Int).toNat) n (fun _ => True) (YFn fun i => .int (0 + (i : Nat))) := by
    rw [Int.toNat_natCast]; exact walk_range
  refine lc_it w (fun j H => ∃ c acc vs bs, LcS Z ρ.B D H1 acc c H vs ∧ New1 D H1 acc vs bs ∧ lcsN Z scope ρ.s i elt PL ((rngD n).drop j) acc c) ⟨c, [], [], [], LcS.start (ρ := ρ.wc c) S1 hd, ⟨rfl, by simp, (fun b hb => nomatch hb), (fun b hb => nomatch hb)⟩, hL⟩ (fun _ _ _ _ => trivial) (fun j x0 H H2 lt ⟨c2, acc, vs, bs, L, N, hl2⟩ yp => ?_) (fun H ⟨c2, acc, vs, bs, L, N, hl2⟩ => ?_)
  · obtain ⟨rfl, rfl⟩ := yp
    have hlen : (rngD n).length = n := by simp [rngD]
    have lt' : j < (rngD n).length := by rw [hlen]; exact lt
    rw [List.drop_eq_getElem_cons lt'] at hl2
    have ej : (rngD n)[j] = .int (j : Nat) := by simp [rngD]
    rw [ej] at hl2
    simp only [Int.zero_add]
    refine ⟨?_, fun s1 H1' C cl fp => ⟨tYes, pts_nil, ?_⟩⟩
    · show ((σ.set i none).set i (some _)).set i none = σ.set i none
      rw [List.set_set, List.set_set]
    · exact lcm_turn ok S1 hd L N (y := .int (j : Nat)) rfl hl2
  · rw [List.drop_of_length_le (by simp [rngD])] at hl2
    obtain ⟨S3, e3, r3, f3⟩ := lcm_fin S1 hd L N
    exact k D bs acc H c2 S3 (fun _ _ q => e3 _ _ (e1 _ _ q)) r3 (fun q hq => none_before S1 rfl e1 (f3 q hq)) hl2
theorem lcm_tL (i : Nat) (ok : Zok Z) (h : EV Z ρ iter fun d c => ∃ l, items d = some l ∧ lcsN Z scope ρ.s i elt PL l [] c) {Q : VK} (S : SR Z ρ σ H) (k : KM Z ρ σ H PL Q) : tLc (iList Z.X.K (tAny Z.X iter)) (gName i) (tLcTest Z.X scope []) (tLcElt Z.X scope elt) [i] σ H Q := by
  refine ev_any h S fun v H1 d c S1 e1 r ⟨l, hl, hL⟩ => ?_
  obtain ⟨a, xs, rfl, hsq, hrs⟩ := items_at hl (val_rep r (items_plain hl))
  rw [ok.K]
  refine ⟨a, rfl, ⟨xs, seqS vis_same hsq⟩, fun D hd => ?_⟩
  refine lc_list (fun j H => ∃ c acc vs bs, LcS Z ρ.B D H1 acc c H vs ∧ New1 D H1 acc vs bs ∧ lcsN Z scope ρ.s i elt PL (l.drop j) acc c) ⟨c, [], [], [], LcS.start (ρ := ρ.wc c) S1 hd, ⟨rfl, by simp, (fun b hb => nomatch hb), (fun b hb => nomatch hb)⟩, hL⟩ (fun j H _ ⟨c, acc, vs, bs, L, _⟩ => seqS vis_same (seqS L.sm hsq)) (fun j x0 H hj ⟨c2, acc, vs, bs, L, N, hl2⟩ => ?_) (fun H ⟨c2, acc, vs, bs, L, N, hl2⟩ => ?_)
  · have lt : j < l.length := by
      have := (List.getElem?_eq_some_iff.mp hj).1
      rw [hrs.len] at this
      exact this
    obtain ⟨w, hw, rw_⟩ := hrs.get (List.getElem?_eq_getElem lt)
    have ex : w = x0 := Option.some.inj (hw.symm.trans hj)
    subst ex
    rw [List.drop_eq_getElem_cons lt] at hl2
    refine ⟨?_, fun s1 H1' C cl fp => ⟨tYes, pts_nil, ?_⟩⟩
    · show ((σ.set i none).set i (some w)).set i none = σ.set i none
      rw [List.set_set, List.set_set]
    · exact lcm_turn ok S1 hd L N rw_ hl2
  · rw [List.drop_of_length_le (by rw [hrs.len]; exact Nat.le_refl _)] at hl2
    obtain ⟨S3, e3, r3, f3⟩ := lcm_fin S1 hd L N
    exact k D bs acc H c2 S3 (fun _ _ q => e3 _ _ (e1 _ _ q)) r3 (fun q hq => none_before S1 rfl e1 (f3 q hq)) hl2
end
section
variable {PL : List D → Nat → Prop}
theorem ssm_lcR (i : Nat) (ok : Zok Z) (hb : BlkOk Z.X.N Z.X.env.scope scope [(x, i)]) (hm : Z.X.mg "range" = none)
    (h : EA Z ρ [a] fun ds c => ∃ n : Nat, ds = [.int (n : Nat)] ∧ n ≤ 100000 ∧ lcsN Z scope ρ.s i elt (fun acc c => ∀ D bs, rt (.lsa D bs acc) c) (rngD n) [] c) (gl : Gl Z.X "range" := by rfl) (hi : Z.X.N[i]? = some x := by rfl) (hx : scope.names.lookup x = some .local := by rfl)
    (hst : starEach [a] Z.X.env = [(false, eval a Z.X.env)] := by rfl) (hc : Z.X.calm = true := by rfl) (hs : ∀ v, foldedSetIterable (.Call (.Name "range" p) [a] [] pz) Z.X.env v = pure v := by intro _; rfl) :
    SSM Z ρ [.Return (some (.ListComp elt [⟨.Name x px, .Call (.Name "range" p) [a] [] pz, [], 0⟩] scope pos)) rp] rt := by
  have loc : ∀ C cl, Loc (compEnvC scope cl C Z.X.env).scope x := fun C cl => .inl (lookup_relabel_local hx)
  refine ssm_ret fun σ H Q S k => ⟨_, pe_lc (wi := iRng1 (taAny Z.X [a])) (g := gName i) (tt := tLcTest Z.X scope []) (te := tLcElt Z.X scope elt) hc ok.nd (pi_range1 gl hm pa_any hst) hb (fun s H C cl fp => pg_name ok.nd hi (loc C cl) (.inr (lookup_relabel_local hx)))
    (fun s H C cl fp => ⟨fun pins s' σ H' Q I h => let ⟨t, p, q⟩ := h s H C cl fp; p.run pins s' σ H' Q I q⟩) (fun s H C cl fp => ⟨fun pins s' σ H' Q I h => pe_any.run pins s' σ H' Q I (h s H C cl fp)⟩) hs, ?_⟩
  exact lcm_tR i ok h S fun D bs acc H2 c' S2 e2 r2 f2 p2 => k _ H2 _ c' S2.ok e2 r2 f2 (p2 D bs)
theorem ssm_lcL (i : Nat) (ok : Zok Z) (hb : BlkOk Z.X.N Z.X.env.scope scope [(x, i)])
    (h : EV Z ρ iter fun d c => ∃ l, items d = some l ∧ lcsN Z scope ρ.s i elt (fun acc c => ∀ D bs, rt (.lsa D bs acc) c) l [] c) (hi : Z.X.N[i]? = some x := by rfl) (hx : scope.names.lookup x = some .local := by rfl)
    (hc : Z.X.calm = true := by rfl) (hs : ∀ x, foldedSetIterable iter Z.X.env x = pure x := by intro _; rfl) :
    SSM Z ρ [.Return (some (.ListComp elt [⟨.Name x px, iter, [], 0⟩] scope pos)) rp] rt := by
  have loc : ∀ C cl, Loc (compEnvC scope cl C Z.X.env).scope x := fun C cl => .inl (lookup_relabel_local hx)
  refine ssm_ret fun σ H Q S k => ⟨_, pe_lc (wi := iList Z.X.K (tAny Z.X iter)) (g := gName i) (tt := tLcTest Z.X scope []) (te := tLcElt Z.X scope elt) hc ok.nd (pi_list pe_any) hb (fun s H C cl fp => pg_name ok.nd hi (loc C cl) (.inr (lookup_relabel_local hx)))
    (fun s H C cl fp => ⟨fun pins s' σ H' Q I h => let ⟨t, p, q⟩ := h s H C cl fp; p.run pins s' σ H' Q I q⟩) (fun s H C cl fp => ⟨fun pins s' σ H' Q I h => pe_any.run pins s' σ H' Q I (h s H C cl fp)⟩) hs, ?_⟩
  exact lcm_tL i ok h S fun D bs acc H2 c' S2 e2 r2 f2 p2 => k _ H2 _ c' S2.ok e2 r2 f2 (p2 D bs)
end
end Q
end

section
set_option Elab.async false
set_option linter.all false
set_option maxRecDepth 100000
set_option maxHeartbeats 3900000
/-! P3: a list of new lists is changed. -/
namespace Q
open PySem L2
variable {Z : Zt} {ρ : Rho} {σ : St} {H H' : Hp} {O : Out} {P : D → Nat → Prop} {e a b c1 c2 : Expr} {es : List Expr} {pos p p1 q1 q2 : Pos} {x : Str} {k j : Nat} {d : D} {A : Addr} {bs : List Addr} {l : List D} {ds : List D}
/-- read as a list -/
theorem SR.asLst {i : Nat} (S : SR Z ρ σ H) (hs : ρ.s[i]? = some (some (.lsa A bs l))) : SR Z (ρ.set i (.lst l)) σ H := by
  obtain ⟨v, h1, h2⟩ := S.sl.get hs
  have := S.set i (slot_of (d := .lst l) (.of (rep.lsa h2)))
  rw [set_same h1] at this
  exact this
theorem ev_lsa (i : Nat) (hs : ρ.s[i]? = some (some (.lsa A bs l))) (h : EV Z (ρ.set i (.lst l)) e P) : EV Z ρ e P :=
  pe_imp h fun σ H Q q => ⟨q.1.asLst hs, fun v H' d c' S2 e2 r p => q.2 v H' d c' (q.1.call S2.ok e2) e2 r p⟩
theorem en_lsa (i : Nat) (hs : ρ.s[i]? = some (some (.lsa A bs l))) (h : EN Z (ρ.set i (.lst l)) e P) : EN Z ρ e P :=
  pe_imp h fun σ H Q q => ⟨q.1.asLst hs, fun v H' d c' S2 e2 r f p => q.2 v H' d c' (q.1.call S2.ok e2) e2 r f p⟩
theorem eq_lsa (i : Nat) (hs : ρ.s[i]? = some (some (.lsa A bs l))) (h : EQ Z (ρ.set i (.lst l)) e d) : EQ Z ρ e d := ev_lsa i hs h
/-- data that no list stands in -/
def scalD : D → Bool
  | .non | .bl _ | .int _ | .str _ | .ty _ | .cls _ => true
  | _ => false
def flatD : D → Bool
  | .non | .bl _ | .int _ | .str _ | .ty _ | .cls _ | .box => true
  | .tup l => l.all scalD
  | _ => false
def flatO : Option D → Bool
  | none => true
  | some d => flatD d
def SameT (G G' : Hp) : Prop := ∀ p vs, G p = some (.tup vs) → G' p = some (.tup vs)
theorem scal_rep {T : Tab} {G G' : Hp} {d : D} {v : V} (h : scalD d = true) (r : rep T G d v) : rep T G' d v := by
  cases d <;> first | exact r | cases h
theorem scals_rep {T : Tab} {G G' : Hp} : ∀ {l : List D} {vs : List V}, l.all scalD = true → reps T G l vs → reps T G' l vs
  | [], _, _, r => r
  | d :: l, _, h, ⟨v, rr, e, r1, r2⟩ => by
    rw [List.all_cons, Bool.and_eq_true] at h; exact ⟨v, rr, e, scal_rep h.1 r1, scals_rep h.2 r2⟩
theorem flat_rep {T : Tab} {G G' : Hp} (s : SameT G G') {d : D} {v : V} (h : flatD d = true) (r : rep T G d v) : rep T G' d v := by
  cases d <;> first | exact r | (cases h; done) | skip
  obtain ⟨q, vs, e, g, rr⟩ := r
  exact ⟨q, vs, e, s _ _ g, scals_rep h rr⟩
theorem flats_rep {T : Tab} {G G' : Hp} (s : SameT G G') : ∀ {l : List D} {vs : List V}, l.all flatD = true → reps T G l vs → reps T G' l vs
  | [], _, _, r => r
  | d :: l, _, h, ⟨v, rr, e, r1, r2⟩ => by
    rw [List.all_cons, Bool.and_eq_true] at h; exact ⟨v, rr, e, flat_rep s h.1 r1, flats_rep s h.2 r2⟩
theorem flat_slot {T : Tab} {B : Bm} {G G' : Hp} (s : SameT G G') {d : D} {v : V} (h : flatD d = true) (r : slotOk T B G d v) : slotOk T B G' d v := by
  cases d <;> first | exact flat_rep s h r | exact r | cases h
theorem slots_flat {T : Tab} {B : Bm} {G G' : Hp} (s : SameT G G') : ∀ {t : List (Option D)} {σ : St}, t.all flatO = true → slots T B G t σ → slots T B G' t σ
  | [], _, _, r => r
  | none :: t, _, h, ⟨y, rr, e, r⟩ => ⟨y, rr, e, slots_flat s (by rw [List.all_cons, Bool.and_eq_true] at h; exact h.2) r⟩
  | some d :: t, _, h, ⟨v, rr, e, r1, r2⟩ => by
    rw [List.all_cons, Bool.and_eq_true] at h; exact ⟨v, rr, e, flat_slot s h.1 r1, slots_flat s h.2 r2⟩
/-- rows one by one -/
theorem reps_mk {T : Tab} {G : Hp} : ∀ {l : List D} {vs : List V}, l.length = vs.length → (∀ (i : Nat) (d : D) (v : V), l[i]? = some d → vs[i]? = some v → rep T G d v) → reps T G l vs
  | [], [], _, _ => rfl
  | d :: l, v :: vs, hl, h => ⟨v, vs, rfl, h 0 d v rfl rfl, reps_mk (by simpa using hl) fun i d v h1 h2 => h (i + 1) d v (by simpa using h1) (by simpa using h2)⟩
theorem reps_get {T : Tab} {G : Hp} {l : List D} {vs : List V} (r : reps T G l vs) {i : Nat} {d : D} {v : V} (h1 : l[i]? = some d) (h2 : vs[i]? = some v) : rep T G d v := by
  obtain ⟨w, h3, h4⟩ := r.get h1
  rw [h2] at h3
  cases h3
  exact h4
/-- a row of flat data, new each -/
def rowF : D → Bool
  | .lst m => m.all flatD
  | _ => false
/-- one object is written anew; what stood elsewhere is flat -/
theorem SR.poke {i : Nat} {o : Addr} {ws ws' : List V} {d' : D} {v : V} (S : SR Z ρ σ H) (ho : vis ρ.B H o = some (.lst ws)) (nw : Nw Z o) (hg : Z.g = []) (fl : (ρ.s.set i none).all flatO = true) (hv : σ[i]? = some (some v))
    (hd : slotOk Z.T ρ.B (vis ρ.B (upd H o (.lst ws'))) d' v) : SR Z (ρ.set i d') σ (upd H o (.lst ws')) := by
  have hb : ρ.B o = none := by
    cases q : ρ.B o with
    | none => rfl
    | some y => unfold vis at ho; rw [q] at ho; cases ho
  have e : vis ρ.B (upd H o (.lst ws')) = upd (vis ρ.B H) o (.lst ws') := vis_upd hb
  have sT : SameT (vis ρ.B H) (vis ρ.B (upd H o (.lst ws'))) := fun q vs g => by
    rw [e, upd_ne (fun z => by subst z; rw [ho] at g; cases g)]
    exact g
  refine ⟨⟨fun q z => ?_, fun q u z => ?_⟩, S.le, fun q u z => ?_, ?_, fun q hq => by rw [hg] at hq; cases hq⟩
  · rw [upd_ne (fun y => by subst y; rw [hb] at z; cases z)]
    exact S.ok.box q z
  · rw [upd_ne (fun y => by subst y; rw [hb] at z; cases z)]
    exact S.ok.fix q u z
  · rw [e, upd_ne (fun y => by subst y; rw [nw] at z; cases z)]
    exact S.ex q u z
  · have h1 := slots_flat sT fl (S.sl.unset i)
    have h2 := h1.set (v := v) hd i
    rw [List.set_set, List.set_set, set_same hv] at h2
    exact h2
theorem rowF_rep {T : Tab} {G G' : Hp} {b : Addr} (s : SameT G G') (hb : G' b = G b) {d : D} (h : rowF d = true) (r : rep T G d (.ref b)) : rep T G' d (.ref b) := by
  cases d <;> first | (cases h; done) | skip
  obtain ⟨q, ws, e, g, rr⟩ := r
  cases e
  exact ⟨b, ws, rfl, hb.trans g, flats_rep s h rr⟩
theorem atI_nat {α : Type} {l : List α} {j : Nat} (h : j < l.length) : ixN l.length ((j : Nat) : Int) = some j := by
  unfold ixN; simp; omega
/-- x[a][b] = e -/
theorem st_pokeE (i : Nat) {k1 k2 : Nat} {m : List D} (ok : Zok Z) (hs : ρ.s[i]? = some (some (.lsa A bs l))) (nw : ∀ q ∈ A :: bs, Nw Z q) (hg : Z.g = []) (fl : (ρ.s.set i none).all flatO = true) (hl : l.all rowF = true)
    (he : EQ Z ρ e d) (hd : flatD d = true) (hp : plain d = true) (ha : EQ Z ρ a (.int (k1 : Nat))) (hb : EQ Z ρ b (.int (k2 : Nat))) (hm : l[k1]? = some (.lst m)) (h2 : k2 < m.length)
    (hx : O.nx (ρ.set i (.lsa A bs (l.set k1 (.lst (m.set k2 d)))))) (hN : Z.X.N[i]? = some x := by rfl)
    (hv : Vis Z.X.env.scope x := by first | exact Or.inl rfl | exact Or.inr (Or.inl rfl) | exact Or.inr (Or.inr rfl)) (hdb : (x == ("__debug__" : Str)) = false := by decide)
    (hcd : (x == ("__classdict__" : Str)) = false := by decide) (hpx : PlainIx a := by exact fun _ _ => rfl)
    (hsw : swapsWithSole [.Subscript (.Subscript (.Name x p1) a q1) b q2] e pos.line Z.X.env = pure false := by rfl) (hw : swappedStores [.Subscript (.Subscript (.Name x p1) a q1) b q2] e Z.X.env = pure none := by rfl)
    (h0 : (assignEach [.Subscript (.Subscript (.Name x p1) a q1) b q2] Z.X.env).map (·.2) = [assign (.Subscript (.Subscript (.Name x p1) a q1) b q2) Z.X.env] := by rfl)
    (u1 : ∀ v, assign (.Subscript (.Subscript (.Name x p1) a q1) b q2) Z.X.env v = (do
      let ov ← holding [v] (eval (.Subscript (.Name x p1) a q1) Z.X.env); let iv ← holding [v, ov] (eval b Z.X.env); standAt q2; holding [v, ov, iv] (setItem ov iv v); release [v, ov, iv] []) := by intro _; rfl) :
    ST Z ρ (.Assign [.Subscript (.Subscript (.Name x p1) a q1) b q2] e pos) O :=
  st_of (ps_asg pe_any (pg_sub (pe_ix ix_list (pe_var (i := i) hN hv hdb hcd) pe_any hpx) pe_any set_list u1) hsw hw h0) fun En σ H S K => eq_any he S fun v H1 S1 e1 r1 => by
    obtain ⟨v0, g1, g2⟩ := S1.sl.get hs
    refine ⟨v0, g1, eq_any ha S1 fun w H2 S2 e2 r2 => ?_⟩
    cases r2
    obtain ⟨v0', g1', g2'⟩ := S2.sl.get hs
    have ev : v0' = v0 := by
      rw [g1] at g1'
      exact (Option.some.inj (Option.some.inj g1')).symm
    subst ev
    obtain ⟨rfl, ga, nd, rr⟩ := g2'
    have ll : bs.length = l.length := by have := rr.len; rw [List.length_map] at this; exact this
    have k1l : k1 < l.length := (List.getElem?_eq_some_iff.mp hm).1
    have hbk : bs[k1]? = some (bs[k1]'(by omega)) := List.getElem?_eq_getElem (by omega)
    let B := bs[k1]'(by omega)
    have hB : (bs.map V.ref)[k1]? = some (.ref B) := by rw [List.getElem?_map, hbk]; rfl
    refine ⟨A, bs.map V.ref, k1, .ref B, rfl, rfl, .inl (.inl (vis_some ga)), ?_, eq_any hb S2 fun w H3 S3 e3 r3 => ?_⟩
    · unfold atI
      rw [atI_nat (by rw [List.length_map]; omega)]
      exact hB
    cases r3
    obtain ⟨v1, g3, g4⟩ := S3.sl.get hs
    obtain ⟨rfl, ga3, nd3, rr3⟩ := g4
    obtain ⟨B', ws, eB, gB, rB⟩ := reps_get rr3 hm hB
    cases eB
    have lw : ws.length = m.length := rB.len
    have mB : B ∈ bs := List.getElem_mem _
    have hrow : m.all flatD = true := List.all_eq_true.mp hl _ (List.mem_of_getElem? hm)
    have rv : rep Z.T (vis ρ.B H3) d v := (val_rep r1 hp).mono fun _ _ z => e3 _ _ (e2 _ _ z)
    refine ⟨B, ws, (k2 : Nat), k2, rfl, rfl, vis_some gB, atI_nat (by omega), K.nx _ _ _ (S3.poke (i := i) gB (nw B (List.mem_cons_of_mem _ mB)) hg fl g3 ?_) hx⟩
    have hbn : ρ.B B = none := by
      cases q : ρ.B B with
      | none => rfl
      | some y => unfold vis at gB; rw [q] at gB; cases gB
    have eu : vis ρ.B (upd H3 B (.lst (ws.set k2 v))) = upd (vis ρ.B H3) B (.lst (ws.set k2 v)) := vis_upd hbn
    have sT : SameT (vis ρ.B H3) (vis ρ.B (upd H3 B (.lst (ws.set k2 v)))) := fun q vs g => by
      rw [eu, upd_ne (fun z => by subst z; rw [gB] at g; cases g)]
      exact g
    refine ⟨rfl, ?_, nd, reps_mk (by rw [List.length_set, List.length_map]; omega) fun t d' v' h5 h6 => ?_⟩
    · rw [eu, upd_ne (fun z => (List.nodup_cons.mp nd).1 (by rw [z]; exact mB))]
      exact ga3
    · rw [List.getElem?_map] at h6
      cases hq : bs[t]? with
      | none => rw [hq] at h6; cases h6
      | some bt =>
        rw [hq] at h6
        cases h6
        by_cases z : t = k1
        · subst z
          rw [List.getElem?_set_self k1l] at h5
          cases h5
          have eb : bt = B := Option.some.inj (hq.symm.trans hbk)
          subst eb
          exact ⟨B, _, rfl, by rw [eu, upd_same], flats_rep sT (by
            rw [List.all_eq_true] at hrow ⊢
            intro y hy
            rcases List.mem_or_eq_of_mem_set hy with z | z
            · exact hrow y z
            · rw [z]; exact hd) (rB.set k2 rv)⟩
        · rw [List.getElem?_set_ne (fun y => z y.symm)] at h5
          have nb : bt ≠ B := fun y => by
            subst y
            have h7 := (List.getElem?_eq_some_iff.mp hq)
            obtain ⟨tl, te⟩ := h7
            exact z ((List.getElem_inj (List.nodup_cons.mp nd).2).mp te)
          refine rowF_rep sT (by rw [eu, upd_ne nb]) (List.all_eq_true.mp hl _ (List.mem_of_getElem? h5)) (reps_get rr3 h5 (by rw [List.getElem?_map, hq]; rfl))
/-- x[a] = e, e new -/
theorem st_pokeR (i : Nat) {k1 : Nat} (ok : Zok Z) (hs : ρ.s[i]? = some (some (.lsa A bs l))) (nw : ∀ q ∈ A :: bs, Nw Z q) (hg : Z.g = []) (fl : (ρ.s.set i none).all flatO = true) (hl : l.all rowF = true) (hk : k1 < l.length)
    (he : EN Z ρ e fun d c => ∃ m, d = .lst m ∧ m.all flatD = true ∧ EQ Z (ρ.wc c) a (.int (k1 : Nat)) ∧ ∀ q, (∀ y ∈ A :: bs.set k1 q, Nw Z y) → O.nx ((ρ.wc c).set i (.lsa A (bs.set k1 q) (l.set k1 (.lst m)))))
    (hN : Z.X.N[i]? = some x := by rfl)
    (hv : Vis Z.X.env.scope x := by first | exact Or.inl rfl | exact Or.inr (Or.inl rfl) | exact Or.inr (Or.inr rfl)) (hdb : (x == ("__debug__" : Str)) = false := by decide)
    (hcd : (x == ("__classdict__" : Str)) = false := by decide)
    (hsw : swapsWithSole [.Subscript (.Name x p1) a q1] e pos.line Z.X.env = pure false := by rfl) (hw : swappedStores [.Subscript (.Name x p1) a q1] e Z.X.env = pure none := by rfl)
    (h0 : (assignEach [.Subscript (.Name x p1) a q1] Z.X.env).map (·.2) = [assign (.Subscript (.Name x p1) a q1) Z.X.env] := by rfl)
    (u1 : ∀ v, assign (.Subscript (.Name x p1) a q1) Z.X.env v = (do
      let ov ← holding [v] (eval (.Name x p1) Z.X.env); let iv ← holding [v, ov] (eval a Z.X.env); standAt q1; holding [v, ov, iv] (setItem ov iv v); release [v, ov, iv] []) := by intro _; rfl) :
    ST Z ρ (.Assign [.Subscript (.Name x p1) a q1] e pos) O :=
  st_of (ps_asg pe_any (pg_sub (pe_var (i := i) hN hv hdb hcd) pe_any set_list u1) hsw hw h0) fun En σ H S K => en_any he S fun v H1 d c S1 e1 r1 fr ⟨m, hd, hm, ha, hx⟩ => by
    subst hd
    obtain ⟨q, ws, rfl, gq, rq⟩ := r1
    have n0 : H q = none := fr q rfl
    obtain ⟨v0, g1, g2⟩ := S1.sl.get hs
    refine ⟨v0, g1, eq_any ha S1 fun w H2 S2 e2 r2 => ?_⟩
    cases r2
    obtain ⟨v0', g1', g2'⟩ := S2.sl.get hs
    have ev : v0' = v0 := by
      rw [g1] at g1'
      exact (Option.some.inj (Option.some.inj g1')).symm
    subst ev
    obtain ⟨rfl, ga, nd, rr⟩ := g2'
    have ll : bs.length = l.length := by have := rr.len; rw [List.length_map] at this; exact this
    -- what was there
    obtain ⟨vh, gh1, gh2⟩ := S.sl.get hs
    obtain ⟨rfl, gah, _, rrh⟩ := gh2
    have nA : q ≠ A := fun z => by subst z; have := vis_some gah; rw [n0] at this; cases this
    have nb : q ∉ bs := fun z => by
      obtain ⟨t, tl, te⟩ := List.getElem_of_mem z
      have hbt : (bs.map V.ref)[t]? = some (.ref q) := by rw [List.getElem?_map, List.getElem?_eq_getElem tl, te]; rfl
      have hlt : l[t]? = some (l[t]'(by omega)) := List.getElem?_eq_getElem (by omega)
      have rw_ := reps_get rrh hlt hbt
      have hro := List.all_eq_true.mp hl _ (List.mem_of_getElem? hlt)
      revert rw_ hro
      cases l[t]'(by omega) <;> intro rw_ hro <;> first | (cases hro; done) | skip
      obtain ⟨q', ws', e', g', _⟩ := rw_
      cases e'
      have := vis_some g'
      rw [n0] at this
      cases this
    refine ⟨A, bs.map V.ref, (k1 : Nat), k1, rfl, rfl, vis_some ga, atI_nat (by rw [List.length_map]; omega), K.nx _ _ _ (SR.poke (ρ := ρ.wc c) (i := i) S2 ga (nw A List.mem_cons_self) hg fl g1 ?_) (hx q fun y hy => ?_)⟩
    · have hbn : ρ.B A = none := by
        cases q : ρ.B A with
        | none => rfl
        | some y => unfold vis at ga; rw [show (ρ.wc c).B = ρ.B from rfl, q] at ga; cases ga
      have eu : vis ρ.B (upd H2 A (.lst ((bs.map V.ref).set k1 (.ref q)))) = upd (vis ρ.B H2) A (.lst ((bs.map V.ref).set k1 (.ref q))) := vis_upd hbn
      have sT : SameT (vis ρ.B H2) (vis ρ.B (upd H2 A (.lst ((bs.map V.ref).set k1 (.ref q))))) := fun t vs g => by
        rw [eu, upd_ne (fun z => by subst z; rw [show vis ρ.B H2 t = _ from ga] at g; cases g)]
        exact g
      have em : (bs.set k1 q).map V.ref = (bs.map V.ref).set k1 (.ref q) := by rw [List.map_set]
      have nd2 : (A :: bs.set k1 q).Nodup := by
        refine List.nodup_cons.mpr ⟨fun z => ?_, ?_⟩
        · rcases List.mem_or_eq_of_mem_set z with z | z
          · exact (List.nodup_cons.mp nd).1 z
          · exact nA z.symm
        · have nb1 := (List.nodup_cons.mp nd).2
          rw [List.nodup_iff_pairwise_ne, List.pairwise_iff_getElem] at nb1 ⊢
          intro s t hs' ht' hst
          rw [List.length_set] at hs' ht'
          rw [List.getElem_set, List.getElem_set]
          split
          · split
            · omega
            · exact fun z => nb (z ▸ List.getElem_mem _)
          · split
            · exact fun z => nb (z ▸ List.getElem_mem _)
            · exact nb1 s t hs' ht' hst
      show slotOk Z.T ρ.B (vis ρ.B (upd H2 A (.lst ((bs.map V.ref).set k1 (.ref q))))) (.lsa A (bs.set k1 q) (l.set k1 (.lst m))) (.ref A)
      refine ⟨rfl, by rw [eu, em, upd_same], nd2, reps_mk (by rw [List.length_set, List.length_map, List.length_set]; omega) fun t d' v' h5 h6 => ?_⟩
      rw [em] at h6
      by_cases z : t = k1
      · subst z
        rw [List.getElem?_set_self hk] at h5
        rw [List.getElem?_set_self (by rw [List.length_map]; omega)] at h6
        cases h5
        cases h6
        exact rowF_rep (d := .lst m) sT (by rw [eu, upd_ne nA]) hm ⟨q, ws, rfl, e2 _ _ gq, rq.mono e2⟩
      · rw [List.getElem?_set_ne (fun y => z y.symm)] at h5 h6
        rw [List.getElem?_map] at h6
        cases hq : bs[t]? with
        | none => rw [hq] at h6; cases h6
        | some bt =>
          rw [hq] at h6
          cases h6
          have nbt : bt ≠ A := fun y => by subst y; exact (List.nodup_cons.mp nd).1 (List.mem_of_getElem? hq)
          exact rowF_rep sT (by rw [eu, upd_ne nbt]) (List.all_eq_true.mp hl _ (List.mem_of_getElem? h5)) (reps_get rr h5 (by rw [List.getElem?_map, hq]; rfl))
    · rcases List.mem_cons.mp hy with z | z
      · rw [z]; exact nw A List.mem_cons_self
      · rcases List.mem_or_eq_of_mem_set z with z | z
        · exact nw y (List.mem_cons_of_mem _ z)
        · rw [z]; exact S.nw n0
/-- list(e) -/
theorem en_list (hK : Z.X.K = Z.T.K) (hg : Gl Z.X "list") (hm : Z.X.mg "list" = none) (h : EV Z ρ a fun d c => ∃ l, items d = some l ∧ P (.lst l) c) (he : starEach [a] Z.X.env = (false, eval a Z.X.env) :: starEach [] Z.X.env := by rfl) (hpl : (backTo pos (starEach [] Z.X.env)).any (·.1) = false := by rfl) :
    EN Z ρ (.Call (.Name "list" p) [a] [] pos) P :=
  en_of (pe_callTy call_list_of hg hm (by decide +kernel) pa_any (by decide) (by decide) he hpl) fun σ H Q S k => ea_any (ea_cons (P := fun ds c => ∃ d l, ds = [d] ∧ items d = some l ∧ P (.lst l) c) (h.mono fun d c ⟨l, h1, h2⟩ => ea_nil ⟨d, l, rfl, h1, h2⟩) he) S fun vs H1 ds c S1 e1 r ⟨d, l, hds, hl, hp⟩ => by
    subst hds
    obtain ⟨v, rfl, r1⟩ := pr1 r
    obtain ⟨q, xs, rfl, hsq, hrs⟩ := items_at hl (val_rep r1 (items_plain hl))
    refine ⟨q, xs, rfl, .inl (by rw [hK]; exact seqS vis_same hsq), fun o ho => ?_⟩
    refine k (.ref o) _ (.lst l) c (S1.same (same_new ho)) (fun t u z => Same.vis_ (same_new ho) _ _ (e1 _ _ z)) (.of ⟨o, xs, rfl, new_at (ρ := ρ.wc c) S1 ho, hrs.mono (Same.vis_ (same_new ho))⟩) (fun t ht => ?_) hp
    cases ht
    exact none_before (ρ := ρ) S1 rfl e1 ho
/-- tuple(e), e a list -/
theorem ev_tupOf (hK : Z.X.K = Z.T.K) (hg : Gl Z.X "tuple") (hm : Z.X.mg "tuple" = none) (h : EV Z ρ a fun d c => ∃ l, items d = some l ∧ P (.tup l) c) (he : starEach [a] Z.X.env = (false, eval a Z.X.env) :: starEach [] Z.X.env := by rfl) (hpl : (backTo pos (starEach [] Z.X.env)).any (·.1) = false := by rfl) :
    EV Z ρ (.Call (.Name "tuple" p) [a] [] pos) P :=
  ev_of (pe_callTy call_tuple_of hg hm (by decide +kernel) pa_any (by decide) (by decide) he hpl) fun σ H Q S k => ea_any (ea_cons (P := fun ds c => ∃ d l, ds = [d] ∧ items d = some l ∧ P (.tup l) c) (h.mono fun d c ⟨l, h1, h2⟩ => ea_nil ⟨d, l, rfl, h1, h2⟩) he) S fun vs H1 ds c S1 e1 r ⟨d, l, hds, hl, hp⟩ => by
    subst hds
    obtain ⟨v, rfl, r1⟩ := pr1 r
    obtain ⟨q, xs, rfl, hsq, hrs⟩ := items_at hl (val_rep r1 (items_plain hl))
    refine ⟨q, xs, rfl, .inl ⟨by rw [hK]; exact seqS vis_same hsq, fun o ho => ?_⟩⟩
    exact k (.ref o) _ (.tup l) c (S1.same (same_new ho)) (fun t u z => Same.vis_ (same_new ho) _ _ (e1 _ _ z)) (.of ⟨o, xs, rfl, new_at (ρ := ρ.wc c) S1 ho, hrs.mono (Same.vis_ (same_new ho))⟩) hp
end Q
end

section
set_option Elab.async false
set_option linter.all false
set_option maxRecDepth 100000
set_option maxHeartbeats 3900000
/-! P5: zip(tuple, list); a list of one's own by a comprehension over zip. -/
namespace Q
open PySem PySem.Spec PyProof.Rows L2 RZ
/-- a tuple at a, a list at b, the items in new pairs -/
def ItzM (K : PySem.W.Frag) (a b : Addr) : It where
  go := fun i H => ∃ xs ys x y, SqT K H a xs ∧ SqL K H b ys ∧ xs[i]? = some x ∧ ys[i]? = some y
  yld := fun i H v H' => ∃ t x y, v = .ref t ∧ H t = none ∧ H' = upd H t (.tup [x, y]) ∧ (∀ xs, SqT K H a xs → xs[i]? = some x) ∧ ∀ ys, SqL K H b ys → ys[i]? = some y
  stop := fun i H => ∃ xs ys, SqT K H a xs ∧ SqL K H b ys ∧ (xs.length ≤ i ∨ ys.length ≤ i)
theorem in5 {c z u v i j : Addr} (h : c ∈ [z, u, v, i, j]) : c = z ∨ c = u ∨ c = v ∨ c = i ∨ c = j := by simpa using h
theorem turn_zipM {P : Program} {w : World} {K : PySem.W.Frag} {elts : List Expr} {kk : Nat} {tp : Pos} {a b z u v i j : Addr} (D : ZipApart z u v i j a b) :
    Turn P w K (.Tuple elts kk tp) (ItzM K a b) [z, u, v, i, j] z (fun n h => IsZip h z u v .none ∧ IsPair h u (.ref i) (.ref j) ∧ (∃ x y, IsPair h v x y) ∧ h.IsTupleIter i a n ∧ h.IsListIter j b n) where
  mem := by simp
  self := fun A n s Q E st h => wpAny_pyIter_zip st.1 h
  keep := fun n h h' ⟨q1, q2, ⟨x, y, q3⟩, q4, q5⟩ k => ⟨k z (by simp) _ q1, k u (by simp) _ q2, ⟨x, y, k v (by simp) _ q3⟩, q4.at fun o e => k i (by simp) o e, q5.at fun o e => k j (by simp) o e⟩
  obj := fun n h ⟨q1, q2, ⟨x, y, q3⟩, ⟨o1, e1, _, d1⟩, ⟨o2, e2, _, d2⟩⟩ c hc => by
    rcases in5 hc with q | q | q | q | q <;> subst q
    · exact ⟨_, q1, fun _ q => nomatch q⟩
    · exact ⟨_, q2, fun _ q => nomatch q⟩
    · exact ⟨_, q3, fun _ q => nomatch q⟩
    · exact ⟨o1, e1, fun _ q => by rw [d1] at q; cases q⟩
    · exact ⟨o2, e2, fun _ q => by rw [d2] at q; cases q⟩
  item := by
    intro X hP hw hK hc n pins s σ H E I hf st hg
    subst hP hw hK; obtain ⟨q1, q2, ⟨x0, y0, q3⟩, h1, h2⟩ := st; obtain ⟨xs, ys, x, y, sx, sy, hx, hy⟩ := hg
    obtain ⟨us, ru, pu, _⟩ := I.tuple sx; obtain ⟨ws, rw_, pw, _⟩ := I.list sy
    obtain ⟨ux, hux, rux⟩ := ru.get hx; obtain ⟨wy, hwy, rwy⟩ := rw_.get hy
    have zl : z < s.heap.objs.size := Heap.lt_size q1
    have S1 : Src i a us.toArray _ := src_tup D.l1i1
    have S2 : Src j b ws.toArray _ := src_list D.l2i2
    refine nextS_item D S1 S2 q1 q2 q3 ⟨h1, pu⟩ ⟨h2, pw.isList⟩ (x := ux) (y := wy) (by simpa using hux) (by simpa using hwy) fun g zg vg s1 s2 tg ng hk => ?_
    refine ⟨_, rfl, wpAny_letOwnedTupleGo_zip (s := { s with heap := g }) zg fun g2 zg2 sb => ?_⟩
    have t2 : g2.get? s.heap.objs.size = some { cls := .type "tuple", data := .seq #[ux, wy] } := (sb.2 _ (Nat.ne_of_gt zl)).trans tg
    have I1 : Inv X pins σ (upd H s.heap.objs.size (.tup [x, y])) { s with heap := g2 } :=
      I.turnedNew (t' := s.toks) (ch := [z, u, v, i, j]) (fun c o hb q => (sb.2 c fun y => hb (by simp [y])).trans (hk c o (fun y => hb (by simp [y])) (fun y => hb (by simp [y])) (fun y => hb (by simp [y])) (fun y => hb (by simp [y])) q)) hf (Nat.le_refl _)
        ⟨by show 2 ≤ sizeLine; decide, [ux, wy], .cons rux (.cons rwy .nil), ⟨_, t2, rfl, _, rfl⟩⟩
    refine ⟨.ref s.heap.objs.size, _, I1, rfl, ⟨_, x, y, rfl, I.hok.fresh (Nat.le_refl _), rfl, fun l hl => by rw [I.tuple_inj hl sx]; exact hx, fun l hl => by rw [I.list_inj hl sy]; exact hy⟩,
      ⟨zg2, (sb.2 _ D.TIz).trans (hk _ _ D.TIz D.TITO D.TIi1 D.TIi2 q2), ⟨ux, wy, (sb.2 _ D.TOz).trans vg⟩, s1.1.at fun o q => (sb.2 _ D.i1z).trans q, s2.1.at fun o q => (sb.2 _ D.i2z).trans q⟩, fun c hcm => ?_⟩
    have old : c < s.heap.objs.size := by
      rcases in5 hcm with q | q | q | q | q <;> subst q
      · exact zl
      · exact Heap.lt_size q2
      · exact Heap.lt_size q3
      · obtain ⟨_, e, _⟩ := h1; exact Heap.lt_size e
      · obtain ⟨_, e, _⟩ := h2; exact Heap.lt_size e
    rw [upd_ne (Nat.ne_of_lt old)]; exact (hf c hcm).1
  done := by
    intro X hP hw hK hc n pins s σ H E I hf st hg
    subst hP hw hK; obtain ⟨q1, q2, ⟨x0, y0, q3⟩, h1, h2⟩ := st; obtain ⟨xs, ys, sx, sy, hend⟩ := hg
    obtain ⟨us, ru, pu, _⟩ := I.tuple sx; obtain ⟨ws, rw_, pw, _⟩ := I.list sy
    have n1 := ru.length
    have n2 := rw_.length
    have S1 : Src i a us.toArray _ := src_tup D.l1i1
    have S2 : Src j b ws.toArray _ := src_list D.l2i2
    refine nextS_done (I.ok.hd hc) D S1 S2 q1 q2 q3 ⟨h1, pu⟩ ⟨h2, pw.isList⟩ (by rcases hend with q | q; exact .inl (by simp; omega); exact .inr (by simp; omega)) fun g hk => ⟨rfl, I.turnedL (t' := s.toks) (ch := [z, u, v, i, j]) (fun c o hb q => ?_) hf⟩
    exact hk c o (fun y => hb (by simp [y])) (fun y => hb (by simp [y])) (fun y => hb (by simp [y])) (fun y => hb (by simp [y])) q
def iZipM (K : PySem.W.Frag) (ta : TA) : TI := fun σ H R => ta σ H fun vs H1 => ∃ a b xs ys, vs = [.ref a, .ref b] ∧ SqT K H1 a xs ∧ SqL K H1 b ys ∧ R (ItzM K a b) H1
theorem pi_zipM {X : Cx} {e e2 : Expr} {ta : TA} {p pos tp : Pos} {elts : List Expr} {kk : Nat} (hg : Gl X "zip") (hm : X.mg "zip" = none) (ha : PA X [e, e2] ta)
    (hs : starEach [e, e2] X.env = (false, eval e X.env) :: starEach [e2] X.env := by rfl) (hpl : (backTo pos (starEach [e2] X.env)).any (·.1) = false := by rfl) : PI X (.Tuple elts kk tp) (.Call (.Name "zip" p) [e, e2] [] pos) (iZipM X.K ta) := by
  refine ⟨fun pins s σ H R I h => Call_ (ld_blt I hg hm PyProof.Rows.boot_zip (PyProof.Rows.callWith_type1 (thn (ha.run pos pins s σ H _ I h) fun us s1 ⟨vs, H1, I1, r1, q1⟩ => ?_) hs hpl))⟩
  obtain ⟨a, b, xs, ys, rfl, sx, sy, q⟩ := q1
  cases r1 with
  | cons r rr =>
    cases rr with
    | cons r' rr =>
      cases rr; cases r; cases r'
      obtain ⟨us, ru, pu, _⟩ := I1.tuple sx; obtain ⟨ws, rw_, pw, _⟩ := I1.list sy
      obtain ⟨oa, ea, _⟩ := id pu
      obtain ⟨g1, g2, g3, g4, g5, g6⟩ := zTL_at s1.heap a b
      refine call_zTL (show s1.heap.IsTuple a us.toArray from pu) pw.isList (wpAny_pyIter_zip (s := { s1 with heap := zTL s1.heap a b }) g1 ?_)
      refine ⟨s1.heap.objs.size + 4, [s1.heap.objs.size + 4, s1.heap.objs.size + 2, s1.heap.objs.size + 3, s1.heap.objs.size, s1.heap.objs.size + 1], _, _, H1, rfl, I1.kept (t' := s1.toks) g6, turn_zipM (PySem.W.ktu_apart s1.heap.objs.size a b (Heap.lt_size ea) pw.lt), ⟨g1, g2, ⟨_, _, g3⟩, g4, g5⟩, fun c hc => ?_, q⟩
      have le : s1.heap.objs.size ≤ c := by rcases in5 hc with q | q | q | q | q <;> subst q <;> omega
      exact I1.fpOk le (I1.hok.fresh le)
theorem walk_zipM {K : PySem.W.Frag} {a b : Addr} {xs ys : List V} {n : Nat} (hn : n = min xs.length ys.length) : Walk (ItzM K a b) n (fun H => SqT K H a xs ∧ SqL K H b ys) (YPair (fun i => xs[i]?) (fun i => ys[i]?)) where
  goes := fun i _ hi q => ⟨xs, ys, xs[i]'(by omega), ys[i]'(by omega), q.1, q.2, List.getElem?_eq_getElem _, List.getElem?_eq_getElem _⟩
  stops := fun _ q => ⟨xs, ys, q.1, q.2, by omega⟩
  yields := fun i H v H' _ q ⟨t, x, y, h1, h2, h3, h4, h5⟩ => ⟨t, x, y, h1, h2, h3, h4 xs q.1, h5 ys q.2⟩
/-! ### one's own list -/
section
variable {Z : Zt} {ρ : Rho} {σ : L2.St} {H H' : Hp} {O : Out} {P : D → Nat → Prop} {e a b elt iter : Expr} {pos p px py pz pt : Pos} {x y : Str} {scope : Scope} {kk : Nat}
/-- the list that is made, at the end: hidden -/
def PostH (Z : Zt) (ρ : Rho) (σ : L2.St) (H : Hp) (PL : List D → Nat → Prop) (Q : VK) : Prop :=
  ∀ q vs acc H' c', SR Z ⟨hideAt ρ.B q (some (.lst vs)), ρ.s, c'⟩ σ H' → reps Z.T (vis (hideAt ρ.B q (some (.lst vs))) H') acc vs → Z.B0 q = none → ρ.B q = none → PL acc c' → Q (.ref q) H'
theorem lch_w2 {i i2 : Nat} (ne : i ≠ i2) (ok : Zok Z) {J : It} {G : Hp → Prop} {l : List (D × D)} {xs ys : Nat → Option V} {c : Nat} {H1 : Hp} {Qe : V → Hp → Prop} {q : Addr} {PL : List D → Nat → Prop} {g : D × D → D}
    (w : Walk J l.length G (YPair xs ys)) (S1 : SR Z (ρ.wc c) σ H1) (hG : ∀ H, Same (vis ρ.B H1) H → G H)
    (hx : ∀ j (h : j < l.length), ∀ v, xs j = some v → rep Z.T (vis ρ.B H1) (l[j]).1 v) (hy : ∀ j (h : j < l.length), ∀ v, ys j = some v → rep Z.T (vis ρ.B H1) (l[j]).2 v) (len : l.length ≤ 100000)
    (hg : ∀ y ∈ l, plain (g y) = true ∧ ∀ B s1 H1 C cl fp, Zok (Z.blk s1 H1 scope C cl fp) → EQ (Z.blk s1 H1 scope C cl fp) ⟨B, st2 ρ.s i i2 y.1 y.2, c⟩ elt (g y)) (hp : PL (l.map g) c) (k : PostH Z (ρ.wc c) σ H1 PL Qe) (hd : H1 q = none) :
    ∃ W : Nat → Nat → Hp → Prop, (∃ m, W 0 m (upd H1 q (.lst []))) ∧ ∀ t m H, W t m H →
      (J.stop t H ∧ Qe (.ref q) H) ∨ (J.go t H ∧ ∃ Nx : Hp → Prop, (∀ H', Nx H' → ∃ m', m' < m ∧ W (t + 1) m' H') ∧ ∀ x0 H', J.yld t H x0 H' → gTup Z.X.K 2 (gCons (gName i) (gCons (gName i2) gNil)) x0 (wipe σ [i, i2]) H' fun σ2 H2 => wipe σ2 [i, i2] = wipe σ [i, i2] ∧ tLcTest Z.X scope [] σ2 H2 fun b H3 =>
        if b = true then tLcElt Z.X scope elt σ2 H3 fun y H4 => ∃ acc, H4 q = some (.lst acc) ∧ acc.length < sizeLine ∧ Nx (upd H4 q (.lst (acc ++ [y]))) else Nx H3) := by
  have b0 : ρ.B q = none := S1.ok.fresh hd
  have n0 : Z.B0 q = none := by
    cases e0 : Z.B0 q with
    | none => rfl
    | some y =>
      have e2 := S1.le q (by rw [e0]; intro z; cases z)
      rw [e0] at e2
      rw [show (ρ.wc c).B = ρ.B from rfl, b0] at e2
      cases e2
  refine lc_it w (fun j H => ∃ vs, LcS Z ρ.B q H1 ((l.take j).map g) c H vs) ⟨[], LcS.start (ρ := ρ.wc c) S1 hd⟩ (fun j H _ ⟨vs, L⟩ => hG H fun a o z => vis_some (L.sm _ _ z)) (fun j x0 H H' lt ⟨vs, L⟩ yp => ?_) (fun H ⟨vs, L⟩ => ?_)
  · obtain ⟨t, v, v2, rfl, ht, rfl, hv, hv2⟩ := yp
    have r1 := hx j lt v hv
    have r2 := hy j lt v2 hv2
    have e' : Same (vis (hideAt ρ.B q (some (.lst vs))) H) (vis (hideAt ρ.B q (some (.lst vs))) (upd H t (.tup [v, v2]))) := Same.vis_ (same_new ht)
    have L' : LcS Z ρ.B q H1 ((l.take j).map g) c (upd H t (.tup [v, v2])) vs := L.go (L.ok.same (same_new ht)) e'
    have sl : slots Z.T (hideAt ρ.B q (some (.lst vs))) (vis (hideAt ρ.B q (some (.lst vs))) (upd H t (.tup [v, v2]))) (st2 ρ.s i i2 (l[j]).1 (l[j]).2) ((((σ.set i2 none).set i none).set i (some v)).set i2 (some v2)) :=
      (((((slots_B (hide_of b0) (S1.sl.unset i2)).unset i).mono L'.sm).set (slot_of (.of (r1.mono L'.sm))) i).set (slot_of (.of (r2.mono L'.sm))) i2)
    have S2 := L'.sr (ρ := ρ.wc c) S1 hd sl
    obtain ⟨hpl, hev⟩ := hg l[j] (List.getElem_mem lt)
    refine ⟨t, [v, v2], rfl, .inl (.inl upd_same), rfl, v, [v2], rfl, v2, [], rfl, rfl, wipe_two ne v v2, fun s1 H1' C cl fp => ⟨tYes, pts_nil, fun s2 H2 C2 cl2 fp2 => ?_⟩⟩
    refine eq_any (hev _ s2 H2 C2 cl2 fp2 ok.blk) S2.blk fun y H4 S4 e4 r4 => ?_
    have L4 := L'.go S4.ok e4
    refine ⟨vs, L4.at_, Nat.lt_of_lt_of_le (by rw [L4.re.len, List.length_map, List.length_take]; omega) (by decide : 100000 ≤ sizeLine), vs ++ [y], ?_⟩
    have := L4.put (val_rep r4 hpl)
    rw [← List.map_singleton, ← List.map_append, List.take_append_getElem lt] at this
    exact this
  · have fin := L
    rw [List.take_length] at fin
    have S3 : SR Z ⟨hideAt ρ.B q (some (.lst vs)), ρ.s, c⟩ σ H := fin.sr (ρ := ρ.wc c) S1 hd ((slots_B (hide_of b0) S1.sl).mono fin.sm)
    exact k q vs (l.map g) H c S3 fin.re n0 b0 hp
/-- x = [.. for .. in zip(tuple or list, list)], one's own -/
theorem st_ownZ {z : Str} {pyy sp : Pos} {m : Nat} (i i2 : Nat) {l1 l2 : List D} {d1 d2 : D} {g : D × D → D} (ok : Zok Z) (hb : BlkOk Z.X.N Z.X.env.scope scope [(x, i), (y, i2)]) (hm : Z.X.mg "zip" = none) (h1 : d1 = .lst l1 ∨ d1 = .tup l1) (h2 : items d2 = some l2) (h : AQ Z ρ [a, b] [d1, d2]) (len : l1.length ≤ 100000)
    (hg : ∀ y ∈ l1.zip l2, plain (g y) = true ∧ ∀ B s1 H1 C cl fp, Zok (Z.blk s1 H1 scope C cl fp) → EQ (Z.blk s1 H1 scope C cl fp) ⟨B, st2 ρ.s i i2 y.1 y.2, ρ.c⟩ elt (g y))
    (hx' : ∀ B' o, Z.B0 o = none → (∀ a u, ρ.B a = some u → a ≠ o) → O.nx ⟨B', ρ.s.set m (some (.own o ((l1.zip l2).map g))), ρ.c⟩)
    (gl : Gl Z.X "zip" := by rfl) (ne : i ≠ i2 := by decide) (hi : Z.X.N[i]? = some x := by rfl) (hi2 : Z.X.N[i2]? = some y := by rfl) (hx : scope.names.lookup x = some .local := by rfl) (hy : scope.names.lookup y = some .local := by rfl) (hm2 : Z.X.N[m]? = some z := by rfl) (hzl : Z.X.env.scope.names.lookup z = some .local := by rfl)
    (hk : Z.X.env.scope.kind = .function := by rfl) (hl : (pyy.line == pos.line) = true := by rfl) (ha : (scope.names.any fun (n, k) => n == z && (k == .local || k == .cell)) = false := by rfl)
    (hc : Z.X.calm = true := by rfl)
    (hz : starEach [a, b] Z.X.env = (false, eval a Z.X.env) :: starEach [b] Z.X.env := by rfl) (hpl : (backTo pz (starEach [b] Z.X.env)).any (·.1) = false := by rfl)
    (hs : ∀ v, foldedSetIterable (.Call (.Name "zip" p) [a, b] [] pz) Z.X.env v = pure v := by intro _; rfl) :
    ST Z ρ (.Assign [.Name z pyy] (.ListComp elt [⟨.Tuple [.Name x px, .Name y py] kk pt, .Call (.Name "zip" p) [a, b] [] pz, [], 0⟩] scope pos) sp) O := by
  have lx : ∀ C cl, Loc (compEnvC scope cl C Z.X.env).scope x := fun C cl => .inl (lookup_relabel_local hx)
  have ly : ∀ C cl, Loc (compEnvC scope cl C Z.X.env).scope y := fun C cl => .inl (lookup_relabel_local hy)
  have te1 : ∀ s H C cl fp, PTs (Z.X.blk s H scope (compEnvC scope cl C Z.X.env) fp) [] (tLcTest Z.X scope []) := fun s H C cl fp => ⟨fun pins s' σ H' Q I h => let ⟨t, p, q⟩ := h s H C cl fp; p.run pins s' σ H' Q I q⟩
  have te2 : ∀ s H C cl fp, PE (Z.X.blk s H scope (compEnvC scope cl C Z.X.env) fp) elt (tLcElt Z.X scope elt) := fun s H C cl fp => ⟨fun pins s' σ H' Q I h => pe_any.run pins s' σ H' Q I (h s H C cl fp)⟩
  have fin : ∀ {En : Ends} {σ : L2.St} {H : Hp} {vs : List V} {H1 : Hp}, OK Z O En → SR Z ρ σ H1 → PostH Z (ρ.wc ρ.c) σ H1 (fun acc c => acc = (l1.zip l2).map g ∧ c = ρ.c) (fun v H' => gName m v σ H' En.nx) := fun {En σ H vs H1} K S => fun q us acc H' c' S' r n0 bq ⟨e1, e2⟩ => by
    subst e1
    subst e2
    exact K.nx _ _ _ (SR.set (ρ := ⟨hideAt ρ.B q (some (.lst us)), ρ.s, ρ.c⟩) S' m (d := .own q ((l1.zip l2).map g)) ⟨rfl, us, if_pos rfl, r⟩) (hx' _ q n0 fun a u ha z => by subst z; rw [bq] at ha; cases ha)
  rcases h1 with h1 | h1
  · subst h1
    refine st_of (ps_setLc (own := [(x, i), (y, i2)]) (g := gTup Z.X.K 2 (gCons (gName i) (gCons (gName i2) gNil))) (tt := tLcTest Z.X scope []) (te := tLcElt Z.X scope elt) hc ok.nd hm2 hzl (sw_true hk hzl hl ha) (pi_zip gl hm pa_any hz hpl) hb (fun s H C cl fp => pg_tup (n := 2) hc (pgs_cons (pg_name ok.nd hi (lx C cl) (.inr (lookup_relabel_local hx))) (pgs_cons (pg_name ok.nd hi2 (ly C cl) (.inr (lookup_relabel_local hy))) pgs_nil rfl) rfl) rfl rfl) te1 te2 hs) fun En σ H S K => ?_
    refine ea_any (AQ.to (P := fun ds c => ds = [.lst l1, d2] ∧ c = ρ.c) h ⟨rfl, rfl⟩) S fun vs H1 ds c S1 e1 r ⟨hds, hcc⟩ => ?_
    subst hds
    subst hcc
    obtain ⟨v1, v2, rfl, r1, r2⟩ := pr2 r
    obtain ⟨a1, xs, rfl, g1, hrs⟩ := r1
    obtain ⟨a2, ys, rfl, hsq2, hrs2⟩ := items_at h2 (val_rep r2 (items_plain h2))
    have hsq : SqL Z.T.K (vis ρ.B H1) a1 xs := .inl (.inl g1)
    rw [ok.K]
    refine ⟨a1, a2, xs, ys, rfl, seqS vis_same hsq, seqS vis_same hsq2, fun q hd => ?_⟩
    have := lch_w2 ne ok (J := Itz Z.T.K a1 a2) (l := l1.zip l2) (w := walk_zip (xs := xs) (ys := ys) (n := (l1.zip l2).length) (by rw [List.length_zip, hrs.len, hrs2.len])) S1 (fun H e => ⟨seqS e hsq, seqS e hsq2⟩)
      (fun j hj v hv => by have hj' := hj; rw [List.length_zip] at hj'; rw [List.getElem_zip]; exact reps_at hrs (by omega) hv)
      (fun j hj v hv => by have hj' := hj; rw [List.length_zip] at hj'; rw [List.getElem_zip]; exact reps_at hrs2 (by omega) hv) (by rw [List.length_zip]; omega) hg ⟨rfl, rfl⟩ (fin (H := H) (vs := []) K S1) hd
    rw [ok.K] at this
    exact this
  · subst h1
    refine st_of (ps_setLc (own := [(x, i), (y, i2)]) (g := gTup Z.X.K 2 (gCons (gName i) (gCons (gName i2) gNil))) (tt := tLcTest Z.X scope []) (te := tLcElt Z.X scope elt) hc ok.nd hm2 hzl (sw_true hk hzl hl ha) (pi_zipM gl hm pa_any hz hpl) hb (fun s H C cl fp => pg_tup (n := 2) hc (pgs_cons (pg_name ok.nd hi (lx C cl) (.inr (lookup_relabel_local hx))) (pgs_cons (pg_name ok.nd hi2 (ly C cl) (.inr (lookup_relabel_local hy))) pgs_nil rfl) rfl) rfl rfl) te1 te2 hs) fun En σ H S K => ?_
    refine ea_any (AQ.to (P := fun ds c => ds = [.tup l1, d2] ∧ c = ρ.c) h ⟨rfl, rfl⟩) S fun vs H1 ds c S1 e1 r ⟨hds, hcc⟩ => ?_
    subst hds
    subst hcc
    obtain ⟨v1, v2, rfl, r1, r2⟩ := pr2 r
    obtain ⟨a1, xs, rfl, g1, hrs⟩ := r1
    obtain ⟨a2, ys, rfl, hsq2, hrs2⟩ := items_at h2 (val_rep r2 (items_plain h2))
    have hsq : SqT Z.T.K (vis ρ.B H1) a1 xs := .inl (.inl g1)
    rw [ok.K]
    refine ⟨a1, a2, xs, ys, rfl, same_t vis_same hsq, seqS vis_same hsq2, fun q hd => ?_⟩
    have := lch_w2 ne ok (J := ItzM Z.T.K a1 a2) (l := l1.zip l2) (w := walk_zipM (xs := xs) (ys := ys) (n := (l1.zip l2).length) (by rw [List.length_zip, hrs.len, hrs2.len])) S1 (fun H e => ⟨same_t e hsq, seqS e hsq2⟩)
      (fun j hj v hv => by have hj' := hj; rw [List.length_zip] at hj'; rw [List.getElem_zip]; exact reps_at hrs (by omega) hv)
      (fun j hj v hv => by have hj' := hj; rw [List.length_zip] at hj'; rw [List.getElem_zip]; exact reps_at hrs2 (by omega) hv) (by rw [List.length_zip]; omega) hg ⟨rfl, rfl⟩ (fin (H := H) (vs := []) K S1) hd
    rw [ok.K] at this
    exact this
end
end Q
end

section
set_option Elab.async false
set_option linter.all false
set_option maxRecDepth 100000
set_option maxHeartbeats 3900000
/-! P6: items one after another, with what is still to come. -/
namespace Q
open PySem L2
variable {Z : Zt} {P : D → Nat → Prop} {elt : Expr} {scope : Scope}
theorem lcs_pre {i : Nat} {s : List (Option D)} (l0 : List D) (I : List D → List D → Nat → Prop) (hs : ∀ done y rest acc c, done ++ y :: rest = l0 → I done acc c → acc.length < 100000 ∧ ∀ B s1 H1 C cl fp, Zok (Z.blk s1 H1 scope C cl fp) → EV (Z.blk s1 H1 scope C cl fp) ⟨B, (s.set i none).set i (some y), c⟩ elt fun d c' => plain d = true ∧ I (done ++ [y]) (acc ++ [d]) c')
    (hf : ∀ acc c, I l0 acc c → P (.lst acc) c) : ∀ (l done acc : List D) (c : Nat), done ++ l = l0 → I done acc c → lcs Z scope s i [] elt P l acc c
  | [], done, acc, c, e, h => by
    rw [List.append_nil] at e
    subst e
    exact hf acc c h
  | y :: l, done, acc, c, e, h => fun B s1 H1 C cl fp ok => ⟨fun _ s2 H2 C2 cl2 fp2 ok2 => ((hs done y l acc c e h).2 B s2 H2 C2 cl2 fp2 ok2).mono fun d c' ⟨h1, h2⟩ => ⟨h1, (hs done y l acc c e h).1, lcs_pre l0 I hs hf l (done ++ [y]) (acc ++ [d]) c' (by rw [List.append_assoc]; exact e) h2⟩, fun z => by cases z⟩
theorem EN.mono {ρ : Rho} {e : Expr} {P P' : D → Nat → Prop} (h : EN Z ρ e P) (k : ∀ d c, P d c → P' d c) : EN Z ρ e P' := pe_imp h fun σ H Q q => ⟨q.1, fun v H' d c' S s r f p => q.2 v H' d c' S s r f (k d c' p)⟩
theorem lcsN_pre {i : Nat} {s : List (Option D)} {PL : List D → Nat → Prop} (l0 : List D) (I : List D → List D → Nat → Prop) (hs : ∀ done y rest acc c, done ++ y :: rest = l0 → I done acc c → acc.length < 100000 ∧ ∀ B s1 H1 C cl fp, Zok (Z.blk s1 H1 scope C cl fp) → EN (Z.blk s1 H1 scope C cl fp) ⟨B, (s.set i none).set i (some y), c⟩ elt fun d c' => (∃ m, d = .lst m) ∧ I (done ++ [y]) (acc ++ [d]) c')
    (hf : ∀ acc c, I l0 acc c → PL acc c) : ∀ (l done acc : List D) (c : Nat), done ++ l = l0 → I done acc c → lcsN Z scope s i elt PL l acc c
  | [], done, acc, c, e, h => by
    rw [List.append_nil] at e
    subst e
    exact hf acc c h
  | y :: l, done, acc, c, e, h => ⟨(hs done y l acc c e h).1, fun B s2 H2 C2 cl2 fp2 ok2 => ((hs done y l acc c e h).2 B s2 H2 C2 cl2 fp2 ok2).mono fun d c' ⟨h1, h2⟩ => ⟨h1, lcsN_pre l0 I hs hf l (done ++ [y]) (acc ++ [d]) c' (by rw [List.append_assoc]; exact e) h2⟩⟩
end Q
end

section
set_option Elab.async false
set_option linter.all false
set_option maxRecDepth 100000
set_option maxHeartbeats 3900000
set_option exponentiation.threshold 20000
/-! K5y: drawn rows. -/
namespace Q
open PySem L2
variable {P : Program} {w : World} {T : Tab} {mg : Str → Option Value} {base : Heap} {f fA fI CZ CB : Addr} {fd : FuncData}
theorem rngD_len (n : Nat) : (rngD n).length = n := by simp [rngD]
theorem sz_drawn {a b : Int} (ha : 0 ≤ a) (ha' : a < 11) (hb : 0 ≤ b) (hb' : b < 3) : Sz 3 (fr (a - 5) (1 + b)) := Sz.fr (by show (a - 5).natAbs < 8; omega) (by show (1 + b).natAbs < 8; omega) (by omega)
def F_drawn : Fw := fun ds c P R => ∃ n : Nat, ds = [.box, .int (n : Nat)] ∧ n ≤ 4 ∧ c + 100 ≤ 1000000 ∧ ∀ (l : List (List Rat)) (c' : Nat) (D : Addr) (bs : List Addr), l.length = n → (∀ r ∈ l, r.length = n ∧ ∀ q ∈ r, Sz 3 q) → c' ≤ c + 32 → P (.lsa D bs (l.map lineD)) c'
theorem ok_law_drawn {fT fF : Addr} (U : Fun T.K "_law_drawn" "_law_drawn" s_law_drawn f fd) (mr : mg "range" = none) (DT : Df P w T mg base "_law_take" 1 fT F_take) (DF : Df P w T mg base "_law_frac" 1 fF F_frac) : FnGk P w T.K mg base (L2.CX P w) 2 f fd ["_law_box_here", "_law_size"] (SpM T F_drawn) := by
  refine Fun.doesM U sc_law_drawn (fun ds c P R h => ?_) (fun Z c ds cdv A outer s H E B R rt hZ ok hr h => ?_)
  · obtain ⟨n, rfl, _⟩ := h
    rfl
  · obtain ⟨n, rfl, hn, hc, h⟩ := h
    subst hZ
    refine ssm_lcR 3 ok (blkOk_by (N := ["_law_box_here", "_law_size", "_law_k", "_law_row_here"]) (sc := defScope s_law_drawn) (by decide +kernel)) mr (AQ.to (aq_cons (eq_var 1 rfl) aq_nil) ⟨n, rfl, by omega, ?_⟩)
    refine lcsN_pre (rngD n) (fun done acc c' => ∃ l : List (List Rat), acc = l.map lineD ∧ l.length = done.length ∧ (∀ r ∈ l, r.length = n ∧ ∀ q ∈ r, Sz 3 q) ∧ c' = c + 2 * n * done.length) (fun done y rest acc c1 hd ⟨l, e1, e2, e3, e4⟩ => ?_) (fun acc c1 ⟨l, e1, e2, e3, e4⟩ D bs => ?_) (rngD n) [] [] c rfl ⟨[], rfl, rfl, (fun _ h => nomatch h), by simp⟩
    · subst e1
      have dl : done.length + rest.length + 1 = n := by
        have := congrArg List.length hd
        rw [List.length_append, List.length_cons, rngD_len] at this
        omega
      have cb : c1 ≤ c + 2 * n * (n - 1) := by rw [e4]; exact Nat.add_le_add_left (Nat.mul_le_mul_left _ (by omega)) _
      have nb : 2 * n * (n - 1) ≤ 24 := Nat.le_trans (Nat.mul_le_mul (by omega : 2 * n ≤ 8) (by omega : n - 1 ≤ 3)) (by decide)
      refine ⟨by rw [List.length_map]; omega, fun B2 s1 H1 C cl fp ok2 => ?_⟩
      refine en_lcR 2 ok2 (blkOk_by (N := ["_law_box_here", "_law_size", "_law_k", "_law_row_here"]) (sc := relS (lcSc (ret0 s_law_drawn 0)) (defScope s_law_drawn)) (by decide +kernel)) mr (AQ.to (aq_cons (eq_var 1 rfl) aq_nil) ⟨n, rfl, by omega, ?_⟩)
      refine lcs_pre (rngD n) (fun dn ac c' => ∃ r : List Rat, ac = r.map D.fr ∧ r.length = dn.length ∧ (∀ q ∈ r, Sz 3 q) ∧ c' = c1 + 2 * dn.length) (fun dn y2 rs ac c2 hd2 ⟨r, f1, f2, f3, f4⟩ => ?_) (fun ac c2 ⟨r, f1, f2, f3, f4⟩ => ?_) (rngD n) [] [] c1 rfl ⟨[], rfl, rfl, (fun _ h => nomatch h), by simp⟩
      · subst f1
        have dl2 : dn.length + rs.length + 1 = n := by
          have := congrArg List.length hd2
          rw [List.length_append, List.length_cons, rngD_len] at this
          omega
        refine ⟨by rw [List.length_map]; omega, fun B3 s2 H2 C2 cl2 fp2 ok3 => ?_⟩
        refine ev_df DF ok3 hr (by decide) (ea_cons (ev_sub (ev_df DT ok3 hr (by decide) (ea_cons (ev_var 0 rfl (ea_cons (ev_int (ea_nil ⟨11, rfl, by decide, by decide, ?_, fun a a1 a2 => ?_⟩))))))))
        · show c2 < 1000000
          omega
        dsimp only [Rho.wc, Rho.set]
        refine ev_int (ea_cons (ev_add (ev_int (ev_df DT ok3 hr (by decide) (ea_cons (ev_var 0 rfl (ea_cons (ev_int (ea_nil ⟨3, rfl, by decide, by decide, ?_, fun b b1 b2 => ?_⟩)))))))))
        · show c2 + 1 < 1000000
          omega
        dsimp only [Rho.wc, Rho.set]
        refine ea_nil ⟨_, _, rfl, by omega, Nat.lt_of_lt_of_le (show (a - 5).natAbs < 8 by omega) (Nat.pow_le_pow_right (n := 2) (by decide) (by decide : 3 ≤ 8500)), Nat.lt_of_lt_of_le (show (1 + b).natAbs < 8 by omega) (Nat.pow_le_pow_right (n := 2) (by decide) (by decide : 3 ≤ 8500)), rfl, r ++ [fr (a - 5) (1 + b)], by rw [List.map_append]; rfl, by rw [List.length_append, List.length_append, f2]; rfl, fun q hq => ?_, ?_⟩
        · rcases List.mem_append.mp hq with z | z
          · exact f3 q z
          · rw [List.mem_singleton] at z
            rw [z]; exact sz_drawn a1 a2 b1 b2
        · show c2 + 1 + 1 = _
          rw [List.length_append]; rw [List.length_singleton]; omega
      · subst f1
        refine ⟨⟨_, rfl⟩, l ++ [r], by rw [List.map_append]; rfl, by rw [List.length_append, List.length_append, e2]; rfl, fun r' hr' => ?_, ?_⟩
        · rcases List.mem_append.mp hr' with z | z
          · exact e3 r' z
          · rw [List.mem_singleton] at z
            rw [z]; exact ⟨by rw [f2, rngD_len], f3⟩
        · rw [f4, e4, rngD_len, List.length_append, List.length_singleton, Nat.mul_add]; omega
    · rw [e1]
      rw [rngD_len] at e2 e4
      refine h l c1 D bs e2 e3 ?_
      rw [e4]
      have : 2 * n * n ≤ 8 * 4 := Nat.mul_le_mul (by omega) hn
      omega
end Q
end

section
set_option Elab.async false
set_option linter.all false
set_option maxRecDepth 100000
set_option maxHeartbeats 3900000
set_option exponentiation.threshold 20000
/-! K5z: the rows of a system. -/
namespace Q
open PySem L2
variable {P : Program} {w : World} {T : Tab} {mg : Str → Option Value} {base : Heap} {f fA fI CZ CB : Addr} {fd : FuncData}
theorem tq_gtI {Z : Zt} {ρ : Rho} {a b : Expr} {pos : Pos} {i j : Int} (ha : EQ Z ρ a (.int i)) (hb : EQ Z ρ b (.int j)) : TQ Z ρ (.Compare a [.Gt] [b] pos) (decide (j < i)) := et_gt (ha.to (EQ.to hb ⟨rfl, rfl⟩))
theorem fr_flat (q : Rat) : flatD (D.fr q) = true := rfl
theorem frs_flat (r : List Rat) : (r.map D.fr).all flatD = true := by
  rw [List.all_eq_true]
  intro d hd
  obtain ⟨q, _, rfl⟩ := List.mem_map.mp hd
  rfl
theorem lines_row (l : List (List Rat)) : (l.map lineD).all rowF = true := by
  rw [List.all_eq_true]
  intro d hd
  obtain ⟨r, _, rfl⟩ := List.mem_map.mp hd
  exact frs_flat r
theorem line_get {l : List (List Rat)} {k : Nat} (h : k < l.length) : (l.map lineD)[k]? = some (.lst ((l[k]?.getD []).map D.fr)) := by
  rw [List.getElem?_map, List.getElem?_eq_getElem h]; rfl
theorem line_set {l : List (List Rat)} {k : Nat} {r : List Rat} : (l.map lineD).set k (.lst (r.map D.fr)) = (l.set k r).map lineD := by rw [List.map_set]
theorem row_get {l : List (List Rat)} {k n : Nat} (h : k < l.length) (hl : ∀ r ∈ l, r.length = n) : (l[k]?.getD []).length = n ∧ l[k]?.getD [] ∈ l := by
  rw [List.getElem?_eq_getElem h]
  exact ⟨hl _ (List.getElem_mem h), List.getElem_mem h⟩
theorem eq_powc {Z : Zt} {ρ : Rho} {a b : Expr} {pos : Pos} {i j : Int} (ha : EQ Z ρ a (.int i)) (hb : EQ Z ρ b (.int j)) (h : CPow i j) : EQ Z ρ (.BinOp a .Pow b pos) (.int (i ^ j.toNat)) := ev_pow' (ha.to (EQ.to hb ⟨h, rfl, rfl⟩))
def eps25 : Rat := { num := 1, den := 10 ^ 25, den_nz := by decide, reduced := Nat.coprime_one_left _ }
theorem eps25_at : D.tup [.int 1, .int ((10 : Int) ^ Int.toNat 25)] = .fr eps25 := by
  have e : (10 : Int) ^ Int.toNat 25 = ((eps25.den : Nat) : Int) := by decide
  rw [e]; rfl
/-- what the rows of a system are: the first with greater numbers -/
def RowsOk (n : Nat) (l : List (List Rat)) : Prop := l.length = n ∧ (∀ r ∈ l, r.length = n) ∧ (∀ r ∈ l.head?, ∀ q ∈ r, Sz 96 q) ∧ ∀ r ∈ l.tail, ∀ q ∈ r, Sz 6 q
theorem rowsOk_of {n : Nat} {l : List (List Rat)} (h1 : l.length = n) (h2 : ∀ r ∈ l, r.length = n ∧ ∀ q ∈ r, Sz 6 q) : RowsOk n l := ⟨h1, fun r hr => (h2 r hr).1, fun r hr q hq => ((h2 r (List.mem_of_mem_head? hr)).2 q hq).mono (by omega), fun r hr q hq => (h2 r (List.mem_of_mem_tail hr)).2 q hq⟩
def F_rows : Fw := fun ds c P R => ∃ n : Nat, ds = [.box, .int (n : Nat)] ∧ n ≤ 4 ∧ c + 200 ≤ 1000000 ∧ ∀ (l : List (List Rat)) (c' : Nat), RowsOk n l → c' ≤ c + 40 → P (.lst (l.map lineD)) c'
abbrev Nrows : List Str := ["_law_box_here", "_law_size", "_law_found", "_law_way", "_law_at", "_law_by", "_law_k", "_law_x"]
theorem ok_law_rows {fT fD fP fM : Addr} (U : Fun T.K "_law_rows" "_law_rows" s_law_rows f fd) (mr : mg "range" = none) (ml : mg "list" = none) (DT : Df P w T mg base "_law_take" 1 fT F_take) (DD : DfM P w T mg base "_law_drawn" 2 fD F_drawn) (DP : Df P w T mg base "_law_plus" 2 fP (F_fr2 (· + ·))) (DM : Df P w T mg base "_law_times" 2 fM (F_fr2 (· * ·))) :
    FnGk P w T.K mg base (L2.CX P w) 3 f fd ["_law_box_here", "_law_size"] (SpW T F_rows) := by
  refine Fun.doesG U sc_law_rows (fun ds c P R h => ?_) (fun Z c ds cdv A outer s H E B R rt hZ ok hr h => ?_)
  · obtain ⟨n, rfl, _⟩ := h
    rfl
  · obtain ⟨n, rfl, hn, hc, h⟩ := h
    subst hZ
    refine ss_cons (st_setM (i := 2) ok DD hr (by decide) (AQ.to (aq_cons (eq_var 0 rfl) (aq_cons (eq_var 1 rfl) aq_nil)) ⟨n, rfl, hn, (by show c + 100 ≤ 1000000; omega), fun l c1 AL bs hl hq hc1 => ⟨rfl, fun nw => ?_⟩⟩))
    dsimp only [Rho.wc, Rho.set]
    replace hc1 : c1 ≤ c + 32 := hc1
    refine ss_cons (st_set (i := 3) ok (ev_df DT ok hr (by decide) (ea_cons (ev_var 0 rfl (ea_cons (ev_int (ea_nil ⟨4, rfl, by decide, by decide, ?_, fun r r0 r1 => ?_⟩)))))))
    · show c1 < 1000000
      omega
    dsimp only [Rho.wc, Rho.set]
    -- the end
    have fin : ∀ (AL : Addr) (bs : List Addr) (l' : List (List Rat)) (o4 o5 o6 o7 : Option D) (c2 : Nat), RowsOk n l' → c2 ≤ c + 40 → SS (zBody P w T mg base Nrows "_law_rows" (defScope s_law_rows) f cdv A outer s H E B R rt) ⟨B, [some .box, some (.int (n : Nat)), some (.lsa AL bs (l'.map lineD)), some (.int r), o4, o5, o6, o7], c2⟩ ((defBody s_law_rows).drop 5) ⟨fun r => rt .non r.c, fun _ => False, fun _ => False⟩ := fun AL bs l' o4 o5 o6 o7 c2 h1 h2 =>
      ss_one (st_ret (ev_lsa 2 rfl (ev_var 2 rfl ⟨rfl, h l' c2 h1 h2⟩)))
    have basic : RowsOk n l := rowsOk_of hl fun r hr => ⟨(hq r hr).1, fun q hq' => ((hq r hr).2 q hq').mono (by omega)⟩
    refine ss_cons (st_if ((tq_bool (wq_and (tq_gtI (eq_var 1 rfl) eq_int) fun _ => wq_and1 (tq_eqI (eq_var 3 rfl) eq_int))).to ⟨fun z => ?_, fun z => ?_⟩))
    · -- a row that is a multiple of another
      obtain ⟨z1, z2⟩ := Bool.and_eq_true_iff.mp z
      have n1 : 1 < n := by have := of_decide_eq_true z1; omega
      have r00 : r = 0 := of_decide_eq_true z2
      subst r00
      refine ss_cons (st_set (i := 4) ok (ev_df DT ok hr (by decide) (ea_cons (ev_var 0 rfl (ea_cons (ev_var 1 rfl (ea_nil ⟨(n : Nat), rfl, by omega, ?_, ?_, fun t t0 t1 => ?_⟩)))))))
      · exact Int.lt_of_le_of_lt (show (n : Int) ≤ 4 by omega) (by decide)
      · show c1 + 1 < 1000000
        omega
      dsimp only [Rho.wc, Rho.set]
      obtain ⟨t, rfl⟩ : ∃ t' : Nat, t = (t' : Nat) := ⟨t.toNat, by omega⟩
      refine ss_cons (st_set (i := 5) ok (ev_tup (ea_cons (ev_sub (ev_df DT ok hr (by decide) (ea_cons (ev_var 0 rfl (ea_cons (ev_int (ea_nil ⟨5, rfl, by decide, by decide, ?_, fun b b0 b1 => ?_⟩))))))))))
      · show c1 + 1 + 1 < 1000000
        omega
      dsimp only [Rho.wc, Rho.set]
      refine ev_int (ea_cons (ev_int (ea_nil ⟨rfl, (by exact Nat.le_of_ble_eq_true rfl), ?_⟩)))
      dsimp only [Rho.wc, Rho.set]
      have tl : t < l.length := by omega
      have ul : (t + 1) % n < l.length := by rw [hl]; exact Nat.mod_lt _ (by omega)
      have uq := row_get ul fun r hr => (hq r hr).1
      refine ss_cons (st_pokeR 2 (k1 := t) ok rfl nw rfl rfl (lines_row l) (by rw [List.length_map]; exact tl) ?_)
      · refine en_lc 7 ok (blkOk_by (N := Nrows) (sc := defScope s_law_rows) (by decide +kernel)) (h := ev_lsa 2 rfl (EQ.to (eq_ix (n := (((t + 1) % n : Nat) : Int)) (d := lineD (l[(t + 1) % n]?.getD [])) rfl (eq_var 2 rfl) (EQ.as (eq_mod (eq_add (eq_var 4 rfl) eq_int) (eq_var 1 rfl) (by omega)) (by congr 1)) (line_at ul)) ?_))
        have e7 : ((l[(t + 1) % n]?.getD []).map D.fr).map (fun d => D.fr (((b - 2 : Int) : Rat) * frOf d)) = ((l[(t + 1) % n]?.getD []).map fun q => ((b - 2 : Int) : Rat) * q).map D.fr := by
          rw [List.map_map, List.map_map]; exact List.map_congr_left fun q _ => by show D.fr (_ * frOf (D.fr q)) = _; rw [frOf_fr]; rfl
        have sb : Sz 3 (((b - 2 : Int) : Rat)) := Sz.int (by show (b - 2).natAbs < 8; omega) (by decide)
        refine ⟨_, rfl, lcs_map (g := fun d => D.fr (((b - 2 : Int) : Rat) * frOf d)) _ [] _ (by rw [List.length_nil, List.length_map, uq.1]; omega) (fun d hd => ?_) ?_⟩
        · obtain ⟨q, hq1, rfl⟩ := List.mem_map.mp hd
          refine ⟨rfl, fun B2 s1 H1 C cl fp ok2 => ?_⟩
          have sq := (hq _ uq.2).2 q hq1
          exact eq_df DM ok2 hr (by decide) (aq_cons (EQ.as (eq_var 5 rfl) (d' := .fr ((b - 2 : Int) : Rat)) rfl) (aq_cons (eq_var 7 rfl) aq_nil)) ⟨_, q, rfl, sb.mono (by omega), sq.mono (by omega), by rw [frOf_fr], rfl⟩
        · rw [List.nil_append, e7]
          refine ⟨_, rfl, frs_flat _, eq_var 4 rfl, fun q _ => ?_⟩
          rw [line_set]
          dsimp only [Rho.wc, Rho.set]
          refine ss_nil ?_
          have okk : RowsOk n (l.set t ((l[(t + 1) % n]?.getD []).map fun q => ((b - 2 : Int) : Rat) * q)) := rowsOk_of (by rw [List.length_set]; exact hl) fun r hr => by
            rcases List.mem_or_eq_of_mem_set hr with y | y
            · exact ⟨(hq r y).1, fun q hq' => ((hq r y).2 q hq').mono (by omega)⟩
            · rw [y]
              refine ⟨by rw [List.length_map]; exact uq.1, fun q hq' => ?_⟩
              obtain ⟨q1, hq1, rfl⟩ := List.mem_map.mp hq'
              exact sb.mul ((hq _ uq.2).2 q1 hq1)
          show SS _ _ _ _
          refine ss_cons (st_if ((tq_eqI (eq_var 3 rfl) eq_int).to ⟨fun y => absurd (of_decide_eq_true y) (by decide), fun _ => ss_nil ?_⟩))
          show SS _ _ _ _
          refine ss_cons (st_if ((tq_bool (wq_and (tq_gtI (eq_var 1 rfl) eq_int) fun _ => wq_and1 (tq_eqI (eq_var 3 rfl) eq_int))).to ⟨fun z => ?_, fun z => ?_⟩))
          · exact absurd (of_decide_eq_true (Bool.and_eq_true_iff.mp z).2) (by decide)
          · exact ss_nil (fin _ _ _ _ _ _ _ _ okk (by show c1 + 1 + 1 + 1 ≤ c + 40; omega))
    · refine ss_nil ?_
      dsimp only [Rho.wc, Rho.set]
      refine ss_cons (st_if ((tq_eqI (eq_var 3 rfl) eq_int).to ⟨fun y => ?_, fun y => ?_⟩))
      · -- noughts at first places
        have r1' : r = 1 := of_decide_eq_true y
        subst r1'
        refine ss_one (st_range (i := 6) ok rfl mr (EA.mono (AQ.to (P := fun ds c => ds = [.int ((n : Int) - 1)] ∧ c = c1 + 1) (aq_cons (eq_sub (eq_var 1 rfl) eq_int) aq_nil) ⟨rfl, rfl⟩) fun ds c2 ⟨hds, hcc⟩ => ⟨(n : Int) - 1, hds, by omega, by omega, ?_⟩))
        subst hcc
        refine spins_fin (n0 := ((n : Int) - 1).toNat) (fun t ρ => ∃ l' o6, flatO o6 = true ∧ l'.length = n ∧ (∀ r ∈ l', r.length = n ∧ ∀ q ∈ r, Sz 3 q) ∧ ρ = ⟨B, [some .box, some (.int (n : Nat)), some (.lsa AL bs (l'.map lineD)), some (.int 1), none, none, o6, none], c1 + 1⟩) ?_ ?_ _ 0 _ (Nat.zero_add _) ⟨l, none, rfl, hl, hq, rfl⟩
        · rintro t ρ K ⟨l', o6, fo, hl', hq', rfl⟩ ht hK
          have tl : t < l'.length := by omega
          have rq := row_get tl fun r hr => (hq' r hr).1
          dsimp only [Rho.wc, Rho.set]
          refine ss_one (st_pokeE 2 (k1 := t) (k2 := t) (m := (l'[t]?.getD []).map D.fr) ok rfl nw rfl rfl (lines_row l') (EQ.as (eq_tup (aq_cons eq_int (aq_cons eq_int aq_nil))) (d' := .fr 0) rfl) rfl rfl (eq_var 6 rfl) (eq_var 6 rfl) (line_get tl) (by rw [List.length_map, rq.1]; omega) ?_)
          rw [← List.map_set, line_set]
          refine hK _ ⟨_, some (.int (t : Nat)), rfl, by rw [List.length_set]; exact hl', fun r hr => ?_, rfl⟩
          rcases List.mem_or_eq_of_mem_set hr with y | y
          · exact hq' r y
          · rw [y]
            refine ⟨by rw [List.length_set]; exact rq.1, fun q hq2 => ?_⟩
            rcases List.mem_or_eq_of_mem_set hq2 with x | x
            · exact (hq' _ rq.2).2 q x
            · rw [x]; exact Sz.zero.mono (by decide)
        · rintro ρ ⟨l', o6, fo, hl', hq', rfl⟩
          dsimp only [Rho.wc, Rho.set]
          refine ss_cons (st_if ((tq_bool (wq_and (tq_gtI (eq_var 1 rfl) eq_int) fun _ => wq_and1 (tq_eqI (eq_var 3 rfl) eq_int))).to ⟨fun z => ?_, fun z => ?_⟩))
          · exact absurd (of_decide_eq_true (Bool.and_eq_true_iff.mp z).2) (by decide)
          · exact ss_nil (fin _ _ _ _ _ _ _ _ (rowsOk_of hl' fun r hr => ⟨(hq' r hr).1, fun q hq2 => ((hq' r hr).2 q hq2).mono (by omega)⟩) (by show c1 + 1 ≤ c + 40; omega))
      · refine ss_nil ?_
        dsimp only [Rho.wc, Rho.set]
        refine ss_cons (st_if ((tq_bool (wq_and (tq_gtI (eq_var 1 rfl) eq_int) fun _ => wq_and1 (tq_eqI (eq_var 3 rfl) eq_int))).to ⟨fun z => ?_, fun z => ?_⟩))
        · -- two rows that are nearly the same
          obtain ⟨z1, z2⟩ := Bool.and_eq_true_iff.mp z
          have n1 : 1 < n := by have := of_decide_eq_true z1; omega
          have r22 : r = 2 := of_decide_eq_true z2
          subst r22
          have l0 : 0 < l.length := by omega
          have l1 : 1 < l.length := by omega
          have uq := row_get l1 fun r hr => (hq r hr).1
          refine ss_cons (st_pokeR 2 (k1 := 0) ok rfl nw rfl rfl (lines_row l) (by rw [List.length_map]; exact l0) (en_lsa 2 rfl (en_list rfl rfl ml (EQ.to (eq_ix (n := ((1 : Nat) : Int)) (d := lineD (l[1]?.getD [])) rfl (eq_var 2 rfl) eq_int (line_at l1)) ⟨_, rfl, _, rfl, frs_flat _, eq_int, fun q nw2 => ?_⟩))))
          rw [line_set]
          dsimp only [Rho.wc, Rho.set]
          refine ss_cons (st_set (i := 4) ok (ev_df DT ok hr (by decide) (ea_cons (ev_var 0 rfl (ea_cons (ev_var 1 rfl (ea_nil ⟨(n : Nat), rfl, by omega, ?_, ?_, fun t t0 t1 => ?_⟩)))))))
          · exact Int.lt_of_le_of_lt (show (n : Int) ≤ 4 by omega) (by decide)
          · show c1 + 1 < 1000000
            omega
          dsimp only [Rho.wc, Rho.set]
          obtain ⟨t, rfl⟩ : ∃ t' : Nat, t = (t' : Nat) := ⟨t.toNat, by omega⟩
          let l2 := l.set 0 (l[1]?.getD [])
          have k0 : 0 < l2.length := by show 0 < (l.set 0 _).length; rw [List.length_set]; exact l0
          have row0 : l2[0]?.getD [] = l[1]?.getD [] := by show ((l.set 0 _)[0]?).getD [] = _; rw [List.getElem?_set_self l0]; rfl
          have tq : t < (l2[0]?.getD []).length := by rw [row0, uq.1]; omega
          have sx : Sz 3 ((l2[0]?.getD [])[t]?.getD 0) := by
            have := at_mem tq
            rw [row0] at this
            rw [row0]
            exact (hq _ uq.2).2 _ this
          have sbig : Sz 84 eps25 := ⟨by decide, by decide⟩
          refine ss_one (st_pokeE 2 (k1 := 0) (k2 := t) (m := (l2[0]?.getD []).map D.fr) (d := .fr ((l2[0]?.getD [])[t]?.getD 0 + eps25)) ok rfl nw2 rfl rfl (lines_row l2)
            (eq_df DP ok hr (by decide) (aq_cons (eq_lsa 2 rfl (eq_ix (n := ((t : Nat) : Int)) (d := .fr ((l2[0]?.getD [])[t]?.getD 0)) rfl (eq_ix (n := ((0 : Nat) : Int)) (d := lineD (l2[0]?.getD [])) rfl (eq_var 2 rfl) eq_int (line_at k0)) (eq_var 4 rfl) (fr_at tq))) (aq_cons (EQ.as (eq_tup (aq_cons eq_int (aq_cons (eq_powc eq_int eq_int ⟨by decide, by decide, by decide⟩) aq_nil))) (d' := .fr eps25) eps25_at) aq_nil)) ⟨_, _, rfl, sx.mono (by omega), sbig.mono (by omega), rfl, rfl⟩) rfl rfl eq_int (eq_var 4 rfl) (line_get k0) (by rw [List.length_map]; exact tq) ?_)
          rw [← List.map_set, line_set]
          refine fin _ _ _ _ _ _ _ _ ⟨?_, fun r hr => ?_, fun r hr q hq2 => ?_, fun r hr q hq2 => ?_⟩ (by show c1 + 1 + 1 ≤ c + 40; omega)
          · rw [List.length_set, List.length_set]; exact hl
          · rcases List.mem_or_eq_of_mem_set hr with y | y
            · rcases List.mem_or_eq_of_mem_set y with y | y
              · exact (hq r y).1
              · rw [y]; exact uq.1
            · rw [y, List.length_set, row0]; exact uq.1
          · have e : (l2.set 0 ((l2[0]?.getD []).set t ((l2[0]?.getD [])[t]?.getD 0 + eps25))).head? = some ((l2[0]?.getD []).set t ((l2[0]?.getD [])[t]?.getD 0 + eps25)) := by
              rw [List.head?_eq_getElem?, List.getElem?_set_self k0]
            rw [e] at hr
            cases hr
            rcases List.mem_or_eq_of_mem_set hq2 with y | y
            · rw [row0] at y
              exact ((hq _ uq.2).2 q y).mono (by omega)
            · rw [y]
              exact (sx.add sbig).mono (by omega)
          · have e : (l2.set 0 ((l2[0]?.getD []).set t ((l2[0]?.getD [])[t]?.getD 0 + eps25))).tail = l.tail := by
              show ((l.set 0 _).set 0 _).tail = _
              cases l with
              | nil => rfl
              | cons a l => rfl
            rw [e] at hr
            exact ((hq r (List.mem_of_mem_tail hr)).2 q hq2).mono (by omega)
        · exact ss_nil (fin _ _ _ _ _ _ _ _ basic (by show c1 + 1 ≤ c + 40; omega))
end Q
end

section
set_option Elab.async false
set_option linter.all false
set_option maxRecDepth 100000
set_option maxHeartbeats 3900000
set_option exponentiation.threshold 20000
/-! K5q: where a row leads. -/
namespace Q
open PySem L2
variable {P : Program} {w : World} {T : Tab} {mg : Str → Option Value} {base : Heap} {f fA fI CZ CB CS : Addr} {fd : FuncData}
theorem row_at {l : List (List Int)} {k : Nat} (h : k < l.length) : ixD (.lst (l.map rowI)) ((k : Nat) : Int) = some (rowI (l[k]?.getD [])) := by
  have e : l[k]? = some l[k] := List.getElem?_eq_getElem h
  rw [e]
  show atI (l.map rowI) ((k : Nat) : Int) = _
  unfold atI
  have e2 : ixN (l.map rowI).length ((k : Nat) : Int) = some k := by
    rw [List.length_map]; unfold ixN; simp; omega
  rw [e2]
  show (l.map rowI)[k]? = _
  rw [List.getElem?_map, e]; rfl
/-- the item of a table -/
def tabI (t : List (List Int)) (i j : Nat) : Int := itemI (t[i]?.getD []) j
def F_lead (CS : Addr) : Fw := fun ds c P R => ∃ (t : List (List Int)) (k : Nat), ds = [.lst (t.map rowI), .int (k : Nat)] ∧ k ≤ t.length ∧ t.length ≤ 100 ∧ (∀ r ∈ t, k < r.length) ∧ (∀ o, k ≤ o → o < t.length → tabI t o k ≠ 0 → P (.int (o : Nat)) c) ∧ ((∀ o, k ≤ o → o < t.length → tabI t o k = 0) → R (CS, none) c)
theorem ok_lead_place (U : Fun T.K "_lead_place" "_lead_place" s_lead_place f fd) (ml : mg "len" = none) (mr : mg "range" = none) (ES : ErrC T.K mg "BadSystem" CS) : FnGk P w T.K mg base (L2.CX P w) 1 f fd ["table", "place"] (SpW T (F_lead CS)) := by
  refine Fun.doesG U sc_lead_place (fun ds c P R h => ?_) (fun Z c ds cdv A outer s H E B R rt hZ ok hr h => ?_)
  · obtain ⟨t, k, rfl, _⟩ := h
    rfl
  · obtain ⟨t, k, rfl, hk, h100, hl, hP, hR⟩ := h
    subst hZ
    have hlen : (t.map rowI).length = t.length := List.length_map _
    refine ss_cons (st_range2 (i := 2) ok rfl mr (ea_cons (ev_var 1 rfl (ea_cons (ev_len rfl rfl ml (ea_cons (ev_var 0 rfl (ea_nil ⟨_, _, rfl, rfl, ea_nil ⟨k, (t.map rowI).length, rfl, by omega, by omega, ?_⟩⟩))))))))
    rw [hlen]
    dsimp only [Rho.wc, Rho.set]
    have key : ∀ n j o2, j + n = t.length → k ≤ j → (∀ o, k ≤ o → o < j → tabI t o k = 0) →
        spins (fun ρ y K => SS (zBody P w T mg base ["table", "place", "other"] "_lead_place" (defScope s_lead_place) f cdv A outer s H E B R rt) (ρ.set 2 (.int y)) [(match (defBody s_lead_place).getD 0 (.Pass ⟨0, 0, 0, 0⟩) with | .For _ _ b _ _ => b.getD 0 (.Pass ⟨0, 0, 0, 0⟩) | x => x)] ⟨K, fun r => SS (zBody P w T mg base ["table", "place", "other"] "_lead_place" (defScope s_lead_place) f cdv A outer s H E B R rt) r ((defBody s_lead_place).drop 1) ⟨fun r => rt .non r.c, fun _ => False, fun _ => False⟩, K⟩)
          (fun r => SS (zBody P w T mg base ["table", "place", "other"] "_lead_place" (defScope s_lead_place) f cdv A outer s H E B R rt) r ((defBody s_lead_place).drop 1) ⟨fun r => rt .non r.c, fun _ => False, fun _ => False⟩) n (j : Nat) ⟨B, [some (.lst (t.map rowI)), some (.int (k : Nat)), o2], c⟩ := by
      intro n
      induction n with
      | zero =>
        intro j o2 e hkj hz
        exact ss_one (st_raise0 ok ES (hR fun o h1 h2 => hz o h1 (by omega)))
      | succ n ih =>
        intro j o2 e hkj hz
        have jl : j < t.length := by omega
        have rl := hl (t[j]?.getD []) (by rw [List.getElem?_eq_getElem jl]; exact List.getElem_mem jl)
        refine ss_one (st_if ((tq_neI (eq_ix rfl (eq_ix rfl (eq_var 0 rfl) (eq_var 2 rfl) (row_at jl)) (eq_var 1 rfl) (int_at rl)) eq_int).to ⟨fun z => ?_, fun z => ss_nil ?_⟩))
        · refine ss_one (st_ret (ev_var 2 rfl ⟨rfl, hP j hkj jl ?_⟩))
          have z' : itemI (t[j]?.getD []) k ≠ 0 := by simpa using z
          exact z'
        · refine ih (j + 1) _ (by omega) (by omega) fun o h1 h2 => ?_
          by_cases q : o = j
          · subst q
            have z' : itemI (t[o]?.getD []) k = 0 := by simpa using z
            exact z'
          · exact hz o h1 (by omega)
    exact key (t.length - k) k none (by omega) (Nat.le_refl _) fun o h1 h2 => by omega
end Q
end

section
set_option Elab.async false
set_option linter.all false
set_option maxRecDepth 100000
set_option maxHeartbeats 3900000
set_option exponentiation.threshold 20000
/-! K5w: a column is cleared. -/
namespace Q
open PySem L2
variable {P : Program} {w : World} {T : Tab} {mg : Str → Option Value} {base : Heap} {f fA fI CZ CB CS : Addr} {fd : FuncData}
def clearedL (t : List (List Int)) (k : Nat) (p : Int) : List (List Int) := ((List.range t.length).zip t).map fun y => if y.1 = k then y.2 else combI y.2 (t[k]?.getD []) k p
def rOf : D → List Int
  | .lst l => l.map iOf
  | _ => []
theorem rOf_row (r : List Int) : rOf (rowI r) = r := by
  show (r.map D.int).map iOf = r
  rw [List.map_map]
  exact (List.map_congr_left fun i _ => rfl).trans (List.map_id r)
def F_cleared : Fw := fun ds c P R => ∃ (t : List (List Int)) (k m : Nat) (p : Int), ds = [.lst (t.map rowI), .int (k : Nat), .int p] ∧ k < t.length ∧ t.length ≤ 100 ∧ (∀ r ∈ t, r.length = m ∧ ∀ i ∈ r, i.natAbs < 2 ^ 9000) ∧ k < m ∧ m ≤ 100 ∧ p ≠ 0 ∧ p.natAbs < 2 ^ 9000 ∧ P (.lst ((clearedL t k p).map rowI)) c
theorem ok_cleared {fC : Addr} (U : Fun T.K "_cleared" "_cleared" s_cleared f fd) (DC : Df P w T mg base "_combined" 1 fC F_combined) (me : mg "enumerate" = none) : FnGk P w T.K mg base (L2.CX P w) 2 f fd ["table", "place", "before"] (SpN T F_cleared) := by
  refine Fun.doesN U sc_cleared (fun ds c P R h => ?_) (fun Z c ds cdv A outer s H E B R rt hZ ok hr h => ?_)
  · obtain ⟨t, k, m, p, rfl, _⟩ := h
    rfl
  · obtain ⟨t, k, m, p, rfl, hk, h100, ht, hm, m100, p0, hp, h⟩ := h
    subst hZ
    refine ssn_cons (st_setq (i := 3) ok (eq_ix rfl (eq_var 0 rfl) (eq_var 1 rfl) (row_at hk)) ?_)
    dsimp only [Rho.wc, Rho.set]
    let ch := t[k]?.getD []
    have hch : ch.length = m ∧ ∀ i ∈ ch, i.natAbs < 2 ^ 9000 := ht ch (by show t[k]?.getD [] ∈ t; rw [List.getElem?_eq_getElem hk]; exact List.getElem_mem hk)
    let g : D × D → D := fun y => if iOf y.1 = (k : Nat) then y.2 else rowI (combI (rOf y.2) ch k p)
    have e : (enumD (t.map rowI)).map g = (clearedL t k p).map rowI := by
      unfold enumD clearedL
      rw [List.length_map, List.zip_map, List.map_map, List.map_map]
      refine List.map_congr_left fun y _ => ?_
      show (if ((y.1 : Nat) : Int) = (k : Nat) then rowI y.2 else rowI (combI (rOf (rowI y.2)) ch k p)) = rowI (if y.1 = k then y.2 else combI y.2 ch k p)
      rw [rOf_row]
      by_cases z : y.1 = k
      · rw [if_pos z, if_pos (by omega)]
      · rw [if_neg z, if_neg (by omega)]
    refine ssn_lcE 4 5 (g := g) ok (blkOk_by (N := ["table", "place", "before", "chosen", "at", "row"]) (sc := defScope s_cleared) (by decide +kernel)) me rfl (aq_cons (eq_var 0 rfl) aq_nil) (by rw [List.length_map]; omega) (fun y hy => ?_) (by rw [e]; exact h)
    unfold enumD at hy
    obtain ⟨i, _, r, hr1, rfl⟩ := zip_mem hy
    obtain ⟨hl, hb⟩ := ht r hr1
    have pl : plain (g (.int (i : Nat), rowI r)) = true := by
      show plain (if ((i : Nat) : Int) = (k : Nat) then rowI r else rowI (combI (rOf (rowI r)) ch k p)) = true
      split <;> rfl
    refine ⟨pl, fun B2 s1 H1 C cl fp ok2 => ?_⟩
    show EQ _ _ _ (if ((i : Nat) : Int) = (k : Nat) then rowI r else rowI (combI (rOf (rowI r)) ch k p))
    refine eq_if (tq_eqI (eq_var 4 rfl) (eq_var 1 rfl)) (fun z => ?_) (fun z => ?_)
    · rw [if_pos (of_decide_eq_true z)]
      exact eq_var 5 rfl
    · rw [if_neg (of_decide_eq_false z), rOf_row]
      exact eq_df DC ok2 hr (by decide) (aq_cons (eq_var 5 rfl) (aq_cons (eq_var 3 rfl) (aq_cons (eq_var 1 rfl) (aq_cons (eq_var 2 rfl) aq_nil)))) ⟨r, ch, k, p, rfl, by rw [hl, hch.1], by omega, by omega, p0, hp, hb, hch.2, rfl, rfl⟩
end Q
end

section
set_option Elab.async false
set_option linter.all false
set_option maxRecDepth 100000
set_option maxHeartbeats 3900000
set_option exponentiation.threshold 20000
/-! K5x: the table as a function. -/
namespace Q
open PySem L2
theorem item_get {l : List Int} {j : Nat} (h : j < l.length) : itemI l j = l[j] := by
  unfold itemI
  rw [List.getElem?_eq_getElem h]; rfl
theorem tab_row {t : List (List Int)} {i : Nat} (h : i < t.length) : t[i]?.getD [] = t[i] := by
  rw [List.getElem?_eq_getElem h]; rfl
theorem clearedL_len (t : List (List Int)) (k : Nat) (p : Int) : (clearedL t k p).length = t.length := by simp [clearedL]
theorem clearedL_at {t : List (List Int)} {k i : Nat} {p : Int} (h : i < t.length) : (clearedL t k p)[i]?.getD [] = if i = k then t[i] else combI t[i] (t[k]?.getD []) k p := by
  rw [List.getElem?_eq_getElem (by rw [clearedL_len]; exact h)]
  simp [clearedL]
theorem tab_cleared {t : List (List Int)} {k i j m : Nat} {p : Int} (hk : k < t.length) (hi : i < t.length) (hm : ∀ r ∈ t, r.length = m) (hkm : k < m) (hj : j < m) : tabI (clearedL t k p) i j = Det.cleared (tabI t) k p i j := by
  unfold tabI Det.cleared
  rw [clearedL_at hi]
  by_cases e : i = k
  · subst e
    rw [if_pos rfl, if_pos rfl]
    show _ = itemI (t[i]?.getD []) j
    rw [tab_row hi]
  · rw [if_neg e, if_neg e]
    show _ = (itemI (t[k]?.getD []) k * itemI (t[i]?.getD []) j - itemI (t[i]?.getD []) k * itemI (t[k]?.getD []) j).fdiv p
    rw [tab_row hi, tab_row hk]
    have li := hm _ (List.getElem_mem hi)
    have lk := hm _ (List.getElem_mem hk)
    have hz : (combI t[i] t[k] k p)[j]? = some ((itemI t[k] k * t[i][j] - itemI t[i] k * t[k][j]).fdiv p) := by
      unfold combI
      rw [List.getElem?_map, List.getElem?_eq_getElem (by rw [List.length_zip, li, lk]; omega), List.getElem_zip]; rfl
    show ((combI t[i] t[k] k p)[j]?).getD 0 = _
    rw [hz, item_get (l := t[i]) (j := j) (by omega), item_get (l := t[k]) (j := j) (by omega)]; rfl
theorem tab_swapped {t : List (List Int)} {k o i j : Nat} (hk : k < t.length) (ho : o < t.length) : tabI ((t.set k (t[o]?.getD [])).set o (t[k]?.getD [])) i j = Det.swapped (tabI t) k o i j := by
  unfold tabI Det.swapped Det.tau
  by_cases e2 : i = o
  · subst e2
    rw [List.getElem?_set_self (by rw [List.length_set]; exact ho)]
    by_cases e1 : i = k
    · subst e1; rw [if_pos rfl]; rfl
    · rw [if_neg e1, if_pos rfl]; rfl
  · rw [List.getElem?_set_ne (fun z => e2 z.symm)]
    by_cases e1 : i = k
    · subst e1
      rw [List.getElem?_set_self hk, if_pos rfl]; rfl
    · rw [List.getElem?_set_ne (fun z => e1 z.symm), if_neg e1, if_neg e2]
end Q
end

section
set_option Elab.async false
set_option linter.all false
set_option maxRecDepth 100000
set_option maxHeartbeats 3900000
set_option exponentiation.threshold 20000
/-! K5t: the unit rows. -/
namespace Q
open PySem L2
variable {P : Program} {w : World} {T : Tab} {mg : Str → Option Value} {base : Heap} {f fA fI CZ CB CS : Addr} {fd : FuncData}
def unitR (n i : Nat) : List Int := (List.range n).map fun j => if i = j then 1 else 0
def F_unit : Fw := fun ds c P R => ∃ n : Nat, ds = [.int (n : Nat)] ∧ n ≤ 100 ∧ P (.lst ((List.range n).map fun i => rowI (unitR n i))) c
theorem ok_unit_rows (U : Fun T.K "_unit_rows" "_unit_rows" s_unit_rows f fd) (mr : mg "range" = none) : FnGk P w T.K mg base (L2.CX P w) 1 f fd ["size"] (SpW T F_unit) := by
  refine Fun.doesG U sc_unit_rows (fun ds c P R h => ?_) (fun Z c ds cdv A outer s H E B R rt hZ ok hr h => ?_)
  · obtain ⟨n, rfl, _⟩ := h
    rfl
  · obtain ⟨n, rfl, hn, h⟩ := h
    subst hZ
    let g : D → D := fun d => match d with | .int i => .lst ((rngD n).map fun d' => match d' with | .int j => .int (if i = j then 1 else 0) | _ => .non) | _ => .non
    have gi : ∀ i : Nat, g (.int (i : Nat)) = rowI (unitR n i) := fun i => by
      show D.lst ((rngD n).map fun d' => match d' with | .int j => .int (if (i : Int) = j then 1 else 0) | _ => .non) = .lst ((unitR n i).map .int)
      unfold rngD unitR
      rw [List.map_map, List.map_map]; refine congrArg D.lst (List.map_congr_left fun j _ => ?_)
      show D.int (if (i : Int) = (j : Int) then 1 else 0) = .int (if i = j then 1 else 0)
      by_cases e : i = j
      · rw [if_pos e, if_pos (by omega)]
      · rw [if_neg e, if_neg (by omega)]
    have e : (rngD n).map g = (List.range n).map fun i => rowI (unitR n i) := by
      show ((List.range n).map fun j => D.int (j : Nat)).map g = _
      rw [List.map_map]
      exact List.map_congr_left fun i _ => gi i
    refine ss_one (st_ret (EQ.to (eq_lcRc 1 (g := g) ok (blkOk_by (N := ["size", "place", "other"]) (sc := defScope s_unit_rows) (by decide +kernel)) mr (eq_var 0 rfl) (by omega) (fun y hy => ?_)) ⟨rfl, by rw [e]; exact h⟩))
    obtain ⟨i, _, rfl⟩ := List.mem_map.mp hy
    refine ⟨rfl, fun B2 s1 H1 C cl fp ok2 => ?_⟩
    refine eq_lcR 2 (g := fun d' => match d' with | .int j => .int (if (i : Int) = j then 1 else 0) | _ => .non) ok2 (blkOk_by (N := ["size", "place", "other"]) (sc := relS (lcSc (ret0 s_unit_rows 0)) (defScope s_unit_rows)) (by decide +kernel)) mr (eq_var 0 rfl) (by omega) (fun y hy => ?_)
    obtain ⟨j, _, rfl⟩ := List.mem_map.mp hy
    refine ⟨rfl, fun B3 s2 H2 C2 cl2 fp2 ok3 => ?_⟩
    refine eq_if (tq_eqI (eq_var 1 rfl) (eq_var 2 rfl)) (fun z => ?_) (fun z => ?_)
    · show EQ _ _ _ (.int (if (i : Int) = (j : Int) then 1 else 0))
      rw [if_pos (of_decide_eq_true z)]
      exact eq_int
    · show EQ _ _ _ (.int (if (i : Int) = (j : Int) then 1 else 0))
      rw [if_neg (of_decide_eq_false z)]
      exact eq_int
end Q
end

section
set_option Elab.async false
set_option linter.all false
set_option maxRecDepth 100000
set_option maxHeartbeats 3900000
set_option exponentiation.threshold 20000
/-! K5u: the first place of a least number. -/
namespace Q
open PySem L2
variable {P : Program} {w : World} {T : Tab} {mg : Str → Option Value} {base : Heap} {f fA fI CZ CB CS : Addr} {fd : FuncData}
theorem turns2_ix {body : Rho → D → D → (Rho → Prop) → Prop} {N : Rho → Prop} {l : List (D × D)} (I : Nat → Rho → Prop) (hs : ∀ k ρ K (hk : k < l.length), I k ρ → (∀ ρ', I (k + 1) ρ' → K ρ') → body ρ l[k].1 l[k].2 K) (hN : ∀ ρ, I l.length ρ → N ρ) : ∀ n k ρ, k + n = l.length → I k ρ → turns2 body N (l.drop k) ρ
  | 0, k, ρ, e, h => by
    rw [List.drop_of_length_le (by omega)]
    exact hN ρ (by rw [← (show k = l.length by omega)]; exact h)
  | n + 1, k, ρ, e, h => by
    rw [List.drop_eq_getElem_cons (show k < l.length by omega)]
    exact hs k ρ _ (by omega) h fun ρ' h' => turns2_ix I hs hN n (k + 1) ρ' (by omega) h'
/-- the first place of a least one of the first t -/
def leastA (l : List Rat) : Nat → Option Nat
  | 0 => none
  | t + 1 => match leastA l t with
    | none => some t
    | some b => if (l[t]?.getD 0) < (l[b]?.getD 0) then some t else some b
theorem leastA_ok {l : List Rat} : ∀ {t b : Nat}, leastA l t = some b → b < t ∧ (∀ j, j < t → ¬ (l[j]?.getD 0) < (l[b]?.getD 0)) ∧ ∀ j, j < b → (l[b]?.getD 0) < (l[j]?.getD 0)
  | 0, b, h => nomatch h
  | t + 1, b, h => by
    unfold leastA at h
    cases e : leastA l t with
    | none =>
      rw [e] at h
      have : t = b := Option.some.inj h
      subst this
      have t0 : t = 0 := by
        cases t with
        | zero => rfl
        | succ t =>
          unfold leastA at e
          split at e
          · cases e
          · split at e <;> cases e
      subst t0
      exact ⟨by omega, fun j hj => by rw [show j = 0 by omega]; exact Rat.lt_irrefl, fun j hj => by omega⟩
    | some a =>
      obtain ⟨h1, h2, h3⟩ := leastA_ok e
      rw [e] at h
      have h' : (if (l[t]?.getD 0) < (l[a]?.getD 0) then some t else some a) = some b := h
      split at h'
      · rename_i lt
        have : t = b := Option.some.inj h'
        subst this
        refine ⟨by omega, fun j hj z => ?_, fun j hj => ?_⟩
        · by_cases q : j = t
          · subst q; exact Rat.lt_irrefl z
          · exact h2 j (by omega) (by grind)
        · have := h2 j hj
          grind
      · rename_i nl
        have : a = b := Option.some.inj h'
        subst this
        refine ⟨by omega, fun j hj => ?_, h3⟩
        by_cases q : j = t
        · subst q; exact nl
        · exact h2 j (by omega)
def bD : Option Nat → D
  | none => .non
  | some b => .int (b : Nat)
theorem tq_rlt {Z : Zt} {ρ : Rho} {a b : Expr} {pos : Pos} {j k : Nat} {p q : Rat} (DL : Dm Z.X.prog Z.X.w Z.T Z.X.mg Z.X.base Z.T.C "__lt__" k f (F_cmp fun p q => decide (p < q))) (ok : Zok Z) (hr : RoomG j Z.X.A) (hj : k ≤ j)
    (ha : EQ Z ρ a (.rat p)) (hb : EQ Z ρ b (.rat q)) (sp : Sz 8500 p) (sq : Sz 8500 q) : TQ Z ρ (.Compare a [.Lt] [b] pos) (decide (p < q)) :=
  et_cmpR (fun _ _ => rfl) (nomark _) DL ok hr hj (ha.to (hb.to ⟨p, _, rfl, rfl, p, .rat q, q, rfl, rfl, sp, sq, _, rfl, rfl, rfl⟩))
def F_least : Fw := fun ds c P R => ∃ l : List Rat, ds = [handD l] ∧ l.length ≤ 100 ∧ (∀ q ∈ l, Sz 8500 q) ∧ P (bD (leastA l l.length)) c
theorem ok_least_place {fL : Addr} (U : Fun T.K "least_place" "least_place" s_least_place f fd) (DA : Df P w T mg base "as_ratio" 3 fA F_asN) (DL : Dm P w T mg base T.C "__lt__" 4 fL (F_cmp fun p q => decide (p < q))) (me : mg "enumerate" = none) :
    FnGk P w T.K mg base (L2.CX P w) 5 f fd ["numbers"] (SpW T F_least) := by
  refine Fun.doesG U sc_least_place (fun ds c P R h => ?_) (fun Z c ds cdv A outer s H E B R rt hZ ok hr h => ?_)
  · obtain ⟨l, rfl, _⟩ := h
    rfl
  · obtain ⟨l, rfl, hl, hs, h⟩ := h
    subst hZ
    refine ss_cons (st_setLc (m := 1) 5 ok (blkOk_by (N := ["numbers", "ratios", "best", "place", "ratio", "number"]) (sc := defScope s_least_place) (by decide +kernel)) (h := ev_var 0 rfl ⟨_, rfl, lcs_map (g := fun d => .rat (nv d)) (l.map hdN) [] _ (by rw [List.length_nil, List.length_map]; omega) (fun d hd => ⟨rfl, fun B2 s1 H1 C cl fp ok2 => ?_⟩) ?_⟩))
    · obtain ⟨q, hq, rfl⟩ := List.mem_map.mp hd
      rw [nv_hd]
      exact eq_df DA ok2 hr (by decide) (aq_cons (eq_var 5 rfl (n := num_own (hdN_num q))) aq_nil) ⟨_, q, rfl, hdN_num q, hs q hq, rfl, rfl⟩
    have em : (l.map hdN).map (fun d => D.rat (nv d)) = l.map D.rat := by
      rw [List.map_map]
      exact List.map_congr_left fun q _ => congrArg D.rat (nv_hd q)
    rw [List.nil_append, em]
    dsimp only [Rho.wc, Rho.set]
    refine ss_cons (st_setq (i := 2) (d := .non) ok eq_non ?_)
    dsimp only [Rho.wc, Rho.set]
    refine ss_cons (st_forE 3 4 ok me (ea_cons (ev_var 1 rfl (ea_nil ⟨_, _, rfl, rfl, fun v => ?_⟩))))
    dsimp only [Rho.wc, Rho.set]
    have ln : (enumD (l.map D.rat)).length = l.length := by rw [enum_len, List.length_map]
    refine turns2_ix (l := enumD (l.map D.rat)) (fun t ρ => ∃ o3 o4 o5, ρ = ⟨B, [some (handD l), some (.lst (l.map .rat)), some (bD (leastA l t)), o3, o4, o5], c⟩) ?_ ?_ _ 0 _ (Nat.zero_add _) ⟨_, _, _, rfl⟩
    · rintro t ρ K ht ⟨o3, o4, o5, rfl⟩ hK
      have tl : t < l.length := by omega
      have okg := fun d => ok.gh (d := d) (v := v)
      have et : (enumD (l.map D.rat))[t] = (.int (t : Nat), .rat (l[t]?.getD 0)) := by
        rw [enum_at (by rw [List.length_map]; exact tl), List.getElem_map, List.getElem?_eq_getElem tl]; rfl
      rw [et]
      dsimp only [Rho.wc, Rho.set]
      have rat_at : ∀ {k : Nat}, k < l.length → ixD (.lst (l.map D.rat)) ((k : Nat) : Int) = some (.rat (l[k]?.getD 0)) := fun {k} hk => by
        have e : l[k]? = some l[k] := List.getElem?_eq_getElem hk
        rw [e]
        show atI (l.map D.rat) ((k : Nat) : Int) = _
        unfold atI
        have e2 : ixN (l.map D.rat).length ((k : Nat) : Int) = some k := by
          rw [List.length_map]; unfold ixN; simp; omega
        rw [e2]
        show (l.map D.rat)[k]? = _
        rw [List.getElem?_map, e]; rfl
      have step : leastA l (t + 1) = match leastA l t with
        | none => some t
        | some b => if (l[t]?.getD 0) < (l[b]?.getD 0) then some t else some b := rfl
      cases e : leastA l t with
      | none =>
        rw [e] at step
        refine ss_one (st_if (TQ.to (k := true) (tq_bool (ew_or (TQ.to (k := true) (et_isN (ev_var 2 rfl ⟨true, rfl, rfl, rfl⟩)) ⟨fun z => (by cases z), fun _ => ⟨rfl, rfl⟩⟩))) ⟨fun _ => ?_, fun z => (by cases z)⟩))
        refine ss_one (st_setq (i := 2) (okg _) (eq_var 3 rfl) (hK _ ⟨some (.int (t : Nat)), some (.rat (l[t]?.getD 0)), o5, ?_⟩))
        rw [step]; rfl
      | some b =>
        rw [e] at step
        have bt := (leastA_ok e).1
        have sb := hs _ (at_mem (x := l) (k := b) (by omega))
        have st := hs _ (at_mem tl)
        refine ss_one (st_if (TQ.to (k := decide ((l[t]?.getD 0) < (l[b]?.getD 0))) (tq_bool (ew_or (TQ.to (k := false) (et_isN (ev_var 2 rfl ⟨false, rfl, rfl, rfl⟩)) ⟨fun _ => ew_or1 (tq_rlt DL (okg _) hr (by decide) (eq_var 4 rfl) (eq_ix rfl (eq_var 1 rfl) (eq_var 2 rfl) (rat_at (by omega))) st sb), fun z => (by cases z)⟩))) ⟨fun z => ?_, fun z => ss_nil ?_⟩))
        · refine ss_one (st_setq (i := 2) (okg _) (eq_var 3 rfl) (hK _ ⟨some (.int (t : Nat)), some (.rat (l[t]?.getD 0)), o5, ?_⟩))
          rw [step]
          simp only [if_pos (of_decide_eq_true z)]; rfl
        · refine hK _ ⟨some (.int (t : Nat)), some (.rat (l[t]?.getD 0)), o5, ?_⟩
          rw [step]
          simp only [if_neg (of_decide_eq_false z)]; rfl
    · rintro ρ ⟨o3, o4, o5, rfl⟩
      rw [ln]
      have pl : plain (bD (leastA l l.length)) = true := by cases leastA l l.length <;> rfl
      have ow : isOwn (bD (leastA l l.length)) = false := by cases leastA l l.length <;> rfl
      exact ss_one (st_ret (ev_var 2 rfl (n := ow) ⟨pl, h⟩))
end Q
end

section
set_option Elab.async false
set_option linter.all false
set_option maxRecDepth 100000
set_option maxHeartbeats 3900000
set_option exponentiation.threshold 20000
/-! K5v: whether the first place of a least number is told. -/
namespace Q
open PySem L2
variable {P : Program} {w : World} {T : Tab} {mg : Str → Option Value} {base : Heap} {f fA fI CZ CB CS : Addr} {fd : FuncData}
theorem leastA_some {l : List Rat} : ∀ t, 0 < t → ∃ b, leastA l t = some b
  | t + 1, _ => by
    unfold leastA
    split
    · exact ⟨_, rfl⟩
    · split <;> exact ⟨_, rfl⟩
abbrev Nleast : List Str := ["_law_numbers", "_law_at", "_law_x"]
def F_lleast : Fw := fun ds c P R => ∃ l : List Rat, ds = [lineD l] ∧ 0 < l.length ∧ l.length ≤ 100 ∧ (∀ q ∈ l, Sz 8500 q) ∧ P (.bl true) c
theorem ok_law_least {fR fP fS : Addr} (U : Fun T.K "_law_least" "_law_least" s_law_least f fd) (DR : Df P w T mg base "_law_ratio" 3 fR F_ratioL) (DP : Df P w T mg base "least_place" 5 fP F_least) (DS : Df P w T mg base "_law_less" 1 fS F_less) :
    FnGk P w T.K mg base (L2.CX P w) 6 f fd ["_law_numbers"] (SpW T F_lleast) := by
  refine Fun.doesG U sc_law_least (fun ds c P R h => ?_) (fun Z c ds cdv A outer s H E B R rt hZ ok hr h => ?_)
  · obtain ⟨l, rfl, _⟩ := h
    rfl
  · obtain ⟨l, rfl, hp, hl, hs, h⟩ := h
    subst hZ
    obtain ⟨b, hb⟩ := leastA_some (l := l) l.length hp
    obtain ⟨hbl, all, firsts⟩ := leastA_ok hb
    have eb : l[b]? = some l[b] := List.getElem?_eq_getElem hbl
    have lb : ixD (lineD l) ((b : Nat) : Int) = some (.fr (l[b]?.getD 0)) := fr_at hbl
    have sb := hs _ (at_mem hbl)
    have em : (l.map D.fr).map (fun d => hdN (frOf d)) = l.map hdN := map_fr fun q => by rw [frOf_fr]
    refine ss_cons (st_setq (i := 1) (d := .int (b : Nat)) ok (eq_df DP ok hr (by decide) (aq_cons (eq_lcM 2 (g := fun d => hdN (frOf d)) ok (blkOk_by (N := Nleast) (sc := defScope s_law_least) (by decide +kernel)) rfl (eq_var 0 rfl) (by rw [List.length_map]; omega) (fun d hd => ?_)) aq_nil) ⟨l, by rw [em], hl, hs, by rw [hb]; rfl, rfl⟩) ?_)
    · obtain ⟨q, hq, rfl⟩ := List.mem_map.mp hd
      refine ⟨hdN_plain _, fun B2 s1 H1 C cl fp ok2 => ?_⟩
      exact eq_df DR ok2 hr (by decide) (aq_cons (eq_var 2 rfl) aq_nil) ⟨q, rfl, hs q hq, by rw [frOf_fr], rfl⟩
    dsimp only [Rho.wc, Rho.set]
    let k1 : D → Bool := fun d => !decide ((l[b]?.getD 0) < frOf d)
    let k2 : D → Bool := fun d => decide (frOf d < (l[b]?.getD 0))
    have f1 : (((l.map D.fr).take b).filter k1).map (fun d => D.fr (frOf d)) = [] := by
      rw [List.filter_eq_nil_iff.mpr]; rfl
      intro d hd
      rw [← List.map_take] at hd
      obtain ⟨q, hq, rfl⟩ := List.mem_map.mp hd; obtain ⟨j, hj, e⟩ := List.mem_iff_getElem.mp hq
      rw [List.length_take] at hj
      rw [List.getElem_take] at e
      have := firsts j (by omega)
      rw [List.getElem?_eq_getElem (show j < l.length by omega)] at this
      show ¬ (!decide ((l[b]?.getD 0) < frOf (.fr q))) = true
      rw [frOf_fr, ← e, decide_eq_true (show (l[b]?.getD 0) < l[j] from this)]
      decide
    have f2 : ((l.map D.fr).filter k2).map (fun d => D.fr (frOf d)) = [] := by
      rw [List.filter_eq_nil_iff.mpr]; rfl
      intro d hd
      obtain ⟨q, hq, rfl⟩ := List.mem_map.mp hd; obtain ⟨j, hj, e⟩ := List.mem_iff_getElem.mp hq
      have := all j hj
      rw [List.getElem?_eq_getElem hj] at this
      show ¬ decide (frOf (.fr q) < (l[b]?.getD 0)) = true
      rw [frOf_fr, ← e, decide_eq_false (show ¬ l[j] < (l[b]?.getD 0) from this)]
      decide
    refine ss_cons (st_ifF (tq_bool (ew_or (TQ.to (k := false) (et_isN (ev_var 1 rfl ⟨false, rfl, rfl, rfl⟩)) ⟨fun _ => wq_or1 (tq_neP (x := .list []) (y := .list []) rfl hr (EQ.as (eq_lcF 2 (k := k1) (g := fun d => .fr (frOf d)) (l := (l.map D.fr).take b) (d := .lst ((l.map D.fr).take b)) ok (blkOk_by (N := Nleast) (sc := defScope s_law_least) (by decide +kernel)) rfl (eq_lTo rfl rfl (eq_var 0 rfl) (eq_var 1 rfl)) (by rw [List.length_take, List.length_map]; omega) (fun d hd => ?_)) (by rw [f1])) (eq_lst aq_nil) rfl rfl rfl rfl), fun z => (by cases z)⟩))) (ss_nil ?_))
    · rw [← List.map_take] at hd
      obtain ⟨q, hq, rfl⟩ := List.mem_map.mp hd; have sq := hs q (List.mem_of_mem_take hq)
      refine ⟨rfl, fun B2 s1 H1 C cl fp ok2 => ?_, fun B2 s1 H1 C cl fp ok2 => ?_⟩
      · refine tq_not (tq_val (eq_df DS ok2 hr (by decide) (aq_cons (eq_ix rfl (eq_var 0 rfl) (eq_var 1 rfl) lb) (aq_cons (eq_var 2 rfl) aq_nil)) ⟨_, q, rfl, sb.mono (by decide), sq.mono (by decide), by show _ = D.bl (decide ((l[b]?.getD 0) < frOf (.fr q))); rw [frOf_fr], rfl⟩))
      · rw [frOf_fr]
        exact eq_var 2 rfl
    · refine ss_one (st_ret (ev_eqP rfl hr (EQ.to (EQ.as (eq_lcF 2 (k := k2) (g := fun d => .fr (frOf d)) (l := l.map D.fr) ok (blkOk_by (N := Nleast) (sc := defScope s_law_least) (by decide +kernel)) rfl (eq_var 0 rfl) (by rw [List.length_map]; omega) (fun d hd => ?_)) (by rw [f2])) (EQ.to (eq_lst aq_nil) ⟨.list [], .list [], rfl, rfl, rfl, rfl, rfl, h⟩))))
      obtain ⟨q, hq, rfl⟩ := List.mem_map.mp hd; have sq := hs q hq
      refine ⟨rfl, fun B2 s1 H1 C cl fp ok2 => ?_, fun B2 s1 H1 C cl fp ok2 => ?_⟩
      · refine tq_val (eq_df DS ok2 hr (by decide) (aq_cons (eq_var 2 rfl) (aq_cons (eq_ix rfl (eq_var 0 rfl) (eq_var 1 rfl) lb) aq_nil)) ⟨q, _, rfl, sq.mono (by decide), sb.mono (by decide), by show _ = D.bl (decide (frOf (.fr q) < (l[b]?.getD 0))); rw [frOf_fr], rfl⟩)
      · rw [frOf_fr]
        exact eq_var 2 rfl
end Q
end

section
set_option Elab.async false
set_option linter.all false
set_option maxRecDepth 100000
set_option maxHeartbeats 3900000
set_option exponentiation.threshold 20000
/-! L5a: the elimination. -/
namespace Q
open PySem L2
namespace Det
variable {A A0 T T' : Tb} {n m k : Nat} {p : Int}
theorem Run.congr (I : Run A0 n m k p T) (h : ∀ i j, i < n → j < m → T i j = T' i j) : Run A0 n m k p T' := by
  obtain ⟨A, I, r⟩ := I.x
  exact ⟨A, ⟨I.n4, I.kn, I.nm, I.pad, I.e, I.nz, fun i j hi hj => (h i j hi hj).symm.trans (I.t i j hi hj)⟩, r⟩
end Det
theorem ssm_free {Z : Zt} {ρ : Rho} {rt : D → Nat → Prop} (i : Nat) {o : Addr} {l : List D} {sts : List Stmt} (n0 : Z.B0 o = none) (hs : ρ.s[i]? = some (some (.own o l))) (one : ∀ j l', ρ.s[j]? = some (some (.own o l')) → j = i)
    (h : ∀ B', SSM Z (ρ.own B' i (.lst l)) sts rt) : SSM Z ρ sts rt := ⟨fun pins s σ H D I q => by
  obtain ⟨S, k⟩ := q
  obtain ⟨B', S'⟩ := S.free (xs := []) n0 i hs one
  exact (h B').run pins s σ H D I ⟨S', k⟩⟩
def ownO : Option D → Bool
  | none => true
  | some d => !isOwn d
theorem one_all {s : List (Option D)} {i : Nat} {o : Addr} (h : (s.set i none).all ownO = true) : ∀ j l', s[j]? = some (some (.own o l')) → j = i := fun j l' hj => by
  by_cases e : j = i
  · exact e
  · have h2 : (s.set i none)[j]? = some (some (.own o l')) := by rw [List.getElem?_set_ne (fun z => e z.symm)]; exact hj
    have := List.all_eq_true.mp h _ (List.mem_of_getElem? h2)
    cases this
variable {P : Program} {w : World} {T : Tab} {mg : Str → Option Value} {base : Heap} {f fA fI CZ CB CS : Addr} {fd : FuncData}
/-- a row and its side, as integers -/
def wholeI (y : List D × List D) : List Int := (y.1 ++ y.2).map fun d => whI (lcmR (y.1 ++ y.2)) (nv d)
def tab0 (R S : List (List D)) : List (List Int) := (R.zip S).map wholeI
def solD (n : Nat) (p : Int) (r : List Int) : D := .lst ((r.drop n).map fun i => .rat (fr i p))
structure ElimOk (R S : List (List D)) (n m : Nat) : Prop where
  n4 : n ≤ 4
  m9 : m ≤ 9
  rl : R.length = n
  sl : S.length = n
  rw : ∀ r ∈ R, r.length = n
  sw : ∀ r ∈ S, n + r.length = m
  nm : n ≤ m
  num : ∀ y ∈ R.zip S, ∃ s, (∀ d ∈ y.1 ++ y.2, ∃ q, numD d = some q ∧ Sz s q) ∧ s * m + s + 1 ≤ 8000
  big : ∃ M : Nat → Nat, (∀ i, 1 ≤ M i) ∧ (∀ i j, j < m → (tabI (tab0 R S) i j).natAbs ≤ M i) ∧ 24 * Det.pr4 M < 2 ^ 8400
def F_elim (CS : Addr) : Fw := fun ds c P R => ∃ (d : D) (Rr Ss : List (List D)) (n m : Nat), ds = [d, .lst (Ss.map .lst)] ∧ (d = .lst (Rr.map .lst) ∨ d = .tup (Rr.map .lst)) ∧ ElimOk Rr Ss n m ∧
  (∀ (t : List (List Int)) (p : Int) (D : Addr) (bs : List Addr), t.length = n → (∀ r ∈ t, r.length = m) → Det.Run (tabI (tab0 Rr Ss)) n m n p (tabI t) → P (.lsa D bs (t.map (solD n p))) c) ∧ (Det.Dt (Det.gk (tabI (tab0 Rr Ss)) n) = 0 → R (CS, none) c)
def lof : D → List D
  | .lst l => l
  | _ => []
theorem zip_lst {R S : List (List D)} {p : D × D} (h : p ∈ (R.map D.lst).zip (S.map D.lst)) : ∃ y ∈ R.zip S, p = (.lst y.1, .lst y.2) := by
  rw [List.zip_map] at h
  obtain ⟨y, hy, rfl⟩ := List.mem_map.mp h
  exact ⟨y, hy, rfl⟩
theorem ElimOk.t0 {R S : List (List D)} {n m : Nat} (E : ElimOk R S n m) : (tab0 R S).length = n ∧ ∀ r ∈ tab0 R S, r.length = m := by
  refine ⟨by unfold tab0; rw [List.length_map, List.length_zip, E.rl, E.sl]; omega, fun r hr => ?_⟩
  unfold tab0 at hr
  obtain ⟨y, hy, rfl⟩ := List.mem_map.mp hr
  have h := List.of_mem_zip (show (y.1, y.2) ∈ R.zip S from hy)
  unfold wholeI
  rw [List.length_map, List.length_append, E.rw _ h.1, E.sw _ h.2]
theorem tab_pad {t : List (List Int)} {n : Nat} (h : t.length = n) : ∀ i j, n ≤ i → tabI t i j = 0 := fun i j hi => by
  unfold tabI
  rw [List.getElem?_eq_none (by omega)]; rfl
theorem tab_mem {t : List (List Int)} {r : List Int} {x : Int} (hr : r ∈ t) (hx : x ∈ r) : ∃ i j, i < t.length ∧ j < r.length ∧ tabI t i j = x := by
  obtain ⟨i, hi, rfl⟩ := List.getElem_of_mem hr
  obtain ⟨j, hj, rfl⟩ := List.getElem_of_mem hx; refine ⟨i, j, hi, hj, ?_⟩
  unfold tabI itemI
  rw [List.getElem?_eq_getElem hi]
  show (t[i][j]?).getD 0 = _
  rw [List.getElem?_eq_getElem hj]; rfl
abbrev Nel : List Str := ["rows", "sides", "size", "table", "lead", "place", "other", "row", "side", "item"]
theorem set_len {t : List (List Int)} {k o : Nat} {a b : List Int} : ((t.set k a).set o b).length = t.length := by rw [List.length_set, List.length_set]
theorem swap_row {t : List (List Int)} {k o m : Nat} (hk : k < t.length) (ho : o < t.length) (h : ∀ r ∈ t, r.length = m) : ∀ r ∈ (t.set k (t[o]?.getD [])).set o (t[k]?.getD []), r.length = m := fun r hr => by
  rcases List.mem_or_eq_of_mem_set hr with y | y
  · rcases List.mem_or_eq_of_mem_set y with y | y
    · exact h r y
    · rw [y, List.getElem?_eq_getElem ho]; exact h _ (List.getElem_mem ho)
  · rw [y, List.getElem?_eq_getElem hk]; exact h _ (List.getElem_mem hk)
theorem cleared_row {t : List (List Int)} {k m : Nat} {p : Int} (hk : k < t.length) (h : ∀ r ∈ t, r.length = m) : ∀ r ∈ clearedL t k p, r.length = m := fun r hr => by
  unfold clearedL at hr
  obtain ⟨y, hy, rfl⟩ := List.mem_map.mp hr
  have hy2 := (List.of_mem_zip (show (y.1, y.2) ∈ (List.range t.length).zip t from hy)).2
  split
  · exact h _ hy2
  · unfold combI
    rw [List.length_map, List.length_zip, h _ hy2, List.getElem?_eq_getElem hk]
    show min m (t[k]).length = m
    rw [h _ (List.getElem_mem hk)]; omega
theorem eq_ixo {Z : Zt} {ρ : Rho} {b : Expr} {pos : Pos} (i : Nat) {x : Str} {px : Pos} {o : Addr} {l : List D} {j : Int} {d' : D} (hs : ρ.s[i]? = some (some (.own o l))) (hK : Z.X.K = Z.T.K) (h : EQ Z ρ b (.int j)) (hat : ixD (.lst l) j = some d') (hN : Z.X.N[i]? = some x := by rfl)
    (hv : Vis Z.X.env.scope x := by first | exact Or.inl rfl | exact Or.inr (Or.inl rfl) | exact Or.inr (Or.inr rfl)) (hd : (x == ("__debug__" : Str)) = false := by decide)
    (hcd : (x == ("__classdict__" : Str)) = false := by decide) (hpx : PlainIx b := by exact fun _ _ => rfl) : EQ Z ρ (.Subscript (.Name x px) b pos) d' := ev_ixo i hs hK (h.to ⟨j, d', rfl, hat, rfl, rfl⟩) hN hv hd hcd hpx
theorem one10 {d x : D} {n p : Int} {o5 o6 : Option D} {o : Addr} {l : List D} (h0 : isOwn d = false) (hx : isOwn x = false) (h5 : ownO o5 = true) (h6 : ownO o6 = true) :
    ∀ j l', ([some d, some x, some (.int n), some (.own o l), some (.int p), o5, o6, none, none, none] : List (Option D))[j]? = some (some (.own o l')) → j = 3 := one_all (by
  show ((!isOwn d) && ((!isOwn x) && (true && (true && (true && (ownO o5 && (ownO o6 && (true && (true && (true && true)))))))))) = true
  rw [h0, hx, h5, h6]; rfl)
theorem ok_eliminated {fW fL fC : Addr} (U : Fun T.K "_eliminated" "_eliminated" s_eliminated f fd) (RC : RCls T.K mg T.C) (ml : mg "len" = none) (mr : mg "range" = none) (mz : mg "zip" = none) (DW : Df P w T mg base "_whole_row" 4 fW F_whole_row) (DL : Df P w T mg base "_lead_place" 1 fL (F_lead CS)) (DC : DfN P w T mg base "_cleared" 2 fC F_cleared)
    (MK : Dk P w T mg base T.C 1 fI (F_mk CZ)) : FnGk P w T.K mg base (L2.CX P w) 5 f fd ["rows", "sides"] (SpM T (F_elim CS)) := by
  refine Fun.doesM U sc_eliminated (fun ds c P R h => ?_) (fun Z c ds cdv A outer s H E B R rt hZ ok hr h => ?_)
  · obtain ⟨d, Rr, Ss, n, m, rfl, _⟩ := h
    rfl
  · obtain ⟨d, Rr, Ss, n, m, rfl, hd, EO, hP, hR⟩ := h
    subst hZ
    obtain ⟨M, M1, hM, hbig⟩ := EO.big
    have nown : isOwn d = false := by rcases hd with e | e <;> subst e <;> rfl
    have ln : lenD d = some n := by rcases hd with e | e <;> subst e <;> show some (Rr.map D.lst).length = _ <;> rw [List.length_map, EO.rl]
    refine ssm_cons (st_set (i := 2) ok (ev_len rfl rfl ml (ea_cons (ev_var 0 rfl (ea_nil ⟨d, n, rfl, ln, ?_⟩) nown))))
    dsimp only [Rho.wc, Rho.set]
    -- the table of integers
    have et : ((Rr.map D.lst).zip (Ss.map D.lst)).map (fun y => rowI (wholeI (lof y.1, lof y.2))) = (tab0 Rr Ss).map rowI := by
      unfold tab0
      rw [List.zip_map, List.map_map, List.map_map]; rfl
    refine ssm_cons (st_ownZ (m := 3) 7 8 (g := fun y => rowI (wholeI (lof y.1, lof y.2))) ok (blkOk_by (N := Nel) (sc := defScope s_eliminated) (by decide +kernel)) mz hd rfl (aq_cons (eq_var 0 rfl nown) (aq_cons (eq_var 1 rfl) aq_nil)) (by rw [List.length_map, EO.rl]; have := EO.n4; omega) (fun y hy => ?_) (fun B1 o n0 _ => ?_))
    · obtain ⟨y, hy1, rfl⟩ := zip_lst hy
      obtain ⟨sz, hsz, hb⟩ := EO.num y hy1
      have hm := List.of_mem_zip (show (y.1, y.2) ∈ Rr.zip Ss from hy1)
      have len : (y.1 ++ y.2).length = m := by rw [List.length_append, EO.rw _ hm.1, EO.sw _ hm.2]
      have m9 := EO.m9
      refine ⟨rfl, fun B2 s1 H1 C cl fp ok2 => ?_⟩
      refine eq_df DW ok2 hr (by decide) (aq_cons (eq_star2 rfl rfl rfl (eq_var 7 rfl) (eq_var 8 rfl) (by rw [← List.length_append, len]; omega)) aq_nil) ⟨y.1 ++ y.2, sz, rfl, by rw [len]; omega, hsz, by rw [len]; exact hb, ?_, rfl⟩
      show D.lst ((y.1 ++ y.2).map fun d => D.int (whI (lcmR (y.1 ++ y.2)) (nv d))) = .lst ((wholeI (y.1, y.2)).map .int)
      unfold wholeI
      rw [List.map_map]; rfl
    rw [et]
    dsimp only [Rho.wc, Rho.set]
    refine ssm_cons (st_setq (i := 4) ok eq_int ?_)
    dsimp only [Rho.wc, Rho.set]
    refine ssm_cons (st_range (i := 5) ok rfl mr (ea_cons (ev_var 2 rfl (ea_nil ⟨(n : Nat), rfl, by have := EO.n4; omega, by omega, ?_⟩))))
    rw [Int.toNat_natCast]
    dsimp only [Rho.wc, Rho.set]
    have t0 := EO.t0
    refine spins_fin (n0 := n) (fun k ρ => ∃ (B' : Bm) (o : Addr) (t : List (List Int)) (p : Int) (o5 o6 : Option D), (ownO o5 = true ∧ ownO o6 = true) ∧ B o = none ∧ t.length = n ∧ (∀ r ∈ t, r.length = m) ∧ Det.Run (tabI (tab0 Rr Ss)) n m k p (tabI t) ∧ ρ = ⟨B', [some d, some (.lst (Ss.map .lst)), some (.int (n : Nat)), some (.own o (t.map rowI)), some (.int p), o5, o6, none, none, none], c⟩) ?_ ?_ n 0 _ (Nat.zero_add _) ⟨B1, o, tab0 Rr Ss, 1, none, none, ⟨rfl, rfl⟩, n0, t0.1, t0.2, .start EO.n4 EO.nm (tab_pad t0.1), rfl⟩
    · rintro k ρ K ⟨B', o, t, p, o5, o6, ⟨w5, w6⟩, n0, hl, hw, I, rfl⟩ hk hK
      dsimp only [Rho.wc, Rho.set]
      have n4 := EO.n4
      have nm := EO.nm
      have m9 := EO.m9
      have kt : k < t.length := by omega
      obtain ⟨bp, bt⟩ := I.le M1 hM
      have p9 : p.natAbs < 2 ^ 9000 := Nat.lt_of_lt_of_le (Nat.lt_of_le_of_lt bp hbig) (Nat.pow_le_pow_right (by decide) (by decide))
      have p0 : p ≠ 0 := by obtain ⟨_, J, _⟩ := I.x; exact J.nz
      have b9 : ∀ r ∈ t, ∀ i ∈ r, i.natAbs < 2 ^ 9000 := fun r hr i hi => by
        obtain ⟨a, b, ha, hb, rfl⟩ := tab_mem hr hi
        exact Nat.lt_of_lt_of_le (Nat.lt_of_le_of_lt (bt a b (by omega) (by rw [hw r hr] at hb; exact hb)) hbig) (Nat.pow_le_pow_right (by decide) (by decide))
      refine ss_cons (st_set (i := 6) ok (EV.mono (P := fun d' c' => ∃ o' : Nat, d' = .int (o' : Nat) ∧ c' = c ∧ k ≤ o' ∧ o' < n ∧ tabI t o' k ≠ 0) (ev_lend 3 rfl n0 (one10 nown rfl rfl w6) (fun B2 => ?_) (fun d' c' ⟨o', e, _⟩ => ⟨_, e⟩)) fun d' c' ⟨o', e1, e2, g1, g2, g3⟩ => ?_))
      · refine ev_df DL ok hr (by decide) (AQ.to (aq_cons (eq_var 3 rfl) (aq_cons (eq_var 5 rfl) aq_nil)) ⟨t, k, rfl, by omega, by omega, fun r hr => by rw [hw r hr]; omega, fun o' h1 h2 h3 => ⟨o', rfl, rfl, h1, by omega, h3⟩, fun hz => ?_⟩)
        exact hR (I.fail hk fun i hi hn => hz i hi (by omega))
      subst e1
      subst e2
      dsimp only [Rho.wc, Rho.set]
      have ot : o' < t.length := by omega
      refine ss_cons (st_swp 3 (d1 := rowI (t[o']?.getD [])) (d2 := rowI (t[k]?.getD [])) (k1 := (k : Nat)) (k2 := (o' : Nat)) (j1 := k) (j2 := o') ok rfl n0 (one10 nown rfl rfl rfl) (eq_tup (aq_cons (eq_ixo 3 rfl rfl (eq_var 6 rfl) (row_at ot)) (aq_cons (eq_ixo 3 rfl rfl (eq_var 5 rfl) (row_at kt)) aq_nil))) (eq_var 5 rfl) (fun B2 l' => eq_var 6 rfl) (atI_nat (by rw [List.length_map]; exact kt)) (atI_nat (by rw [List.length_map]; exact ot)) (fun B2 => ?_))
      have e1 : ((t.map rowI).set k (rowI (t[o']?.getD []))).set o' (rowI (t[k]?.getD [])) = ((t.set k (t[o']?.getD [])).set o' (t[k]?.getD [])).map rowI := by rw [List.map_set, List.map_set]
      rw [e1]
      let t1 := (t.set k (t[o']?.getD [])).set o' (t[k]?.getD [])
      have l1 : t1.length = n := by show ((t.set k _).set o' _).length = n; rw [set_len]; exact hl
      have w1 : ∀ r ∈ t1, r.length = m := swap_row kt ot hw
      have b1 : ∀ r ∈ t1, ∀ i ∈ r, i.natAbs < 2 ^ 9000 := fun r hr => by
        rcases List.mem_or_eq_of_mem_set hr with y | y
        · rcases List.mem_or_eq_of_mem_set y with y | y
          · exact b9 r y
          · rw [y, List.getElem?_eq_getElem ot]; exact b9 _ (List.getElem_mem ot)
        · rw [y, List.getElem?_eq_getElem kt]; exact b9 _ (List.getElem_mem kt)
      have s1 : tabI t1 = Det.swapped (tabI t) k o' := funext fun i => funext fun j => tab_swapped kt ot
      dsimp only [Rho.wc, Rho.set]
      refine ss_free 3 n0 rfl (one10 nown rfl rfl rfl) (fun B3 => ?_)
      dsimp only [Rho.own, List.set]
      refine ss_cons (st_ownN (i := 3) ok DC hr (by decide) (AQ.to (aq_cons (eq_var 3 rfl) (aq_cons (eq_var 5 rfl) (aq_cons (eq_var 4 rfl) aq_nil))) ⟨t1, k, m, p, rfl, by omega, by omega, fun r hr => ⟨w1 r hr, b1 r hr⟩, by omega, by omega, p0, p9, _, rfl, fun d hd => ?_, fun B4 o2 n2 _ => ?_⟩))
      · obtain ⟨r, _, rfl⟩ := List.mem_map.mp hd
        exact ⟨r, rfl⟩
      dsimp only [Rho.wc, Rho.set]
      have c1 : k < (clearedL t1 k p).length := by rw [clearedL_len]; omega
      have w2 := cleared_row (p := p) (show k < t1.length by omega) w1
      have ek : tabI (clearedL t1 k p) k k = tabI t o' k := by
        rw [tab_cleared (m := m) (by omega) (by omega) w1 (by omega) (by omega), s1]
        show (if k = k then Det.swapped (tabI t) k o' k k else _) = _
        rw [if_pos rfl]
        show tabI t (Det.tau k o' k) k = _
        unfold Det.tau
        rw [if_pos rfl]
      refine ss_one (st_setq (i := 4) (d := .int (tabI t o' k)) ok (EQ.as (eq_ix rfl (eq_ixo 3 rfl rfl (eq_var 5 rfl) (row_at c1)) (eq_var 5 rfl) (int_at (by rw [List.getElem?_eq_getElem c1]; show k < ((clearedL t1 k p)[k]).length; rw [w2 _ (List.getElem_mem c1)]; omega))) (by rw [← ek]; rfl)) ?_)
      refine hK _ ⟨B4, o2, clearedL t1 k p, tabI t o' k, some (.int (k : Nat)), some (.int (o' : Nat)), ⟨rfl, rfl⟩, n2, by rw [clearedL_len]; exact l1, w2, (I.next hk g1 g2 g3).congr fun i j hi hj => ?_, rfl⟩
      rw [tab_cleared (m := m) (by omega) (by omega) w1 (by omega) hj, s1]
    · rintro ρ ⟨B', o, t, p, o5, o6, ⟨w5, w6⟩, n0, hl, hw, I, rfl⟩
      obtain ⟨bp, bt⟩ := I.le M1 hM
      have n4 := EO.n4
      have m9 := EO.m9
      have up : ∀ {a : Nat}, a < 2 ^ 8400 → a < 2 ^ 8500 := fun h => Nat.lt_of_lt_of_le h (Nat.pow_le_pow_right (by decide) (by decide))
      show SSM _ _ _ _
      refine ssm_free 3 n0 rfl (one10 nown rfl w5 w6) (fun B2 => ?_)
      dsimp only [Rho.own, List.set]
      let gE : D → D := fun d => match d with | .lst l => .lst ((l.drop n).map fun x => .rat (fr (iOf x) p)) | _ => .non
      have eE : (t.map rowI).map gE = t.map (solD n p) := by
        rw [List.map_map]
        refine List.map_congr_left fun r _ => ?_
        show D.lst (((r.map D.int).drop n).map fun x => D.rat (fr (iOf x) p)) = solD n p r
        unfold solD
        rw [← List.map_drop, List.map_map]; rfl
      refine ssm_lcL 7 ok (blkOk_by (N := Nel) (sc := defScope s_eliminated) (by decide +kernel)) (EQ.to (eq_var 3 rfl) ⟨_, rfl, lcsN_pre (t.map rowI) (fun done acc c' => acc = done.map gE ∧ c' = c) (fun done y rest acc c' e ⟨e1, e2⟩ => ?_) (fun acc c' ⟨e1, e2⟩ D bs => ?_) _ [] [] c rfl ⟨rfl, rfl⟩⟩)
      · subst e1
        subst e2
        have hy : y ∈ t.map rowI := by rw [← e]; exact List.mem_append_right _ List.mem_cons_self
        have hlen := congrArg List.length e
        rw [List.length_append, List.length_cons, List.length_map] at hlen
        obtain ⟨r, hr1, rfl⟩ := List.mem_map.mp hy
        refine ⟨by rw [List.length_map]; omega, fun B3 s1 H1 C cl fp ok2 => ?_⟩
        refine en_lc 9 ok2 (blkOk_by (N := Nel) (sc := relS (lcSc (ret0 s_eliminated 4)) (defScope s_eliminated)) (by decide +kernel)) (h := EQ.to (eq_lFrom (i := n) rfl rfl (eq_var 7 rfl) (eq_var 2 rfl)) ⟨_, rfl, lcs_map (g := fun x => .rat (fr (iOf x) p)) _ [] _ (by rw [List.length_nil, List.length_drop, List.length_map, hw r hr1]; omega) (fun x hx => ?_) ?_⟩)
        · obtain ⟨i, hi, rfl⟩ := List.mem_map.mp (List.mem_of_mem_drop hx)
          obtain ⟨a, b, ha, hb, rfl⟩ := tab_mem hr1 hi
          refine ⟨rfl, fun B4 s2 H2 C2 cl2 fp2 ok3 => ?_⟩
          exact eq_mk MK RC.m ok3 hr (by decide) (aq_cons (eq_var 9 rfl) (aq_cons (eq_var 4 rfl) aq_nil)) ⟨_, p, rfl, fun z => ((I.done.1) z).elim, fun _ => ⟨up (Nat.lt_of_le_of_lt (bt a b (by omega) (by rw [hw r hr1] at hb; exact hb)) hbig), up (Nat.lt_of_le_of_lt bp hbig), rfl, rfl⟩⟩
        · exact ⟨⟨_, rfl⟩, by rw [List.map_append]; rfl, rfl⟩
      · subst e1
        subst e2
        rw [eE]
        exact hP t p D bs hl hw I
end Q
end

section
set_option Elab.async false
set_option linter.all false
set_option maxRecDepth 100000
set_option maxHeartbeats 3900000
set_option exponentiation.threshold 20000
/-! L5m: what the elimination tells of the fractions. -/
namespace Q
open PySem L2
def Lr (R : List (List D)) : List (List Rat) := R.map fun r => r.map nv
def fac (R S : List (List D)) (i : Nat) : Rat := ((lcmR ((R[i]?.getD []) ++ (S[i]?.getD [])) : Nat) : Rat)
theorem fac_ne (R S : List (List D)) (i : Nat) : fac R S i ≠ 0 := fun z => by
  unfold fac at z
  have h := lcmR_pos ((R[i]?.getD []) ++ (S[i]?.getD []))
  have : lcmR ((R[i]?.getD []) ++ (S[i]?.getD [])) = 0 := by exact_mod_cast z
  omega
theorem getD_at {α : Type} {l : List (List α)} {i : Nat} (h : i < l.length) : l[i]?.getD [] = l[i] := by rw [List.getElem?_eq_getElem h]; rfl
theorem at2_Lr {R : List (List D)} {i j : Nat} (hi : i < R.length) (hj : j < (R[i]).length) : Det.at2 (Lr R) i j = nv (R[i])[j] := by
  unfold Det.at2 Lr
  rw [List.getElem?_map, List.getElem?_eq_getElem hi]
  show ((R[i].map nv)[j]?).getD 0 = _
  rw [List.getElem?_map, List.getElem?_eq_getElem hj]; rfl
theorem tab0_row {R S : List (List D)} {i : Nat} (hR : i < R.length) (hS : i < S.length) : (tab0 R S)[i]?.getD [] = wholeI (R[i], S[i]) := by
  unfold tab0
  rw [List.getElem?_map, List.getElem?_eq_getElem (by rw [List.length_zip]; omega), List.getElem_zip]; rfl
theorem tab0_at {R S : List (List D)} {i j : Nat} (hR : i < R.length) (hS : i < S.length) (hj : j < (R[i] ++ S[i]).length) : tabI (tab0 R S) i j = whI (lcmR (R[i] ++ S[i])) (nv (R[i] ++ S[i])[j]) := by
  unfold tabI itemI
  rw [tab0_row hR hS]
  unfold wholeI
  rw [List.getElem?_map, List.getElem?_eq_getElem hj]; rfl
section
variable {R S : List (List D)} {n m i : Nat}
theorem ElimOk.ri (E : ElimOk R S n m) (hi : i < n) : ∃ (h1 : i < R.length) (h2 : i < S.length), (R[i]).length = n ∧ n + (S[i]).length = m :=
  ⟨by rw [E.rl]; exact hi, by rw [E.sl]; exact hi, E.rw _ (List.getElem_mem _), E.sw _ (List.getElem_mem _)⟩
theorem tabA (E : ElimOk R S n m) {j : Nat} (hi : i < n) (hj : j < n) : ((tabI (tab0 R S) i j : Int) : Rat) = fac R S i * Det.at2 (Lr R) i j := by
  obtain ⟨h1, h2, l1, l2⟩ := E.ri hi
  rw [tab0_at h1 h2 (by rw [List.length_append]; omega), whI_rat (lcmR_dvd (List.getElem_mem _)), at2_Lr h1 (by omega)]
  unfold fac
  rw [getD_at h1, getD_at h2, List.getElem_append_left]
theorem tabB (E : ElimOk R S n m) {c : Nat} (hi : i < n) (hc : n + c < m) : ((tabI (tab0 R S) i (n + c) : Int) : Rat) = fac R S i * Det.at2 (Lr S) i c := by
  obtain ⟨h1, h2, l1, l2⟩ := E.ri hi
  rw [tab0_at h1 h2 (by rw [List.length_append]; omega), whI_rat (lcmR_dvd (List.getElem_mem _)), at2_Lr h2 (by omega)]
  unfold fac
  rw [getD_at h1, getD_at h2, List.getElem_append_right (by omega)]
  congr 2
  congr 1
  omega
theorem ElimOk.pad (E : ElimOk R S n m) : ∀ i j, n ≤ i → tabI (tab0 R S) i j = 0 := tab_pad E.t0.1
theorem ElimOk.det (E : ElimOk R S n m) : Det.Dt (Det.gk (tabI (tab0 R S)) n) = 0 ↔ Det.ldet n (Lr R) = 0 := by
  have h := Det.det_ldet (f := fac R S) (rows := Lr R) E.n4 (by unfold Lr; rw [List.length_map]; exact E.rl) (fun r hr => by
    unfold Lr at hr
    obtain ⟨r0, h0, rfl⟩ := List.mem_map.mp hr
    rw [List.length_map]; exact E.rw r0 h0) E.pad (fun i j hi hj => tabA E hi hj)
  have p0 : Det.prodF (fac R S) n ≠ 0 := Det.prodF_ne fun i _ => fac_ne R S i
  constructor
  · intro z
    rw [z] at h
    exact (Rat.mul_eq_zero.mp h.symm).resolve_left p0
  · intro z
    rw [z, Rat.mul_zero] at h
    exact_mod_cast h
theorem dot_s4 {x y : List Rat} (n4 : n ≤ 4) (hx : x.length = n) (hy : y.length = n) : dot x y = Det.s4 fun s => if s < n then (y[s]?.getD 0) * (x[s]?.getD 0) else 0 := by
  rcases (show n = 0 ∨ n = 1 ∨ n = 2 ∨ n = 3 ∨ n = 4 by omega) with rfl | rfl | rfl | rfl | rfl
  · have e := List.length_eq_zero_iff.mp hx
    have e' := List.length_eq_zero_iff.mp hy
    subst e; subst e'
    simp [dot, Det.s4]; grind
  · obtain ⟨a, rfl⟩ := Det.len1 hx
    obtain ⟨a', rfl⟩ := Det.len1 hy
    simp [dot, Det.s4]; grind
  · obtain ⟨a, b, rfl⟩ := Det.len2 hx
    obtain ⟨a', b', rfl⟩ := Det.len2 hy
    simp [dot, Det.s4]; grind
  · obtain ⟨a, b, c, rfl⟩ := Det.len3 hx
    obtain ⟨a', b', c', rfl⟩ := Det.len3 hy
    simp [dot, Det.s4]; grind
  · obtain ⟨a, b, c, d, rfl⟩ := Det.len4 hx
    obtain ⟨a', b', c', d', rfl⟩ := Det.len4 hy
    simp [dot, Det.s4]; grind
/-- column c of what is found -/
def colX (t : List (List Int)) (n c : Nat) (p : Int) : List Rat := t.map fun r => fr (itemI r (n + c)) p
theorem colX_at {t : List (List Int)} {c s : Nat} {p : Int} (h : s < t.length) : (colX t n c p)[s]?.getD 0 = ((tabI t s (n + c) : Int) : Rat) / ((p : Int) : Rat) := by
  unfold colX tabI
  rw [List.getElem?_map, List.getElem?_eq_getElem h]
  show fr (itemI t[s] (n + c)) p = _
  rw [show fr (itemI t[s] (n + c)) p = _ from Rat.divInt_eq_div _ _]; rfl
theorem Lr_row (E : ElimOk R S n m) (hi : i < n) : ((Lr R)[i]?.getD []).length = n := by
  obtain ⟨h1, _, l1, _⟩ := E.ri hi
  unfold Lr
  rw [List.getElem?_map, List.getElem?_eq_getElem h1]
  show (R[i].map nv).length = n
  rw [List.length_map]; exact l1
theorem sol_dot (E : ElimOk R S n m) {t : List (List Int)} {p : Int} (ht : t.length = n) (I : Det.Run (tabI (tab0 R S)) n m n p (tabI t)) {c : Nat} (hc : n + c < m) (hi : i < n) : dot ((Lr R)[i]?.getD []) (colX t n c p) = Det.at2 (Lr S) i c := by
  obtain ⟨p0, _, sol⟩ := I.done
  have h := Det.sol_rat (f := fac R S) (L := Det.at2 (Lr R)) (b := fun i => Det.at2 (Lr S) i c) (fun i j hi hj => tabA E hi hj) (fun i hi => tabB E hi hc) (fun i _ => fac_ne R S i) p0 (sol (n + c) hc) hi
  rw [dot_s4 E.n4 (Lr_row E hi) (by unfold colX; rw [List.length_map]; exact ht)]
  rw [← h]
  congr 1
  funext s
  by_cases hs : s < n
  · rw [if_pos hs, if_pos hs, colX_at (by omega)]; rfl
  · rw [if_neg hs, if_neg hs]
theorem uniq (E : ElimOk R S n m) (nz : Det.ldet n (Lr R) ≠ 0) {x y : List Rat} (hx : x.length = n) (hy : y.length = n) (h : ∀ i, i < n → dot ((Lr R)[i]?.getD []) x = dot ((Lr R)[i]?.getD []) y) : x = y := by
  have nz' : Det.Dt (Det.gk (tabI (tab0 R S)) n) ≠ 0 := fun z => nz (E.det.mp z)
  have key := fun s hs => Det.only (y := fun s => (x[s]?.getD 0) - (y[s]?.getD 0)) (f := fac R S) (L := Det.at2 (Lr R)) E.n4 E.pad (fun i j hi hj => tabA E hi hj) nz' (fun i hi => by
    have e := h i hi
    rw [dot_s4 E.n4 (Lr_row E hi) hx, dot_s4 E.n4 (Lr_row E hi) hy] at e
    have z : ∀ s, (if s < n then ((x[s]?.getD 0) - (y[s]?.getD 0)) * Det.at2 (Lr R) i s else 0) = (if s < n then (x[s]?.getD 0) * (((Lr R)[i]?.getD [])[s]?.getD 0) else 0) - (if s < n then (y[s]?.getD 0) * (((Lr R)[i]?.getD [])[s]?.getD 0) else 0) := fun s => by
      by_cases hs : s < n
      · rw [if_pos hs, if_pos hs, if_pos hs]
        show _ * (((Lr R)[i]?.getD [])[s]?.getD 0) = _
        grind
      · rw [if_neg hs, if_neg hs, if_neg hs]; grind
    simp only [Det.s4] at e ⊢
    rw [z, z, z, z]
    grind) (s := s) hs
  apply List.ext_getElem (by omega)
  intro s h1 h2
  have := key s (by omega)
  simp only [List.getElem?_eq_getElem h1, List.getElem?_eq_getElem h2, Option.getD_some] at this
  grind
end
/-! ### how great -/
theorem lcmL_le {a : Nat} (l0 : List D) : ∀ {l : List D}, (∀ d ∈ l, (nv d).den < 2 ^ a) → lcmL (l ++ l0) ≤ lcmL l0 * 2 ^ (a * l.length)
  | [], _ => by rw [List.nil_append, List.length_nil, Nat.mul_zero, Nat.pow_zero, Nat.mul_one]; exact Nat.le_refl _
  | d :: l, h => by
    have h1 := lcmL_le l0 (l := l) fun d hd => h d (List.mem_cons_of_mem _ hd)
    have h2 := Nat.le_of_lt (h d List.mem_cons_self)
    have h3 : Nat.lcm (lcmL (l ++ l0)) (nv d).den ≤ lcmL (l ++ l0) * (nv d).den := Nat.div_le_self _ _
    refine Nat.le_trans h3 (Nat.le_trans (Nat.mul_le_mul h1 h2) ?_)
    rw [Nat.mul_assoc, ← Nat.pow_add, List.length_cons, Nat.mul_add, Nat.mul_one]
    exact Nat.le_refl _
theorem lcmR_le {a b : Nat} {l l' : List D} (h : ∀ d ∈ l, (nv d).den < 2 ^ a) (h' : ∀ d ∈ l', (nv d).den < 2 ^ b) : lcmR (l ++ l') ≤ 2 ^ (a * l.length + b * l'.length) := by
  unfold lcmR
  rw [List.reverse_append]
  have h1 := lcmL_le l.reverse (l := l'.reverse) (a := b) fun d hd => h' d (List.mem_reverse.mp hd)
  have h2 := lcmL_le [] (l := l.reverse) (a := a) fun d hd => h d (List.mem_reverse.mp hd)
  rw [List.append_nil] at h2
  have e : lcmL [] = 1 := rfl
  rw [e, Nat.one_mul] at h2
  rw [List.length_reverse] at h1 h2
  refine Nat.le_trans h1 (Nat.le_trans (Nat.mul_le_mul_right _ h2) ?_)
  rw [← Nat.pow_add]
  exact Nat.le_refl _
theorem whI_le {F k : Nat} {q : Rat} (h : q.num.natAbs < 2 ^ k) : (whI F q).natAbs ≤ 2 ^ k * F := by
  unfold whI
  rw [Int.natAbs_mul]
  exact Nat.mul_le_mul (Nat.le_of_lt h) (by rw [Int.natAbs_natCast]; exact Nat.div_le_self _ _)
theorem pr4_pow (e : Nat → Nat) : Det.pr4 (fun i => 2 ^ e i) = 2 ^ (e 0 + (e 1 + (e 2 + e 3))) := by
  unfold Det.pr4
  rw [← Nat.pow_add, ← Nat.pow_add, ← Nat.pow_add]
structure Sizes (R S : List (List D)) (n m1 : Nat) (a b : Nat → Nat) : Prop where
  n4 : n ≤ 4
  m4 : m1 ≤ 4
  rl : R.length = n
  sl : S.length = n
  rw : ∀ r ∈ R, r.length = n
  sw : ∀ r ∈ S, r.length = m1
  rn : ∀ i (h : i < R.length), ∀ d ∈ R[i], ∃ q, numD d = some q ∧ Sz (a i) q
  sn : ∀ i (h : i < S.length), ∀ d ∈ S[i], ∃ q, numD d = some q ∧ Sz (b i) q
  le : ∀ i, i < 4 → a i + b i ≤ 880
  tot : 5 * (a 0 + b 0 + (a 1 + b 1 + (a 2 + b 2 + (a 3 + b 3)))) + 5 ≤ 8400
def sizT (a b : Nat → Nat) : Nat := 5 * (a 0 + b 0 + (a 1 + b 1 + (a 2 + b 2 + (a 3 + b 3)))) + 5
theorem Sizes.big {R S : List (List D)} {n m1 : Nat} {a b : Nat → Nat} (Z : Sizes R S n m1 a b) : (∀ i j, j < n + m1 → (tabI (tab0 R S) i j).natAbs ≤ 2 ^ (5 * (a i + b i))) ∧ 24 * Det.pr4 (fun i => 2 ^ (5 * (a i + b i))) < 2 ^ sizT a b := by
  refine ⟨fun i j hj => ?_, ?_⟩
  · by_cases hi : i < n
    · have h1 : i < R.length := by rw [Z.rl]; exact hi
      have h2 : i < S.length := by rw [Z.sl]; exact hi
      have l1 := Z.rw _ (List.getElem_mem h1)
      have l2 := Z.sw _ (List.getElem_mem h2)
      have hlen : j < (R[i] ++ S[i]).length := by rw [List.length_append]; omega
      rw [tab0_at h1 h2 hlen]
      have lc : lcmR (R[i] ++ S[i]) ≤ 2 ^ (a i * n + b i * m1) := by
        have := lcmR_le (a := a i) (b := b i) (l := R[i]) (l' := S[i]) (fun d hd => by obtain ⟨q, hq, sz⟩ := Z.rn i h1 d hd; rw [nv_of hq]; exact sz.den) (fun d hd => by obtain ⟨q, hq, sz⟩ := Z.sn i h2 d hd; rw [nv_of hq]; exact sz.den)
        rw [l1, l2] at this
        exact this
      have num : (nv (R[i] ++ S[i])[j]).num.natAbs < 2 ^ (a i + b i) := by
        have hm := List.getElem_mem hlen
        rcases List.mem_append.mp hm with y | y
        · obtain ⟨q, hq, sz⟩ := Z.rn i h1 _ y
          rw [nv_of hq]; exact (sz.mono (by omega)).num
        · obtain ⟨q, hq, sz⟩ := Z.sn i h2 _ y
          rw [nv_of hq]; exact (sz.mono (by omega)).num
      refine Nat.le_trans (whI_le num) (Nat.le_trans (Nat.mul_le_mul_left _ lc) ?_)
      rw [← Nat.pow_add]
      refine Nat.pow_le_pow_right (by decide) ?_
      have p1 : a i * n ≤ a i * 4 := Nat.mul_le_mul_left _ Z.n4
      have p2 : b i * m1 ≤ b i * 4 := Nat.mul_le_mul_left _ Z.m4
      omega
    · unfold tabI
      rw [List.getElem?_eq_none (by unfold tab0; rw [List.length_map, List.length_zip, Z.rl]; omega)]
      exact Nat.zero_le _
  · rw [pr4_pow]
    have e : sizT a b = 5 + (5 * (a 0 + b 0) + (5 * (a 1 + b 1) + (5 * (a 2 + b 2) + 5 * (a 3 + b 3)))) := by unfold sizT; omega
    rw [e, Nat.pow_add 2 5]
    exact Nat.mul_lt_mul_of_lt_of_le (by decide) (Nat.le_refl _) (Nat.pow_pos (by decide))
theorem Sizes.ok {R S : List (List D)} {n m1 : Nat} {a b : Nat → Nat} (Z : Sizes R S n m1 a b) : ElimOk R S n (n + m1) := by
  obtain ⟨b1, b2⟩ := Z.big
  have n4 := Z.n4
  have m4 := Z.m4
  refine ⟨n4, by omega, Z.rl, Z.sl, Z.rw, fun r hr => by rw [Z.sw r hr], by omega, fun y hy => ?_, ⟨fun i => 2 ^ (5 * (a i + b i)), fun i => Nat.pow_pos (by decide), b1, Nat.lt_of_lt_of_le b2 (Nat.pow_le_pow_right (by decide) Z.tot)⟩⟩
  obtain ⟨i, hi, rfl⟩ := List.getElem_of_mem hy
  rw [List.length_zip] at hi
  have h1 : i < R.length := by omega
  have h2 : i < S.length := by omega
  have i4 : i < 4 := by have := Z.rl; omega
  have le := Z.le i i4
  rw [List.getElem_zip]
  refine ⟨a i + b i, fun d hd => ?_, ?_⟩
  · rcases List.mem_append.mp hd with y | y
    · obtain ⟨q, hq, sz⟩ := Z.rn i h1 d y
      exact ⟨q, hq, sz.mono (by omega)⟩
    · obtain ⟨q, hq, sz⟩ := Z.sn i h2 d y
      exact ⟨q, hq, sz.mono (by omega)⟩
  · have : (a i + b i) * (n + m1) ≤ 880 * 8 := Nat.mul_le_mul le (by omega)
    omega
/-- what is found is no greater than this -/
theorem Sizes.x {R S : List (List D)} {n m1 : Nat} {a b : Nat → Nat} (Z : Sizes R S n m1 a b) {t : List (List Int)} {p : Int} (hl : t.length = n) (hw : ∀ r ∈ t, r.length = n + m1) (I : Det.Run (tabI (tab0 R S)) n (n + m1) n p (tabI t)) : ∀ r ∈ t, ∀ j, j < n + m1 → Sz (sizT a b) (fr (itemI r j) p) := fun r hr j hj => by
  obtain ⟨b1, b2⟩ := Z.big
  obtain ⟨bp, bt⟩ := I.le (M := fun i => 2 ^ (5 * (a i + b i))) (fun i => Nat.pow_pos (by decide)) b1
  obtain ⟨i, hi, rfl⟩ := List.getElem_of_mem hr
  have := bt i j (by omega) hj
  unfold tabI at this
  rw [List.getElem?_eq_getElem hi] at this
  exact Sz.fr (Nat.lt_of_le_of_lt this b2) (Nat.lt_of_le_of_lt bp b2) I.done.1
end Q
end

section
set_option Elab.async false
set_option linter.all false
set_option maxRecDepth 100000
set_option maxHeartbeats 3900000
/-! P7: lists of numbers of an own class that are equal. -/
namespace Q
section
open PySem PySem.SeqAt
open MeetsSeq MeetsSeq2 MeetsSeq3 SeqRoads2 GQ
variable {P : Program} {w : World} {A : Around} {R : Result → Shared → Prop} {E : Value → Shared → Prop}
theorem ne_loopH (l b : Addr) (N : Nat) (I : Nat → Shared → Prop) (hl : ListI P w A (fun e s' => R (.error e) s') l b N I) (fin : ∀ s, I N s → R (.ok (.ret (.bool false))) s) : ∀ (k i : Nat), N - i = k → i ≤ N → ∀ s, I i s →
    wpAny (model P w) A.in1 (Builtin.«list.__eq__.loop» ⟨[.ref l, .ref b, rawInt i, rawInt 3], []⟩) (FinOf P w A R) (fun e s' => R (.error e) s') s
  | 0, i, hk, hi, s, h => by
    have e : i = N := by omega
    subst e
    obtain ⟨xs, ys, n, n2, g1, g2, z1, z2, _⟩ := hl _ _ h; have q := fin s h
    obtain ⟨hp, g, d, tk, os⟩ := s; wp_walk using AutoSeq1.wpAny_loadPart' g1, AutoSeq1.wpAny_loadPart' g2
    rw [show xs[((i : Nat) : Int).toNat]? = none by (simp; omega), show ys[((i : Nat) : Int).toNat]? = none by (simp; omega)]
    wp_walk using AutoSeq1.wpAny_loadPart' g1, AutoSeq1.wpAny_loadPart' g2
    show R (.ok (.ret (.bool (xs.size != ys.size)))) _; rw [z1, z2]; simpa using q
  | k + 1, i, hk, hi, s, h => by
    obtain ⟨xs, ys, n, n2, g1, g2, z1, z2, turn⟩ := hl _ _ h
    have lx : i < xs.size := by omega
    have ly : i < ys.size := by omega
    have ht := turn lx ly
    obtain ⟨hp, g, d, tk, os⟩ := s; wp_walk using AutoSeq1.wpAny_loadPart' g1, AutoSeq1.wpAny_loadPart' g2
    rw [show xs[((i : Nat) : Int).toNat]? = some xs[i] by simp [lx], show ys[((i : Nat) : Int).toNat]? = some ys[i] by simp [ly]]
    refine wpAny_bind (wpAny_mono ht (fun r s2 ⟨hr, q⟩ => ?_) fun _ _ x => x)
    subst hr
    have next := ne_loopH l b N I hl fin k (i + 1) (by omega) (by omega) s2 q
    obtain ⟨hp2, g2, d2, tk2, os2⟩ := s2; wp_walk
    rw [show ((i : Int) + 1) = ((i + 1 : Nat) : Int) by omega]
    exact ⟨plainId_quiet plain_eq_loop _, codeAny_builtin entry_eq_loop (by rw [Around.under_plainId plain_eq_loop _]; exact next)⟩
theorem list_neH (l b : Addr) (N : Nat) (I : Nat → Shared → Prop) (hl : ListI P w A (fun e s' => R (.error e) s') l b N I) (fin : ∀ s, I N s → R (.ok (.ret (.bool false))) s) {s : Shared} (h : I 0 s) :
    wpAny (model P w) A.in1 (Builtin.«list.__ne__» ⟨[.ref l, .ref b], []⟩) (FinOf P w A R) (fun e s' => R (.error e) s') s := by
  obtain ⟨xs, ys, n, n2, g1, g2, z1, z2, _⟩ := hl _ _ h
  have loop := ne_loopH (A := A) (R := R) l b N I hl fin _ 0 rfl (Nat.zero_le _) s h; have f3 := AutoSeq1.sub_list_list
  obtain ⟨hp, g, d, tk, os⟩ := s; have same : ¬ (xs.size != ys.size) = true := by simp [z1, z2]
  wp_walk using AutoSeq1.wpAny_loadPart' g1, AutoSeq1.wpAny_loadPart' g2
  exact ⟨plainId_quiet plain_eq_loop _, codeAny_builtin entry_eq_loop (by rw [Around.under_plainId plain_eq_loop _]; exact loop)⟩
theorem rc_neH {s : Shared} {l b : Addr} {N : Nat} {Q : Value → Shared → Prop} (hu : A.units < cLine) (I : Nat → Shared → Prop) (hl : ListI P w A E l b N I) (fin : ∀ s, I N s → Q (.bool false) s) (h : I 0 s) : wpAny (model P w) A (richCompare .NotEq (.ref l) (.ref b)) Q E s := by
  obtain ⟨xs, ys, n, n2, g1, g2, _, _, _⟩ := hl _ _ h
  refine wpAny_richCompare_same_room (op := .NotEq) ⟨_, g1, rfl⟩ ⟨_, g2, rfl⟩ F.slot_list_ne (call_here F.slot_list_ne ⟨_, g1, rfl⟩ F.entry_list_ne (F.args_list_ne_2 _ _) ?_) hu
  exact list_neH (R := wants (fun v s' => v ≠ .notImplemented ∧ Q v s') E) l b N I hl (fun s' q => ⟨(fun x => nomatch x), fin s' q⟩) h
end
open L2 PySem PySem.Spec PyProof.Rows
section
variable {X : Cx} {k n : Nat} {D : Eqv} {T : Tab}
structure Und (X : Cx) (k : Nat) (A : Around) : Prop where
  room : RoomG k A
  fr : A.frames = X.A.frames
theorem Und.in1 {A : Around} (u : Und X (k + 1) A) : Und X k A.in1 := ⟨u.room.in1, u.fr⟩
/-- == tells True of what D says, and makes objects only -/
def EqH (X : Cx) (k : Nat) (D : Eqv) : Prop := ∀ (A : Around) (pins : List (Addr × Obj)) (s : Shared) (σ : L2.St) (H : Hp) (x y : V) (u v : Value), Und X k A → Inv X pins σ H s → RelV x u → RelV y v → D x y H →
  wpAny (model X.prog X.w) A (eqBool u v) (fun r s' => r = true ∧ LoopI X pins σ H s') X.xe s
theorem eqH_flat : EqH X k DFlat := fun A pins s σ H x y u v w I rx ry d => eqG_flat A pins s σ H x y u v ⟨w.room.r.mono (Nat.zero_le _), w.fr⟩ I rx ry d
theorem EqH.or {D' : Eqv} (h : EqH X k D) (h' : EqH X k D') : EqH X k (fun x y H => D x y H ∨ D' x y H) := fun A pins s σ H x y u v w I rx ry d => d.elim (fun d => h A pins s σ H x y u v w I rx ry d) fun d => h' A pins s σ H x y u v w I rx ry d
theorem vals_at {xs : List V} {us : List Value} (r : Vals xs us) {i : Nat} (h : i < us.toArray.size) : ∃ x, xs[i]? = some x ∧ RelV x us.toArray[i] := by
  have h1 : i < us.length := by simpa using h
  have h2 : i < xs.length := by rw [r.length]; exact h1
  obtain ⟨u, hu, ru⟩ := r.get (List.getElem?_eq_getElem h2)
  refine ⟨_, List.getElem?_eq_getElem h2, ?_⟩
  rw [List.getElem?_eq_getElem h1] at hu
  have e := Option.some.inj hu
  subst e
  simpa using ru
/-- the two lists, turn by turn -/
theorem listI_of (mD : Mon D) (h : EqH X k D) {A : Around} (un : Und X (k + 1) A) {pins : List (Addr × Obj)} {σ : L2.St} {H : Hp} {a b : Addr} {xs ys : List V} (ha : H a = some (.lst xs)) (hb : H b = some (.lst ys)) (p : Prs D xs ys H) :
    GQ.ListI X.prog X.w A X.xe a b xs.length (fun _ s' => LoopI X pins σ H s') := fun i s' q => by
  obtain ⟨H1, I1, e1⟩ := id q
  obtain ⟨z, us, m, r, e⟩ := I1.hok a _ (e1 _ _ ha)
  obtain ⟨z2, vs, m2, r2, e2⟩ := I1.hok b _ (e1 _ _ hb)
  refine ⟨us.toArray, vs.toArray, m, m2, e, e2, by rw [List.size_toArray, ← r.length], by rw [List.size_toArray, ← r2.length, ← p.1], fun h1 h2 => ?_⟩
  obtain ⟨x, hx, rx⟩ := vals_at r h1
  obtain ⟨y, hy, ry⟩ := vals_at r2 h2
  refine wpAny_mono (h A.in1 pins s' σ H1 x y _ _ un.in1 I1 rx ry (mD _ _ _ _ e1 (p.2 i x y hx hy))) (fun t s2 ⟨ht, H2, I2, e2⟩ => ⟨ht, H2, I2, e1.trans e2⟩) fun _ _ x => x
theorem eqH_list (mD : Mon D) (h : EqH X k D) : EqH X (k + 1) (DList D) := fun A pins s σ H x y u v un I rx ry d => by
  obtain ⟨a, b, xs, ys, rfl, rfl, ha, hb, p⟩ := d; cases rx
  cases ry
  by_cases ab : a = b
  · subst ab
    exact (SeqAt.EqAt.same (A := A) (s := s) (.ref a) X.prog X.w X.xe _ ⟨rfl, H, I, Ext.rfl'⟩)
  · exact GQ.eqBool_refG ab (GQ.rc_listG un.room.r.units0 _ (listI_of mD h un ha hb p) (fun s' q => ⟨true, rfl, rfl, q⟩) ⟨H, I, Ext.rfl'⟩)
/-- two Ratios of one value -/
def DRat (C : Addr) : Eqv := fun x y H => ∃ a b dx dy q, x = .ref a ∧ y = .ref b ∧ H a = some (.ins C dx (ratF q)) ∧ H b = some (.ins C dy (ratF q))
theorem mon_rat {C : Addr} : Mon (DRat C) := fun x y H H' e ⟨a, b, dx, dy, q, hx, hy, h1, h2⟩ => ⟨a, b, dx, dy, q, hx, hy, e _ _ h1, e _ _ h2⟩
theorem vis_none (H : Hp) : vis (fun _ => none) H = H := rfl
theorem eqH_rat {f : Addr} {F : Fw} (G : FnG X.prog X.w X.K X.mg X.base (L2.CX X.prog X.w) k f (SpW T F)) (hs : PySem.W.findIn X.K (.ref T.C) "__eq__" = some (some (.ref f))) (hf : PySem.W.isFn X.K (.ref f) = true)
    (hF : ∀ (q : Rat) (c : Nat) (P : Q.D → Nat → Prop) (R : Er → Nat → Prop), P (.bl true) c → F [.rat q, .rat q] c P R) : EqH X k (DRat T.C) := fun A pins s σ H x y u v un I rx ry d => by
  obtain ⟨a, b, dx, dy, q, rfl, rfl, ha, hb⟩ := d
  cases rx
  cases ry
  by_cases ab : a = b
  · subst ab
    exact (SeqAt.EqAt.same (A := A) (s := s) (.ref a) X.prog X.w X.xe _ ⟨rfl, H, I, Ext.rfl'⟩)
  refine GQ.eqBool_refG ab ?_
  obtain ⟨mA, J, _⟩ := ins_get I.hok ha; obtain ⟨mB, J', _⟩ := ins_get I.hok hb
  obtain ⟨od, J, _⟩ := J.look; obtain ⟨od', J', _⟩ := J'.look
  obtain ⟨m, hFr⟩ := I.fr
  refine PySem.W.cmp_K (op := .Eq) (tb := .ref T.C) un.room.r.units0 hFr I.ok.mod.kin J J'.type (by simp [PySem.W.notFirst]) hs hf ?_
  have sp : SpW T F [.ref a, .ref b] H (fun v H' => v = .bl true ∧ Ext H H') (fun _ _ _ => False) := ⟨fun _ => none, 0, [.rat q, .rat q], fun d _ => d = .bl true, fun _ _ => False, ⟨(fun _ z => by cases z), (fun _ _ z => by cases z)⟩, .cons ⟨a, dx, rfl, ha⟩ (.cons ⟨b, dy, rfl, hb⟩ .nil), hF q 0 _ _ rfl,
    fun v H' d c' _ sm r hd => by subst hd; exact ⟨r, fun t o z => sm t o z⟩, fun _ _ _ _ _ _ _ _ z => z⟩
  have e0 : (Env0 X.prog X.w X.K X.mg X.base A X.stack s H) := by
    have e := I.env0; exact ⟨by rw [un.fr]; exact e.frames, e.mod, e.bs, e.bsz, e.funs, e.frf, e.hok, e.bare⟩
  refine wpAny_call (codeAny_mono (G A X.stack s H [.ref a, .ref b] [.ref a, .ref b] _ _ un.room e0 (.cons rfl (.cons rfl .nil)) sp) fun r s' hq => ?_)
  match r, hq with
  | .error er, hq =>
    obtain ⟨_, _, _, _, _, _, _, _, _, _, _, _, z⟩ := hq
    exact z.elim
  | .ok (.ret z), hq =>
    obtain ⟨v, H', I', rv, hv, ex⟩ := I.after hq
    subst hv
    cases rv
    exact ⟨true, rfl, rfl, H', I', ex⟩
/-- l != m of equal lists -/
def rNeH (D : Eqv) : R2 := fun x y H Q => DList D x y H ∧ ∀ H', Ext H H' → Q (.bl false) H'
theorem op_neH (mD : Mon D) (h : EqH X k D) (hr : RoomG (k + 1) X.A) : OpR X (compareOp .NotEq) (rNeH D) := by
  intro pins s σ H x y v u Q I rx ry hq; obtain ⟨⟨a, b, xs, ys, rfl, rfl, ha, hb, p⟩, q⟩ := hq
  cases rx
  cases ry
  show wpAny (model X.prog X.w) X.A (richCompare .NotEq (.ref a) (.ref b)) (EP X pins σ Q) X.xe s
  exact rc_neH hr.r.units0 _ (listI_of mD h ⟨hr, rfl⟩ ha hb p) (fun s' ⟨H', I', e⟩ => ⟨.bl false, H', I', rfl, q H' e⟩) ⟨H, I, Ext.rfl'⟩
end
/-! ### in data -/
section
variable {Z : Zt} {ρ : Rho} {e a b : Expr} {pos : Pos} {d : D} {k j : Nat}
/-- two data are seen to be equal -/
def SeenD (T : Tab) (D : Eqv) (d : Q.D) : Prop := ∀ (G : Hp) (v v' : V), rep T G d v → rep T G d v' → D v v' G
theorem prs_of {T : Tab} {D : Eqv} {G : Hp} : ∀ {l : List Q.D} {vs ws : List V}, (∀ d ∈ l, SeenD T D d) → reps T G l vs → reps T G l ws → Prs D vs ws G
  | [], vs, ws, _, r, r' => by
    have e : vs = [] := r
    have e' : ws = [] := r'
    subst e; subst e'
    exact Prs.nil
  | d :: l, _, _, h, ⟨v, vs, e, r1, r2⟩, ⟨v', ws, e', r1', r2'⟩ => by
    subst e; subst e'
    exact Prs.cons (h d List.mem_cons_self G v v' r1 r1') (prs_of (fun d hd => h d (List.mem_cons_of_mem _ hd)) r2 r2')
theorem seen_lst {T : Tab} {D : Eqv} {l : List Q.D} (h : ∀ d ∈ l, SeenD T D d) : SeenD T (DList D) (.lst l) := fun G v v' r r' => by
  obtain ⟨a, vs, rfl, g, r1⟩ := r
  obtain ⟨b, ws, rfl, g', r2⟩ := r'
  exact ⟨a, b, vs, ws, rfl, rfl, g, g', prs_of h r1 r2⟩
theorem seen_mon {T : Tab} {D : Eqv} (mD : Mon D) {d : Q.D} (h : SeenD T D d) {B : Bm} {H : Hp} {v v' : V} (r : rep T (vis B H) d v) (r' : rep T (vis B H) d v') : D v v' H := mD _ _ _ _ (fun a o z => vis_some z) (h _ v v' r r')
/-- a != b is False, a and b alike -/
theorem tq_neH {D : Eqv} {l : List Q.D} (ok : Zok Z) (mD : Mon D) (hE : EqH Z.X k D) (hr : RoomG j Z.X.A) (hj : k + 1 ≤ j) (ha : EQ Z ρ a (.lst l)) (hb : EQ Z ρ b (.lst l)) (h : ∀ d ∈ l, SeenD Z.T D d) : TQ Z ρ (.Compare a [.NotEq] [b] pos) false :=
  et_cmp2 (op_neH mD hE (hr.mono hj)) (nomark _) (ha.to (EQ.to hb fun σ H v1 v2 Q S r1 r2 q => ⟨seen_mon (mon_list mD) (seen_lst h) r1 r2, fun H' e => q (.bl false) H' (.bl false) ρ.c (S.same e) (Same.vis_ e) rfl ⟨false, rfl, rfl, rfl⟩⟩))
end
end Q
end

section
set_option Elab.async false
set_option linter.all false
set_option maxRecDepth 100000
set_option maxHeartbeats 3900000
/-! P8: what is told is emptied. -/
namespace Q
open PySem L2
variable {Z : Zt} {ρ : Rho} {σ : St} {H H' : Hp} {O : Out} {e : Expr} {es : List Expr} {pos p ap cp ep : Pos} {k j : Nat} {f : Addr} {F : Fw} {x name : Str}
theorem slotsO {T : Tab} {B : Bm} {G : Hp} {i : Nat} : ∀ {s : List (Option D)} {σ σ' : St}, slots T B G s σ → (σ' = σ ∨ ∃ y, σ' = σ.set i y) → slots T B G (s.set i none) σ' := by
  induction i with
  | zero =>
    intro s σ σ' h o
    cases s with
    | nil =>
      have e : σ = [] := h
      subst e
      rcases o with o | ⟨y, o⟩ <;> subst o <;> simp [slots]
    | cons d s =>
      cases d with
      | none =>
        obtain ⟨v, r, rfl, hr⟩ := h
        rcases o with o | ⟨y, o⟩ <;> subst o
        · exact ⟨_, _, rfl, hr⟩
        · exact ⟨_, _, rfl, hr⟩
      | some d =>
        obtain ⟨v, r, rfl, _, hr⟩ := h
        rcases o with o | ⟨y, o⟩ <;> subst o
        · exact ⟨_, _, rfl, hr⟩
        · exact ⟨_, _, rfl, hr⟩
  | succ i ih =>
    intro s σ σ' h o
    cases s with
    | nil =>
      have e : σ = [] := h
      subst e
      rcases o with o | ⟨y, o⟩ <;> subst o <;> simp [slots]
    | cons d s =>
      cases d with
      | none =>
        obtain ⟨v, r, rfl, hr⟩ := h
        rcases o with o | ⟨y, o⟩ <;> subst o
        · exact ⟨_, _, rfl, ih hr (.inl rfl)⟩
        · exact ⟨_, _, rfl, ih hr (.inr ⟨y, rfl⟩)⟩
      | some d =>
        obtain ⟨v, r, rfl, hv, hr⟩ := h
        rcases o with o | ⟨y, o⟩ <;> subst o
        · exact ⟨_, _, rfl, hv, ih hr (.inl rfl)⟩
        · exact ⟨_, _, rfl, hv, ih hr (.inr ⟨y, rfl⟩)⟩
/-- an object that was not there at H is written -/
theorem okW.putN {B : Bm} {c : Nat} {q : Addr} {o : HO} (ok : okW B c H') (hb : B q = none) : okW B c (upd H' q o) := ⟨fun a z => by
  rw [upd_ne (fun y => by subst y; rw [hb] at z; cases z)]
  exact ok.box a z, fun a u z => by
  rw [upd_ne (fun y => by subst y; rw [hb] at z; cases z)]
  exact ok.fix a u z⟩
theorem same_putN {B : Bm} {q : Addr} {o : HO} (s : Same (vis B H) (vis B H')) (hq : H q = none) (hb : B q = none) : Same (vis B H) (vis B (upd H' q o)) := fun a u z => by
  rw [vis_upd hb, upd_ne (fun y => by subst y; rw [vis_free hq] at z; cases z)]
  exact s a u z
/-- f(..).clear() -/
theorem st_clearM (ok : Zok Z) (D : DfM Z.X.prog Z.X.w Z.T Z.X.mg Z.X.base name k f F) (hr : RoomG j Z.X.A) (hj : k ≤ j)
    (h : EA Z ρ (e :: es) fun ds c => F ds c (fun d c' => (∃ A bs l, d = .lsa A bs l) ∧ O.nx (ρ.wc c')) (fun er c' => Z.R er (ρ.wc c'))) (hg : Gl Z.X name := by rfl)
    (hdb : (name == ("__debug__" : Str)) = false := by decide) (he : starEach (e :: es) Z.X.env = (false, eval e Z.X.env) :: starEach es Z.X.env := by rfl) (hpl : (backTo pos (starEach es Z.X.env)).any (·.1) = false := by rfl)
    (hab : attributeBase (.Call (.Name name p) (e :: es) [] pos) "clear" Z.X.env (eval (.Call (.Name name p) (e :: es) [] pos) Z.X.env) = eval (.Call (.Name name p) (e :: es) [] pos) Z.X.env := by rfl) (hln : (ap.endLine == cp.line) = true := by rfl)
    (hs : swapsWith (.Call (.Attribute (.Call (.Name name p) (e :: es) [] pos) "clear" ap) [] [] cp) none ep.line Z.X.env = pure false := by rfl) :
    ST Z ρ (.Expr (.Call (.Attribute (.Call (.Name name p) (e :: es) [] pos) "clear" ap) [] [] cp) ep) O :=
  st_of (ps_expr (pe_bm0 PySem.F.plainAttrs_list PySem.F.slot_list_clear rfl mt_clear (pe_callW (sp := SpM Z.T F) (by rw [ok.K]; exact D.g) (hr.mono hj) ok.tk hg D.m (by rw [ok.K]; exact D.kp) hdb he hpl) hab hln) hs) fun En σ H S K => ea_any h S fun vs H1 ds c S1 e1 r h1 =>
    ⟨ρ.B, c, ds, _, _, S1.ok, r, h1, fun v H' d c' o s r' fr ⟨⟨A, bs, l, hd⟩, pd⟩ => by
      subst hd
      obtain ⟨rfl, g, _⟩ := r'
      have n1 : H1 A = none := fr A List.mem_cons_self
      have b1 : ρ.B A = none := S1.ok.fresh n1
      refine ⟨.inl ⟨rfl, _, .inl (.inl (vis_some g))⟩, A, _, rfl, rfl, vis_some g, K.nx _ _ _ (SR.from_ (ρ := ρ.wc c) S1 (o.putN b1) (fun _ _ z => z) (same_putN s n1 b1)) pd⟩,
    fun er cls dx H' c' o s r' pd => ⟨ρ.wc c', er, SR.call (ρ := ρ.wc c) S1 o s, r', pd⟩⟩
/-- for x in f(..): x.clear() -/
theorem st_forClear (i : Nat) {px px2 fp : Pos} (ok : Zok Z) (D : DfM Z.X.prog Z.X.w Z.T Z.X.mg Z.X.base name k f F) (hr : RoomG j Z.X.A) (hj : k ≤ j)
    (h : EA Z ρ (e :: es) fun ds c => F ds c (fun d c' => (∃ A bs l, d = .lsa A bs l ∧ ∀ y ∈ l, ∃ m, y = .lst m) ∧ O.nx ⟨ρ.B, ρ.s.set i none, c'⟩) (fun er c' => Z.R er (ρ.wc c'))) (hg : Gl Z.X name := by rfl)
    (hdb : (name == ("__debug__" : Str)) = false := by decide) (he : starEach (e :: es) Z.X.env = (false, eval e Z.X.env) :: starEach es Z.X.env := by rfl) (hpl : (backTo pos (starEach es Z.X.env)).any (·.1) = false := by rfl)
    (hN : Z.X.N[i]? = some x := by rfl) (hv : Vis Z.X.env.scope x := by first | exact Or.inl rfl | exact Or.inr (Or.inl rfl) | exact Or.inr (Or.inr rfl)) (hx : Loc Z.X.env.scope x := by first | exact Or.inl rfl | exact Or.inr rfl)
    (hf : Z.X.fn x = true ∨ Z.X.env.scope.names.lookup x = some .local := by first | exact .inl rfl | exact .inr rfl) (hd : (x == ("__debug__" : Str)) = false := by decide) (hcd : (x == ("__classdict__" : Str)) = false := by decide) (hc : Z.X.calm = true := by rfl)
    (hab : attributeBase (.Name x px2) "clear" Z.X.env (eval (.Name x px2) Z.X.env) = eval (.Name x px2) Z.X.env := by rfl) (hln : (ap.endLine == cp.line) = true := by rfl)
    (hs : swapsWith (.Call (.Attribute (.Name x px2) "clear" ap) [] [] cp) none ep.line Z.X.env = pure false := by rfl) (hfs : ∀ y, foldedSetIterable (.Call (.Name name p) (e :: es) [] pos) Z.X.env y = pure y := by intro _; rfl) (il : i < ρ.s.length := by exact Nat.le_of_ble_eq_true rfl) :
    ST Z ρ (.For (.Name x px) (.Call (.Name name p) (e :: es) [] pos) [.Expr (.Call (.Attribute (.Name x px2) "clear" ap) [] [] cp) ep] [] fp) O :=
  st_of (ps_for ok.po hc (pi_list (pe_callW (sp := SpM Z.T F) (by rw [ok.K]; exact D.g) (hr.mono hj) ok.tk hg D.m (by rw [ok.K]; exact D.kp) hdb he hpl)) (pg_name ok.nd hN hx hf) (pss_one (ps_expr (pe_bm0 PySem.F.plainAttrs_list PySem.F.slot_list_clear rfl mt_clear (pe_var hN hv hd hcd) hab hln) hs)) (hs := hfs)) fun En σ H S K => ea_any h S fun vs H1 ds c S1 e1 r h1 =>
    ⟨ρ.B, c, ds, _, _, S1.ok, r, h1, fun v H' d c' o s r' fr ⟨⟨A, bs, l, hd, hl⟩, pd⟩ => by
      subst hd
      obtain ⟨rfl, g, nd, rr⟩ := r'
      have n1 : ∀ q ∈ A :: bs, H1 q = none := fr
      have b1 : ∀ q ∈ A :: bs, ρ.B q = none := fun q hq => S1.ok.fresh (n1 q hq)
      refine ⟨A, rfl, ⟨bs.map V.ref, .inl (.inl (vis_some g))⟩, ?_⟩
      let Inv := fun (t n : Nat) (σ' : St) (G : Hp) => t + n = bs.length ∧ (σ' = σ ∨ ∃ y, σ' = σ.set i y) ∧ okW ρ.B c' G ∧ Same (vis ρ.B H1) (vis ρ.B G) ∧ G A = some (.lst (bs.map V.ref)) ∧ ∀ b ∈ bs, ∃ ws, G b = some (.lst ws)
      have done : ∀ {n σ' G}, Inv bs.length n σ' G → En.nx σ' G := fun {n σ' G} ⟨_, q1, q2, q3, _⟩ => by
        have S2 := SR.from_ (ρ := ρ.wc c) S1 q2 (fun _ _ z => z) q3
        exact K.nx _ _ ⟨ρ.B, ρ.s.set i none, c'⟩ ⟨S2.ok, S2.le, S2.ex, slotsO S2.sl q1, S2.gh⟩ pd
      refine ⟨Inv, ⟨bs.length, Nat.zero_add _, .inl rfl, o, s, vis_some g, fun b hb => ?_⟩, fun t n σ' G I => ?_⟩
      · obtain ⟨ws, hws⟩ := reps_ref rr hl b hb
        exact ⟨ws, vis_some hws⟩
      obtain ⟨q0, q1, q2, q3, q4, q5⟩ := I
      cases n with
      | zero =>
        have et : t = bs.length := by omega
        subst et
        exact .inl ⟨⟨_, .inl (.inl q4), by rw [List.length_map]; omega⟩, done ⟨q0, q1, q2, q3, q4, q5⟩⟩
      | succ n =>
        have tl : t < bs.length := by omega
        have ht : (bs.map V.ref)[t]? = some (.ref bs[t]) := by rw [List.getElem?_map, List.getElem?_eq_getElem tl]; rfl
        refine .inr ⟨⟨_, _, .inl (.inl q4), ht⟩, Inv (t + 1) n, fun σ2 G2 I2 => ⟨n, by omega, I2⟩, fun x2 G2 hy => ?_⟩
        obtain ⟨rfl, fv⟩ := hy
        have ex : x2 = .ref bs[t] := Option.some.inj ((fv _ (.inl (.inl q4))).symm.trans ht)
        subst ex
        obtain ⟨ws, hb⟩ := q5 _ (List.getElem_mem tl)
        have mb : bs[t] ∈ A :: bs := List.mem_cons_of_mem _ (List.getElem_mem tl)
        have nA : A ≠ bs[t] := fun z => (List.nodup_cons.mp nd).1 (by rw [z]; exact List.getElem_mem tl)
        have hset : (σ'.set i (some (.ref bs[t])))[i]? = some (some (.ref bs[t])) := by
          have il : i < σ'.length := by
            have hl1 : σ.length = ρ.s.length := S1.sl.len
            rcases q1 with q1 | ⟨y, q1⟩ <;> subst q1
            · omega
            · rw [List.length_set]; omega
          rw [List.getElem?_set_self il]
        refine ⟨_, hset, .inl ⟨rfl, ws, .inl (.inl hb)⟩, _, ws, rfl, rfl, hb, ?_⟩
        refine ⟨by omega, .inr ⟨some (.ref bs[t]), ?_⟩, q2.putN (b1 _ mb), same_putN q3 (n1 _ mb) (b1 _ mb), by rw [upd_ne nA]; exact q4, fun b hb' => ?_⟩
        · rcases q1 with q1 | ⟨y, q1⟩ <;> subst q1
          · rfl
          · rw [List.set_set]
        · by_cases z : b = bs[t]
          · subst z
            exact ⟨[], upd_same⟩
          · rw [upd_ne z]
            exact q5 b hb',
    fun er cls dx H' c' o s r' pd => ⟨ρ.wc c', er, SR.call (ρ := ρ.wc c) S1 o s, r', pd⟩⟩
end Q
end

section
set_option Elab.async false
set_option linter.all false
set_option maxRecDepth 100000
set_option maxHeartbeats 3900000
set_option exponentiation.threshold 20000
/-! L5b: solved, inverse, what is refused. -/
namespace Q
open PySem L2
theorem ssm_retM {Z : Zt} {ρ : Rho} {rt : D → Nat → Prop} {k j : Nat} {f : Addr} {F : Fw} {name : Str} {e : Expr} {es : List Expr} {p pos rp : Pos} (ok : Zok Z) (D : DfM Z.X.prog Z.X.w Z.T Z.X.mg Z.X.base name k f F) (hr : RoomG j Z.X.A) (hj : k ≤ j)
    (h : EA Z ρ (e :: es) fun ds c => F ds c (fun d c' => plain d = true ∧ rt d c') (fun er c' => Z.R er (ρ.wc c'))) (hg : Gl Z.X name := by rfl)
    (hdb : (name == ("__debug__" : Str)) = false := by decide) (he : starEach (e :: es) Z.X.env = (false, eval e Z.X.env) :: starEach es Z.X.env := by rfl) (hpl : (backTo pos (starEach es Z.X.env)).any (·.1) = false := by rfl) :
    SSM Z ρ [.Return (some (.Call (.Name name p) (e :: es) [] pos)) rp] rt :=
  ssm_ret fun σ H Q S k => ⟨_, pe_callW (sp := SpM Z.T F) (by rw [ok.K]; exact D.g) (hr.mono hj) ok.tk hg D.m (by rw [ok.K]; exact D.kp) hdb he hpl, ea_any h S fun vs H1 ds c S1 e1 r h1 =>
    ⟨ρ.B, c, ds, _, _, S1.ok, r, h1, fun v H' d c' o s r' fr ⟨pl, pd⟩ => k v H' d c' o (fun _ _ z => s _ _ (e1 _ _ z)) (val_rep r' pl) (fun q hq => none_before (ρ := ρ) S1 rfl e1 (fr q hq)) pd,
      fun er cls dx H' c' o s r' pd => ⟨ρ.wc c', er, SR.call (ρ := ρ.wc c) S1 o s, r', pd⟩⟩⟩
variable {P : Program} {w : World} {T : Tab} {mg : Str → Option Value} {base : Heap} {f fA fI CZ CB CS : Addr} {fd : FuncData}
theorem num_plain {d : D} {q : Rat} (h : numD d = some q) : plain d = true := by cases d <;> first | rfl | cases h
theorem sol_at0 {r : List Int} {n : Nat} {p : Int} (h : r.length = n + 1) : ixD (solD n p r) 0 = some (.rat (fr (itemI r n) p)) := by
  unfold solD itemI
  have e : r.drop n = [r[n]] := by
    rw [List.drop_eq_getElem_cons (by omega), List.drop_of_length_le (by omega)]
  rw [e, List.getElem?_eq_getElem (by omega : n < r.length)]; rfl
def F_solved (CS : Addr) : Fw := fun ds c P R => ∃ (d : D) (Rr : List (List D)) (bb : List D) (n : Nat), ds = [d, .lst bb] ∧ (d = .lst (Rr.map .lst) ∨ d = .tup (Rr.map .lst)) ∧ (∀ x ∈ bb, ∃ q, numD x = some q) ∧ ElimOk Rr (bb.map fun x => [x]) n (n + 1) ∧
  (∀ (t : List (List Int)) (p : Int), t.length = n → (∀ r ∈ t, r.length = n + 1) → Det.Run (tabI (tab0 Rr (bb.map fun x => [x]))) n (n + 1) n p (tabI t) → P (.lst (t.map fun r => .rat (fr (itemI r n) p))) c) ∧ (Det.Dt (Det.gk (tabI (tab0 Rr (bb.map fun x => [x]))) n) = 0 → R (CS, none) c)
theorem ok_solved {fE : Addr} (U : Fun T.K "solved" "solved" s_solved f fd) (DE : DfM P w T mg base "_eliminated" 5 fE (F_elim CS)) : FnGk P w T.K mg base (L2.CX P w) 6 f fd ["rows", "right"] (SpW T (F_solved CS)) := by
  refine Fun.doesG U sc_solved (fun ds c P R h => ?_) (fun Z c ds cdv A outer s H E B R rt hZ ok hr h => ?_)
  · obtain ⟨d, Rr, bb, n, rfl, _⟩ := h
    rfl
  · obtain ⟨d, Rr, bb, n, rfl, hd, hnum, EO, hP, hR⟩ := h
    have nown : isOwn d = false := by rcases hd with e | e <;> subst e <;> rfl
    subst hZ
    have lb : bb.length = n := by have := EO.sl; rw [List.length_map] at this; exact this
    have n4 := EO.n4
    have e1 : bb.map (fun x => D.lst [x]) = (bb.map fun x => [x]).map D.lst := by rw [List.map_map]; rfl
    refine ss_one (st_ret (ev_lc 3 ok (blkOk_by (N := ["rows", "right", "number", "row"]) (sc := defScope s_solved) (by decide +kernel)) (h := ev_df DE.lst ok hr (by decide) (AQ.to (aq_cons (eq_var 0 rfl nown) (aq_cons (eq_lcM 2 (g := fun x => .lst [x]) ok (blkOk_by (N := ["rows", "right", "number", "row"]) (sc := defScope s_solved) (by decide +kernel)) rfl (eq_var 1 rfl) (by omega) (fun x hx => ?_)) aq_nil)) ?_))))
    · obtain ⟨q, hq⟩ := hnum x hx
      refine ⟨rfl, fun B2 s1 H1 C cl fp ok2 => ?_⟩
      exact eq_lst (aq_cons (eq_var 2 rfl (n := num_own hq)) aq_nil) (by rw [List.all_cons, num_plain hq]; rfl)
    · refine ⟨d, Rr, bb.map fun x => [x], n, n + 1, by rw [e1], hd, EO, fun t p DA bs hl hw I => ⟨_, _, _, rfl, _, rfl, ?_⟩, fun z => hR z⟩
      let g : D → D := fun y => (ixD y 0).getD .non
      have ge : (t.map (solD n p)).map g = t.map fun r => .rat (fr (itemI r n) p) := by
        rw [List.map_map]
        refine List.map_congr_left fun r hr => ?_
        show (ixD (solD n p r) 0).getD .non = _
        rw [sol_at0 (hw r hr)]; rfl
      refine lcs_map (g := g) _ [] _ (by rw [List.length_nil, List.length_map, hl]; omega) (fun y hy => ?_) ?_
      · obtain ⟨r, hr1, rfl⟩ := List.mem_map.mp hy
        have eg : g (solD n p r) = .rat (fr (itemI r n) p) := by
          show (ixD (solD n p r) 0).getD .non = _
          rw [sol_at0 (hw r hr1)]; rfl
        rw [eg]
        refine ⟨rfl, fun B2 s1 H1 C cl fp ok2 => ?_⟩
        exact eq_ix rfl (eq_var 3 rfl) eq_int (sol_at0 (hw r hr1))
      · rw [List.nil_append, ge]
        exact ⟨rfl, hP t p hl hw I⟩
def unitS (n : Nat) : List (List D) := (List.range n).map fun i => (unitR n i).map .int
def F_inverse (CS : Addr) : Fw := fun ds c P R => ∃ (Rr : List (List D)) (n m : Nat), ds = [.lst (Rr.map .lst)] ∧ ElimOk Rr (unitS n) n m ∧
  (∀ (t : List (List Int)) (p : Int) (D : Addr) (bs : List Addr), t.length = n → (∀ r ∈ t, r.length = m) → Det.Run (tabI (tab0 Rr (unitS n))) n m n p (tabI t) → P (.lsa D bs (t.map (solD n p))) c) ∧ (Det.Dt (Det.gk (tabI (tab0 Rr (unitS n))) n) = 0 → R (CS, none) c)
theorem ok_inverse {fE fU : Addr} (U : Fun T.K "inverse" "inverse" s_inverse f fd) (ml : mg "len" = none) (DE : DfM P w T mg base "_eliminated" 5 fE (F_elim CS)) (DU : Df P w T mg base "_unit_rows" 1 fU F_unit) : FnGk P w T.K mg base (L2.CX P w) 6 f fd ["rows"] (SpM T (F_inverse CS)) := by
  refine Fun.doesM U sc_inverse (fun ds c P R h => ?_) (fun Z c ds cdv A outer s H E B R rt hZ ok hr h => ?_)
  · obtain ⟨Rr, n, m, rfl, _⟩ := h
    rfl
  · obtain ⟨Rr, n, m, rfl, EO, hP, hR⟩ := h
    subst hZ
    have n4 := EO.n4
    have e1 : (List.range n).map (fun i => rowI (unitR n i)) = (unitS n).map D.lst := by unfold unitS; rw [List.map_map]; rfl
    refine ssm_retM ok DE hr (by decide) (AQ.to (aq_cons (eq_var 0 rfl) (aq_cons (eq_df (d := .lst ((List.range n).map fun i => rowI (unitR n i))) DU ok hr (by decide) (aq_cons (show EQ _ _ _ (.int (n : Nat)) from ev_len rfl rfl ml (AQ.to (aq_cons (eq_var 0 rfl) aq_nil) ⟨_, n, rfl, by show some (Rr.map D.lst).length = _; rw [List.length_map, EO.rl], rfl, rfl⟩)) aq_nil) ⟨n, rfl, by omega, rfl, rfl⟩) aq_nil))
      ⟨_, Rr, unitS n, n, m, by rw [e1], .inl rfl, EO, fun t p D bs hl hw I => ⟨rfl, hP t p D bs hl hw I⟩, fun z => hR z⟩)
def F_lrefused : Fw := fun ds c P R => ∃ (Rr : List (List D)) (bb : List D) (n m : Nat), ds = [.lst (Rr.map .lst), .lst bb] ∧ (∀ x ∈ bb, ∃ q, numD x = some q) ∧ ElimOk Rr (bb.map fun x => [x]) n (n + 1) ∧ ElimOk Rr (unitS n) n m ∧ Det.ldet n (Lr Rr) = 0 ∧ P (.lst [.str "solved", .str "inverse"]) c
theorem one3 {s : List (Option D)} {o : Addr} {l : List D} {x y : D} (h1 : isOwn x = false) (h2 : isOwn y = false) (hs : s = [some x, some y, some (.own o l)]) : ∀ j l', s[j]? = some (some (.own o l')) → j = 2 := fun j l' hj => by
  subst hs
  refine one_all (i := 2) (o := o) ?_ j l' hj
  show ((!isOwn x) && ((!isOwn y) && (true && true))) = true
  rw [h1, h2]; rfl
theorem ok_law_refused5 {fS fV : Addr} (U : Fun T.K "_law_refused" "_law_refused" s_law_refused f fd) (DS : Df P w T mg base "solved" 6 fS (F_solved CS)) (DV : DfM P w T mg base "inverse" 6 fV (F_inverse CS)) (mS : mg "BadSystem" = some (.ref CS))
    (ex : PySem.W.exmOne T.K (.ref CS) (.ref CS) = some true) : FnGk P w T.K mg base (L2.CX P w) 7 f fd ["_law_lines", "_law_right_told"] (SpW T F_lrefused) := by
  refine Fun.doesG U sc_law_refused (fun ds c P R h => ?_) (fun Z c ds cdv A outer s H E B R rt hZ ok hr h => ?_)
  · obtain ⟨Rr, bb, n, m, rfl, _⟩ := h
    rfl
  · obtain ⟨Rr, bb, n, m, rfl, hnum, EO, EV, nz, h⟩ := h
    subst hZ
    refine ss_cons (st_own (i := 2) ok (ea_nil ⟨rfl, by decide, fun B1 o n0 _ => ?_⟩))
    dsimp only [Rho.wc, Rho.set]
    refine ss_cons (st_try ok (c := .ref CS) ⟨rfl, by decide, .inl mS⟩ (fun pn xe ok1 => ?_))
    refine ss_one (st_expr (ev_df DS ok1 hr (by decide) (AQ.to (aq_cons (eq_var 0 rfl) (aq_cons (eq_var 1 rfl) aq_nil)) ⟨_, Rr, bb, n, rfl, .inl rfl, hnum, EO, fun t p hl hw I => ?_, fun z => ?_⟩)))
    · exact ((I.done.2.1) (EO.det.mpr nz)).elim
    refine ⟨true, ex, fun _ a oe pn ok2 => ?_, fun z => by cases z⟩
    dsimp only [Rho.wc, Rho.set]
    refine ss_one (st_append 2 ok2 rfl n0 (one3 rfl rfl rfl) (ea_cons (ev_str (ea_nil ⟨_, rfl, rfl, by show 0 < 100000; decide, fun B2 => ?_⟩))) (pm := fun ha hb => ps_expr (pe_bm PySem.F.plainAttrs_list PySem.F.slot_list_append PySem.F.type_list_append mt_append ha hb)))
    dsimp only [Rho.wc, Rho.set]
    refine ss_cons (st_try ok (c := .ref CS) ⟨rfl, by decide, .inl mS⟩ (fun pn xe ok1 => ?_))
    refine ss_one (st_expr (ev_df DV.lst ok1 hr (by decide) (AQ.to (aq_cons (eq_var 0 rfl) aq_nil) ⟨Rr, n, m, rfl, EV, fun t p D bs hl hw I => ?_, fun z => ?_⟩)))
    · exact ((I.done.2.1) (EV.det.mpr nz)).elim
    refine ⟨true, ex, fun _ a oe pn ok2 => ?_, fun z => by cases z⟩
    dsimp only [Rho.wc, Rho.set]
    refine ss_one (st_append 2 ok2 rfl n0 (one3 rfl rfl rfl) (ea_cons (ev_str (ea_nil ⟨_, rfl, rfl, by show 1 < 100000; decide, fun B3 => ?_⟩))) (pm := fun ha hb => ps_expr (pe_bm PySem.F.plainAttrs_list PySem.F.slot_list_append PySem.F.type_list_append mt_append ha hb)))
    dsimp only [Rho.wc, Rho.set]
    refine ss_free 2 n0 rfl (one3 rfl rfl rfl) (fun B4 => ?_)
    dsimp only [Rho.own, List.set]
    exact ss_one (st_ret (ev_var 2 rfl ⟨rfl, h⟩))
end Q
end

section
set_option Elab.async false
set_option linter.all false
set_option maxRecDepth 100000
set_option maxHeartbeats 3900000
set_option exponentiation.threshold 20000
/-! L5d: a system of the law, its solutions. -/
namespace Q
open PySem L2
def aF (i : Nat) : Nat := if i = 0 then 96 else 6
def handR (l : List (List Rat)) : List (List D) := l.map fun r => r.map hdN
theorem handR_lst (l : List (List Rat)) : (handR l).map D.lst = l.map handD := by unfold handR; rw [List.map_map]; rfl
theorem map_nv (r : List Rat) : (r.map hdN).map nv = r := by
  rw [List.map_map]
  refine Eq.trans ?_ (List.map_id r)
  exact List.map_congr_left fun q _ => nv_hd q
theorem Lr_hand (l : List (List Rat)) : Lr (handR l) = l := by
  unfold Lr handR
  rw [List.map_map]
  refine Eq.trans ?_ (List.map_id l)
  exact List.map_congr_left fun r _ => map_nv r
theorem rowsOk_at {n : Nat} {l : List (List Rat)} (h : RowsOk n l) : ∀ i (hi : i < l.length), ∀ q ∈ l[i], Sz (aF i) q := fun i hi q hq => by
  obtain ⟨_, _, h1, h2⟩ := h
  cases i with
  | zero => exact h1 l[0] (by rw [List.head?_eq_getElem?, List.getElem?_eq_getElem hi]; rfl) q hq
  | succ i => exact h2 l[i + 1] (by rw [← List.getElem_tail (by rw [List.length_tail]; omega)]; exact List.getElem_mem _) q hq
theorem aF_le (i : Nat) : aF i ≤ 96 := by unfold aF; split <;> decide
theorem rowsOk_sz {n : Nat} {l : List (List Rat)} (h : RowsOk n l) : ∀ r ∈ l, ∀ q ∈ r, Sz 96 q := fun r hr q hq => by
  obtain ⟨i, hi, rfl⟩ := List.getElem_of_mem hr
  exact (rowsOk_at h i hi q hq).mono (aF_le i)
theorem hand_at {l : List (List Rat)} : ∀ i (hi : i < (handR l).length), ∃ hi' : i < l.length, (handR l)[i] = (l[i]).map hdN := fun i hi => by
  unfold handR at hi ⊢
  rw [List.length_map] at hi
  exact ⟨hi, List.getElem_map ..⟩
theorem sz_dotA {x y : List Rat} {j k : Nat} (hl : x.length = y.length) (hx : ∀ q ∈ x, Sz j q) (hy : ∀ q ∈ y, Sz k q) : ∀ t, t ≤ x.length → Sz ((j + k + 1) * t + 1) (dotA x y t)
  | 0, _ => Sz.zero
  | t + 1, h => by
    have ih := sz_dotA hl hx hy t (by omega)
    have sx := hx _ (at_mem (show t < x.length by omega))
    have sy := hy _ (at_mem (show t < y.length by omega))
    exact (ih.add (sx.mul sy)).mono (by rw [Nat.mul_add, Nat.mul_one]; omega)
theorem sz_dot {x y : List Rat} {j k n : Nat} (hx : x.length = n) (hy : y.length = n) (n4 : n ≤ 4) (h1 : ∀ q ∈ x, Sz j q) (h2 : ∀ q ∈ y, Sz k q) : Sz ((j + k + 1) * 4 + 1) (dot x y) := by
  rw [← dotA_dot (by omega)]
  refine (sz_dotA (by omega) h1 h2 x.length (Nat.le_refl _)).mono ?_
  have : (j + k + 1) * x.length ≤ (j + k + 1) * 4 := Nat.mul_le_mul_left _ (by omega)
  omega
section
variable {n : Nat} {l : List (List Rat)} {b : List Rat}
/-- right sides -/
theorem sizes_b (h : RowsOk n l) (n4 : n ≤ 4) (hb : b.length = n) {bF : Nat → Nat} (sb : ∀ i (hi : i < b.length), Sz (bF i) b[i]) (le : ∀ i, i < 4 → aF i + bF i ≤ 880) (tot : 5 * (aF 0 + bF 0 + (aF 1 + bF 1 + (aF 2 + bF 2 + (aF 3 + bF 3)))) + 5 ≤ 8400) :
    Sizes (handR l) ((b.map hdN).map fun x => [x]) n 1 aF bF where
  n4 := n4
  m4 := by decide
  rl := by unfold handR; rw [List.length_map]; exact h.1
  sl := by rw [List.length_map, List.length_map]; exact hb
  rw := fun r hr => by
    unfold handR at hr
    obtain ⟨r0, h0, rfl⟩ := List.mem_map.mp hr
    rw [List.length_map]; exact h.2.1 r0 h0
  sw := fun r hr => by obtain ⟨x, _, rfl⟩ := List.mem_map.mp hr; rfl
  rn := fun i hi d hd => by
    obtain ⟨hi', e⟩ := hand_at i hi
    rw [e] at hd
    obtain ⟨q, hq, rfl⟩ := List.mem_map.mp hd; exact ⟨q, hdN_num q, rowsOk_at h i hi' q hq⟩
  sn := fun i hi d hd => by
    rw [List.length_map, List.length_map] at hi
    rw [List.getElem_map, List.getElem_map, List.mem_singleton] at hd
    rw [hd]
    exact ⟨_, hdN_num _, sb i hi⟩
  le := le
  tot := tot
theorem sizes_u (h : RowsOk n l) (n4 : n ≤ 4) : Sizes (handR l) (unitS n) n n aF (fun _ => 1) where
  n4 := n4
  m4 := n4
  rl := by unfold handR; rw [List.length_map]; exact h.1
  sl := by unfold unitS; rw [List.length_map, List.length_range]
  rw := fun r hr => by
    unfold handR at hr
    obtain ⟨r0, h0, rfl⟩ := List.mem_map.mp hr
    rw [List.length_map]; exact h.2.1 r0 h0
  sw := fun r hr => by
    unfold unitS at hr
    obtain ⟨i, _, rfl⟩ := List.mem_map.mp hr
    unfold unitR
    rw [List.length_map, List.length_map, List.length_range]
  rn := fun i hi d hd => by
    obtain ⟨hi', e⟩ := hand_at i hi
    rw [e] at hd
    obtain ⟨q, hq, rfl⟩ := List.mem_map.mp hd; exact ⟨q, hdN_num q, rowsOk_at h i hi' q hq⟩
  sn := fun i hi d hd => by
    unfold unitS at hd hi
    rw [List.getElem_map] at hd
    obtain ⟨z, hz, rfl⟩ := List.mem_map.mp hd
    unfold unitR at hz
    obtain ⟨j, _, rfl⟩ := List.mem_map.mp hz
    refine ⟨_, rfl, Sz.int ?_ (by decide)⟩
    split <;> decide
  le := fun i _ => by have := aF_le i; omega
  tot := by decide
theorem right_at {i : Nat} (hi : i < b.length) : Det.at2 (Lr ((b.map hdN).map fun x => [x])) i 0 = b[i] := by
  rw [at2_Lr (by rw [List.length_map, List.length_map]; exact hi) (by rw [List.getElem_map]; exact Nat.one_pos)]
  simp only [List.getElem_map, List.getElem_cons_zero]
  exact nv_hd _
theorem unit_at {i c : Nat} (hi : i < n) (hc : c < n) : Det.at2 (Lr (unitS n)) i c = if i = c then 1 else 0 := by
  rw [at2_Lr (by unfold unitS; rw [List.length_map, List.length_range]; exact hi) (by unfold unitS unitR; simp; exact hc)]
  simp only [unitS, unitR, List.getElem_map, List.getElem_range]
  split <;> rfl
theorem row_is {i : Nat} (hi : i < l.length) : (Lr (handR l))[i]?.getD [] = l[i] := by rw [Lr_hand]; exact getD_at hi
/-- the column that solves -/
theorem col_solves (h : RowsOk n l) (hb : b.length = n) (E : ElimOk (handR l) ((b.map hdN).map fun x => [x]) n (n + 1)) {t : List (List Int)} {p : Int} (ht : t.length = n) (I : Det.Run (tabI (tab0 (handR l) ((b.map hdN).map fun x => [x]))) n (n + 1) n p (tabI t)) :
    l.map (fun r => dot r (colX t n 0 p)) = b := by
  refine List.ext_getElem (by rw [List.length_map, h.1, hb]) fun i h1 h2 => ?_
  rw [List.length_map] at h1
  rw [List.getElem_map]
  have := sol_dot E ht I (c := 0) (by omega) (i := i) (by rw [← h.1]; exact h1)
  rw [row_is h1, right_at h2] at this
  exact this
theorem dots_eq {x y : List Rat} (e : l.map (fun r => dot r x) = l.map (fun r => dot r y)) {i : Nat} (hi : i < l.length) : dot l[i] x = dot l[i] y := by
  have := congrArg (fun z => z[i]?) e
  simpa [List.getElem?_eq_getElem hi] using this
theorem only_one {S : List (List D)} {m : Nat} (h : RowsOk n l) (E : ElimOk (handR l) S n m) (nz : Det.ldet n l ≠ 0) {x y : List Rat} (hx : x.length = n) (hy : y.length = n) (e : l.map (fun r => dot r x) = l.map (fun r => dot r y)) : x = y :=
  uniq E (by rw [Lr_hand]; exact nz) hx hy fun i hi => by
    have hi' : i < l.length := by rw [h.1]; exact hi
    rw [row_is hi']
    exact dots_eq e hi'
/-- a row of the inverse -/
def invR (n : Nat) (p : Int) (r : List Int) : List Rat := (r.drop n).map fun i => fr i p
theorem invR_len {p : Int} {r : List Int} (hr : r.length = n + n) : (invR n p r).length = n := by unfold invR; rw [List.length_map, List.length_drop]; omega
theorem invR_at {p : Int} {r : List Int} {c : Nat} (hr : r.length = n + n) (hc : c < n) : (invR n p r)[c]?.getD 0 = fr (itemI r (n + c)) p := by
  unfold invR itemI
  rw [List.getElem?_map, List.getElem?_drop, List.getElem?_eq_getElem (by omega)]; rfl
theorem inv_solves (h : RowsOk n l) (n4 : n ≤ 4) (E : ElimOk (handR l) (unitS n) n (n + n)) {t : List (List Int)} {p : Int} (ht : t.length = n) (hw : ∀ r ∈ t, r.length = n + n) (I : Det.Run (tabI (tab0 (handR l) (unitS n))) n (n + n) n p (tabI t)) {o : List Rat} (ho : o.length = n) :
    l.map (fun r => dot r (t.map fun r => dot (invR n p r) o)) = o := by
  refine List.ext_getElem (by rw [List.length_map, h.1, ho]) fun i h1 h2 => ?_
  rw [List.length_map] at h1
  rw [List.getElem_map]
  have hi : i < n := by rw [← h.1]; exact h1
  have li : (l[i]).length = n := h.2.1 _ (List.getElem_mem h1)
  let L : Nat → Rat := fun s => if s < n then l[i][s]?.getD 0 else 0
  let O : Nat → Rat := fun c => if c < n then o[c]?.getD 0 else 0
  let V : Nat → Nat → Rat := fun s c => (colX t n c p)[s]?.getD 0
  have hV : ∀ c, c < n → Det.s4 (fun s => V s c * L s) = if i = c then 1 else 0 := fun c hc => by
    have := sol_dot E ht I (c := c) (by omega) hi
    rw [row_is h1, unit_at hi hc, dot_s4 n4 li (by unfold colX; rw [List.length_map]; exact ht)] at this
    rw [← this]
    congr 1
    funext s
    show V s c * (if s < n then l[i][s]?.getD 0 else 0) = if s < n then _ else 0
    split
    · rfl
    · grind
  have hz : ∀ s, s < n → (t.map fun r => dot (invR n p r) o)[s]?.getD 0 = Det.s4 (fun c => O c * V s c) := fun s hs => by
    have st : s < t.length := by omega
    rw [List.getElem?_map, List.getElem?_eq_getElem st]
    show dot (invR n p t[s]) o = _
    rw [dot_s4 n4 (invR_len (hw _ (List.getElem_mem st))) ho]
    congr 1
    funext c
    show _ = (if c < n then o[c]?.getD 0 else 0) * V s c
    by_cases hc : c < n
    · rw [if_pos hc, if_pos hc, invR_at (hw _ (List.getElem_mem st)) hc]
      show _ = _ * (colX t n c p)[s]?.getD 0
      unfold colX
      rw [List.getElem?_map, List.getElem?_eq_getElem st]; rfl
    · rw [if_neg hc, if_neg hc]; grind
  rw [dot_s4 n4 li (by rw [List.length_map]; exact ht)]
  have e1 : (fun s => if s < n then (t.map fun r => dot (invR n p r) o)[s]?.getD 0 * l[i][s]?.getD 0 else 0) = fun s => Det.s4 (fun c => O c * V s c) * L s := by
    funext s
    show _ = _ * (if s < n then l[i][s]?.getD 0 else 0)
    by_cases hs : s < n
    · rw [if_pos hs, if_pos hs, hz s hs]
    · rw [if_neg hs, if_neg hs]; grind
  rw [e1]
  have e2 : Det.s4 (fun s => Det.s4 (fun c => O c * V s c) * L s) = Det.s4 (fun c => O c * Det.s4 (fun s => V s c * L s)) := by simp only [Det.s4]; grind
  rw [e2]
  have e3 : ∀ c, O c * Det.s4 (fun s => V s c * L s) = O c * (if i = c then 1 else 0) := fun c => by
    by_cases hc : c < n
    · rw [hV c hc]
    · have : O c = 0 := if_neg hc
      rw [this]; grind
  rw [show (fun c => O c * Det.s4 (fun s => V s c * L s)) = fun c => O c * (if i = c then 1 else 0) from funext e3]
  simp only [Det.s4]
  have oi : O i = o[i] := by
    show (if i < n then o[i]?.getD 0 else 0) = _
    rw [if_pos hi, List.getElem?_eq_getElem h2]; rfl
  rw [← oi]
  have i4 : i = 0 ∨ i = 1 ∨ i = 2 ∨ i = 3 := by omega
  clear_value O V L
  clear oi e1 e2 e3 hz hV li
  rcases i4 with rfl | rfl | rfl | rfl
  · grind
  · grind
  · grind
  · grind
end
end Q
end

section
set_option Elab.async false
set_option linter.all false
set_option maxRecDepth 100000
set_option maxHeartbeats 3900000
set_option exponentiation.threshold 20000
/-! L5c: the law. -/
namespace Q
open PySem L2
section
variable {Z : Zt} {ρ : Rho} {σ : St} {H H' : Hp} {O : Out} {a b elt : Expr} {pos p px py pz spos : Pos} {x y : Str} {scope : Scope} {d : D}
/-- y = [.. for x in range(a)], on one line -/
theorem st_setLcR {m : Nat} (i : Nat) (ok : Zok Z) (hb : BlkOk Z.X.N Z.X.env.scope scope [(x, i)]) (hm : Z.X.mg "range" = none)
    (h : EA Z ρ [a] fun ds c => ∃ n : Nat, ds = [.int (n : Nat)] ∧ n ≤ 100000 ∧ lcs Z scope ρ.s i [] elt (fun d c => O.nx ((ρ.wc c).set m d)) (rngD n) [] c) (gl : Gl Z.X "range" := by rfl) (hi : Z.X.N[i]? = some x := by rfl) (hx : scope.names.lookup x = some .local := by rfl) (hm2 : Z.X.N[m]? = some y := by rfl) (hy : Z.X.env.scope.names.lookup y = some .local ∨ Z.X.env.scope.names.lookup y = some .cell := by first | exact .inl rfl | exact .inr rfl)
    (hst : starEach [a] Z.X.env = [(false, eval a Z.X.env)] := by rfl) (hc : Z.X.calm = true := by rfl) (hs : ∀ v, foldedSetIterable (.Call (.Name "range" p) [a] [] pz) Z.X.env v = pure v := by intro _; rfl)
    (hf : Z.X.fn y = true ∨ Z.X.env.scope.names.lookup y = some .local := by first | exact .inl rfl | exact .inr rfl)
    (hsw : swapsWith (.ListComp elt [⟨.Name x px, .Call (.Name "range" p) [a] [] pz, [], 0⟩] scope pos) (some (.Name y py)) spos.line Z.X.env = pure false := by rfl) :
    ST Z ρ (.Assign [.Name y py] (.ListComp elt [⟨.Name x px, .Call (.Name "range" p) [a] [] pz, [], 0⟩] scope pos) spos) O :=
  st_set ok (ev_lcR i ok hb hm h gl hi hx hst hc hs) hm2 (hy.imp id id) hsw hf
theorem tq_neS {pd : PyData} {j k : Nat} (hK : Z.X.K = Z.T.K) (hr : RoomG j Z.X.A) (ha : EQ Z ρ a d) (hb : EQ Z ρ b d) (hp : toP d = some pd) (hl : Lay k pd) (hk : k ≤ 64 := by decide) : TQ Z ρ (.Compare a [.NotEq] [b] pos) false := by
  have := tq_neP hK hr ha hb hp hp (hl.shaped hk) (hl.shaped hk) (pos := pos)
  rw [SeqAt.eqv_refl _ hl.l] at this
  exact this
end
structure LawF5 (P : Program) (w : World) (T : Tab) (mg : Str → Option Value) (base : Heap) where
  CS : Addr
  (fBx fT fF fRw fSm fHd fRt fRo fAp fDt fRf fSo fIv fWe fTd fLs fLp fE : Addr)
  RC : RCls T.K mg T.C
  bx : FnG P w T.K mg base (L2.CX P w) 2 fBx (SpBx T)
  bxm : mg "_law_box" = some (.ref fBx)
  bxk : PySem.W.keepIn T.K (.ref fBx) = true
  mr : mg "range" = none
  mma : mg "max" = none
  mmi : mg "min" = none
  ml : mg "len" = none
  mtu : mg "tuple" = none
  tk : Df P w T mg base "_law_take" 1 fT F_take
  fc : Df P w T mg base "_law_frac" 1 fF F_frac
  rw : Df P w T mg base "_law_rows" 3 fRw F_rows
  sm : Df P w T mg base "_law_sum" 3 fSm F_sum
  hd : Df P w T mg base "_law_handed" 4 fHd F_handed
  rt : Df P w T mg base "_law_ratio" 3 fRt F_ratioL
  ro : Df P w T mg base "_law_row" 3 fRo F_row
  ap : Df P w T mg base "applied" 7 fAp F_applied
  dt : ∀ n, n ≤ 4 → Df P w T mg base "_law_determinant" (n + 3) fDt (F_det n 96 6)
  rf : Df P w T mg base "_law_refused" 7 fRf F_lrefused
  so : Df P w T mg base "solved" 6 fSo (F_solved CS)
  soK : Dw P w T mg base "solved" 6 fSo ["rows", "right"] false (F_solved CS)
  iv : DfM P w T mg base "inverse" 6 fIv (F_inverse CS)
  we : Df P w T mg base "weighed" 6 fWe F_weighed
  td : Df P w T mg base "_law_told" 3 fTd F_told
  ls : Df P w T mg base "_law_least" 6 fLs F_lleast
  lp : Df P w T mg base "least_place" 5 fLp F_least
  eq : Dm P w T mg base T.C "__eq__" 3 fE F_eq
abbrev Nlaw : List Str := ["_law_script", "_law_k", "_law_box_here", "_law_size", "_law_lines", "_law_numbers", "_law_row_here", "_law_right_told", "_law_handed_here", "_law_given", "_law_other", "_law_back", "_law_told_here", "_law_x", "_law_j"]
variable {P : Program} {w : World} {T : Tab} {mg : Str → Option Value} {base : Heap} {f fA fI CZ CB CS : Addr} {fd : FuncData}
abbrev scR : Scope := { kind := .function, names := [(".0", .local), ("_law_x", .local), ("_law_ratio", .globalImplicit)], isGenerator := false, isCoroutine := false, more := [] }
theorem map_fr2 (x : List Rat) : (x.map D.fr).map (fun d => hdN (frOf d)) = x.map hdN := map_fr fun q => by rw [frOf_fr]
section
variable {cdv : Value} {A : Around} {outer : List Env} {s : Shared} {H : Hp} {E : XK} {B : Bm} {R : Er → Nat → Prop} {rt : D → Nat → Prop} {ρ : Rho} {iter : Expr} {p1 p2 p3 px pos : Pos} {x : List Rat}
theorem eq_rats (L : LawF5 P w T mg base) (ok : Zok (zBody P w T mg base Nlaw "law" (defScope s_law) f cdv A outer s H E B R rt)) (hr : RoomG 7 (zBody P w T mg base Nlaw "law" (defScope s_law) f cdv A outer s H E B R rt).X.A) (hl : ρ.s.length = 15)
    (h : EQ (zBody P w T mg base Nlaw "law" (defScope s_law) f cdv A outer s H E B R rt) ρ iter (lineD x)) (len : x.length ≤ 100000) (sz : ∀ q ∈ x, Sz 8500 q) (hs : ∀ y, foldedSetIterable iter (zBody P w T mg base Nlaw "law" (defScope s_law) f cdv A outer s H E B R rt).X.env y = pure y := by intro _; rfl) :
    EQ (zBody P w T mg base Nlaw "law" (defScope s_law) f cdv A outer s H E B R rt) ρ (.ListComp (.Call (.Name "_law_ratio" p1) [.Name "_law_x" p2] [] p3) [⟨.Name "_law_x" px, iter, [], 0⟩] scR pos) (handD x) := by
  refine EQ.as (eq_lcM 13 (g := fun d => hdN (frOf d)) ok (blkOk_by (N := Nlaw) (sc := defScope s_law) (by decide +kernel)) rfl h (by rw [List.length_map]; exact len) (fun d hd => ?_) (hs := hs)) (by rw [map_fr2])
  obtain ⟨q, hq, rfl⟩ := List.mem_map.mp hd; refine ⟨hdN_plain _, fun B2 s1 H1 C cl fp ok2 => ?_⟩
  exact eq_df L.rt ok2 hr (by decide) (aq_cons (eq_var 13 (by rw [List.getElem?_set_self (by rw [List.length_set, hl]; decide)])) aq_nil) ⟨q, rfl, sz q hq, by rw [frOf_fr], rfl⟩
end
theorem sz_num {a b : Int} (h0 : 0 ≤ a) (h1 : a < 21) (h2 : 0 ≤ b) (h3 : b < 3) : Sz 5 (fr (a - 10) (1 + b)) := Sz.fr (by show (a - 10).natAbs < 32; omega) (by show (1 + b).natAbs < 32; omega) (by omega)
theorem up85 {k : Nat} {i : Int} (h : i.natAbs < 2 ^ k) (hk : k ≤ 8500) : i.natAbs < 2 ^ 8500 := Nat.lt_of_lt_of_le h (Nat.pow_le_pow_right (by decide) hk)
def lofD : D → List D
  | .lst l => l
  | .tup l => l
  | _ => []
def ratOf : D → Rat
  | .rat q => q
  | _ => 0
def gS (y : List Rat) (d : D) : D := .fr (dot ((lofD d).map frOf) y)
theorem map_frOf (r : List Rat) : (r.map D.fr).map frOf = r := by
  rw [List.map_map]
  refine Eq.trans ?_ (List.map_id r)
  exact List.map_congr_left fun q _ => frOf_fr q
theorem gS_line (r y : List Rat) : gS y (lineD r) = .fr (dot r y) := by
  show D.fr (dot ((r.map D.fr).map frOf) y) = _
  rw [map_frOf]
theorem gS_tup (r y : List Rat) : gS y (.tup (r.map .fr)) = .fr (dot r y) := by
  show D.fr (dot ((r.map D.fr).map frOf) y) = _
  rw [map_frOf]
theorem gS_lines (ls : List (List Rat)) (y : List Rat) : (ls.map lineD).map (gS y) = (ls.map fun r => dot r y).map .fr := by
  rw [List.map_map, List.map_map]; exact List.map_congr_left fun r _ => gS_line r y
theorem solD_inv (n : Nat) (p : Int) (r : List Int) : solD n p r = .lst ((invR n p r).map .rat) := by unfold solD invR; rw [List.map_map]; rfl
def gT (d : D) : D := .tup ((lofD d).map fun y => D.fr (ratOf y))
theorem gT_sol (n : Nat) (p : Int) (r : List Int) : gT (solD n p r) = .tup ((invR n p r).map .fr) := by
  rw [solD_inv]
  show D.tup (((invR n p r).map D.rat).map fun y => D.fr (ratOf y)) = _
  rw [List.map_map]; rfl
section
variable {Z : Zt} {ρ : Rho} {a : Expr} {pos : Pos}
theorem eq_str5 {x : Str} {j0} : EQ Z ρ (.Constant (.str x) j0 pos) (.str x) := ev_str ⟨rfl, rfl⟩
theorem wq_andF5 {k : Bool} {b : Expr} {rest : List Expr} (h : TQ Z ρ a k) (h2 : k = true → WQ Z ρ (.BoolOp .And (b :: rest) pos) false) : WQ Z ρ (.BoolOp .And (a :: b :: rest) pos) false := by
  have := wq_and h h2
  rwa [Bool.and_false] at this
theorem tq_notT5 {e : Expr} (h : TQ Z ρ e true) : TQ Z ρ (.UnaryOp .Not e pos) false := tq_not h
end
theorem seen_hd {T : Tab} (q : Rat) : SeenD T (fun x y H => DFlat x y H ∨ DRat T.C x y H) (hdN q) := by
  unfold hdN
  split
  · intro G v v' r r'
    cases r
    cases r'
    exact .inl ⟨rfl, rfl, by simp [eqV]⟩
  · intro G v v' r r'
    obtain ⟨a, dx, rfl, h1⟩ := r
    obtain ⟨b, dy, rfl, h2⟩ := r'
    exact .inr ⟨a, b, dx, dy, q, rfl, rfl, h1, h2⟩
theorem seen_hand {T : Tab} (r : List Rat) : SeenD T (DList fun x y H => DFlat x y H ∨ DRat T.C x y H) (handD r) := seen_lst fun d hd => by
  obtain ⟨q, _, rfl⟩ := List.mem_map.mp hd
  exact seen_hd q
theorem ok_law5 (U : Fun T.K "law" "law" s_law f fd) (L : LawF5 P w T mg base) : FnGk P w T.K mg base (L2.CX P w) 8 f fd ["_law_script"] (SpW T F_law) := by
  refine Fun.doesG U sc_law (fun ds c P R h => ?_) (fun Z c ds cdv A outer s0 H E B R rt hZ ok hr h => ?_)
  · obtain ⟨l, rfl, _⟩ := h
    rfl
  · obtain ⟨l, rfl, hl, rfl, h⟩ := h
    have RC := L.RC
    subst hZ
    refine ss_cons (st_range (i := 1) ok rfl L.mr (ea_cons (ev_max ok rfl L.mma (ea_cons (ev_int (ea_cons (ev_min ok rfl L.mmi (ea_cons (ev_int (ea_cons (ev_len rfl rfl L.ml (ea_cons (ev_var 0 rfl (ea_nil ⟨_, _, rfl, rfl, ?_⟩))))))))))))))
    refine ea_nil (ea_nil (ea_nil ⟨_, rfl, ?_, ?_, ?_⟩))
    · split <;> split <;> omega
    · split <;> split <;> omega
    dsimp only [Rho.wc, Rho.set]
    generalize hn : Int.toNat _ = n0
    have hle : n0 ≤ 2 := by
      rw [← hn]
      split <;> split <;> omega
    refine spins_fin (n0 := n0) (fun j ρ => ∃ B c o1 o2 o3 o4 o5 o6 o7 o8 o9 o10 o11 o12 o13 o14, ρ = ⟨B, [some (.scr l), o1, o2, o3, o4, o5, o6, o7, o8, o9, o10, o11, o12, o13, o14], c⟩ ∧ c ≤ 100 * j) ?_ ?_ n0 0 _ (Nat.zero_add _) ?_
    · rintro j ρ K ⟨B1, c, o1, o2, o3, o4, o5, o6, o7, o8, o9, o10, o11, o12, o13, o14, rfl, hc⟩ hj hK
      dsimp only [Rho.wc, Rho.set]
      have hc2 : c ≤ 200 := by omega
      refine ss_cons (st_box 2 ok L.bx (hr.mono (by decide)) L.bxm L.bxk (ea_cons (ev_var 0 rfl (ea_cons (ev_var 1 rfl (ea_nil ⟨l, j, rfl, by omega, fun qb => ?_⟩))))))
      dsimp only [Rho.wc, Rho.set]
      refine ss_cons (st_set (i := 3) ok (ev_df L.tk ok hr (by decide) (ea_cons (ev_var 2 rfl (ea_cons (ev_int (ea_nil ⟨5, rfl, by decide, by decide, ?_, fun z z0 z1 => ?_⟩)))))))
      · show c < 1000000
        omega
      dsimp only [Rho.wc, Rho.set]
      obtain ⟨n, rfl⟩ : ∃ n : Nat, z = (n : Nat) := ⟨z.toNat, by omega⟩
      have n4 : n ≤ 4 := by omega
      refine ss_cons (st_set (i := 4) ok (ev_df L.rw ok hr (by decide) (ea_cons (ev_var 2 rfl (ea_cons (ev_var 3 rfl (ea_nil ⟨n, rfl, n4, ?_, fun ls c1 hrows hc1 => ?_⟩)))))))
      · show c + 1 + 200 ≤ 1000000
        omega
      replace hc1 : c1 ≤ c + 1 + 40 := hc1
      dsimp only [Rho.wc, Rho.set]
      have ll := hrows.1
      have lw := hrows.2.1
      -- drawn numbers
      refine ss_cons (st_setLcR (m := 5) 14 ok (blkOk_by (N := Nlaw) (sc := defScope s_law) (by decide +kernel)) L.mr (AQ.to (aq_cons (eq_var 3 rfl) aq_nil) ⟨n, rfl, by omega, ?_⟩))
      refine lcs_pre (rngD n) (fun dn ac c' => ∃ x : List Rat, ac = x.map D.fr ∧ x.length = dn.length ∧ (∀ q ∈ x, Sz 5 q) ∧ c' = c1 + 2 * dn.length) (fun dn y2 rs ac c2 hd2 ⟨r, f1, f2, f3, f4⟩ => ?_) (fun ac c2 ⟨x, f1, f2, f3, f4⟩ => ?_) (rngD n) [] [] c1 rfl ⟨[], rfl, rfl, (fun _ h => nomatch h), by simp⟩
      · subst f1
        have dl2 : dn.length + rs.length + 1 = n := by
          have := congrArg List.length hd2
          rw [List.length_append, List.length_cons, rngD_len] at this
          omega
        refine ⟨by rw [List.length_map]; omega, fun B3 s2 H2 C2 cl2 fp2 ok3 => ?_⟩
        refine ev_df L.fc ok3 hr (by decide) (ea_cons (ev_sub (ev_df L.tk ok3 hr (by decide) (ea_cons (ev_var 2 rfl (ea_cons (ev_int (ea_nil ⟨21, rfl, by decide, by decide, ?_, fun a a1 a2 => ?_⟩))))))))
        · show c2 < 1000000
          omega
        dsimp only [Rho.wc, Rho.set]
        refine ev_int (ea_cons (ev_add (ev_int (ev_df L.tk ok3 hr (by decide) (ea_cons (ev_var 2 rfl (ea_cons (ev_int (ea_nil ⟨3, rfl, by decide, by decide, ?_, fun b b1 b2 => ?_⟩)))))))))
        · show c2 + 1 < 1000000
          omega
        dsimp only [Rho.wc, Rho.set]
        refine ea_nil ⟨_, _, rfl, by omega, up85 (k := 5) (show (a - 10).natAbs < 32 by omega) (by decide), up85 (k := 5) (show (1 + b).natAbs < 32 by omega) (by decide), rfl, r ++ [fr (a - 10) (1 + b)], by rw [List.map_append]; rfl, by rw [List.length_append, List.length_append, f2]; rfl, fun q hq => ?_, ?_⟩
        · rcases List.mem_append.mp hq with z | z
          · exact f3 q z
          · rw [List.mem_singleton] at z
            rw [z]; exact sz_num a1 a2 b1 b2
        · show c2 + 1 + 1 = _
          rw [List.length_append]; rw [List.length_singleton]; omega
      subst f1
      rw [rngD_len] at f2 f4
      have hc3 : c2 ≤ c + 49 := by omega
      dsimp only [Rho.wc, Rho.set]
      have xs := f3
      let b : List Rat := ls.map fun r => dot r x
      have lb : b.length = n := by show (ls.map _).length = n; rw [List.length_map]; exact ll
      have sall := rowsOk_sz hrows
      have sb96 : ∀ q ∈ b, Sz 409 q := fun q hq => by
        obtain ⟨r, hr1, rfl⟩ := List.mem_map.mp hq
        exact (sz_dot (lw r hr1) f2 n4 (sall r hr1) xs).mono (by decide)
      have up : ∀ {k : Nat} {q : Rat}, Sz k q → k ≤ 8500 → Sz 8500 q := fun s h => s.mono h
      refine ss_cons (st_setLc (m := 7) 6 ok (blkOk_by (N := Nlaw) (sc := defScope s_law) (by decide +kernel)) (h := EQ.to (eq_var 4 rfl) ⟨_, rfl, lcs_map (g := gS x) (ls.map lineD) [] _ (by rw [List.length_nil, List.length_map]; omega) (fun d hd => ?_) ?_⟩))
      · obtain ⟨r, hr1, rfl⟩ := List.mem_map.mp hd
        rw [gS_line]
        refine ⟨rfl, fun B2 s1 H1 C cl fp ok2 => ?_⟩
        exact eq_df L.sm ok2 hr (by decide) (aq_cons (eq_var 6 rfl) (aq_cons (eq_var 5 rfl) aq_nil)) ⟨lineD r, r, x, 96, 5, rfl, .inl rfl, by rw [lw r hr1, f2], by rw [lw r hr1]; omega, sall r hr1, xs, Nat.le_trans (Nat.mul_le_mul_left _ (show r.length + 1 ≤ 5 by rw [lw r hr1]; omega)) (by decide), by rw [dotA_dot (by rw [lw r hr1, f2])], rfl⟩
      rw [List.nil_append, gS_lines]
      show SS _ _ _ _
      dsimp only [Rho.wc, Rho.set, List.set]
      refine ss_cons (st_par 8 9 ok (AQ.to (aq_cons (eq_df (d := .lst (ls.map handD)) L.hd ok hr (by decide) (aq_cons (eq_var 4 rfl) aq_nil) ⟨ls, rfl, by omega, fun r hr1 => ⟨by rw [lw r hr1]; omega, fun q hq => up (sall r hr1 q hq) (by decide)⟩, rfl, rfl⟩) (aq_cons (eq_rats L ok hr rfl (x := b) (eq_var 7 rfl) (by rw [lb]; omega) (fun q hq => up (sb96 q hq) (by decide))) aq_nil)) ⟨_, _, rfl, ?_⟩))
      dsimp only [Rho.wc, Rho.set, List.set]
      refine ss_cons (st_ifF (tq_neS rfl hr (eq_df (d := lineD b) L.ro ok hr (by decide) (aq_cons (eq_df (d := .lst (b.map .rat)) L.ap ok hr (by decide) (aq_cons (eq_var 8 rfl) (aq_cons (eq_rats L ok hr rfl (x := x) (eq_var 5 rfl) (by rw [f2]; omega) (fun q hq => up (xs q hq) (by decide))) aq_nil)) ⟨ls, x, 96, 5, rfl, by omega, fun r hr1 => ⟨by rw [lw r hr1, f2], sall r hr1⟩, by omega, xs, Nat.le_trans (Nat.mul_le_mul_left _ (show x.length + 1 ≤ 5 by omega)) (by decide), rfl, rfl⟩) aq_nil) ⟨b, rfl, by rw [lb]; omega, rfl, rfl⟩) (eq_var 7 rfl) (toP_line b) (lay_line b)) (ss_nil ?_))
      show SS _ _ _ _
      -- what is known of the systems
      have hD : D.lst (ls.map handD) = .lst ((handR ls).map D.lst) := by rw [handR_lst]
      have nums : ∀ (z : List Rat), ∀ y ∈ z.map hdN, ∃ q, numD y = some q := fun z y hy => by
        obtain ⟨q, _, rfl⟩ := List.mem_map.mp hy
        exact ⟨q, hdN_num q⟩
      have S1 := sizes_b hrows n4 lb (bF := fun i => if i = 0 then 409 else 49) (fun i hi => by
        have hi' : i < ls.length := by rw [ll, ← lb]; exact hi
        show Sz _ (ls.map fun r => dot r x)[i]
        rw [List.getElem_map]
        have := sz_dot (lw _ (List.getElem_mem hi')) f2 n4 (rowsOk_at hrows i hi') xs
        refine this.mono ?_
        unfold aF
        by_cases e : i = 0
        · rw [if_pos e, if_pos e]; decide
        · rw [if_neg e, if_neg e]; decide) (fun i _ => by show (if i = 0 then 96 else 6) + (if i = 0 then 409 else 49) ≤ 880; split <;> decide) (by decide)
      have E1 := S1.ok
      have Su := sizes_u hrows n4
      have Eu := Su.ok
      refine ss_cons (st_if ((tq_eqI (eq_ix rfl (eq_df (d := .fr (Det.ldet n ls)) (L.dt n n4) ok hr (by omega) (aq_cons (eq_var 4 rfl) aq_nil) ⟨ls, rfl, ll, lw, hrows.2.2.1, hrows.2.2.2, rfl, rfl⟩) eq_int ix0) eq_int).to ⟨fun z => ?_, fun z => ss_nil ?_⟩))
      · have z0 : Det.ldet n ls = 0 := Rat.num_eq_zero.mp (of_decide_eq_true z)
        refine ss_cons (st_ifF (tq_neS rfl hr (eq_df (d := .lst [.str "solved", .str "inverse"]) L.rf ok hr (by decide) (aq_cons (eq_var 8 rfl) (aq_cons (eq_var 9 rfl) aq_nil)) ⟨handR ls, b.map hdN, n, n + n, by rw [hD], nums b, E1, Eu, by rw [Lr_hand]; exact z0, rfl, rfl⟩) (eq_lst (aq_cons eq_str5 (aq_cons eq_str5 aq_nil))) (pd := .list [.str "solved", .str "inverse"]) rfl (k := 2) ⟨by decide +kernel, by decide +kernel⟩) (ss_nil ?_))
        exact ss_one (st_cont (hK _ ⟨_, _, _, _, _, _, _, _, _, _, _, _, _, _, _, _, rfl, by show c2 ≤ 100 * (j + 1); omega⟩))
      have nz : Det.ldet n ls ≠ 0 := fun e => by rw [e] at z; cases z
      show SS _ _ _ _
      have bad1 : ∀ {Y : Prop}, Det.Dt (Det.gk (tabI (tab0 (handR ls) ((b.map hdN).map fun x => [x]))) n) = 0 → Y := fun e => (nz (by have := E1.det.mp e; rwa [Lr_hand] at this)).elim
      have badu : ∀ {Y : Prop}, Det.Dt (Det.gk (tabI (tab0 (handR ls) (unitS n))) n) = 0 → Y := fun e => (nz (by have := Eu.det.mp e; rwa [Lr_hand] at this)).elim
      refine ss_cons (st_ifF (tq_neS rfl hr (eq_df (d := lineD x) L.ro ok hr (by decide) (aq_cons (eq_dw (d := .lst (x.map .rat)) L.soK ok hr (by decide) (kq_cons (eq_var 8 rfl) (kq_cons (eq_var 9 rfl) kq_nil)) rfl ⟨_, handR ls, b.map hdN, n, by rw [hD]; rfl, .inl rfl, nums b, E1, fun t p ht hw I => ⟨?_, rfl⟩, fun e => bad1 e⟩) aq_nil) ⟨x, rfl, by omega, rfl, rfl⟩) (eq_var 5 rfl) (toP_line x) (lay_line x)) (ss_nil ?_))
      · have e := only_one hrows E1 nz (x := colX t n 0 p) (y := x) (by unfold colX; rw [List.length_map]; exact ht) f2 (col_solves hrows lb E1 ht I)
        rw [← e]
        unfold colX
        rw [List.map_map]; rfl
      show SS _ _ _ _
      -- other right sides
      refine ss_cons (st_setLcR (m := 10) 14 ok (blkOk_by (N := Nlaw) (sc := defScope s_law) (by decide +kernel)) L.mr (AQ.to (aq_cons (eq_var 3 rfl) aq_nil) ⟨n, rfl, by omega, ?_⟩))
      refine lcs_pre (rngD n) (fun dn ac c' => ∃ x : List Rat, ac = x.map D.fr ∧ x.length = dn.length ∧ (∀ q ∈ x, Sz 5 q) ∧ c' = c2 + dn.length) (fun dn y2 rs ac c4 hd2 ⟨r, f1, g2, g3, g4⟩ => ?_) (fun ac c4 ⟨o, f1, g2, os, g4⟩ => ?_) (rngD n) [] [] c2 rfl ⟨[], rfl, rfl, (fun _ h => nomatch h), by simp⟩
      · subst f1
        have dl2 : dn.length + rs.length + 1 = n := by
          have := congrArg List.length hd2
          rw [List.length_append, List.length_cons, rngD_len] at this
          omega
        refine ⟨by rw [List.length_map]; omega, fun B3 s2 H2 C2 cl2 fp2 ok3 => ?_⟩
        refine ev_df L.fc ok3 hr (by decide) (ea_cons (ev_sub (ev_df L.tk ok3 hr (by decide) (ea_cons (ev_var 2 rfl (ea_cons (ev_int (ea_nil ⟨21, rfl, by decide, by decide, ?_, fun a a1 a2 => ?_⟩))))))))
        · show c4 < 1000000
          omega
        dsimp only [Rho.wc, Rho.set]
        refine ev_int (ea_cons (ev_int (ea_nil ⟨_, _, rfl, by decide, up85 (k := 5) (show (a - 10).natAbs < 32 by omega) (by decide), up85 (k := 5) (by decide) (by decide), rfl, r ++ [fr (a - 10) 3], by rw [List.map_append]; rfl, by rw [List.length_append, List.length_append, g2]; rfl, fun q hq => ?_, ?_⟩)))
        · rcases List.mem_append.mp hq with z | z
          · exact g3 q z
          · rw [List.mem_singleton] at z
            rw [z]; exact Sz.fr (by show (a - 10).natAbs < 32; omega) (by decide) (by decide)
        · show c4 + 1 = _
          rw [List.length_append]; rw [List.length_singleton]; omega
      subst f1
      rw [rngD_len] at g2 g4
      have hc5 : c4 ≤ c + 53 := by omega
      show SS _ _ _ _
      dsimp only [Rho.wc, Rho.set, List.set]
      have S3 := sizes_b hrows n4 g2 (bF := fun _ => 5) (fun i hi => os _ (List.getElem_mem hi)) (fun i _ => by have := aF_le i; show aF i + 5 ≤ 880; omega) (by decide)
      have E3 := S3.ok
      have bad3 : ∀ {Y : Prop}, Det.Dt (Det.gk (tabI (tab0 (handR ls) ((o.map hdN).map fun x => [x]))) n) = 0 → Y := fun e => (nz (by have := E3.det.mp e; rwa [Lr_hand] at this)).elim
      -- what inverse tells may be emptied
      refine ss_cons (st_clearM ok L.iv hr (by decide) (AQ.to (aq_cons (eq_var 8 rfl) aq_nil) ⟨handR ls, n, n + n, by rw [hD], Eu, fun t p DA bs ht hw I => ⟨⟨_, _, _, rfl⟩, ?_⟩, fun e => badu e⟩))
      clear I hw ht bs DA t p
      show SS _ _ _ _
      refine ss_cons (st_forClear 6 ok L.iv hr (by decide) (AQ.to (aq_cons (eq_var 8 rfl) aq_nil) ⟨handR ls, n, n + n, by rw [hD], Eu, fun t p DA bs ht hw I => ⟨⟨_, _, _, rfl, fun y hy => ?_⟩, ?_⟩, fun e => badu e⟩))
      · obtain ⟨r, _, rfl⟩ := List.mem_map.mp hy
        exact ⟨_, rfl⟩
      clear I hw ht bs DA t p
      show SS _ _ _ _
      dsimp only [Rho.wc, Rho.set, List.set]
      refine ss_cons (st_setLc (m := 11) 6 ok (blkOk_by (N := Nlaw) (sc := defScope s_law) (by decide +kernel)) (h := ev_df L.iv.lst ok hr (by decide) (AQ.to (aq_cons (eq_var 8 rfl) aq_nil) ⟨handR ls, n, n + n, by rw [hD], Eu, fun t p DA bs ht hw I => ⟨_, _, _, rfl, _, rfl, lcs_map (g := gT) (t.map (solD n p)) [] _ (by rw [List.length_nil, List.length_map]; omega) (fun d hd => ?_) ?_⟩, fun e => badu e⟩)))
      · obtain ⟨r, hr1, rfl⟩ := List.mem_map.mp hd
        rw [gT_sol]
        refine ⟨rfl, fun B2 s1 H1 C cl fp ok2 => ?_⟩
        exact ev_tupOf rfl rfl L.mtu (EQ.to (eq_df (d := lineD (invR n p r)) L.ro ok2 hr (by decide) (aq_cons (eq_var 6 rfl) aq_nil) ⟨invR n p r, by rw [solD_inv], by rw [invR_len (hw r hr1)]; omega, rfl, rfl⟩) ⟨_, rfl, rfl, rfl⟩)
      rw [List.nil_append]
      have eT : (t.map (solD n p)).map gT = t.map fun r => .tup ((invR n p r).map .fr) := by
        rw [List.map_map]
        exact List.map_congr_left fun r _ => gT_sol n p r
      rw [eT]
      show SS _ _ _ _
      dsimp only [Rho.wc, Rho.set, List.set]
      have iS : ∀ r ∈ t, ∀ q ∈ invR n p r, Sz 595 q := fun r hr1 q hq => by
        unfold invR at hq
        obtain ⟨z, hz, rfl⟩ := List.mem_map.mp hq
        obtain ⟨k, hk, rfl⟩ := List.getElem_of_mem hz
        rw [List.length_drop, hw r hr1] at hk
        have := Su.x ht hw I r hr1 (n + k) (by omega)
        unfold itemI at this
        rw [List.getElem?_eq_getElem (by rw [hw r hr1]; omega)] at this
        rw [List.getElem_drop]
        exact this
      -- another solution
      refine ss_cons (st_set (i := 12) ok (ev_df L.ro ok hr (by decide) (ea_cons (ev_df L.so ok hr (by decide) (AQ.to (aq_cons (d := .tup ((handR ls).map .lst)) (ev_tupOf rfl rfl L.mtu (EQ.to (eq_var 8 rfl) ⟨_, rfl, by rw [handR_lst], rfl⟩)) (aq_cons (eq_rats L ok hr rfl (x := o) (eq_var 10 rfl) (by rw [g2]; omega) (fun q hq => up (os q hq) (by decide))) aq_nil)) ⟨_, handR ls, o.map hdN, n, rfl, .inr rfl, nums o, E3, fun t2 p2 ht2 hw2 I2 => ea_nil ⟨colX t2 n 0 p2, ?_, ?_, ?_⟩, fun e => bad3 e⟩)))))
      · unfold colX
        rw [List.map_map]; rfl
      · unfold colX
        rw [List.length_map]; omega
      show SS _ _ _ _
      dsimp only [Rho.wc, Rho.set, List.set]
      let y := colX t2 n 0 p2
      have ly : y.length = n := by show (t2.map _).length = n; rw [List.length_map]; exact ht2
      have sy : ∀ q ∈ y, Sz 675 q := fun q hq => by
        obtain ⟨r, hr1, rfl⟩ := List.mem_map.mp hq
        exact S3.x ht2 hw2 I2 r hr1 (n + 0) (by omega)
      have ey : ls.map (fun r => dot r y) = o := col_solves hrows g2 E3 ht2 I2
      have ez : (t.map fun r => dot (invR n p r) o) = y := only_one hrows E3 nz (by rw [List.length_map]; exact ht) ly (by rw [inv_solves hrows n4 Eu ht hw I g2]; exact ey.symm)
      have eb : (t.map fun r => D.tup ((invR n p r).map .fr)).map (gS o) = y.map .fr := by
        rw [← ez, List.map_map, List.map_map]
        exact List.map_congr_left fun r _ => gS_tup (invR n p r) o
      have el : (ls.map lineD).map (gS y) = o.map .fr := by rw [gS_lines, ey]
      refine ss_cons (st_ifF (tq_bool (wq_or (tq_neS rfl hr (eq_var 12 rfl) (EQ.as (eq_lcM 6 (g := gS o) ok (blkOk_by (N := Nlaw) (sc := defScope s_law) (by decide +kernel)) rfl (eq_var 11 rfl) (by rw [List.length_map]; omega) (fun d hd => ?_)) (by rw [eb])) (toP_line y) (lay_line y)) (wq_or1 (tq_neS rfl hr (EQ.as (eq_lcM 6 (g := gS y) ok (blkOk_by (N := Nlaw) (sc := defScope s_law) (by decide +kernel)) rfl (eq_var 4 rfl) (by rw [List.length_map]; omega) (fun d hd => ?_)) (by rw [el])) (eq_var 10 rfl) (toP_line o) (lay_line o))))) (ss_nil ?_))
      · obtain ⟨r, hr1, rfl⟩ := List.mem_map.mp hd
        rw [gS_tup]
        refine ⟨rfl, fun B2 s1 H1 C cl fp ok2 => ?_⟩
        have li := invR_len (p := p) (hw r hr1)
        exact eq_df L.sm ok2 hr (by decide) (aq_cons (eq_var 6 rfl) (aq_cons (eq_var 10 rfl) aq_nil)) ⟨_, invR n p r, o, 595, 5, rfl, .inr rfl, by omega, by omega, iS r hr1, os, Nat.le_trans (Nat.mul_le_mul_left _ (show (invR n p r).length + 1 ≤ 5 by omega)) (by decide), by rw [dotA_dot (by omega)], rfl⟩
      · obtain ⟨r, hr1, rfl⟩ := List.mem_map.mp hd
        rw [gS_line]
        refine ⟨rfl, fun B2 s1 H1 C cl fp ok2 => ?_⟩
        exact eq_df L.sm ok2 hr (by decide) (aq_cons (eq_var 6 rfl) (aq_cons (eq_var 12 rfl) aq_nil)) ⟨lineD r, r, y, 96, 675, rfl, .inl rfl, by rw [lw r hr1, ly], by rw [lw r hr1]; omega, sall r hr1, sy, Nat.le_trans (Nat.mul_le_mul_left _ (show r.length + 1 ≤ 5 by rw [lw r hr1]; omega)) (by decide), by rw [dotA_dot (by rw [lw r hr1, ly])], rfl⟩
      show SS _ _ _ _
      have hE : EqH (zBody P w T mg base Nlaw "law" (defScope s_law) f cdv A outer s0 H E B R rt).X 3 (fun x y H => DFlat x y H ∨ DRat T.C x y H) := EqH.or eqH_flat (eqH_rat L.eq.g L.eq.s L.eq.fn fun q c P R hp => ⟨q, .rat q, rfl, rfl, by show P (.bl (decide (q = q))) c; rw [decide_eq_true rfl]; exact hp⟩)
      have mE : Mon (fun x y H => DFlat x y H ∨ DRat T.C x y H) := Mon.or mon_flat mon_rat
      refine ss_cons (st_ifF (tq_bool (wq_or (tq_neH (l := ls.map handD) ok (mon_list mE) (eqH_list mE hE) hr (by decide) (eq_var 8 rfl) (eq_df (d := .lst (ls.map handD)) L.hd ok hr (by decide) (aq_cons (eq_var 4 rfl) aq_nil) ⟨ls, rfl, by omega, fun r hr1 => ⟨by rw [lw r hr1]; omega, fun q hq => up (sall r hr1 q hq) (by decide)⟩, rfl, rfl⟩) (fun d hd => ?_))
        (wq_or (tq_neH (l := b.map hdN) ok mE hE hr (by decide) (eq_var 9 rfl) (eq_rats L ok hr rfl (x := b) (eq_var 7 rfl) (by rw [lb]; omega) (fun q hq => up (sb96 q hq) (by decide))) (fun d hd => ?_))
        (wq_or1 (tq_neS rfl hr (show EQ _ _ _ (.int (n : Nat)) from ev_len rfl rfl L.ml (AQ.to (aq_cons (eq_var 11 rfl) aq_nil) ⟨_, n, rfl, by show some (t.map _).length = _; rw [List.length_map, ht], rfl, rfl⟩)) (eq_var 3 rfl) (pd := .int (n : Nat)) rfl (k := 2) ⟨rfl, Nat.le_of_ble_eq_true rfl⟩))))) (ss_nil ?_))
      · obtain ⟨r, _, rfl⟩ := List.mem_map.mp hd
        exact seen_hand r
      · obtain ⟨q, _, rfl⟩ := List.mem_map.mp hd
        exact seen_hd q
      show SS _ _ _ _
      refine ss_cons (st_setq (i := 12) (d := .rat (dot x o)) ok (eq_df L.we ok hr (by decide) (aq_cons (eq_rats L ok hr rfl (x := x) (eq_var 5 rfl) (by rw [f2]; omega) (fun q hq => up (xs q hq) (by decide))) (aq_cons (eq_rats L ok hr rfl (x := o) (eq_var 10 rfl) (by rw [g2]; omega) (fun q hq => up (os q hq) (by decide))) aq_nil)) ⟨x, o, 5, 5, rfl, by omega, by omega, xs, os, Nat.le_trans (Nat.mul_le_mul_left _ (show x.length + 1 ≤ 5 by omega)) (by decide), rfl, rfl⟩) ?_)
      dsimp only [Rho.wc, Rho.set, List.set]
      refine ss_one (st_ifF (tq_bool (wq_or (tq_bool (wq_andF5 (tq_gtI (eq_var 3 rfl) eq_int) fun k => wq_and1 (tq_notT5 (tq_val (eq_df (d := .bl true) L.ls ok hr (by decide) (aq_cons (eq_var 5 rfl) aq_nil) ⟨x, rfl, ?_, by omega, fun q hq => up (xs q hq) (by decide), rfl, rfl⟩)))))
        (wq_or1 (tq_neS rfl hr (eq_df (d := .fr (dot x o)) L.td ok hr (by decide) (aq_cons (eq_var 12 rfl) aq_nil) ⟨dot x o, rfl, rfl, rfl⟩) (eq_df (d := .fr (dot x o)) L.sm ok hr (by decide) (aq_cons (eq_var 5 rfl) (aq_cons (eq_var 10 rfl) aq_nil)) ⟨lineD x, x, o, 5, 5, rfl, .inl rfl, by omega, by omega, xs, os, Nat.le_trans (Nat.mul_le_mul_left _ (show x.length + 1 ≤ 5 by omega)) (by decide), by rw [dotA_dot (by omega)], rfl⟩) (pd := pq (dot x o)) rfl (lay_pq _))))) (ss_nil ?_))
      · have := of_decide_eq_true k
        omega
      exact hK _ ⟨_, _, _, _, _, _, _, _, _, _, _, _, _, _, _, _, rfl, by show c4 ≤ 100 * (j + 1); omega⟩
    · rintro ρ ⟨B1, c, o1, o2, o3, o4, o5, o6, o7, o8, o9, o10, o11, o12, o13, o14, rfl, hc⟩
      have E0 : ElimOk ([] : List (List D)) (([] : List D).map fun x => [x]) 0 1 := (Sizes.ok (n := 0) (m1 := 1) (a := fun _ => 0) (b := fun _ => 0) ⟨by decide, by decide, rfl, rfl, (fun _ h => nomatch h), (fun _ h => nomatch h), (fun i h => nomatch h), (fun i h => nomatch h), (fun _ _ => by decide), by decide⟩)
      have d0 : ∀ {Y : Prop}, Det.Dt (Det.gk (tabI (tab0 ([] : List (List D)) (([] : List D).map fun x => [x]))) 0) = 0 → Y := fun e => by
        have := E0.det.mp e
        exact absurd this (by show ¬ (1 : Rat) = 0; decide)
      show SS _ _ _ _
      refine ss_one (st_ret (ev_and (ev_isN' (EQ.to (eq_df (d := .non) L.lp ok hr (by decide) (aq_cons (eq_lst aq_nil) aq_nil) ⟨[], rfl, by decide, (fun _ h => nomatch h), rfl, rfl⟩) ⟨true, rfl, true, rfl, fun _ => ?_, fun z => by cases z⟩))))
      refine ev_and (ev_eqP rfl hr (EQ.to (eq_df (d := .lst []) L.so ok hr (by decide) (aq_cons (eq_lst aq_nil) (aq_cons (eq_lst aq_nil) aq_nil)) ⟨.lst [], [], [], 0, rfl, .inl rfl, (fun _ h => nomatch h), E0, fun t p ht hw I => ?_, fun e => d0 e⟩) (EQ.to (eq_lst aq_nil) ⟨.list [], .list [], rfl, rfl, rfl, rfl, true, rfl, fun _ => ?_, fun z => by cases z⟩)))
      · have e := List.length_eq_zero_iff.mp ht
        subst e
        exact ⟨rfl, rfl⟩
      refine ev_bone (ev_eqP rfl hr (EQ.to (eq_df (d := .lst []) L.ap ok hr (by decide) (aq_cons (eq_lst aq_nil) (aq_cons (eq_lst aq_nil) aq_nil)) ⟨[], [], 0, 0, rfl, by decide, (fun _ h => nomatch h), by decide, (fun _ h => nomatch h), by decide, rfl, rfl⟩) (EQ.to (eq_lst aq_nil) ⟨.list [], .list [], rfl, rfl, rfl, rfl, rfl, h _⟩)))
    · exact ⟨_, _, _, _, _, _, _, _, _, _, _, _, _, _, _, _, rfl, Nat.zero_le _⟩
end Q
end

section
set_option Elab.async false
set_option linter.all false
set_option maxRecDepth 100000
set_option maxHeartbeats 3900000
namespace Q
open PySem L2
theorem FnGk.imp {P : Program} {w : World} {K : PySem.W.Frag} {mg : Str → Option Value} {base : Heap} {CX : CXT} {k : Nat} {f : Addr} {fd : FuncData} {ps : List Str} {sp sp' : Sp} (F : FnGk P w K mg base CX k f fd ps sp) (h : ∀ vs H Q E, sp' vs H Q E → sp vs H Q E) : FnGk P w K mg base CX k f fd ps sp' :=
  ⟨fun vs H Q E q => F.len vs H Q E (h _ _ _ _ q), fun A outer s H as us vs Q E hr e b r q => F.run A outer s H as us vs Q E hr e b r (h _ _ _ _ q)⟩
theorem spw_imp {T : Tab} {F F' : Fw} (h : ∀ ds c P R, F' ds c P R → F ds c P R) : ∀ vs H Q E, SpW T F' vs H Q E → SpW T F vs H Q E := fun vs H Q E ⟨B, c, ds, P, R, a, b, z, x, y⟩ => ⟨B, c, ds, P, R, a, b, h _ _ _ _ z, x, y⟩
theorem Fun.bk {K : PySem.W.Frag} {x qual : Str} {st : Stmt} {f : Addr} {fd : FuncData} {ps ks : List Str} {n : Nat} {r : Bool} (U : Fun K x qual st f fd)
    (h : ∀ (kV doc pm : Value) (an : Option Addr) (cdv ct : Value) (us ws : List Value), us.length = n → ws.length = ks.length → bindArgs (PySem.W.fnOf x qual (defArgs st) (defBody st) (defScope st) .none kV doc pm an cdv ct) ⟨us, ks.zip ws⟩ = pure (ps.zip (kg r us ws))) : Bk K fd ps n ks r := by
  obtain ⟨oc, od, kV, doc, pm, an, cdv, ct, osl, rfl, lk, hcd⟩ := U.ex
  exact fun s us ws _ l1 l2 => .of_eq (h kV doc pm an cdv ct us ws l1 l2)
theorem init_binds {K : PySem.W.Frag} {f : Addr} {fd : FuncData} (U : FunD K "__init__" "Ratio.__init__" (defArgs s_Ratio_init) (defBody s_Ratio_init) (defScope s_Ratio_init) [.int 1] [] f fd) :
    Binds K fd ["self", "top", "bottom"] [] ∧ (∃ t1 : Tok, Binds K fd ["self", "top", "bottom"] [.int 1 t1]) ∧ Bk K fd ["self", "top", "bottom"] 1 ["bottom", "top"] true := by
  refine ⟨?_, ?_, ?_⟩
  · obtain ⟨ds, hv, hb⟩ := U.binds1 (ps := ["self", "top", "bottom"]) 3 1 (by simp) rfl fun T kV doc pm an cdv ct us its l1 l2 => by
      match us, its, l1, l2 with
      | [_, _, _], [_], _, _ => exact ⟨_, rfl, rfl⟩
    cases hv
    exact hb
  · obtain ⟨ds, hv, hb⟩ := U.binds1 (ps := ["self", "top", "bottom"]) 2 0 (by simp) rfl fun T kV doc pm an cdv ct us its l1 l2 => by
      match us, its, l1, l2 with
      | [_, _], [_], _, _ => exact ⟨_, rfl, rfl⟩
    cases hv with
    | cons a t =>
      cases t
      obtain ⟨t1, rfl⟩ := a
      exact ⟨t1, hb⟩
  · obtain ⟨its, hb⟩ := U.kbindsD (ps := ["self", "top", "bottom"]) 1 ["bottom", "top"] (fun us its ws => us ++ ws.reverse) (by simp) (fun r1 _ r3 => r1.append (vals_rev r3)) fun T kV doc pm an cdv ct us its ws l1 l2 l3 => by
      match us, its, ws, l1, l2, l3 with
      | [_], [_], [_, _], _, _, _ => exact ⟨_, rfl, rfl⟩
    exact fun s us ws X l1 l2 => hb.to s us ws X l1 l2
theorem all_k05 {l : PySem.W.OpenLaw} {w : World} {K : PySem.W.Frag} {h : Heap} {mg : Str → Option Value} {fa C CZ CB CS p_top p_bot f_ini f_add f_mul f_eq f_lt f_top f_bot f_bni f_who f_asr f_tot f_sol f_inv f_app f_lep f_wei f_unr f_eli f_whr f_lea f_cle f_cmb f_cel f_box f_tak f_fra f_plu f_tim f_lss f_tol f_row f_rat f_det f_sum f_dra f_rws f_han f_ref f_lst f_law : Addr} (X : K.In h) (G : h.Ns mainGlobals mg) (hfa : mg "law" = some (.ref fa))
    {od_ini an_ini : Option Addr} {sl_ini : Array (Option Value)} {oc_ini kV_ini dc_ini pm_ini cd_ini ct_ini dV_ini : Value}
    {od_add an_add : Option Addr} {sl_add : Array (Option Value)} {oc_add kV_add dc_add pm_add cd_add ct_add : Value}
    {od_mul an_mul : Option Addr} {sl_mul : Array (Option Value)} {oc_mul kV_mul dc_mul pm_mul cd_mul ct_mul : Value}
    {od_eq an_eq : Option Addr} {sl_eq : Array (Option Value)} {oc_eq kV_eq dc_eq pm_eq cd_eq ct_eq : Value}
    {od_lt an_lt : Option Addr} {sl_lt : Array (Option Value)} {oc_lt kV_lt dc_lt pm_lt cd_lt ct_lt : Value}
    {od_top an_top : Option Addr} {sl_top : Array (Option Value)} {oc_top kV_top dc_top pm_top cd_top ct_top : Value}
    {od_bot an_bot : Option Addr} {sl_bot : Array (Option Value)} {oc_bot kV_bot dc_bot pm_bot cd_bot ct_bot : Value}
    {od_bni an_bni : Option Addr} {sl_bni : Array (Option Value)} {oc_bni kV_bni dc_bni pm_bni cd_bni ct_bni : Value}
    {od_who an_who : Option Addr} {sl_who : Array (Option Value)} {oc_who kV_who dc_who pm_who cd_who ct_who : Value}
    {od_asr an_asr : Option Addr} {sl_asr : Array (Option Value)} {oc_asr kV_asr dc_asr pm_asr cd_asr ct_asr : Value}
    {od_tot an_tot : Option Addr} {sl_tot : Array (Option Value)} {oc_tot kV_tot dc_tot pm_tot cd_tot ct_tot : Value}
    {od_sol an_sol : Option Addr} {sl_sol : Array (Option Value)} {oc_sol kV_sol dc_sol pm_sol cd_sol ct_sol : Value}
    {od_inv an_inv : Option Addr} {sl_inv : Array (Option Value)} {oc_inv kV_inv dc_inv pm_inv cd_inv ct_inv : Value}
    {od_app an_app : Option Addr} {sl_app : Array (Option Value)} {oc_app kV_app dc_app pm_app cd_app ct_app : Value}
    {od_lep an_lep : Option Addr} {sl_lep : Array (Option Value)} {oc_lep kV_lep dc_lep pm_lep cd_lep ct_lep : Value}
    {od_wei an_wei : Option Addr} {sl_wei : Array (Option Value)} {oc_wei kV_wei dc_wei pm_wei cd_wei ct_wei : Value}
    {od_unr an_unr : Option Addr} {sl_unr : Array (Option Value)} {oc_unr kV_unr dc_unr pm_unr cd_unr ct_unr : Value}
    {od_eli an_eli : Option Addr} {sl_eli : Array (Option Value)} {oc_eli kV_eli dc_eli pm_eli cd_eli ct_eli : Value}
    {od_whr an_whr : Option Addr} {sl_whr : Array (Option Value)} {oc_whr kV_whr dc_whr pm_whr cd_whr ct_whr : Value}
    {od_lea an_lea : Option Addr} {sl_lea : Array (Option Value)} {oc_lea kV_lea dc_lea pm_lea cd_lea ct_lea : Value}
    {od_cle an_cle : Option Addr} {sl_cle : Array (Option Value)} {oc_cle kV_cle dc_cle pm_cle cd_cle ct_cle : Value}
    {od_cmb an_cmb : Option Addr} {sl_cmb : Array (Option Value)} {oc_cmb kV_cmb dc_cmb pm_cmb cd_cmb ct_cmb : Value}
    {od_cel an_cel : Option Addr} {sl_cel : Array (Option Value)} {oc_cel kV_cel dc_cel pm_cel cd_cel ct_cel : Value}
    {od_box an_box : Option Addr} {sl_box : Array (Option Value)} {oc_box kV_box dc_box pm_box cd_box ct_box : Value}
    {od_tak an_tak : Option Addr} {sl_tak : Array (Option Value)} {oc_tak kV_tak dc_tak pm_tak cd_tak ct_tak : Value}
    {od_fra an_fra : Option Addr} {sl_fra : Array (Option Value)} {oc_fra kV_fra dc_fra pm_fra cd_fra ct_fra : Value}
    {od_plu an_plu : Option Addr} {sl_plu : Array (Option Value)} {oc_plu kV_plu dc_plu pm_plu cd_plu ct_plu : Value}
    {od_tim an_tim : Option Addr} {sl_tim : Array (Option Value)} {oc_tim kV_tim dc_tim pm_tim cd_tim ct_tim : Value}
    {od_lss an_lss : Option Addr} {sl_lss : Array (Option Value)} {oc_lss kV_lss dc_lss pm_lss cd_lss ct_lss : Value}
    {od_tol an_tol : Option Addr} {sl_tol : Array (Option Value)} {oc_tol kV_tol dc_tol pm_tol cd_tol ct_tol : Value}
    {od_row an_row : Option Addr} {sl_row : Array (Option Value)} {oc_row kV_row dc_row pm_row cd_row ct_row : Value}
    {od_rat an_rat : Option Addr} {sl_rat : Array (Option Value)} {oc_rat kV_rat dc_rat pm_rat cd_rat ct_rat : Value}
    {od_det an_det : Option Addr} {sl_det : Array (Option Value)} {oc_det kV_det dc_det pm_det cd_det ct_det : Value}
    {od_sum an_sum : Option Addr} {sl_sum : Array (Option Value)} {oc_sum kV_sum dc_sum pm_sum cd_sum ct_sum : Value}
    {od_dra an_dra : Option Addr} {sl_dra : Array (Option Value)} {oc_dra kV_dra dc_dra pm_dra cd_dra ct_dra : Value}
    {od_rws an_rws : Option Addr} {sl_rws : Array (Option Value)} {oc_rws kV_rws dc_rws pm_rws cd_rws ct_rws : Value}
    {od_han an_han : Option Addr} {sl_han : Array (Option Value)} {oc_han kV_han dc_han pm_han cd_han ct_han : Value}
    {od_ref an_ref : Option Addr} {sl_ref : Array (Option Value)} {oc_ref kV_ref dc_ref pm_ref cd_ref ct_ref : Value}
    {od_lst an_lst : Option Addr} {sl_lst : Array (Option Value)} {oc_lst kV_lst dc_lst pm_lst cd_lst ct_lst : Value}
    {od_law an_law : Option Addr} {sl_law : Array (Option Value)} {oc_law kV_law dc_law pm_law cd_law ct_law : Value}
    (aC : PySem.W.nsIn K mainGlobals "Ratio" = some (some (.ref C)))
    (aZ : PySem.W.nsIn K mainGlobals "ByZero" = some (some (.ref CZ)))
    (aB : PySem.W.nsIn K mainGlobals "BadNumber" = some (some (.ref CB)))
    (aS : PySem.W.nsIn K mainGlobals "BadSystem" = some (some (.ref CS)))
    (n_isinstance : PySem.W.nsIn K mainGlobals "isinstance" = some none)
    (n_int : PySem.W.nsIn K mainGlobals "int" = some none)
    (n_bool : PySem.W.nsIn K mainGlobals "bool" = some none)
    (n_len : PySem.W.nsIn K mainGlobals "len" = some none)
    (n_abs : PySem.W.nsIn K mainGlobals "abs" = some none)
    (n_max : PySem.W.nsIn K mainGlobals "max" = some none)
    (n_min : PySem.W.nsIn K mainGlobals "min" = some none)
    (n_range : PySem.W.nsIn K mainGlobals "range" = some none)
    (n_zip : PySem.W.nsIn K mainGlobals "zip" = some none)
    (n_enumerate : PySem.W.nsIn K mainGlobals "enumerate" = some none)
    (n_list : PySem.W.nsIn K mainGlobals "list" = some none)
    (n_tuple : PySem.W.nsIn K mainGlobals "tuple" = some none)
    (aG : PySem.W.nsIn K mainGlobals "gcd" = some (some (.builtin "math.gcd")))
    (aL : PySem.W.nsIn K mainGlobals "lcm" = some (some (.builtin "math.lcm")))
    (a_ini : PySem.W.findIn K (.ref C) "__init__" = some (some (.ref f_ini)))
    (i_ini : PySem.W.isFn K (.ref f_ini) = true)
    (l_ini : K.lookup f_ini = some ⟨oc_ini, od_ini, .func (PySem.W.fnOf "__init__" "Ratio.__init__" (defArgs s_Ratio_init) (defBody s_Ratio_init) (defScope s_Ratio_init) dV_ini kV_ini dc_ini pm_ini an_ini cd_ini ct_ini), sl_ini⟩)
    (c_ini : PySem.W.codeIn K cd_ini "Ratio.__init__" = true)
    (k_ini : PySem.W.keepIn K (.ref f_ini) = true)
    (a_add : PySem.W.findIn K (.ref C) "__add__" = some (some (.ref f_add)))
    (i_add : PySem.W.isFn K (.ref f_add) = true)
    (l_add : K.lookup f_add = some ⟨oc_add, od_add, .func (PySem.W.fnOf "__add__" "Ratio.__add__" (defArgs s_Ratio_add) (defBody s_Ratio_add) (defScope s_Ratio_add) .none kV_add dc_add pm_add an_add cd_add ct_add), sl_add⟩)
    (c_add : PySem.W.codeIn K cd_add "Ratio.__add__" = true)
    (k_add : PySem.W.keepIn K (.ref f_add) = true)
    (a_mul : PySem.W.findIn K (.ref C) "__mul__" = some (some (.ref f_mul)))
    (i_mul : PySem.W.isFn K (.ref f_mul) = true)
    (l_mul : K.lookup f_mul = some ⟨oc_mul, od_mul, .func (PySem.W.fnOf "__mul__" "Ratio.__mul__" (defArgs s_Ratio_mul) (defBody s_Ratio_mul) (defScope s_Ratio_mul) .none kV_mul dc_mul pm_mul an_mul cd_mul ct_mul), sl_mul⟩)
    (c_mul : PySem.W.codeIn K cd_mul "Ratio.__mul__" = true)
    (k_mul : PySem.W.keepIn K (.ref f_mul) = true)
    (a_eq : PySem.W.findIn K (.ref C) "__eq__" = some (some (.ref f_eq)))
    (i_eq : PySem.W.isFn K (.ref f_eq) = true)
    (l_eq : K.lookup f_eq = some ⟨oc_eq, od_eq, .func (PySem.W.fnOf "__eq__" "Ratio.__eq__" (defArgs s_Ratio_eq) (defBody s_Ratio_eq) (defScope s_Ratio_eq) .none kV_eq dc_eq pm_eq an_eq cd_eq ct_eq), sl_eq⟩)
    (c_eq : PySem.W.codeIn K cd_eq "Ratio.__eq__" = true)
    (k_eq : PySem.W.keepIn K (.ref f_eq) = true)
    (a_lt : PySem.W.findIn K (.ref C) "__lt__" = some (some (.ref f_lt)))
    (i_lt : PySem.W.isFn K (.ref f_lt) = true)
    (l_lt : K.lookup f_lt = some ⟨oc_lt, od_lt, .func (PySem.W.fnOf "__lt__" "Ratio.__lt__" (defArgs s_Ratio_lt) (defBody s_Ratio_lt) (defScope s_Ratio_lt) .none kV_lt dc_lt pm_lt an_lt cd_lt ct_lt), sl_lt⟩)
    (c_lt : PySem.W.codeIn K cd_lt "Ratio.__lt__" = true)
    (k_lt : PySem.W.keepIn K (.ref f_lt) = true)
    (a_top : PySem.W.findIn K (.ref C) "top" = some (some (.ref p_top)))
    (g_top : PySem.W.specialIn K (.ref p_top) "__get__" = some (some (.builtin "property.__get__")))
    (t_top : PySem.W.takesIn K (.ref p_top) = some true)
    (r_top : ∃ rest, PySem.W.recIn K p_top "property" = some (.ref f_top :: rest))
    (l_top : K.lookup f_top = some ⟨oc_top, od_top, .func (PySem.W.fnOf "top" "Ratio.top" (defArgs s_Ratio_top) (defBody s_Ratio_top) (defScope s_Ratio_top) .none kV_top dc_top pm_top an_top cd_top ct_top), sl_top⟩)
    (c_top : PySem.W.codeIn K cd_top "Ratio.top" = true)
    (k_top : PySem.W.keepIn K (.ref f_top) = true)
    (a_bot : PySem.W.findIn K (.ref C) "bottom" = some (some (.ref p_bot)))
    (g_bot : PySem.W.specialIn K (.ref p_bot) "__get__" = some (some (.builtin "property.__get__")))
    (t_bot : PySem.W.takesIn K (.ref p_bot) = some true)
    (r_bot : ∃ rest, PySem.W.recIn K p_bot "property" = some (.ref f_bot :: rest))
    (l_bot : K.lookup f_bot = some ⟨oc_bot, od_bot, .func (PySem.W.fnOf "bottom" "Ratio.bottom" (defArgs s_Ratio_bottom) (defBody s_Ratio_bottom) (defScope s_Ratio_bottom) .none kV_bot dc_bot pm_bot an_bot cd_bot ct_bot), sl_bot⟩)
    (c_bot : PySem.W.codeIn K cd_bot "Ratio.bottom" = true)
    (k_bot : PySem.W.keepIn K (.ref f_bot) = true)
    (a_bni : PySem.W.findIn K (.ref CB) "__init__" = some (some (.ref f_bni)))
    (i_bni : PySem.W.typeIn K (.ref f_bni) = some (.type "function"))
    (l_bni : K.lookup f_bni = some ⟨oc_bni, od_bni, .func (PySem.W.fnOf "__init__" "BadNumber.__init__" (defArgs s_BadNumber_init) (defBody s_BadNumber_init) (defScope s_BadNumber_init) .none kV_bni dc_bni pm_bni an_bni cd_bni ct_bni), sl_bni⟩)
    (c_bni : PySem.W.codeIn K cd_bni "BadNumber.__init__" = true)
    (k_bni : PySem.W.keepIn K (.ref f_bni) = true)
    (a_who : PySem.W.nsIn K mainGlobals "is_whole" = some (some (.ref f_who)))
    (l_who : K.lookup f_who = some ⟨oc_who, od_who, .func (PySem.W.fnOf "is_whole" "is_whole" (defArgs s_is_whole) (defBody s_is_whole) (defScope s_is_whole) .none kV_who dc_who pm_who an_who cd_who ct_who), sl_who⟩)
    (c_who : PySem.W.codeIn K cd_who "is_whole" = true)
    (k_who : PySem.W.keepIn K (.ref f_who) = true)
    (a_asr : PySem.W.nsIn K mainGlobals "as_ratio" = some (some (.ref f_asr)))
    (l_asr : K.lookup f_asr = some ⟨oc_asr, od_asr, .func (PySem.W.fnOf "as_ratio" "as_ratio" (defArgs s_as_ratio) (defBody s_as_ratio) (defScope s_as_ratio) .none kV_asr dc_asr pm_asr an_asr cd_asr ct_asr), sl_asr⟩)
    (c_asr : PySem.W.codeIn K cd_asr "as_ratio" = true)
    (k_asr : PySem.W.keepIn K (.ref f_asr) = true)
    (a_tot : PySem.W.nsIn K mainGlobals "total" = some (some (.ref f_tot)))
    (l_tot : K.lookup f_tot = some ⟨oc_tot, od_tot, .func (PySem.W.fnOf "total" "total" (defArgs s_total) (defBody s_total) (defScope s_total) .none kV_tot dc_tot pm_tot an_tot cd_tot ct_tot), sl_tot⟩)
    (c_tot : PySem.W.codeIn K cd_tot "total" = true)
    (k_tot : PySem.W.keepIn K (.ref f_tot) = true)
    (a_sol : PySem.W.nsIn K mainGlobals "solved" = some (some (.ref f_sol)))
    (l_sol : K.lookup f_sol = some ⟨oc_sol, od_sol, .func (PySem.W.fnOf "solved" "solved" (defArgs s_solved) (defBody s_solved) (defScope s_solved) .none kV_sol dc_sol pm_sol an_sol cd_sol ct_sol), sl_sol⟩)
    (c_sol : PySem.W.codeIn K cd_sol "solved" = true)
    (k_sol : PySem.W.keepIn K (.ref f_sol) = true)
    (a_inv : PySem.W.nsIn K mainGlobals "inverse" = some (some (.ref f_inv)))
    (l_inv : K.lookup f_inv = some ⟨oc_inv, od_inv, .func (PySem.W.fnOf "inverse" "inverse" (defArgs s_inverse) (defBody s_inverse) (defScope s_inverse) .none kV_inv dc_inv pm_inv an_inv cd_inv ct_inv), sl_inv⟩)
    (c_inv : PySem.W.codeIn K cd_inv "inverse" = true)
    (k_inv : PySem.W.keepIn K (.ref f_inv) = true)
    (a_app : PySem.W.nsIn K mainGlobals "applied" = some (some (.ref f_app)))
    (l_app : K.lookup f_app = some ⟨oc_app, od_app, .func (PySem.W.fnOf "applied" "applied" (defArgs s_applied) (defBody s_applied) (defScope s_applied) .none kV_app dc_app pm_app an_app cd_app ct_app), sl_app⟩)
    (c_app : PySem.W.codeIn K cd_app "applied" = true)
    (k_app : PySem.W.keepIn K (.ref f_app) = true)
    (a_lep : PySem.W.nsIn K mainGlobals "least_place" = some (some (.ref f_lep)))
    (l_lep : K.lookup f_lep = some ⟨oc_lep, od_lep, .func (PySem.W.fnOf "least_place" "least_place" (defArgs s_least_place) (defBody s_least_place) (defScope s_least_place) .none kV_lep dc_lep pm_lep an_lep cd_lep ct_lep), sl_lep⟩)
    (c_lep : PySem.W.codeIn K cd_lep "least_place" = true)
    (k_lep : PySem.W.keepIn K (.ref f_lep) = true)
    (a_wei : PySem.W.nsIn K mainGlobals "weighed" = some (some (.ref f_wei)))
    (l_wei : K.lookup f_wei = some ⟨oc_wei, od_wei, .func (PySem.W.fnOf "weighed" "weighed" (defArgs s_weighed) (defBody s_weighed) (defScope s_weighed) .none kV_wei dc_wei pm_wei an_wei cd_wei ct_wei), sl_wei⟩)
    (c_wei : PySem.W.codeIn K cd_wei "weighed" = true)
    (k_wei : PySem.W.keepIn K (.ref f_wei) = true)
    (a_unr : PySem.W.nsIn K mainGlobals "_unit_rows" = some (some (.ref f_unr)))
    (l_unr : K.lookup f_unr = some ⟨oc_unr, od_unr, .func (PySem.W.fnOf "_unit_rows" "_unit_rows" (defArgs s_unit_rows) (defBody s_unit_rows) (defScope s_unit_rows) .none kV_unr dc_unr pm_unr an_unr cd_unr ct_unr), sl_unr⟩)
    (c_unr : PySem.W.codeIn K cd_unr "_unit_rows" = true)
    (k_unr : PySem.W.keepIn K (.ref f_unr) = true)
    (a_eli : PySem.W.nsIn K mainGlobals "_eliminated" = some (some (.ref f_eli)))
    (l_eli : K.lookup f_eli = some ⟨oc_eli, od_eli, .func (PySem.W.fnOf "_eliminated" "_eliminated" (defArgs s_eliminated) (defBody s_eliminated) (defScope s_eliminated) .none kV_eli dc_eli pm_eli an_eli cd_eli ct_eli), sl_eli⟩)
    (c_eli : PySem.W.codeIn K cd_eli "_eliminated" = true)
    (k_eli : PySem.W.keepIn K (.ref f_eli) = true)
    (a_whr : PySem.W.nsIn K mainGlobals "_whole_row" = some (some (.ref f_whr)))
    (l_whr : K.lookup f_whr = some ⟨oc_whr, od_whr, .func (PySem.W.fnOf "_whole_row" "_whole_row" (defArgs s_whole_row) (defBody s_whole_row) (defScope s_whole_row) .none kV_whr dc_whr pm_whr an_whr cd_whr ct_whr), sl_whr⟩)
    (c_whr : PySem.W.codeIn K cd_whr "_whole_row" = true)
    (k_whr : PySem.W.keepIn K (.ref f_whr) = true)
    (a_lea : PySem.W.nsIn K mainGlobals "_lead_place" = some (some (.ref f_lea)))
    (l_lea : K.lookup f_lea = some ⟨oc_lea, od_lea, .func (PySem.W.fnOf "_lead_place" "_lead_place" (defArgs s_lead_place) (defBody s_lead_place) (defScope s_lead_place) .none kV_lea dc_lea pm_lea an_lea cd_lea ct_lea), sl_lea⟩)
    (c_lea : PySem.W.codeIn K cd_lea "_lead_place" = true)
    (k_lea : PySem.W.keepIn K (.ref f_lea) = true)
    (a_cle : PySem.W.nsIn K mainGlobals "_cleared" = some (some (.ref f_cle)))
    (l_cle : K.lookup f_cle = some ⟨oc_cle, od_cle, .func (PySem.W.fnOf "_cleared" "_cleared" (defArgs s_cleared) (defBody s_cleared) (defScope s_cleared) .none kV_cle dc_cle pm_cle an_cle cd_cle ct_cle), sl_cle⟩)
    (c_cle : PySem.W.codeIn K cd_cle "_cleared" = true)
    (k_cle : PySem.W.keepIn K (.ref f_cle) = true)
    (a_cmb : PySem.W.nsIn K mainGlobals "_combined" = some (some (.ref f_cmb)))
    (l_cmb : K.lookup f_cmb = some ⟨oc_cmb, od_cmb, .func (PySem.W.fnOf "_combined" "_combined" (defArgs s_combined) (defBody s_combined) (defScope s_combined) .none kV_cmb dc_cmb pm_cmb an_cmb cd_cmb ct_cmb), sl_cmb⟩)
    (c_cmb : PySem.W.codeIn K cd_cmb "_combined" = true)
    (k_cmb : PySem.W.keepIn K (.ref f_cmb) = true)
    (a_cel : PySem.W.nsIn K mainGlobals "_law_cell" = some (some (.ref f_cel)))
    (l_cel : K.lookup f_cel = some ⟨oc_cel, od_cel, .func (PySem.W.fnOf "_law_cell" "_law_cell" (defArgs s_law_cell) (defBody s_law_cell) (defScope s_law_cell) .none kV_cel dc_cel pm_cel an_cel cd_cel ct_cel), sl_cel⟩)
    (c_cel : PySem.W.codeIn K cd_cel "_law_cell" = true)
    (k_cel : PySem.W.keepIn K (.ref f_cel) = true)
    (a_box : PySem.W.nsIn K mainGlobals "_law_box" = some (some (.ref f_box)))
    (l_box : K.lookup f_box = some ⟨oc_box, od_box, .func (PySem.W.fnOf "_law_box" "_law_box" (defArgs s_law_box) (defBody s_law_box) (defScope s_law_box) .none kV_box dc_box pm_box an_box cd_box ct_box), sl_box⟩)
    (c_box : PySem.W.codeIn K cd_box "_law_box" = true)
    (k_box : PySem.W.keepIn K (.ref f_box) = true)
    (a_tak : PySem.W.nsIn K mainGlobals "_law_take" = some (some (.ref f_tak)))
    (l_tak : K.lookup f_tak = some ⟨oc_tak, od_tak, .func (PySem.W.fnOf "_law_take" "_law_take" (defArgs s_law_take) (defBody s_law_take) (defScope s_law_take) .none kV_tak dc_tak pm_tak an_tak cd_tak ct_tak), sl_tak⟩)
    (c_tak : PySem.W.codeIn K cd_tak "_law_take" = true)
    (k_tak : PySem.W.keepIn K (.ref f_tak) = true)
    (a_fra : PySem.W.nsIn K mainGlobals "_law_frac" = some (some (.ref f_fra)))
    (l_fra : K.lookup f_fra = some ⟨oc_fra, od_fra, .func (PySem.W.fnOf "_law_frac" "_law_frac" (defArgs s_law_frac) (defBody s_law_frac) (defScope s_law_frac) .none kV_fra dc_fra pm_fra an_fra cd_fra ct_fra), sl_fra⟩)
    (c_fra : PySem.W.codeIn K cd_fra "_law_frac" = true)
    (k_fra : PySem.W.keepIn K (.ref f_fra) = true)
    (a_plu : PySem.W.nsIn K mainGlobals "_law_plus" = some (some (.ref f_plu)))
    (l_plu : K.lookup f_plu = some ⟨oc_plu, od_plu, .func (PySem.W.fnOf "_law_plus" "_law_plus" (defArgs s_law_plus) (defBody s_law_plus) (defScope s_law_plus) .none kV_plu dc_plu pm_plu an_plu cd_plu ct_plu), sl_plu⟩)
    (c_plu : PySem.W.codeIn K cd_plu "_law_plus" = true)
    (k_plu : PySem.W.keepIn K (.ref f_plu) = true)
    (a_tim : PySem.W.nsIn K mainGlobals "_law_times" = some (some (.ref f_tim)))
    (l_tim : K.lookup f_tim = some ⟨oc_tim, od_tim, .func (PySem.W.fnOf "_law_times" "_law_times" (defArgs s_law_times) (defBody s_law_times) (defScope s_law_times) .none kV_tim dc_tim pm_tim an_tim cd_tim ct_tim), sl_tim⟩)
    (c_tim : PySem.W.codeIn K cd_tim "_law_times" = true)
    (k_tim : PySem.W.keepIn K (.ref f_tim) = true)
    (a_lss : PySem.W.nsIn K mainGlobals "_law_less" = some (some (.ref f_lss)))
    (l_lss : K.lookup f_lss = some ⟨oc_lss, od_lss, .func (PySem.W.fnOf "_law_less" "_law_less" (defArgs s_law_less) (defBody s_law_less) (defScope s_law_less) .none kV_lss dc_lss pm_lss an_lss cd_lss ct_lss), sl_lss⟩)
    (c_lss : PySem.W.codeIn K cd_lss "_law_less" = true)
    (k_lss : PySem.W.keepIn K (.ref f_lss) = true)
    (a_tol : PySem.W.nsIn K mainGlobals "_law_told" = some (some (.ref f_tol)))
    (l_tol : K.lookup f_tol = some ⟨oc_tol, od_tol, .func (PySem.W.fnOf "_law_told" "_law_told" (defArgs s_law_told) (defBody s_law_told) (defScope s_law_told) .none kV_tol dc_tol pm_tol an_tol cd_tol ct_tol), sl_tol⟩)
    (c_tol : PySem.W.codeIn K cd_tol "_law_told" = true)
    (k_tol : PySem.W.keepIn K (.ref f_tol) = true)
    (a_row : PySem.W.nsIn K mainGlobals "_law_row" = some (some (.ref f_row)))
    (l_row : K.lookup f_row = some ⟨oc_row, od_row, .func (PySem.W.fnOf "_law_row" "_law_row" (defArgs s_law_row) (defBody s_law_row) (defScope s_law_row) .none kV_row dc_row pm_row an_row cd_row ct_row), sl_row⟩)
    (c_row : PySem.W.codeIn K cd_row "_law_row" = true)
    (k_row : PySem.W.keepIn K (.ref f_row) = true)
    (a_rat : PySem.W.nsIn K mainGlobals "_law_ratio" = some (some (.ref f_rat)))
    (l_rat : K.lookup f_rat = some ⟨oc_rat, od_rat, .func (PySem.W.fnOf "_law_ratio" "_law_ratio" (defArgs s_law_ratio) (defBody s_law_ratio) (defScope s_law_ratio) .none kV_rat dc_rat pm_rat an_rat cd_rat ct_rat), sl_rat⟩)
    (c_rat : PySem.W.codeIn K cd_rat "_law_ratio" = true)
    (k_rat : PySem.W.keepIn K (.ref f_rat) = true)
    (a_det : PySem.W.nsIn K mainGlobals "_law_determinant" = some (some (.ref f_det)))
    (l_det : K.lookup f_det = some ⟨oc_det, od_det, .func (PySem.W.fnOf "_law_determinant" "_law_determinant" (defArgs s_law_determinant) (defBody s_law_determinant) (defScope s_law_determinant) .none kV_det dc_det pm_det an_det cd_det ct_det), sl_det⟩)
    (c_det : PySem.W.codeIn K cd_det "_law_determinant" = true)
    (k_det : PySem.W.keepIn K (.ref f_det) = true)
    (a_sum : PySem.W.nsIn K mainGlobals "_law_sum" = some (some (.ref f_sum)))
    (l_sum : K.lookup f_sum = some ⟨oc_sum, od_sum, .func (PySem.W.fnOf "_law_sum" "_law_sum" (defArgs s_law_sum) (defBody s_law_sum) (defScope s_law_sum) .none kV_sum dc_sum pm_sum an_sum cd_sum ct_sum), sl_sum⟩)
    (c_sum : PySem.W.codeIn K cd_sum "_law_sum" = true)
    (k_sum : PySem.W.keepIn K (.ref f_sum) = true)
    (a_dra : PySem.W.nsIn K mainGlobals "_law_drawn" = some (some (.ref f_dra)))
    (l_dra : K.lookup f_dra = some ⟨oc_dra, od_dra, .func (PySem.W.fnOf "_law_drawn" "_law_drawn" (defArgs s_law_drawn) (defBody s_law_drawn) (defScope s_law_drawn) .none kV_dra dc_dra pm_dra an_dra cd_dra ct_dra), sl_dra⟩)
    (c_dra : PySem.W.codeIn K cd_dra "_law_drawn" = true)
    (k_dra : PySem.W.keepIn K (.ref f_dra) = true)
    (a_rws : PySem.W.nsIn K mainGlobals "_law_rows" = some (some (.ref f_rws)))
    (l_rws : K.lookup f_rws = some ⟨oc_rws, od_rws, .func (PySem.W.fnOf "_law_rows" "_law_rows" (defArgs s_law_rows) (defBody s_law_rows) (defScope s_law_rows) .none kV_rws dc_rws pm_rws an_rws cd_rws ct_rws), sl_rws⟩)
    (c_rws : PySem.W.codeIn K cd_rws "_law_rows" = true)
    (k_rws : PySem.W.keepIn K (.ref f_rws) = true)
    (a_han : PySem.W.nsIn K mainGlobals "_law_handed" = some (some (.ref f_han)))
    (l_han : K.lookup f_han = some ⟨oc_han, od_han, .func (PySem.W.fnOf "_law_handed" "_law_handed" (defArgs s_law_handed) (defBody s_law_handed) (defScope s_law_handed) .none kV_han dc_han pm_han an_han cd_han ct_han), sl_han⟩)
    (c_han : PySem.W.codeIn K cd_han "_law_handed" = true)
    (k_han : PySem.W.keepIn K (.ref f_han) = true)
    (a_ref : PySem.W.nsIn K mainGlobals "_law_refused" = some (some (.ref f_ref)))
    (l_ref : K.lookup f_ref = some ⟨oc_ref, od_ref, .func (PySem.W.fnOf "_law_refused" "_law_refused" (defArgs s_law_refused) (defBody s_law_refused) (defScope s_law_refused) .none kV_ref dc_ref pm_ref an_ref cd_ref ct_ref), sl_ref⟩)
    (c_ref : PySem.W.codeIn K cd_ref "_law_refused" = true)
    (k_ref : PySem.W.keepIn K (.ref f_ref) = true)
    (a_lst : PySem.W.nsIn K mainGlobals "_law_least" = some (some (.ref f_lst)))
    (l_lst : K.lookup f_lst = some ⟨oc_lst, od_lst, .func (PySem.W.fnOf "_law_least" "_law_least" (defArgs s_law_least) (defBody s_law_least) (defScope s_law_least) .none kV_lst dc_lst pm_lst an_lst cd_lst ct_lst), sl_lst⟩)
    (c_lst : PySem.W.codeIn K cd_lst "_law_least" = true)
    (k_lst : PySem.W.keepIn K (.ref f_lst) = true)
    (a_law : PySem.W.nsIn K mainGlobals "law" = some (some (.ref f_law)))
    (l_law : K.lookup f_law = some ⟨oc_law, od_law, .func (PySem.W.fnOf "law" "law" (defArgs s_law) (defBody s_law) (defScope s_law) .none kV_law dc_law pm_law an_law cd_law ct_law), sl_law⟩)
    (c_law : PySem.W.codeIn K cd_law "law" = true)
    (k_law : PySem.W.keepIn K (.ref f_law) = true)
    (d_ini : DflV K dV_ini [.int 1])
    (pg : PySem.W.plainGet K C Str.empty = true)
    (hd : PySem.W.hasDictIn K C = true)
    (po : PySem.W.plainOver K C = true)
    (sa : PySem.W.findIn K (.ref C) "__setattr__" = some (some (.builtin "object.__setattr__")))
    (mkC : PySem.W.makesIn K C = true)
    (kcC : PySem.W.keepIn K (.ref C) = true)
    (iha : PySem.W.findIn K (.ref C) "__class__" = some (some (.builtin "object.__class__")))
    (ihn : PySem.W.specialIn K (.builtin "object.__class__") "__get__" = some (some (.builtin "getset_descriptor.__get__")))
    (iht : PySem.W.takesIn K (.builtin "object.__class__") = some true)
    (ihm : PySem.W.mroIn K C (.type "object") = some true)
    (nt : PySem.W.findIn K (.ref C) "_top" = some none)
    (nb : PySem.W.findIn K (.ref C) "_bottom" = some none)
    (sf : PySem.W.selfFirst K C = true)
    (kk : PySem.W.kitOne K (.ref C) (.ref C) = some true)
    (ki : PySem.W.kitOne K (.ref C) (.type "int") = some false)
    (k1 : PySem.W.kitOne K (.type "int") (.ref C) = some false)
    (k2 : PySem.W.kitOne K (.type "bool") (.ref C) = some false)
    (k3 : PySem.W.kitOne K (.type "NoneType") (.ref C) = some false)
    (k4 : PySem.W.kitOne K (.type "str") (.ref C) = some false)
    (k5 : PySem.W.kitOne K (.type "list") (.ref C) = some false)
    (k6 : PySem.W.kitOne K (.type "tuple") (.ref C) = some false)
    (k7 : PySem.W.kitOne K (.type "dict") (.ref C) = some false)
    (o0A : PySem.W.findIn K (.ref C) "__radd__" = some none)
    (o1A : ∃ fo, PySem.W.findIn K (.type "int") "__add__" = some fo)
    (o2A : ∃ ro, PySem.W.findIn K (.type "int") "__radd__" = some ro)
    (o0M : PySem.W.findIn K (.ref C) "__rmul__" = some none)
    (o1M : ∃ fo, PySem.W.findIn K (.type "int") "__mul__" = some fo)
    (o2M : ∃ ro, PySem.W.findIn K (.type "int") "__rmul__" = some ro)
    (Zx : PySem.W.excIn K CZ veAll "ValueError.__new__" = true)
    (Zk : PySem.W.keepIn K (.ref CZ) = true)
    (Zs : PySem.W.subIn K (.ref CZ) (.type "BaseException") = some true)
    (Zt : PySem.W.typeIn K (.ref CZ) = some (.type "type"))
    (Sx : PySem.W.excIn K CS veAll "ValueError.__new__" = true)
    (Sk : PySem.W.keepIn K (.ref CS) = true)
    (Ss : PySem.W.subIn K (.ref CS) (.type "BaseException") = some true)
    (St : PySem.W.typeIn K (.ref CS) = some (.type "type"))
    (Se : PySem.W.exmOne K (.ref CS) (.ref CS) = some true)
    (bo : OexC K CB)
    (bg : PySem.W.findIn K (.ref CB) "given" = some none)
    : ∃ fd : FuncData, (∀ (s : Shared) (v : Value), BindsTo s fd ⟨[v], []⟩ [("_law_script", v)]) ∧ ∀ base : Heap, K.In base → base.Ns mainGlobals mg → FnGk l.prog w K mg base (L2.CX l.prog w) 8 fa fd ["_law_script"] (SpW ⟨K, C⟩ F_law) := by
  have e := hfa.symm.trans (PySem.W.mg_of X G a_law)
  cases e
  have U_ini : FunD K "__init__" "Ratio.__init__" (defArgs s_Ratio_init) (defBody s_Ratio_init) (defScope s_Ratio_init) [.int 1] [] f_ini _ := ⟨⟨_, _, _, _, _, _, _, _, _, _, rfl, l_ini, c_ini, d_ini, .inl rfl⟩, k_ini⟩
  obtain ⟨b_ini, ⟨t1, b_ini1⟩, bk_ini⟩ := init_binds U_ini
  have U_add := fun_mk (st := s_Ratio_add) l_add c_add k_add
  have b_add := U_add.binds (ps := ["self", "other"]) fun _ _ _ _ _ _ us hl => match us, hl with | [_, _], _ => rfl
  have U_mul := fun_mk (st := s_Ratio_mul) l_mul c_mul k_mul
  have b_mul := U_mul.binds (ps := ["self", "other"]) fun _ _ _ _ _ _ us hl => match us, hl with | [_, _], _ => rfl
  have U_eq := fun_mk (st := s_Ratio_eq) l_eq c_eq k_eq
  have b_eq := U_eq.binds (ps := ["self", "other"]) fun _ _ _ _ _ _ us hl => match us, hl with | [_, _], _ => rfl
  have U_lt := fun_mk (st := s_Ratio_lt) l_lt c_lt k_lt
  have b_lt := U_lt.binds (ps := ["self", "other"]) fun _ _ _ _ _ _ us hl => match us, hl with | [_, _], _ => rfl
  have U_top := fun_mk (st := s_Ratio_top) l_top c_top k_top
  have b_top := U_top.binds (ps := ["self"]) fun _ _ _ _ _ _ us hl => match us, hl with | [_], _ => rfl
  have U_bot := fun_mk (st := s_Ratio_bottom) l_bot c_bot k_bot
  have b_bot := U_bot.binds (ps := ["self"]) fun _ _ _ _ _ _ us hl => match us, hl with | [_], _ => rfl
  have U_bni := fun_mk (st := s_BadNumber_init) l_bni c_bni k_bni
  have b_bni := U_bni.binds (ps := ["self", "given"]) fun _ _ _ _ _ _ us hl => match us, hl with | [_, _], _ => rfl
  have U_who := fun_mk (st := s_is_whole) l_who c_who k_who
  have b_who := U_who.binds (ps := ["value"]) fun _ _ _ _ _ _ us hl => match us, hl with | [_], _ => rfl
  have U_asr := fun_mk (st := s_as_ratio) l_asr c_asr k_asr
  have b_asr := U_asr.binds (ps := ["given"]) fun _ _ _ _ _ _ us hl => match us, hl with | [_], _ => rfl
  have U_tot := fun_mk (st := s_total) l_tot c_tot k_tot
  have b_tot := U_tot.binds (ps := ["numbers"]) fun _ _ _ _ _ _ us hl => match us, hl with | [_], _ => rfl
  have U_sol := fun_mk (st := s_solved) l_sol c_sol k_sol
  have b_sol := U_sol.binds (ps := ["rows", "right"]) fun _ _ _ _ _ _ us hl => match us, hl with | [_, _], _ => rfl
  have U_inv := fun_mk (st := s_inverse) l_inv c_inv k_inv
  have b_inv := U_inv.binds (ps := ["rows"]) fun _ _ _ _ _ _ us hl => match us, hl with | [_], _ => rfl
  have U_app := fun_mk (st := s_applied) l_app c_app k_app
  have b_app := U_app.binds (ps := ["rows", "numbers"]) fun _ _ _ _ _ _ us hl => match us, hl with | [_, _], _ => rfl
  have U_lep := fun_mk (st := s_least_place) l_lep c_lep k_lep
  have b_lep := U_lep.binds (ps := ["numbers"]) fun _ _ _ _ _ _ us hl => match us, hl with | [_], _ => rfl
  have U_wei := fun_mk (st := s_weighed) l_wei c_wei k_wei
  have b_wei := U_wei.binds (ps := ["numbers", "weights"]) fun _ _ _ _ _ _ us hl => match us, hl with | [_, _], _ => rfl
  have U_unr := fun_mk (st := s_unit_rows) l_unr c_unr k_unr
  have b_unr := U_unr.binds (ps := ["size"]) fun _ _ _ _ _ _ us hl => match us, hl with | [_], _ => rfl
  have U_eli := fun_mk (st := s_eliminated) l_eli c_eli k_eli
  have b_eli := U_eli.binds (ps := ["rows", "sides"]) fun _ _ _ _ _ _ us hl => match us, hl with | [_, _], _ => rfl
  have U_whr := fun_mk (st := s_whole_row) l_whr c_whr k_whr
  have b_whr := U_whr.binds (ps := ["row"]) fun _ _ _ _ _ _ us hl => match us, hl with | [_], _ => rfl
  have U_lea := fun_mk (st := s_lead_place) l_lea c_lea k_lea
  have b_lea := U_lea.binds (ps := ["table", "place"]) fun _ _ _ _ _ _ us hl => match us, hl with | [_, _], _ => rfl
  have U_cle := fun_mk (st := s_cleared) l_cle c_cle k_cle
  have b_cle := U_cle.binds (ps := ["table", "place", "before"]) fun _ _ _ _ _ _ us hl => match us, hl with | [_, _, _], _ => rfl
  have U_cmb := fun_mk (st := s_combined) l_cmb c_cmb k_cmb
  have b_cmb := U_cmb.binds (ps := ["row", "chosen", "place", "before"]) fun _ _ _ _ _ _ us hl => match us, hl with | [_, _, _, _], _ => rfl
  have U_cel := fun_mk (st := s_law_cell) l_cel c_cel k_cel
  have b_cel := U_cel.binds (ps := ["_law_script", "_law_k"]) fun _ _ _ _ _ _ us hl => match us, hl with | [_, _], _ => rfl
  have U_box := fun_mk (st := s_law_box) l_box c_box k_box
  have b_box := U_box.binds (ps := ["_law_script", "_law_k"]) fun _ _ _ _ _ _ us hl => match us, hl with | [_, _], _ => rfl
  have U_tak := fun_mk (st := s_law_take) l_tak c_tak k_tak
  have b_tak := U_tak.binds (ps := ["_law_box_here", "_law_many"]) fun _ _ _ _ _ _ us hl => match us, hl with | [_, _], _ => rfl
  have U_fra := fun_mk (st := s_law_frac) l_fra c_fra k_fra
  have b_fra := U_fra.binds (ps := ["_law_up", "_law_down"]) fun _ _ _ _ _ _ us hl => match us, hl with | [_, _], _ => rfl
  have U_plu := fun_mk (st := s_law_plus) l_plu c_plu k_plu
  have b_plu := U_plu.binds (ps := ["_law_x", "_law_y"]) fun _ _ _ _ _ _ us hl => match us, hl with | [_, _], _ => rfl
  have U_tim := fun_mk (st := s_law_times) l_tim c_tim k_tim
  have b_tim := U_tim.binds (ps := ["_law_x", "_law_y"]) fun _ _ _ _ _ _ us hl => match us, hl with | [_, _], _ => rfl
  have U_lss := fun_mk (st := s_law_less) l_lss c_lss k_lss
  have b_lss := U_lss.binds (ps := ["_law_x", "_law_y"]) fun _ _ _ _ _ _ us hl => match us, hl with | [_, _], _ => rfl
  have U_tol := fun_mk (st := s_law_told) l_tol c_tol k_tol
  have b_tol := U_tol.binds (ps := ["_law_amount"]) fun _ _ _ _ _ _ us hl => match us, hl with | [_], _ => rfl
  have U_row := fun_mk (st := s_law_row) l_row c_row k_row
  have b_row := U_row.binds (ps := ["_law_numbers"]) fun _ _ _ _ _ _ us hl => match us, hl with | [_], _ => rfl
  have U_rat := fun_mk (st := s_law_ratio) l_rat c_rat k_rat
  have b_rat := U_rat.binds (ps := ["_law_x"]) fun _ _ _ _ _ _ us hl => match us, hl with | [_], _ => rfl
  have U_det := fun_mk (st := s_law_determinant) l_det c_det k_det
  have b_det := U_det.binds (ps := ["_law_lines"]) fun _ _ _ _ _ _ us hl => match us, hl with | [_], _ => rfl
  have U_sum := fun_mk (st := s_law_sum) l_sum c_sum k_sum
  have b_sum := U_sum.binds (ps := ["_law_row_here", "_law_numbers"]) fun _ _ _ _ _ _ us hl => match us, hl with | [_, _], _ => rfl
  have U_dra := fun_mk (st := s_law_drawn) l_dra c_dra k_dra
  have b_dra := U_dra.binds (ps := ["_law_box_here", "_law_size"]) fun _ _ _ _ _ _ us hl => match us, hl with | [_, _], _ => rfl
  have U_rws := fun_mk (st := s_law_rows) l_rws c_rws k_rws
  have b_rws := U_rws.binds (ps := ["_law_box_here", "_law_size"]) fun _ _ _ _ _ _ us hl => match us, hl with | [_, _], _ => rfl
  have U_han := fun_mk (st := s_law_handed) l_han c_han k_han
  have b_han := U_han.binds (ps := ["_law_lines"]) fun _ _ _ _ _ _ us hl => match us, hl with | [_], _ => rfl
  have U_ref := fun_mk (st := s_law_refused) l_ref c_ref k_ref
  have b_ref := U_ref.binds (ps := ["_law_lines", "_law_right_told"]) fun _ _ _ _ _ _ us hl => match us, hl with | [_, _], _ => rfl
  have U_lst := fun_mk (st := s_law_least) l_lst c_lst k_lst
  have b_lst := U_lst.binds (ps := ["_law_numbers"]) fun _ _ _ _ _ _ us hl => match us, hl with | [_], _ => rfl
  have U_law := fun_mk (st := s_law) l_law c_law k_law
  have b_law := U_law.binds (ps := ["_law_script"]) fun _ _ _ _ _ _ us hl => match us, hl with | [_], _ => rfl
  have cl : Cls K C := ⟨pg, hd, po, sa⟩
  have RC : RCls (Tab.mk K C).K mg (Tab.mk K C).C := ⟨⟨cl, iha, ihn, iht, ihm⟩, PySem.W.mg_of X G aC, nt, nb, sf, kk, ki, k1, k2, k3, k4, k5, k6, k7⟩
  have mfree : ∀ {x : Str}, PySem.W.nsIn K mainGlobals x = some none → mg x = none := fun h => PySem.W.mg_none_of X G h
  refine ⟨PySem.W.fnOf "law" "law" (defArgs s_law) (defBody s_law) (defScope s_law) .none kV_law dc_law pm_law an_law cd_law ct_law, fun s v => .of_eq rfl, fun base _ _ => ?_⟩
  have EZ : ErrC (Tab.mk K C).K mg "ByZero" CZ := ⟨PySem.W.mg_of X G aZ, Zx, Zk, Zs, Zt⟩
  have ES : ErrC (Tab.mk K C).K mg "BadSystem" CS := ⟨PySem.W.mg_of X G aS, Sx, Sk, Ss, St⟩
  have EB : ErrF l.prog w (Tab.mk K C).K mg base "BadNumber" "given" 1 CB := ⟨PySem.W.mg_of X G aB, bo, _, _, _, a_bni, i_bni, err_init U_bni sc_BadNumber_init rfl bo bg, b_bni⟩
  have mis := mfree n_isinstance
  have ml := mfree n_len
  have mr := mfree n_range
  have mz := mfree n_zip
  have me := mfree n_enumerate
  have Dwho : Df l.prog w (Tab.mk K C) mg base "is_whole" 1 f_who F_is_whole := ⟨FnGk.raw0 (ok_is_whole U_who RC mis (mfree n_int) (mfree n_bool)) b_who, PySem.W.mg_of X G a_who, k_who⟩
  have Iini := ok_Ratio_init (P := l.prog) (w := w) (T := Tab.mk K C) (base := base) (CZ := CZ) U_ini cl nt nb (PySem.W.mg_of X G aG) EZ
  have M : Mk (Tab.mk K C).K C f_ini := ⟨mkC, a_ini, i_ini, kcC⟩
  have MK2 : Dk l.prog w (Tab.mk K C) mg base C 1 f_ini (F_mk CZ) := ⟨M, Iini.raw0 b_ini⟩
  have MK1 : Dk l.prog w (Tab.mk K C) mg base C 1 f_ini F_mk1 := ⟨M, mk1_of Iini b_ini1⟩
  have DT : Dp l.prog w (Tab.mk K C) mg base C "top" 1 F_top := ⟨_, _, _, _, ⟨a_top, g_top, t_top, r_top⟩, ok_Ratio_top U_top RC, b_top⟩
  have DB : Dp l.prog w (Tab.mk K C) mg base C "bottom" 1 F_bottom := ⟨_, _, _, _, ⟨a_bot, g_bot, t_bot, r_bot⟩, ok_Ratio_bottom U_bot RC, b_bot⟩
  have Aasr := ok_as_ratio (P := l.prog) (w := w) (T := Tab.mk K C) (base := base) (CB := CB) (k := 1) U_asr RC mis Dwho EB MK1
  have AasN := FnGk.imp Aasr (spw_imp (F' := F_asN) fun ds c P R h => as_num ds c P R h)
  have Das : Df l.prog w (Tab.mk K C) mg base "as_ratio" 3 f_asr F_asN := ⟨FnGk.raw0 (AasN) b_asr, PySem.W.mg_of X G a_asr, k_asr⟩
  have Dadd : Dm l.prog w (Tab.mk K C) mg base C "__add__" 4 f_add (F_num2 (· + ·)) := ⟨FnGk.raw0 (ok_Ratio_add U_add RC Das DT DB MK2) b_add, a_add, i_add⟩
  have Dmul : Dm l.prog w (Tab.mk K C) mg base C "__mul__" 4 f_mul (F_num2 (· * ·)) := ⟨FnGk.raw0 (ok_Ratio_mul U_mul RC Das DT DB MK2) b_mul, a_mul, i_mul⟩
  have Deq : Dm l.prog w (Tab.mk K C) mg base C "__eq__" 3 f_eq F_eq := ⟨FnGk.raw0 (ok_Ratio_eq U_eq RC mis DT DB Dwho) b_eq, a_eq, i_eq⟩
  have Dlt : Dm l.prog w (Tab.mk K C) mg base C "__lt__" 4 f_lt (F_cmp fun p q => decide (p < q)) := ⟨FnGk.raw0 (ok_Ratio_lt U_lt RC Das DT DB MK2) b_lt, a_lt, i_lt⟩
  have OA : ROp (Tab.mk K C).K C .Add := ⟨o0A, o1A, o2A⟩
  have OM : ROp (Tab.mk K C).K C .Mult := ⟨o0M, o1M, o2M⟩
  have Dtot : Df l.prog w (Tab.mk K C) mg base "total" 5 f_tot F_total := ⟨FnGk.raw0 (ok_total U_tot RC MK1 Dadd OA) b_tot, PySem.W.mg_of X G a_tot, k_tot⟩
  have Dcel : Df l.prog w (Tab.mk K C) mg base "_law_cell" 1 f_cel F_cell := ⟨FnGk.raw0 (ok_law_cell U_cel ml) b_cel, PySem.W.mg_of X G a_cel, k_cel⟩
  have Dtak : Df l.prog w (Tab.mk K C) mg base "_law_take" 1 f_tak F_take := ⟨FnGk.raw0 (ok_law_take U_tak (mfree n_int)) b_tak, PySem.W.mg_of X G a_tak, k_tak⟩
  have Dfra : Df l.prog w (Tab.mk K C) mg base "_law_frac" 1 f_fra F_frac := ⟨FnGk.raw0 (ok_law_frac U_fra (mfree n_abs)) b_fra, PySem.W.mg_of X G a_fra, k_fra⟩
  have Dplu : Df l.prog w (Tab.mk K C) mg base "_law_plus" 2 f_plu (F_fr2 (· + ·)) := ⟨FnGk.raw0 (ok_law_plus U_plu Dfra) b_plu, PySem.W.mg_of X G a_plu, k_plu⟩
  have Dtim : Df l.prog w (Tab.mk K C) mg base "_law_times" 2 f_tim (F_fr2 (· * ·)) := ⟨FnGk.raw0 (ok_law_times U_tim Dfra) b_tim, PySem.W.mg_of X G a_tim, k_tim⟩
  have Dlss : Df l.prog w (Tab.mk K C) mg base "_law_less" 1 f_lss F_less := ⟨FnGk.raw0 (ok_law_less U_lss) b_lss, PySem.W.mg_of X G a_lss, k_lss⟩
  have Dtol : Df l.prog w (Tab.mk K C) mg base "_law_told" 3 f_tol F_told := ⟨FnGk.raw0 (ok_law_told U_tol RC DT DB) b_tol, PySem.W.mg_of X G a_tol, k_tol⟩
  have Drow : Df l.prog w (Tab.mk K C) mg base "_law_row" 3 f_row F_row := ⟨FnGk.raw0 (ok_law_row U_row RC DT DB) b_row, PySem.W.mg_of X G a_row, k_row⟩
  have Drat : Df l.prog w (Tab.mk K C) mg base "_law_ratio" 3 f_rat F_ratioL := ⟨FnGk.raw0 (ok_law_ratio U_rat RC MK2) b_rat, PySem.W.mg_of X G a_rat, k_rat⟩
  have Dsum : Df l.prog w (Tab.mk K C) mg base "_law_sum" 3 f_sum F_sum := ⟨FnGk.raw0 (ok_law_sum U_sum Dplu Dtim ml mr) b_sum, PySem.W.mg_of X G a_sum, k_sum⟩
  have Dhan : Df l.prog w (Tab.mk K C) mg base "_law_handed" 4 f_han F_handed := ⟨FnGk.raw0 (ok_law_handed U_han Drat) b_han, PySem.W.mg_of X G a_han, k_han⟩
  have Dwei : Df l.prog w (Tab.mk K C) mg base "weighed" 6 f_wei F_weighed := ⟨FnGk.raw0 (ok_weighed U_wei RC Das Dmul OM Dtot mz) b_wei, PySem.W.mg_of X G a_wei, k_wei⟩
  have Dapp : Df l.prog w (Tab.mk K C) mg base "applied" 7 f_app F_applied := ⟨FnGk.raw0 (ok_applied U_app Dwei) b_app, PySem.W.mg_of X G a_app, k_app⟩
  have Dwhr : Df l.prog w (Tab.mk K C) mg base "_whole_row" 4 f_whr F_whole_row := ⟨FnGk.raw0 (ok_whole_row U_whr RC Das DT DB (PySem.W.mg_of X G aL)) b_whr, PySem.W.mg_of X G a_whr, k_whr⟩
  have Dcmb : Df l.prog w (Tab.mk K C) mg base "_combined" 1 f_cmb F_combined := ⟨FnGk.raw0 (ok_combined U_cmb mz) b_cmb, PySem.W.mg_of X G a_cmb, k_cmb⟩
  have Dlea : Df l.prog w (Tab.mk K C) mg base "_lead_place" 1 f_lea (F_lead CS) := ⟨FnGk.raw0 (ok_lead_place U_lea ml mr ES) b_lea, PySem.W.mg_of X G a_lea, k_lea⟩
  have Dcle : DfN l.prog w (Tab.mk K C) mg base "_cleared" 2 f_cle F_cleared := ⟨FnGk.raw0 (ok_cleared U_cle Dcmb me) b_cle, PySem.W.mg_of X G a_cle, k_cle⟩
  have Dunr : Df l.prog w (Tab.mk K C) mg base "_unit_rows" 1 f_unr F_unit := ⟨FnGk.raw0 (ok_unit_rows U_unr mr) b_unr, PySem.W.mg_of X G a_unr, k_unr⟩
  have Deli : DfM l.prog w (Tab.mk K C) mg base "_eliminated" 5 f_eli (F_elim CS) := ⟨FnGk.raw0 (ok_eliminated U_eli RC ml mr mz Dwhr Dlea Dcle MK2) b_eli, PySem.W.mg_of X G a_eli, k_eli⟩
  have Asol := ok_solved (P := l.prog) (w := w) (T := Tab.mk K C) (base := base) (CS := CS) U_sol Deli
  have Dsol : Df l.prog w (Tab.mk K C) mg base "solved" 6 f_sol (F_solved CS) := ⟨FnGk.raw0 (Asol) b_sol, PySem.W.mg_of X G a_sol, k_sol⟩
  have DsolK : Dw l.prog w (Tab.mk K C) mg base "solved" 6 f_sol ["rows", "right"] false (F_solved CS) := ⟨Asol.keys (Fun.bk U_sol fun _ _ _ _ _ _ us ws l1 l2 => match us, ws, l1, l2 with | [], [_, _], _, _ => rfl), PySem.W.mg_of X G a_sol, k_sol⟩
  have Dinv : DfM l.prog w (Tab.mk K C) mg base "inverse" 6 f_inv (F_inverse CS) := ⟨FnGk.raw0 (ok_inverse U_inv ml Deli Dunr) b_inv, PySem.W.mg_of X G a_inv, k_inv⟩
  have Dlep : Df l.prog w (Tab.mk K C) mg base "least_place" 5 f_lep F_least := ⟨FnGk.raw0 (ok_least_place U_lep Das Dlt me) b_lep, PySem.W.mg_of X G a_lep, k_lep⟩
  have Dlst : Df l.prog w (Tab.mk K C) mg base "_law_least" 6 f_lst F_lleast := ⟨FnGk.raw0 (ok_law_least U_lst Drat Dlep Dlss) b_lst, PySem.W.mg_of X G a_lst, k_lst⟩
  have Dref : Df l.prog w (Tab.mk K C) mg base "_law_refused" 7 f_ref F_lrefused := ⟨FnGk.raw0 (ok_law_refused5 U_ref Dsol Dinv ES.m Se) b_ref, PySem.W.mg_of X G a_ref, k_ref⟩
  have Ddra : DfM l.prog w (Tab.mk K C) mg base "_law_drawn" 2 f_dra F_drawn := ⟨FnGk.raw0 (ok_law_drawn U_dra mr Dtak Dfra) b_dra, PySem.W.mg_of X G a_dra, k_dra⟩
  have Drws : Df l.prog w (Tab.mk K C) mg base "_law_rows" 3 f_rws F_rows := ⟨FnGk.raw0 (ok_law_rows U_rws mr (mfree n_list) Dtak Ddra Dplu Dtim) b_rws, PySem.W.mg_of X G a_rws, k_rws⟩
  have Ddet : ∀ n, n ≤ 4 → Df l.prog w (Tab.mk K C) mg base "_law_determinant" (n + 3) f_det (F_det n 96 6) := fun n hn => by
    have mk : ∀ (k : Nat) (F : Fw), FnGk l.prog w (Tab.mk K C).K mg base (L2.CX l.prog w) k f_det _ ["_law_lines"] (SpW (Tab.mk K C) F) → Df l.prog w (Tab.mk K C) mg base "_law_determinant" k f_det F := fun k F h => ⟨FnGk.raw0 h b_det, PySem.W.mg_of X G a_det, k_det⟩
    refine mk _ _ (ok_det U_det Dplu Dtim ml mr mk n 96 6 hn ?_)
    rcases (show n = 0 ∨ n = 1 ∨ n = 2 ∨ n = 3 ∨ n = 4 by omega) with rfl | rfl | rfl | rfl | rfl <;> decide
  have Bx := FnGk.raw0 (ok_law_box (P := l.prog) (w := w) (T := Tab.mk K C) (base := base) U_box (mfree n_abs) (mfree n_int) Dcel) b_box
  exact ok_law5 U_law ⟨CS, _, _, _, _, _, _, _, _, _, _, _, _, _, _, _, _, _, _, RC, Bx, PySem.W.mg_of X G a_box, k_box, mr, mfree n_max, mfree n_min, ml, mfree n_tuple, Dtak, Dfra, Drws, Dsum, Dhan, Drat, Drow, Dapp, Ddet, Dref, Dsol, DsolK, Dinv, Dwei, Dtol, Dlst, Dlep, Deq⟩
end Q
end

section
set_option Elab.async false
set_option linter.all false
set_option maxRecDepth 100000
set_option maxHeartbeats 1100000
namespace Q
open L2 PySem PySem.Spec PyProof.Rows
/-- the goal that k_head leaves -/
theorem walk_ofC {k : Nat} {x : Str} {l : PySem.W.OpenLaw} {q : Program} {loose : List Str} {XP : (Str → Option Value) → Heap → Prop} {YP : World → Heap → Prop} {d : DefRec} {K : Params → PySem.W.Frag} (hn : l.most = some 63) (hdf : d.params.defaults = []) (hr : RoomG k callerA) (hY : ∀ (w : World) (h : Heap), YP w h → (K w.params).In h)
    (F : ∀ (w : World) (mg : Str → Option Value) (fa : Addr) (g : Heap), (K w.params).In g → g.Ns mainGlobals mg → mg d.name = some (.ref fa) →
      ∃ (C : Addr) (fd : FuncData), (∀ (s : Shared) (u : Value), BindsTo s fd ⟨[u], []⟩ [(x, u)]) ∧ ∀ base : Heap, (K w.params).In base → base.Ns mainGlobals mg → FnGk l.prog w (K w.params) mg base (L2.CX l.prog w) k fa fd [x] (SpW ⟨K w.params, C⟩ F_law)) :
    PySem.W.WalkO q loose XP YP l.row.toRowW d []
      (fun f vs => PySem.call f vs) := by
  refine Att.attach_call hn hdf fun w s0 s1 mg mb fa o pm cd doc a vs ns G Y ho hd hcd hmg hobj hints hlen hg => ?_
  have KX := hY w _ Y
  obtain ⟨C, fd, hb, hF⟩ := F w mg fa _ KX G.T.g hmg
  have h63 : ns.length ≤ 100000 := Nat.le_trans hlen (by decide)
  have lz : ns.length ≤ sizeLine := Nat.le_trans hlen (by decide)
  have rv := L2.vals_ints hints
  have nl := hints.length
  have go : ∀ {H : Hp}, JustA l.prog w (K w.params) a s1.heap H → SqL (K w.params) H a (ns.map V.int) → codeAny (model l.prog w) callerA (.call (.ref fa) ⟨[.ref a], []⟩) (Fine s1) s1 := fun J hS =>
    call_just (T := ⟨K w.params, C⟩) KX G.T.g G.T.b G.T.builtins G.T.nolimit hg hobj rfl hr hF hb J hS h63
  cases hk : (K w.params).lookup a with
  | some ob =>
    have e := KX a ob hk
    rw [hobj] at e
    cases e
    refine go (H := fun _ => none) ⟨(fun b u z => by cases z), (fun b z => (z rfl).elim), (fun z => (z rfl).elim), (fun b z => (z rfl).elim)⟩ (.inr ⟨_, vs.toArray, _, hk, rfl, rfl, rfl, ?_, by simpa using rv⟩)
    rw [List.size_toArray, nl]
    exact lz
  | none =>
    refine go (H := upd (fun _ => none) a (.frz { cls := .type "list", data := .seq vs.toArray } (.lst (ns.map V.int)))) ⟨fun b u z => ?_, fun b z => ?_, fun _ => hk, fun b z => ?_⟩ (.inl (.inr ⟨_, upd_same⟩))
    · by_cases e : b = a
      · subst e
        rw [upd_same] at z
        cases z
        exact ⟨hobj, by rw [List.length_map]; exact lz, vs, _, rv, hobj⟩
      · rw [upd_ne e] at z
        cases z
    · by_cases e : b = a
      · exact e
      · rw [upd_ne e] at z
        exact (z rfl).elim
    · by_cases e : b = a
      · subst e
        exact ⟨_, _, upd_same⟩
      · rw [upd_ne e] at z
        exact (z rfl).elim
section
open PySem.W
variable {K : PySem.W.Frag} {S : Addr} {T : String} {v : Bool}
/-- a class is one of itself -/
theorem kit_self : kitOne K (.ref S) (.ref S) = some true := by
  unfold kitOne
  exact if_pos (beq_self_eq_true (Value.ref S))
/-- an own class below a class of Python's -/
theorem kit_ty (n : kitMeta T = true) (h : subIn K (.ref S) (.type T) = some v) : kitOne K (.ref S) (.type T) = some v := by
  unfold kitOne
  refine (if_neg (by intro z; cases z)).trans ?_
  exact (if_pos n).trans h
/-- a class of Python's below an own class -/
theorem kit_cl (n : isClsIn K S = true) (t : typeIn K (.ref S) = some (.type "type")) (h : subIn K (.type T) (.ref S) = some v) : kitOne K (.type T) (.ref S) = some v := by
  unfold kitOne
  refine (if_neg (by intro z; cases z)).trans ?_
  have n' : (clsIn K S).isSome = true := n
  exact (if_pos (by rw [n', t]; rfl)).trans h
/-- what «except S» catches of S -/
theorem exm_one (b : subIn K (.ref S) (.type "BaseException") = some true) (n : isClsIn K S = true) (t : typeIn K (.ref S) = some (.type "type")) (h : subIn K (.ref S) (.ref S) = some true) : exmOne K (.ref S) (.ref S) = some true := by
  have n' : (clsIn K S).isSome = true := n
  unfold exmOne
  refine (if_pos (by rw [b]; rfl)).trans ?_
  exact (if_pos (by rw [n', t]; rfl)).trans h
/-- one integer as the default -/
theorem dfl_int {X : Addr} {o : Obj} {i : Int} {t : Tok} {n : Nat} (h : K.lookup X = some o) (e : o.data = .seq #[.int i t] n) : DflV K (.ref X) [.int i] :=
  .inr ⟨List.cons_ne_nil _ _, X, o, [.int i t], n, rfl, h, e, .cons ⟨t, rfl⟩ .nil⟩
end
end Q
open PyProof.Rows PySem PySem.W
set_option maxRecDepth 99999 in
set_option maxHeartbeats 0 in
theorem PySem.Challenge.cw_paystreams_k05_systems_holds : PySem.Challenge.rw_paystreams_k05_systems.Holds := by
  w_on; o_law; k_head; (case hw => w_witness2)
  k_fill
  refine Q.walk_ofC (l := PySem.Challenge.rw_paystreams_k05_systems) (k := 8) (x := "_law_script") rfl rfl ⟨⟨rfl, by decide, by decide⟩, rfl⟩ (fun w h Y => PySem.W.kIn_of Y) ?F
  case F =>
    intro w mg fa h KX G hmg
    refine' ⟨_, Q.all_k05 KX G hmg ?aC ?aZ ?aB ?aS ?n_isinstance ?n_int ?n_bool ?n_len ?n_abs ?n_max ?n_min ?n_range ?n_zip ?n_enumerate ?n_list ?n_tuple ?aG ?aL ?a_ini ?i_ini ?l_ini ?c_ini ?k_ini ?a_add ?i_add ?l_add ?c_add ?k_add ?a_mul ?i_mul ?l_mul ?c_mul ?k_mul ?a_eq ?i_eq ?l_eq ?c_eq ?k_eq ?a_lt ?i_lt ?l_lt ?c_lt ?k_lt ?a_top ?g_top ?t_top ?r_top ?l_top ?c_top ?k_top ?a_bot ?g_bot ?t_bot ?r_bot ?l_bot ?c_bot ?k_bot ?a_bni ?i_bni ?l_bni ?c_bni ?k_bni ?a_who ?l_who ?c_who ?k_who ?a_asr ?l_asr ?c_asr ?k_asr ?a_tot ?l_tot ?c_tot ?k_tot ?a_sol ?l_sol ?c_sol ?k_sol ?a_inv ?l_inv ?c_inv ?k_inv ?a_app ?l_app ?c_app ?k_app ?a_lep ?l_lep ?c_lep ?k_lep ?a_wei ?l_wei ?c_wei ?k_wei ?a_unr ?l_unr ?c_unr ?k_unr ?a_eli ?l_eli ?c_eli ?k_eli ?a_whr ?l_whr ?c_whr ?k_whr ?a_lea ?l_lea ?c_lea ?k_lea ?a_cle ?l_cle ?c_cle ?k_cle ?a_cmb ?l_cmb ?c_cmb ?k_cmb ?a_cel ?l_cel ?c_cel ?k_cel ?a_box ?l_box ?c_box ?k_box ?a_tak ?l_tak ?c_tak ?k_tak ?a_fra ?l_fra ?c_fra ?k_fra ?a_plu ?l_plu ?c_plu ?k_plu ?a_tim ?l_tim ?c_tim ?k_tim ?a_lss ?l_lss ?c_lss ?k_lss ?a_tol ?l_tol ?c_tol ?k_tol ?a_row ?l_row ?c_row ?k_row ?a_rat ?l_rat ?c_rat ?k_rat ?a_det ?l_det ?c_det ?k_det ?a_sum ?l_sum ?c_sum ?k_sum ?a_dra ?l_dra ?c_dra ?k_dra ?a_rws ?l_rws ?c_rws ?k_rws ?a_han ?l_han ?c_han ?k_han ?a_ref ?l_ref ?c_ref ?k_ref ?a_lst ?l_lst ?c_lst ?k_lst ?a_law ?l_law ?c_law ?k_law ?d_ini ?pg ?hd ?po ?sa ?mkC ?kcC ?iha ?ihn ?iht ?ihm ?nt ?nb ?sf ?kk ?ki ?k1 ?k2 ?k3 ?k4 ?k5 ?k6 ?k7 ?o0A ?o1A ?o2A ?o0M ?o1M ?o2M ?Zx ?Zk ?Zs ?Zt ?Sx ?Sk ?Ss ?St ?Se ?bo ?bg⟩
    (case aC => k_is)
    (case aZ => k_is)
    (case aB => k_is)
    (case aS => k_is)
    (case n_isinstance => k_is)
    (case n_int => k_is)
    (case n_bool => k_is)
    (case n_len => k_is)
    (case n_abs => k_is)
    (case n_max => k_is)
    (case n_min => k_is)
    (case n_range => k_is)
    (case n_zip => k_is)
    (case n_enumerate => k_is)
    (case n_list => k_is)
    (case n_tuple => k_is)
    (case aG => k_is)
    (case aL => k_is)
    (case a_ini => k_is)
    (case i_ini => k_is)
    (case l_ini => k_is)
    (case c_ini => k_is)
    (case k_ini => k_is)
    (case a_add => k_is)
    (case i_add => k_is)
    (case l_add => k_is)
    (case c_add => k_is)
    (case k_add => k_is)
    (case a_mul => k_is)
    (case i_mul => k_is)
    (case l_mul => k_is)
    (case c_mul => k_is)
    (case k_mul => k_is)
    (case a_eq => k_is)
    (case i_eq => k_is)
    (case l_eq => k_is)
    (case c_eq => k_is)
    (case k_eq => k_is)
    (case a_lt => k_is)
    (case i_lt => k_is)
    (case l_lt => k_is)
    (case c_lt => k_is)
    (case k_lt => k_is)
    (case a_top => k_is)
    (case g_top => k_is)
    (case t_top => k_is)
    (case r_top => exact ⟨_, by k_is⟩)
    (case l_top => k_is)
    (case c_top => k_is)
    (case k_top => k_is)
    (case a_bot => k_is)
    (case g_bot => k_is)
    (case t_bot => k_is)
    (case r_bot => exact ⟨_, by k_is⟩)
    (case l_bot => k_is)
    (case c_bot => k_is)
    (case k_bot => k_is)
    (case a_bni => k_is)
    (case i_bni => k_is)
    (case l_bni => k_is)
    (case c_bni => k_is)
    (case k_bni => k_is)
    (case a_who => k_is)
    (case l_who => k_is)
    (case c_who => k_is)
    (case k_who => k_is)
    (case a_asr => k_is)
    (case l_asr => k_is)
    (case c_asr => k_is)
    (case k_asr => k_is)
    (case a_tot => k_is)
    (case l_tot => k_is)
    (case c_tot => k_is)
    (case k_tot => k_is)
    (case a_sol => k_is)
    (case l_sol => k_is)
    (case c_sol => k_is)
    (case k_sol => k_is)
    (case a_inv => k_is)
    (case l_inv => k_is)
    (case c_inv => k_is)
    (case k_inv => k_is)
    (case a_app => k_is)
    (case l_app => k_is)
    (case c_app => k_is)
    (case k_app => k_is)
    (case a_lep => k_is)
    (case l_lep => k_is)
    (case c_lep => k_is)
    (case k_lep => k_is)
    (case a_wei => k_is)
    (case l_wei => k_is)
    (case c_wei => k_is)
    (case k_wei => k_is)
    (case a_unr => k_is)
    (case l_unr => k_is)
    (case c_unr => k_is)
    (case k_unr => k_is)
    (case a_eli => k_is)
    (case l_eli => k_is)
    (case c_eli => k_is)
    (case k_eli => k_is)
    (case a_whr => k_is)
    (case l_whr => k_is)
    (case c_whr => k_is)
    (case k_whr => k_is)
    (case a_lea => k_is)
    (case l_lea => k_is)
    (case c_lea => k_is)
    (case k_lea => k_is)
    (case a_cle => k_is)
    (case l_cle => k_is)
    (case c_cle => k_is)
    (case k_cle => k_is)
    (case a_cmb => k_is)
    (case l_cmb => k_is)
    (case c_cmb => k_is)
    (case k_cmb => k_is)
    (case a_cel => k_is)
    (case l_cel => k_is)
    (case c_cel => k_is)
    (case k_cel => k_is)
    (case a_box => k_is)
    (case l_box => k_is)
    (case c_box => k_is)
    (case k_box => k_is)
    (case a_tak => k_is)
    (case l_tak => k_is)
    (case c_tak => k_is)
    (case k_tak => k_is)
    (case a_fra => k_is)
    (case l_fra => k_is)
    (case c_fra => k_is)
    (case k_fra => k_is)
    (case a_plu => k_is)
    (case l_plu => k_is)
    (case c_plu => k_is)
    (case k_plu => k_is)
    (case a_tim => k_is)
    (case l_tim => k_is)
    (case c_tim => k_is)
    (case k_tim => k_is)
    (case a_lss => k_is)
    (case l_lss => k_is)
    (case c_lss => k_is)
    (case k_lss => k_is)
    (case a_tol => k_is)
    (case l_tol => k_is)
    (case c_tol => k_is)
    (case k_tol => k_is)
    (case a_row => k_is)
    (case l_row => k_is)
    (case c_row => k_is)
    (case k_row => k_is)
    (case a_rat => k_is)
    (case l_rat => k_is)
    (case c_rat => k_is)
    (case k_rat => k_is)
    (case a_det => k_is)
    (case l_det => k_is)
    (case c_det => k_is)
    (case k_det => k_is)
    (case a_sum => k_is)
    (case l_sum => k_is)
    (case c_sum => k_is)
    (case k_sum => k_is)
    (case a_dra => k_is)
    (case l_dra => k_is)
    (case c_dra => k_is)
    (case k_dra => k_is)
    (case a_rws => k_is)
    (case l_rws => k_is)
    (case c_rws => k_is)
    (case k_rws => k_is)
    (case a_han => k_is)
    (case l_han => k_is)
    (case c_han => k_is)
    (case k_han => k_is)
    (case a_ref => k_is)
    (case l_ref => k_is)
    (case c_ref => k_is)
    (case k_ref => k_is)
    (case a_lst => k_is)
    (case l_lst => k_is)
    (case c_lst => k_is)
    (case k_lst => k_is)
    (case a_law => k_is)
    (case l_law => k_is)
    (case c_law => k_is)
    (case k_law => k_is)
    (case d_ini => (refine' Q.dfl_int ?dl ?dd; (case dl => k_is); (case dd => rfl)))
    (case pg => k_is)
    (case hd => k_is)
    (case po => k_is)
    (case sa => k_is)
    (case mkC => k_is)
    (case kcC => k_is)
    (case iha => k_is)
    (case ihn => k_is)
    (case iht => k_is)
    (case ihm => k_is)
    (case nt => k_is)
    (case nb => k_is)
    (case sf => k_is)
    (case kk => exact Q.kit_self)
    (case ki => exact Q.kit_ty (by decide +kernel) (by k_is))
    (case k1 => exact Q.kit_cl (by k_is) (by k_is) (by k_is))
    (case k2 => exact Q.kit_cl (by k_is) (by k_is) (by k_is))
    (case k3 => exact Q.kit_cl (by k_is) (by k_is) (by k_is))
    (case k4 => exact Q.kit_cl (by k_is) (by k_is) (by k_is))
    (case k5 => exact Q.kit_cl (by k_is) (by k_is) (by k_is))
    (case k6 => exact Q.kit_cl (by k_is) (by k_is) (by k_is))
    (case k7 => exact Q.kit_cl (by k_is) (by k_is) (by k_is))
    (case o0A => k_is)
    (case o1A => exact ⟨_, by k_is⟩)
    (case o2A => exact ⟨_, by k_is⟩)
    (case o0M => k_is)
    (case o1M => exact ⟨_, by k_is⟩)
    (case o2M => exact ⟨_, by k_is⟩)
    (case Zx => k_exc)
    (case Zk => k_is)
    (case Zs => k_is)
    (case Zt => k_is)
    (case Sx => k_exc)
    (case Sk => k_is)
    (case Ss => k_is)
    (case St => k_is)
    (case Se => exact Q.exm_one (by k_is) (by k_is) (by k_is) (by first | rfl | k_is))
    (case bo => exact ⟨⟨_, _, _, _, _, _, _, _, _, _, _, _, _, _, _, by k_is, by rfl⟩, by k_is, by k_is, by k_is, by k_is⟩)
    (case bg => k_is)
end
