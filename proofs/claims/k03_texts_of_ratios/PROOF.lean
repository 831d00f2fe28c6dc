import PyProof.Rows.All
import Wide.All
import OpenK.AllK
import Wide.FinOn
import HandS.ForMost
import HandS.More
import HandS.WordsExc
import HandS.Defaults
import HandS.Exc
import HandS.TryOnly
import HandS.ExcOwn
import HandS.Wide
import HandS.Flow
import HandS.ExcInit
import HandS.ExcValue
import HandS.SlotsOwn
import HandS.Property
import HandS.IsInst
import HandS.Gcd
import KE.KOpsOwn
import HandS.WideBits
import PyProof.InstEq
import HandS.ExcField
import PyProof.ReprRoads
import HandS.MakeKwOnly
import HandS.Comp
import HandS.Ends
import KE.KExcIs
import HandS.ExcIs
import HandS.Rev
import HandS.MapObj
import HandS.Text
import HandS.Strs
import HandS.Codes
import PyProof.StrLawsTight
import KE.KIntText
import HandS.Iter
import HandS.FStr
import HandS.StrMore
import HandS.Steps
import HandS.ClsMeth
import HandS.MakeKw
import PySem.Challenge.RW_paystreams_k03_texts_of_ratios
section
set_option Elab.async false
set_option linter.all false
set_option maxRecDepth 100000
set_option maxHeartbeats 3900000
/-! W0: defs that run where no guard stands (repr asks that); the end of a law over such defs. -/
namespace Q
open L2 PySem PySem.Spec PyProof.Rows

structure RoomG (k : Nat) (A : Around) : Prop where
  r : Room k A
  g : A.guards = some []
theorem RoomG.mono {j k : Nat} {A : Around} (h : RoomG j A) (e : k ≤ j) : RoomG k A := ⟨h.r.mono e, h.g⟩
theorem RoomG.in1 {k : Nat} {A : Around} (h : RoomG (k + 1) A) : RoomG k A.in1 := ⟨h.r.in1, h.g⟩
theorem RoomG.deeper {k : Nat} {A : Around} (h : RoomG (k + 1) A) (env : Env) : RoomG k (A.deeper env) := ⟨h.r.deeper env, h.g⟩
theorem RoomG.make {k : Nat} {A : Around} (h : RoomG (k + 1) A) (C : Addr) (us : List Value) (kw : List (Str × Value)) : RoomG k (A.under (.builtin "type.__call__" ⟨.ref C :: us, kw⟩)) :=
  ⟨h.r.make C us kw, by
    show pushGuards (Code.builtin "type.__call__" ⟨.ref C :: us, kw⟩).guards A.guards = some []
    rw [h.g]
    rfl⟩
/-- a def's promise, kept where no guard stands -/
structure FnGk (P : Program) (w : World) (K : PySem.W.Frag) (mg : Str → Option Value) (base : Heap) (CX : CXT) (k : Nat) (f : Addr) (fd : FuncData) (ps : List Str) (sp : Sp) : Prop where
  len : ∀ us H Q E, sp us H Q E → us.length = ps.length
  run : ∀ (A : Around) (outer : List Env) (s : Shared) (H : Hp) (args : Args) (us : List Value) (vs : List V) (Q : VK) (E : XK), RoomG k A → Env0 P w K mg base A outer s H → BindsTo s fd args (ps.zip us) → Vals vs us →
    sp vs H Q E → codeAny (model P w) A (.call (.ref f) args) (CR CX outer P w H s Q E) s
def FnG (P : Program) (w : World) (K : PySem.W.Frag) (mg : Str → Option Value) (base : Heap) (CX : CXT) (k : Nat) (f : Addr) (sp : Sp) : Prop :=
  ∀ (A : Around) (outer : List Env) (s : Shared) (H : Hp) (us : List Value) (vs : List V) (Q : VK) (E : XK), RoomG k A → Env0 P w K mg base A outer s H → Vals vs us → sp vs H Q E →
    codeAny (model P w) A (.call (.ref f) ⟨us, []⟩)
      (CR CX outer P w H s Q E) s
section
variable {P : Program} {w : World} {K : PySem.W.Frag} {mg : Str → Option Value} {base : Heap} {CX : CXT} {k : Nat} {f : Addr} {fd : FuncData} {ps : List Str} {sp sp' : Sp}
theorem gk (F : FnOk P w K mg base CX k f fd ps sp) : FnGk P w K mg base CX k f fd ps sp := ⟨F.len, fun A outer s H as us vs Q E hr => F.run A outer s H as us vs Q E hr.r⟩
theorem gr (F : FnR P w K mg base CX k f sp) : FnG P w K mg base CX k f sp := fun A outer s H us vs Q E hr => F A outer s H us vs Q E hr.r
theorem FnG.imp (F : FnG P w K mg base CX k f sp) (h : ∀ vs H Q E, sp' vs H Q E → sp vs H Q E) : FnG P w K mg base CX k f sp' := fun A outer s H us vs Q E hr e r q => F A outer s H us vs Q E hr e r (h _ _ _ _ q)
theorem FnGk.raw {ds : List Value} {dvs : List V} (F : FnGk P w K mg base CX k f fd ps sp) (hb : Binds K fd ps ds) (hd : Vals dvs ds) : FnG P w K mg base CX k f (fun vs H Q E => sp (vs ++ dvs) H Q E) := by
  intro A outer s H us vs Q E room e0 r q
  have both : Vals (vs ++ dvs) (us ++ ds) := r.append hd
  have n := F.len _ _ _ _ q
  rw [both.length] at n
  have kin := e0.mod.kin.keeps fun b o e => (e0.bs b o e).1
  exact F.run A outer s H ⟨us, []⟩ (us ++ ds) (vs ++ dvs) Q E room e0 (hb s us kin n) both q
theorem FnGk.raw0 (F : FnGk P w K mg base CX k f fd ps sp) (hb : Binds K fd ps []) : FnG P w K mg base CX k f sp := by
  have h := F.raw hb (dvs := []) .nil
  exact h.imp fun vs H Q E q => by rw [List.append_nil]; exact q
/-- the rule for a def, where no guard stands -/
theorem fn_ofG {qual name : Str} {params : Arguments} {body : List Stmt} {scope : Scope} {dV kV doc pm cdv ct oc : Value} {an od : Option Addr} {sl : Array (Option Value)} {N : List Str}
    (look : K.lookup f = some ⟨oc, od, .func (PySem.W.fnOf name qual params body scope dV kV doc pm an cdv ct), sl⟩) (code : PySem.W.codeIn K cdv qual = true) (S : FnScope N ps scope) (len : ∀ vs H Q E, sp vs H Q E → vs.length = ps.length)
    (go : ∀ (A : Around) (outer : List Env) (s : Shared) (H : Hp) (vs : List V) (Q : VK) (E : XK), RoomG k (A.deeper (envOfC qual scope s.heap.objs.size f cdv)) → sp vs H Q E →
      ∃ t, PSs (cxOf CX P w K mg base N qual scope f cdv A outer s H E) body t ∧ t ⟨fun _ H' => Q .non H', Q, fun _ _ => False, fun _ _ => False⟩ (L2.start N vs) H) :
    FnGk P w K mg base CX (k + 1) f (PySem.W.fnOf name qual params body scope dV kV doc pm an cdv ct) ps sp := by
  constructor
  case len => exact len
  case run =>
    intro A outer s H as us vs Q E room e0 bind r q
    have n := len _ _ _ _ q
    have old : ∀ b o, base.get? b = some o → s.heap.get? b = some o := fun b o e => (e0.bs b o e).1
    have kin : K.In s.heap := e0.mod.kin.keeps old
    have lim : s.heap.NoLimit := e0.mod.nolimit.keeps old
    have kinds : ∀ y ∈ ps.zip us, scope.names.lookup y.1 = some .local ∨ (scope.names.lookup y.1 = some .cell ∧ ((cellsFrom (s.heap.objs.size + 1) scope.names []).lookup y.1).isSome = true) := by
      rintro ⟨y, v⟩ hy
      exact (S.par y (List.of_mem_zip hy).1).imp id fun z => ⟨z, PySem.W.cellsFrom_some _ _ _ (.inl z)⟩
    refine codeAny_call_function room.r.depth (kin _ _ look) rfl S.co S.gen rfl (PySem.W.codeRec_of kin code) (bind _ _ _ _ (wpAny_newFunctionEnv_cells S.kind kinds fun env he s1 x => ?_))
    subst he
    refine ⟨lim.keeps x.toInCall.keep, codeAny_func ?_⟩; obtain ⟨t, ht, hq⟩ := go A outer s H vs Q E (room.deeper _) q
    have I := inv_start (CX := CX) (E := E) S room.r.hd e0 n r x
    refine wpAny_mono (ht.run [] s1 (L2.start N vs) H _ I hq) ?_ fun _ _ z => z
    intro fl s' hs
    match fl, hs with
    | .ret u, ⟨v, σ', H', J, rv, z⟩ => exact ⟨v, H', J.os, J.bare, J.base, J.hok, rv, z⟩
    | .next, ⟨σ', H', J, z⟩ => exact ⟨V.non, H', J.os, J.bare, J.base, J.hok, rfl, z⟩
    | .brk, ⟨_, _, _, z⟩ => exact z.elim
    | .cont, ⟨_, _, _, z⟩ => exact z.elim
theorem okG {x qual : Str} {st : Stmt} {N : List Str} (F : Fun K x qual st f fd) (S : FnScope N ps (defScope st)) (len : ∀ vs H Q E, sp vs H Q E → vs.length = ps.length)
    (go : ∀ (cdv : Value) (A : Around) (outer : List Env) (s : Shared) (H : Hp) (vs : List V) (Q : VK) (E : XK), RoomG k (A.deeper (envOfC qual (defScope st) s.heap.objs.size f cdv)) → sp vs H Q E →
      ∃ t, PSs (cxOf (L2.CX P w) P w K mg base N qual (defScope st) f cdv A outer s H E) (defBody st) t ∧ t ⟨fun _ H' => Q .non H', Q, fun _ _ => False, fun _ _ => False⟩ (L2.start N vs) H) : FnGk P w K mg base (L2.CX P w) (k + 1) f fd ps sp := by
  obtain ⟨oc, od, kV, doc, pm, an, cdv, ct, osl, rfl, lk, hcd⟩ := F.ex; exact fn_ofG lk hcd S len (go cdv)
theorem okGD {x qual : Str} {params : Arguments} {body : List Stmt} {scope : Scope} {dvs : List V} {kws : List (Str × V)} {N : List Str} (F : FunD K x qual params body scope dvs kws f fd) (S : FnScope N ps scope) (len : ∀ vs H Q E, sp vs H Q E → vs.length = ps.length)
    (go : ∀ (cdv : Value) (A : Around) (outer : List Env) (s : Shared) (H : Hp) (vs : List V) (Q : VK) (E : XK), RoomG k (A.deeper (envOfC qual scope s.heap.objs.size f cdv)) → sp vs H Q E →
      ∃ t, PSs (cxOf (L2.CX P w) P w K mg base N qual scope f cdv A outer s H E) body t ∧ t ⟨fun _ H' => Q .non H', Q, fun _ _ => False, fun _ _ => False⟩ (L2.start N vs) H) : FnGk P w K mg base (L2.CX P w) (k + 1) f fd ps sp := by
  obtain ⟨oc, od, dV, kV, doc, pm, an, cdv, ct, osl, rfl, lk, hcd, _, _⟩ := F.ex; exact fn_ofG lk hcd S len (go cdv)
end
end Q
end

section
set_option Elab.async false
set_option linter.all false
set_option maxRecDepth 100000
set_option maxHeartbeats 3900000
/-! W1: what the program's values are, without the heap; a state of them; what an expression and a statement do to it. -/
namespace Q
open PySem L2

inductive D where
  | non | bl (b : Bool) | int (i : Int) | str (x : Str) | rat (q : Rat)
  | tup (l : List D) | lst (l : List D) | box | scr (l : List Int) | own (a : Addr) (l : List D)
  | ty (n : String) | cls (a : Addr) | dct (ks : List Key) (ds : List D)
  | err (a p : Addr) (f : Str) (d : D)
  | exc (C : Addr) | exf (C : Addr) (f : Str) (d : D) | obj (C : Addr) (ns : List Str) (ds : List D)

/-- at a: an exception of the class at C, not raised (none: without a dict of its own) -/
def excAt (H : Hp) (a C : Addr) : Prop := H a = some (ExO (.ref C) a) ∨ ∃ dx fs, H a = some (exo a C (some dx)) ∧ H dx = some (exd dx fs)
theorem excAt.mono {H H' : Hp} {a C : Addr} (e : Same H H') (h : excAt H a C) : excAt H' a C := h.imp (fun h => e _ _ h) fun ⟨dx, fs, h1, h2⟩ => ⟨dx, fs, e _ _ h1, e _ _ h2⟩
/-- what does not change through a proof: the written part, the classes -/
structure Tab where
  K : PySem.W.Frag
  C : Addr
abbrev Fs := List (Str × V)
def ratF (q : Rat) : Fs := [("_top", .int q.num), ("_bottom", .int (q.den : Int))]

mutual
def rep (T : Tab) (H : Hp) : D → V → Prop
  | .non, v => v = .non
  | .bl b, v => v = .bl b
  | .int i, v => v = .int i
  | .str x, v => v = .str x
  | .rat q, v => ∃ a dx, v = .ref a ∧ H a = some (.ins T.C dx (ratF q))
  | .tup l, v => ∃ a vs, v = .ref a ∧ H a = some (.tup vs) ∧ reps T H l vs
  | .lst l, v => ∃ a vs, v = .ref a ∧ H a = some (.lst vs) ∧ reps T H l vs
  | .box, v => False
  | .scr l, v => ∃ a, v = .ref a ∧ SqL T.K H a (l.map V.int)
  | .own _ _, _ => False
  | .ty n, v => v = .ty n
  | .cls a, v => v = .ref a
  | .dct ks ds, v => ∃ a kvs, v = .ref a ∧ H a = some (.dK kvs) ∧ kvs.map (·.1) = ks ∧ reps T H ds (kvs.map (·.2))
  | .err a p f d, v => v = .ref a ∧ ∃ w, H p = some (.xd [(f, w)]) ∧ rep T H d w
  | .exc C, v => ∃ a, v = .ref a ∧ H a = some (ExO (.ref C) a)
  | .exf C f d, v => ∃ a dx w, v = .ref a ∧ H a = some (exo a C (some dx)) ∧ H dx = some (exd dx [(f, w)]) ∧ rep T H d w
  | .obj C ns ds, v => ∃ a dx vs, v = .ref a ∧ H a = some (.ins C dx (ns.zip vs)) ∧ ns.length = ds.length ∧ reps T H ds vs
def reps (T : Tab) (H : Hp) : List D → List V → Prop
  | [], vs => vs = []
  | d :: l, vs => ∃ v r, vs = v :: r ∧ rep T H d v ∧ reps T H l r
end
theorem seqS {K : PySem.W.Frag} {H H' : Hp} {a : Addr} {xs : List V} (e : Same H H') (h : SqL K H a xs) : SqL K H' a xs := e.seq h
theorem same_t {K : PySem.W.Frag} {H H' : Hp} {a : Addr} {xs : List V} (e : Same H H') (h : SqT K H a xs) : SqT K H' a xs := by
  rcases h with (h | ⟨w, h⟩) | h
  · exact .inl (.inl (e _ _ h))
  · exact .inl (.inr ⟨w, e _ _ h⟩)
  · exact .inr h
mutual
theorem rep.mono {T : Tab} {H H' : Hp} (e : Same H H') : ∀ {d : D} {v : V}, rep T H d v → rep T H' d v
  | .non, _, h => h
  | .bl _, _, h => h
  | .int _, _, h => h
  | .str _, _, h => h
  | .rat q, _, ⟨a, dx, h, k⟩ => ⟨a, dx, h, e _ _ k⟩
  | .tup l, _, ⟨a, vs, h, k, r⟩ => ⟨a, vs, h, e _ _ k, reps.mono e r⟩
  | .lst l, _, ⟨a, vs, h, k, r⟩ => ⟨a, vs, h, e _ _ k, reps.mono e r⟩
  | .box, _, h => h
  | .scr l, _, ⟨a, h, k⟩ => ⟨a, h, e.seq k⟩
  | .own _ _, _, h => h
  | .ty _, _, h => h
  | .cls _, _, h => h
  | .dct ks ds, _, ⟨a, kvs, h, k, l, r⟩ => ⟨a, kvs, h, e _ _ k, l, reps.mono e r⟩
  | .err a p f d, _, ⟨h, w, k, r⟩ => ⟨h, w, e _ _ k, rep.mono e r⟩
  | .exc C, _, ⟨a, h, k⟩ => ⟨a, h, e _ _ k⟩
  | .exf C f d, _, ⟨a, dx, w, h, k, l, r⟩ => ⟨a, dx, w, h, e _ _ k, e _ _ l, rep.mono e r⟩
  | .obj C ns ds, _, ⟨a, dx, vs, h, k, l, r⟩ => ⟨a, dx, vs, h, e _ _ k, l, reps.mono e r⟩
theorem reps.mono {T : Tab} {H H' : Hp} (e : Same H H') : ∀ {l : List D} {vs : List V}, reps T H l vs → reps T H' l vs
  | [], _, h => h
  | d :: l, _, ⟨v, r, h, k, q⟩ => ⟨v, r, h, rep.mono e k, reps.mono e q⟩
end
theorem reps.len {T : Tab} {H : Hp} : ∀ {l : List D} {vs : List V}, reps T H l vs → vs.length = l.length
  | [], _, h => by
    have e : _ = [] := h
    subst e
    rfl
  | d :: l, _, ⟨v, r, h, k, q⟩ => by
    subst h
    simp [q.len]
theorem reps.get {T : Tab} {H : Hp} : ∀ {l : List D} {vs : List V} {i : Nat} {d : D}, reps T H l vs → l[i]? = some d → ∃ v, vs[i]? = some v ∧ rep T H d v
  | [], _, _, _, h, e => by simp at e
  | d :: l, _, 0, d', ⟨v, r, h, k, q⟩, e => by
    subst h
    simp at e
    subst e
    exact ⟨v, rfl, k⟩
  | d :: l, _, i + 1, d', ⟨v, r, h, k, q⟩, e => by
    subst h
    simp at e
    obtain ⟨w, h1, h2⟩ := q.get e
    exact ⟨w, by simpa using h1, h2⟩
theorem reps.append {T : Tab} {H : Hp} : ∀ {l : List D} {vs : List V} {m : List D} {ws : List V}, reps T H l vs → reps T H m ws → reps T H (l ++ m) (vs ++ ws)
  | [], _, _, _, h, k => by
    have e : _ = [] := h
    subst e
    exact k
  | d :: l, _, _, _, ⟨v, r, h, k, q⟩, k' => by
    subst h
    exact ⟨v, _, rfl, k, q.append k'⟩
theorem reps.one {T : Tab} {H : Hp} {d : D} {v : V} (h : rep T H d v) : reps T H [d] [v] := ⟨v, [], rfl, h, rfl⟩
theorem reps.set {T : Tab} {H : Hp} : ∀ {l : List D} {vs : List V} {d : D} {v : V} (i : Nat), reps T H l vs → rep T H d v → reps T H (l.set i d) (vs.set i v)
  | [], _, _, _, _, h, _ => by
    have e : _ = [] := h
    subst e
    simp [reps]
  | d :: l, _, d', v', 0, ⟨v, r, h, k, q⟩, k' => by
    subst h
    exact ⟨v', r, rfl, k', q⟩
  | d :: l, _, d', v', i + 1, ⟨v, r, h, k, q⟩, k' => by
    subst h
    exact ⟨v, r.set i v', rfl, k, q.set i k'⟩

/-! ### what is hidden: boxes (which others change), own lists (which the body changes) -/
abbrev Bm := Addr → Option (Option HO)
def vis (B : Bm) (H : Hp) : Hp := fun a => match B a with | none => H a | some _ => none
def BoxO (c : Nat) (o : HO) : Prop := ∃ x y z : Int, o = .lst [.int x, .int y, .int z] ∧ 0 ≤ x ∧ 0 ≤ y ∧ y ≤ c ∧ 0 ≤ z ∧ z ≤ 2 ^ 40
theorem BoxO.mono {c c' : Nat} {o : HO} (h : BoxO c o) (e : c ≤ c') : BoxO c' o := by
  obtain ⟨x, y, z, h, h1, h2, h3, h4, h5⟩ := h
  exact ⟨x, y, z, h, h1, h2, by omega, h4, h5⟩
structure okW (B : Bm) (c : Nat) (H : Hp) : Prop where
  box : ∀ a, B a = some none → ∃ o, H a = some o ∧ BoxO c o
  fix : ∀ a o, B a = some (some o) → H a = some o
theorem okW.mono {B : Bm} {c c' : Nat} {H : Hp} (h : okW B c H) (e : c ≤ c') : okW B c' H := ⟨fun a b => let ⟨o, k, l⟩ := h.box a b; ⟨o, k, l.mono e⟩, h.fix⟩
theorem okW.fresh {B : Bm} {c : Nat} {H : Hp} (h : okW B c H) {p : Addr} (e : H p = none) : B p = none := by
  cases q : B p with
  | none => rfl
  | some x =>
    cases x with
    | none =>
      obtain ⟨o, k, _⟩ := h.box p q
      rw [e] at k
      cases k
    | some o =>
      have k := h.fix p o q
      rw [e] at k
      cases k
theorem vis_some {B : Bm} {H : Hp} {a : Addr} {o : HO} (h : vis B H a = some o) : H a = some o := by
  unfold vis at h
  cases q : B a with
  | none => rw [q] at h; exact h
  | some x => rw [q] at h; cases h
theorem vis_free {B : Bm} {H : Hp} {a : Addr} (h : H a = none) : vis B H a = none := by
  unfold vis
  cases q : B a with
  | none => exact h
  | some x => rfl
theorem vis_of {B : Bm} {H : Hp} {a : Addr} {o : HO} (h : H a = some o) (b : B a = none) : vis B H a = some o := by
  unfold vis
  rw [b]
  exact h
theorem vis_same {B : Bm} {H : Hp} : Same (vis B H) H := fun _ _ h => vis_some h
theorem vis_upd {B : Bm} {H : Hp} {p : Addr} {o : HO} (b : B p = none) : vis B (upd H p o) = upd (vis B H) p o := by
  funext a
  unfold vis upd
  by_cases e : a = p
  · subst e
    rw [b]
    simp
  · rw [if_neg e, if_neg e]
theorem same_new {H : Hp} {p : Addr} {o : HO} (h : H p = none) : Same H (upd H p o) := fun b x e => by
  rw [upd_ne (ne_of_none e h)]
  exact e
theorem Same.vis_ {B : Bm} {H H' : Hp} (e : Same H H') : Same (vis B H) (vis B H') := fun a o h => by
  unfold vis at h ⊢
  cases q : B a with
  | none => rw [q] at h; exact e _ _ h
  | some x => rw [q] at h; cases h
theorem okW.same {B : Bm} {c : Nat} {H H' : Hp} (h : okW B c H) (e : Same H H') : okW B c H' := ⟨fun a b => let ⟨o, k, l⟩ := h.box a b; ⟨o, e _ _ k, l⟩, fun a o b => e _ _ (h.fix a o b)⟩

/-! ### slots -/
def slotOk (T : Tab) (B : Bm) (G : Hp) : D → V → Prop
  | .own a l, v => v = .ref a ∧ ∃ vs, B a = some (some (.lst vs)) ∧ reps T G l vs
  | .box, v => ∃ a, v = .ref a ∧ B a = some none
  | d, v => rep T G d v
/-- a value of an expression: a datum, or a box -/
def val (T : Tab) (B : Bm) (G : Hp) : D → V → Prop
  | .box, v => ∃ a, v = .ref a ∧ B a = some none
  | d, v => rep T G d v
theorem val.of {T : Tab} {B : Bm} {G : Hp} {d : D} {v : V} (h : rep T G d v) : val T B G d v := by
  cases d <;> first | exact h | exact h.elim
theorem val.mono {T : Tab} {B : Bm} {G G' : Hp} {d : D} {v : V} (h : val T B G d v) (e : Same G G') : val T B G' d v := by
  cases d <;> first | exact h | exact rep.mono e h
theorem slot_of {T : Tab} {B : Bm} {G : Hp} {d : D} {v : V} (h : val T B G d v) : slotOk T B G d v := by
  cases d <;> first | exact h | exact h.elim
theorem slotOk.mono {T : Tab} {B : Bm} {G G' : Hp} {d : D} {v : V} (h : slotOk T B G d v) (e : Same G G') : slotOk T B G' d v := by
  cases d <;> first | exact h | exact rep.mono e h | (obtain ⟨h1, vs, h2, h3⟩ := h; exact ⟨h1, vs, h2, h3.mono e⟩)
def slots (T : Tab) (B : Bm) (G : Hp) : List (Option D) → St → Prop
  | [], σ => σ = []
  | none :: s, σ => ∃ x r, σ = x :: r ∧ slots T B G s r
  | some d :: s, σ => ∃ v r, σ = some v :: r ∧ slotOk T B G d v ∧ slots T B G s r
theorem slots.mono {T : Tab} {B : Bm} {G G' : Hp} (e : Same G G') : ∀ {s : List (Option D)} {σ : St}, slots T B G s σ → slots T B G' s σ
  | [], _, h => h
  | none :: s, _, ⟨x, r, h, k⟩ => ⟨x, r, h, k.mono e⟩
  | some d :: s, _, ⟨v, r, h, k, q⟩ => ⟨v, r, h, k.mono e, q.mono e⟩
theorem slots.get {T : Tab} {B : Bm} {G : Hp} : ∀ {s : List (Option D)} {σ : St} {i : Nat} {d : D}, slots T B G s σ → s[i]? = some (some d) → ∃ v, σ[i]? = some (some v) ∧ slotOk T B G d v
  | [], _, _, _, _, e => by simp at e
  | none :: s, _, 0, _, _, e => by simp at e
  | none :: s, _, i + 1, _, ⟨x, r, h, k⟩, e => by
    subst h
    obtain ⟨v, h1, h2⟩ := k.get (i := i) (by simpa using e)
    exact ⟨v, by simpa using h1, h2⟩
  | some d :: s, _, 0, _, ⟨v, r, h, k, q⟩, e => by
    subst h
    simp at e
    subst e
    exact ⟨v, rfl, k⟩
  | some d :: s, _, i + 1, _, ⟨v, r, h, k, q⟩, e => by
    subst h
    obtain ⟨v, h1, h2⟩ := q.get (i := i) (by simpa using e)
    exact ⟨v, by simpa using h1, h2⟩
theorem slots.set {T : Tab} {B : Bm} {G : Hp} {d : D} {v : V} (hv : slotOk T B G d v) : ∀ {s : List (Option D)} {σ : St} (i : Nat), slots T B G s σ → slots T B G (s.set i (some d)) (σ.set i (some v))
  | [], _, i, h => by
    have e : _ = [] := h
    subst e
    simp [slots]
  | none :: s, _, 0, ⟨x, r, h, k⟩ => by
    subst h
    exact ⟨v, r, rfl, hv, k⟩
  | none :: s, _, i + 1, ⟨x, r, h, k⟩ => by
    subst h
    exact ⟨x, r.set i (some v), rfl, k.set hv i⟩
  | some d' :: s, _, 0, ⟨x, r, h, k, q⟩ => by
    subst h
    exact ⟨v, r, rfl, hv, q⟩
  | some d' :: s, _, i + 1, ⟨x, r, h, k, q⟩ => by
    subst h
    exact ⟨x, r.set i (some v), rfl, k, q.set hv i⟩
theorem slots.unset {T : Tab} {B : Bm} {G : Hp} : ∀ {s : List (Option D)} {σ : St} (i : Nat), slots T B G s σ → slots T B G (s.set i none) (σ.set i none)
  | [], _, i, h => by
    have e : _ = [] := h
    subst e
    simp [slots]
  | none :: s, _, 0, ⟨x, r, h, k⟩ => by
    subst h
    exact ⟨none, r, rfl, k⟩
  | none :: s, _, i + 1, ⟨x, r, h, k⟩ => by
    subst h
    exact ⟨x, r.set i none, rfl, k.unset i⟩
  | some d' :: s, _, 0, ⟨x, r, h, k, q⟩ => by
    subst h
    exact ⟨none, r, rfl, q⟩
  | some d' :: s, _, i + 1, ⟨x, r, h, k, q⟩ => by
    subst h
    exact ⟨x, r.set i none, rfl, k, q.unset i⟩
theorem slots.len {T : Tab} {B : Bm} {G : Hp} : ∀ {s : List (Option D)} {σ : St}, slots T B G s σ → σ.length = s.length
  | [], _, h => by
    have e : _ = [] := h
    subst e
    rfl
  | none :: s, _, ⟨x, r, h, k⟩ => by
    subst h
    simp [k.len]
  | some d :: s, _, ⟨v, r, h, k, q⟩ => by
    subst h
    simp [q.len]
/-- forget slots -/
inductive Less : List (Option D) → List (Option D) → Prop
  | nil : Less [] []
  | keep {x s t} : Less s t → Less (x :: s) (x :: t)
  | drop {x s t} : Less s t → Less (none :: s) (x :: t)
theorem Less.refl : ∀ {s : List (Option D)}, Less s s
  | [] => .nil
  | _ :: _ => .keep Less.refl
theorem slots.less {T : Tab} {B : Bm} {G : Hp} : ∀ {s t : List (Option D)} {σ : St}, Less s t → slots T B G t σ → slots T B G s σ
  | _, _, _, .nil, h => h
  | _, _, _, .keep (x := none) l, ⟨x, r, h, k⟩ => ⟨x, r, h, k.less l⟩
  | _, _, _, .keep (x := some d) l, ⟨v, r, h, k, q⟩ => ⟨v, r, h, k, q.less l⟩
  | _, _, _, .drop (x := none) l, ⟨x, r, h, k⟩ => ⟨x, r, h, k.less l⟩
  | _, _, _, .drop (x := some d) l, ⟨v, r, h, k, q⟩ => ⟨_, r, h, q.less l⟩
end Q
end

section
set_option Elab.async false
set_option linter.all false
set_option maxRecDepth 100000
set_option maxHeartbeats 3900000
namespace Q
open PySem L2

/-- an exception: its class, its field -/
abbrev Er := Addr × Option (Str × D)
structure Rho where
  B : Bm
  s : List (Option D)
  c : Nat
abbrev Rho.wc (ρ : Rho) (c : Nat) : Rho := ⟨ρ.B, ρ.s, c⟩
abbrev Rho.set (ρ : Rho) (i : Nat) (d : D) : Rho := ⟨ρ.B, ρ.s.set i (some d), ρ.c⟩
abbrev Rho.unset (ρ : Rho) (i : Nat) : Rho := ⟨ρ.B, ρ.s.set i none, ρ.c⟩
structure Zt where
  X : Cx
  T : Tab
  B0 : Bm
  H0 : Hp
  g : List (D × V)
  R : Er → Rho → Prop
  rt : D → Nat → Prop
def erRel (T : Tab) (G : Hp) (e : Er) (cls : Value) (dx : Option Addr) : Prop :=
  cls = .ref e.1 ∧ match e.2 with
    | none => dx = none
    | some (f, d) => ∃ p v, dx = some p ∧ G p = some (.xd [(f, v)]) ∧ rep T G d v

structure SR (Z : Zt) (ρ : Rho) (σ : St) (H : Hp) : Prop where
  ok : okW ρ.B ρ.c H
  le : ∀ a, Z.B0 a ≠ none → ρ.B a = Z.B0 a
  ex : Same (vis Z.B0 Z.H0) (vis ρ.B H)
  sl : slots Z.T ρ.B (vis ρ.B H) ρ.s σ
  gh : ∀ p ∈ Z.g, rep Z.T (vis ρ.B H) p.1 p.2
def Zt.W (Z : Zt) : WX := fun cls dx σ H => ∃ ρ e, SR Z ρ σ H ∧ erRel Z.T (vis ρ.B H) e cls dx ∧ Z.R e ρ
structure Zok (Z : Zt) : Prop where
  tk : Takes Z.X Z.W
  po : PassesOwn (model Z.X.prog Z.X.w) Z.X.A Z.X.env Z.X.xe
  K : Z.X.K = Z.T.K
  nd : Z.X.N.Nodup

variable {Z : Zt} {ρ : Rho} {σ : St} {H H' : Hp}
/-- more objects -/
theorem SR.grow {H' : Hp} {c' : Nat} (S : SR Z ρ σ H) (e : Same H H') (h : ρ.c ≤ c') : SR Z (ρ.wc c') σ H' :=
  ⟨(S.ok.same e).mono h, S.le, fun a o q => Same.vis_ e _ _ (S.ex a o q), S.sl.mono (Same.vis_ e), fun p hp => (S.gh p hp).mono (Same.vis_ e)⟩
theorem SR.same (S : SR Z ρ σ H) (e : Same H H') : SR Z ρ σ H' := S.grow e (Nat.le_refl _)
/-- behind a call, which may have changed boxes -/
theorem SR.call {H' : Hp} {c' : Nat} (S : SR Z ρ σ H) (ok : okW ρ.B c' H') (e : Same (vis ρ.B H) (vis ρ.B H')) : SR Z (ρ.wc c') σ H' :=
  ⟨ok, S.le, fun a o q => e _ _ (S.ex a o q), S.sl.mono e, fun p hp => (S.gh p hp).mono e⟩
theorem SR.set (S : SR Z ρ σ H) (i : Nat) {d : D} {v : V} (h : slotOk Z.T ρ.B (vis ρ.B H) d v) : SR Z (ρ.set i d) (σ.set i (some v)) H :=
  ⟨S.ok, S.le, S.ex, S.sl.set h i, S.gh⟩
theorem SR.unset (S : SR Z ρ σ H) (i : Nat) : SR Z (ρ.unset i) (σ.set i none) H := ⟨S.ok, S.le, S.ex, S.sl.unset i, S.gh⟩
theorem SR.less {s : List (Option D)} (S : SR Z ρ σ H) (l : Less s ρ.s) : SR Z ⟨ρ.B, s, ρ.c⟩ σ H := ⟨S.ok, S.le, S.ex, S.sl.less l, S.gh⟩

/-! ### expressions -/
def tAny (X : Cx) (e : Expr) : TE := fun σ H Q => ∃ t : TE, PE X e t ∧ t σ H Q
theorem pe_any {X : Cx} {e : Expr} : PE X e (tAny X e) := ⟨fun pins s σ H Q I h => let ⟨t, p, q⟩ := h; p.run pins s σ H Q I q⟩
theorem pe_imp {X : Cx} {e : Expr} {t t' : TE} (p : PE X e t) (h : ∀ σ H Q, t' σ H Q → t σ H Q) : PE X e t' := ⟨fun pins s σ H Q I q => p.run pins s σ H Q I (h σ H Q q)⟩
def ttAny (X : Cx) (e : Expr) : TT := fun σ H Q => ∃ t : TT, PT X e t ∧ t σ H Q
theorem pt_any {X : Cx} {e : Expr} : PT X e (ttAny X e) := ⟨fun pins s σ H Q I h => let ⟨t, p, q⟩ := h; p.run pins s σ H Q I q⟩
theorem pt_imp {X : Cx} {e : Expr} {t t' : TT} (p : PT X e t) (h : ∀ σ H Q, t' σ H Q → t σ H Q) : PT X e t' := ⟨fun pins s σ H Q I q => p.run pins s σ H Q I (h σ H Q q)⟩

def Post (Z : Zt) (ρ : Rho) (σ : St) (H : Hp) (P : D → Nat → Prop) (Q : VK) : Prop :=
  ∀ v H' d c', SR Z (ρ.wc c') σ H' → Same (vis ρ.B H) (vis ρ.B H') → val Z.T ρ.B (vis ρ.B H') d v → P d c' → Q v H'
def Zt.tE (Z : Zt) (ρ : Rho) (P : D → Nat → Prop) : TE := fun σ H Q => SR Z ρ σ H ∧ Post Z ρ σ H P Q
/-- e evaluates to what P says -/
def EV (Z : Zt) (ρ : Rho) (e : Expr) (P : D → Nat → Prop) : Prop := PE Z.X e (Z.tE ρ P)
def PostT (Z : Zt) (ρ : Rho) (σ : St) (H : Hp) (P : Bool → Nat → Prop) (Q : Bool → Hp → Prop) : Prop :=
  ∀ b H' c', SR Z (ρ.wc c') σ H' → Same (vis ρ.B H) (vis ρ.B H') → P b c' → Q b H'
def Zt.tT (Z : Zt) (ρ : Rho) (P : Bool → Nat → Prop) : TT := fun σ H Q => SR Z ρ σ H ∧ PostT Z ρ σ H P Q
def ET (Z : Zt) (ρ : Rho) (e : Expr) (P : Bool → Nat → Prop) : Prop := PT Z.X e (Z.tT ρ P)
def PostA (Z : Zt) (ρ : Rho) (σ : St) (H : Hp) (P : List D → Nat → Prop) (Q : List V → Hp → Prop) : Prop :=
  ∀ vs H' ds c', SR Z (ρ.wc c') σ H' → Same (vis ρ.B H) (vis ρ.B H') → Paired (val Z.T ρ.B (vis ρ.B H')) ds vs → P ds c' → Q vs H'
def Zt.tA (Z : Zt) (ρ : Rho) (P : List D → Nat → Prop) : TA := fun σ H Q => SR Z ρ σ H ∧ PostA Z ρ σ H P Q
def EA (Z : Zt) (ρ : Rho) (es : List Expr) (P : List D → Nat → Prop) : Prop := PA Z.X es (Z.tA ρ P)

variable {P P' : D → Nat → Prop} {e a b : Expr} {pos : Pos}
theorem EV.mono (h : EV Z ρ e P) (k : ∀ d c, P d c → P' d c) : EV Z ρ e P' := pe_imp h fun σ H Q q => ⟨q.1, fun v H' d c' S s r p => q.2 v H' d c' S s r (k d c' p)⟩
theorem ET.mono {P P' : Bool → Nat → Prop} (h : ET Z ρ e P) (k : ∀ d c, P d c → P' d c) : ET Z ρ e P' := pt_imp h fun σ H Q q => ⟨q.1, fun b H' c' S s p => q.2 b H' c' S s (k b c' p)⟩
theorem Post.here {v : V} {d : D} {Q : VK} (p : Post Z ρ σ H P Q) (S : SR Z ρ σ H) (h : P d ρ.c) (r : val Z.T ρ.B (vis ρ.B H) d v) : Q v H := p v H d ρ.c S (fun _ _ q => q) r h
theorem ev_of {t : TE} (p : PE Z.X e t) (h : ∀ σ H Q, SR Z ρ σ H → Post Z ρ σ H P Q → t σ H Q) : EV Z ρ e P := pe_imp p fun σ H Q q => h σ H Q q.1 q.2
theorem et_of {t : TT} {P : Bool → Nat → Prop} (p : PT Z.X e t) (h : ∀ σ H Q, SR Z ρ σ H → PostT Z ρ σ H P Q → t σ H Q) : ET Z ρ e P := pt_imp p fun σ H Q q => h σ H Q q.1 q.2
theorem ev_any {Q : VK} (h : EV Z ρ e P) (S : SR Z ρ σ H) (k : Post Z ρ σ H P Q) : tAny Z.X e σ H Q := ⟨_, h, S, k⟩
theorem et_any {P : Bool → Nat → Prop} {Q : Bool → Hp → Prop} (h : ET Z ρ e P) (S : SR Z ρ σ H) (k : PostT Z ρ σ H P Q) : ttAny Z.X e σ H Q := ⟨_, h, S, k⟩

def isOwn : D → Bool
  | .own _ _ => true
  | _ => false
theorem val_slot {T : Tab} {B : Bm} {G : Hp} {d : D} {v : V} (h : slotOk T B G d v) (n : isOwn d = false) : val T B G d v := by
  cases d <;> first | exact h | cases n
theorem ev_var (i : Nat) {x : Str} {d : D} (hs : ρ.s[i]? = some (some d)) (h : P d ρ.c) (n : isOwn d = false := by rfl) (hN : Z.X.N[i]? = some x := by rfl)
    (hv : Vis Z.X.env.scope x := by first | exact Or.inl rfl | exact Or.inr (Or.inl rfl) | exact Or.inr (Or.inr rfl)) (hd : (x == ("__debug__" : Str)) = false := by decide)
    (hcd : (x == ("__classdict__" : Str)) = false := by decide) : EV Z ρ (.Name x pos) P := by
  refine ev_of (pe_var hN hv hd hcd) fun σ H Q S k => ?_
  obtain ⟨v, h1, h2⟩ := S.sl.get hs
  exact ⟨v, h1, k.here S h (val_slot h2 n)⟩
theorem ev_int {i j} (h : P (.int i) ρ.c) : EV Z ρ (.Constant (.int i) j pos) P := ev_of pe_int fun _ _ _ S k => k.here S h rfl
theorem ev_bl {i j} (h : P (.bl i) ρ.c) : EV Z ρ (.Constant (.bool i) j pos) P := ev_of pe_bl fun _ _ _ S k => k.here S h rfl
theorem ev_non {j} (h : P .non ρ.c) : EV Z ρ (.Constant .none j pos) P := ev_of pe_non fun _ _ _ S k => k.here S h rfl
theorem ev_str {i j} (h : P (.str i) ρ.c) : EV Z ρ (.Constant (.str i) j pos) P := ev_of pe_str fun _ _ _ S k => k.here S h rfl

/-- two operands, a rule over values -/
theorem two {r : R2} {t : TE} (p : PE Z.X e t)
    (ht : ∀ σ H Q, (tAny Z.X a σ H fun x H1 => tAny Z.X b σ H1 fun y H2 => r x y H2 Q) → t σ H Q)
    (h : EV Z ρ a fun d1 c1 => EV Z (ρ.wc c1) b fun d2 c2 => ∀ σ H v1 v2 (Q : VK), SR Z (ρ.wc c2) σ H → val Z.T ρ.B (vis ρ.B H) d1 v1 → val Z.T ρ.B (vis ρ.B H) d2 v2 → Post Z (ρ.wc c2) σ H P Q → r v1 v2 H Q) :
    EV Z ρ e P := ev_of p fun σ H Q S k => ht σ H Q (ev_any h S fun v1 H1 d1 c1 S1 e1 r1 h2 => by
      refine ev_any h2 S1 fun v2 H2 d2 c2 S2 e2 r2 h3 => ?_
      exact h3 σ H2 v1 v2 Q S2 (r1.mono e2) r2 fun v H' d c' S' e' r' p => k v H' d c' S' (fun _ _ q => e' _ _ (e2 _ _ (e1 _ _ q))) r' p)
theorem ev_two {op : Operator} {r : R2} (ho : OpR Z.X (binaryOp op) r)
    (h : EV Z ρ a fun d1 c1 => EV Z (ρ.wc c1) b fun d2 c2 => ∀ σ H v1 v2 (Q : VK), SR Z (ρ.wc c2) σ H → val Z.T ρ.B (vis ρ.B H) d1 v1 → val Z.T ρ.B (vis ρ.B H) d2 v2 → Post Z (ρ.wc c2) σ H P Q → r v1 v2 H Q) :
    EV Z ρ (.BinOp a op b pos) P := two (r := r) (pe_op ho pe_any pe_any) (fun σ H Q q => q) h
theorem ev_cmp2 {op : CmpOp} {r : R2} (ho : OpR Z.X (compareOp op) r) (hm : behindInMarks op b = false)
    (h : EV Z ρ a fun d1 c1 => EV Z (ρ.wc c1) b fun d2 c2 => ∀ σ H v1 v2 (Q : VK), SR Z (ρ.wc c2) σ H → val Z.T ρ.B (vis ρ.B H) d1 v1 → val Z.T ρ.B (vis ρ.B H) d2 v2 → Post Z (ρ.wc c2) σ H P Q → r v1 v2 H Q) :
    EV Z ρ (.Compare a [op] [b] pos) P := two (r := r) (pe_cmpR ho pe_any pe_any hm) (fun σ H Q q => q) h

/-- two ints -/
def i2 (f : Int → Int → (D → Nat → Prop) → Nat → Prop) : D → D → (D → Nat → Prop) → Nat → Prop
  | .int i, .int j, P, c => f i j P c
  | _, _, _, _ => False
theorem i2_elim {f : Int → Int → (D → Nat → Prop) → Nat → Prop} {d1 d2 : D} {c : Nat} (h : i2 f d1 d2 P c) : ∃ i j, d1 = .int i ∧ d2 = .int j ∧ f i j P c := by
  cases d1 <;> first | exact h.elim | skip
  cases d2 <;> first | exact h.elim | exact ⟨_, _, rfl, rfl, h⟩
theorem ev_opI {op : Operator} {C : Int → Int → Prop} {g : Int → Int → Int} (ho : OpR Z.X (binaryOp op) (rI C fun i j => .int (g i j)))
    (h : EV Z ρ a fun d1 c1 => EV Z (ρ.wc c1) b fun d2 c2 => i2 (fun i j P c => C i j ∧ P (.int (g i j)) c) d1 d2 P c2) : EV Z ρ (.BinOp a op b pos) P :=
  ev_two ho (h.mono fun d1 c1 h2 => h2.mono fun d2 c2 h3 σ H v1 v2 Q S r1 r2 k => by
    obtain ⟨i, j, rfl, rfl, hc, hp⟩ := i2_elim h3
    exact ⟨i, j, r1, r2, hc, k.here S hp rfl⟩)
theorem ev_opI0 {op : Operator} {g : Int → Int → Int} (ho : OpR Z.X (binaryOp op) (rI0 fun i j => .int (g i j)))
    (h : EV Z ρ a fun d1 c1 => EV Z (ρ.wc c1) b fun d2 c2 => i2 (fun i j P c => P (.int (g i j)) c) d1 d2 P c2) : EV Z ρ (.BinOp a op b pos) P :=
  ev_two ho (h.mono fun d1 c1 h2 => h2.mono fun d2 c2 h3 σ H v1 v2 Q S r1 r2 k => by
    obtain ⟨i, j, rfl, rfl, hp⟩ := i2_elim h3
    exact ⟨i, j, r1, r2, k.here S hp rfl⟩)
theorem ev_add (h : EV Z ρ a fun d1 c1 => EV Z (ρ.wc c1) b fun d2 c2 => i2 (fun i j P c => P (.int (i + j)) c) d1 d2 P c2) : EV Z ρ (.BinOp a .Add b pos) P := ev_opI0 op_add h
theorem ev_sub (h : EV Z ρ a fun d1 c1 => EV Z (ρ.wc c1) b fun d2 c2 => i2 (fun i j P c => P (.int (i - j)) c) d1 d2 P c2) : EV Z ρ (.BinOp a .Sub b pos) P := ev_opI0 op_sub h
theorem ev_mul (h : EV Z ρ a fun d1 c1 => EV Z (ρ.wc c1) b fun d2 c2 => i2 (fun i j P c => CMulW i j ∧ P (.int (i * j)) c) d1 d2 P c2) : EV Z ρ (.BinOp a .Mult b pos) P := ev_opI op_mulW h
theorem ev_mod (h : EV Z ρ a fun d1 c1 => EV Z (ρ.wc c1) b fun d2 c2 => i2 (fun i j P c => 0 < j ∧ P (.int (i % j)) c) d1 d2 P c2) : EV Z ρ (.BinOp a .Mod b pos) P := ev_opI op_mod h
theorem ev_fdiv (h : EV Z ρ a fun d1 c1 => EV Z (ρ.wc c1) b fun d2 c2 => i2 (fun i j P c => CDivW i j ∧ P (.int (i / j)) c) d1 d2 P c2) : EV Z ρ (.BinOp a .FloorDiv b pos) P := ev_opI op_fdivW h
/-- comparisons of ints -/
theorem ev_cmpI {op : CmpOp} {p : Int → Int → Bool} (ho : OpR Z.X (compareOp op) (rI0 fun i j => .bl (p i j))) (hm : behindInMarks op b = false)
    (h : EV Z ρ a fun d1 c1 => EV Z (ρ.wc c1) b fun d2 c2 => i2 (fun i j P c => P (.bl (p i j)) c) d1 d2 P c2) : EV Z ρ (.Compare a [op] [b] pos) P :=
  ev_cmp2 ho hm (h.mono fun d1 c1 h2 => h2.mono fun d2 c2 h3 σ H v1 v2 Q S r1 r2 k => by
    obtain ⟨i, j, rfl, rfl, hp⟩ := i2_elim h3
    exact ⟨i, j, r1, r2, k.here S hp rfl⟩)
theorem ev_lt (h : EV Z ρ a fun d1 c1 => EV Z (ρ.wc c1) b fun d2 c2 => i2 (fun i j P c => P (.bl (decide (i < j))) c) d1 d2 P c2) : EV Z ρ (.Compare a [.Lt] [b] pos) P := ev_cmpI op_lt (nomark _) h
theorem ev_le (h : EV Z ρ a fun d1 c1 => EV Z (ρ.wc c1) b fun d2 c2 => i2 (fun i j P c => P (.bl (decide (i ≤ j))) c) d1 d2 P c2) : EV Z ρ (.Compare a [.LtE] [b] pos) P := ev_cmpI op_le (nomark _) h
theorem ev_gt (h : EV Z ρ a fun d1 c1 => EV Z (ρ.wc c1) b fun d2 c2 => i2 (fun i j P c => P (.bl (decide (j < i))) c) d1 d2 P c2) : EV Z ρ (.Compare a [.Gt] [b] pos) P := ev_cmpI op_gt (nomark _) h
theorem ev_ge (h : EV Z ρ a fun d1 c1 => EV Z (ρ.wc c1) b fun d2 c2 => i2 (fun i j P c => P (.bl (decide (j ≤ i))) c) d1 d2 P c2) : EV Z ρ (.Compare a [.GtE] [b] pos) P := ev_cmpI op_ge (nomark _) h
/-- == of ints, bools, texts, None -/
def eqD : D → D → Option Bool
  | .int i, .int j => some (decide (i = j))
  | .bl i, .bl j => some (decide (i = j))
  | .str i, .str j => some (decide (i = j))
  | _, _ => none
theorem eqD_ok {d1 d2 : D} {k : Bool} {T : Tab} {B : Bm} {G : Hp} {v1 v2 : V} (h : eqD d1 d2 = some k) (r1 : val T B G d1 v1) (r2 : val T B G d2 v2) : scal v1 v2 = true ∧ decide (v1 = v2) = k := by
  cases d1 <;> cases d2 <;> first | (cases h; done) | skip
  all_goals
    have e1 : v1 = _ := r1
    have e2 : v2 = _ := r2
    subst e1
    subst e2
    have e := Option.some.inj h
    subst e
    refine ⟨rfl, ?_⟩
    congr 1
    simp
theorem ev_eq (h : EV Z ρ a fun d1 c1 => EV Z (ρ.wc c1) b fun d2 c2 => ∃ k, eqD d1 d2 = some k ∧ P (.bl k) c2) : EV Z ρ (.Compare a [.Eq] [b] pos) P :=
  ev_cmp2 op_eq (nomark _) (h.mono fun d1 c1 h2 => h2.mono fun d2 c2 ⟨k, hk, hp⟩ σ H v1 v2 Q S r1 r2 q => by
    obtain ⟨e1, e2⟩ := eqD_ok hk r1 r2
    refine ⟨e1, ?_⟩
    rw [e2]
    exact q.here S hp rfl)
theorem ev_ne (h : EV Z ρ a fun d1 c1 => EV Z (ρ.wc c1) b fun d2 c2 => ∃ k, eqD d1 d2 = some k ∧ P (.bl (!k)) c2) : EV Z ρ (.Compare a [.NotEq] [b] pos) P :=
  ev_cmp2 op_ne (nomark _) (h.mono fun d1 c1 h2 => h2.mono fun d2 c2 ⟨k, hk, hp⟩ σ H v1 v2 Q S r1 r2 q => by
    obtain ⟨e1, e2⟩ := eqD_ok hk r1 r2
    refine ⟨e1, ?_⟩
    rw [e2]
    exact q.here S hp rfl)
/-- one operand -/
theorem ev_one {t : TE} {r : V → Hp → VK → Prop} (p : PE Z.X e t) (ht : ∀ σ H Q, (tAny Z.X a σ H fun x H1 => r x H1 Q) → t σ H Q)
    (h : EV Z ρ a fun d1 c1 => ∀ σ H v1 (Q : VK), SR Z (ρ.wc c1) σ H → val Z.T ρ.B (vis ρ.B H) d1 v1 → Post Z (ρ.wc c1) σ H P Q → r v1 H Q) : EV Z ρ e P :=
  ev_of p fun σ H Q S k => ht σ H Q (ev_any h S fun v1 H1 d1 c1 S1 e1 r1 h2 => h2 σ H1 v1 Q S1 r1 fun v H' d c' S' e' r' p => k v H' d c' S' (fun _ _ q => e' _ _ (e1 _ _ q)) r' p)
def i1 (f : Int → (D → Nat → Prop) → Nat → Prop) : D → (D → Nat → Prop) → Nat → Prop
  | .int i, P, c => f i P c
  | _, _, _ => False
theorem i1_elim {f : Int → (D → Nat → Prop) → Nat → Prop} {d1 : D} {c : Nat} (h : i1 f d1 P c) : ∃ i, d1 = .int i ∧ f i P c := by
  cases d1 <;> first | exact h.elim | exact ⟨_, rfl, h⟩
theorem ev_neg (h : EV Z ρ a (i1 (fun i P c => P (.int (-i)) c) · P ·)) : EV Z ρ (.UnaryOp .USub a pos) P :=
  ev_one (r := rU fun i => .int (-i)) (pe_un un_neg pe_any) (fun _ _ _ q => q) (h.mono fun d c h σ H v Q S r k => by
    obtain ⟨i, rfl, hp⟩ := i1_elim h
    exact ⟨i, r, k.here S hp rfl⟩)
/-! ### tests -/
theorem et_val {P : Bool → Nat → Prop} (h : EV Z ρ e fun d c => ∃ k, d = .bl k ∧ P k c) (he : ∀ whole, isTrue e Z.X.env whole = (do let v ← whole; standAt e.pos; holding [v] (truthy v)) := by intro _; rfl) :
    ET Z ρ e P := et_of (pt_val pe_any he) fun σ H Q S k => ev_any h S fun v H1 d c S1 e1 r ⟨b, hb, hp⟩ => by
      subst hb
      exact ⟨b, r, k b H1 c S1 e1 hp⟩
theorem et_cmp2 {op : CmpOp} {r : R2} {P : Bool → Nat → Prop} (ho : OpR Z.X (compareOp op) r) (hm : behindInMarks op b = false)
    (h : EV Z ρ a fun d1 c1 => EV Z (ρ.wc c1) b fun d2 c2 => ∀ σ H v1 v2 (Q : VK), SR Z (ρ.wc c2) σ H → val Z.T ρ.B (vis ρ.B H) d1 v1 → val Z.T ρ.B (vis ρ.B H) d2 v2 → Post Z (ρ.wc c2) σ H (fun d c => ∃ k, d = .bl k ∧ P k c) Q → r v1 v2 H Q) :
    ET Z ρ (.Compare a [op] [b] pos) P := et_of (pt_cmpR ho pe_any pe_any hm) fun σ H Q S k => ev_any h S fun v1 H1 d1 c1 S1 e1 r1 h2 => ev_any h2 S1 fun v2 H2 d2 c2 S2 e2 r2 h3 =>
      h3 σ H2 v1 v2 _ S2 (r1.mono e2) r2 fun v H' d c' S' e' r' ⟨b, hb, hp⟩ => by
        subst hb
        exact ⟨b, r', k b H' c' S' (fun _ _ q => e' _ _ (e2 _ _ (e1 _ _ q))) hp⟩
theorem et_cmpI {op : CmpOp} {p : Int → Int → Bool} {P : Bool → Nat → Prop} (ho : OpR Z.X (compareOp op) (rI0 fun i j => .bl (p i j))) (hm : behindInMarks op b = false)
    (h : EV Z ρ a fun d1 c1 => EV Z (ρ.wc c1) b fun d2 c2 => i2 (fun i j P' c => P (p i j) c) d1 d2 (fun _ _ => True) c2) : ET Z ρ (.Compare a [op] [b] pos) P :=
  et_cmp2 ho hm (h.mono fun d1 c1 h2 => h2.mono fun d2 c2 h3 σ H v1 v2 Q S r1 r2 k => by
    obtain ⟨i, j, rfl, rfl, hp⟩ := i2_elim h3
    exact ⟨i, j, r1, r2, k.here (d := .bl (p i j)) S ⟨_, rfl, hp⟩ rfl⟩)
section
variable {P : Bool → Nat → Prop}
theorem et_lt (h : EV Z ρ a fun d1 c1 => EV Z (ρ.wc c1) b fun d2 c2 => i2 (fun i j _ c => P (decide (i < j)) c) d1 d2 (fun _ _ => True) c2) : ET Z ρ (.Compare a [.Lt] [b] pos) P := et_cmpI op_lt (nomark _) h
theorem et_le (h : EV Z ρ a fun d1 c1 => EV Z (ρ.wc c1) b fun d2 c2 => i2 (fun i j _ c => P (decide (i ≤ j)) c) d1 d2 (fun _ _ => True) c2) : ET Z ρ (.Compare a [.LtE] [b] pos) P := et_cmpI op_le (nomark _) h
theorem et_gt (h : EV Z ρ a fun d1 c1 => EV Z (ρ.wc c1) b fun d2 c2 => i2 (fun i j _ c => P (decide (j < i)) c) d1 d2 (fun _ _ => True) c2) : ET Z ρ (.Compare a [.Gt] [b] pos) P := et_cmpI op_gt (nomark _) h
theorem et_ge (h : EV Z ρ a fun d1 c1 => EV Z (ρ.wc c1) b fun d2 c2 => i2 (fun i j _ c => P (decide (j ≤ i)) c) d1 d2 (fun _ _ => True) c2) : ET Z ρ (.Compare a [.GtE] [b] pos) P := et_cmpI op_ge (nomark _) h
theorem et_eq (h : EV Z ρ a fun d1 c1 => EV Z (ρ.wc c1) b fun d2 c2 => ∃ k, eqD d1 d2 = some k ∧ P k c2) : ET Z ρ (.Compare a [.Eq] [b] pos) P :=
  et_cmp2 op_eq (nomark _) (h.mono fun d1 c1 h2 => h2.mono fun d2 c2 ⟨k, hk, hp⟩ σ H v1 v2 Q S r1 r2 q => by
    obtain ⟨e1, e2⟩ := eqD_ok hk r1 r2
    refine ⟨e1, ?_⟩
    rw [e2]
    exact q.here (d := .bl k) S ⟨_, rfl, hp⟩ rfl)
theorem et_ne (h : EV Z ρ a fun d1 c1 => EV Z (ρ.wc c1) b fun d2 c2 => ∃ k, eqD d1 d2 = some k ∧ P (!k) c2) : ET Z ρ (.Compare a [.NotEq] [b] pos) P :=
  et_cmp2 op_ne (nomark _) (h.mono fun d1 c1 h2 => h2.mono fun d2 c2 ⟨k, hk, hp⟩ σ H v1 v2 Q S r1 r2 q => by
    obtain ⟨e1, e2⟩ := eqD_ok hk r1 r2
    refine ⟨e1, ?_⟩
    rw [e2]
    exact q.here (d := .bl (!k)) S ⟨_, rfl, hp⟩ rfl)
theorem et_not (h : ET Z ρ a fun k c => P (!k) c) : ET Z ρ (.UnaryOp .Not a pos) P := et_of (pt_not pt_any) fun σ H Q S k => et_any h S fun b H1 c S1 e1 hp => k (!b) H1 c S1 e1 hp
def isNone : D → Option Bool
  | .non => some true
  | .box => none
  | .own _ _ => none
  | _ => some false
theorem isNone_ok {d : D} {k : Bool} {T : Tab} {B : Bm} {G : Hp} {v : V} (hk : isNone d = some k) (r : val T B G d v) : decide (v = .non) = k := by
  cases d <;> first | (cases hk; done) | skip
  all_goals
    have e := Option.some.inj hk
    subst e
    first | (have r' : v = _ := r; subst r'; rfl) | (obtain ⟨a, _, h, _⟩ := r; subst h; rfl)  | (obtain ⟨a, h, _⟩ := r; subst h; rfl) | (obtain ⟨h, _⟩ := r; subst h; rfl) | (obtain ⟨a, dx, vs, h, _⟩ := r; subst h; rfl)
theorem et_isN {j pos'} (h : EV Z ρ a fun d c => ∃ k, isNone d = some k ∧ P k c) : ET Z ρ (.Compare a [.Is] [.Constant .none j pos'] pos) P :=
  et_of (pt_cmp (pc_isN pe_any) rfl) fun σ H Q S q => ev_any h S fun v H1 d c S1 e1 r ⟨k, hk, hp⟩ => by
    refine ⟨decide (v = .non), rfl, ?_⟩
    rw [isNone_ok hk r]
    exact q k H1 c S1 e1 hp
theorem et_notN {j pos'} (h : EV Z ρ a fun d c => ∃ k, isNone d = some k ∧ P (!k) c) : ET Z ρ (.Compare a [.IsNot] [.Constant .none j pos'] pos) P :=
  et_of (pt_cmp (pc_notN pe_any) rfl) fun σ H Q S q => ev_any h S fun v H1 d c S1 e1 r ⟨k, hk, hp⟩ => by
    refine ⟨!decide (v = .non), rfl, ?_⟩
    rw [isNone_ok hk r]
    exact q (!k) H1 c S1 e1 hp
def EW (Z : Zt) (ρ : Rho) (e : Expr) (P : Bool → Nat → Prop) : Prop := PW Z.X e (Z.tT ρ P)
theorem pw_imp {X : Cx} {e : Expr} {t t' : TT} (p : PW X e t) (h : ∀ σ H Q, t' σ H Q → t σ H Q) : PW X e t' := ⟨fun w pins s σ H Q I q => p.run w pins s σ H Q I (h σ H Q q)⟩
def twAny (X : Cx) (e : Expr) : TT := fun σ H Q => ∃ t : TT, PW X e t ∧ t σ H Q
theorem pw_any {X : Cx} {e : Expr} : PW X e (twAny X e) := ⟨fun w pins s σ H Q I h => let ⟨t, p, q⟩ := h; p.run w pins s σ H Q I q⟩
theorem et_bool (h : EW Z ρ e P) : ET Z ρ e P := PW.pt h
theorem ew_and1 (h : ET Z ρ a P) : EW Z ρ (.BoolOp .And [a] pos) P := pw_and1 h
theorem ew_or1 (h : ET Z ρ a P) : EW Z ρ (.BoolOp .Or [a] pos) P := pw_or1 h
theorem ew_and {rest : List Expr} (h : ET Z ρ a fun k c => (k = true → EW Z (ρ.wc c) (.BoolOp .And (b :: rest) pos) P) ∧ (k = false → P false c)) : EW Z ρ (.BoolOp .And (a :: b :: rest) pos) P :=
  pw_imp (pw_and pt_any pw_any) fun σ H Q q => et_any h q.1 fun k H1 c S1 e1 hp => by
    cases k with
    | true => exact ⟨_, hp.1 rfl, S1, fun b H' c' S' e' p => q.2 b H' c' S' (fun _ _ z => e' _ _ (e1 _ _ z)) p⟩
    | false => exact q.2 false H1 c S1 e1 (hp.2 rfl)
theorem ew_or {rest : List Expr} (h : ET Z ρ a fun k c => (k = false → EW Z (ρ.wc c) (.BoolOp .Or (b :: rest) pos) P) ∧ (k = true → P true c)) : EW Z ρ (.BoolOp .Or (a :: b :: rest) pos) P :=
  pw_imp (pw_or pt_any pw_any) fun σ H Q q => et_any h q.1 fun k H1 c S1 e1 hp => by
    cases k with
    | false => exact ⟨_, hp.1 rfl, S1, fun b H' c' S' e' p => q.2 b H' c' S' (fun _ _ z => e' _ _ (e1 _ _ z)) p⟩
    | true => exact q.2 true H1 c S1 e1 (hp.2 rfl)
end
/-- as values -/
theorem ev_bone {op} (h : EV Z ρ a P) : EV Z ρ (.BoolOp op [a] pos) P := pe_one h
theorem ev_and {rest : List Expr} (h : EV Z ρ a fun d c => ∃ k, d = .bl k ∧ (k = true → EV Z (ρ.wc c) (.BoolOp .And (b :: rest) pos) P) ∧ (k = false → P (.bl false) c)) : EV Z ρ (.BoolOp .And (a :: b :: rest) pos) P :=
  ev_of (pe_and pe_any pe_any) fun σ H Q S q => ev_any h S fun v H1 d c S1 e1 r ⟨k, hk, h1, h2⟩ => by
    subst hk
    refine ⟨k, r, ?_⟩
    cases k with
    | true => exact ev_any (h1 rfl) S1 fun v H' d c' S' e' r' p => q v H' d c' S' (fun _ _ z => e' _ _ (e1 _ _ z)) r' p
    | false => exact q (.bl false) H1 (.bl false) c S1 e1 rfl (h2 rfl)
theorem ev_or {rest : List Expr} (h : EV Z ρ a fun d c => ∃ k, d = .bl k ∧ (k = false → EV Z (ρ.wc c) (.BoolOp .Or (b :: rest) pos) P) ∧ (k = true → P (.bl true) c)) : EV Z ρ (.BoolOp .Or (a :: b :: rest) pos) P :=
  ev_of (pe_or pe_any pe_any) fun σ H Q S q => ev_any h S fun v H1 d c S1 e1 r ⟨k, hk, h1, h2⟩ => by
    subst hk
    refine ⟨k, r, ?_⟩
    cases k with
    | false => exact ev_any (h1 rfl) S1 fun v H' d c' S' e' r' p => q v H' d c' S' (fun _ _ z => e' _ _ (e1 _ _ z)) r' p
    | true => exact q (.bl true) H1 (.bl true) c S1 e1 rfl (h2 rfl)
theorem ev_not (h : EV Z ρ a fun d c => ∃ k, d = .bl k ∧ P (.bl (!k)) c) : EV Z ρ (.UnaryOp .Not a pos) P :=
  ev_of (pe_not pe_any) fun σ H Q S q => ev_any h S fun v H1 d c S1 e1 r ⟨k, hk, h1⟩ => by
    subst hk
    exact ⟨k, r, q (.bl (!k)) H1 (.bl (!k)) c S1 e1 rfl h1⟩
theorem ev_if {t : Expr} (h : ET Z ρ t fun k c => (k = true → EV Z (ρ.wc c) a P) ∧ (k = false → EV Z (ρ.wc c) b P)) : EV Z ρ (.IfExp t a b pos) P :=
  ev_of (pe_ifExp pt_any pe_any pe_any) fun σ H Q S q => et_any h S fun k H1 c S1 e1 ⟨h1, h2⟩ => by
    cases k with
    | true => exact ev_any (h1 rfl) S1 fun v H' d c' S' e' r' p => q v H' d c' S' (fun _ _ z => e' _ _ (e1 _ _ z)) r' p
    | false => exact ev_any (h2 rfl) S1 fun v H' d c' S' e' r' p => q v H' d c' S' (fun _ _ z => e' _ _ (e1 _ _ z)) r' p
theorem ev_isN' {j pos'} (h : EV Z ρ a fun d c => ∃ k, isNone d = some k ∧ P (.bl k) c) : EV Z ρ (.Compare a [.Is] [.Constant .none j pos'] pos) P :=
  ev_one (r := fun x H1 Q => Q (.bl (decide (x = .non))) H1) (pe_cmp (pc_isN pe_any) rfl) (fun _ _ _ q => q) (h.mono fun d c ⟨k, hk, hp⟩ σ H v Q S r q => by
    show Q (.bl (decide (v = .non))) H
    rw [isNone_ok hk r]
    exact q.here S hp rfl)
/-! ### arguments, tuples, lists -/
def taAny (X : Cx) (es : List Expr) : TA := fun σ H Q => ∃ t : TA, PA X es t ∧ t σ H Q
theorem pa_any {X : Cx} {es : List Expr} : PA X es (taAny X es) := ⟨fun pos pins s σ H Q I h => let ⟨t, p, q⟩ := h; p.run pos pins s σ H Q I q⟩
theorem pa_imp {X : Cx} {es : List Expr} {t t' : TA} (p : PA X es t) (h : ∀ σ H Q, t' σ H Q → t σ H Q) : PA X es t' := ⟨fun pos pins s σ H Q I q => p.run pos pins s σ H Q I (h σ H Q q)⟩
theorem ea_nil {P : List D → Nat → Prop} (h : P [] ρ.c) : EA Z ρ [] P := pa_imp pa_nil fun σ H Q q => q.2 [] H [] ρ.c q.1 (fun _ _ z => z) .nil h
theorem pr_mono {T : Tab} {B : Bm} {G G' : Hp} (e : Same G G') : ∀ {ds : List D} {vs : List V}, Paired (val T B G) ds vs → Paired (val T B G') ds vs
  | _, _, .nil => .nil
  | _, _, .cons r t => .cons (r.mono e) (pr_mono e t)
theorem ea_cons {es : List Expr} {P : List D → Nat → Prop} (h : EV Z ρ e fun d c => EA Z (ρ.wc c) es fun ds c' => P (d :: ds) c') (hs : starEach (e :: es) Z.X.env = (false, eval e Z.X.env) :: starEach es Z.X.env := by rfl) : EA Z ρ (e :: es) P :=
  pa_imp (pa_cons pe_any pa_any hs) fun σ H Q q => ev_any h q.1 fun v H1 d c S1 e1 r h2 => ⟨_, h2, S1, fun vs H' ds c' S' e' r' p => q.2 (v :: vs) H' (d :: ds) c' S' (fun _ _ z => e' _ _ (e1 _ _ z)) (.cons (r.mono e') r') p⟩
theorem ea_any {es : List Expr} {P : List D → Nat → Prop} {Q : List V → Hp → Prop} (h : EA Z ρ es P) (S : SR Z ρ σ H) (k : PostA Z ρ σ H P Q) : taAny Z.X es σ H Q := ⟨_, h, S, k⟩
theorem EA.mono {es : List Expr} {P P' : List D → Nat → Prop} (h : EA Z ρ es P) (k : ∀ d c, P d c → P' d c) : EA Z ρ es P' := pa_imp h fun σ H Q q => ⟨q.1, fun v H' d c' S s r p => q.2 v H' d c' S s r (k d c' p)⟩
/-- data that may stand in a list, a tuple: no box, no own list -/
def plain : D → Bool
  | .box => false
  | .own _ _ => false
  | _ => true
theorem val_rep {T : Tab} {B : Bm} {G : Hp} {d : D} {v : V} (h : val T B G d v) (n : plain d = true) : rep T G d v := by
  cases d <;> first | exact h | cases n
theorem reps_of {T : Tab} {B : Bm} {G : Hp} : ∀ {ds : List D} {vs : List V}, Paired (val T B G) ds vs → ds.all plain = true → reps T G ds vs
  | _, _, .nil, _ => rfl
  | d :: ds, _, .cons r t, n => by
    rw [List.all_cons, Bool.and_eq_true] at n
    exact ⟨_, _, rfl, val_rep r n.1, reps_of t n.2⟩
theorem pr_len {T : Tab} {B : Bm} {G : Hp} : ∀ {ds : List D} {vs : List V}, Paired (val T B G) ds vs → vs.length = ds.length
  | _, _, .nil => rfl
  | _, _, .cons r t => by simp [pr_len t]
/-- a new object that is told -/
theorem new_obj {P : D → Nat → Prop} {Q : VK} {o : HO} {d : D} {p : Addr} (S : SR Z ρ σ H) (k : Post Z ρ σ H P Q) (hp : H p = none) (r : rep Z.T (vis ρ.B (upd H p o)) d (.ref p)) (h : P d ρ.c) : Q (.ref p) (upd H p o) :=
  k (.ref p) (upd H p o) d ρ.c (S.same (same_new hp)) (Same.vis_ (same_new hp)) (val.of r) h
theorem sizeS {n : Nat} (h : n ≤ 100000) : n ≤ sizeLine := Nat.le_trans h (by decide)
theorem new_at {o : HO} {p : Addr} (S : SR Z ρ σ H) (hp : H p = none) : vis ρ.B (upd H p o) p = some o := by
  rw [vis_upd (S.ok.fresh hp)]
  exact upd_same
theorem ev_tup {es : List Expr} {x1} (h : EA Z ρ es fun ds c => ds.all plain = true ∧ ds.length ≤ 100000 ∧ P (.tup ds) c) : EV Z ρ (.Tuple es x1 pos) P :=
  ev_of (pe_tup pa_any) fun σ H Q S k => ea_any h S fun vs H1 ds c S1 e1 r ⟨h1, h2, h3⟩ => ⟨sizeS (by rw [pr_len r]; exact h2), fun p hp => by
    refine new_obj (P := P) S1 (fun v H' d c' S' e' => k v H' d c' S' (fun _ _ z => e' _ _ (e1 _ _ z))) hp ?_ h3
    exact ⟨p, vs, rfl, new_at S1 hp, (reps_of r h1).mono (Same.vis_ (same_new hp))⟩⟩
theorem ev_lst {es : List Expr} (h : EA Z ρ es fun ds c => ds.all plain = true ∧ ds.length ≤ 100000 ∧ P (.lst ds) c) : EV Z ρ (.List es pos) P :=
  ev_of (pe_lst pa_any) fun σ H Q S k => ea_any h S fun vs H1 ds c S1 e1 r ⟨h1, h2, h3⟩ => ⟨sizeS (by rw [pr_len r]; exact h2), fun p hp => by
    refine new_obj (P := P) S1 (fun v H' d c' S' e' => k v H' d c' S' (fun _ _ z => e' _ _ (e1 _ _ z))) hp ?_ h3
    exact ⟨p, vs, rfl, new_at S1 hp, (reps_of r h1).mono (Same.vis_ (same_new hp))⟩⟩
end Q
end

section
set_option Elab.async false
set_option linter.all false
set_option maxRecDepth 100000
set_option maxHeartbeats 3900000
namespace Q
open PySem L2

/-- what a def does to data: arguments, count, the end, the raising end -/
abbrev Fw := List D → Nat → (D → Nat → Prop) → (Er → Nat → Prop) → Prop
def SpW (T : Tab) (F : Fw) : Sp := fun vs H Q E => ∃ (B : Bm) (c : Nat) (ds : List D) (P : D → Nat → Prop) (R : Er → Nat → Prop), okW B c H ∧ Paired (val T B (vis B H)) ds vs ∧ F ds c P R ∧
  (∀ v H' d c', okW B c' H' → Same (vis B H) (vis B H') → val T B (vis B H') d v → P d c' → Q v H') ∧
  (∀ e cls dx H' c', okW B c' H' → Same (vis B H) (vis B H') → erRel T (vis B H') e cls dx → R e c' → E cls dx H')
/-- the def at f does F -/
def Does (Z : Zt) (k : Nat) (f : Addr) (F : Fw) : Prop := FnG Z.X.prog Z.X.w Z.X.K Z.X.mg Z.X.base (L2.CX Z.X.prog Z.X.w) k f (SpW Z.T F)
variable {Z : Zt} {ρ : Rho} {σ : St} {H H' : Hp} {P : D → Nat → Prop} {e a b : Expr} {pos p apos : Pos} {k : Nat} {f : Addr} {F : Fw} {x m : Str} {es : List Expr}

/-- a def runs; what it raises is wished for at the slots σ -/
theorem runS {X : Cx} {pins : List (Addr × Obj)} {s : Shared} {sp : Sp} {W : WX} {Q : VK} {us : List Value} {vs : List V} (G : FnG X.prog X.w X.K X.mg X.base (L2.CX X.prog X.w) k f sp) (hr : RoomG k X.A) (tk : Takes X W)
    (I : Inv X pins σ H s) (r : Vals vs us) (h : sp vs H Q (fun c d H' => W c d σ H')) : wpAny (model X.prog X.w) X.A (call (.ref f) us) (EP X pins σ Q) X.xe s := by
  have g := G X.A X.stack s H us vs Q _ hr I.env0 r h
  refine wpAny_call (codeAny_mono g ?_)
  intro r s' hq
  match r, hq with
  | .error er, hq => exact tk er s' (XE.of_call I (fun _ _ _ z => z) hq)
  | .ok (.ret u), hq => exact I.after hq
/-- the promise at a state -/
theorem sp_at {vs : List V} {ds : List D} {Q : VK} (S : SR Z ρ σ H) (r : Paired (val Z.T ρ.B (vis ρ.B H)) ds vs) (h : F ds ρ.c P (fun er c' => Z.R er (ρ.wc c'))) (k : Post Z ρ σ H P Q) :
    SpW Z.T F vs H Q (fun c d H' => Z.W c d σ H') :=
  ⟨ρ.B, ρ.c, ds, P, _, S.ok, r, h, fun v H' d c' ok s r' p => k v H' d c' (S.call ok s) s r' p, fun er cls dx H' c' ok s r' p => ⟨ρ.wc c', er, S.call ok s, r', p⟩⟩
theorem Post.from {Q : VK} {c : Nat} (k : Post Z ρ σ H P Q) (e1 : Same (vis ρ.B H) (vis ρ.B H')) : Post Z (ρ.wc c) σ H' P Q := fun v H2 d c' S' e' r' p => k v H2 d c' S' (fun _ _ z => e' _ _ (e1 _ _ z)) r' p

def tCallW (X : Cx) (f : Addr) (es : List Expr) (sp : Sp) (W : WX) : TE := fun σ H Q => taAny X es σ H fun vs H1 => sp vs H1 Q (fun c d H' => W c d σ H')
theorem pe_callW {X : Cx} {sp : Sp} {W : WX} (G : FnG X.prog X.w X.K X.mg X.base (L2.CX X.prog X.w) k f sp) (hr : RoomG k X.A) (tk : Takes X W) (hg : Gl X x) (hm : X.mg x = some (.ref f)) (hk : PySem.W.keepIn X.K (.ref f) = true)
    (hdb : (x == ("__debug__" : Str)) = false := by decide)
    (he : starEach (e :: es) X.env = (false, eval e X.env) :: starEach es X.env := by rfl)
    (hpl : (backTo pos (starEach es X.env)).any (·.1) = false := by rfl) :
    PE X (.Call (.Name x p) (e :: es) [] pos) (tCallW X f (e :: es) sp W) := ⟨fun pins s σ H Q I h => by
  obtain ⟨t, ha, h⟩ := h
  have g := ha.run pos pins s σ H _ I h
  exact wpAny_Call_Name_kw (ld_glob I hg hm (PySem.W.callWith_K (h₀ := X.base) I.ok.mod.kin hk (thn g fun us s1 ⟨vs, H1, I1, r, q⟩ => ⟨I1.kIn, runS G hr tk I1 r q⟩) he hpl) hdb)⟩
theorem ev_call (ok : Zok Z) (G : Does Z k f F) (hr : RoomG k Z.X.A) (hg : Gl Z.X x) (hm : Z.X.mg x = some (.ref f)) (hk : PySem.W.keepIn Z.X.K (.ref f) = true)
    (h : EA Z ρ (e :: es) fun ds c => F ds c P (fun er c' => Z.R er (ρ.wc c')))
    (hdb : (x == ("__debug__" : Str)) = false := by decide)
    (he : starEach (e :: es) Z.X.env = (false, eval e Z.X.env) :: starEach es Z.X.env := by rfl) (hpl : (backTo pos (starEach es Z.X.env)).any (·.1) = false := by rfl) :
    EV Z ρ (.Call (.Name x p) (e :: es) [] pos) P :=
  ev_of (pe_callW G hr ok.tk hg hm hk hdb he hpl) fun σ H Q S k => ea_any h S fun vs H1 ds c S1 e1 r h1 => sp_at (ρ := ρ.wc c) S1 r h1 (k.from e1)
def tCallW0 (f : Addr) (sp : Sp) (W : WX) : TE := fun σ H Q => sp [] H Q (fun c d H' => W c d σ H')
theorem pe_callW0 {X : Cx} {sp : Sp} {W : WX} (G : FnG X.prog X.w X.K X.mg X.base (L2.CX X.prog X.w) k f sp) (hr : RoomG k X.A) (tk : Takes X W) (hg : Gl X x) (hm : X.mg x = some (.ref f)) (hk : PySem.W.keepIn X.K (.ref f) = true)
    (hdb : (x == ("__debug__" : Str)) = false := by decide) : PE X (.Call (.Name x p) [] [] pos) (tCallW0 f sp W) := ⟨fun pins s σ H Q I h => by
  exact wpAny_Call_Name_kw (ld_glob I hg hm (PySem.W.callWith_K0 I.kIn hk (runS (us := []) G hr tk I .nil h)) hdb)⟩
theorem ev_call0 (ok : Zok Z) (G : Does Z k f F) (hr : RoomG k Z.X.A) (hg : Gl Z.X x) (hm : Z.X.mg x = some (.ref f)) (hk : PySem.W.keepIn Z.X.K (.ref f) = true)
    (h : F [] ρ.c P (fun er c' => Z.R er (ρ.wc c'))) (hdb : (x == ("__debug__" : Str)) = false := by decide) : EV Z ρ (.Call (.Name x p) [] [] pos) P :=
  ev_of (pe_callW0 G hr ok.tk hg hm hk hdb) fun σ H Q S k => sp_at (ρ := ρ) S .nil h k

/-! ### built-ins by name -/
theorem ev_blt {id : String} {r : List V → Hp → VK → Prop} (hc : CallR Z.X (.builtin id) r) (hg : Gl Z.X x) (hm : Z.X.mg x = none) (hv : bootBuiltins x = some (.builtin id))
    (h : EA Z ρ (e :: es) fun ds c => ∀ σ H vs (Q : VK), SR Z (ρ.wc c) σ H → Paired (val Z.T ρ.B (vis ρ.B H)) ds vs → Post Z (ρ.wc c) σ H P Q → r vs H Q) (hn : x ≠ "__name__" := by decide) (hdb : (x == ("__debug__" : Str)) = false := by decide)
    (he : starEach (e :: es) Z.X.env = (false, eval e Z.X.env) :: starEach es Z.X.env := by rfl) (hpl : (backTo pos (starEach es Z.X.env)).any (·.1) = false := by rfl) : EV Z ρ (.Call (.Name x p) (e :: es) [] pos) P :=
  ev_of (pe_callB hc hg hm hv pa_any hn hdb he hpl) fun σ H Q S k => ea_any h S fun vs H1 ds c S1 e1 r h1 => h1 σ H1 vs Q S1 r (k.from e1)
theorem ev_typ {id : String} {r : List V → Hp → VK → Prop} (hc : CallR Z.X (.type id) r) (hg : Gl Z.X x) (hm : Z.X.mg x = none) (hv : bootBuiltins x = some (.type id))
    (h : EA Z ρ (e :: es) fun ds c => ∀ σ H vs (Q : VK), SR Z (ρ.wc c) σ H → Paired (val Z.T ρ.B (vis ρ.B H)) ds vs → Post Z (ρ.wc c) σ H P Q → r vs H Q) (hn : x ≠ "__name__" := by decide) (hdb : (x == ("__debug__" : Str)) = false := by decide)
    (he : starEach (e :: es) Z.X.env = (false, eval e Z.X.env) :: starEach es Z.X.env := by rfl) (hpl : (backTo pos (starEach es Z.X.env)).any (·.1) = false := by rfl) : EV Z ρ (.Call (.Name x p) (e :: es) [] pos) P :=
  ev_of (pe_callTy hc hg hm hv pa_any hn hdb he hpl) fun σ H Q S k => ea_any h S fun vs H1 ds c S1 e1 r h1 => h1 σ H1 vs Q S1 r (k.from e1)
theorem pr1 {T : Tab} {B : Bm} {G : Hp} {d : D} {vs : List V} (h : Paired (val T B G) [d] vs) : ∃ v, vs = [v] ∧ val T B G d v := by
  cases h with
  | cons r t =>
    cases t
    exact ⟨_, rfl, r⟩
theorem pr2 {T : Tab} {B : Bm} {G : Hp} {d d' : D} {vs : List V} (h : Paired (val T B G) [d, d'] vs) : ∃ v v', vs = [v, v'] ∧ val T B G d v ∧ val T B G d' v' := by
  cases h with
  | cons r t =>
    obtain ⟨v', h, q⟩ := pr1 t
    subst h
    exact ⟨_, _, rfl, r, q⟩
/-- a built-in over ints -/
def l1 (g : Int → (D → Nat → Prop) → Nat → Prop) : List D → (D → Nat → Prop) → Nat → Prop
  | [.int i], P, c => g i P c
  | _, _, _ => False
def l2 (g : Int → Int → (D → Nat → Prop) → Nat → Prop) : List D → (D → Nat → Prop) → Nat → Prop
  | [.int i, .int j], P, c => g i j P c
  | _, _, _ => False
theorem l1_elim {g : Int → (D → Nat → Prop) → Nat → Prop} {ds : List D} {c : Nat} (h : l1 g ds P c) : ∃ i, ds = [.int i] ∧ g i P c := by
  unfold l1 at h
  split at h
  · exact ⟨_, rfl, h⟩
  · exact h.elim
theorem l2_elim {g : Int → Int → (D → Nat → Prop) → Nat → Prop} {ds : List D} {c : Nat} (h : l2 g ds P c) : ∃ i j, ds = [.int i, .int j] ∧ g i j P c := by
  unfold l2 at h
  split at h
  · exact ⟨_, _, rfl, h⟩
  · exact h.elim
theorem ev_abs (hg : Gl Z.X "abs") (hm : Z.X.mg "abs" = none) (h : EA Z ρ [a] fun ds c => l1 (fun i P c => P (.int (if i < 0 then -i else i)) c) ds P c) (he : starEach [a] Z.X.env = (false, eval a Z.X.env) :: starEach [] Z.X.env := by rfl) : EV Z ρ (.Call (.Name "abs" p) [a] [] pos) P :=
  ev_blt call_abs hg hm (by decide +kernel) (h.mono fun ds c h σ H vs Q S r k => by
    obtain ⟨i, rfl, hp⟩ := l1_elim h
    obtain ⟨v, rfl, hv⟩ := pr1 r
    cases hv
    exact ⟨i, rfl, k.here S hp rfl⟩) (he := he)
theorem ev_max (ok : Zok Z) (hg : Gl Z.X "max") (hm : Z.X.mg "max" = none) (h : EA Z ρ [a, b] fun ds c => l2 (fun i j P c => P (.int (if j > i then j else i)) c) ds P c) (he : starEach [a, b] Z.X.env = (false, eval a Z.X.env) :: starEach [b] Z.X.env := by rfl) (hpl : (backTo pos (starEach [b] Z.X.env)).any (·.1) = false := by rfl) (hc : Z.X.calm = true := by rfl) : EV Z ρ (.Call (.Name "max" p) [a, b] [] pos) P :=
  ev_blt (call_max2 hc) hg hm (by decide +kernel) (h.mono fun ds c h σ H vs Q S r k => by
    obtain ⟨i, j, rfl, hp⟩ := l2_elim h
    obtain ⟨v, v', rfl, hv, hv'⟩ := pr2 r
    cases hv
    cases hv'
    exact ⟨i, j, rfl, k.here S hp rfl⟩) (he := he) (hpl := hpl)
theorem ev_min (ok : Zok Z) (hg : Gl Z.X "min") (hm : Z.X.mg "min" = none) (h : EA Z ρ [a, b] fun ds c => l2 (fun i j P c => P (.int (if j < i then j else i)) c) ds P c) (he : starEach [a, b] Z.X.env = (false, eval a Z.X.env) :: starEach [b] Z.X.env := by rfl) (hpl : (backTo pos (starEach [b] Z.X.env)).any (·.1) = false := by rfl) (hc : Z.X.calm = true := by rfl) : EV Z ρ (.Call (.Name "min" p) [a, b] [] pos) P :=
  ev_blt (call_min2 hc) hg hm (by decide +kernel) (h.mono fun ds c h σ H vs Q S r k => by
    obtain ⟨i, j, rfl, hp⟩ := l2_elim h
    obtain ⟨v, v', rfl, hv, hv'⟩ := pr2 r
    cases hv
    cases hv'
    exact ⟨i, j, rfl, k.here S hp rfl⟩) (he := he) (hpl := hpl)
theorem ev_toInt (hg : Gl Z.X "int") (hm : Z.X.mg "int" = none) (h : EA Z ρ [a] fun ds c => l1 (fun i P c => P (.int i) c) ds P c) (he : starEach [a] Z.X.env = (false, eval a Z.X.env) :: starEach [] Z.X.env := by rfl) : EV Z ρ (.Call (.Name "int" p) [a] [] pos) P :=
  ev_typ call_int1 hg hm (by decide +kernel) (h.mono fun ds c h σ H vs Q S r k => by
    obtain ⟨i, rfl, hp⟩ := l1_elim h
    obtain ⟨v, rfl, hv⟩ := pr1 r
    cases hv
    exact .inl ⟨i, rfl, k.here S hp rfl⟩) (he := he)
/-- len -/
def lenD : D → Option Nat
  | .lst l => some l.length
  | .tup l => some l.length
  | .scr l => some l.length
  | _ => none
theorem seq_at {T : Tab} {G : Hp} {d : D} {v : V} {n : Nat} (h : lenD d = some n) (r : rep T G d v) : ∃ p ys, v = .ref p ∧ (SqL T.K G p ys ∨ SqT T.K G p ys) ∧ ys.length = n := by
  cases d <;> first | (cases h; done) | skip
  case tup l =>
    obtain ⟨q, vs, h1, h2, h3⟩ := r
    refine ⟨q, vs, h1, .inr (.inl (.inl h2)), ?_⟩
    rw [h3.len]
    exact Option.some.inj h
  case lst l =>
    obtain ⟨q, vs, h1, h2, h3⟩ := r
    refine ⟨q, vs, h1, .inl (.inl (.inl h2)), ?_⟩
    rw [h3.len]
    exact Option.some.inj h
  case scr l =>
    obtain ⟨q, h1, h2⟩ := r
    refine ⟨q, _, h1, .inl h2, ?_⟩
    rw [List.length_map]
    exact Option.some.inj h
theorem lenD_plain {d : D} {n : Nat} (h : lenD d = some n) : plain d = true := by
  cases d <;> first | rfl | cases h
theorem ev_len (hK : Z.X.K = Z.T.K) (hg : Gl Z.X "len") (hm : Z.X.mg "len" = none) (h : EA Z ρ [a] fun ds c => ∃ d n, ds = [d] ∧ lenD d = some n ∧ P (.int (n : Nat)) c) (he : starEach [a] Z.X.env = (false, eval a Z.X.env) :: starEach [] Z.X.env := by rfl) : EV Z ρ (.Call (.Name "len" p) [a] [] pos) P :=
  ev_blt call_len_seq hg hm (by decide +kernel) (h.mono fun ds c h σ H vs Q S r k => by
    obtain ⟨d, n, rfl, hn, hp⟩ := h
    obtain ⟨v, rfl, hv⟩ := pr1 r
    obtain ⟨q, ys, rfl, h1, h2⟩ := seq_at hn (val_rep hv (lenD_plain hn))
    refine ⟨q, ys, rfl, ?_, ?_⟩
    · rw [hK]
      rcases h1 with h1 | h1
      · exact .inl (seqS vis_same h1)
      · exact .inr (same_t vis_same h1)
    · rw [h2]
      exact k.here (d := .int (n : Nat)) S hp rfl) (he := he)
theorem ev_gcd (hg : Gl Z.X "gcd") (hm : Z.X.mg "gcd" = some (.builtin "math.gcd")) (h : EA Z ρ [a, b] fun ds c => l2 (fun i j P c => P (.int ((Nat.gcd i.natAbs j.natAbs : Nat) : Int)) c) ds P c) (he : starEach [a, b] Z.X.env = (false, eval a Z.X.env) :: starEach [b] Z.X.env := by rfl) (hpl : (backTo pos (starEach [b] Z.X.env)).any (·.1) = false := by rfl) : EV Z ρ (.Call (.Name "gcd" p) [a, b] [] pos) P :=
  ev_of (pe_callBfun cr_gcd hg hm pa_any (he := he) (hpl := hpl)) fun σ H Q S k => ea_any h S fun vs H1 ds c S1 e1 r h1 => by
    obtain ⟨i, j, rfl, hp⟩ := l2_elim h1
    obtain ⟨v, v', rfl, hv, hv'⟩ := pr2 r
    cases hv
    cases hv'
    exact ⟨i, j, rfl, (k.from (c := c) e1).here (d := .int _) S1 hp rfl⟩

/-! ### subscripts -/
def ixD : D → Int → Option D
  | .lst l, i => atI l i
  | .tup l, i => atI l i
  | .scr l, i => (atI l i).map .int
  | .str z, i => if z.length ≤ 100000 then (atI z.cps.toList i).map fun c => .str ⟨#[c]⟩ else none
  | _, _ => none
theorem atI_reps {T : Tab} {G : Hp} {l : List D} {vs : List V} {i : Int} {d : D} (r : reps T G l vs) (h : atI l i = some d) : ∃ v, atI vs i = some v ∧ rep T G d v := by
  unfold atI at h ⊢
  rw [r.len]
  cases e : ixN l.length i with
  | none =>
    rw [e] at h
    cases h
  | some j =>
    rw [e] at h
    exact r.get h
theorem atI_map {l : List Int} {i n : Int} (h : atI l i = some n) : atI (l.map V.int) i = some (.int n) := by
  unfold atI at h ⊢
  rw [List.length_map]
  cases e : ixN l.length i with
  | none =>
    rw [e] at h
    cases h
  | some j =>
    rw [e] at h
    have h' : l[j]? = some n := h
    show (l.map V.int)[j]? = some (.int n)
    rw [List.getElem?_map, h']
    rfl
theorem ev_ix (hK : Z.X.K = Z.T.K) (h : EV Z ρ a fun d1 c1 => EV Z (ρ.wc c1) b fun d2 c2 => ∃ i d, d2 = .int i ∧ ixD d1 i = some d ∧ P d c2) (hs : PlainIx b := by exact fun _ _ => rfl) : EV Z ρ (.Subscript a b pos) P :=
  two (r := rIx Z.X.K) (pe_ix ix_seq pe_any pe_any hs) (fun σ H Q q => q) (h.mono fun d1 c1 h2 => h2.mono fun d2 c2 ⟨i, d, hd, hx, hp⟩ σ H v1 v2 Q S r1 r2 k => by
    subst hd
    cases r2
    rw [hK]
    cases d1 <;> first | (cases hx; done) | skip
    case tup l _ =>
      obtain ⟨q, vs, rfl, h2, h3⟩ := r1
      obtain ⟨v, g1, g2⟩ := atI_reps h3 hx
      exact .inr (.inl ⟨q, vs, i, v, rfl, rfl, .inl (.inl (vis_some h2)), g1, k.here S hp (.of g2)⟩)
    case lst l _ =>
      obtain ⟨q, vs, rfl, h2, h3⟩ := r1
      obtain ⟨v, g1, g2⟩ := atI_reps h3 hx
      exact .inl ⟨q, vs, i, v, rfl, rfl, .inl (.inl (vis_some h2)), g1, k.here S hp (.of g2)⟩
    case scr l _ =>
      obtain ⟨q, rfl, h2⟩ := r1
      obtain ⟨n, e1, e2⟩ := Option.map_eq_some_iff.mp (show (atI l i).map D.int = some d from hx)
      subst e2
      exact .inl ⟨q, _, i, _, rfl, rfl, seqS vis_same h2, atI_map e1, k.here (d := .int n) S hp rfl⟩
    case str z _ =>
      cases r1
      have hx' : (if z.length ≤ 100000 then (atI z.cps.toList i).map fun c => D.str ⟨#[c]⟩ else none) = some d := hx
      split at hx'
      · obtain ⟨n, e1, e2⟩ := Option.map_eq_some_iff.mp hx'
        subst e2
        exact .inr (.inr ⟨z, i, n, rfl, rfl, sizeS (by assumption), e1, k.here (d := .str _) S hp rfl⟩)
      · cases hx')
end Q
end

section
set_option Elab.async false
set_option linter.all false
set_option maxRecDepth 100000
set_option maxHeartbeats 3900000
namespace Q
open PySem L2

/-- where a statement may go on -/
structure Out where
  nx : Rho → Prop
  bk : Rho → Prop
  ct : Rho → Prop
structure OK (Z : Zt) (O : Out) (D : Ends) : Prop where
  nx : ∀ σ H ρ, SR Z ρ σ H → O.nx ρ → D.nx σ H
  bk : ∀ σ H ρ, SR Z ρ σ H → O.bk ρ → D.bk σ H
  ct : ∀ σ H ρ, SR Z ρ σ H → O.ct ρ → D.ct σ H
  rt : ∀ σ H ρ v d, SR Z ρ σ H → rep Z.T (vis ρ.B H) d v → Z.rt d ρ.c → D.rt v H
def Zt.tS (Z : Zt) (ρ : Rho) (O : Out) : TS := fun D σ H => SR Z ρ σ H ∧ OK Z O D
def ST (Z : Zt) (ρ : Rho) (st : Stmt) (O : Out) : Prop := PS Z.X st (Z.tS ρ O)
def SS (Z : Zt) (ρ : Rho) (l : List Stmt) (O : Out) : Prop := PSs Z.X l (Z.tS ρ O)

variable {Z : Zt} {ρ : Rho} {σ : St} {H H' : Hp} {O : Out} {e a b : Expr} {pos p apos : Pos} {st : Stmt} {l l' : List Stmt} {D' : Ends}
def tsAny (X : Cx) (st : Stmt) : TS := fun D σ H => ∃ t : TS, PS X st t ∧ t D σ H
theorem ps_any {X : Cx} : PS X st (tsAny X st) := ⟨fun pins s σ H D I h => let ⟨t, p, q⟩ := h; p.run pins s σ H D I q⟩
theorem ps_imp {X : Cx} {t t' : TS} (p : PS X st t) (h : ∀ D σ H, t' D σ H → t D σ H) : PS X st t' := ⟨fun pins s σ H D I q => p.run pins s σ H D I (h D σ H q)⟩
def tssAny (X : Cx) (l : List Stmt) : TS := fun D σ H => ∃ t : TS, PSs X l t ∧ t D σ H
theorem pss_any {X : Cx} : PSs X l (tssAny X l) := ⟨fun pins s σ H D I h => let ⟨t, p, q⟩ := h; p.run pins s σ H D I q⟩
theorem pss_imp {X : Cx} {t t' : TS} (p : PSs X l t) (h : ∀ D σ H, t' D σ H → t D σ H) : PSs X l t' := ⟨fun pins s σ H D I q => p.run pins s σ H D I (h D σ H q)⟩
theorem st_of {t : TS} (p : PS Z.X st t) (h : ∀ D σ H, SR Z ρ σ H → OK Z O D → t D σ H) : ST Z ρ st O := ps_imp p fun D σ H q => h D σ H q.1 q.2
theorem ss_any (h : SS Z ρ l O) (S : SR Z ρ σ H) (k : OK Z O D') : tssAny Z.X l D' σ H := ⟨_, h, S, k⟩
theorem st_any (h : ST Z ρ st O) (S : SR Z ρ σ H) (k : OK Z O D') : tsAny Z.X st D' σ H := ⟨_, h, S, k⟩
theorem SS.mono {O' : Out} (h : SS Z ρ l O) (n : ∀ r, O.nx r → O'.nx r) (b : ∀ r, O.bk r → O'.bk r) (c : ∀ r, O.ct r → O'.ct r) : SS Z ρ l O' :=
  pss_imp h fun D σ H q => ⟨q.1, ⟨fun σ H r S x => q.2.nx σ H r S (n r x), fun σ H r S x => q.2.bk σ H r S (b r x), fun σ H r S x => q.2.ct σ H r S (c r x), q.2.rt⟩⟩

theorem ss_nil (h : O.nx ρ) : SS Z ρ [] O := pss_imp pss_nil fun D σ H q => q.2.nx σ H ρ q.1 h
theorem ss_cons (h : ST Z ρ st ⟨fun r => SS Z r l O, O.bk, O.ct⟩) : SS Z ρ (st :: l) O := pss_imp (pss_cons ps_any pss_any) fun D σ H q =>
  st_any h q.1 ⟨fun σ H r S x => ss_any x S q.2, q.2.bk, q.2.ct, q.2.rt⟩
theorem ss_one (h : ST Z ρ st O) : SS Z ρ [st] O := pss_imp (pss_one ps_any) fun D σ H q => st_any h q.1 q.2
theorem st_ret (h : EV Z ρ e fun d c => plain d = true ∧ Z.rt d c) : ST Z ρ (.Return (some e) pos) O := st_of (ps_ret pe_any) fun D σ H S k => ev_any h S fun v H' d c' S' _ r p => k.rt σ H' (ρ.wc c') v d S' (val_rep r p.1) p.2
theorem st_pass (h : O.nx ρ) : ST Z ρ (.Pass pos) O := st_of ps_pass fun D σ H S k => k.nx σ H ρ S h
theorem st_break (h : O.bk ρ) : ST Z ρ (.Break pos) O := st_of ps_break fun D σ H S k => k.bk σ H ρ S h
theorem st_cont (h : O.ct ρ) : ST Z ρ (.Continue pos) O := st_of ps_continue fun D σ H S k => k.ct σ H ρ S h
theorem st_expr (h : EV Z ρ e fun _ c => O.nx (ρ.wc c)) (hs : swapsWith e none pos.line Z.X.env = pure false := by rfl) : ST Z ρ (.Expr e pos) O :=
  st_of (ps_expr pe_any hs) fun D σ H S k => ev_any h S fun v H' d c' S' _ r p => k.nx σ H' (ρ.wc c') S' p
theorem st_set {i : Nat} {x : Str} {pos' : Pos} (ok : Zok Z) (h : EV Z ρ e fun d c => O.nx ((ρ.wc c).set i d)) (hi : Z.X.N[i]? = some x := by rfl) (hx : Loc Z.X.env.scope x := by first | exact Or.inl rfl | exact Or.inr rfl)
    (hs : swapsWith e (some (.Name x pos')) pos.line Z.X.env = pure false := by rfl) (hf : Z.X.fn x = true ∨ Z.X.env.scope.names.lookup x = some .local := by first | exact .inl rfl | exact .inr rfl) : ST Z ρ (.Assign [.Name x pos'] e pos) O :=
  st_of (ps_set ok.nd hi hx pe_any hs hf) fun D σ H S k => ev_any h S fun v H' d c' S' _ r p => k.nx _ H' _ (S'.set i (slot_of r)) p
theorem st_if {c : Expr} (h : ET Z ρ c fun k n => (k = true → SS Z (ρ.wc n) l O) ∧ (k = false → SS Z (ρ.wc n) l' O)) : ST Z ρ (.If c l l' pos) O :=
  st_of (ps_if pt_any pss_any pss_any) fun D σ H S q => et_any h S fun k H1 n S1 e1 ⟨h1, h2⟩ => by
    cases k with
    | true => exact ss_any (h1 rfl) S1 q
    | false => exact ss_any (h2 rfl) S1 q
theorem st_never (h : False) : ST Z ρ st O := h.elim
/-- a, b = x, y -/
theorem st_par (i j : Nat) {x y : Str} {px py pt pt2 : Pos} {kt k2 : Nat} (ok : Zok Z) (h : EA Z ρ [a, b] fun ds c => ∃ d d', ds = [d, d'] ∧ O.nx (((ρ.wc c).set i d).set j d'))
    (hi : Z.X.N[i]? = some x := by rfl) (hj : Z.X.N[j]? = some y := by rfl) (hij : i ≠ j := by decide) (hx : Z.X.env.scope.names.lookup x = some .local := by rfl) (hy : Z.X.env.scope.names.lookup y = some .local := by rfl)
    (hw : swappedStores [.Tuple [.Name x px, .Name y py] kt pt] (.Tuple [a, b] k2 pt2) Z.X.env = pure (some [x, y]) := by rfl) (hs : swapsWithSole [.Tuple [.Name x px, .Name y py] kt pt] (.Tuple [a, b] k2 pt2) pos.line Z.X.env = pure false := by rfl) (hc : Z.X.calm = true := by rfl) :
    ST Z ρ (.Assign [.Tuple [.Name x px, .Name y py] kt pt] (.Tuple [a, b] k2 pt2) pos) O :=
  st_of (ps_par hc ok.nd hi hj hij hx hy pa_any hw hs) fun D σ H S k => ea_any h S fun vs H1 ds c S1 e1 r ⟨d, d', hd, hp⟩ => by
    subst hd
    obtain ⟨v, v', rfl, r1, r2⟩ := pr2 r
    exact ⟨v, v', rfl, k.nx _ _ _ ((S1.set i (slot_of r1)).set j (slot_of r2)) hp⟩

/-! ### while -/
theorem st_while {c : Expr} (ok : Zok Z) (I : Nat → Rho → Prop) (m : Nat) (h0 : I m ρ)
    (hs : ∀ m ρ, I m ρ → ET Z ρ c fun k n => (k = true → SS Z (ρ.wc n) l ⟨fun r => ∃ m', m' < m ∧ I m' r, O.nx, fun r => ∃ m', m' < m ∧ I m' r⟩) ∧ (k = false → O.nx (ρ.wc n))) : ST Z ρ (.While c l [] pos) O :=
  st_of (ps_while ok.po pt_any pss_any) fun D σ H S q => by
    refine ⟨fun m σ H => ∃ ρ, SR Z ρ σ H ∧ I m ρ, ⟨m, ρ, S, h0⟩, fun m σ H ⟨ρ, S, hi⟩ => et_any (hs m ρ hi) S fun k H1 n S1 e1 hp => ?_⟩
    cases k with
    | true =>
      refine ⟨fun σ H => ∃ m', m' < m ∧ ∃ ρ, SR Z ρ σ H ∧ I m' ρ, fun σ' H' z => z, ss_any (hp.1 rfl) S1 ⟨fun σ H r S ⟨m', h1, h2⟩ => ⟨m', h1, r, S, h2⟩, fun σ H r S x => q.nx σ H r S x, fun σ H r S ⟨m', h1, h2⟩ => ⟨m', h1, r, S, h2⟩, q.rt⟩⟩
    | false => exact q.nx σ H1 _ S1 (hp.2 rfl)

/-! ### for -/
/-- a ghost more -/
abbrev Zt.gh (Z : Zt) (d : D) (v : V) : Zt := { Z with g := (d, v) :: Z.g }
theorem SR.gh_in {d : D} {v : V} (S : SR Z ρ σ H) (r : rep Z.T (vis ρ.B H) d v) : SR (Z.gh d v) ρ σ H := ⟨S.ok, S.le, S.ex, S.sl, fun p hp => by
  rcases List.mem_cons.mp hp with y | hp
  · subst y; exact r
  · exact S.gh p hp⟩
theorem SR.gh_out {d : D} {v : V} (S : SR (Z.gh d v) ρ σ H) : SR Z ρ σ H := ⟨S.ok, S.le, S.ex, S.sl, fun p hp => S.gh p (List.mem_cons_of_mem _ hp)⟩
theorem SR.gh_at {d : D} {v : V} (S : SR (Z.gh d v) ρ σ H) : rep Z.T (vis ρ.B H) d v := S.gh _ List.mem_cons_self
theorem Zok.gh {d : D} {v : V} (ok : Zok Z) : Zok (Z.gh d v) := ⟨ok.tk.imp fun c dx σ H ⟨ρ, e, S, r, x⟩ => ⟨ρ, e, S.gh_out, r, x⟩, ok.po, ok.K, ok.nd⟩
/-- the turns of a for over ds; body: what a turn does -/
def turns (body : Rho → D → (Rho → Prop) → Prop) (N : Rho → Prop) : List D → Rho → Prop
  | [], ρ => N ρ
  | d :: r, ρ => body ρ d (fun ρ' => turns body N r ρ')
def items : D → Option (List D)
  | .lst l => some l
  | .scr l => some (l.map .int)
  | _ => none
theorem items_at {T : Tab} {G : Hp} {d : D} {v : V} {l : List D} (h : items d = some l) (r : rep T G d v) : ∃ a xs, v = .ref a ∧ SqL T.K G a xs ∧ reps T G l xs := by
  cases d <;> first | (cases h; done) | skip
  case lst l' =>
    obtain ⟨a, vs, h1, h2, h3⟩ := r
    have e := Option.some.inj h
    subst e
    exact ⟨a, vs, h1, .inl (.inl h2), h3⟩
  case scr l' =>
    obtain ⟨a, h1, h2⟩ := r
    have e := Option.some.inj h
    subst e
    refine ⟨a, _, h1, h2, ?_⟩
    clear h h1 h2
    induction l' with
    | nil => rfl
    | cons n r ih => exact ⟨_, _, rfl, rfl, ih⟩
theorem items_plain {d : D} {l : List D} (h : items d = some l) : plain d = true := by
  cases d <;> first | rfl | cases h
/-- a for's target that is a name -/
theorem st_for {i : Nat} {x : Str} {iter : Expr} {px : Pos} (ok : Zok Z)
    (h : EV Z ρ iter fun d c => ∃ l', items d = some l' ∧ ∀ v, turns (fun ρ y K => SS (Z.gh d v) (ρ.set i y) l ⟨K, O.nx, K⟩) O.nx l' (ρ.wc c))
    (hs : ∀ x, foldedSetIterable iter Z.X.env x = pure x := by intro _; rfl) (hi : Z.X.N[i]? = some x := by rfl) (hx : Loc Z.X.env.scope x := by first | exact Or.inl rfl | exact Or.inr rfl) (hf : Z.X.fn x = true ∨ Z.X.env.scope.names.lookup x = some .local := by first | exact .inl rfl | exact .inr rfl) (hc : Z.X.calm = true := by rfl) :
    ST Z ρ (.For (.Name x px) iter l [] pos) O :=
  st_of (ps_for ok.po hc (pi_list pe_any) (pg_name ok.nd hi hx hf) pss_any (hs := hs)) fun D' σ H S q => ev_any h S fun v H1 d c S1 e1 r ⟨l', hl, ht⟩ => by
    have r0 := val_rep r (items_plain hl)
    obtain ⟨a, xs, rfl, hs, hr⟩ := items_at hl r0
    refine ⟨a, rfl, ⟨xs, by rw [ok.K]; exact seqS vis_same hs⟩, ?_⟩
    rw [ok.K]
    have Sg : SR (Z.gh d (.ref a)) (ρ.wc c) σ H1 := S1.gh_in r0
    have stay : ∀ {ρ' : Rho} {σ' : St} {H' : Hp}, SR (Z.gh d (.ref a)) ρ' σ' H' → ∃ ys, SqL Z.T.K H' a ys ∧ reps Z.T (vis ρ'.B H') l' ys := fun S' => by
      obtain ⟨a', ys, e, h1, h2⟩ := items_at hl S'.gh_at
      cases e
      exact ⟨ys, seqS vis_same h1, h2⟩
    refine ⟨fun j n σ' H' => ∃ ρ', SR (Z.gh d (.ref a)) ρ' σ' H' ∧ j + n = l'.length ∧ turns (fun ρ y K => SS (Z.gh d (.ref a)) (ρ.set i y) l ⟨K, O.nx, K⟩) O.nx (l'.drop j) ρ', ⟨l'.length, ρ.wc c, Sg, Nat.zero_add _, ht _⟩, fun j n σ' H' ⟨ρ', S', hn, ht'⟩ => ?_⟩
    obtain ⟨ys, hy, hry⟩ := stay S'
    cases n with
    | zero =>
      have hd : l'.drop j = [] := List.drop_of_length_le (by omega)
      rw [hd] at ht'
      exact .inl ⟨⟨ys, hy, by rw [hry.len]; omega⟩, q.nx _ _ _ S'.gh_out ht'⟩
    | succ n =>
      have hj : j < l'.length := by omega
      have hd : l'.drop j = l'[j] :: l'.drop (j + 1) := List.drop_eq_getElem_cons hj
      rw [hd] at ht'
      obtain ⟨w, hw, rw_⟩ := hry.get (List.getElem?_eq_getElem hj)
      refine .inr ⟨⟨ys, w, hy, hw⟩, fun σ2 H2 => ∃ ρ2, SR (Z.gh d (.ref a)) ρ2 σ2 H2 ∧ turns (fun ρ y K => SS (Z.gh d (.ref a)) (ρ.set i y) l ⟨K, O.nx, K⟩) O.nx (l'.drop (j + 1)) ρ2, fun σ2 H2 ⟨ρ2, S2, t2⟩ => ⟨n, by omega, ρ2, S2, by omega, t2⟩, fun x2 H2 hy2 => ?_⟩
      obtain ⟨rfl, fv⟩ := hy2
      have ex : x2 = w := Option.some.inj ((fv ys hy).symm.trans hw)
      subst ex
      exact ss_any (Z := Z.gh d (.ref a)) ht' (S'.set i (slot_of (.of rw_))) ⟨fun σ H r S x => ⟨r, S, x⟩, fun σ H r S x => q.nx σ H r S.gh_out x, fun σ H r S x => ⟨r, S, x⟩, fun σ H r v d S => q.rt σ H r v d S.gh_out⟩
/-- for i in range(n) -/
def spins (body : Rho → Int → (Rho → Prop) → Prop) (N : Rho → Prop) : Nat → Int → Rho → Prop
  | 0, _, ρ => N ρ
  | n + 1, j, ρ => body ρ j (fun ρ' => spins body N n (j + 1) ρ')
theorem st_range {i : Nat} {x : Str} {px pr pc : Pos} (ok : Zok Z) (hg : Gl Z.X "range") (hm : Z.X.mg "range" = none)
    (h : EA Z ρ [a] fun ds c => ∃ n : Int, ds = [.int n] ∧ n < 2 ^ 62 ∧ -(2 ^ 62) ≤ n ∧ spins (fun ρ y K => SS Z (ρ.set i (.int y)) l ⟨K, O.nx, K⟩) O.nx n.toNat 0 (ρ.wc c))
    (hst : starEach [a] Z.X.env = [(false, eval a Z.X.env)] := by rfl) (hi : Z.X.N[i]? = some x := by rfl) (hx : Loc Z.X.env.scope x := by first | exact Or.inl rfl | exact Or.inr rfl)
    (hf : Z.X.fn x = true ∨ Z.X.env.scope.names.lookup x = some .local := by first | exact .inl rfl | exact .inr rfl) (hc : Z.X.calm = true := by rfl) : ST Z ρ (.For (.Name x px) (.Call (.Name "range" pr) [a] [] pc) l [] pos) O :=
  st_of (ps_for ok.po hc (pi_range1 hg hm pa_any hst) (pg_name ok.nd hi hx hf) pss_any) fun D' σ H S q => ea_any h S fun vs H1 ds c S1 e1 r ⟨n, hd, h1, h2, ht⟩ => by
    subst hd
    obtain ⟨v, rfl, hv⟩ := pr1 r
    cases hv
    refine ⟨n, rfl, h2, h1, ?_⟩
    refine ⟨fun j m σ' H' => ∃ ρ', SR Z ρ' σ' H' ∧ j + m = n.toNat ∧ spins (fun ρ y K => SS Z (ρ.set i (.int y)) l ⟨K, O.nx, K⟩) O.nx m (j : Int) ρ', ⟨n.toNat, ρ.wc c, S1, Nat.zero_add _, ht⟩, fun j m σ' H' ⟨ρ', S', hn, ht'⟩ => ?_⟩
    cases m with
    | zero => exact .inl ⟨by show n.toNat ≤ j; omega, q.nx _ _ _ S' ht'⟩
    | succ m =>
      refine .inr ⟨by show j < n.toNat; omega, fun σ2 H2 => ∃ ρ2, SR Z ρ2 σ2 H2 ∧ spins (fun ρ y K => SS Z (ρ.set i (.int y)) l ⟨K, O.nx, K⟩) O.nx m ((j : Int) + 1) ρ2, fun σ2 H2 ⟨ρ2, S2, t2⟩ => ⟨m, by omega, ρ2, S2, by omega, (by rw [show ((j + 1 : Nat) : Int) = (j : Int) + 1 from rfl]; exact t2)⟩, fun x2 H2 hy2 => ?_⟩
      obtain ⟨rfl, rfl⟩ := hy2
      rw [Int.zero_add]
      exact ss_any ht' (S'.set i (slot_of (d := .int j) rfl)) ⟨fun σ H r S x => ⟨r, S, x⟩, fun σ H r S x => q.nx σ H r S x, fun σ H r S x => ⟨r, S, x⟩, q.rt⟩

/-! ### a def -/
theorem slots_start {T : Tab} {B : Bm} {G : Hp} : ∀ {ds : List D} {vs : List V} (n : Nat), Paired (val T B G) ds vs → slots T B G (ds.map some ++ List.replicate n none) (vs.map some ++ List.replicate n none)
  | _, _, n, .cons r t => ⟨_, _, rfl, slot_of r, slots_start n t⟩
  | _, _, 0, .nil => rfl
  | _, _, n + 1, .nil => ⟨none, _, rfl, slots_start n .nil⟩
/-- the data at the entry -/
def entry (N : List Str) (ds : List D) : List (Option D) := ds.map some ++ List.replicate (N.length - ds.length) none
/-- the context of a def's body -/
def zBody (P : Program) (w : World) (T : Tab) (mg : Str → Option Value) (base : Heap) (N : List Str) (qual : Str) (scope : Scope) (f : Addr) (cdv : Value) (A : Around) (outer : List Env) (s : Shared) (H : Hp) (E : XK)
    (B : Bm) (R : Er → Nat → Prop) (rt : D → Nat → Prop) : Zt :=
  { X := cxOf (L2.CX P w) P w T.K mg base N qual scope f cdv A outer s H E, T := T, B0 := B, H0 := H, g := [], R := fun er r => R er r.c, rt := rt }
theorem Fun.does {P : Program} {w : World} {T : Tab} {mg : Str → Option Value} {base : Heap} {x qual : Str} {st : Stmt} {f : Addr} {fd : FuncData} {N ps : List Str} {k : Nat} {F : Fw} (U : Fun T.K x qual st f fd) (S : FnScope N ps (defScope st))
    (len : ∀ ds c P R, F ds c P R → ds.length = ps.length)
    (body : ∀ (Z : Zt) (c : Nat) (ds : List D) (cdv : Value) (A : Around) (outer : List Env) (s : Shared) (H : Hp) (E : XK) (B : Bm) (R : Er → Nat → Prop) (rt : D → Nat → Prop),
      Z = zBody P w T mg base N qual (defScope st) f cdv A outer s H E B R rt → Zok Z → Room k Z.X.A → F ds c rt R → SS Z ⟨B, entry N ds, c⟩ (defBody st) ⟨fun r => rt .non r.c, fun _ => False, fun _ => False⟩) :
    FnOk P w T.K mg base (L2.CX P w) (k + 1) f fd ps (SpW T F) := by
  refine U.okX S (fun vs H Q E h => ?_) (fun cdv A outer s H vs Q E hr h => ?_)
  · obtain ⟨B, c, ds, P, R, _, r, h, _⟩ := h
    rw [pr_len r]
    exact len _ _ _ _ h
  · obtain ⟨B, c, ds, rt, R, ok, r, h, hQ, hE⟩ := h
    have fin : ∀ {ρ : Rho} {σ' : St} {H' : Hp}, SR (zBody P w T mg base N qual (defScope st) f cdv A outer s H E B R rt) ρ σ' H' → okW B ρ.c H' ∧ Same (vis B H) (vis B H') ∧ ∀ {d v}, rep T (vis ρ.B H') d v → rep T (vis B H') d v := fun {ρ σ' H'} S' => by
      have sub : Same (vis ρ.B H') (vis B H') := fun a o q => by
        refine vis_of (vis_some q) ?_
        cases e : B a with
        | none => rfl
        | some x =>
          have e2 := S'.le a (by show B a ≠ none; rw [e]; intro z; cases z)
          have e3 : ρ.B a = some x := e2.trans e
          unfold vis at q
          rw [e3] at q
          cases q
      refine ⟨⟨fun a q => ?_, fun a o q => ?_⟩, fun a o q => sub _ _ (S'.ex a o q), fun {d v} z => z.mono sub⟩
      · have e2 := S'.le a (by show B a ≠ none; rw [q]; intro z; cases z)
        exact S'.ok.box a (e2.trans q)
      · have e2 := S'.le a (by show B a ≠ none; rw [q]; intro z; cases z)
        exact S'.ok.fix a o (e2.trans q)
    have zok : Zok (zBody P w T mg base N qual (defScope st) f cdv A outer s H E B R rt) := by
      refine ⟨Takes.imp (W := fun cls d _ H => E cls d H) (takes_of rfl rfl rfl rfl) (fun cls dx σ' H' z => ?_), passes_of rfl, rfl, S.nd⟩
      obtain ⟨ρ, er, S', h1, h2⟩ := z
      refine hE er cls dx H' ρ.c (fin S').1 (fin S').2.1 ?_ h2
      obtain ⟨h3, h4⟩ := h1
      refine ⟨h3, ?_⟩
      obtain ⟨C, o⟩ := er
      cases o with
      | none => exact h4
      | some fd =>
        obtain ⟨p, v, e1, e2, e3⟩ := h4
        refine ⟨p, v, e1, ?_, (fin S').2.2 e3⟩
        have := (fin S').2.2 (d := .non) (v := .non) rfl
        have sub : Same (vis ρ.B H') (vis B H') := fun a o q => by
          refine vis_of (vis_some q) ?_
          cases e : B a with
          | none => rfl
          | some x =>
            have e2 := S'.le a (by show B a ≠ none; rw [e]; intro z; cases z)
            have e3 : ρ.B a = some x := e2.trans e
            unfold vis at q
            rw [e3] at q
            cases q
        exact sub _ _ e2
    refine ⟨_, body _ c ds cdv A outer s H E B R rt rfl zok hr h, ⟨ok, fun a _ => rfl, fun _ _ z => z, ?_, fun p hp => nomatch hp⟩, ⟨fun σ' H' ρ S' z => ?_, fun _ _ _ _ z => z.elim, fun _ _ _ _ z => z.elim, fun σ' H' ρ v d S' z hd => ?_⟩⟩
    · show slots T B (vis B H) (entry N ds) (L2.start N vs)
      unfold entry L2.start
      rw [pr_len r]
      exact slots_start _ r
    · exact hQ .non H' .non ρ.c (fin S').1 (fin S').2.1 rfl z
    · exact hQ v H' d ρ.c (fin S').1 (fin S').2.1 (.of ((fin S').2.2 z)) hd
theorem Fun.doesG {P : Program} {w : World} {T : Tab} {mg : Str → Option Value} {base : Heap} {x qual : Str} {st : Stmt} {f : Addr} {fd : FuncData} {N ps : List Str} {k : Nat} {F : Fw} (U : Fun T.K x qual st f fd) (S : FnScope N ps (defScope st))
    (len : ∀ ds c P R, F ds c P R → ds.length = ps.length)
    (body : ∀ (Z : Zt) (c : Nat) (ds : List D) (cdv : Value) (A : Around) (outer : List Env) (s : Shared) (H : Hp) (E : XK) (B : Bm) (R : Er → Nat → Prop) (rt : D → Nat → Prop),
      Z = zBody P w T mg base N qual (defScope st) f cdv A outer s H E B R rt → Zok Z → RoomG k Z.X.A → F ds c rt R → SS Z ⟨B, entry N ds, c⟩ (defBody st) ⟨fun r => rt .non r.c, fun _ => False, fun _ => False⟩) :
    FnGk P w T.K mg base (L2.CX P w) (k + 1) f fd ps (SpW T F) := by
  refine okG U S (fun vs H Q E h => ?_) (fun cdv A outer s H vs Q E hr h => ?_)
  · obtain ⟨B, c, ds, P, R, _, r, h, _⟩ := h
    rw [pr_len r]
    exact len _ _ _ _ h
  · obtain ⟨B, c, ds, rt, R, ok, r, h, hQ, hE⟩ := h
    have fin : ∀ {ρ : Rho} {σ' : St} {H' : Hp}, SR (zBody P w T mg base N qual (defScope st) f cdv A outer s H E B R rt) ρ σ' H' → okW B ρ.c H' ∧ Same (vis B H) (vis B H') ∧ ∀ {d v}, rep T (vis ρ.B H') d v → rep T (vis B H') d v := fun {ρ σ' H'} S' => by
      have sub : Same (vis ρ.B H') (vis B H') := fun a o q => by
        refine vis_of (vis_some q) ?_
        cases e : B a with
        | none => rfl
        | some x =>
          have e2 := S'.le a (by show B a ≠ none; rw [e]; intro z; cases z)
          have e3 : ρ.B a = some x := e2.trans e
          unfold vis at q
          rw [e3] at q
          cases q
      refine ⟨⟨fun a q => ?_, fun a o q => ?_⟩, fun a o q => sub _ _ (S'.ex a o q), fun {d v} z => z.mono sub⟩
      · have e2 := S'.le a (by show B a ≠ none; rw [q]; intro z; cases z)
        exact S'.ok.box a (e2.trans q)
      · have e2 := S'.le a (by show B a ≠ none; rw [q]; intro z; cases z)
        exact S'.ok.fix a o (e2.trans q)
    have zok : Zok (zBody P w T mg base N qual (defScope st) f cdv A outer s H E B R rt) := by
      refine ⟨Takes.imp (W := fun cls d _ H => E cls d H) (takes_of rfl rfl rfl rfl) (fun cls dx σ' H' z => ?_), passes_of rfl, rfl, S.nd⟩
      obtain ⟨ρ, er, S', h1, h2⟩ := z
      refine hE er cls dx H' ρ.c (fin S').1 (fin S').2.1 ?_ h2
      obtain ⟨h3, h4⟩ := h1
      refine ⟨h3, ?_⟩
      obtain ⟨C, o⟩ := er
      cases o with
      | none => exact h4
      | some fd =>
        obtain ⟨p, v, e1, e2, e3⟩ := h4
        refine ⟨p, v, e1, ?_, (fin S').2.2 e3⟩
        have := (fin S').2.2 (d := .non) (v := .non) rfl
        have sub : Same (vis ρ.B H') (vis B H') := fun a o q => by
          refine vis_of (vis_some q) ?_
          cases e : B a with
          | none => rfl
          | some x =>
            have e2 := S'.le a (by show B a ≠ none; rw [e]; intro z; cases z)
            have e3 : ρ.B a = some x := e2.trans e
            unfold vis at q
            rw [e3] at q
            cases q
        exact sub _ _ e2
    refine ⟨_, body _ c ds cdv A outer s H E B R rt rfl zok hr h, ⟨ok, fun a _ => rfl, fun _ _ z => z, ?_, fun p hp => nomatch hp⟩, ⟨fun σ' H' ρ S' z => ?_, fun _ _ _ _ z => z.elim, fun _ _ _ _ z => z.elim, fun σ' H' ρ v d S' z hd => ?_⟩⟩
    · show slots T B (vis B H) (entry N ds) (L2.start N vs)
      unfold entry L2.start
      rw [pr_len r]
      exact slots_start _ r
    · exact hQ .non H' .non ρ.c (fin S').1 (fin S').2.1 rfl z
    · exact hQ v H' d ρ.c (fin S').1 (fin S').2.1 (.of ((fin S').2.2 z)) hd
end Q
end

section
set_option Elab.async false
set_option linter.all false
set_option maxRecDepth 100000
set_option maxHeartbeats 3900000
namespace Q
open PySem L2
variable {Z : Zt} {ρ : Rho} {σ : St} {H H' : Hp} {O : Out} {P : D → Nat → Prop} {e a b : Expr} {pos p apos : Pos} {X : Cx}

/-! ### wide numbers -/
def CPowW (i j : Int) : Prop := 2 ≤ i ∧ 1 ≤ j ∧ j ≤ 8 ∧ i.natAbs < 2 ^ 100000
theorem op_powW : OpR X (binaryOp .Pow) (rI CPowW fun i j => .int (i ^ j.toNat)) := opI fun i j t u s Q' E hc q => by
  obtain ⟨h1, h2, h3, h4⟩ := hc
  refine AutoIntOps.pow_4 (by omega) (by simp; omega) (by simp; omega) (by simp; omega) ?_ q
  have hb : Builtin.Int.intBits i ≤ i.natAbs.log2 + 1 := by
    unfold Builtin.Int.intBits
    split <;> omega
  have hl : i.natAbs.log2 < 100000 := (Nat.log2_lt (by omega)).mpr h4
  have e : bitsLine = 134217728 := (by decide); unfold Builtin.Int.intTooBig
  rw [e]
  have hm : ((Builtin.Int.intBits i : Nat) : Int) * j ≤ 100001 * 8 := by
    have a1 : ((Builtin.Int.intBits i : Nat) : Int) ≤ 100001 := by omega
    calc ((Builtin.Int.intBits i : Nat) : Int) * j ≤ 100001 * j := Int.mul_le_mul_of_nonneg_right a1 (by omega)
      _ ≤ 100001 * 8 := Int.mul_le_mul_of_nonneg_left h3 (by omega)
  intro z
  have z2 := of_decide_eq_true z; omega
def CFd (i j : Int) : Prop := j ≠ 0 ∧ Builtin.divisionGoesByPylong i j = false
theorem op_fdivF : OpR X (binaryOp .FloorDiv) (rI CFd fun i j => .int (i.fdiv j)) := opI fun _ _ _ _ _ _ _ hc q => PyProof.Rows.floordiv_int hc.1 q (.inl hc.2)
theorem CFd.of {i j : Int} (h : j ≠ 0) (b : j.natAbs < 2 ^ 9000) : CFd i j := ⟨h, PyProof.noPylong_of_log2 ((Nat.log2_lt (by omega)).mpr b)⟩
theorem ev_fdivF (h : EV Z ρ a fun d1 c1 => EV Z (ρ.wc c1) b fun d2 c2 => i2 (fun i j P c => CFd i j ∧ P (.int (i.fdiv j)) c) d1 d2 P c2) : EV Z ρ (.BinOp a .FloorDiv b pos) P := ev_opI op_fdivF h
theorem ev_pow (h : EV Z ρ a fun d1 c1 => EV Z (ρ.wc c1) b fun d2 c2 => i2 (fun i j P c => CPowW i j ∧ P (.int (i ^ j.toNat)) c) d1 d2 P c2) : EV Z ρ (.BinOp a .Pow b pos) P := ev_opI op_powW h
theorem ev_pow' (h : EV Z ρ a fun d1 c1 => EV Z (ρ.wc c1) b fun d2 c2 => i2 (fun i j P c => CPow i j ∧ P (.int (i ^ j.toNat)) c) d1 d2 P c2) : EV Z ρ (.BinOp a .Pow b pos) P := ev_opI op_pow h

/-! ### lists of one's own -/
abbrev Rho.own (ρ : Rho) (B : Bm) (i : Nat) (d : D) : Rho := ⟨B, ρ.s.set i (some d), ρ.c⟩
/-- an own list is read by place -/
theorem ev_ixo (i : Nat) {x : Str} {px : Pos} {o : Addr} {l : List D} (hs : ρ.s[i]? = some (some (.own o l))) (hK : Z.X.K = Z.T.K) (h : EV Z ρ b fun d c => ∃ j d', d = .int j ∧ atI l j = some d' ∧ P d' c) (hN : Z.X.N[i]? = some x := by rfl)
    (hv : Vis Z.X.env.scope x := by first | exact Or.inl rfl | exact Or.inr (Or.inl rfl) | exact Or.inr (Or.inr rfl)) (hd : (x == ("__debug__" : Str)) = false := by decide)
    (hcd : (x == ("__classdict__" : Str)) = false := by decide) (hpx : PlainIx b := by exact fun _ _ => rfl) : EV Z ρ (.Subscript (.Name x px) b pos) P :=
  ev_of (pe_ix ix_list (pe_var hN hv hd hcd) pe_any hpx) fun σ H Q S k => by
    obtain ⟨v, h1, h2⟩ := S.sl.get hs
    refine ⟨v, h1, ev_any h S fun w H1 d c S1 e1 r ⟨j, d', hd, hj, hp⟩ => ?_⟩
    subst hd
    cases r
    obtain ⟨v2, h3, h4⟩ := S1.sl.get hs
    have ev : v2 = v := by
      rw [h1] at h3
      exact (Option.some.inj (Option.some.inj h3)).symm
    subst ev
    obtain ⟨rfl, vs, hb, hr⟩ := h4
    obtain ⟨v', g1, g2⟩ := atI_reps hr hj
    exact ⟨o, vs, j, v', rfl, rfl, .inl (.inl (S1.ok.fix _ _ hb)), g1, (k.from (c := c) e1).here S1 hp (.of g2)⟩
theorem ev_leno (i : Nat) {x : Str} {px : Pos} {o : Addr} {l : List D} (hs : ρ.s[i]? = some (some (.own o l))) (hK : Z.X.K = Z.T.K) (hg : Gl Z.X "len") (hm : Z.X.mg "len" = none) (h : P (.int (l.length : Nat)) ρ.c) (hN : Z.X.N[i]? = some x := by rfl)
    (hv : Vis Z.X.env.scope x := by first | exact Or.inl rfl | exact Or.inr (Or.inl rfl) | exact Or.inr (Or.inr rfl)) (hd : (x == ("__debug__" : Str)) = false := by decide)
    (hcd : (x == ("__classdict__" : Str)) = false := by decide) (he : starEach [.Name x px] Z.X.env = (false, eval (.Name x px) Z.X.env) :: starEach [] Z.X.env := by rfl) : EV Z ρ (.Call (.Name "len" p) [.Name x px] [] pos) P :=
  ev_of (pe_callB call_len_seq hg hm (by decide +kernel) (pa_cons (pe_var hN hv hd hcd) pa_nil he) (he := he)) fun σ H Q S k => by
    obtain ⟨v, h1, h2⟩ := S.sl.get hs
    obtain ⟨rfl, vs, hb, hr⟩ := h2
    refine ⟨_, h1, o, vs, rfl, .inl (.inl (.inl (S.ok.fix _ _ hb))), ?_⟩
    rw [hr.len]
    exact k.here (d := .int _) S h rfl
/-- the hidden list at o is changed -/
theorem SR.put {o : Addr} {xs ys : List V} (S : SR Z ρ σ H) (hb : ρ.B o = some (some (.lst xs))) (n0 : Z.B0 o = none) (i : Nat) {l m : List D} (hs : ρ.s[i]? = some (some (.own o l))) (hm : reps Z.T (vis ρ.B H) m ys)
    (one : ∀ j l', ρ.s[j]? = some (some (.own o l')) → j = i) : ∃ B', SR Z (ρ.own B' i (.own o m)) σ (upd H o (.lst ys)) ∧ vis B' (upd H o (.lst ys)) = vis ρ.B H := by
  let B' : Bm := fun a => if a = o then some (some (.lst ys)) else ρ.B a
  have same : vis B' (upd H o (.lst ys)) = vis ρ.B H := by
    funext a
    show (match (if a = o then some (some (.lst ys)) else ρ.B a) with | none => upd H o (.lst ys) a | some _ => none) = _
    by_cases e : a = o
    · subst e
      rw [if_pos rfl]
      unfold vis
      rw [hb]
    · rw [if_neg e, upd_ne e]
      rfl
  refine ⟨B', ⟨⟨fun a q => ?_, fun a u q => ?_⟩, fun a q => ?_, ?_, ?_, ?_⟩, same⟩
  · have q' : (if a = o then some (some (HO.lst ys)) else ρ.B a) = some none := q
    by_cases e : a = o
    · rw [if_pos e] at q'
      cases q'
    · rw [if_neg e] at q'
      rw [upd_ne e]
      exact S.ok.box a q'
  · have q' : (if a = o then some (some (HO.lst ys)) else ρ.B a) = some (some u) := q
    by_cases e : a = o
    · rw [if_pos e] at q'
      cases q'
      subst e
      exact upd_same
    · rw [if_neg e] at q'
      rw [upd_ne e]
      exact S.ok.fix a u q'
  · show (if a = o then some (some (HO.lst ys)) else ρ.B a) = _
    rw [if_neg (fun z => by subst z; exact q n0)]
    exact S.le a q
  · show Same _ (vis B' (upd H o (.lst ys)))
    rw [same]
    exact S.ex
  · show slots Z.T B' (vis B' (upd H o (.lst ys))) (ρ.s.set i (some (.own o m))) σ
    rw [same]
    have key : ∀ (s : List (Option D)) (σ : St) (k : Nat), slots Z.T ρ.B (vis ρ.B H) s σ → (∀ j l', s[j]? = some (some (.own o l')) → j + k = i) → (∀ j, j + k = i → ∃ l', s[j]? = some (some (.own o l'))) →
        slots Z.T B' (vis ρ.B H) (if i < k then s else s.set (i - k) (some (.own o m))) σ := by
      intro s
      induction s with
      | nil =>
        intro σ k h _ _
        have e : σ = [] := h
        subst e
        split
        · exact rfl
        · simp [slots]
      | cons d s ih =>
        intro σ k h h1 h2
        have next := fun (σ' : St) (h' : slots Z.T ρ.B (vis ρ.B H) s σ') => ih σ' (k + 1) h' (fun j l' q => by have := h1 (j + 1) l' (by simpa using q); omega) (fun j q => by
          obtain ⟨l', e⟩ := h2 (j + 1) (by omega)
          exact ⟨l', by simpa using e⟩)
        by_cases hik : i = k
        · subst hik
          rw [if_neg (Nat.lt_irrefl _), Nat.sub_self]
          obtain ⟨l', e⟩ := h2 0 (by omega)
          have ed : d = some (.own o l') := by simpa using e
          subst ed
          obtain ⟨v, r, rfl, hv, hr⟩ := h
          refine ⟨v, r, rfl, ?_, ?_⟩
          · obtain ⟨hv1, _⟩ := hv
            exact ⟨hv1, ys, if_pos rfl, hm⟩
          · have := next r hr
            rw [if_pos (by omega)] at this
            exact this
        · have tail : ∀ {x : Option V} {r : St}, slots Z.T ρ.B (vis ρ.B H) s r → slots Z.T B' (vis ρ.B H) (if i < k + 1 then s else s.set (i - (k + 1)) (some (.own o m))) r := fun {x r} hr => next r hr
          have hd : ∀ y, d = some y → ∀ v, slotOk Z.T ρ.B (vis ρ.B H) y v → slotOk Z.T B' (vis ρ.B H) y v := fun y hy v hv => by
            cases y <;> first | exact hv | skip
            · obtain ⟨a, h3, h4⟩ := hv
              refine ⟨a, h3, ?_⟩
              show (if a = o then some (some (HO.lst ys)) else ρ.B a) = _
              rw [if_neg (fun z => by subst z; rw [hb] at h4; cases h4)]
              exact h4
            · obtain ⟨h3, ws, h4, h5⟩ := hv
              refine ⟨h3, ws, ?_, h5⟩
              show (if _ = o then some (some (HO.lst ys)) else ρ.B _) = _
              rw [if_neg (fun z => by
                subst z
                have := h1 0 _ (by rw [hy]; rfl)
                omega)]
              exact h4
          have shape : (if i < k then d :: s else (d :: s).set (i - k) (some (.own o m))) = d :: (if i < k + 1 then s else s.set (i - (k + 1)) (some (.own o m))) := by
            by_cases hlt : i < k
            · rw [if_pos hlt, if_pos (by omega)]
            · rw [if_neg hlt, if_neg (by omega), show i - k = (i - (k + 1)) + 1 by omega]
              rfl
          rw [shape]
          cases d with
          | none =>
            obtain ⟨x, r, rfl, hr⟩ := h
            exact ⟨x, r, rfl, next r hr⟩
          | some y =>
            obtain ⟨v, r, rfl, hv, hr⟩ := h
            exact ⟨v, r, rfl, hd y rfl v hv, next r hr⟩
    have := key ρ.s σ 0 S.sl (fun j l' q => by have := one j l' q; omega) (fun j q => ⟨l, by rw [show j = i by omega]; exact hs⟩)
    rw [if_neg (Nat.not_lt_zero _), Nat.sub_zero] at this
    exact this
  · intro q hq
    show rep Z.T (vis B' (upd H o (.lst ys))) q.1 q.2
    rw [same]
    exact S.gh q hq
end Q
end

section
set_option Elab.async false
set_option linter.all false
set_option maxRecDepth 100000
set_option maxHeartbeats 3900000
namespace Q
open PySem L2
variable {Z : Zt} {ρ : Rho} {σ : St} {H H' : Hp} {O : Out} {P : D → Nat → Prop} {e a b : Expr} {pos p apos : Pos} {X : Cx}

def hideAt (B : Bm) (q : Addr) (k : Option HO) : Bm := fun a => if a = q then some k else B a
theorem vis_hide {B : Bm} {q : Addr} {k : Option HO} {H : Hp} {o : HO} (b : H q = none) : vis (hideAt B q k) (upd H q o) = vis B H := by
  funext a
  unfold vis hideAt
  by_cases e : a = q
  · subst e
    rw [if_pos rfl]
    cases B a with
    | none => exact b.symm
    | some x => rfl
  · rw [if_neg e, upd_ne e]
theorem slots_B {T : Tab} {B B' : Bm} {G : Hp} (h : ∀ a x, B a = some x → B' a = some x) : ∀ {s : List (Option D)} {σ : St}, slots T B G s σ → slots T B' G s σ
  | [], _, q => q
  | none :: s, _, ⟨x, r, e, k⟩ => ⟨x, r, e, slots_B h k⟩
  | some d :: s, _, ⟨v, r, e, k, q⟩ => ⟨v, r, e, by
      cases d <;> first | exact k | skip
      · obtain ⟨a, h1, h2⟩ := k
        exact ⟨a, h1, h _ _ h2⟩
      · obtain ⟨h1, vs, h2, h3⟩ := k
        exact ⟨h1, vs, h _ _ h2, h3⟩, slots_B h q⟩
/-- a new object is hidden -/
theorem SR.hide {q : Addr} {k : Option HO} {o : HO} (S : SR Z ρ σ H) (hq : H q = none) (hk : ∀ u, k = some u → u = o) (hb : k = none → BoxO ρ.c o) : SR Z ⟨hideAt ρ.B q k, ρ.s, ρ.c⟩ σ (upd H q o) ∧ Z.B0 q = none := by
  have b0 := S.ok.fresh hq
  have same := vis_hide (B := ρ.B) (k := k) (o := o) hq
  have n0 : Z.B0 q = none := by
    cases e : Z.B0 q with
    | none => rfl
    | some x =>
      have := S.le q (by rw [e]; intro z; cases z)
      rw [b0, e] at this
      cases this
  refine ⟨⟨⟨fun a h => ?_, fun a u h => ?_⟩, fun a h => ?_, ?_, ?_, ?_⟩, n0⟩
  · have h' : (if a = q then some k else ρ.B a) = some none := h
    by_cases e : a = q
    · rw [if_pos e] at h'
      subst e
      exact ⟨o, upd_same, hb (Option.some.inj h')⟩
    · rw [if_neg e] at h'
      rw [upd_ne e]
      exact S.ok.box a h'
  · have h' : (if a = q then some k else ρ.B a) = some (some u) := h
    by_cases e : a = q
    · rw [if_pos e] at h'
      subst e
      rw [upd_same, hk u (Option.some.inj h')]
    · rw [if_neg e] at h'
      rw [upd_ne e]
      exact S.ok.fix a u h'
  · show (if a = q then some k else ρ.B a) = _
    rw [if_neg (fun z => by subst z; exact h n0)]
    exact S.le a h
  · show Same _ (vis (hideAt ρ.B q k) (upd H q o))
    rw [same]
    exact S.ex
  · show slots Z.T (hideAt ρ.B q k) (vis (hideAt ρ.B q k) (upd H q o)) ρ.s σ
    rw [same]
    refine slots_B (fun a x h => ?_) S.sl
    show (if a = q then some k else ρ.B a) = _
    rw [if_neg (fun z => by subst z; rw [b0] at h; cases h)]
    exact h
  · intro r hr
    show rep Z.T (vis (hideAt ρ.B q k) (upd H q o)) r.1 r.2
    rw [same]
    exact S.gh r hr
/-- x = [..], the list one's own -/
theorem st_own {i : Nat} {x : Str} {pos' : Pos} {es : List Expr} (ok : Zok Z) (h : EA Z ρ es fun ds c => ds.all plain = true ∧ ds.length ≤ 100000 ∧ ∀ B' o, Z.B0 o = none → (∀ a u, ρ.B a = some u → a ≠ o) → O.nx ⟨B', ρ.s.set i (some (.own o ds)), c⟩)
    (hi : Z.X.N[i]? = some x := by rfl) (hx : Loc Z.X.env.scope x := by first | exact Or.inl rfl | exact Or.inr rfl)
    (hs : swapsWith (.List es pos) (some (.Name x pos')) p.line Z.X.env = pure false := by rfl) (hf : Z.X.fn x = true ∨ Z.X.env.scope.names.lookup x = some .local := by first | exact .inl rfl | exact .inr rfl) :
    ST Z ρ (.Assign [.Name x pos'] (.List es pos) p) O :=
  st_of (ps_set ok.nd hi hx (pe_lst pa_any) hs hf) fun D σ H S k => ea_any h S fun vs H1 ds c S1 e1 r ⟨h1, h2, h3⟩ => ⟨sizeS (by rw [pr_len r]; exact h2), fun q hq => by
    have hr := reps_of r h1
    obtain ⟨S2, n0⟩ := S1.hide (k := some (.lst vs)) (o := .lst vs) hq (fun u e => (Option.some.inj e).symm) (fun e => nomatch e)
    refine k.nx _ _ _ (S2.set i (d := .own q ds) ⟨rfl, vs, if_pos rfl, ?_⟩) (h3 _ q n0 (fun a u ha z => ?_))
    · show reps Z.T (vis (hideAt ρ.B q (some (.lst vs))) (upd H1 q (.lst vs))) ds vs
      rw [vis_hide hq]
      exact hr
    · subst z
      have := S1.ok.fresh hq
      rw [show (ρ.wc c).B = ρ.B from rfl, ha] at this
      cases this⟩
/-- x.append(e) -/
theorem st_append (i : Nat) {x : Str} {px : Pos} {o : Addr} {l : List D} (ok : Zok Z) (hs : ρ.s[i]? = some (some (.own o l))) (n0 : Z.B0 o = none) (one : ∀ j l', ρ.s[j]? = some (some (.own o l')) → j = i)
    (h : EA Z ρ [e] fun ds c => ∃ d, ds = [d] ∧ plain d = true ∧ l.length < 100000 ∧ ∀ B', O.nx ⟨B', ρ.s.set i (some (.own o (l ++ [d]))), c⟩) (hN : Z.X.N[i]? = some x := by rfl)
    (hv : Vis Z.X.env.scope x := by first | exact Or.inl rfl | exact Or.inr (Or.inl rfl) | exact Or.inr (Or.inr rfl)) (hd : (x == ("__debug__" : Str)) = false := by decide)
    (hcd : (x == ("__classdict__" : Str)) = false := by decide) {st : Stmt} (pm : ∀ {ta : TE} {tb : TA}, PE Z.X (.Name x px) ta → PA Z.X [e] tb → PS Z.X st (tDrop (tBM Z.X.K "list" rAppend ta tb))) : ST Z ρ st O :=
  st_of (pm (pe_var (i := i) hN hv hd hcd) (pa_any (es := [e]))) fun D σ H S k => by
    obtain ⟨v, h1, h2⟩ := S.sl.get hs
    obtain ⟨rfl, vs, hb, hr⟩ := h2
    refine ⟨_, h1, .inl ⟨rfl, vs, .inl (.inl (S.ok.fix _ _ hb))⟩, ?_⟩
    refine ea_any h S fun ws H1 ds c S1 e1 r ⟨d, hd, h3, h4, h5⟩ => ?_
    subst hd
    obtain ⟨w, rfl, rw_⟩ := pr1 r
    obtain ⟨v2, g1, g2⟩ := S1.sl.get hs
    obtain ⟨rfl, vs2, hb2, hr2⟩ := g2
    have e2 : vs2 = vs := by
      have := hb2.symm.trans hb
      cases this
      rfl
    subst e2
    refine ⟨o, vs2, w, rfl, rfl, S1.ok.fix _ _ hb2, ?_, ?_⟩
    · rw [hr2.len]
      exact Nat.lt_of_lt_of_le h4 (by decide)
    · obtain ⟨B', S3, _⟩ := S1.put hb2 n0 i hs (hr2.append (reps.one (val_rep rw_ h3))) one
      have hσ : σ.set i (some (.ref o)) = σ := by
        apply List.ext_getElem?
        intro j
        by_cases hj : j = i
        · subst hj
          rw [List.getElem?_set_self (List.getElem?_eq_some_iff.mp h1).1, h1]
        · rw [List.getElem?_set_ne (fun z => hj z.symm)]
      exact k.nx _ _ _ S3 (h5 B')
/-- x[i] = e -/
theorem st_seto (i : Nat) {x : Str} {px pt : Pos} {o : Addr} {l : List D} (ok : Zok Z) (hs : ρ.s[i]? = some (some (.own o l))) (n0 : Z.B0 o = none) (one : ∀ j l', ρ.s[j]? = some (some (.own o l')) → j = i)
    (h : EV Z ρ e fun d c => plain d = true ∧ EV Z (ρ.wc c) b fun di c' => ∃ z k, di = .int z ∧ ixN l.length z = some k ∧ ∀ B', O.nx ⟨B', ρ.s.set i (some (.own o (l.set k d))), c'⟩) (hN : Z.X.N[i]? = some x := by rfl)
    (hv : Vis Z.X.env.scope x := by first | exact Or.inl rfl | exact Or.inr (Or.inl rfl) | exact Or.inr (Or.inr rfl)) (hd : (x == ("__debug__" : Str)) = false := by decide)
    (hcd : (x == ("__classdict__" : Str)) = false := by decide) {st : Stmt} (pm : ∀ {te ta tb : TE}, PE Z.X e te → PE Z.X (.Name x px) ta → PE Z.X b tb → PS Z.X st (tAsg te (gSub ta tb rSetL))) : ST Z ρ st O :=
  st_of (pm pe_any (pe_var (i := i) hN hv hd hcd) pe_any) fun D σ H S k => ev_any h S fun w H1 d c S1 e1 r ⟨hpl, h2⟩ => by
    obtain ⟨v, g1, g2⟩ := S1.sl.get hs
    refine ⟨v, g1, ev_any h2 S1 fun w' H2 di c' S2 e2 r' ⟨z, j, hz, hj, hp⟩ => ?_⟩
    subst hz
    cases r'
    obtain ⟨v2, k1, k2⟩ := S2.sl.get hs
    have ev : v2 = v := by
      rw [g1] at k1
      exact (Option.some.inj (Option.some.inj k1)).symm
    subst ev
    obtain ⟨rfl, vs, hb, hr⟩ := k2
    obtain ⟨B', S3, _⟩ := S2.put hb n0 i hs (hr.set j (val_rep (r.mono e2) hpl)) one
    refine ⟨o, vs, z, j, rfl, rfl, S2.ok.fix _ _ hb, ?_, k.nx _ _ _ S3 (hp B')⟩
    rw [hr.len]
    exact hj
/-- an own list is given up -/
theorem SR.free {o : Addr} {xs : List V} (S : SR Z ρ σ H) (n0 : Z.B0 o = none) (i : Nat) {l : List D} (hs : ρ.s[i]? = some (some (.own o l)))
    (one : ∀ j l', ρ.s[j]? = some (some (.own o l')) → j = i) : ∃ B', SR Z (ρ.own B' i (.lst l)) σ H := by
  let B' : Bm := fun a => if a = o then none else ρ.B a
  obtain ⟨v0, g1, rfl, vs, hb, hr⟩ := S.sl.get hs
  have grow : Same (vis ρ.B H) (vis B' H) := fun a u q => by
    have q1 := vis_some q
    have q2 : ρ.B a = none := by
      cases e : ρ.B a with
      | none => rfl
      | some x =>
        unfold vis at q
        rw [e] at q
        cases q
    refine vis_of q1 ?_
    show (if a = o then none else ρ.B a) = none
    split
    · rfl
    · exact q2
  have hv : vis B' H o = some (.lst vs) := vis_of (S.ok.fix _ _ hb) (if_pos rfl)
  refine ⟨B', ⟨⟨fun a q => ?_, fun a u q => ?_⟩, fun a q => ?_, fun a u q => grow _ _ (S.ex a u q), ?_, fun p hp => (S.gh p hp).mono grow⟩⟩
  · have q' : (if a = o then none else ρ.B a) = some none := q
    by_cases e : a = o
    · rw [if_pos e] at q'
      cases q'
    · rw [if_neg e] at q'
      exact S.ok.box a q'
  · have q' : (if a = o then none else ρ.B a) = some (some u) := q
    by_cases e : a = o
    · rw [if_pos e] at q'
      cases q'
    · rw [if_neg e] at q'
      exact S.ok.fix a u q'
  · show (if a = o then none else ρ.B a) = _
    rw [if_neg (fun z => by subst z; exact q n0)]
    exact S.le a q
  · show slots Z.T B' (vis B' H) (ρ.s.set i (some (.lst l))) σ
    have key : ∀ (s : List (Option D)) (σ : St) (k : Nat), slots Z.T ρ.B (vis ρ.B H) s σ → (∀ j l', s[j]? = some (some (.own o l')) → j + k = i) → (∀ j, j + k = i → s[j]? = some (some (.own o l))) →
        slots Z.T B' (vis B' H) (if i < k then s else s.set (i - k) (some (.lst l))) σ := by
      intro s
      induction s with
      | nil =>
        intro σ k h _ _
        have e : σ = [] := h
        subst e
        split
        · exact rfl
        · simp [slots]
      | cons d s ih =>
        intro σ k h h1 h2
        have next := fun (σ' : St) (h' : slots Z.T ρ.B (vis ρ.B H) s σ') => ih σ' (k + 1) h' (fun j l' q => by have := h1 (j + 1) l' (by simpa using q); omega) (fun j q => by
          have e := h2 (j + 1) (by omega)
          simpa using e)
        by_cases hik : i = k
        · subst hik
          rw [if_neg (Nat.lt_irrefl _), Nat.sub_self]
          have e := h2 0 (by omega)
          have ed : d = some (.own o l) := by simpa using e
          subst ed
          obtain ⟨v, r, rfl, hv', hr'⟩ := h
          obtain ⟨rfl, ws, hw, hrw⟩ := hv'
          have ews : ws = vs := by
            have := hw.symm.trans hb
            cases this
            rfl
          subst ews
          refine ⟨_, r, rfl, ⟨o, ws, rfl, hv, hrw.mono grow⟩, ?_⟩
          have := next r hr'
          rw [if_pos (by omega)] at this
          exact this
        · have hd : ∀ y, d = some y → ∀ v, slotOk Z.T ρ.B (vis ρ.B H) y v → slotOk Z.T B' (vis B' H) y v := fun y hy v hv => by
            cases y <;> first | exact rep.mono grow hv | skip
            · obtain ⟨a, h3, h4⟩ := hv
              refine ⟨a, h3, ?_⟩
              show (if a = o then none else ρ.B a) = _
              rw [if_neg (fun z => by subst z; rw [hb] at h4; cases h4)]
              exact h4
            · obtain ⟨h3, ws, h4, h5⟩ := hv
              refine ⟨h3, ws, ?_, h5.mono grow⟩
              show (if _ = o then none else ρ.B _) = _
              rw [if_neg (fun z => by
                subst z
                have := h1 0 _ (by rw [hy]; rfl)
                omega)]
              exact h4
          have shape : (if i < k then d :: s else (d :: s).set (i - k) (some (.lst l))) = d :: (if i < k + 1 then s else s.set (i - (k + 1)) (some (.lst l))) := by
            by_cases hlt : i < k
            · rw [if_pos hlt, if_pos (by omega)]
            · rw [if_neg hlt, if_neg (by omega), show i - k = (i - (k + 1)) + 1 by omega]
              rfl
          rw [shape]
          cases d with
          | none =>
            obtain ⟨x, r, rfl, hr⟩ := h
            exact ⟨x, r, rfl, next r hr⟩
          | some y =>
            obtain ⟨v, r, rfl, hv, hr⟩ := h
            exact ⟨v, r, rfl, hd y rfl v hv, next r hr⟩
    have := key ρ.s σ 0 S.sl (fun j l' q => by have := one j l' q; omega) (fun j q => by rw [show j = i by omega]; exact hs)
    rw [if_neg (Nat.not_lt_zero _), Nat.sub_zero] at this
    exact this
theorem ss_free (i : Nat) {o : Addr} {l : List D} {sts : List Stmt} (n0 : Z.B0 o = none) (hs : ρ.s[i]? = some (some (.own o l))) (one : ∀ j l', ρ.s[j]? = some (some (.own o l')) → j = i)
    (h : ∀ B', SS Z (ρ.own B' i (.lst l)) sts O) : SS Z ρ sts O := ⟨fun pins s σ H D I q => by
  obtain ⟨S, k⟩ := q
  obtain ⟨B', S'⟩ := S.free (xs := []) n0 i hs one
  exact (h B').run pins s σ H D I ⟨S', k⟩⟩
end Q
end

section
set_option Elab.async false
set_option linter.all false
set_option maxRecDepth 100000
set_option maxHeartbeats 3900000
namespace Q
open PySem L2
variable {Z : Zt} {ρ : Rho} {σ : St} {H H' : Hp} {O : Out} {P : D → Nat → Prop} {e a b : Expr} {pos p apos : Pos} {X : Cx} {k : Nat} {f C : Addr} {F : Fw} {x m : Str} {es : List Expr}

/-! ### objects made -/
/-- what a maker does: the arguments' data, the made datum -/
def SpMk (T : Tab) (C : Addr) (F : Fw) (mk : Addr → Hp → D → Prop) : Sp := fun vs H Q E => ∃ (B : Bm) (c : Nat) (ds : List D) (P : D → Nat → Prop) (R : Er → Nat → Prop) (x dx : Addr) (ws : List V), vs = .ref x :: ws ∧ H x = some (.ins C dx []) ∧ B x = none ∧ okW B c H ∧
  Paired (val T B (vis B H)) ds ws ∧ F ds c P R ∧
  (∀ H' d c', okW B c' H' → (∀ a o, vis B H a = some o → a ≠ x → vis B H' a = some o) → mk x (vis B H') d → P d c' → Q .non H') ∧
  (∀ e cls dx H' c', okW B c' H' → (∀ a o, vis B H a = some o → a ≠ x → vis B H' a = some o) → erRel T (vis B H') e cls dx → R e c' → E cls dx H')
theorem runMk {pins : List (Addr × Obj)} {s : Shared} {sp : Sp} {W : WX} {Q : VK} {us : List Value} {vs : List V} (M : Mk X.K C f) (G : FnG X.prog X.w X.K X.mg X.base (L2.CX X.prog X.w) k f sp) (hr : RoomG (k + 1) X.A) (tk : Takes X W)
    (I : Inv X pins σ H s) (r : Vals vs us)
    (h : ∀ x dx, H x = none → H dx = none → dx ≠ x → sp (.ref x :: vs) (upd (upd H dx (.own x)) x (.ins C dx [])) (fun v H2 => v = .non ∧ Q (.ref x) H2) (fun c d H' => W c d σ H')) : wpAny (model X.prog X.w) X.A (call (.ref C) us) (EP X pins σ Q) X.xe s := by
  have I2 := Inv.made (C := C) I; have hq := h (s.heap.objs.size + 1) s.heap.objs.size (I.hok.fresh (Nat.le_succ _)) (I.hok.fresh (Nat.le_refl _)) (Nat.ne_of_lt (Nat.lt_succ_self _))
  have g := G _ X.stack _ _ (Value.ref (s.heap.objs.size + 1) :: us) (V.ref (s.heap.objs.size + 1) :: vs) _ _ (hr.make C us []) (I2.env0.make C us []) (.cons rfl r) hq
  refine wpAny_call (make_map (f := f) I.kIn M.makes M.init (beq_iff_eq.mp M.fn) (codeAny_mono g ?_))
  intro r s' hq'
  match r, hq' with
  | .error er, hq' => exact tk er s' (XE.of_call I2 (fun _ _ _ z => z) hq')
  | .ok (.ret u), hq' =>
    obtain ⟨v, H3, I3, rv, ev, q3⟩ := I2.after hq'
    subst ev
    exact ⟨rv, V.ref (s.heap.objs.size + 1), H3, I3, rfl, q3⟩
def tMakeW (X : Cx) (C : Addr) (es : List Expr) (sp : Sp) (W : WX) : TE := fun σ H Q => taAny X es σ H fun vs H1 => ∀ x dx, H1 x = none → H1 dx = none → dx ≠ x →
  sp (.ref x :: vs) (upd (upd H1 dx (.own x)) x (.ins C dx [])) (fun v H2 => v = .non ∧ Q (.ref x) H2) (fun c d H' => W c d σ H')
theorem pe_makeW {sp : Sp} {W : WX} (M : Mk X.K C f) (G : FnG X.prog X.w X.K X.mg X.base (L2.CX X.prog X.w) k f sp) (hr : RoomG (k + 1) X.A) (tk : Takes X W) (hg : Gl X x) (hm : X.mg x = some (.ref C))
    (hdb : (x == ("__debug__" : Str)) = false := by decide)
    (he : starEach (e :: es) X.env = (false, eval e X.env) :: starEach es X.env := by rfl)
    (hpl : (backTo pos (starEach es X.env)).any (·.1) = false := by rfl) :
    PE X (.Call (.Name x p) (e :: es) [] pos) (tMakeW X C (e :: es) sp W) := ⟨fun pins s σ H Q I h => by
  obtain ⟨t, ha, h⟩ := h
  have g := ha.run pos pins s σ H _ I h
  exact wpAny_Call_Name_kw (ld_glob I hg hm (PySem.W.callWith_K (h₀ := X.base) I.ok.mod.kin M.kp (thn g fun us s1 ⟨vs, H1, I1, r, q⟩ => ⟨I1.kIn, runMk M G hr tk I1 r q⟩) he hpl) hdb)⟩
/-- the promise of a maker at a state -/
theorem mk_at {vs : List V} {ds : List D} {Q : VK} {mk : Addr → Hp → D → Prop} {y dy : Addr} (S : SR Z ρ σ H) (r : Paired (val Z.T ρ.B (vis ρ.B H)) ds vs) (h : F ds ρ.c P (fun er c' => Z.R er (ρ.wc c'))) (k : Post Z ρ σ H P Q)
    (hy : H y = none) (hdy : H dy = none) (hn : dy ≠ y) (hmk : ∀ G d, mk y G d → rep Z.T G d (.ref y)) :
    SpMk Z.T C F mk (.ref y :: vs) (upd (upd H dy (.own y)) y (.ins C dy [])) (fun v H2 => v = .non ∧ Q (.ref y) H2) (fun c d H' => Z.W c d σ H') := by
  have e1 : Same H (upd (upd H dy (.own y)) y (.ins C dy [])) := fun a o q => by
    rw [upd_ne (ne_of_none q hy), upd_ne (ne_of_none q hdy)]
    exact q
  have by_ := S.ok.fresh hy
  have keep : ∀ {H' : Hp}, (∀ a o, vis ρ.B (upd (upd H dy (.own y)) y (.ins C dy [])) a = some o → a ≠ y → vis ρ.B H' a = some o) → Same (vis ρ.B H) (vis ρ.B H') := fun {H'} z a o q => z a o (Same.vis_ e1 _ _ q) (ne_of_none (vis_some q) hy)
  refine ⟨ρ.B, ρ.c, ds, P, _, y, dy, vs, rfl, upd_same, by_, S.ok.same e1, pr_mono (Same.vis_ e1) r, h, fun H' d c' ok z hm hp => ⟨rfl, ?_⟩, fun er cls dx H' c' ok z hr hp => ⟨ρ.wc c', er, S.call ok (keep z), hr, hp⟩⟩
  exact k (.ref y) H' d c' (S.call ok (keep z)) (keep z) (.of (hmk _ _ hm)) hp
theorem ev_make {mk : Addr → Hp → D → Prop} (ok : Zok Z) (M : Mk Z.X.K C f) (G : FnG Z.X.prog Z.X.w Z.X.K Z.X.mg Z.X.base (L2.CX Z.X.prog Z.X.w) k f (SpMk Z.T C F mk)) (hr : RoomG (k + 1) Z.X.A) (hg : Gl Z.X x) (hm : Z.X.mg x = some (.ref C))
    (hmk : ∀ y G d, mk y G d → rep Z.T G d (.ref y)) (h : EA Z ρ (e :: es) fun ds c => F ds c P (fun er c' => Z.R er (ρ.wc c')))
    (hdb : (x == ("__debug__" : Str)) = false := by decide)
    (he : starEach (e :: es) Z.X.env = (false, eval e Z.X.env) :: starEach es Z.X.env := by rfl) (hpl : (backTo pos (starEach es Z.X.env)).any (·.1) = false := by rfl) :
    EV Z ρ (.Call (.Name x p) (e :: es) [] pos) P :=
  ev_of (pe_makeW M G hr ok.tk hg hm hdb he hpl) fun σ H Q S k => ea_any h S fun vs H1 ds c S1 e1 r h1 y dy hy hdy hn => mk_at (ρ := ρ.wc c) S1 r h1 (k.from (c := c) e1) hy hdy hn (hmk y)

/-! ### methods, properties, operators -/
/-- o is an instance of the class at C, its fields known not to hide a method -/
def isIns (T : Tab) (C : Addr) (d : D) (m : Str) : Prop := ∀ G v, rep T G d v → ∃ a dx fs, v = .ref a ∧ G a = some (.ins C dx fs) ∧ fs.lookup m = none
def tMethW (X : Cx) (C : Addr) (m : Str) (o : Expr) (es : List Expr) (sp : Sp) (W : WX) : TE := fun σ H Q => tAny X o σ H fun x H1 => ∃ a dx fs, x = .ref a ∧ H1 a = some (.ins C dx fs) ∧ fs.lookup m = none ∧
  taAny X es σ H1 fun vs H2 => sp (x :: vs) H2 Q (fun c d H' => W c d σ H')
theorem pe_methW {pl : Sem Bool} {sp : Sp} {W : WX} {o : Expr} (c : Cls X.K C) (hm : Meth X.K C m f) (G : FnG X.prog X.w X.K X.mg X.base (L2.CX X.prog X.w) k f sp) (hr : RoomG k X.A) (tk : Takes X W)
    (hst : starEach (e :: es) X.env = (false, eval e X.env) :: starEach es X.env := by rfl)
    (hpl : (backTo pos (starEach es X.env)).any (·.1) = false := by rfl)
    (ht : eval (.Call (.Attribute o m apos)
      (e :: es) [] pos) X.env = (do
      let ov ← eval o X.env
      standAt apos.atName
      let (f, first) ← holding [ov]
        (getMethod ov m pl)
      callWith pos f first (backTo pos (starEach (e :: es) X.env)) (backToKw pos (keywordEach [] X.env))) := by rfl) : PE X (.Call (.Attribute o m apos) (e :: es) [] pos) (tMethW X C m o (e :: es) sp W) := ⟨fun pins s σ H Q I h => by
  refine PySem.W.methodCall_KW (pl := pl) (thn (pe_any.run pins s σ H _ I h) fun u s1 ⟨x, H1, I1, rx, a, dx, fs, ex, ea, l, q⟩ => ?_) ht
  subst ex
  cases rx
  refine getmeth_ok I1 ea c hm l ?_; exact PySem.W.callWith_K (first := [.ref a]) (h₀ := X.base) I.ok.mod.kin hm.kp (thn (pa_any.run pos pins s1 σ H1 _ I1 q) fun us s2 ⟨vs, H2, I2, r, q2⟩ => ⟨I2.kIn, runS (us := .ref a :: us) (vs := .ref a :: vs) G hr tk I2 (.cons rfl r) q2⟩) hst hpl⟩
theorem ev_meth {pl : Sem Bool} {o : Expr} (ok : Zok Z) (c : Cls Z.X.K C) (hm : Meth Z.X.K C m f) (G : Does Z k f F) (hr : RoomG k Z.X.A)
    (h : EV Z ρ o fun d c1 => plain d = true ∧ isIns Z.T C d m ∧ EA Z (ρ.wc c1) (e :: es) fun ds c2 => F (d :: ds) c2 P (fun er c' => Z.R er (ρ.wc c')))
    (hst : starEach (e :: es) Z.X.env = (false, eval e Z.X.env) :: starEach es Z.X.env := by rfl) (hpl : (backTo pos (starEach es Z.X.env)).any (·.1) = false := by rfl)
    (ht : eval (.Call (.Attribute o m apos) (e :: es) [] pos) Z.X.env = (do
      let ov ← eval o Z.X.env
      standAt apos.atName
      let (f, first) ← holding [ov]
        (getMethod ov m pl)
      callWith pos f first (backTo pos (starEach (e :: es) Z.X.env)) (backToKw pos (keywordEach [] Z.X.env))) := by rfl) : EV Z ρ (.Call (.Attribute o m apos) (e :: es) [] pos) P :=
  ev_of (pe_methW c hm G hr ok.tk hst hpl ht) fun σ H Q S k => ev_any h S fun v H1 d c1 S1 e1 r ⟨hp, hi, h2⟩ => by
    obtain ⟨a, dx, fs, rfl, ha, hl⟩ := hi _ _ (val_rep r hp)
    refine ⟨a, dx, fs, rfl, vis_some ha, hl, ea_any h2 S1 fun vs H2 ds c2 S2 e2 r2 h3 => ?_⟩
    exact sp_at (ρ := ρ.wc c2) S2 (.cons (r.mono e2) r2) h3 (k.from (c := c2) fun _ _ q => e2 _ _ (e1 _ _ q))
def tMethW0 (X : Cx) (C : Addr) (m : Str) (o : Expr) (sp : Sp) (W : WX) : TE := fun σ H Q => tAny X o σ H fun x H1 => ∃ a dx fs, x = .ref a ∧ H1 a = some (.ins C dx fs) ∧ fs.lookup m = none ∧ sp [x] H1 Q (fun c d H' => W c d σ H')
theorem pe_methW0 {pl : Sem Bool} {sp : Sp} {W : WX} {o : Expr} (c : Cls X.K C) (hm : Meth X.K C m f) (G : FnG X.prog X.w X.K X.mg X.base (L2.CX X.prog X.w) k f sp) (hr : RoomG k X.A) (tk : Takes X W)
    (ht : eval (.Call (.Attribute o m apos)
      [] [] pos) X.env = (do
      let ov ← eval o X.env
      standAt apos.atName
      let (f, first) ← holding [ov]
        (getMethod ov m pl)
      callWith pos f first (backTo pos (starEach [] X.env)) (backToKw pos (keywordEach [] X.env))) := by rfl) : PE X (.Call (.Attribute o m apos) [] [] pos) (tMethW0 X C m o sp W) := ⟨fun pins s σ H Q I h => by
  refine PySem.W.methodCall_KW (pl := pl) (thn (pe_any.run pins s σ H _ I h) fun u s1 ⟨x, H1, I1, rx, a, dx, fs, ex, ea, l, q⟩ => ?_) ht
  subst ex
  cases rx
  exact getmeth_ok I1 ea c hm l (PySem.W.callWith_K0 (first := [.ref a]) I1.kIn hm.kp (runS (us := [.ref a]) (vs := [.ref a]) G hr tk I1 (.cons rfl .nil) q))⟩
theorem ev_meth0 {pl : Sem Bool} {o : Expr} (ok : Zok Z) (c : Cls Z.X.K C) (hm : Meth Z.X.K C m f) (G : Does Z k f F) (hr : RoomG k Z.X.A)
    (h : EV Z ρ o fun d c1 => plain d = true ∧ isIns Z.T C d m ∧ F [d] c1 P (fun er c' => Z.R er (ρ.wc c')))
    (ht : eval (.Call (.Attribute o m apos) [] [] pos) Z.X.env = (do
      let ov ← eval o Z.X.env
      standAt apos.atName
      let (f, first) ← holding [ov]
        (getMethod ov m pl)
      callWith pos f first (backTo pos (starEach [] Z.X.env)) (backToKw pos (keywordEach [] Z.X.env))) := by rfl) : EV Z ρ (.Call (.Attribute o m apos) [] [] pos) P :=
  ev_of (pe_methW0 c hm G hr ok.tk ht) fun σ H Q S k => ev_any h S fun v H1 d c1 S1 e1 r ⟨hp, hi, h2⟩ => by
    obtain ⟨a, dx, fs, rfl, ha, hl⟩ := hi _ _ (val_rep r hp)
    exact ⟨a, dx, fs, rfl, vis_some ha, hl, sp_at (ρ := ρ.wc c1) S1 (.cons r .nil) h2 (k.from (c := c1) e1)⟩
/-- no raising end is wished -/
theorem sp_at0 {vs : List V} {ds : List D} {Q : VK} (S : SR Z ρ σ H) (r : Paired (val Z.T ρ.B (vis ρ.B H)) ds vs) (h : F ds ρ.c P (fun _ _ => False)) (k : Post Z ρ σ H P Q) : SpW Z.T F vs H Q E0 :=
  ⟨ρ.B, ρ.c, ds, P, _, S.ok, r, h, fun v H' d c' ok s r' p => k v H' d c' (S.call ok s) s r' p, fun _ _ _ _ _ _ _ _ z => z.elim⟩
/-- e.f, a property -/
theorem ev_prop {q : Addr} {fd : FuncData} {ps : List Str} (c : Cls Z.X.K C) (hp : PropOf Z.X.K C m q f) (G : FnOk Z.X.prog Z.X.w Z.X.K Z.X.mg Z.X.base (L2.CX Z.X.prog Z.X.w) k f fd ps (SpW Z.T F)) (hr : RoomG (k + 1) Z.X.A) (hb : Binds Z.X.K fd ps [])
    (h : EV Z ρ e fun d c => plain d = true ∧ isIns Z.T C d m ∧ F [d] c P (fun _ _ => False)) (hab : attributeBase e m Z.X.env (eval e Z.X.env) = eval e Z.X.env := by rfl) : EV Z ρ (.Attribute e m pos) P :=
  ev_of (pe_prop (E := E0) pe_any c hp G hr.r hb .nil (passL (X := Z.X.nox)) hab) fun σ H Q S k => ev_any h S fun v H1 d c1 S1 e1 r ⟨hp, hi, h2⟩ => by
    obtain ⟨a, dx, fs, rfl, ha, hl⟩ := hi _ _ (val_rep r hp)
    exact ⟨a, dx, fs, rfl, vis_some ha, sp_at0 (ρ := ρ.wc c1) S1 (.cons r .nil) h2 (k.from (c := c1) e1)⟩
/-- e.f, a field -/
theorem ev_fld (hK : Z.X.K = Z.T.K) (c : Cls Z.X.K C) (n : NoAttr Z.X.K C m)
    (h : EV Z ρ e fun d c => plain d = true ∧ ∃ d', plain d' = true ∧ (∀ G v, rep Z.T G d v → ∃ a dx fs w, v = .ref a ∧ G a = some (.ins C dx fs) ∧ fs.lookup m = some w ∧ rep Z.T G d' w) ∧ P d' c) (hab : attributeBase e m Z.X.env (eval e Z.X.env) = eval e Z.X.env := by rfl) : EV Z ρ (.Attribute e m pos) P :=
  ev_of (pe_fld pe_any hab) fun σ H Q S k => ev_any h S fun v H1 d c1 S1 e1 r ⟨hp, d', hp', hi, h2⟩ => by
    obtain ⟨a, dx, fs, w, rfl, ha, hl, hw⟩ := hi _ _ (val_rep r hp)
    exact ⟨a, C, dx, fs, w, rfl, vis_some ha, c, n, hl, (k.from (c := c1) e1).here S1 h2 (.of hw)⟩
theorem run0 {pins : List (Addr × Obj)} {s : Shared} {sp : Sp} {Q : VK} {us : List Value} {vs : List V} (G : FnG X.prog X.w X.K X.mg X.base (L2.CX X.prog X.w) k f sp) (hr : RoomG k X.A)
    (I : Inv X pins σ H s) (r : Vals vs us) (h : sp vs H Q E0) : wpAny (model X.prog X.w) X.A (call (.ref f) us) (EP X pins σ Q) X.xe s := runS (W := fun _ _ _ _ => False) G hr takes0 I r h
/-- the result is not NotImplemented -/
theorem back {pins : List (Addr × Obj)} {Q : VK} {s : Shared} {t : Sem Value} (h : wpAny (model X.prog X.w) X.A t (EP X pins σ Q) X.xe s) : wpAny (model X.prog X.w) X.A t (PySem.W.CmpBack (EP X pins σ Q)) X.xe s :=
  wpAny_mono h (fun _ _ z => SlX.cmpback (z.choose_spec.choose_spec.2.1) z) fun _ _ z => z
/-- x op y, both instances of C -/
def rBinC (C : Addr) (sp : Sp) : R2 := fun x y H Q => ∃ a dx fs b dy gs, x = .ref a ∧ y = .ref b ∧ H a = some (.ins C dx fs) ∧ H b = some (.ins C dy gs) ∧ sp [x, y] H Q E0
theorem op_binC {op : Operator} {sp : Sp} (G : FnG X.prog X.w X.K X.mg X.base (L2.CX X.prog X.w) k f sp) (hr : RoomG k X.A) (hs : PySem.W.findIn X.K (.ref C) (PySem.dunder op.info.2) = some (some (.ref f))) (hf : PySem.W.isFn X.K (.ref f) = true)
    (hc : PySem.W.selfFirst X.K C = true) : OpR X (binaryOp op) (rBinC C sp) := by
  intro pins s σ H x y v u Q I rx ry h; obtain ⟨a, dx, fs, b, dy, gs, rfl, rfl, ha, hb, q⟩ := h
  cases rx
  cases ry
  obtain ⟨mA, J, _⟩ := ins_get I.hok ha; obtain ⟨mB, J', _⟩ := ins_get I.hok hb
  obtain ⟨od, J, _⟩ := J.look
  obtain ⟨od', J', _⟩ := J'.look; obtain ⟨m, hF⟩ := I.fr
  exact PySem.W.binop_K (op := op) hF I.ok.mod.kin J J'.type hc hs hf (back (run0 (us := [.ref a, .ref b]) (vs := [.ref a, .ref b]) G hr I (.cons rfl (.cons rfl .nil)) q))
/-- x op n, x an instance of C, n an int -/
def rBinI (C : Addr) (sp : Sp) : R2 := fun x y H Q => ∃ a dx fs n, x = .ref a ∧ y = .int n ∧ H a = some (.ins C dx fs) ∧ sp [x, y] H Q E0
theorem op_binI {op : Operator} {sp : Sp} {fo ro rc : Option Value} (G : FnG X.prog X.w X.K X.mg X.base (L2.CX X.prog X.w) k f sp) (hr : RoomG k X.A) (hs : PySem.W.findIn X.K (.ref C) (PySem.dunder op.info.2) = some (some (.ref f))) (hf : PySem.W.isFn X.K (.ref f) = true)
    (hc : PySem.W.selfFirst X.K C = true) (h0 : PySem.W.findIn X.K (.ref C) (PySem.dunderR op.info.2) = some rc) (hp : rc = none ∨ ∃ g : Addr, rc = some (.ref g))
    (h1 : PySem.W.findIn X.K (.type "int") (PySem.dunder op.info.2) = some fo) (h2 : PySem.W.findIn X.K (.type "int") (PySem.dunderR op.info.2) = some ro) (hsub : PySem.W.subIn X.K (.type "int") (.ref C) = some false) : OpR X (binaryOp op) (rBinI C sp) := by
  intro pins s σ H x y v u Q I rx ry h; obtain ⟨a, dx, fs, n, rfl, rfl, ha, q⟩ := h
  cases rx
  obtain ⟨t, rfl⟩ := ry
  obtain ⟨mA, J, _⟩ := ins_get I.hok ha; obtain ⟨od, J, _⟩ := J.look
  obtain ⟨m, hF⟩ := I.fr
  exact PySem.W.ksp_binT (op := op) (T := "int") hF I.ok.mod.kin J rfl hc hs hf h0 hp h1 h2 hsub (back (run0 (us := [.ref a, .int n t]) (vs := [.ref a, .int n]) G hr I (.cons rfl (.cons ⟨t, rfl⟩ .nil)) q))
/-- -x -/
def rNegC (C : Addr) (sp : Sp) : V → Hp → VK → Prop := fun x H Q => ∃ a dx fs, x = .ref a ∧ H a = some (.ins C dx fs) ∧ sp [x] H Q E0
theorem un_negC {sp : Sp} (G : FnG X.prog X.w X.K X.mg X.base (L2.CX X.prog X.w) k f sp) (hr : RoomG k X.A) (hs : PySem.W.findIn X.K (.ref C) "__neg__" = some (some (.ref f))) (hf : PySem.W.isFn X.K (.ref f) = true) : UnR X (unaryOp .USub) (rNegC C sp) := by
  intro pins s σ H x v Q I rx h
  obtain ⟨a, dx, fs, rfl, ha, q⟩ := h; cases rx
  obtain ⟨mA, J, _⟩ := ins_get I.hok ha; obtain ⟨od, J, _⟩ := J.look
  obtain ⟨m, hF⟩ := I.fr
  exact PySem.W.ksp_neg hF I.ok.mod.kin J hs hf (run0 (us := [.ref a]) (vs := [.ref a]) G hr I (.cons rfl .nil) q)
/-- what type() tells of a value -/
inductive YT (H : Hp) : V → Value → Prop
  | int (i : Int) : YT H (.int i) (.type "int")
  | bl (i : Bool) : YT H (.bl i) (.type "bool")
  | str (i : Str) : YT H (.str i) (.type "str")
  | non : YT H .non (.type "NoneType")
  | ins {a C dx fs} (h : H a = some (.ins C dx fs)) : YT H (.ref a) (.ref C)
  | lst {a xs} (h : H a = some (.lst xs)) : YT H (.ref a) (.type "list")
  | tup {a xs} (h : H a = some (.tup xs)) : YT H (.ref a) (.type "tuple")
  | dK {a xs} (h : H a = some (.dK xs)) : YT H (.ref a) (.type "dict")
theorem YT.looks {pins : List (Addr × Obj)} {s : Shared} {y : V} {u t : Value} (I : Inv X pins σ H s) (r : RelV y u) (h : YT H y t) : PySem.W.Looks (model X.prog X.w) s.heap (typeOf u) t := by
  cases h with
  | int i =>
    obtain ⟨t, rfl⟩ := r
    exact fun A Q E s k q => wpAny_pure q
  | bl i =>
    cases r
    exact fun A Q E s k q => wpAny_pure q
  | str i =>
    obtain ⟨t, rfl⟩ := r
    exact fun A Q E s k q => wpAny_pure q
  | non =>
    cases r
    exact fun A Q E s k q => wpAny_pure q
  | ins h =>
    cases r
    obtain ⟨mA, J, _⟩ := ins_get I.hok h
    obtain ⟨od, J, _⟩ := J.look
    exact J.type
  | lst h =>
    cases r
    obtain ⟨_, its, n, _, e⟩ := I.hok _ _ h
    exact fun A Q E s k q => wpAny_typeOf_ref (k _ _ e) q
  | tup h =>
    cases r
    obtain ⟨_, its, _, p⟩ := I.hok _ _ h
    obtain ⟨o, e, c, _⟩ := p
    exact fun A Q E s k q => wpAny_typeOf_ref (k _ _ e) (by rw [c]; exact q)
  | dK h =>
    cases r
    obtain ⟨_, _, vs, _, o, es, ep, e, c, _⟩ := I.hok _ _ h
    exact fun A Q E s k q => wpAny_typeOf_ref (k _ _ e) (by rw [c.1]; exact q)
/-- x op y, a comparison, x an instance of C; y any whose type is known -/
def rCmpC (K : PySem.W.Frag) (C : Addr) (sp : Sp) : R2 := fun x y H Q => ∃ a dx fs, x = .ref a ∧ H a = some (.ins C dx fs) ∧ (∃ t, YT H y t ∧ PySem.W.notFirst K C t = true) ∧ sp [x, y] H Q E0
theorem op_cmpC {op : CmpOp} {sp : Sp} (hop : ∀ a b, compareOp op a b = richCompare op a b) (G : FnG X.prog X.w X.K X.mg X.base (L2.CX X.prog X.w) k f sp) (hr : RoomG k X.A) (hs : PySem.W.findIn X.K (.ref C) (cmpInfo op).2.1 = some (some (.ref f)))
    (hf : PySem.W.isFn X.K (.ref f) = true) : OpR X (compareOp op) (rCmpC X.K C sp) := by
  intro pins s σ H x y v u Q I rx ry h; obtain ⟨a, dx, fs, rfl, ha, ⟨t, ht, hn⟩, q⟩ := h
  cases rx
  obtain ⟨mA, J, _⟩ := ins_get I.hok ha; obtain ⟨od, J, _⟩ := J.look
  obtain ⟨m, hF⟩ := I.fr
  rw [hop]
  exact PySem.W.cmp_K (op := op) hr.r.units0 hF I.ok.mod.kin J (ht.looks I ry) hn hs hf (back (run0 (us := [.ref a, u]) (vs := [.ref a, y]) G hr I (.cons rfl (.cons ry .nil)) q))
end Q
end

section
set_option Elab.async false
set_option linter.all false
set_option maxRecDepth 100000
set_option maxHeartbeats 3900000
namespace Q
open L2 PySem PySem.Spec PyProof.Rows

section
variable {M : Model} {prog : Program} {w : World} {A : Around} {E : Value → Shared → Prop} {s : Shared} {K : PySem.W.Frag} {x C f : Addr} {ox : Obj} {od : Option Obj} {b : Value}
/-- the bound object.__ne__ of an instance whose class has none of its own -/
theorem ne_bound {R : Option Value → Shared → Prop} {as : List Value} (X : K.In s.heap) (I : PySem.W.InstAt s.heap x ox C od) (hs : PySem.W.findIn K (.ref C) "__ne__" = some (some (.builtin "object.__ne__")))
    (h : wpAny M A (call (.builtin "object.__ne__") (.ref x :: as)) (fun v => R (some v)) E s) : wpAny M A (callSpecialIfBound? (.ref x) "__ne__" as) R E s := by
  simp only [callSpecialIfBound?, bindSpecialIfBound?]; have last : wpAny M A (call (.builtin "object.__ne__") ([.ref x] ++ as) >>= fun v => pure (some v)) R E s :=
    wpAny_bind (wpAny_mono h (fun v s' q => wpAny_pure q) fun _ _ q => q)
  refine wpAny_holding (wpAny_bind (wpAny_bind (wpAny_bind (I.type.here (PySem.W.Looks.here (PySem.W.looks_findIn X hs) ?_)))))
  refine wpAny_bind (wpAny_askSetting (wpAny_ite ?_)); split
  case isTrue => exact wpAny_bind (wpAny_of_eq (F.cmp_object.ne.bind _) (wpAny_pure last))
  case isFalse => exact wpAny_tryCatch (wpAny_bind (wpAny_of_eq (F.cmp_object.ne.bind _) (wpAny_pure last)))
/-- its body: the opposite of the own == -/
theorem ne_entry {R : Fin → Shared → Prop} (hu : A.units < cLine) (X : K.In s.heap) (I : PySem.W.InstAt s.heap x ox C od) (hs : PySem.W.findIn K (.ref C) "__eq__" = some (some (.ref f))) (hf : PySem.W.isFn K (.ref f) = true)
    (h : wpAny M A (call (.ref f) [.ref x, b]) (fun v s' => ∃ k, v = .bool k ∧ R (.done (.ret (.bool (!k)))) s') E s) : wpAny M A (Builtin.«object.__ne__» ⟨[.ref x, b], []⟩) R E s := by
  unfold Builtin.«object.__ne__»; refine wpAny_bind (m := slotArgs _ _ _) (wpAny_pure ?_)
  refine wpAny_bind (wpAny_cRoomFor hu ?_); refine wpAny_bind (PySem.W.ifBound_K X I hs hf (wpAny_mono h (fun v s' hv => ?_) fun _ _ e => e))
  obtain ⟨k, hk, q⟩ := hv
  subst hk
  refine wpAny_bind (wpAny_truthy_bool ?_)
  exact wpAny_pure q
theorem ne_own {R : Value → Shared → Prop} {t : Value} {L : Addr} {h₀ : Heap} {m : Str → Option Value} (hu : A.units + 1 < cLine) (Fm : Fr h₀ L s.heap m) (X₀ : K.In h₀) (I : PySem.W.InstAt s.heap x ox C od) (hb : PySem.W.Looks (model prog w) s.heap (typeOf b) t)
    (hn : PySem.W.notFirst K C t = true) (hm : PySem.W.mroIn K C (.type "object") = some true) (hs : PySem.W.findIn K (.ref C) "__ne__" = some (some (.builtin "object.__ne__")))
    (he : PySem.W.findIn K (.ref C) "__eq__" = some (some (.ref f))) (hf : PySem.W.isFn K (.ref f) = true)
    (h : wpAny (model prog w) A.in1 (call (.ref f) [.ref x, b]) (fun v s' => ∃ k, v = .bool k ∧ R (.bool (!k)) s') E s) : wpAny (model prog w) A (richCompare .NotEq (.ref x) b) R E s := by
  have X := X₀.keeps Fm.keep
  have ask : wpAny (model prog w) A (call (.builtin "object.__ne__") [.ref x, b]) (fun v s' => ∃ k, v = .bool k ∧ R (.bool k) s') E s := by
    have body := ne_entry (R := fun fin s' => ∃ k, fin = .done (.ret (.bool k)) ∧ R (.bool k) s') (by show A.units + 1 < cLine; exact hu) X I he hf (wpAny_mono h (fun v s' ⟨k, hk, q⟩ => ⟨k, hk, !k, rfl, q⟩) fun _ _ e => e)
    refine wpAny_call (codeAny_call_builtin F.cmp_object.ne.plain F.cmpEntry_ne (PySem.W.check_slot F.cmpKind_ne F.cmpSplit_ne (I.type.andThen (PySem.W.looks_mroIn X hm)) (F.cmpArgs_ne _ _) ?_))
    refine wpAny_mono body (fun fin s' z => ?_) fun _ _ e => e
    obtain ⟨k, rfl, q⟩ := z
    exact ⟨k, rfl, q⟩
  have one : wpAny (model prog w) A (tryCompare (.ref x) "__ne__" b) (fun r s' => ∃ v, r = some v ∧ R v s') E s := by
    unfold tryCompare
    refine wpAny_bind (ne_bound X I hs (wpAny_mono ask (fun v s' z => ?_) fun _ _ e => e))
    obtain ⟨k, hk, q⟩ := z
    subst hk
    exact wpAny_pure ⟨_, rfl, q⟩
  simp only [richCompare, cmpInfo_NotEq, oneThing_ref]; refine wpAny_holding (wpAny_bind (wpAny_cRoomFor (by omega) (wpAny_bind (I.type.here (wpAny_bind (hb.here ?_))))))
  split
  case isTrue q =>
    have sub : PySem.W.subIn K t (.ref C) = some false := by
      cases Bool.or_eq_true_iff.mp hn with
      | inl z =>
        rw [beq_iff_eq.mp z] at q
        simp at q
      | inr z => exact beq_iff_eq.mp z
    refine wpAny_bind ((PySem.W.looks_subIn X sub).here ?_)
    simp only [Bool.false_eq_true, if_false]; refine wpAny_bind (wpAny_mono one (fun r s' z => ?_) fun _ _ e => e)
    obtain ⟨v, hv, q⟩ := z
    subst hv
    exact wpAny_pure q
  case isFalse q =>
    refine wpAny_bind (wpAny_pure ?_); simp only [Bool.false_eq_true, if_false]
    refine wpAny_bind (wpAny_mono one (fun r s' z => ?_) fun _ _ e => e); obtain ⟨v, hv, q⟩ := z
    subst hv
    exact wpAny_pure q
end
section
variable {X : Cx} {k : Nat} {f C : Addr}
/-- x != y by the own == -/
def rNeC (K : PySem.W.Frag) (C : Addr) (sp : Sp) : R2 := fun x y H Q => ∃ a dx fs, x = .ref a ∧ H a = some (.ins C dx fs) ∧ (∃ t, YT H y t ∧ PySem.W.notFirst K C t = true) ∧ sp [x, y] H (fun v H' => ∃ k, v = .bl k ∧ Q (.bl (!k)) H') E0
theorem op_neC {sp : Sp} (G : FnG X.prog X.w X.K X.mg X.base (L2.CX X.prog X.w) k f sp) (hr : RoomG (k + 1) X.A) (hm : PySem.W.mroIn X.K C (.type "object") = some true) (hs : PySem.W.findIn X.K (.ref C) "__ne__" = some (some (.builtin "object.__ne__")))
    (he : PySem.W.findIn X.K (.ref C) "__eq__" = some (some (.ref f))) (hf : PySem.W.isFn X.K (.ref f) = true) : OpR X (compareOp .NotEq) (rNeC X.K C sp) := by
  intro pins s σ H x y v u Q I rx ry h; obtain ⟨a, dx, fs, rfl, ha, ⟨t, ht, hn⟩, q⟩ := h
  cases rx
  obtain ⟨mA, J, _⟩ := ins_get I.hok ha; obtain ⟨od, J, _⟩ := J.look
  obtain ⟨m, hF⟩ := I.fr
  show wpAny (model X.prog X.w) X.A (richCompare .NotEq (.ref a) u) (EP X pins σ Q) X.xe s
  have room := hr.r.units
  refine ne_own (by omega) hF I.ok.mod.kin J (ht.looks I ry) hn hm hs he hf ?_
  have g := G X.A.in1 X.stack s H [.ref a, u] [.ref a, y] _ _ hr.in1 I.env0.in1 (.cons rfl (.cons ry .nil)) q
  refine wpAny_call (codeAny_mono g ?_)
  intro r s' hq
  match r, hq with
  | .error er, hq =>
    obtain ⟨_, _, _, _, _, _, _, _, _, _, _, _, z⟩ := hq
    exact z.elim
  | .ok (.ret z), hq =>
    obtain ⟨v, H', I', rv, k, hk, qk⟩ := I.after hq
    subst hk
    cases rv
    exact ⟨k, rfl, .bl (!k), H', I', rfl, qk⟩
end
end Q
end

section
/-! R1: quotients, by core Lean's Rat. -/
namespace Q
/-- the sign is the bottom's -/
def sgd (u d : Int) : Int := if d < 0 then -((Nat.gcd u.natAbs d.natAbs : Nat) : Int) else ((Nat.gcd u.natAbs d.natAbs : Nat) : Int)
abbrev fr (u d : Int) : Rat := Rat.divInt u d
theorem gcd_pos {u d : Int} (h : d ≠ 0) : 0 < Nat.gcd u.natAbs d.natAbs := Nat.gcd_pos_of_pos_right _ (by omega)
theorem sgd_ne {u d : Int} (h : d ≠ 0) : sgd u d ≠ 0 := by
  have := gcd_pos (u := u) h
  unfold sgd
  split <;> omega
theorem dvd_u (u d : Int) : ((Nat.gcd u.natAbs d.natAbs : Nat) : Int) ∣ u := Int.ofNat_dvd_left.mpr (Nat.gcd_dvd_left _ _)
theorem dvd_d (u d : Int) : ((Nat.gcd u.natAbs d.natAbs : Nat) : Int) ∣ d := Int.ofNat_dvd_left.mpr (Nat.gcd_dvd_right _ _)
theorem fr_num {u d : Int} (h : d ≠ 0) : u.fdiv (sgd u d) = (fr u d).num := by
  have e : d.gcd u = Nat.gcd u.natAbs d.natAbs := by rw [Int.gcd_comm]; rfl
  rw [Rat.num_divInt, e]
  unfold sgd
  split
  · rename_i hd
    rw [Int.fdiv_eq_ediv_of_dvd (Int.neg_dvd.mpr (dvd_u u d)), Int.ediv_neg, Int.sign_eq_neg_one_of_neg hd, Int.neg_mul, Int.one_mul]
    obtain ⟨k, hk⟩ := dvd_u u d
    have hp : ((Nat.gcd u.natAbs d.natAbs : Nat) : Int) ≠ 0 := by have := gcd_pos (u := u) h; omega
    generalize hg : ((Nat.gcd u.natAbs d.natAbs : Nat) : Int) = g at *
    rw [hk, Int.mul_ediv_cancel_left _ hp, ← Int.mul_neg, Int.mul_ediv_cancel_left _ hp]
  · rename_i hd
    rw [Int.fdiv_eq_ediv_of_dvd (dvd_u u d), Int.sign_eq_one_of_pos (by omega), Int.one_mul]
theorem fr_den {u d : Int} (h : d ≠ 0) : d.fdiv (sgd u d) = ((fr u d).den : Int) := by
  have e : d.gcd u = Nat.gcd u.natAbs d.natAbs := by rw [Int.gcd_comm]; rfl
  rw [Rat.den_divInt, e, if_neg h]
  have hp := gcd_pos (u := u) h
  rw [Int.natCast_ediv]
  unfold sgd
  split
  · rename_i hd
    rw [Int.fdiv_eq_ediv_of_dvd (Int.neg_dvd.mpr (dvd_d u d)), Int.ediv_neg]
    obtain ⟨k, hk⟩ := dvd_d u d
    have en : ((d.natAbs : Nat) : Int) = -d := by omega
    rw [en]
    have hp' : ((Nat.gcd u.natAbs d.natAbs : Nat) : Int) ≠ 0 := by omega
    generalize hg : ((Nat.gcd u.natAbs d.natAbs : Nat) : Int) = g at *
    rw [hk, Int.mul_ediv_cancel_left _ hp', ← Int.mul_neg, Int.mul_ediv_cancel_left _ hp']
  · rename_i hd
    rw [Int.fdiv_eq_ediv_of_dvd (dvd_d u d)]
    have en : ((d.natAbs : Nat) : Int) = d := by omega
    rw [en]
/-- sizes -/
structure Sz (k : Nat) (q : Rat) : Prop where
  num : q.num.natAbs < 2 ^ k
  den : q.den < 2 ^ k
theorem Sz.mono {j k : Nat} {q : Rat} (h : Sz j q) (e : j ≤ k) : Sz k q := ⟨Nat.lt_of_lt_of_le h.num (Nat.pow_le_pow_right (by decide) e), Nat.lt_of_lt_of_le h.den (Nat.pow_le_pow_right (by decide) e)⟩
theorem Sz.fr {k : Nat} {u d : Int} (hu : u.natAbs < 2 ^ k) (hd : d.natAbs < 2 ^ k) (h : d ≠ 0) : Sz k (fr u d) := by
  have e : d.gcd u = Nat.gcd u.natAbs d.natAbs := by rw [Int.gcd_comm]; rfl
  refine ⟨?_, ?_⟩
  · rw [← fr_num h]
    obtain ⟨m, hm⟩ := dvd_u u d
    have hp := gcd_pos (u := u) h
    have key : (u.fdiv (sgd u d)).natAbs ≤ u.natAbs := by
      have dv : sgd u d ∣ u := by
        unfold sgd
        split
        · exact Int.neg_dvd.mpr (dvd_u u d)
        · exact dvd_u u d
      rw [Int.fdiv_eq_ediv_of_dvd dv]
      exact Int.natAbs_ediv_le_natAbs u _
    omega
  · rw [Rat.den_divInt, if_neg h]
    exact Nat.lt_of_le_of_lt (Nat.div_le_self _ _) hd
theorem nat_mul {a b j k : Nat} (h : a < 2 ^ j) (h' : b < 2 ^ k) : a * b < 2 ^ (j + k) := by
  rw [Nat.pow_add]
  exact Nat.mul_lt_mul'' h h'
theorem int_mul {a b : Int} {j k : Nat} (h : a.natAbs < 2 ^ j) (h' : b.natAbs < 2 ^ k) : (a * b).natAbs < 2 ^ (j + k) := by
  rw [Int.natAbs_mul]
  exact nat_mul h h'
theorem int_add {a b : Int} {k : Nat} (h : a.natAbs < 2 ^ k) (h' : b.natAbs < 2 ^ k) : (a + b).natAbs < 2 ^ (k + 1) := by
  rw [Nat.pow_succ]
  omega
theorem int_sub {a b : Int} {k : Nat} (h : a.natAbs < 2 ^ k) (h' : b.natAbs < 2 ^ k) : (a - b).natAbs < 2 ^ (k + 1) := by
  rw [Nat.pow_succ]
  omega
theorem int_mono {a : Int} {j k : Nat} (h : a.natAbs < 2 ^ j) (e : j ≤ k) : a.natAbs < 2 ^ k := Nat.lt_of_lt_of_le h (Nat.pow_le_pow_right (by decide) e)
theorem Sz.d {k : Nat} {q : Rat} (h : Sz k q) : (q.den : Int).natAbs < 2 ^ k := h.den
theorem den_ne (q : Rat) : (q.den : Int) ≠ 0 := by have := q.den_pos; omega
theorem den_pos (q : Rat) : 0 < (q.den : Int) := by have := q.den_pos; omega
theorem fr_self (q : Rat) : fr q.num q.den = q := Rat.num_divInt_den q
theorem add_fr (p q : Rat) : fr (p.num * q.den + q.num * p.den) (p.den * q.den) = p + q := by
  unfold fr
  rw [← Rat.divInt_add_divInt _ _ (den_ne p) (den_ne q), Rat.num_divInt_den, Rat.num_divInt_den]
theorem sub_fr (p q : Rat) : fr (p.num * q.den - q.num * p.den) (p.den * q.den) = p - q := by
  unfold fr
  rw [← Rat.divInt_sub_divInt _ _ (den_ne p) (den_ne q), Rat.num_divInt_den, Rat.num_divInt_den]
theorem mul_fr (p q : Rat) : fr (p.num * q.num) (p.den * q.den) = p * q := by
  unfold fr
  rw [← Rat.divInt_mul_divInt, Rat.num_divInt_den, Rat.num_divInt_den]
theorem inv_fr (q : Rat) : fr q.den q.num = q⁻¹ := (Rat.inv_def q).symm
theorem div_fr (p q : Rat) : fr (p.num * q.den) (p.den * q.num) = p / q := by
  unfold fr
  rw [← Rat.divInt_mul_divInt, Rat.num_divInt_den, show Rat.divInt q.den q.num = q⁻¹ from inv_fr q, Rat.div_def]
theorem neg_fr (q : Rat) : fr (-q.num) q.den = -q := by
  unfold fr
  rw [← Rat.neg_divInt, Rat.num_divInt_den]
theorem fr_int (i : Int) : fr i 1 = (i : Rat) := by
  apply Rat.ext
  · rw [Rat.num_divInt]
    simp
  · rw [Rat.den_divInt]
    simp
theorem Sz.add {j k : Nat} {p q : Rat} (h : Sz j p) (h' : Sz k q) : Sz (j + k + 1) (p + q) := by
  rw [← add_fr]
  exact Sz.fr (int_add (int_mul h.num h'.d) (by rw [Nat.add_comm j k]; exact int_mul h'.num h.d)) (int_mono (int_mul h.d h'.d) (Nat.le_succ _)) (Int.mul_ne_zero (den_ne p) (den_ne q))
theorem Sz.sub {j k : Nat} {p q : Rat} (h : Sz j p) (h' : Sz k q) : Sz (j + k + 1) (p - q) := by
  rw [← sub_fr]
  exact Sz.fr (int_sub (int_mul h.num h'.d) (by rw [Nat.add_comm j k]; exact int_mul h'.num h.d)) (int_mono (int_mul h.d h'.d) (Nat.le_succ _)) (Int.mul_ne_zero (den_ne p) (den_ne q))
theorem Sz.mul {j k : Nat} {p q : Rat} (h : Sz j p) (h' : Sz k q) : Sz (j + k) (p * q) := by
  rw [← mul_fr]
  exact Sz.fr (int_mul h.num h'.num) (int_mul h.d h'.d) (Int.mul_ne_zero (den_ne p) (den_ne q))
theorem num_ne {q : Rat} (h : q ≠ 0) : q.num ≠ 0 := fun z => h (Rat.num_eq_zero.mp z)
theorem Sz.div {j k : Nat} {p q : Rat} (h : Sz j p) (h' : Sz k q) (n : q ≠ 0) : Sz (j + k) (p / q) := by
  rw [← div_fr]
  exact Sz.fr (int_mul h.num h'.d) (int_mul h.d h'.num) (Int.mul_ne_zero (den_ne p) (num_ne n))
theorem Sz.neg {k : Nat} {q : Rat} (h : Sz k q) : Sz k (-q) := by
  refine ⟨?_, ?_⟩
  · rw [Rat.neg_num]
    have := h.num
    omega
  · rw [Rat.neg_den]
    exact h.den
theorem Sz.int {k : Nat} {i : Int} (h : i.natAbs < 2 ^ k) (h1 : 1 ≤ k) : Sz k (i : Rat) := by
  refine ⟨by simpa using h, ?_⟩
  have : 2 ^ 1 ≤ 2 ^ k := Nat.pow_le_pow_right (by decide) h1
  simp
  omega
theorem lt_fr (p q : Rat) : decide (p.num * q.den < q.num * p.den) = decide (p < q) := by
  exact decide_eq_decide.mpr (Rat.lt_iff p q).symm
theorem le_fr (p q : Rat) : decide (p.num * q.den ≤ q.num * p.den) = decide (p ≤ q) := by
  exact decide_eq_decide.mpr (Rat.le_iff p q).symm
end Q
end

section
set_option Elab.async false
set_option linter.all false
set_option maxRecDepth 100000
set_option maxHeartbeats 3900000
namespace Q
open PySem L2
variable {Z : Zt} {ρ : Rho} {σ : St} {H H' : Hp} {O : Out} {P : D → Nat → Prop} {e a b : Expr} {pos p apos : Pos} {X : Cx} {k : Nat} {f C : Addr} {F : Fw} {x m : Str} {es : List Expr}

/-! ### names of the module, of types -/
theorem ev_globC (hg : Gl Z.X x) (hm : Z.X.mg x = some (.ref C)) (h : P (.cls C) ρ.c) (hd : (x == ("__debug__" : Str)) = false := by decide) : EV Z ρ (.Name x pos) P :=
  ev_of (pe_glob (v := .ref C) hg hm rfl hd) fun σ H Q S k => k.here S h rfl
theorem ev_globI {i : Int} {t : Tok} (hg : Gl Z.X x) (hm : Z.X.mg x = some (.int i t)) (h : P (.int i) ρ.c) (hd : (x == ("__debug__" : Str)) = false := by decide) : EV Z ρ (.Name x pos) P :=
  ev_of (pe_glob (v := .int i) hg hm ⟨_, rfl⟩ hd) fun σ H Q S k => k.here S h rfl
theorem ev_ty {n : String} (hg : Gl Z.X x) (hm : Z.X.mg x = none) (hv : bootBuiltins x = some (.type n)) (h : P (.ty n) ρ.c) (hn : x ≠ "__name__" := by decide) (hd : (x == ("__debug__" : Str)) = false := by decide) : EV Z ρ (.Name x pos) P :=
  ev_of (pe_bltn (v := .ty n) hg hm hv rfl hn hd) fun σ H Q S k => k.here S h rfl

/-! ### isinstance -/
/-- the type's name of a datum; a Ratio's is the class at C -/
def tyV (T : Tab) : D → Option Value
  | .non => some (.type "NoneType")
  | .bl _ => some (.type "bool")
  | .int _ => some (.type "int")
  | .str _ => some (.type "str")
  | .rat _ => some (.ref T.C)
  | .tup _ => some (.type "tuple")
  | .lst _ => some (.type "list")
  | .dct _ _ => some (.type "dict")
  | _ => none
structure InsF (K : PySem.W.Frag) (C : Addr) : Prop where
  cl : Cls K C
  ha : PySem.W.findIn K (.ref C) "__class__" = some (some (Value.builtin "object.__class__"))
  hn : PySem.W.specialIn K (.builtin "object.__class__") "__get__" = some (some (Value.builtin "getset_descriptor.__get__"))
  ht : PySem.W.takesIn K (Value.builtin "object.__class__") = some true
  hm : PySem.W.mroIn K C (Value.type "object") = some true
theorem tyV_ok {T : Tab} {B : Bm} {H : Hp} {d : D} {v : V} {t : Value} (I : InsF T.K T.C) (h : tyV T d = some t) (r : rep T (vis B H) d v) : TyX T.K H v t := by
  cases d <;> first | (cases h; done) | skip
  all_goals
    have e := Option.some.inj h
    subst e
  case non => cases r; exact .base .non
  case bl b => cases r; exact .base (.bl b)
  case int b => cases r; exact .base (.int b)
  case str b => cases r; exact .base (.str b)
  case rat q =>
    obtain ⟨a, dx, rfl, h⟩ := r
    exact .base (.ins (vis_some h) I.cl I.ha I.hn I.ht I.hm)
  case tup l =>
    obtain ⟨a, vs, rfl, h, _⟩ := r
    exact .base (.tup (vis_some h))
  case lst l =>
    obtain ⟨a, vs, rfl, h, _⟩ := r
    exact .base (.lst (vis_some h))
  case dct ks ds =>
    obtain ⟨a, kvs, rfl, h, _⟩ := r
    exact .base (.dK (vis_some h))
theorem tyV_plain {T : Tab} {d : D} {t : Value} (h : tyV T d = some t) : plain d = true := by
  cases d <;> first | rfl | cases h
/-- isinstance(x, c) by what the kit says -/
theorem ev_isinst (hK : Z.X.K = Z.T.K) (hI : InsF Z.T.K Z.T.C) (hg : Gl Z.X "isinstance") (hm : Z.X.mg "isinstance" = none)
    (h : EA Z ρ [a, b] fun ds c => ∃ d u t v k, ds = [d, v] ∧ tyV Z.T d = some t ∧ (v = .ty u ∧ PySem.W.kitOne Z.T.K t (.type u) = some k ∨ v = .cls f ∧ PySem.W.kitOne Z.T.K t (.ref f) = some k) ∧ P (.bl k) c)
    (he : starEach [a, b] Z.X.env = (false, eval a Z.X.env) :: starEach [b] Z.X.env := by rfl) (hpl : (backTo pos (starEach [b] Z.X.env)).any (·.1) = false := by rfl) : EV Z ρ (.Call (.Name "isinstance" p) [a, b] [] pos) P :=
  ev_blt call_isi hg hm (by decide +kernel) (h.mono fun ds c h σ H vs Q S r k => by
    obtain ⟨d, u, t, v, kk, rfl, ht, hv, hp⟩ := h
    obtain ⟨v1, v2, rfl, r1, r2⟩ := pr2 r
    have ty := tyV_ok hI ht (val_rep r1 (tyV_plain ht))
    rw [hK]
    rcases hv with ⟨rfl, hk⟩ | ⟨rfl, hk⟩
    · cases r2
      exact ⟨v1, .ty u, t, .type u, kk, rfl, .ty u, ty, hk, k.here (d := .bl kk) S hp rfl⟩
    · cases r2
      exact ⟨v1, .ref f, t,   .ref f, kk, rfl, .own f, ty, hk, k.here (d := .bl kk) S hp rfl⟩) (he := he) (hpl := hpl)

/-! ### == of data at any depth -/
mutual
def toP : D → Option PyData
  | .non => some .none
  | .bl b => some (.bool b)
  | .int i => some (.int i)
  | .str x => some (.str x)
  | .tup l => (toPs l).map .tuple
  | .lst l => (toPs l).map .list
  | _ => none
def toPs : List D → Option (List PyData)
  | [] => some []
  | d :: l => match toP d, toPs l with
    | some p, some ps => some (p :: ps)
    | _, _ => none
end
mutual
theorem toP_ok {T : Tab} {B : Bm} {H : Hp} : ∀ {d : D} {v : V} {p : PyData}, toP d = some p → rep T (vis B H) d v → Dp T.K H v p
  | .non, _, _, h, r => by
    cases r
    cases h
    exact .non
  | .bl b, _, _, h, r => by
    cases r
    cases h
    exact .bl b
  | .int i, _, _, h, r => by
    cases r
    cases h
    exact .int i
  | .str x, _, _, h, r => by
    cases r
    cases h
    exact .str x
  | .tup l, _, _, h, ⟨a, vs, e, h2, r⟩ => by
    subst e
    obtain ⟨ps, h3, h4⟩ := Option.map_eq_some_iff.mp (show (toPs l).map PyData.tuple = some _ from h)
    subst h4
    exact .tup (.inl (.inl (vis_some h2))) (toPs_ok h3 r)
  | .lst l, _, _, h, ⟨a, vs, e, h2, r⟩ => by
    subst e
    obtain ⟨ps, h3, h4⟩ := Option.map_eq_some_iff.mp (show (toPs l).map PyData.list = some _ from h)
    subst h4
    exact .lst (.inl (.inl (vis_some h2))) (toPs_ok h3 r)
  | .rat _, _, _, h, _ => by cases h
  | .box, _, _, h, _ => by cases h
  | .scr _, _, _, h, _ => by cases h
  | .own _ _, _, _, h, _ => by cases h
  | .ty _, _, _, h, _ => by cases h
  | .cls _, _, _, h, _ => by cases h
  | .dct _ _, _, _, h, _ => by cases h
theorem toPs_ok {T : Tab} {B : Bm} {H : Hp} : ∀ {l : List D} {vs : List V} {ps : List PyData}, toPs l = some ps → reps T (vis B H) l vs → DpAll T.K H vs ps
  | [], _, _, h, r => by
    have e : _ = [] := r
    subst e
    cases h
    exact .nil
  | d :: l, _, _, h, ⟨v, r, e, h1, h2⟩ => by
    subst e
    unfold toPs at h
    split at h
    · rename_i p ps hp hps
      cases h
      exact .cons (toP_ok hp h1) (toPs_ok hps h2)
    · cases h
end
theorem toP_plain {d : D} {p : PyData} (h : toP d = some p) : plain d = true := by
  cases d <;> first | rfl | cases h
theorem ev_eqP (hK : Z.X.K = Z.T.K) (hr : RoomG k Z.X.A) (h : EV Z ρ a fun d1 c1 => EV Z (ρ.wc c1) b fun d2 c2 => ∃ x y, toP d1 = some x ∧ toP d2 = some y ∧ SeqAt.shaped x = true ∧ SeqAt.shaped y = true ∧ P (.bl (PyData.eqv x y)) c2) : EV Z ρ (.Compare a [.Eq] [b] pos) P :=
  ev_cmp2 (op_eqD hr.r.units) (nomark _) (h.mono fun d1 c1 h2 => h2.mono fun d2 c2 ⟨x, y, hx, hy, sx, sy, hp⟩ σ H v1 v2 Q S r1 r2 q => by
    rw [hK]
    exact ⟨x, y, toP_ok hx (val_rep r1 (toP_plain hx)), toP_ok hy (val_rep r2 (toP_plain hy)), sx, sy, q.here (d := .bl _) S hp rfl⟩)
theorem ev_neP (hK : Z.X.K = Z.T.K) (hr : RoomG k Z.X.A) (h : EV Z ρ a fun d1 c1 => EV Z (ρ.wc c1) b fun d2 c2 => ∃ x y, toP d1 = some x ∧ toP d2 = some y ∧ SeqAt.shaped x = true ∧ SeqAt.shaped y = true ∧ P (.bl (!PyData.eqv x y)) c2) : EV Z ρ (.Compare a [.NotEq] [b] pos) P :=
  ev_cmp2 (op_neD hr.r.units) (nomark _) (h.mono fun d1 c1 h2 => h2.mono fun d2 c2 ⟨x, y, hx, hy, sx, sy, hp⟩ σ H v1 v2 Q S r1 r2 q => by
    rw [hK]
    exact ⟨x, y, toP_ok hx (val_rep r1 (toP_plain hx)), toP_ok hy (val_rep r2 (toP_plain hy)), sx, sy, q.here (d := .bl _) S hp rfl⟩)
theorem et_eqP {P : Bool → Nat → Prop} (hK : Z.X.K = Z.T.K) (hr : RoomG k Z.X.A) (h : EV Z ρ a fun d1 c1 => EV Z (ρ.wc c1) b fun d2 c2 => ∃ x y, toP d1 = some x ∧ toP d2 = some y ∧ SeqAt.shaped x = true ∧ SeqAt.shaped y = true ∧ P (PyData.eqv x y) c2) : ET Z ρ (.Compare a [.Eq] [b] pos) P :=
  et_cmp2 (op_eqD hr.r.units) (nomark _) (h.mono fun d1 c1 h2 => h2.mono fun d2 c2 ⟨x, y, hx, hy, sx, sy, hp⟩ σ H v1 v2 Q S r1 r2 q => by
    rw [hK]
    exact ⟨x, y, toP_ok hx (val_rep r1 (toP_plain hx)), toP_ok hy (val_rep r2 (toP_plain hy)), sx, sy, q.here (d := .bl _) S ⟨_, rfl, hp⟩ rfl⟩)
theorem et_neP {P : Bool → Nat → Prop} (hK : Z.X.K = Z.T.K) (hr : RoomG k Z.X.A) (h : EV Z ρ a fun d1 c1 => EV Z (ρ.wc c1) b fun d2 c2 => ∃ x y, toP d1 = some x ∧ toP d2 = some y ∧ SeqAt.shaped x = true ∧ SeqAt.shaped y = true ∧ P (!PyData.eqv x y) c2) : ET Z ρ (.Compare a [.NotEq] [b] pos) P :=
  et_cmp2 (op_neD hr.r.units) (nomark _) (h.mono fun d1 c1 h2 => h2.mono fun d2 c2 ⟨x, y, hx, hy, sx, sy, hp⟩ σ H v1 v2 Q S r1 r2 q => by
    rw [hK]
    exact ⟨x, y, toP_ok hx (val_rep r1 (toP_plain hx)), toP_ok hy (val_rep r2 (toP_plain hy)), sx, sy, q.here (d := .bl _) S ⟨_, rfl, hp⟩ rfl⟩)
example (a b c d : Int) : SeqAt.shaped (.tuple [.int a, .int b]) = true := rfl
example (a b c d : Int) : PyData.eqv (.tuple [.int a, .int b]) (.tuple [.int c, .int d]) = (a == c && (b == d && true)) := rfl
end Q
end

section
set_option Elab.async false
set_option linter.all false
set_option maxRecDepth 100000
set_option maxHeartbeats 3900000
namespace Q
open L2 PySem PySem.Spec PyProof.Rows
abbrev veAll : List Value := [.type "ValueError", .type "Exception", .type "BaseException", .type "object"]
/-- an own class of errors without an __init__ of its own -/
structure ErrC (K : PySem.W.Frag) (mg : Str → Option Value) (name : Str) (C : Addr) : Prop where
  m : mg name = some (.ref C)
  x : PySem.W.excIn K C veAll "ValueError.__new__" = true
  k : PySem.W.keepIn K (.ref C) = true
  s : PySem.W.subIn K (.ref C) (.type "BaseException") = some true
  t : PySem.W.typeIn K (.ref C) = some (.type "type")
section
variable {X : Cx} {x : Str} {C : Addr} {p pos : Pos}
/-- X(), raised -/
theorem pmk0 (E : ErrC X.K X.mg x C) (hg : Gl X x) (hd : (x == ("__debug__" : Str)) = false := by decide) : PMk X (.Call (.Name x p) [] [] pos) (fun _ H Q => Q (.ref C) none H) := fun pins s σ H Q I h => by
  refine wpAny_Call_Name_kw (ld_glob I hg E.m ?_ hd)
  refine PySem.W.callWith_K0 I.kIn E.k ?_
  obtain ⟨_, _, _, _, _, _, _, _, _, _, _, _, _, _, _, _, _, hC, hN, hni, T⟩ := exc_obj I.kIn E.x
  exact wpAny_call_exc_subT PySem.F.excBase_ValueError T hC hN hni (fun h' e hm => mk_of I hm (raises_own E.s E.t) h (I.hok.gone hm.new)) (by show 0 ≤ sizeLine; exact Nat.zero_le _)
end
end Q
end

section
set_option Elab.async false
set_option linter.all false
set_option maxRecDepth 100000
set_option maxHeartbeats 3900000
namespace Q
open PySem L2
variable {Z : Zt} {ρ : Rho} {σ : St} {H H' : Hp} {O : Out} {e a b : Expr} {pos p apos : Pos} {X : Cx} {k : Nat} {f C : Addr} {x m : Str} {es : List Expr}
theorem st_raise0 (ok : Zok Z) (E : ErrC Z.X.K Z.X.mg x C) (h : Z.R (C, none) ρ) (hg : Gl Z.X x := by rfl) (hd : (x == ("__debug__" : Str)) = false := by decide) (hc : Z.X.calm = true := by rfl) : ST Z ρ (.Raise (some (.Call (.Name x p) [] [] pos)) none apos) O :=
  st_of (ps_raise hc ok.tk (pmk0 E hg hd)) fun D σ H S q => ⟨ρ, (C, none), S, ⟨rfl, rfl⟩, h⟩
/-- the __init__ of an own error that keeps one field -/
def spErr (C : Addr) (fld : Str) : Sp := fun vs H Q _ => ∃ (a : Addr) (y : V), vs = [.ref a, y] ∧ H a = some (exo a C none) ∧ ∀ dx, H dx = none → dx ≠ a → Q .non (upd (upd H dx (exd dx [(fld, y)])) a (exo a C (some dx)))
/-- such a class -/
structure ErrF (P : Program) (w : World) (K : PySem.W.Frag) (mg : Str → Option Value) (base : Heap) (name fld : Str) (k : Nat) (C : Addr) : Prop where
  m : mg name = some (.ref C)
  o : OexC K C
  i : ∃ fI fd ps, PySem.W.findIn K (.ref C) "__init__" = some (some (.ref fI)) ∧ PySem.W.typeIn K (.ref fI) = some (.type "function") ∧ FnOk P w K mg base (L2.CX P w) k fI fd ps (spErr C fld) ∧ Binds K fd ps []
theorem del_upd {H : Hp} {a d : Addr} {o u v o' : HO} (ha : H a = none) (hd : d ≠ a) : upd (del (upd (upd (upd H a o) d u) a o') a) d v = upd H d v := by
  funext b
  by_cases e : b = d
  · subst e
    rw [upd_same, upd_same]
  · rw [upd_ne e, upd_ne e]
    by_cases e2 : b = a
    · subst e2
      rw [del_same, ha]
    · rw [del_ne e2, upd_ne e2, upd_ne e, upd_ne e2]
theorem exd_inj {d : Addr} {fs gs : List (Str × V)} {H : Hp} (h1 : H d = some (exd d fs)) : True := trivial
theorem st_raiseF {fld : Str} (ok : Zok Z) (E : ErrF Z.X.prog Z.X.w Z.X.K Z.X.mg Z.X.base x fld k C) (hr : RoomG (k + 1) Z.X.A)
    (h : EA Z ρ [e] fun ds c => ∃ d, ds = [d] ∧ plain d = true ∧ Z.R (C, some (fld, d)) (ρ.wc c)) (hg : Gl Z.X x := by rfl) (hd : (x == ("__debug__" : Str)) = false := by decide)
    (he : starEach [e] Z.X.env = (false, eval e Z.X.env) :: starEach [] Z.X.env := by rfl) (hpl : (backTo pos (starEach [] Z.X.env)).any (·.1) = false := by rfl) (hc : Z.X.calm = true := by rfl) : ST Z ρ (.Raise (some (.Call (.Name x p) [e] [] pos)) none apos) O := by
  obtain ⟨fI, fd, ps, i1, i2, G, hb⟩ := E.i
  refine st_of (ps_raise hc ok.tk (pmk_oex E.o i1 i2 G hr.r hb .nil passL hg E.m pa_any hd he hpl)) fun D σ H S q => ea_any h S fun vs H1 ds c S1 e1 r ⟨d, hds, hpl, hR⟩ => ?_
  subst hds
  obtain ⟨v, rfl, rv⟩ := pr1 r
  refine ⟨by show 1 ≤ 1000; decide, fun y hy => ⟨y, v, rfl, upd_same, fun dx hdx hne => ⟨rfl, dx, [(fld, v)], upd_same, ?_, ?_, ?_⟩⟩⟩
  · rw [upd_ne hne]
    exact upd_same
  · rw [upd_ne hne] at hdx
    exact hdx
  · rw [upd_ne hne] at hdx
    rw [del_upd hy hne]
    refine ⟨ρ.wc c, (C, some (fld, d)), S1.same (same_new hdx), ⟨rfl, dx, v, rfl, new_at S1 hdx, ?_⟩, hR⟩
    exact (val_rep rv hpl).mono (Same.vis_ (same_new hdx))
theorem st_raiseN {fld : Str} : True := trivial
/-- the def __init__(self, fld): self.fld = fld of an own error -/
theorem err_init {P : Program} {w : World} {K : PySem.W.Frag} {mg : Str → Option Value} {base : Heap} {C f : Addr} {fd : FuncData} {qual : Str} {st : Stmt} {fld : Str} {p0 p1 p2 p3 : Pos} (U : Fun K "__init__" qual st f fd) (S : FnScope ["self", fld] ["self", fld] (defScope st))
    (hb : defBody st = [.Assign [.Attribute (.Name "self" p0) fld p1] (.Name fld p2) p3]) (o : OexC K C) (n : PySem.W.findIn K (.ref C) fld = some none)
    (hd : (fld == ("__debug__" : Str)) = false := by decide) (hcd : (fld == ("__classdict__" : Str)) = false := by decide) : FnOk P w K mg base (L2.CX P w) 1 f fd ["self", fld] (spErr C fld) := by
  refine U.okX S (fun vs H Q E h => ?_) (fun cdv A outer s H vs Q E hr h => ?_)
  · obtain ⟨a, y, rfl, _⟩ := h
    rfl
  · obtain ⟨a, y, rfl, ha, q⟩ := h
    rw [hb]
    have vis : ∀ x ∈ (["self", fld] : List Str), Vis (defScope st) x := fun x hx => (S.par x hx).elim (fun z => .inl z) (fun z => .inr (.inl z))
    refine ⟨_, pss_one (ps_ost (pe_var (i := 0) rfl (vis _ (List.Mem.head _))) (pe_var (i := 1) rfl (vis _ (List.Mem.tail _ (List.Mem.head _))) hd hcd) rfl), ?_⟩
    exact ⟨y, rfl, .ref a, rfl, a, C, rfl, o, n, .inl ⟨ha, fun dx h1 h2 => q dx h1 h2⟩⟩
end Q
end

section
set_option Elab.async false
set_option linter.all false
set_option maxRecDepth 100000
set_option maxHeartbeats 3900000
set_option exponentiation.threshold 20000
namespace Q
open PySem L2
variable {P : Program} {w : World} {T : Tab} {mg : Str → Option Value} {base : Heap} {f : Addr} {fd : FuncData}
/-! ### a class of numbers: what its top has written -/
/-- Ratio(top, bottom) -/
def F_mk (CZ : Addr) : Fw := fun ds c P R => ∃ t b : Int, ds = [.int t, .int b] ∧ (b = 0 → R (CZ, none) c) ∧ (b ≠ 0 → t.natAbs < 2 ^ 8500 ∧ b.natAbs < 2 ^ 8500 ∧ P (.rat (fr t b)) c)
def F_mk1 : Fw := fun ds c P R => ∃ t : Int, ds = [.int t] ∧ t.natAbs < 2 ^ 8500 ∧ P (.rat (t : Rat)) c
def mkR (C : Addr) : Addr → Hp → D → Prop := fun x G d => ∃ q dx, d = .rat q ∧ G x = some (.ins C dx (ratF q))
theorem ratF_put (q : Rat) : putF "_bottom" (.int (q.den : Int)) (putF "_top" (.int q.num) []) = ratF q := by
  show (if ("_top" : Str) = "_bottom" then _ else (("_top" : Str), V.int q.num) :: putF "_bottom" (.int (q.den : Int)) []) = ratF q
  rw [if_neg (by decide +kernel)]; rfl
theorem ratF_no (q : Rat) {m : Str} (h1 : ¬ m = "_top") (h2 : ¬ m = "_bottom") : (ratF q).lookup m = none := by
  unfold ratF
  rw [List.lookup_cons, List.lookup_cons]
  have e1 : (m == ("_top" : Str)) = false := by simpa using h1
  have e2 : (m == ("_bottom" : Str)) = false := by simpa using h2
  rw [e1, e2]
  rfl
structure RCls (K : PySem.W.Frag) (mg : Str → Option Value) (C : Addr) : Prop where
  I : InsF K C
  m : mg "Ratio" = some (.ref C)
  nt : NoAttr K C "_top"
  nb : NoAttr K C "_bottom"
  sf : PySem.W.selfFirst K C = true
  kk : PySem.W.kitOne K (.ref C) (.ref C) = some true
  ki : PySem.W.kitOne K (.ref C) (.type "int") = some false
  k1 : PySem.W.kitOne K (.type "int") (.ref C) = some false
  k2 : PySem.W.kitOne K (.type "bool") (.ref C) = some false
  k3 : PySem.W.kitOne K (.type "NoneType") (.ref C) = some false
  k4 : PySem.W.kitOne K (.type "str") (.ref C) = some false
  k5 : PySem.W.kitOne K (.type "list") (.ref C) = some false
  k6 : PySem.W.kitOne K (.type "tuple") (.ref C) = some false
  k7 : PySem.W.kitOne K (.type "dict") (.ref C) = some false
def isRat : D → Bool
  | .rat _ => true
  | _ => false
def isWh : D → Bool
  | .int _ => true
  | _ => false
def isI : D → Bool
  | .int _ => true
  | .bl _ => true
  | _ => false
def isB : D → Bool
  | .bl _ => true
  | _ => false
theorem RCls.kit (r : RCls T.K mg T.C) {d : D} {t : Value} (h : tyV T d = some t) : PySem.W.kitOne T.K t (.ref T.C) = some (isRat d) := by
  cases d <;> first | (cases h; done) | skip
  all_goals
    have e := Option.some.inj h
    subst e
  case non => exact r.k3
  case bl => exact r.k2
  case int => exact r.k1
  case str => exact r.k4
  case rat => exact r.kk
  case tup => exact r.k6
  case lst => exact r.k5
  case dct => exact r.k7
theorem RCls.kitI (r : RCls T.K mg T.C) {d : D} {t : Value} (h : tyV T d = some t) : PySem.W.kitOne T.K t (.type "int") = some (isI d) := by
  cases d <;> first | (cases h; done) | skip
  all_goals
    have e := Option.some.inj h
    subst e
  case non => exact kit_ty (show L2.kitB "NoneType" "int" = some false by decide +kernel)
  case bl => exact kit_ty (show L2.kitB "bool" "int" = some true by decide +kernel)
  case int => exact kit_ty (show L2.kitB "int" "int" = some true by decide +kernel)
  case str => exact kit_ty (show L2.kitB "str" "int" = some false by decide +kernel)
  case rat => exact r.ki
  case tup => exact kit_ty (show L2.kitB "tuple" "int" = some false by decide +kernel)
  case lst => exact kit_ty (show L2.kitB "list" "int" = some false by decide +kernel)
  case dct => exact kit_ty (show L2.kitB "dict" "int" = some false by decide +kernel)
theorem kit_bool {K : PySem.W.Frag} {d : D} {t : Value} (h : tyV T d = some t) (hr : isI d = true) : PySem.W.kitOne K t (.type "bool") = some (isB d) := by
  cases d <;> first | (cases h; done) | (cases hr; done) | skip
  all_goals
    have e := Option.some.inj h
    subst e
  case bl => exact kit_ty (show L2.kitB "bool" "bool" = some true by decide +kernel)
  case int => exact kit_ty (show L2.kitB "int" "bool" = some false by decide +kernel)
theorem subB {K : PySem.W.Frag} {C : Addr} {n : String} {l : List Value} (e : fastBuiltinMro n = some l) (h : l.contains (.ref C) = false) : PySem.W.subIn K (.type n) (.ref C) = some false := by
  show (fastBuiltinMro n).map (·.contains (.ref C)) = some false
  rw [e]
  show some (l.contains (.ref C)) = some false
  rw [h]
theorem nf_ty {K : PySem.W.Frag} {C : Addr} {n : String} {l : List Value} (e : fastBuiltinMro n = some l) (h : l.contains (.ref C) = false) : PySem.W.notFirst K C (.type n) = true := by
  unfold PySem.W.notFirst
  rw [subB e h]
  simp
theorem nf_self {K : PySem.W.Frag} {C : Addr} : PySem.W.notFirst K C (.ref C) = true := by
  unfold PySem.W.notFirst
  simp
theorem nf_of {K : PySem.W.Frag} {d : D} {t : Value} (h : tyV T d = some t) : PySem.W.notFirst K T.C t = true := by
  cases d <;> first | (cases h; done) | skip
  all_goals
    have e := Option.some.inj h
    subst e
  case rat q => exact nf_self
  case non => exact nf_ty (l := [.type "NoneType", .type "object"]) (by decide +kernel) (by simp)
  case bl => exact nf_ty (l := [.type "bool", .type "int", .type "object"]) (by decide +kernel) (by simp)
  case int => exact nf_ty (l := [.type "int", .type "object"]) (by decide +kernel) (by simp)
  case str => exact nf_ty (l := [.type "str", .type "object"]) (by decide +kernel) (by simp)
  case tup => exact nf_ty (l := [.type "tuple", .type "object"]) (by decide +kernel) (by simp)
  case lst => exact nf_ty (l := [.type "list", .type "object"]) (by decide +kernel) (by simp)
  case dct => exact nf_ty (l := [.type "dict", .type "object"]) (by decide +kernel) (by simp)
theorem yt_of {B : Bm} {H : Hp} {d : D} {v : V} {t : Value} (h : tyV T d = some t) (r : rep T (vis B H) d v) : YT H v t := by
  cases d <;> first | (cases h; done) | skip
  all_goals
    have e := Option.some.inj h
    subst e
  case non => cases r; exact .non
  case bl b => cases r; exact .bl b
  case int b => cases r; exact .int b
  case str b => cases r; exact .str b
  case rat q =>
    obtain ⟨a, dx, rfl, h⟩ := r
    exact .ins (vis_some h)
  case tup l =>
    obtain ⟨a, vs, rfl, h, _⟩ := r
    exact .tup (vis_some h)
  case lst l =>
    obtain ⟨a, vs, rfl, h, _⟩ := r
    exact .lst (vis_some h)
  case dct ks ds =>
    obtain ⟨a, kvs, rfl, h, _⟩ := r
    exact .dK (vis_some h)
/-- a def of the top, with what it does -/
structure Df (P : Program) (w : World) (T : Tab) (mg : Str → Option Value) (base : Heap) (name : Str) (k : Nat) (f : Addr) (F : Fw) : Prop where
  g : FnG P w T.K mg base (L2.CX P w) k f (SpW T F)
  m : mg name = some (.ref f)
  kp : PySem.W.keepIn T.K (.ref f) = true
/-- a property -/
structure Dp (P : Program) (w : World) (T : Tab) (mg : Str → Option Value) (base : Heap) (C : Addr) (name : Str) (k : Nat) (F : Fw) : Prop where
  e : ∃ q g fd ps, PropOf T.K C name q g ∧ FnOk P w T.K mg base (L2.CX P w) k g fd ps (SpW T F) ∧ Binds T.K fd ps []
/-- an operator's method -/
structure Dm (P : Program) (w : World) (T : Tab) (mg : Str → Option Value) (base : Heap) (C : Addr) (name : Str) (k : Nat) (f : Addr) (F : Fw) : Prop where
  g : FnG P w T.K mg base (L2.CX P w) k f (SpW T F)
  s : PySem.W.findIn T.K (.ref C) name = some (some (.ref f))
  fn : PySem.W.isFn T.K (.ref f) = true
/-- a maker -/
structure Dk (P : Program) (w : World) (T : Tab) (mg : Str → Option Value) (base : Heap) (C : Addr) (k : Nat) (f : Addr) (F : Fw) : Prop where
  M : Mk T.K C f
  g : FnG P w T.K mg base (L2.CX P w) k f (SpMk T C F (mkR C))
section
variable {Z : Zt} {ρ : Rho} {σ : St} {H : Hp} {P' : D → Nat → Prop} {name : Str} {k j : Nat} {F : Fw} {e a b : Expr} {es : List Expr} {p pos : Pos} {C CZ : Addr}
theorem ev_df (D : Df Z.X.prog Z.X.w Z.T Z.X.mg Z.X.base name k f F) (ok : Zok Z) (hr : RoomG j Z.X.A) (hj : k ≤ j)
    (h : EA Z ρ (e :: es) fun ds c => F ds c P' (fun er c' => Z.R er (ρ.wc c'))) (hg : Gl Z.X name := by rfl)
    (hdb : (name == ("__debug__" : Str)) = false := by decide) (he : starEach (e :: es) Z.X.env = (false, eval e Z.X.env) :: starEach es Z.X.env := by rfl) (hpl : (backTo pos (starEach es Z.X.env)).any (·.1) = false := by rfl) :
    EV Z ρ (.Call (.Name name p) (e :: es) [] pos) P' :=
  ev_call ok (k := k) (F := F) (by unfold Does; rw [ok.K]; exact D.g) (hr.mono hj) hg D.m (by rw [ok.K]; exact D.kp) h hdb he hpl
theorem isIns_rat {q : Rat} {m : Str} (h1 : ¬ m = "_top") (h2 : ¬ m = "_bottom") : isIns T T.C (.rat q) m := fun G v r => by
  obtain ⟨a, dx, e, h⟩ := r
  exact ⟨a, dx, _, e, h, ratF_no q h1 h2⟩
theorem ev_dp (D : Dp Z.X.prog Z.X.w Z.T Z.X.mg Z.X.base Z.T.C name k F) (cl : Cls Z.T.K Z.T.C) (ok : Zok Z) (hr : RoomG j Z.X.A) (hj : k + 1 ≤ j) (h : EV Z ρ e fun d c => ∃ q, d = .rat q ∧ F [d] c P' (fun _ _ => False))
    (h1 : ¬ name = "_top" := by decide +kernel) (h2 : ¬ name = "_bottom" := by decide +kernel) (hab : attributeBase e name Z.X.env (eval e Z.X.env) = eval e Z.X.env := by rfl) : EV Z ρ (.Attribute e name pos) P' := by
  obtain ⟨q, g, fd, ps, hp, G, hb⟩ := D.e
  rw [← ok.K] at hp G hb cl
  exact ev_prop cl hp G (hr.mono hj) hb (h.mono fun d c ⟨q, hd, hf⟩ => by subst hd; exact ⟨rfl, isIns_rat h1 h2, hf⟩) hab
theorem ev_mk (D : Dk Z.X.prog Z.X.w Z.T Z.X.mg Z.X.base Z.T.C k f F) (hm : Z.X.mg name = some (.ref Z.T.C)) (ok : Zok Z) (hr : RoomG j Z.X.A) (hj : k + 1 ≤ j) (h : EA Z ρ (e :: es) fun ds c => F ds c P' (fun er c' => Z.R er (ρ.wc c'))) (hg : Gl Z.X name := by rfl)
    (hdb : (name == ("__debug__" : Str)) = false := by decide) (he : starEach (e :: es) Z.X.env = (false, eval e Z.X.env) :: starEach es Z.X.env := by rfl) (hpl : (backTo pos (starEach es Z.X.env)).any (·.1) = false := by rfl) :
    EV Z ρ (.Call (.Name name p) (e :: es) [] pos) P' :=
  ev_make ok (k := k) (f := f) (mk := mkR Z.T.C) (by rw [ok.K]; exact D.M) (by rw [ok.K]; exact D.g) (hr.mono hj) hg hm (fun y G d ⟨q, dx, hd, h⟩ => by subst hd; exact ⟨y, dx, rfl, h⟩) h hdb he hpl
/-- numbers -/
def numD : D → Option Rat
  | .rat q => some q
  | .int i => some (i : Rat)
  | _ => none
/-- an operator of numbers, a Ratio on the left -/
theorem ev_opR {op : Operator} {fo ro rc : Option Value} (D : Dm Z.X.prog Z.X.w Z.T Z.X.mg Z.X.base Z.T.C (PySem.dunder op.info.2) k f F) (RC : RCls Z.T.K Z.X.mg Z.T.C) (ok : Zok Z) (hr : RoomG j Z.X.A) (hj : k ≤ j)
    (h0 : PySem.W.findIn Z.T.K (.ref Z.T.C) (PySem.dunderR op.info.2) = some none)
    (h1 : PySem.W.findIn Z.T.K (.type "int") (PySem.dunder op.info.2) = some fo) (h2 : PySem.W.findIn Z.T.K (.type "int") (PySem.dunderR op.info.2) = some ro)
    (h : EV Z ρ a fun d1 c1 => EV Z (ρ.wc c1) b fun d2 c2 => ∃ p q, d1 = .rat p ∧ numD d2 = some q ∧ F [d1, d2] c2 P' (fun _ _ => False)) : EV Z ρ (.BinOp a op b pos) P' := by
  have G : FnG Z.X.prog Z.X.w Z.X.K Z.X.mg Z.X.base (L2.CX Z.X.prog Z.X.w) k f (SpW Z.T F) := by rw [ok.K]; exact D.g
  have sub : PySem.W.subIn Z.X.K (.type "int") (.ref Z.T.C) = some false := subB (l := [.type "int", .type "object"]) (by decide +kernel) (by simp)
  rw [← ok.K] at h0 h1 h2
  refine ev_two (OpR.or (op_binC (C := Z.T.C) G (hr.mono hj) (by rw [ok.K]; exact D.s) (by rw [ok.K]; exact D.fn) (by rw [ok.K]; exact RC.sf)) (op_binI (C := Z.T.C) G (hr.mono hj) (by rw [ok.K]; exact D.s) (by rw [ok.K]; exact D.fn) (by rw [ok.K]; exact RC.sf) h0 (.inl rfl) h1 h2 sub)) ?_
  refine h.mono fun d1 c1 h2 => h2.mono fun d2 c2 ⟨p, q, hp, hq, hf⟩ σ H v1 v2 Q S r1 r2 kk => ?_
  subst hp
  have pr : Paired (val Z.T ρ.B (vis ρ.B H)) [.rat p, d2] [v1, v2] := .cons r1 (.cons r2 .nil)
  have sp : SpW Z.T F [v1, v2] H Q E0 := sp_at0 (ρ := ρ.wc c2) S pr hf kk
  obtain ⟨x, dx, rfl, hx⟩ := r1
  cases d2 <;> first | (cases hq; done) | skip
  case int i _ =>
    cases r2
    exact .inr ⟨x, dx, _, i, rfl, rfl, vis_some hx, sp⟩
  case rat q' _ =>
    obtain ⟨y, dy, rfl, hy⟩ := r2
    exact .inl ⟨x, dx, _, y, dy, _, rfl, rfl, vis_some hx, vis_some hy, sp⟩
theorem ev_negR (D : Dm Z.X.prog Z.X.w Z.T Z.X.mg Z.X.base Z.T.C "__neg__" k f F) (ok : Zok Z) (hr : RoomG j Z.X.A) (hj : k ≤ j) (h : EV Z ρ a fun d1 c1 => ∃ p, d1 = .rat p ∧ F [d1] c1 P' (fun _ _ => False)) : EV Z ρ (.UnaryOp .USub a pos) P' := by
  have G : FnG Z.X.prog Z.X.w Z.X.K Z.X.mg Z.X.base (L2.CX Z.X.prog Z.X.w) k f (SpW Z.T F) := by rw [ok.K]; exact D.g
  refine ev_one (pe_un (un_negC (C := Z.T.C) G (hr.mono hj) (by rw [ok.K]; exact D.s) (by rw [ok.K]; exact D.fn)) pe_any) (fun _ _ _ q => q) (h.mono fun d1 c1 ⟨p, hp, hf⟩ σ H v1 Q S r1 kk => ?_)
  subst hp
  have sp : SpW Z.T F [v1] H Q E0 := sp_at0 (ρ := ρ.wc c1) S (.cons r1 .nil) hf kk
  obtain ⟨x, dx, rfl, hx⟩ := r1
  exact ⟨x, dx, _, rfl, vis_some hx, sp⟩
/-- a comparison, a Ratio on the left, the right side of a known type -/
theorem cmpR {op : CmpOp} {P'' : D → Nat → Prop} (D : Dm Z.X.prog Z.X.w Z.T Z.X.mg Z.X.base Z.T.C (cmpInfo op).2.1 k f F) (ok : Zok Z) {d1 d2 : Q.D} {c2 : Nat} {v1 v2 : V} {Q : VK} (S : SR Z (ρ.wc c2) σ H)
    (r1 : val Z.T ρ.B (vis ρ.B H) d1 v1) (r2 : val Z.T ρ.B (vis ρ.B H) d2 v2) (kk : Post Z (ρ.wc c2) σ H P'' Q) (h : ∃ p t, d1 = .rat p ∧ tyV Z.T d2 = some t ∧ F [d1, d2] c2 P'' (fun _ _ => False)) : rCmpC Z.X.K Z.T.C (SpW Z.T F) v1 v2 H Q := by
  obtain ⟨p, t, hp, ht, hf⟩ := h
  subst hp
  have sp : SpW Z.T F [v1, v2] H Q E0 := sp_at0 (ρ := ρ.wc c2) S (.cons r1 (.cons r2 .nil)) hf kk
  obtain ⟨x, dx, rfl, hx⟩ := r1
  exact ⟨x, dx, _, rfl, vis_some hx, ⟨t, yt_of ht (val_rep r2 (tyV_plain ht)), nf_of ht⟩, sp⟩
theorem ev_cmpR {op : CmpOp} (hop : ∀ a b, compareOp op a b = richCompare op a b) (hm : behindInMarks op b = false) (D : Dm Z.X.prog Z.X.w Z.T Z.X.mg Z.X.base Z.T.C (cmpInfo op).2.1 k f F) (ok : Zok Z) (hr : RoomG j Z.X.A) (hj : k ≤ j)
    (h : EV Z ρ a fun d1 c1 => EV Z (ρ.wc c1) b fun d2 c2 => ∃ p t, d1 = .rat p ∧ tyV Z.T d2 = some t ∧ F [d1, d2] c2 P' (fun _ _ => False)) : EV Z ρ (.Compare a [op] [b] pos) P' := by
  have G : FnG Z.X.prog Z.X.w Z.X.K Z.X.mg Z.X.base (L2.CX Z.X.prog Z.X.w) k f (SpW Z.T F) := by rw [ok.K]; exact D.g
  exact ev_cmp2 (op_cmpC (C := Z.T.C) hop G (hr.mono hj) (by rw [ok.K]; exact D.s) (by rw [ok.K]; exact D.fn)) hm (h.mono fun d1 c1 h2 => h2.mono fun d2 c2 hh σ H v1 v2 Q S r1 r2 kk => cmpR D ok S r1 r2 kk hh)
theorem et_cmpR {op : CmpOp} {P' : Bool → Nat → Prop} (hop : ∀ a b, compareOp op a b = richCompare op a b) (hm : behindInMarks op b = false) (D : Dm Z.X.prog Z.X.w Z.T Z.X.mg Z.X.base Z.T.C (cmpInfo op).2.1 k f F) (ok : Zok Z) (hr : RoomG j Z.X.A) (hj : k ≤ j)
    (h : EV Z ρ a fun d1 c1 => EV Z (ρ.wc c1) b fun d2 c2 => ∃ p t, d1 = .rat p ∧ tyV Z.T d2 = some t ∧ F [d1, d2] c2 (fun d c => ∃ k, d = .bl k ∧ P' k c) (fun _ _ => False)) : ET Z ρ (.Compare a [op] [b] pos) P' := by
  have G : FnG Z.X.prog Z.X.w Z.X.K Z.X.mg Z.X.base (L2.CX Z.X.prog Z.X.w) k f (SpW Z.T F) := by rw [ok.K]; exact D.g
  exact et_cmp2 (op_cmpC (C := Z.T.C) hop G (hr.mono hj) (by rw [ok.K]; exact D.s) (by rw [ok.K]; exact D.fn)) hm (h.mono fun d1 c1 h2 => h2.mono fun d2 c2 hh σ H v1 v2 Q S r1 r2 kk => cmpR D ok S r1 r2 kk hh)
/-- != by the own == -/
theorem neR {P'' : D → Nat → Prop} {d1 d2 : D} {c2 : Nat} {v1 v2 : V} {Q : VK} (ok : Zok Z) (S : SR Z (ρ.wc c2) σ H)
    (r1 : val Z.T ρ.B (vis ρ.B H) d1 v1) (r2 : val Z.T ρ.B (vis ρ.B H) d2 v2) (kk : Post Z (ρ.wc c2) σ H P'' Q) (h : ∃ p t, d1 = .rat p ∧ tyV Z.T d2 = some t ∧ F [d1, d2] c2 (fun d c => ∃ k, d = .bl k ∧ P'' (.bl (!k)) c) (fun _ _ => False)) : rNeC Z.X.K Z.T.C (SpW Z.T F) v1 v2 H Q := by
  obtain ⟨p, t, hp, ht, hf⟩ := h
  subst hp
  have sp : SpW Z.T F [v1, v2] H (fun v H' => ∃ k, v = .bl k ∧ Q (.bl (!k)) H') E0 := sp_at0 (ρ := ρ.wc c2) S (.cons r1 (.cons r2 .nil)) hf (fun v H' d c' S' e' r' ⟨b, hb, hp⟩ => by
    subst hb
    exact ⟨b, r', kk (.bl (!b)) H' (.bl (!b)) c' S' e' rfl hp⟩)
  obtain ⟨x, dx, rfl, hx⟩ := r1
  exact ⟨x, dx, _, rfl, vis_some hx, ⟨t, yt_of ht (val_rep r2 (tyV_plain ht)), nf_of ht⟩, sp⟩
theorem ev_neR (D : Dm Z.X.prog Z.X.w Z.T Z.X.mg Z.X.base Z.T.C "__eq__" k f F) (RC : RCls Z.T.K Z.X.mg Z.T.C) (hne : PySem.W.findIn Z.T.K (.ref Z.T.C) "__ne__" = some (some (.builtin "object.__ne__"))) (ok : Zok Z) (hr : RoomG j Z.X.A) (hj : k + 1 ≤ j)
    (h : EV Z ρ a fun d1 c1 => EV Z (ρ.wc c1) b fun d2 c2 => ∃ p t, d1 = .rat p ∧ tyV Z.T d2 = some t ∧ F [d1, d2] c2 (fun d c => ∃ k, d = .bl k ∧ P' (.bl (!k)) c) (fun _ _ => False)) : EV Z ρ (.Compare a [.NotEq] [b] pos) P' := by
  have G : FnG Z.X.prog Z.X.w Z.X.K Z.X.mg Z.X.base (L2.CX Z.X.prog Z.X.w) k f (SpW Z.T F) := by rw [ok.K]; exact D.g
  exact ev_cmp2 (op_neC (C := Z.T.C) G (hr.mono hj) (by rw [ok.K]; exact RC.I.hm) (by rw [ok.K]; exact hne) (by rw [ok.K]; exact D.s) (by rw [ok.K]; exact D.fn)) (nomark _) (h.mono fun d1 c1 h2 => h2.mono fun d2 c2 hh σ H v1 v2 Q S r1 r2 kk => neR ok S r1 r2 kk hh)
theorem et_neR {P' : Bool → Nat → Prop} (D : Dm Z.X.prog Z.X.w Z.T Z.X.mg Z.X.base Z.T.C "__eq__" k f F) (RC : RCls Z.T.K Z.X.mg Z.T.C) (hne : PySem.W.findIn Z.T.K (.ref Z.T.C) "__ne__" = some (some (.builtin "object.__ne__"))) (ok : Zok Z) (hr : RoomG j Z.X.A) (hj : k + 1 ≤ j)
    (h : EV Z ρ a fun d1 c1 => EV Z (ρ.wc c1) b fun d2 c2 => ∃ p t, d1 = .rat p ∧ tyV Z.T d2 = some t ∧ F [d1, d2] c2 (fun d c => ∃ k, d = .bl k ∧ ∃ k1, Q.D.bl (!k) = .bl k1 ∧ P' k1 c) (fun _ _ => False)) : ET Z ρ (.Compare a [.NotEq] [b] pos) P' := by
  have G : FnG Z.X.prog Z.X.w Z.X.K Z.X.mg Z.X.base (L2.CX Z.X.prog Z.X.w) k f (SpW Z.T F) := by rw [ok.K]; exact D.g
  refine et_cmp2 (op_neC (C := Z.T.C) G (hr.mono hj) (by rw [ok.K]; exact RC.I.hm) (by rw [ok.K]; exact hne) (by rw [ok.K]; exact D.s) (by rw [ok.K]; exact D.fn)) (nomark _) (h.mono fun d1 c1 h2 => h2.mono fun d2 c2 hh σ H v1 v2 Q S r1 r2 kk => neR ok S r1 r2 kk ?_)
  obtain ⟨p, t, h1, h2, h3⟩ := hh
  exact ⟨p, t, h1, h2, h3⟩
end
end Q
end

section
set_option Elab.async false
set_option linter.all false
set_option maxRecDepth 100000
set_option maxHeartbeats 3900000
/-! W13: try, except. -/
namespace Q
open PySem L2
variable {Z : Zt} {ρ : Rho} {σ : St} {H H' : Hp} {O : Out} {P : D → Nat → Prop} {e a b : Expr} {pos p np apos pos' : Pos} {X : Cx} {k : Nat} {x n m : Str} {es : List Expr} {body suite : List Stmt} {b₀ : Stmt} {c : Value} {i : Nat}

/-- in which context the body of a try runs -/
abbrev Zt.tr (Z : Zt) (pn : List (Addr × Obj)) (xe : Value → Shared → Prop) (R : Er → Rho → Prop) : Zt := { Z with X := Z.X.tr pn xe, R := R }
/-- .. of an except suite -/
abbrev Zt.su (Z : Zt) (a : Addr) (oe : Obj) (pn : List (Addr × Obj)) : Zt := { Z with X := Z.X.suite a ((a, oe) :: pn), R := fun _ _ => False }
theorem SR.tr {pn xe R} (S : SR Z ρ σ H) : SR (Z.tr pn xe R) ρ σ H := ⟨S.ok, S.le, S.ex, S.sl, S.gh⟩
theorem SR.ofTr {pn xe R} (S : SR (Z.tr pn xe R) ρ σ H) : SR Z ρ σ H := ⟨S.ok, S.le, S.ex, S.sl, S.gh⟩
theorem SR.su {a oe pn} (S : SR Z ρ σ H) : SR (Z.su a oe pn) ρ σ H := ⟨S.ok, S.le, S.ex, S.sl, S.gh⟩
theorem SR.ofSu {a oe pn} (S : SR (Z.su a oe pn) ρ σ H) : SR Z ρ σ H := ⟨S.ok, S.le, S.ex, S.sl, S.gh⟩
theorem OK.tr {pn xe R} {D : Ends} (q : OK Z O D) : OK (Z.tr pn xe R) O D := ⟨fun σ H r S => q.nx σ H r S.ofTr, fun σ H r S => q.bk σ H r S.ofTr, fun σ H r S => q.ct σ H r S.ofTr, fun σ H r v d S => q.rt σ H r v d S.ofTr⟩
theorem OK.su {a oe pn} {D : Ends} (q : OK Z O D) : OK (Z.su a oe pn) O D := ⟨fun σ H r S => q.nx σ H r S.ofSu, fun σ H r S => q.bk σ H r S.ofSu, fun σ H r S => q.ct σ H r S.ofSu, fun σ H r v d S => q.rt σ H r v d S.ofSu⟩
theorem Zok.su (ok : Zok Z) (a : Addr) (oe : Obj) (pn : List (Addr × Obj)) : Zok (Z.su a oe pn) :=
  ⟨fun u s' ⟨_, _, _, _, _, _, _, _, _, _, _, _, _, _, _, _, _, _, _, _, w⟩ => w.elim, PassesOwn.never, ok.K, ok.nd⟩

/-- what is wished of an exception that leaves the body: except c: -/
def exOnly (Z : Zt) (c : Value) (suite : List Stmt) (O : Out) : Er → Rho → Prop := fun er ρ => ∃ b, PySem.W.exmOne Z.X.K (.ref er.1) c = some b ∧
  (b = true → ∀ a oe pn, Zok (Z.su a oe pn) → SS (Z.su a oe pn) ρ suite O) ∧ (b = false → Z.R er ρ)
theorem st_try (ok : Zok Z) (hc : Names Z.X x c) (h : ∀ pn xe, Zok (Z.tr pn xe (exOnly Z c (b₀ :: suite) O)) → SS (Z.tr pn xe (exOnly Z c (b₀ :: suite) O)) ρ body O)
    (hs : Z.X.stack = Z.X.env :: Z.X.outer := by rfl) (hf : Z.X.env.frame = some Z.X.env.locals := by rfl) : ST Z ρ (.Try body [.ExceptHandler (some (.Name x np)) none (b₀ :: suite) pos'] [] [] pos) O := by
  refine st_of (ps_try_only (tb := fun W D σ H => SR Z ρ σ H ∧ OK Z O D ∧ ∀ cls d σ' H', (∃ ρ er, SR Z ρ σ' H' ∧ erRel Z.T (vis ρ.B H') er cls d ∧ exOnly Z c (b₀ :: suite) O er ρ) → W cls d σ' H')
    (ts := fun a cls d D σ H => ∀ oe pn, tssAny (Z.X.suite a ((a, oe) :: pn)) (b₀ :: suite) D σ H) hs hf hc ok.tk (fun W pn xe tk po => ⟨fun pins s σ H D I ⟨S, q, hW⟩ => ?_⟩) (fun a oe cls d pn hz hf => ⟨fun pins s σ H D I h => pss_any.run pins s σ H D I (h oe pn)⟩)) fun D σ H S q => ⟨S, q, fun cls d σ' H' ⟨ρ', er, S', hr, hb⟩ => ?_⟩
  · have ok1 : Zok (Z.tr pn xe (exOnly Z c (b₀ :: suite) O)) := ⟨tk.imp fun cls d σ' H' ⟨ρ', er, S', hr, hb⟩ => hW cls d σ' H' ⟨ρ', er, S'.ofTr, hr, hb⟩, po, ok.K, ok.nd⟩
    exact (h pn xe ok1).run pins s σ H D I ⟨S.tr, q.tr⟩
  · obtain ⟨b, h1, h2, h3⟩ := hb
    obtain ⟨hcl, hd⟩ := hr
    subst hcl
    refine ⟨b, h1, fun e a ha oe pn => ⟨_, h2 e a oe pn (ok.su a oe pn), S'.su, q.su⟩, fun e => ⟨ρ', er, S', ⟨rfl, hd⟩, h3 e⟩⟩

/-- the datum of a caught exception -/
def caught (a : Addr) (p : Addr) : Option (Str × D) → D
  | none => .cls a
  | some (f, d) => .err a p f d
/-- except c as n: -/
def exAs (Z : Zt) (c : Value) (i : Nat) (suite : List Stmt) (O : Out) : Er → Rho → Prop := fun er ρ => ∃ b, PySem.W.exmOne Z.X.K (.ref er.1) c = some b ∧
  (b = true → ∀ a oe pn p, Zok (Z.su a oe pn) → L2.Zc (.ref er.1) (er.2.map fun _ => p) oe → (∃ vs, oe.data = .fields vs) → SS (Z.su a oe pn) (ρ.set i (caught a p er.2)) suite ⟨fun r => O.nx (r.unset i), fun r => O.bk (r.unset i), fun r => O.ct (r.unset i)⟩) ∧ (b = false → Z.R er ρ)
theorem st_tryAs (i : Nat) (ok : Zok Z) (hc : Names Z.X x c) (h : ∀ pn xe, Zok (Z.tr pn xe (exAs Z c i (b₀ :: suite) O)) → SS (Z.tr pn xe (exAs Z c i (b₀ :: suite) O)) ρ body O) (hi : Z.X.N[i]? = some n := by rfl) (hln : Z.X.env.kindOf n = some .local := by rfl)
    (hs : Z.X.stack = Z.X.env :: Z.X.outer := by rfl) (hf : Z.X.env.frame = some Z.X.env.locals := by rfl) : ST Z ρ (.Try body [.ExceptHandler (some (.Name x np)) (some n) (b₀ :: suite) pos'] [] [] pos) O := by
  refine st_of (ps_try_as (tb := fun W D σ H => SR Z ρ σ H ∧ OK Z O D ∧ ∀ cls d σ' H', (∃ ρ er, SR Z ρ σ' H' ∧ erRel Z.T (vis ρ.B H') er cls d ∧ exAs Z c i (b₀ :: suite) O er ρ) → W cls d σ' H')
    (ts := fun a cls d D σ H => ∀ oe pn, L2.Zc cls d oe → (∃ vs, oe.data = .fields vs) → tssAny (Z.X.suite a ((a, oe) :: pn)) (b₀ :: suite) D σ H) hs hf ok.nd hi hln hc ok.tk (fun W pn xe tk po => ⟨fun pins s σ H D I ⟨S, q, hW⟩ => ?_⟩) (fun a oe cls d pn hz hf => ⟨fun pins s σ H D I h => pss_any.run pins s σ H D I (h oe pn hz hf)⟩)) fun D σ H S q => ⟨S, q, fun cls d σ' H' ⟨ρ', er, S', hr, hb⟩ => ?_⟩
  · have ok1 : Zok (Z.tr pn xe (exAs Z c i (b₀ :: suite) O)) := ⟨tk.imp fun cls d σ' H' ⟨ρ', er, S', hr, hb⟩ => hW cls d σ' H' ⟨ρ', er, S'.ofTr, hr, hb⟩, po, ok.K, ok.nd⟩
    exact (h pn xe ok1).run pins s σ H D I ⟨S.tr, q.tr⟩
  · obtain ⟨b, h1, h2, h3⟩ := hb
    refine ⟨b, ?_, fun e a ha oe pn hz hf => ?_, fun e => ⟨ρ', er, S', hr, h3 e⟩⟩
    · rw [hr.1]
      exact h1
    · have q' : OK (Z.su a oe pn) ⟨fun r => O.nx (r.unset i), fun r => O.bk (r.unset i), fun r => O.ct (r.unset i)⟩ { nx := fun σ' H' => D.nx (σ'.set i none) H', rt := D.rt, bk := fun σ' H' => D.bk (σ'.set i none) H', ct := fun σ' H' => D.ct (σ'.set i none) H' } :=
        ⟨fun σ H r S x => q.nx _ H _ (S.ofSu.unset i) x, fun σ H r S x => q.bk _ H _ (S.ofSu.unset i) x, fun σ H r S x => q.ct _ H _ (S.ofSu.unset i) x, fun σ H r v d S => q.rt σ H r v d S.ofSu⟩
      obtain ⟨C, o⟩ := er
      obtain ⟨hcl, hd⟩ := hr
      have hcl' : cls = .ref C := hcl
      subst hcl'
      cases o with
      | none =>
        have hd' : d = none := hd
        subst hd'
        exact ⟨_, h2 e a oe pn a (ok.su a oe pn) hz hf, (S'.set i (d := .cls a) (v := .ref a) rfl).su, q'⟩
      | some fd =>
        obtain ⟨p, v, rfl, h5, h6⟩ := hd
        exact ⟨_, h2 e a oe pn p (ok.su a oe pn) hz hf, (S'.set i (d := .err a p fd.1 fd.2) (v := .ref a) ⟨rfl, v, h5, h6⟩).su, q'⟩
/-- e.f, e the caught exception -/
theorem ev_xf {a0 C p0 : Addr} {oe : Obj} {pn : List (Addr × Obj)} {f : Str} (T : XfC Z.X.K C) (hno : PySem.W.findIn Z.X.K (.ref C) f = some none) (hz : L2.Zc (.ref C) (some p0) oe) (hf : ∃ vs, oe.data = .fields vs)
    (h : EV (Z.su a0 oe pn) ρ e fun d c => ∃ d', d = .err a0 p0 f d' ∧ P d' c) (hb : attributeBase e f Z.X.env (eval e Z.X.env) = eval e Z.X.env := by rfl) : EV (Z.su a0 oe pn) ρ (.Attribute e f pos) P :=
  ev_of (pe_xf T hno hz hf pe_any hb) fun σ H Q S k => ev_any h S fun v H1 d c1 S1 e1 r ⟨d', hd, hp⟩ => by
    subst hd
    obtain ⟨hv, w, h1, h2⟩ := r
    refine ⟨hv, rfl, p0, _, w, rfl, vis_some h1, ?_, (k.from (c := c1) e1).here S1 hp (.of h2)⟩
    simp
end Q
end

section
set_option Elab.async false
set_option linter.all false
set_option maxRecDepth 100000
set_option maxHeartbeats 3900000
/-! W14: repr, {}, xs + ys. -/
namespace Q
open PySem L2
variable {Z : Zt} {ρ : Rho} {σ : St} {H H' : Hp} {O : Out} {P : D → Nat → Prop} {e a b : Expr} {pos p apos : Pos} {X : Cx} {k : Nat} {x n m : Str} {es : List Expr}

/-- room where repr may run -/
structure ReprAt (A : Around) : Prop where
  g : A.guards = some []
  u : A.units + 62 < cLine
theorem RoomG.repr {A : Around} (h : RoomG k A) : ReprAt A := ⟨h.g, by have := h.r.units; omega⟩
def rRepr (K : PySem.W.Frag) : List V → Hp → VK → Prop := fun xs H Q => ∃ v, xs = [v] ∧
  ((∃ p, L2.Dp K H v p ∧ p.showable = true ∧ p.hasDict = false ∧ p.depth < 40 ∧ p.shown.length ≤ sizeLine ∧ Q (.str p.shown) H) ∨ ∃ a, v = .ref a ∧ H a = some (.dK []) ∧ Q (.str "{}") H)
theorem call_reprD (h : ReprAt X.A) : CallR X (.builtin "repr") (rRepr X.K) := by
  intro pins s σ H xs us Q I r hq
  obtain ⟨v, rfl, hq⟩ := hq
  obtain ⟨u, rfl, ru⟩ := vals1 r; rcases hq with ⟨p, hd, hs, hn, hdp, hz, q⟩ | ⟨a, rfl, ha, q⟩
  · have fin : ∀ h' t tk, (∀ b o, s.heap.get? b = some o → h'.get? b = some o) → EP X pins σ Q (.str p.shown t) { s with heap := h', toks := tk } := fun h' t tk hk => ⟨.str p.shown, H, I.kept hk, ⟨t, rfl⟩, q⟩
    obtain ⟨as, rd⟩ := L2.Dp.reads I p v u hd ru
    have heap : ∀ a, u = .ref a → wpAny (model X.prog X.w) X.A (call (.builtin "repr") [u]) (EP X pins σ Q) X.xe s := fun a e => by
      subst e
      exact repr_of_reads' rd hs (fun z => by rw [hn] at z; cases z) h.g (by have := h.u; omega) (fun _ _ z => z) (fun h' t tk hk => fin h' t tk hk) hz
    cases rd with
    | none => exact PySem.P.repr_of_none (fin s.heap _ _ fun _ _ z => z)
    | bool b => exact PySem.P.repr_of_bool (by
        have := fin s.heap s.toks (s.toks + 1) fun _ _ z => z
        cases b <;> exact this)
    | int i t =>
      have hs' : decide (i.natAbs.log2 < 1920) = true := hs
      exact PySem.P.repr_of_int (of_decide_eq_true hs') (fin s.heap _ _ fun _ _ z => z)
    | str x t => exact PySem.P.repr_of_str (fin s.heap _ _ fun _ _ z => z) hz
    | list => exact heap _ rfl
    | tuple => exact heap _ rfl
    | dict => exact heap _ rfl
  · obtain rfl : u = Value.ref a := ru
    obtain ⟨hz, hsm, vs, kv, hd⟩ := I.hok a _ ha
    cases kv
    obtain ⟨o, es, ep, ho, hx, hda, _, hr, _⟩ := hd
    have hes : es.toList = [] := by
      generalize es.toList = l at hr
      cases l with
      | nil => rfl
      | cons _ _ => cases hr
    refine repr_of_reads' (d := .dict []) (as := [a]) (.dict (kvs := []) (as := []) (bs := []) ho hx.1 hda (by rw [hes]; exact .nil) (by rw [hes]; exact .nil)) rfl (fun _ z => by
      cases z with
      | head => simp at hsm
      | tail _ z => cases z) h.g (by have := h.u; show X.A.units + (PyData.depth (.dict []) + 1) < cLine; simp [PyData.depth, PyData.depthKv]; omega) (fun _ _ z => z) (fun h' t tk hk => ⟨.str "{}", H, I.kept hk, ⟨t, rfl⟩, q⟩) (by decide)
theorem ev_repr (h0 : ReprAt Z.X.A) (hK : Z.X.K = Z.T.K) (hg : Gl Z.X "repr") (hm : Z.X.mg "repr" = none)
    (h : EA Z ρ [a] fun ds c => ∃ d, ds = [d] ∧ ((∃ p, toP d = some p ∧ p.showable = true ∧ p.hasDict = false ∧ p.depth < 40 ∧ p.shown.length ≤ sizeLine ∧ P (.str p.shown) c) ∨ (d = .dct [] [] ∧ P (.str "{}") c)))
    (he : starEach [a] Z.X.env = (false, eval a Z.X.env) :: starEach [] Z.X.env := by rfl) : EV Z ρ (.Call (.Name "repr" p) [a] [] pos) P :=
  ev_blt (call_reprD h0) hg hm (by decide +kernel) (h.mono fun ds c ⟨d, hds, h⟩ σ H vs Q S r k => by
    subst hds
    obtain ⟨v, rfl, hv⟩ := pr1 r
    refine ⟨v, rfl, ?_⟩
    rw [hK]
    rcases h with ⟨p, hp, h1, h2, h3, h4, h5⟩ | ⟨rfl, h5⟩
    · exact .inl ⟨p, toP_ok hp (val_rep hv (toP_plain hp)), h1, h2, h3, h4, k.here S h5 rfl⟩
    · obtain ⟨a, kvs, rfl, h6, h7, h8⟩ := hv
      cases kvs with
      | nil => exact .inr ⟨a, rfl, vis_some h6, k.here S h5 rfl⟩
      | cons _ _ => cases h7) (he := he)
/-- xs + ys -/
theorem ev_cat (h : EV Z ρ a fun d1 c1 => EV Z (ρ.wc c1) b fun d2 c2 => ∃ l1 l2, d1 = .lst l1 ∧ d2 = .lst l2 ∧ l1.length + l2.length ≤ 100000 ∧ P (.lst (l1 ++ l2)) c2) : EV Z ρ (.BinOp a .Add b pos) P :=
  ev_two op_cat (h.mono fun d1 c1 h2 => h2.mono fun d2 c2 ⟨l1, l2, e1, e2, hl, hp⟩ σ H v1 v2 Q S r1 r2 k => by
    subst e1 e2
    obtain ⟨q1, vs1, rfl, h1, g1⟩ := r1
    obtain ⟨q2, vs2, rfl, h2, g2⟩ := r2
    refine ⟨q1, q2, vs1, vs2, rfl, rfl, vis_some h1, vis_some h2, ?_, fun d hd => ?_⟩
    · rw [g1.len, g2.len]
      exact sizeS hl
    · have S' := S.same (same_new (o := .lst (vs1 ++ vs2)) hd)
      have e := Same.vis_ (B := ρ.B) (same_new (o := .lst (vs1 ++ vs2)) hd)
      exact k _ _ _ _ S' e (.of (d := .lst (l1 ++ l2)) ⟨d, _, rfl, new_at S hd, (g1.append g2).mono e⟩) hp)
/-- {} -/
theorem ev_dct0 (h : P (.dct [] []) ρ.c) : EV Z ρ (.Dict [] [] pos) P := ev_of pe_dnewK fun σ H Q S k => by
  intro d hd
  have S' := S.same (same_new (o := .dK []) hd)
  exact k _ _ _ _ S' (Same.vis_ (same_new hd)) (.of (d := .dct [] []) ⟨d, [], rfl, new_at S hd, rfl, rfl⟩) h
end Q
end

section
set_option Elab.async false
set_option linter.all false
set_option maxRecDepth 100000
set_option maxHeartbeats 3900000
/-! W15: calls by keywords (no values by place, but the object). -/
namespace Q
open PySem L2
variable {Z : Zt} {ρ : Rho} {σ : St} {H H' : Hp} {O : Out} {P : D → Nat → Prop} {P' : D → Nat → Prop} {e a b : Expr} {pos p apos kpos : Pos} {X : Cx} {k j : Nat} {f C : Addr} {F : Fw} {x n m name : Str} {es : List Expr} {kws : List Keyword} {ks : List Str}
  {prog : Program} {w : World} {K : PySem.W.Frag} {mg : Str → Option Value} {base : Heap} {CX : CXT} {fd : FuncData} {ps : List Str} {sp : Sp}

/-- the parameters' order: the values by place, then those by keyword (r: from the last one) -/
def kg (r : Bool) {α : Type} (us ws : List α) : List α := us ++ if r then ws.reverse else ws
theorem vals_rev : ∀ {vs : List V} {us : List Value}, Vals vs us → Vals vs.reverse us.reverse
  | _, _, .nil => .nil
  | _, _, .cons r t => by
    rw [List.reverse_cons, List.reverse_cons]; exact (vals_rev t).append (.cons r .nil)
theorem kg_vals {r : Bool} {vs zs : List V} {us ws : List Value} (h : Vals vs us) (h' : Vals zs ws) : Vals (kg r vs zs) (kg r us ws) := by
  unfold kg
  cases r with
  | true => exact h.append (vals_rev h')
  | false => exact h.append h'
theorem pr_append {T : Tab} {B : Bm} {G : Hp} : ∀ {ds ds' : List D} {vs vs' : List V}, Paired (val T B G) ds vs → Paired (val T B G) ds' vs' → Paired (val T B G) (ds ++ ds') (vs ++ vs')
  | _, _, _, _, .nil, h => h
  | _, _, _, _, .cons r t, h => .cons r (pr_append t h)
theorem pr_rev {T : Tab} {B : Bm} {G : Hp} : ∀ {ds : List D} {vs : List V}, Paired (val T B G) ds vs → Paired (val T B G) ds.reverse vs.reverse
  | _, _, .nil => .nil
  | _, _, .cons r t => by
    rw [List.reverse_cons, List.reverse_cons]; exact pr_append (pr_rev t) (.cons r .nil)
theorem kg_pr {T : Tab} {B : Bm} {G : Hp} {r : Bool} {ds zs : List D} {vs ws : List V} (h : Paired (val T B G) ds vs) (h' : Paired (val T B G) zs ws) : Paired (val T B G) (kg r ds zs) (kg r vs ws) := by
  unfold kg
  cases r with
  | true => exact pr_append h (pr_rev h')
  | false => exact pr_append h h'
/-- how a def binds n values and the keywords ks -/
def Bk (K : PySem.W.Frag) (fd : FuncData) (ps : List Str) (n : Nat) (ks : List Str) (r : Bool) : Prop :=
  ∀ (s : Shared) (us ws : List Value), K.In s.heap → us.length = n → ws.length = ks.length → BindsTo s fd ⟨us, ks.zip ws⟩ (ps.zip (kg r us ws))
/-- a def called by keywords -/
def FnK (P : Program) (w : World) (K : PySem.W.Frag) (mg : Str → Option Value) (base : Heap) (CX : CXT) (k : Nat) (f : Addr) (n : Nat) (ks : List Str) (r : Bool) (sp : Sp) : Prop :=
  ∀ (A : Around) (outer : List Env) (s : Shared) (H : Hp) (us ws : List Value) (vs zs : List V) (Q : VK) (E : XK), RoomG k A → Env0 P w K mg base A outer s H → Vals vs us → Vals zs ws → vs.length = n → zs.length = ks.length → sp (kg r vs zs) H Q E →
    codeAny (model P w) A (.call (.ref f) ⟨us, ks.zip ws⟩) (CR CX outer P w H s Q E) s
theorem FnGk.keys {n : Nat} {r : Bool} (F : FnGk prog w K mg base CX k f fd ps sp) (hb : Bk K fd ps n ks r) : FnK prog w K mg base CX k f n ks r sp := by
  intro A outer s H us ws vs zs Q E room e0 rv rz l1 l2 q
  exact F.run A outer s H _ (kg r us ws) (kg r vs zs) Q E room e0 (hb s us ws (e0.mod.kin.keeps fun b o e => (e0.bs b o e).1) (by rw [← rv.length]; exact l1) (by rw [← rz.length]; exact l2)) (kg_vals rv rz) q
theorem runK {pins : List (Addr × Obj)} {s : Shared} {W : WX} {Q : VK} {us ws : List Value} {vs zs : List V} {n : Nat} {r : Bool} (G : FnK X.prog X.w X.K X.mg X.base (L2.CX X.prog X.w) k f n ks r sp) (hr : RoomG k X.A) (tk : Takes X W)
    (I : Inv X pins σ H s) (rv : Vals vs us) (rz : Vals zs ws) (l1 : vs.length = n) (l2 : zs.length = ks.length) (h : sp (kg r vs zs) H Q (fun c d H' => W c d σ H')) : wpAny (model X.prog X.w) X.A (call (.ref f) us (ks.zip ws)) (EP X pins σ Q) X.xe s := by
  refine wpAny_call (codeAny_mono (G X.A X.stack s H us ws vs zs Q _ hr I.env0 rv rz l1 l2 h) ?_)
  intro r s' hq
  match r, hq with
  | .error er, hq => exact tk er s' (XE.of_call I (fun _ _ _ z => z) hq)
  | .ok (.ret u), hq => exact I.after hq
theorem runMkK {pins : List (Addr × Obj)} {s : Shared} {W : WX} {Q : VK} {us ws : List Value} {vs zs : List V} {n : Nat} {r : Bool} (M : Mk X.K C f) (G : FnK X.prog X.w X.K X.mg X.base (L2.CX X.prog X.w) k f (n + 1) ks r sp) (hr : RoomG (k + 1) X.A) (tk : Takes X W)
    (I : Inv X pins σ H s) (rv : Vals vs us) (rz : Vals zs ws) (l1 : vs.length = n) (l2 : zs.length = ks.length)
    (h : ∀ x dx, H x = none → H dx = none → dx ≠ x → sp (kg r (.ref x :: vs) zs) (upd (upd H dx (.own x)) x (.ins C dx [])) (fun v H2 => v = .non ∧ Q (.ref x) H2) (fun c d H' => W c d σ H')) : wpAny (model X.prog X.w) X.A (call (.ref C) us (ks.zip ws)) (EP X pins σ Q) X.xe s := by
  have I2 := Inv.made (C := C) I; have hq := h (s.heap.objs.size + 1) s.heap.objs.size (I.hok.fresh (Nat.le_succ _)) (I.hok.fresh (Nat.le_refl _)) (Nat.ne_of_lt (Nat.lt_succ_self _))
  have g := G _ X.stack _ _ (Value.ref (s.heap.objs.size + 1) :: us) ws (V.ref (s.heap.objs.size + 1) :: vs) zs _ _ (hr.make C us (ks.zip ws)) (I2.env0.make C us (ks.zip ws)) (.cons rfl rv) rz (congrArg Nat.succ l1) l2 hq
  refine wpAny_call (make_map (f := f) I.kIn M.makes M.init (beq_iff_eq.mp M.fn) (codeAny_mono g ?_))
  intro r s' hq'
  match r, hq' with
  | .error er, hq' => exact tk er s' (XE.of_call I2 (fun _ _ _ z => z) hq')
  | .ok (.ret u), hq' =>
    obtain ⟨v, H3, I3, rv, ev, q3⟩ := I2.after hq'
    subst ev
    exact ⟨rv, V.ref (s.heap.objs.size + 1), H3, I3, rfl, q3⟩

/-! ### the keywords' values -/
def EK (Z : Zt) (ρ : Rho) (kws : List Keyword) (P : List D → Nat → Prop) : Prop := PK Z.X kws (Z.tA ρ P)
def tkAny (X : Cx) (kws : List Keyword) : TA := fun σ H Q => ∃ t : TA, PK X kws t ∧ t σ H Q
theorem pk_any : PK X kws (tkAny X kws) := ⟨fun pos pins s σ H Q I h => let ⟨t, p, q⟩ := h; p.run pos pins s σ H Q I q⟩
theorem pk_imp {t t' : TA} (p : PK X kws t) (h : ∀ σ H Q, t' σ H Q → t σ H Q) : PK X kws t' := ⟨fun pos pins s σ H Q I q => p.run pos pins s σ H Q I (h σ H Q q)⟩
theorem ek_nil {P : List D → Nat → Prop} (h : P [] ρ.c) : EK Z ρ [] P := pk_imp pk_nil fun σ H Q q => q.2 [] H [] ρ.c q.1 (fun _ _ z => z) .nil h
theorem ek_cons {P : List D → Nat → Prop} {nm : Option Str} (h : EV Z ρ e fun d c => EK Z (ρ.wc c) kws fun ds c' => P (d :: ds) c') : EK Z ρ (⟨nm, e, kpos⟩ :: kws) P :=
  pk_imp (pk_cons pe_any pk_any) fun σ H Q q => ev_any h q.1 fun v H1 d c S1 e1 r h2 => ⟨_, h2, S1, fun vs H' ds c' S' e' r' p => q.2 (v :: vs) H' (d :: ds) c' S' (fun _ _ z => e' _ _ (e1 _ _ z)) (.cons (r.mono e') r') p⟩
theorem ek_any {P : List D → Nat → Prop} {Q : List V → Hp → Prop} (h : EK Z ρ kws P) (S : SR Z ρ σ H) (k : PostA Z ρ σ H P Q) : tkAny Z.X kws σ H Q := ⟨_, h, S, k⟩

/-! ### f(k = v, ..) -/
def tKeys (X : Cx) (kws : List Keyword) (ks : List Str) (r : Bool) (sp : Sp) (W : WX) : TE := fun σ H Q => tkAny X kws σ H fun zs H2 => zs.length = ks.length ∧ sp (kg r [] zs) H2 Q (fun c d H' => W c d σ H')
theorem pe_keys {W : WX} {r : Bool} (G : FnK X.prog X.w X.K X.mg X.base (L2.CX X.prog X.w) k f 0 ks r sp) (hr : RoomG k X.A) (tk : Takes X W) (hg : Gl X x) (hm : X.mg x = some (.ref f)) (hk : PySem.W.keepIn X.K (.ref f) = true)
    (hall : (backToKw pos (keywordEach kws X.env)).all (·.1.isSome) = true := by rfl)
    (hks : (backToKw pos (keywordEach kws X.env)).filterMap (·.1) = ks := by rfl) (hdb : (x == ("__debug__" : Str)) = false := by decide)
    (hpl : ((backTo pos (starEach [] X.env)).any (·.1) || (backToKw pos (keywordEach kws X.env)).any (·.1.isNone)) = false := by rfl) : PE X (.Call (.Name x p) [] kws pos) (tKeys X kws ks r sp W) := ⟨fun pins s σ H Q I h => by
  refine wpAny_Call_Name_kw (ld_glob I hg hm (PySem.W.callWith_KW0 (h₀ := X.base) I.ok.mod.kin hk hall (thn (pk_any.run pos pins s σ H _ I h) fun ws s2 ⟨zs, H2, I2, rz, l2, q2⟩ => ⟨I2.kIn, ?_⟩) hpl) hdb)
  rw [hks]
  exact runK (us := []) (vs := []) G hr tk I2 .nil rz rfl l2 q2⟩
/-- a def of the top that is called by keywords -/
structure Dw (P : Program) (w : World) (T : Tab) (mg : Str → Option Value) (base : Heap) (name : Str) (k : Nat) (f : Addr) (ks : List Str) (r : Bool) (F : Fw) : Prop where
  g : FnK P w T.K mg base (L2.CX P w) k f 0 ks r (SpW T F)
  m : mg name = some (.ref f)
  kp : PySem.W.keepIn T.K (.ref f) = true
theorem ev_dw {r : Bool} (D : Dw Z.X.prog Z.X.w Z.T Z.X.mg Z.X.base name k f ks r F) (ok : Zok Z) (hr : RoomG j Z.X.A) (hj : k ≤ j) (h : EK Z ρ kws fun ds c => ds.length = ks.length ∧ F (kg r [] ds) c P' (fun er c' => Z.R er (ρ.wc c'))) (hg : Gl Z.X name := by rfl)
    (hall : (backToKw pos (keywordEach kws Z.X.env)).all (·.1.isSome) = true := by rfl) (hks : (backToKw pos (keywordEach kws Z.X.env)).filterMap (·.1) = ks := by rfl) (hdb : (name == ("__debug__" : Str)) = false := by decide)
    (hpl : ((backTo pos (starEach [] Z.X.env)).any (·.1) || (backToKw pos (keywordEach kws Z.X.env)).any (·.1.isNone)) = false := by rfl) : EV Z ρ (.Call (.Name name p) [] kws pos) P' :=
  ev_of (pe_keys (by rw [ok.K]; exact D.g) (hr.mono hj) ok.tk hg D.m (by rw [ok.K]; exact D.kp) hall hks hdb hpl) fun σ H Q S q => ek_any h S fun vs H1 ds c S1 e1 rr ⟨hl, h1⟩ =>
    ⟨by rw [pr_len rr]; exact hl, sp_at (ρ := ρ.wc c) S1 (kg_pr (ds := []) .nil rr) h1 (q.from (c := c) e1)⟩
/-! ### C(k = v, ..) -/
def tMakeKs (X : Cx) (C : Addr) (kws : List Keyword) (ks : List Str) (r : Bool) (sp : Sp) (W : WX) : TE := fun σ H Q => tkAny X kws σ H fun zs H1 => zs.length = ks.length ∧ ∀ x dx, H1 x = none → H1 dx = none → dx ≠ x →
  sp (kg r [.ref x] zs) (upd (upd H1 dx (.own x)) x (.ins C dx [])) (fun v H2 => v = .non ∧ Q (.ref x) H2) (fun c d H' => W c d σ H')
theorem pe_makeKs {W : WX} {r : Bool} (M : Mk X.K C f) (G : FnK X.prog X.w X.K X.mg X.base (L2.CX X.prog X.w) k f 1 ks r sp) (hr : RoomG (k + 1) X.A) (tk : Takes X W) (hg : Gl X x) (hm : X.mg x = some (.ref C))
    (hall : (backToKw pos (keywordEach kws X.env)).all (·.1.isSome) = true := by rfl)
    (hks : (backToKw pos (keywordEach kws X.env)).filterMap (·.1) = ks := by rfl) (hdb : (x == ("__debug__" : Str)) = false := by decide)
    (hpl : ((backTo pos (starEach [] X.env)).any (·.1) || (backToKw pos (keywordEach kws X.env)).any (·.1.isNone)) = false := by rfl) : PE X (.Call (.Name x p) [] kws pos) (tMakeKs X C kws ks r sp W) := ⟨fun pins s σ H Q I h => by
  refine wpAny_Call_Name_kw (ld_glob I hg hm (PySem.W.callWith_KW0 (h₀ := X.base) I.ok.mod.kin M.kp hall (thn (pk_any.run pos pins s σ H _ I h) fun ws s2 ⟨zs, H2, I2, rz, l2, q2⟩ => ⟨I2.kIn, ?_⟩) hpl) hdb)
  rw [hks]
  exact runMkK (n := 0) (us := []) (vs := []) M G hr tk I2 .nil rz rfl l2 q2⟩
structure Dkw (P : Program) (w : World) (T : Tab) (mg : Str → Option Value) (base : Heap) (C : Addr) (k : Nat) (f : Addr) (ks : List Str) (r : Bool) (F : Fw) : Prop where
  M : Mk T.K C f
  g : FnK P w T.K mg base (L2.CX P w) k f 1 ks r (SpMk T C F (mkR C))
theorem ev_mkw {r : Bool} (D : Dkw Z.X.prog Z.X.w Z.T Z.X.mg Z.X.base Z.T.C k f ks r F) (hm : Z.X.mg name = some (.ref Z.T.C)) (ok : Zok Z) (hr : RoomG j Z.X.A) (hj : k + 1 ≤ j) (h : EK Z ρ kws fun ds c => ds.length = ks.length ∧ F (kg r [] ds) c P' (fun er c' => Z.R er (ρ.wc c'))) (hg : Gl Z.X name := by rfl)
    (hall : (backToKw pos (keywordEach kws Z.X.env)).all (·.1.isSome) = true := by rfl) (hks : (backToKw pos (keywordEach kws Z.X.env)).filterMap (·.1) = ks := by rfl) (hdb : (name == ("__debug__" : Str)) = false := by decide)
    (hpl : ((backTo pos (starEach [] Z.X.env)).any (·.1) || (backToKw pos (keywordEach kws Z.X.env)).any (·.1.isNone)) = false := by rfl) : EV Z ρ (.Call (.Name name p) [] kws pos) P' :=
  ev_of (pe_makeKs (by rw [ok.K]; exact D.M) (by rw [ok.K]; exact D.g) (hr.mono hj) ok.tk hg hm hall hks hdb hpl) fun σ H Q S q => ek_any h S fun vs H1 ds c S1 e1 rr ⟨hl, h1⟩ =>
    ⟨by rw [pr_len rr]; exact hl, fun y dy hy hdy hn => by
      have g := mk_at (ρ := ρ.wc c) (C := Z.T.C) (mk := mkR Z.T.C) S1 (kg_pr (r := r) (ds := []) .nil rr) h1 (q.from (c := c) e1) hy hdy hn (fun G d ⟨q, dx, hd, h⟩ => by subst hd; exact ⟨y, dx, rfl, h⟩)
      unfold kg at g ⊢
      exact g⟩
/-! ### o.m(k = v, ..) -/
def tMethKs (X : Cx) (C : Addr) (m : Str) (o : Expr) (kws : List Keyword) (ks : List Str) (r : Bool) (sp : Sp) (W : WX) : TE := fun σ H Q => tAny X o σ H fun x H1 => ∃ a dx fs, x = .ref a ∧ H1 a = some (.ins C dx fs) ∧ fs.lookup m = none ∧
  tkAny X kws σ H1 fun zs H2 => zs.length = ks.length ∧ sp (kg r [x] zs) H2 Q (fun c d H' => W c d σ H')
theorem pe_methKs {pl : Sem Bool} {W : WX} {o : Expr} {r : Bool} (c : Cls X.K C) (hm : Meth X.K C m f) (G : FnK X.prog X.w X.K X.mg X.base (L2.CX X.prog X.w) k f 1 ks r sp) (hr : RoomG k X.A) (tk : Takes X W)
    (hall : (backToKw pos (keywordEach kws X.env)).all (·.1.isSome) = true := by rfl)
    (hks : (backToKw pos (keywordEach kws X.env)).filterMap (·.1) = ks := by rfl)
    (hpl : ((backTo pos (starEach [] X.env)).any (·.1) || (backToKw pos (keywordEach kws X.env)).any (·.1.isNone)) = false := by rfl)
    (ht : eval (.Call (.Attribute o m apos) [] kws pos) X.env = (do
      let ov ← eval o X.env
      standAt apos.atName
      let (f, first) ← holding [ov]
        (getMethod ov m pl)
      callWith pos f first (backTo pos (starEach [] X.env)) (backToKw pos (keywordEach kws X.env))) := by rfl) : PE X (.Call (.Attribute o m apos) [] kws pos) (tMethKs X C m o kws ks r sp W) := ⟨fun pins s σ H Q I h => by
  refine PySem.W.methodCall_KW (pl := pl) (thn (pe_any.run pins s σ H _ I h) fun u s1 ⟨x, H1, I1, rx, a, dx, fs, ex, ea, l, q⟩ => ?_) ht
  subst ex
  cases rx
  refine getmeth_ok I1 ea c hm l (PySem.W.callWith_KW0 (first := [.ref a]) (h₀ := X.base) I1.ok.mod.kin hm.kp hall (thn (pk_any.run pos pins s1 σ H1 _ I1 q) fun ws s2 ⟨zs, H2, I2, rz, l2, q2⟩ => ⟨I2.kIn, ?_⟩) hpl)
  rw [hks]
  exact runK (us := [.ref a]) (vs := [.ref a]) G hr tk I2 (.cons rfl .nil) rz rfl l2 q2⟩
/-- a method of Ratio that is called by keywords -/
structure Dmw (P : Program) (w : World) (T : Tab) (mg : Str → Option Value) (base : Heap) (C : Addr) (name : Str) (k : Nat) (f : Addr) (ks : List Str) (r : Bool) (F : Fw) : Prop where
  g : FnK P w T.K mg base (L2.CX P w) k f 1 ks r (SpW T F)
  m : Meth T.K C name f
theorem ev_dmw {pl : Sem Bool} {o : Expr} {r : Bool} (D : Dmw Z.X.prog Z.X.w Z.T Z.X.mg Z.X.base Z.T.C name k f ks r F) (cl : Cls Z.T.K Z.T.C) (ok : Zok Z) (hr : RoomG j Z.X.A) (hj : k ≤ j)
    (h : EV Z ρ o fun d c1 => ∃ q, d = .rat q ∧ EK Z (ρ.wc c1) kws fun ds c => ds.length = ks.length ∧ F (kg r [d] ds) c P' (fun er c' => Z.R er (ρ.wc c')))
    (h1 : ¬ name = "_top" := by decide +kernel) (h2 : ¬ name = "_bottom" := by decide +kernel)
    (hall : (backToKw pos (keywordEach kws Z.X.env)).all (·.1.isSome) = true := by rfl) (hks : (backToKw pos (keywordEach kws Z.X.env)).filterMap (·.1) = ks := by rfl)
    (hpl : ((backTo pos (starEach [] Z.X.env)).any (·.1) || (backToKw pos (keywordEach kws Z.X.env)).any (·.1.isNone)) = false := by rfl)
    (ht : eval (.Call (.Attribute o name apos) [] kws pos) Z.X.env = (do
      let ov ← eval o Z.X.env
      standAt apos.atName
      let (f, first) ← holding [ov]
        (getMethod ov name pl)
      callWith pos f first (backTo pos (starEach [] Z.X.env)) (backToKw pos (keywordEach kws Z.X.env))) := by rfl) : EV Z ρ (.Call (.Attribute o name apos) [] kws pos) P' := by
  obtain ⟨G, M⟩ := D
  rw [← ok.K] at G M cl
  refine ev_of (pe_methKs cl M G (hr.mono hj) ok.tk hall hks hpl ht) fun σ H Q S k => ev_any h S fun v H1 d c1 S1 e1 rr ⟨q, hd, h3⟩ => ?_
  subst hd
  obtain ⟨a, dx, fs, rfl, ha, hl⟩ := isIns_rat (T := Z.T) h1 h2 _ _ (val_rep rr rfl)
  refine ⟨a, dx, fs, rfl, vis_some ha, hl, ek_any h3 S1 fun vs H2 ds c2 S2 e2 r2 ⟨l2, h4⟩ => ⟨by rw [pr_len r2]; exact l2, ?_⟩⟩
  exact sp_at (ρ := ρ.wc c2) S2 (kg_pr (.cons (rr.mono e2) .nil) r2) h4 (k.from (c := c2) fun _ _ q => e2 _ _ (e1 _ _ q))
end Q
end

section
set_option Elab.async false
set_option linter.all false
set_option maxRecDepth 100000
set_option maxHeartbeats 3900000
/-! W16: [e for x in l if c]. -/
namespace Q
open PySem L2
variable {Z : Zt} {ρ : Rho} {σ : St} {H H' : Hp} {O : Out} {P : D → Nat → Prop} {P' : D → Nat → Prop} {e a b elt iter : Expr} {pos p px : Pos} {X : Cx} {x : Str} {ifs : List Expr} {scope : Scope}

/-- the context of a comprehension's block -/
abbrev Zt.blk (Z : Zt) (s : Shared) (H : Hp) (scope : Scope) (C : Addr) (cl : List (Str × Addr)) (fp : List Addr) : Zt := { Z with X := Z.X.blk s H scope (compEnvC scope cl C Z.X.env) fp, R := fun _ _ => False }
theorem Zok.blk (ok : Zok Z) {s H scope C cl fp} : Zok (Z.blk s H scope C cl fp) := ⟨fun u s' ⟨_, _, _, _, _, _, _, _, _, _, _, _, _, _, _, _, _, _, _, _, w⟩ => w.elim, PassesOwn.never, ok.K, ok.nd⟩
theorem SR.blk {s H1 scope C cl fp} (S : SR Z ρ σ H) : SR (Z.blk s H1 scope C cl fp) ρ σ H := ⟨S.ok, S.le, S.ex, S.sl, S.gh⟩
theorem SR.ofBlk {s H1 scope C cl fp} (S : SR (Z.blk s H1 scope C cl fp) ρ σ H) : SR Z ρ σ H := ⟨S.ok, S.le, S.ex, S.sl, S.gh⟩
/-- the test, if there is one -/
def TestOf (Z : Zt) (ρ : Rho) : List Expr → (Bool → Nat → Prop) → Prop
  | [], P => P true ρ.c
  | [t], P => ET Z ρ t P
  | _, _ => False
def onB (b : Bool) (A B : Prop) : Prop := (b = true → A) ∧ (b = false → B)
/-- what the items still give, acc there -/
def lcs (Z : Zt) (scope : Scope) (s : List (Option D)) (i : Nat) (ifs : List Expr) (elt : Expr) (P : D → Nat → Prop) : List D → List D → Nat → Prop
  | [], acc, c => P (.lst acc) c
  | y :: l, acc, c => ∀ B s1 H1 C cl fp, Zok (Z.blk s1 H1 scope C cl fp) → TestOf (Z.blk s1 H1 scope C cl fp) ⟨B, (s.set i none).set i (some y), c⟩ ifs fun b c' => onB b
      (∀ s2 H2 C2 cl2 fp2, Zok (Z.blk s2 H2 scope C2 cl2 fp2) → EV (Z.blk s2 H2 scope C2 cl2 fp2) ⟨B, (s.set i none).set i (some y), c'⟩ elt fun d c'' => plain d = true ∧ acc.length < 100000 ∧ lcs Z scope s i ifs elt P l (acc ++ [d]) c'') (lcs Z scope s i ifs elt P l acc c')
def tLcTest (X : Cx) (scope : Scope) (ifs : List Expr) : TT := fun σ H Q => ∀ s1 H1 C cl fp, ∃ t : TT, PTs (X.blk s1 H1 scope (compEnvC scope cl C X.env) fp) ifs t ∧ t σ H Q
def tLcElt (X : Cx) (scope : Scope) (elt : Expr) : TE := fun σ H Q => ∀ s1 H1 C cl fp, tAny (X.blk s1 H1 scope (compEnvC scope cl C X.env) fp) elt σ H Q
theorem hide_vis {B : Bm} {D : Addr} {k : Option HO} {H : Hp} : Same (vis (hideAt B D k) H) (vis B H) := fun a o q => by
  unfold vis hideAt at q
  by_cases e : a = D
  · rw [if_pos e] at q
    cases q
  · rw [if_neg e] at q
    exact q
theorem hide_again {B : Bm} {D : Addr} {k k' : Option HO} {H : Hp} {o : HO} : vis (hideAt B D k') (upd H D o) = vis (hideAt B D k) H := by
  funext a
  unfold vis hideAt
  by_cases e : a = D
  · subst e
    rw [if_pos rfl, if_pos rfl]
  · rw [if_neg e, if_neg e, upd_ne e]
theorem hide_of {B : Bm} {D : Addr} {k : Option HO} (hn : B D = none) : ∀ a x, B a = some x → hideAt B D k a = some x := fun a x e => by
  unfold hideAt
  rw [if_neg (fun z => by rw [z, hn] at e; cases e)]
  exact e
/-- the state between turns: the new list at D hidden, D not yet there at H1 -/
structure LcS (Z : Zt) (B : Bm) (D : Addr) (H1 : Hp) (acc : List Q.D) (c : Nat) (H : Hp) (vs : List V) : Prop where
  ok : okW (hideAt B D (some (.lst vs))) c H
  re : reps Z.T (vis (hideAt B D (some (.lst vs))) H) acc vs
  sm : Same (vis B H1) (vis (hideAt B D (some (.lst vs))) H)
section
variable {D : Addr} {H1 : Hp} {acc : List Q.D} {c : Nat} {i : Nat} {vs : List V} {y : Q.D} {v : V} {s' : List (Option Q.D)} {σ' : St}
theorem LcS.sr (L : LcS Z ρ.B D H1 acc c H vs) (S0 : SR Z ρ σ H1) (hd : H1 D = none) (sl : slots Z.T (hideAt ρ.B D (some (.lst vs))) (vis (hideAt ρ.B D (some (.lst vs))) H) s' σ') : SR Z ⟨hideAt ρ.B D (some (.lst vs)), s', c⟩ σ' H := by
  have n0 := (S0.hide (k := some (.lst [])) (o := .lst []) hd (fun u e => (Option.some.inj e).symm) (fun e => by cases e)).2
  refine ⟨L.ok, fun a h => ?_, fun a o q => L.sm _ _ (S0.ex a o q), sl, fun p hp => (S0.gh p hp).mono L.sm⟩
  show (if a = D then some (some (HO.lst vs)) else ρ.B a) = _
  rw [if_neg (fun (z : a = D) => by subst z; exact h n0)]
  exact S0.le a h
theorem LcS.start (S0 : SR Z ρ σ H1) (hd : H1 D = none) : LcS Z ρ.B D H1 [] ρ.c (upd H1 D (.lst [])) [] := by
  have h := (S0.hide (k := some (.lst [])) (o := .lst []) hd (fun u e => (Option.some.inj e).symm) (fun e => by cases e)).1
  refine ⟨h.ok, rfl, fun a o q => ?_⟩
  rw [vis_hide hd]
  exact q
theorem LcS.go (L : LcS Z ρ.B D H1 acc c H vs) {c' : Nat} (ok : okW (hideAt ρ.B D (some (.lst vs))) c' H') (e : Same (vis (hideAt ρ.B D (some (.lst vs))) H) (vis (hideAt ρ.B D (some (.lst vs))) H')) : LcS Z ρ.B D H1 acc c' H' vs :=
  ⟨ok, L.re.mono e, fun a o q => e _ _ (L.sm a o q)⟩
theorem LcS.at_ (L : LcS Z ρ.B D H1 acc c H vs) : H D = some (.lst vs) := L.ok.fix D (.lst vs) (if_pos rfl)
theorem LcS.put (L : LcS Z ρ.B D H1 acc c H vs) (r : rep Z.T (vis (hideAt ρ.B D (some (.lst vs))) H) y v) : LcS Z ρ.B D H1 (acc ++ [y]) c (upd H D (.lst (vs ++ [v]))) (vs ++ [v]) := by
  have e : vis (hideAt ρ.B D (some (.lst (vs ++ [v])))) (upd H D (.lst (vs ++ [v]))) = vis (hideAt ρ.B D (some (.lst vs))) H := hide_again
  refine ⟨⟨fun a h => ?_, fun a o h => ?_⟩, ?_, ?_⟩
  · have h' : (if a = D then some (some (HO.lst (vs ++ [v]))) else ρ.B a) = some none := h
    by_cases ea : a = D
    · rw [if_pos ea] at h'
      cases h'
    · rw [if_neg ea] at h'
      rw [upd_ne ea]
      exact L.ok.box a (by show (if a = D then _ else ρ.B a) = _; rw [if_neg ea]; exact h')
  · have h' : (if a = D then some (some (HO.lst (vs ++ [v]))) else ρ.B a) = some (some o) := h
    by_cases ea : a = D
    · rw [if_pos ea] at h'
      subst ea
      rw [upd_same]
      exact Option.some.inj h'
    · rw [if_neg ea] at h'
      rw [upd_ne ea]
      exact L.ok.fix a o (by show (if a = D then _ else ρ.B a) = _; rw [if_neg ea]; exact h')
  · rw [e]
    exact L.re.append (reps.one r)
  · rw [e]
    exact L.sm
theorem LcS.fin (L : LcS Z ρ.B D H1 acc c H vs) (S0 : SR Z ρ σ H1) (hd : H1 D = none) : SR Z (ρ.wc c) σ H ∧ Same (vis ρ.B H1) (vis ρ.B H) ∧ rep Z.T (vis ρ.B H) (.lst acc) (.ref D) := by
  have b0 := S0.ok.fresh hd
  have e : Same (vis ρ.B H1) (vis ρ.B H) := fun a o q => hide_vis _ _ (L.sm a o q)
  refine ⟨⟨⟨fun a h => L.ok.box a (hide_of b0 a _ h), fun a o h => L.ok.fix a o (hide_of b0 a _ h)⟩, S0.le, fun a o q => e _ _ (S0.ex a o q), S0.sl.mono e, fun p hp => (S0.gh p hp).mono e⟩, e, D, vs, rfl, vis_of L.at_ b0, L.re.mono hide_vis⟩
end
/-- what the comprehension reads, at a state -/
theorem lc_t (i : Nat) (ok : Zok Z) (h : EV Z ρ iter fun d c => ∃ l, items d = some l ∧ lcs Z scope ρ.s i ifs elt P l [] c) {Q : VK} (S : SR Z ρ σ H) (k : Post Z ρ σ H P Q) : tLc (iList Z.X.K (tAny Z.X iter)) (gName i) (tLcTest Z.X scope ifs) (tLcElt Z.X scope elt) [i] σ H Q := by
  refine ev_any h S fun v H1 d c S1 e1 r ⟨l, hl, hL⟩ => ?_
  obtain ⟨a, xs, rfl, hsq, hrs⟩ := items_at hl (val_rep r (items_plain hl))
  rw [ok.K]
  refine ⟨a, rfl, ⟨xs, seqS vis_same hsq⟩, fun D hd => ?_⟩
  have b0 : ρ.B D = none := S1.ok.fresh hd
  refine lc_list (fun j H => ∃ c acc vs, LcS Z ρ.B D H1 acc c H vs ∧ lcs Z scope ρ.s i ifs elt P (l.drop j) acc c) ⟨c, [], [], LcS.start (ρ := ρ.wc c) S1 hd, hL⟩ (fun j H _ ⟨c, acc, vs, L, _⟩ => seqS vis_same (seqS L.sm hsq)) (fun j x0 H hj ⟨c2, acc, vs, L, hl2⟩ => ?_) (fun H ⟨c2, acc, vs, L, hl2⟩ => ?_)
  · have lt : j < l.length := by
      have := (List.getElem?_eq_some_iff.mp hj).1
      rw [hrs.len] at this
      exact this
    obtain ⟨w, hw, rw_⟩ := hrs.get (List.getElem?_eq_getElem lt)
    have ex : w = x0 := Option.some.inj (hw.symm.trans hj)
    subst ex
    rw [List.drop_eq_getElem_cons lt] at hl2
    have sl : slots Z.T (hideAt ρ.B D (some (.lst vs))) (vis (hideAt ρ.B D (some (.lst vs))) H) ((ρ.s.set i none).set i (some l[j])) ((σ.set i none).set i (some w)) :=
      ((slots_B (hide_of b0) (S1.sl.unset i)).mono L.sm).set (slot_of (.of (rw_.mono L.sm))) i
    have S2 := L.sr (ρ := ρ.wc c) S1 hd sl
    refine ⟨?_, fun s1 H1' C cl fp => ?_⟩
    · show ((σ.set i none).set i (some w)).set i none = σ.set i none
      rw [List.set_set, List.set_set]
    · have step := hl2 (hideAt ρ.B D (some (.lst vs))) s1 H1' C cl fp ok.blk
      have go : ∀ b H3 c3, SR (Z.blk s1 H1' scope C cl fp) ⟨hideAt ρ.B D (some (.lst vs)), (ρ.s.set i none).set i (some l[j]), c3⟩ ((σ.set i none).set i (some w)) H3 → Same (vis (hideAt ρ.B D (some (.lst vs))) H) (vis (hideAt ρ.B D (some (.lst vs))) H3) →
          onB b (∀ s2 H2 C2 cl2 fp2, Zok (Z.blk s2 H2 scope C2 cl2 fp2) → EV (Z.blk s2 H2 scope C2 cl2 fp2) ⟨hideAt ρ.B D (some (.lst vs)), (ρ.s.set i none).set i (some l[j]), c3⟩ elt fun d c'' => plain d = true ∧ acc.length < 100000 ∧ lcs Z scope ρ.s i ifs elt P (l.drop (j + 1)) (acc ++ [d]) c'') (lcs Z scope ρ.s i ifs elt P (l.drop (j + 1)) acc c3) →
          if b = true then tLcElt Z.X scope elt ((σ.set i none).set i (some w)) H3 (fun y H4 => ∃ acc, H4 D = some (.lst acc) ∧ acc.length < sizeLine ∧ ∃ c acc' vs, LcS Z ρ.B D H1 acc' c (upd H4 D (.lst (acc ++ [y]))) vs ∧ lcs Z scope ρ.s i ifs elt P (l.drop (j + 1)) acc' c)
          else ∃ c acc vs, LcS Z ρ.B D H1 acc c H3 vs ∧ lcs Z scope ρ.s i ifs elt P (l.drop (j + 1)) acc c := fun b H3 c3 S3 e3 hb => by
        cases b with
        | false => exact ⟨c3, acc, vs, L.go S3.ok e3, hb.2 rfl⟩
        | true =>
          refine fun s2 H2 C2 cl2 fp2 => ev_any (hb.1 rfl s2 H2 C2 cl2 fp2 ok.blk) S3.ofBlk.blk fun y H4 d c4 S4 e4 r4 ⟨hp, hz, h4⟩ => ?_
          have L4 := (L.go S3.ok e3).go S4.ok e4
          exact ⟨vs, L4.at_, Nat.lt_of_lt_of_le (by rw [L.re.len]; exact hz) (by decide), c4, acc ++ [d], vs ++ [y], L4.put (val_rep r4 hp), h4⟩
      cases ifs with
      | nil => exact ⟨tYes, pts_nil, go true H c2 S2.blk (fun _ _ q => q) step⟩
      | cons t ts =>
        cases ts with
        | nil => exact ⟨_, pts_one pt_any, et_any step S2.blk fun b H3 c3 S3 e3 hb => go b H3 c3 S3 e3 hb⟩
        | cons _ _ => exact (show False from step).elim
  · rw [List.drop_of_length_le (by rw [hrs.len]; exact Nat.le_refl _)] at hl2
    obtain ⟨S3, e3, r3⟩ := L.fin (ρ := ρ.wc c) S1 hd
    exact k _ H (.lst acc) c2 S3 (fun _ _ q => e3 _ _ (e1 _ _ q)) (.of r3) hl2
/-- a comprehension over a list -/
theorem ev_lc (i : Nat) (ok : Zok Z) (hb : BlkOk Z.X.N Z.X.env.scope scope [(x, i)]) (hi : Z.X.N[i]? = some x := by rfl) (hx : scope.names.lookup x = some .local := by rfl)
    (h : EV Z ρ iter fun d c => ∃ l, items d = some l ∧ lcs Z scope ρ.s i ifs elt P l [] c) (hc : Z.X.calm = true := by rfl) (hs : ∀ x, foldedSetIterable iter Z.X.env x = pure x := by intro _; rfl) :
    EV Z ρ (.ListComp elt [⟨.Name x px, iter, ifs, 0⟩] scope pos) P := by
  have loc : ∀ C cl, Loc (compEnvC scope cl C Z.X.env).scope x := fun C cl => .inl (lookup_relabel_local hx)
  refine ev_of (pe_lc (wi := iList Z.X.K (tAny Z.X iter)) (g := gName i) (tt := tLcTest Z.X scope ifs) (te := tLcElt Z.X scope elt) hc ok.nd (pi_list pe_any) hb (fun s H C cl fp => pg_name ok.nd hi (loc C cl) (.inr (lookup_relabel_local hx)))
    (fun s H C cl fp => ⟨fun pins s' σ H' Q I h => let ⟨t, p, q⟩ := h s H C cl fp; p.run pins s' σ H' Q I q⟩) (fun s H C cl fp => ⟨fun pins s' σ H' Q I h => pe_any.run pins s' σ H' Q I (h s H C cl fp)⟩) hs) fun σ H Q S k => lc_t i ok h S k
/-- y = [..], on one line -/
theorem st_setLc {y : Str} {py spos : Pos} {m : Nat} (i : Nat) (ok : Zok Z) (hb : BlkOk Z.X.N Z.X.env.scope scope [(x, i)])
    (h : EV Z ρ iter fun d c => ∃ l, items d = some l ∧ lcs Z scope ρ.s i ifs elt (fun d c => O.nx ((ρ.wc c).set m d)) l [] c) (hi : Z.X.N[i]? = some x := by rfl) (hx : scope.names.lookup x = some .local := by rfl) (hm : Z.X.N[m]? = some y := by rfl) (hy : Z.X.env.scope.names.lookup y = some .local := by rfl)
    (hk : Z.X.env.scope.kind = .function := by rfl) (hl : (py.line == pos.line) = true := by rfl) (ha : (scope.names.any fun (n, k) => n == y && (k == .local || k == .cell)) = false := by rfl)
    (hc : Z.X.calm = true := by rfl) (hs : ∀ x, foldedSetIterable iter Z.X.env x = pure x := by intro _; rfl) : ST Z ρ (.Assign [.Name y py] (.ListComp elt [⟨.Name x px, iter, ifs, 0⟩] scope pos) spos) O := by
  have loc : ∀ C cl, Loc (compEnvC scope cl C Z.X.env).scope x := fun C cl => .inl (lookup_relabel_local hx)
  refine st_of (ps_setLc (wi := iList Z.X.K (tAny Z.X iter)) (g := gName i) (tt := tLcTest Z.X scope ifs) (te := tLcElt Z.X scope elt) hc ok.nd hm hy (sw_true hk hy hl ha) (pi_list pe_any) hb (fun s H C cl fp => pg_name ok.nd hi (loc C cl) (.inr (lookup_relabel_local hx)))
    (fun s H C cl fp => ⟨fun pins s' σ H' Q I h => let ⟨t, p, q⟩ := h s H C cl fp; p.run pins s' σ H' Q I q⟩) (fun s H C cl fp => ⟨fun pins s' σ H' Q I h => pe_any.run pins s' σ H' Q I (h s H C cl fp)⟩) hs) fun D σ H S k => lc_t i ok h S fun v H' d c' S' _ r p => k.nx _ H' _ (S'.set m (slot_of r)) p
end Q
end

section
set_option Elab.async false
set_option linter.all false
set_option maxRecDepth 100000
set_option maxHeartbeats 3900000
/-! W17: the draws' box. -/
namespace Q
open PySem L2
variable {Z : Zt} {ρ : Rho} {σ : St} {H H' : Hp} {O : Out} {P : D → Nat → Prop} {e a b : Expr} {pos p pos' pos2 : Pos} {X : Cx} {x n : Str} {k : Nat} {f : Addr}
/-- a new box -/
def SpBx (T : Tab) : Sp := fun vs H Q E => ∃ (B : Bm) (c : Nat) (l : List Int) (k : Nat), okW B c H ∧ Paired (val T B (vis B H)) [.scr l, .int (k : Nat)] vs ∧ k ≤ 1000 ∧
  ∀ H' q (u z : Int), okW B c H' → Same (vis B H) (vis B H') → H' q = none → 0 ≤ u → 0 ≤ z → z ≤ 2 ^ 40 → Q (.ref q) (upd H' q (.lst [.int u, .int 0, .int z]))
theorem st_box (i : Nat) (ok : Zok Z) (G : FnG Z.X.prog Z.X.w Z.X.K Z.X.mg Z.X.base (L2.CX Z.X.prog Z.X.w) k f (SpBx Z.T)) (hr : RoomG k Z.X.A) (hm : Z.X.mg n = some (.ref f)) (hk : PySem.W.keepIn Z.X.K (.ref f) = true)
    (h : EA Z ρ [a, b] fun ds c => ∃ (l : List Int) (m : Nat), ds = [.scr l, .int (m : Nat)] ∧ m ≤ 1000 ∧ ∀ q, O.nx ((⟨hideAt ρ.B q none, ρ.s, c⟩ : Rho).set i .box)) (hg : Gl Z.X n := by rfl)
    (hdb : (n == ("__debug__" : Str)) = false := by decide) (he : starEach (a :: [b]) Z.X.env = (false, eval a Z.X.env) :: starEach [b] Z.X.env := by rfl) (hpl : (backTo pos (starEach [b] Z.X.env)).any (·.1) = false := by rfl)
    (hi : Z.X.N[i]? = some x := by rfl) (hx : Loc Z.X.env.scope x := by first | exact Or.inl rfl | exact Or.inr rfl) (hs : swapsWith (.Call (.Name n p) [a, b] [] pos) (some (.Name x pos')) pos2.line Z.X.env = pure false := by rfl)
    (hf : Z.X.fn x = true ∨ Z.X.env.scope.names.lookup x = some .local := by first | exact .inl rfl | exact .inr rfl) : ST Z ρ (.Assign [.Name x pos'] (.Call (.Name n p) [a, b] [] pos) pos2) O :=
  st_of (ps_set ok.nd hi hx (pe_callW G hr ok.tk hg hm hk hdb he hpl) hs hf) fun D σ H S K => ea_any h S fun vs H1 ds c S1 e1 r ⟨l, m, hds, hm, hq⟩ => by
    subst hds
    refine ⟨ρ.B, c, l, m, S1.ok, r, hm, fun H2 q u z ok2 sm hn h1 h2 h3 => ?_⟩
    have S2 : SR Z (ρ.wc c) σ H2 := S1.call (c' := c) ok2 sm
    have S3 := (S2.hide (k := none) (o := .lst [.int u, .int 0, .int z]) hn (fun _ e => by cases e) (fun _ => ⟨u, 0, z, rfl, h1, by omega, by omega, h2, h3⟩)).1
    exact K.nx _ _ _ (S3.set i (d := .box) (v := .ref q) ⟨q, rfl, if_pos rfl⟩) (hq q)
/-- a body of no exception: the state at its start -/
theorem zok0 {P : Program} {w : World} {T : Tab} {mg : Str → Option Value} {base : Heap} {N ps : List Str} {qual : Str} {scope : Scope} {f : Addr} {cdv : Value} {A : Around} {outer : List Env} {s : Shared} {H : Hp} {E : XK} {B : Bm} {rt : D → Nat → Prop} (S : FnScope N ps scope) :
    Zok (zBody P w T mg base N qual scope f cdv A outer s H E B (fun _ _ => False) rt) :=
  ⟨Takes.imp (W := fun cls d _ H => E cls d H) (takes_of rfl rfl rfl rfl) (fun cls dx σ' H' ⟨ρ, er, _, _, z⟩ => z.elim), passes_of rfl, rfl, S.nd⟩
theorem sr0 {P : Program} {w : World} {T : Tab} {mg : Str → Option Value} {base : Heap} {N : List Str} {qual : Str} {scope : Scope} {f : Addr} {cdv : Value} {A : Around} {outer : List Env} {s : Shared} {H : Hp} {E : XK} {B : Bm} {R : Er → Nat → Prop} {rt : D → Nat → Prop} {c : Nat} {ds : List D} {vs : List V}
    (ok : okW B c H) (r : Paired (val T B (vis B H)) ds vs) : SR (zBody P w T mg base N qual scope f cdv A outer s H E B R rt) ⟨B, entry N ds, c⟩ (L2.start N vs) H := by
  refine ⟨ok, fun a _ => rfl, fun _ _ z => z, ?_, fun p hp => nomatch hp⟩
  show slots T B (vis B H) (entry N ds) (L2.start N vs)
  unfold entry L2.start
  rw [pr_len r]
  exact slots_start _ r
end Q
end

section
set_option Elab.async false
set_option linter.all false
set_option maxRecDepth 100000
set_option maxHeartbeats 1100000
/-! W18: what draws nothing and has one value. -/
namespace Q
open PySem L2
variable {Z : Zt} {ρ : Rho} {O : Out} {P : D → Nat → Prop} {e a b t : Expr} {pos p pos' : Pos} {x name : Str} {k j i : Nat} {f : Addr} {F : Fw} {es : List Expr} {d d1 d2 : D} {ds : List D} {l l' : List Stmt}
def EQ (Z : Zt) (ρ : Rho) (e : Expr) (d : D) : Prop := EV Z ρ e fun d' c' => d' = d ∧ c' = ρ.c
def TQ (Z : Zt) (ρ : Rho) (e : Expr) (b : Bool) : Prop := ET Z ρ e fun b' c' => b' = b ∧ c' = ρ.c
def AQ (Z : Zt) (ρ : Rho) (es : List Expr) (ds : List D) : Prop := EA Z ρ es fun ds' c' => ds' = ds ∧ c' = ρ.c
def KQ (Z : Zt) (ρ : Rho) (kws : List Keyword) (ds : List D) : Prop := EK Z ρ kws fun ds' c' => ds' = ds ∧ c' = ρ.c
theorem EQ.to (h : EQ Z ρ e d) (q : P d ρ.c) : EV Z ρ e P := EV.mono h fun d' c' ⟨h1, h2⟩ => by
  subst h1
  rw [h2]
  exact q
theorem TQ.to {k : Bool} {P : Bool → Nat → Prop} (h : TQ Z ρ e k) (q : P k ρ.c) : ET Z ρ e P := ET.mono h fun d' c' ⟨h1, h2⟩ => by
  subst h1
  rw [h2]
  exact q
theorem AQ.to {P : List D → Nat → Prop} (h : AQ Z ρ es ds) (q : P ds ρ.c) : EA Z ρ es P := EA.mono h fun d' c' ⟨h1, h2⟩ => by
  subst h1
  rw [h2]
  exact q
theorem KQ.to {P : List D → Nat → Prop} {kws : List Keyword} (h : KQ Z ρ kws ds) (q : P ds ρ.c) : EK Z ρ kws P := pk_imp h fun σ H Q z => ⟨z.1, fun vs H' ds' c' S s r ⟨h1, h2⟩ => by
  subst h1
  subst h2
  exact z.2 vs H' _ _ S s r q⟩
theorem eq_var (i : Nat) {x : Str} {d : D} (hs : ρ.s[i]? = some (some d)) (n : isOwn d = false := by rfl) (hN : Z.X.N[i]? = some x := by rfl)
    (hv : Vis Z.X.env.scope x := by first | exact Or.inl rfl | exact Or.inr (Or.inl rfl) | exact Or.inr (Or.inr rfl)) (hd : (x == ("__debug__" : Str)) = false := by decide)
    (hcd : (x == ("__classdict__" : Str)) = false := by decide) : EQ Z ρ (.Name x pos) d := ev_var i hs ⟨rfl, rfl⟩ n hN hv hd hcd
theorem eq_int {i : Int} {j} : EQ Z ρ (.Constant (.int i) j pos) (.int i) := ev_int ⟨rfl, rfl⟩
theorem eq_bl {i : Bool} {j} : EQ Z ρ (.Constant (.bool i) j pos) (.bl i) := ev_bl ⟨rfl, rfl⟩
theorem aq_nil : AQ Z ρ [] [] := ea_nil ⟨rfl, rfl⟩
theorem aq_cons (h : EQ Z ρ e d) (h2 : AQ Z ρ es ds) (hs : starEach (e :: es) Z.X.env = (false, eval e Z.X.env) :: starEach es Z.X.env := by rfl) : AQ Z ρ (e :: es) (d :: ds) := ea_cons (h.to (AQ.to h2 ⟨rfl, rfl⟩)) hs
theorem kq_nil : KQ Z ρ [] [] := ek_nil ⟨rfl, rfl⟩
theorem kq_cons {nm : Option Str} {kpos : Pos} {kws : List Keyword} (h : EQ Z ρ e d) (h2 : KQ Z ρ kws ds) : KQ Z ρ (⟨nm, e, kpos⟩ :: kws) (d :: ds) := ek_cons (h.to (KQ.to h2 ⟨rfl, rfl⟩))
theorem eq_lst (h : AQ Z ρ es ds) (hp : ds.all plain = true := by rfl) (hl : ds.length ≤ 100000 := by exact Nat.le_of_ble_eq_true rfl) : EQ Z ρ (.List es pos) (.lst ds) := ev_lst (h.to ⟨hp, hl, rfl, rfl⟩)
theorem eq_tup {x1} (h : AQ Z ρ es ds) (hp : ds.all plain = true := by rfl) (hl : ds.length ≤ 100000 := by exact Nat.le_of_ble_eq_true rfl) : EQ Z ρ (.Tuple es x1 pos) (.tup ds) := ev_tup (h.to ⟨hp, hl, rfl, rfl⟩)
theorem eq_ix {n : Int} (hK : Z.X.K = Z.T.K) (ha : EQ Z ρ a d1) (hb : EQ Z ρ b (.int n)) (h : ixD d1 n = some d := by rfl) (hs : PlainIx b := by exact fun _ _ => rfl) : EQ Z ρ (.Subscript a b pos) d := ev_ix hK (ha.to (EQ.to hb ⟨n, d, rfl, h, rfl, rfl⟩)) hs
theorem eq_mul {n m : Int} (ha : EQ Z ρ a (.int n)) (hb : EQ Z ρ b (.int m)) (h : CMulW n m) : EQ Z ρ (.BinOp a .Mult b pos) (.int (n * m)) := ev_mul (ha.to (EQ.to hb ⟨h, rfl, rfl⟩))
theorem eq_add {n m : Int} (ha : EQ Z ρ a (.int n)) (hb : EQ Z ρ b (.int m)) : EQ Z ρ (.BinOp a .Add b pos) (.int (n + m)) := ev_add (ha.to (EQ.to hb ⟨rfl, rfl⟩))
theorem eq_sub {n m : Int} (ha : EQ Z ρ a (.int n)) (hb : EQ Z ρ b (.int m)) : EQ Z ρ (.BinOp a .Sub b pos) (.int (n - m)) := ev_sub (ha.to (EQ.to hb ⟨rfl, rfl⟩))
theorem eq_if {k : Bool} (ht : TQ Z ρ t k) (h1 : k = true → EQ Z ρ a d) (h2 : k = false → EQ Z ρ b d) : EQ Z ρ (.IfExp t a b pos) d := ev_if (ht.to ⟨fun z => h1 z, fun z => h2 z⟩)
theorem eq_df (D : Df Z.X.prog Z.X.w Z.T Z.X.mg Z.X.base name k f F) (ok : Zok Z) (hr : RoomG j Z.X.A) (hj : k ≤ j) (h : AQ Z ρ (e :: es) ds) (hF : F ds ρ.c (fun d' c' => d' = d ∧ c' = ρ.c) (fun er c' => Z.R er (ρ.wc c'))) (hg : Gl Z.X name := by rfl)
    (hdb : (name == ("__debug__" : Str)) = false := by decide) (he : starEach (e :: es) Z.X.env = (false, eval e Z.X.env) :: starEach es Z.X.env := by rfl) (hpl : (backTo pos (starEach es Z.X.env)).any (·.1) = false := by rfl) :
    EQ Z ρ (.Call (.Name name p) (e :: es) [] pos) d := ev_df D ok hr hj (h.to hF) hg hdb he hpl
theorem eq_mk (D : Dk Z.X.prog Z.X.w Z.T Z.X.mg Z.X.base Z.T.C k f F) (hm : Z.X.mg name = some (.ref Z.T.C)) (ok : Zok Z) (hr : RoomG j Z.X.A) (hj : k + 1 ≤ j) (h : AQ Z ρ (e :: es) ds) (hF : F ds ρ.c (fun d' c' => d' = d ∧ c' = ρ.c) (fun er c' => Z.R er (ρ.wc c'))) (hg : Gl Z.X name := by rfl)
    (hdb : (name == ("__debug__" : Str)) = false := by decide) (he : starEach (e :: es) Z.X.env = (false, eval e Z.X.env) :: starEach es Z.X.env := by rfl) (hpl : (backTo pos (starEach es Z.X.env)).any (·.1) = false := by rfl) :
    EQ Z ρ (.Call (.Name name p) (e :: es) [] pos) d := ev_mk D hm ok hr hj (h.to hF) hg hdb he hpl
theorem eq_dw {r : Bool} {ks : List Str} {kws : List Keyword} (D : Dw Z.X.prog Z.X.w Z.T Z.X.mg Z.X.base name k f ks r F) (ok : Zok Z) (hr : RoomG j Z.X.A) (hj : k ≤ j) (h : KQ Z ρ kws ds) (hl : ds.length = ks.length) (hF : F (kg r [] ds) ρ.c (fun d' c' => d' = d ∧ c' = ρ.c) (fun er c' => Z.R er (ρ.wc c'))) (hg : Gl Z.X name := by rfl)
    (hall : (backToKw pos (keywordEach kws Z.X.env)).all (·.1.isSome) = true := by rfl) (hks : (backToKw pos (keywordEach kws Z.X.env)).filterMap (·.1) = ks := by rfl) (hdb : (name == ("__debug__" : Str)) = false := by decide)
    (hpl : ((backTo pos (starEach [] Z.X.env)).any (·.1) || (backToKw pos (keywordEach kws Z.X.env)).any (·.1.isNone)) = false := by rfl) : EQ Z ρ (.Call (.Name name p) [] kws pos) d := ev_dw D ok hr hj (h.to ⟨hl, hF⟩) hg hall hks hdb hpl
theorem eq_mkw {r : Bool} {ks : List Str} {kws : List Keyword} (D : Dkw Z.X.prog Z.X.w Z.T Z.X.mg Z.X.base Z.T.C k f ks r F) (hm : Z.X.mg name = some (.ref Z.T.C)) (ok : Zok Z) (hr : RoomG j Z.X.A) (hj : k + 1 ≤ j) (h : KQ Z ρ kws ds) (hl : ds.length = ks.length) (hF : F (kg r [] ds) ρ.c (fun d' c' => d' = d ∧ c' = ρ.c) (fun er c' => Z.R er (ρ.wc c'))) (hg : Gl Z.X name := by rfl)
    (hall : (backToKw pos (keywordEach kws Z.X.env)).all (·.1.isSome) = true := by rfl) (hks : (backToKw pos (keywordEach kws Z.X.env)).filterMap (·.1) = ks := by rfl) (hdb : (name == ("__debug__" : Str)) = false := by decide)
    (hpl : ((backTo pos (starEach [] Z.X.env)).any (·.1) || (backToKw pos (keywordEach kws Z.X.env)).any (·.1.isNone)) = false := by rfl) : EQ Z ρ (.Call (.Name name p) [] kws pos) d := ev_mkw D hm ok hr hj (h.to ⟨hl, hF⟩) hg hall hks hdb hpl
theorem tq_val {k : Bool} (h : EQ Z ρ e (.bl k)) (he : ∀ whole, isTrue e Z.X.env whole = (do let v ← whole; standAt e.pos; holding [v] (truthy v)) := by intro _; rfl) : TQ Z ρ e k := et_val (h.to ⟨k, rfl, rfl, rfl⟩) he
theorem tq_not {k : Bool} (h : TQ Z ρ e k) : TQ Z ρ (.UnaryOp .Not e pos) (!k) := et_not (h.to ⟨rfl, rfl⟩)
def WQ (Z : Zt) (ρ : Rho) (e : Expr) (b : Bool) : Prop := EW Z ρ e fun b' c' => b' = b ∧ c' = ρ.c
theorem wq_or1 (h : TQ Z ρ a false) : WQ Z ρ (.BoolOp .Or [a] pos) false := ew_or1 h
theorem wq_or {rest : List Expr} (h : TQ Z ρ a false) (h2 : WQ Z ρ (.BoolOp .Or (b :: rest) pos) false) : WQ Z ρ (.BoolOp .Or (a :: b :: rest) pos) false := ew_or (h.to ⟨fun _ => h2, fun z => by cases z⟩)
theorem wq_and1 {k : Bool} (h : TQ Z ρ a k) : WQ Z ρ (.BoolOp .And [a] pos) k := ew_and1 h
theorem wq_and {k k2 : Bool} {rest : List Expr} (h : TQ Z ρ a k) (h2 : k = true → WQ Z ρ (.BoolOp .And (b :: rest) pos) k2) : WQ Z ρ (.BoolOp .And (a :: b :: rest) pos) (k && k2) := ew_and (h.to ⟨fun z => by subst z; exact h2 rfl, fun z => by subst z; exact ⟨rfl, rfl⟩⟩)
theorem tq_bool {k : Bool} (h : WQ Z ρ e k) : TQ Z ρ e k := et_bool h
theorem st_ifF (h : TQ Z ρ t false) (q : SS Z ρ l' O) : ST Z ρ (.If t l l' pos) O := st_if (h.to ⟨fun z => (by cases z), fun _ => q⟩)
theorem st_setq {i : Nat} {x : Str} (ok : Zok Z) (h : EQ Z ρ e d) (q : O.nx (ρ.set i d)) (hi : Z.X.N[i]? = some x := by rfl) (hx : Loc Z.X.env.scope x := by first | exact Or.inl rfl | exact Or.inr rfl)
    (hs : swapsWith e (some (.Name x pos')) pos.line Z.X.env = pure false := by rfl) (hf : Z.X.fn x = true ∨ Z.X.env.scope.names.lookup x = some .local := by first | exact .inl rfl | exact .inr rfl) : ST Z ρ (.Assign [.Name x pos'] e pos) O := st_set ok (h.to q) hi hx hs hf
theorem tq_eqP {x y : PyData} {kk : Nat} (hK : Z.X.K = Z.T.K) (hr : RoomG kk Z.X.A) (ha : EQ Z ρ a d1) (hb : EQ Z ρ b d2) (h1 : toP d1 = some x) (h2 : toP d2 = some y) (s1 : SeqAt.shaped x = true) (s2 : SeqAt.shaped y = true) : TQ Z ρ (.Compare a [.Eq] [b] pos) (PyData.eqv x y) := et_eqP hK hr (ha.to (EQ.to hb ⟨x, y, h1, h2, s1, s2, rfl, rfl⟩))
theorem tq_neP {x y : PyData} {kk : Nat} (hK : Z.X.K = Z.T.K) (hr : RoomG kk Z.X.A) (ha : EQ Z ρ a d1) (hb : EQ Z ρ b d2) (h1 : toP d1 = some x) (h2 : toP d2 = some y) (s1 : SeqAt.shaped x = true) (s2 : SeqAt.shaped y = true) : TQ Z ρ (.Compare a [.NotEq] [b] pos) (!PyData.eqv x y) := et_neP hK hr (ha.to (EQ.to hb ⟨x, y, h1, h2, s1, s2, rfl, rfl⟩))
end Q
end

section
set_option Elab.async false
set_option linter.all false
set_option maxRecDepth 100000
set_option maxHeartbeats 1100000
/-! W19: from a law's promise to the law. -/
namespace Q
open L2 PySem PySem.Spec PyProof.Rows
/-- a law's promise -/
def F_law : Fw := fun ds c P R => ∃ l : List Int, ds = [.scr l] ∧ l.length ≤ 100000 ∧ c = 0 ∧ ∀ c', P (.bl true) c'
section
variable {P : Program} {w : World} {mg mb : Str → Option Value} {k : Nat} {fa a : Addr} {fd : FuncData} {x : Str} {T : Tab} {K : PySem.W.Frag} {s1 : Shared} {us : List Value} {ns : List Int}
/-- what is wished of the law's call -/
def Fine (s1 : Shared) (r : Result) (s' : Shared) : Prop := r = .ok (.ret (.bool true)) ∧ OldK s1.heap s'.heap ∧ s'.os = s1.os ∧ AllBare s'.gens
/-- the abstract heap holds the script at most -/
structure JustA (P : Program) (w : World) (K : PySem.W.Frag) (a : Addr) (h : Heap) (H : Hp) : Prop where
  ok : HOk P w H h
  at_ : ∀ b, H b ≠ none → b = a
  out : H a ≠ none → K.lookup a = none
  fz : ∀ b, H b ≠ none → ∃ o xs, H b = some (.frz o (.lst xs))
theorem call_just {o : Obj} {vals : Array Value} {m : Nat} (KX : T.K.In s1.heap) (hm : s1.heap.Ns mainGlobals mg) (hb : s1.heap.Ns builtinsNs mb) (hbb : ∀ x : Str, x ≠ "__name__" → mb x = bootBuiltins x) (hlim : s1.heap.NoLimit) (hg : s1.gens = #[])
    (ha : s1.heap.get? a = some o) (hd : o.data = .seq vals m) (hr : RoomG k callerA) (F : ∀ base : Heap, T.K.In base → base.Ns mainGlobals mg → FnGk P w T.K mg base (L2.CX P w) k fa fd [x] (SpW T F_law)) (bind : ∀ (s : Shared) (u : Value), BindsTo s fd ⟨[u], []⟩ [(x, u)])
    {H : Hp} (J : JustA P w T.K a s1.heap H) (hS : SqL T.K H a (ns.map V.int)) (hl : ns.length ≤ 100000) : codeAny (model P w) callerA (.call (.ref fa) ⟨[.ref a], []⟩) (Fine s1) s1 := by
  have keep : ∀ {b : Addr} {u : Obj}, s1.heap.get? b = some u → H b = none → (hidT s1.heap H).get? b = some u := fun e n => hidT_get e n
  have free : ∀ {b : Addr} {u : Obj} {es : Array DictEntry} {ep : Nat}, s1.heap.get? b = some u → u.data = .dict es ep → H b = none := fun {b u es ep} e z => by
    cases q : H b with
    | none => rfl
    | some y =>
      have eb := J.at_ b (by rw [q]; intro z; cases z)
      subst eb
      rw [ha] at e
      cases e
      rw [hd] at z
      cases z
  have names : ∀ {b : Addr} {g : Str → Option Value}, s1.heap.Ns b g → (hidT s1.heap H).Ns b g := fun {b g} ⟨u, es, ep, e, z, r⟩ => ⟨u, es, ep, keep e (free e z), z, r⟩
  have KB : T.K.In (hidT s1.heap H) := fun b u e => keep (KX b u e) (by
    cases q : H b with
    | none => rfl
    | some y =>
      have n0 : H b ≠ none := by rw [q]; intro z; cases z
      have eb := J.at_ b n0
      subst eb
      rw [J.out n0] at e
      cases e)
  have M : Mod T.K mg (hidT s1.heap H) := ⟨KB, names hm, ⟨mb, names hb, hbb⟩, let ⟨g, l1, l2⟩ := hlim; ⟨g, names l1, l2⟩⟩
  have env : Env0 P w T.K mg (hidT s1.heap H) callerA [] s1 H := ⟨rfl, M, fun b u e => of_hidT e, Nat.le_of_eq (hidT_size _ _), trivial, (fun b z => nomatch z), J.ok, .of_eq hg⟩
  have promise : SpW T F_law [.ref a] H (fun v _ => v = .bl true) (fun _ _ _ => False) := by
    refine ⟨fun _ => none, 0, [.scr ns], fun d _ => d = .bl true, fun _ _ => False, ⟨(fun b z => by cases z), (fun b u z => by cases z)⟩, .cons ?_ .nil, ⟨ns, rfl, hl, rfl, fun _ => rfl⟩, fun v H' d c' _ _ r e => ?_, fun _ _ _ _ _ _ _ _ z => z⟩
    · exact ⟨a, rfl, hS⟩
    · subst e
      exact r
  refine codeAny_mono ((F _ KB (names hm)).run callerA [] s1 H ⟨[.ref a], []⟩ [.ref a] [.ref a] _ _ hr env (bind s1 (.ref a)) (.cons rfl .nil) promise) fun r s' z => ?_
  match r, z with
  | .error e, z =>
    obtain ⟨_, _, _, _, _, _, _, _, _, _, _, _, q⟩ := z
    exact q.elim
  | .ok (.ret u), z =>
    obtain ⟨v, H', os, bare, un, ok', rv, e⟩ := z
    have e' : v = .bl true := e
    subst e'
    have hu : u = Value.bool true := rv
    subst hu
    refine ⟨rfl, OldK.of_keep fun b y eb => ?_, os, bare⟩
    cases q : H b with
    | none => exact un.keep b y eb q (fun z => nomatch z) (fun z => nomatch z)
    | some t =>
      obtain ⟨ob, xs, e2⟩ := J.fz b (by rw [q]; intro z; cases z)
      obtain ⟨g1, _⟩ := J.ok b _ e2
      obtain ⟨g2, _⟩ := ok' b _ (un.frzs b ob _ e2)
      rw [eb] at g1
      cases g1
      exact g2
/-- the goal that k_head leaves -/
theorem walk_ofG {l : PySem.W.OpenLaw} {q : Program} {loose : List Str} {XP : (Str → Option Value) → Heap → Prop} {YP : World → Heap → Prop} {d : DefRec} {T : Params → Tab} (hn : l.most = some 63) (hdf : d.params.defaults = []) (hr : RoomG k callerA) (hY : ∀ (w : World) (h : Heap), YP w h → (T w.params).K.In h)
    (F : ∀ (w : World) (mg : Str → Option Value) (fa : Addr) (h : Heap), (T w.params).K.In h → h.Ns mainGlobals mg → mg d.name = some (.ref fa) →
      ∃ fd : FuncData, (∀ (s : Shared) (u : Value), BindsTo s fd ⟨[u], []⟩ [(x, u)]) ∧ ∀ base : Heap, (T w.params).K.In base → base.Ns mainGlobals mg → FnGk l.prog w (T w.params).K mg base (L2.CX l.prog w) k fa fd [x] (SpW (T w.params) F_law)) :
    PySem.W.WalkO q loose XP YP l.row.toRowW d []
      (fun f vs => PySem.call f vs) := by
  refine Att.attach_call hn hdf fun w s0 s1 mg mb fa o pm cd doc a vs ns G Y ho hd hcd hmg hobj hints hlen hg => ?_
  have KX := hY w _ Y
  obtain ⟨fd, hb, hF⟩ := F w mg fa _ KX G.T.g hmg; have h63 : ns.length ≤ 100000 := Nat.le_trans hlen (by decide)
  have lz : ns.length ≤ sizeLine := Nat.le_trans hlen (by decide)
  have rv := L2.vals_ints hints
  have nl := hints.length
  have go : ∀ {H : Hp}, JustA l.prog w (T w.params).K a s1.heap H → SqL (T w.params).K H a (ns.map V.int) → codeAny (model l.prog w) callerA (.call (.ref fa) ⟨[.ref a], []⟩) (Fine s1) s1 := fun J hS =>
    call_just (T := T w.params) KX G.T.g G.T.b G.T.builtins G.T.nolimit hg hobj rfl hr hF hb J hS h63
  cases hk : (T w.params).K.lookup a with
  | some ob =>
    have e := KX a ob hk
    rw [hobj] at e
    cases e
    refine go (H := fun _ => none) ⟨(fun b u z => by cases z), (fun b z => (z rfl).elim), (fun z => (z rfl).elim), (fun b z => (z rfl).elim)⟩ (.inr ⟨_, vs.toArray, _, hk, rfl, rfl, rfl, ?_, by simpa using rv⟩)
    rw [List.size_toArray, nl]
    exact lz
  | none =>
    refine go (H := upd (fun _ => none) a (.frz { cls := .type "list", data := .seq vs.toArray } (.lst (ns.map V.int)))) ⟨fun b u z => ?_, fun b z => ?_, fun _ => hk, fun b z => ?_⟩ (.inl (.inr ⟨_, upd_same⟩))
    · by_cases e : b = a
      · subst e
        rw [upd_same] at z
        cases z
        exact ⟨hobj, by rw [List.length_map]; exact lz, vs, _, rv, hobj⟩
      · rw [upd_ne e] at z
        cases z
    · by_cases e : b = a
      · exact e
      · rw [upd_ne e] at z
        exact (z rfl).elim
    · by_cases e : b = a
      · subst e
        exact ⟨_, _, upd_same⟩
      · rw [upd_ne e] at z
        exact (z rfl).elim
end
end Q
end

section
set_option Elab.async false
set_option linter.all false
set_option maxRecDepth 100000
set_option maxHeartbeats 3900000
/-! X1: an own exception class called by keywords. -/
namespace Q
open PySem PySem.HandSPX PySem.Builtin PySem.Builtin.ObjectAttr
section
variable {prog : Program} {w : World} {A : Around} {E : Value → Shared → Prop} {R : Result → Shared → Prop} {h : Heap} {g : Array GenState} {d : Drawn} {t : Nat} {os : OsState} {M : Model}
variable {nm q : Str} {C N : Addr} {bs bm bmB : List Value} {hdct : Bool} {sn : List Str} {sub : List Value} {ab : Bool} {col : Option Bool} {dd : Option Addr} {k0 k1 k2 k3 k5 : Option Value} {B newId initId : String} {rest : List Value} {kw : List (Str × Value)}

theorem kw_check (F : ExcBaseFacts B newId initId bmB) (hT : ∀ X : String, bm.contains (.type X) = bmB.contains (.type X)) {Q : Unit → Shared → Prop} (hC : h.get? C = some (excClassObj nm q C N bs bm hdct sn sub ab col dd k0 k1 k2 k3 k5 newId)) (hq : Q () ⟨h, g, d, t, os⟩) :
    wpAny M A (checkBuiltinCall newId ⟨.ref C :: rest, kw⟩) Q E ⟨h, g, d, t, os⟩ := by
  have has : (Value.ref C :: bm).contains (.type B) = true := by
    rw [List.contains_cons, hT, F.hasB, Bool.or_true]
  have star := F.noStar
  simp only [checkBuiltinCall, F.newKind, F.newSplit, F.newRow]; repeat (first | refine wpAny_loadPart_at hC ?_ | (refine wpAny_isSubtype_exc hC ?_; rw [has]) | refine wpAny_staticBase_exc hC ?_ | refine wpAny_madeBy_exc hC ?_ | simp only [bne_self_eq_false, Bool.false_eq_true, if_false] | wp_step)
  exact hq
theorem kw_new (F : ExcBaseFacts B newId initId bmB) (hT : ∀ X : String, bm.contains (.type X) = bmB.contains (.type X)) (hC : h.get? C = some (excClassObj nm q C N bs bm hdct sn sub ab col dd k0 k1 k2 k3 k5 newId))
    (hq : R (.ok (.ret (.ref (h.objs.size + 1)))) ⟨(h.push (PySem.W.kdv_tup rest)).push (excO C h.objs.size), g, d, t, os⟩) (hrest : rest.length ≤ sizeLine) :
    codeAny (model prog w) A (.builtin newId ⟨.ref C :: rest, kw⟩) R ⟨h, g, d, t, os⟩ := by
  have ends := F.ends
  have has : (Value.ref C :: bm).contains (.type B) = true := by
    rw [List.contains_cons, hT, F.hasB, Bool.or_true]
  have noA : (Value.ref C :: bm).contains (.type "AttributeError") = false := by
    rw [List.contains_cons, hT, F.noAttr]; rfl
  have noN : (Value.ref C :: bm).contains (.type "NameError") = false := by
    rw [List.contains_cons, hT, F.noName]; rfl
  refine codeAny_builtinAt F.entry ?_; unfold Builtin.«BaseException.__new__»
  refine wpAt_bind ?_
  show wpAt _ _ _ (PySem.stack >>= _) _ _ _
  refine wpAt_bind (wpAt_stack fun p below => wpAt_of_wpAny ?_); wp_walk
  refine wpAt_of_wpAny ?_
  rw [F.owner]
  repeat (first | with_reducible refine wpAny_madeHere_exc F.canon hC ?_ | with_reducible refine wpAny_loadPart_at hC ?_ | (with_reducible refine wpAny_isSubtype_exc hC ?_; first | rw [has] | rw [noA] | rw [noN]) | wp_step)
  show R _ _
  rw [Heap.size_push]
  exact hq
theorem kw_type (F : ExcBaseFacts B newId initId bmB) (hT : ∀ X : String, bm.contains (.type X) = bmB.contains (.type X)) {fI : Addr} {Q : Fin → Shared → Prop} (hC : h.get? C = some (excClassObj nm q C N bs bm hdct sn sub ab col dd k0 k1 k2 k3 k5 newId))
    (hi : PySem.W.Looks (model prog w) h (typeLookup (.ref C) "__init__") (some (.ref fI))) (hb : ∀ self, PySem.W.Looks (model prog w) h (bindSpecial (.ref fI) self) (.ref fI, [self])) (hrest : rest.length ≤ sizeLine)
    (hq : codeAny (model prog w) A (.call (.ref fI) ⟨.ref (h.objs.size + 1) :: rest, kw⟩) (fun r s' => match r with | .ok (.ret v) => v = .none ∧ Q (.done (.ret (.ref (h.objs.size + 1)))) s' | .ok _ => False | .error e => E e s')
      ⟨(h.push (PySem.W.kdv_tup rest)).push (excO C h.objs.size), g, d, t, os⟩) :
    wpAny (model prog w) A (Builtin.«type.__call__» ⟨.ref C :: rest, kw⟩) Q E ⟨h, g, d, t, os⟩ := by
  repeat (first | with_reducible refine wpAny_madeBy_exc hC ?_ | with_reducible refine wpAny_loadPart_at hC ?_ | wp_step)
  refine codeAny_call_builtin_code (Code.quiet_builtin _ F.quiet) (kw_check F hT hC ?_)
  refine kw_new F hT hC ?_ hrest
  show wpAny _ _ _ _ _ _
  have kk : ∀ b o, h.get? b = some o → ((h.push (PySem.W.kdv_tup rest)).push (excO C h.objs.size)).get? b = some o := fun b o e => Heap.get?_push_of_some _ (Heap.get?_push_of_some _ e)
  have hC1 := kk _ _ hC
  have got : ((h.push (PySem.W.kdv_tup rest)).push (excO C h.objs.size)).get? (h.objs.size + 1) = some (excO C h.objs.size) := by heap_get
  have hasC : (Value.ref C :: bm).contains (.ref C) = true := by simp
  have i1 := hi.keeps kk
  have b1 := (hb (.ref (h.objs.size + 1))).keeps kk
  unfold isInstance
  repeat (first | with_reducible refine wpAny_loadPart_at got ?_ | (with_reducible refine wpAny_isSubtype_exc hC1 ?_; rw [hasC]) | wp_step)
  show wpAny _ _ (typeLookup (Value.ref C) _) _ _ _
  refine i1.at (wpAny_holding (wpAny_bind (b1.at ?_)))
  refine wpAny_bind (wpAny_call (codeAny_mono hq fun r s' z => ?_)); rcases r with e | (v | _ | _ | _) <;> first | exact z | exact z.elim | skip
  obtain ⟨rfl, z⟩ := z
  first
    | exact (wpAny_pure (wpAny_pure z))
    | (wp_walk; exact z)
/-- C(.., k = v ..): the own __init__ runs -/
theorem kw_call (F : ExcBaseFacts B newId initId bmB) (hT : ∀ X : String, bm.contains (.type X) = bmB.contains (.type X)) {fI : Addr} (hC : h.get? C = some (excClassObj nm q C N bs bm hdct sn sub ab col dd k0 k1 k2 k3 k5 newId))
    (hi : PySem.W.Looks (model prog w) h (typeLookup (.ref C) "__init__") (some (.ref fI))) (hb : ∀ self, PySem.W.Looks (model prog w) h (bindSpecial (.ref fI) self) (.ref fI, [self])) (hrest : rest.length ≤ sizeLine)
    (hq : codeAny (model prog w) (A.under (.builtin "type.__call__" ⟨.ref C :: rest, kw⟩)) (.call (.ref fI) ⟨.ref (h.objs.size + 1) :: rest, kw⟩) (PySem.W.InitBack (h.objs.size + 1) R) ⟨(h.push (PySem.W.kdv_tup rest)).push (excO C h.objs.size), g, d, t, os⟩) :
    codeAny (model prog w) A (.call (Value.ref C) ⟨rest, kw⟩) R ⟨h, g, d, t, os⟩ := by
  have f1 := tc_lookup
  have f2 := tc_bind (.ref C)
  have hTy : (⟨h, g, d, t, os⟩ : Shared).TypeIs (.ref C) "type" := ⟨_, hC, rfl⟩; refine codeAny_of_tree (show wpAny _ _ (callAny (.ref C) _) _ _ _ from ?_)
  repeat (any_goals (first | with_reducible refine wpAny_loadPart_at hC ?_ | assumption | wp_step))
  refine ⟨rfl, codeAny_call_builtin_at (Code.quiet_builtin _ (by decide +kernel)) entry_typeCall (wpAny_check_type_call_sub hC (kw_type F hT hC hi hb hrest ?_))⟩
  refine codeAny_mono hq fun r s' z => ?_; rcases r with e | (v | _ | _ | _) <;> exact z
end
end Q
end

section
set_option Elab.async false
set_option linter.all false
set_option maxRecDepth 100000
set_option maxHeartbeats 3900000
/-! X2: exceptions that are values: made by place or by keyword, a field, isinstance; {k: v}; repr of such a dict. -/
namespace Q
open PySem L2
variable {Z : Zt} {ρ : Rho} {σ : St} {H H' : Hp} {O : Out} {P : D → Nat → Prop} {e a b : Expr} {pos p apos kpos : Pos} {X : Cx} {k j : Nat} {f C : Addr} {F : Fw} {x n m name fld : Str} {es : List Expr} {kws : List Keyword} {ks : List Str} {sp : Sp}
  {prog : Program} {w : World} {K : PySem.W.Frag} {mg : Str → Option Value} {base : Heap}

/-- the class at C runs its own __init__ -/
theorem runX {pins : List (Addr × Obj)} {s : Shared} {Q : VK} {us ws : List Value} {vs zs : List V} {i : Nat} {r : Bool} {fI : Addr} (T : OexC X.K C) (iC : PySem.W.findIn X.K (.ref C) "__init__" = some (some (.ref fI))) (tI : PySem.W.typeIn X.K (.ref fI) = some (.type "function"))
    (G : FnK X.prog X.w X.K X.mg X.base (L2.CX X.prog X.w) k fI (i + 1) ks r sp) (hr : RoomG (k + 1) X.A) (I : Inv X pins σ H s) (rv : Vals vs us) (rz : Vals zs ws) (l1 : vs.length = i) (l2 : zs.length = ks.length) (hz : vs.length ≤ 1000)
    (h : ∀ y, H y = none → sp (kg r (.ref y :: vs) zs) (upd H y (exo y C none)) (fun v H2 => v = .non ∧ Q (.ref y) H2) (fun _ _ _ => False)) : wpAny (model X.prog X.w) X.A (call (.ref C) us (ks.zip ws)) (EP X pins σ Q) X.xe s := by
  obtain ⟨nm, q, N, bs, bm, sn, sub, ab, col, dd, k0, k1, k2, k3, k5, hC, hbm⟩ := T.cls; obtain ⟨hp, g, dr, tk, os⟩ := s
  have up : hp.objs.size ≤ hp.objs.size + 1 := Nat.le_succ _
  have hn : H (hp.objs.size + 1) = none := I.hok.fresh up
  have hq := h (hp.objs.size + 1) hn
  have stay : ∀ b o, hp.get? b = some o → ((hp.push (PySem.W.kdv_tup us)).push (PySem.HandSPX.excO C hp.objs.size)).get? b = some o := fun b o z => Heap.get?_push_of_some _ (Heap.get?_push_of_some _ z)
  have got : ((hp.push (PySem.W.kdv_tup us)).push (PySem.HandSPX.excO C hp.objs.size)).get? (hp.objs.size + 1) = some (PySem.HandSPX.excO C hp.objs.size) := by heap_get
  have I2 : Inv X pins σ (upd H (hp.objs.size + 1) (exo (hp.objs.size + 1) C none)) ⟨(hp.push (PySem.W.kdv_tup us)).push (PySem.HandSPX.excO C hp.objs.size), g, dr, tk, os⟩ :=
    I.laid (t' := tk) (a := hp.objs.size + 1) (o := exo (hp.objs.size + 1) C none) (h' := (hp.push (PySem.W.kdv_tup us)).push (PySem.HandSPX.excO C hp.objs.size)) stay up (exo_ok got)
  have lu : us.length ≤ sizeLine := by
    rw [← Paired.length rv, sizeLine_eq]; omega
  have g := G _ X.stack _ _ (Value.ref (hp.objs.size + 1) :: us) ws (V.ref (hp.objs.size + 1) :: vs) zs _ (fun _ _ _ => False) (hr.make C us (ks.zip ws)) (I2.env0.make C us (ks.zip ws)) (.cons rfl rv) rz (congrArg Nat.succ l1) l2 hq
  refine wpAny_call (kw_call PySem.F.excBase_ValueError (fun Y => PySem.HandSPX.refsVE_contains Y bm hbm) (I.kIn _ _ hC) (PySem.W.looks_findIn I.kIn iC) (fun self => PySem.W.bind_fn I.kIn self tI) lu (codeAny_mono g ?_))
  intro r s' hq'
  match r, hq' with
  | .error er, hq' => exact passL (X := X) pins σ _ _ er s' I2 hq'
  | .ok (.ret u), hq' =>
    obtain ⟨v, H3, I3, rv, ev, q3⟩ := I2.after hq'
    subst ev
    exact ⟨rv, V.ref _, H3, I3, rfl, q3⟩
/-- such a class -/
structure ErrX (P : Program) (w : World) (K : PySem.W.Frag) (mg : Str → Option Value) (base : Heap) (name fld : Str) (C : Addr) : Prop where
  m : mg name = some (.ref C)
  o : OexC K C
  i : ∃ fI, PySem.W.findIn K (.ref C) "__init__" = some (some (.ref fI)) ∧ PySem.W.typeIn K (.ref fI) = some (.type "function") ∧ FnK P w K mg base (L2.CX P w) 1 fI 2 [] false (spErr C fld) ∧ FnK P w K mg base (L2.CX P w) 1 fI 1 [fld] false (spErr C fld)
theorem upd3 {H : Hp} {y z : Addr} {o u o' : HO} : upd (upd (upd H y o) z u) y o' = upd (upd H z u) y o' := by
  funext b
  by_cases e : b = y
  · rw [e, upd_same, upd_same]
  · rw [upd_ne e, upd_ne e]
    by_cases e2 : b = z
    · rw [e2, upd_same, upd_same]
    · rw [upd_ne e2, upd_ne e2, upd_ne e]
/-- what the __init__ leaves -/
theorem spErr_at {d : D} {v : V} {y : Addr} {H0 : Hp} {σ0 : St} {Q : VK} (S : SR Z ρ σ H) (hpl : plain d = true) (rv : val Z.T ρ.B (vis ρ.B H) d v) (hy : H y = none) (kq : Post Z ρ σ H P Q) (h : P (.exf C fld d) ρ.c) :
    spErr C fld [.ref y, v] (upd H y (exo y C none)) (fun u H2 => u = .non ∧ Q (.ref y) H2) (fun _ _ _ => False) := by
  refine ⟨y, v, rfl, upd_same, fun dx hdx hne => ⟨rfl, ?_⟩⟩
  rw [upd3]
  rw [upd_ne hne] at hdx
  have s1 : Same H (upd H dx (exd dx [(fld, v)])) := same_new hdx
  have hy1 : (upd H dx (exd dx [(fld, v)])) y = none := by
    rw [upd_ne (Ne.symm hne)]; exact hy
  have s2 : Same (upd H dx (exd dx [(fld, v)])) (upd (upd H dx (exd dx [(fld, v)])) y (exo y C (some dx))) := same_new hy1
  have s12 : Same H (upd (upd H dx (exd dx [(fld, v)])) y (exo y C (some dx))) := fun c u q => s2 _ _ (s1 _ _ q)
  have S' := S.same s12
  have by_ : ρ.B y = none := S.ok.fresh hy
  have bd : ρ.B dx = none := S.ok.fresh hdx
  refine kq _ _ (.exf C fld d) ρ.c S' (Same.vis_ s12) (.of (d := .exf C fld d) ⟨y, dx, v, rfl, ?_, ?_, ?_⟩) h
  · exact vis_of upd_same by_
  · refine vis_of ?_ bd
    rw [upd_ne hne]; exact upd_same
  · exact (val_rep rv hpl).mono (Same.vis_ s12)
def tMkX (X : Cx) (C : Addr) (es : List Expr) (sp : Sp) : TE := fun σ H Q => taAny X es σ H fun vs H1 => vs.length = 1 ∧ ∀ y, H1 y = none → sp (.ref y :: vs) (upd H1 y (exo y C none)) (fun v H2 => v = .non ∧ Q (.ref y) H2) (fun _ _ _ => False)
theorem pe_mkx (E : ErrX X.prog X.w X.K X.mg X.base x fld C) (hr : RoomG 2 X.A) (hg : Gl X x) (hd : (x == ("__debug__" : Str)) = false := by decide)
    (he : starEach (e :: es) X.env = (false, eval e X.env) :: starEach es X.env := by rfl)
    (hpl : (backTo pos (starEach es X.env)).any (·.1) = false := by rfl) : PE X (.Call (.Name x p) (e :: es) [] pos) (tMkX X C (e :: es) (spErr C fld)) := ⟨fun pins s σ H Q I h => by
  obtain ⟨t, ha, h⟩ := h
  obtain ⟨fI, i1, i2, G, _⟩ := E.i
  refine wpAny_Call_Name_kw (ld_glob I hg E.m ?_ hd)
  refine PySem.W.callWith_K (h₀ := X.base) I.ok.mod.kin E.o.kC (thn (ha.run pos pins s σ H _ I h) fun us s1 ⟨vs, H1, I1, r1, hl, q1⟩ => ⟨I1.kIn, ?_⟩) he hpl
  exact runX (ks := []) (ws := []) (zs := []) (r := false) (i := 1) E.o i1 i2 G hr I1 r1 .nil hl rfl (by rw [hl]; decide) fun y hy => by
    show spErr C fld ((V.ref y :: vs) ++ []) _ _ _
    rw [List.append_nil]; exact q1 y hy⟩
/-- C(e) -/
theorem ev_mkx (E : ErrX Z.X.prog Z.X.w Z.X.K Z.X.mg Z.X.base x fld C) (hr : RoomG (j + 2) Z.X.A) (h : EA Z ρ [e] fun ds c => ∃ d, ds = [d] ∧ plain d = true ∧ P (.exf C fld d) c) (hg : Gl Z.X x := by rfl) (hd : (x == ("__debug__" : Str)) = false := by decide)
    (he : starEach [e] Z.X.env = (false, eval e Z.X.env) :: starEach [] Z.X.env := by rfl) (hpl : (backTo pos (starEach [] Z.X.env)).any (·.1) = false := by rfl) : EV Z ρ (.Call (.Name x p) [e] [] pos) P :=
  ev_of (pe_mkx E (hr.mono (Nat.le_add_left _ _)) hg hd he hpl) fun σ H Q S kq => ea_any h S fun vs H1 ds c S1 e1 r ⟨d, hds, hp, hP⟩ => by
    subst hds
    obtain ⟨v, rfl, rv⟩ := pr1 r
    exact ⟨rfl, fun y hy => spErr_at (ρ := ρ.wc c) (H0 := H) (σ0 := σ) S1 hp rv hy (kq.from (c := c) e1) hP⟩
def tMkXk (X : Cx) (C : Addr) (kws : List Keyword) (sp : Sp) : TE := fun σ H Q => tkAny X kws σ H fun zs H1 => zs.length = 1 ∧ ∀ y, H1 y = none → sp (.ref y :: zs) (upd H1 y (exo y C none)) (fun v H2 => v = .non ∧ Q (.ref y) H2) (fun _ _ _ => False)
theorem pe_mkxk (E : ErrX X.prog X.w X.K X.mg X.base x fld C) (hr : RoomG 2 X.A) (hg : Gl X x) (hd : (x == ("__debug__" : Str)) = false := by decide)
    (hall : (backToKw pos (keywordEach kws X.env)).all (·.1.isSome) = true := by rfl)
    (hks : (backToKw pos (keywordEach kws X.env)).filterMap (·.1) = [fld] := by rfl)
    (hpl : ((backTo pos (starEach [] X.env)).any (·.1) || (backToKw pos (keywordEach kws X.env)).any (·.1.isNone)) = false := by rfl) : PE X (.Call (.Name x p) [] kws pos) (tMkXk X C kws (spErr C fld)) := ⟨fun pins s σ H Q I h => by
  obtain ⟨fI, i1, i2, _, G⟩ := E.i
  refine wpAny_Call_Name_kw (ld_glob I hg E.m (PySem.W.callWith_KW0 (h₀ := X.base) I.ok.mod.kin E.o.kC hall (thn (pk_any.run pos pins s σ H _ I h) fun ws s2 ⟨zs, H2, I2, rz, hl, q2⟩ => ⟨I2.kIn, ?_⟩) hpl) hd)
  rw [hks]
  exact runX (ks := [fld]) (us := []) (vs := []) (r := false) (i := 0) E.o i1 i2 G hr I2 .nil rz rfl hl (by decide) fun y hy => q2 y hy⟩
/-- C(fld = e) -/
theorem ev_mkxk (E : ErrX Z.X.prog Z.X.w Z.X.K Z.X.mg Z.X.base x fld C) (hr : RoomG (j + 2) Z.X.A) (h : EK Z ρ kws fun ds c => ∃ d, ds = [d] ∧ plain d = true ∧ P (.exf C fld d) c) (hg : Gl Z.X x := by rfl) (hd : (x == ("__debug__" : Str)) = false := by decide)
    (hall : (backToKw pos (keywordEach kws Z.X.env)).all (·.1.isSome) = true := by rfl)
    (hks : (backToKw pos (keywordEach kws Z.X.env)).filterMap (·.1) = [fld] := by rfl)
    (hpl : ((backTo pos (starEach [] Z.X.env)).any (·.1) || (backToKw pos (keywordEach kws Z.X.env)).any (·.1.isNone)) = false := by rfl) : EV Z ρ (.Call (.Name x p) [] kws pos) P :=
  ev_of (pe_mkxk E (hr.mono (Nat.le_add_left _ _)) hg hd hall hks hpl) fun σ H Q S kq => ek_any h S fun vs H1 ds c S1 e1 r ⟨d, hds, hp, hP⟩ => by
    subst hds
    obtain ⟨v, rfl, rv⟩ := pr1 r
    exact ⟨rfl, fun y hy => spErr_at (ρ := ρ.wc c) (H0 := H) (σ0 := σ) S1 hp rv hy (kq.from (c := c) e1) hP⟩
/-! ### C(), no __init__ of its own -/
theorem pe_mk0 (E : ErrC X.K X.mg x C) (hg : Gl X x) (hd : (x == ("__debug__" : Str)) = false := by decide) : PE X (.Call (.Name x p) [] [] pos) (fun σ H Q => ∀ y, H y = none → Q (.ref y) (upd H y (ExO (.ref C) y))) := ⟨fun pins s σ H Q I h => by
  refine wpAny_Call_Name_kw (ld_glob I hg E.m ?_ hd)
  refine PySem.W.callWith_K0 I.kIn E.k ?_
  obtain ⟨_, _, _, _, _, _, _, _, _, _, _, _, _, _, _, _, _, hC, hN, hni, T⟩ := exc_obj I.kIn E.x
  refine PySem.wpAny_call_exc_subT PySem.F.excBase_ValueError T hC hN hni (fun h' y hm => ?_) (by show 0 ≤ sizeLine; exact Nat.zero_le _)
  have hn : H y = none := I.hok.gone hm.new
  obtain ⟨t, ht, _, _⟩ := hm.there; exact ⟨.ref y, upd H y (ExO (.ref C) y), I.laidN hm.keeps hm.new hn (exO_ok ht ⟨rfl, rfl⟩ rfl rfl rfl (show 4 < 6 by decide)), rfl, h y hn⟩⟩
theorem ev_mk0 (E : ErrC Z.X.K Z.X.mg x C) (h : P (.exc C) ρ.c) (hg : Gl Z.X x := by rfl) (hd : (x == ("__debug__" : Str)) = false := by decide) : EV Z ρ (.Call (.Name x p) [] [] pos) P :=
  ev_of (pe_mk0 E hg hd) fun σ H Q S kq y hy => by
    have S' := S.same (same_new (o := ExO (.ref C) y) hy)
    exact kq _ _ (.exc C) _ S' (Same.vis_ (same_new hy)) (.of (d := .exc C) ⟨y, rfl, new_at S hy⟩) h
/-! ### e.fld -/
def tXg (C : Addr) (n : Str) (te : TE) : TE := fun σ H Q => te σ H fun x H1 => ∃ y dx fs v, x = .ref y ∧ H1 y = some (exo y C (some dx)) ∧ H1 dx = some (exd dx fs) ∧ fs.lookup n = some v ∧ Q v H1
theorem pe_xg {te : TE} (T : XfC X.K C) (hno : PySem.W.findIn X.K (.ref C) n = some none) (he : PE X e te) (hb : attributeBase e n X.env (eval e X.env) = eval e X.env := by rfl) : PE X (.Attribute e n pos) (tXg C n te) := by
  refine ⟨fun pins s σ H Q I h => ?_⟩; refine attr_of hb (thn (he.run pins s σ H _ I h) fun u s1 hh => ?_)
  obtain ⟨x, H1, I1, rx, y, dx, fs, v, rfl, hy, hdx, hl, q⟩ := hh
  obtain rfl : u = Value.ref y := rx
  obtain ⟨t1, ho⟩ := exo_at I1.hok hy
  obtain ⟨mA, hns, hr⟩ := exd_at I1.hok hdx
  obtain ⟨od, hod, hlk⟩ := lookIn_ns hns
  obtain ⟨u, hu, ru⟩ := RelO.some_of (v := v) (o := mA n) (by rw [← hl]; exact hr n)
  have J : PySem.W.InstAt s1.heap y { cls := .ref C, dict := some dx, data := .fields #[.ref t1, .none, .none, .none, .bool false, .none] } C (some od) := ⟨ho, rfl, rfl, hod⟩
  exact HandSPX.exc_get I1.kIn J T.ga T.gg T.exC (PySem.W.findObj_own T.hdC hno rfl (by rw [hlk, hu])) (handed_of ru) ⟨v, H1, I1.tok _, ru, q⟩
theorem ev_xg (hK : Z.X.K = Z.T.K) (T : XfC Z.T.K C) (hno : PySem.W.findIn Z.T.K (.ref C) fld = some none) (h : EV Z ρ e fun d c => ∃ d', d = .exf C fld d' ∧ P d' c) (hb : attributeBase e fld Z.X.env (eval e Z.X.env) = eval e Z.X.env := by rfl) : EV Z ρ (.Attribute e fld pos) P :=
  ev_of (pe_xg (by rw [hK]; exact T) (by rw [hK]; exact hno) pe_any hb) fun σ H Q S kq => ev_any h S fun v H1 d c1 S1 e1 r ⟨d', hd, hp⟩ => by
    subst hd
    obtain ⟨y, dx, w, rfl, h1, h2, h3⟩ := r
    exact ⟨y, dx, _, w, rfl, vis_some h1, vis_some h2, by simp, (kq.from (c := c1) e1).here S1 hp (.of h3)⟩
/-! ### isinstance -/
def clsX : D → Option Addr
  | .exc C => some C
  | .exf C _ _ => some C
  | _ => none
/-- what a class must say for isinstance of its exceptions -/
structure IsX (K : PySem.W.Frag) (C : Addr) : Prop where
  c : PySem.W.isClsIn K C = true
  g : PySem.W.findIn K (.ref C) "__getattribute__" = some (some (.builtin "BaseException.__getattribute__"))
  k : PySem.W.findIn K (.ref C) "__getattr__" = some none
  s : PySem.W.subIn K (.ref C) (.type "BaseException") = some true
  a : PySem.W.findIn K (.ref C) "__class__" = some (some (.builtin "object.__class__"))
  n : PySem.W.specialIn K (.builtin "object.__class__") "__get__" = some (some (.builtin "getset_descriptor.__get__"))
  t : PySem.W.takesIn K (.builtin "object.__class__") = some true
  m : PySem.W.mroIn K C (.type "object") = some true
def rIsX (K : PySem.W.Frag) : List V → Hp → VK → Prop := fun xs H Q => ∃ (y C : Addr) (c : V) (cv : Value) (b : Bool), xs = [.ref y, c] ∧ excAt H y C ∧ IsX K C ∧ (∀ u, RelV c u → u = cv) ∧ PySem.W.kitOne K (.ref C) cv = some b ∧ Q (.bl b) H
theorem call_isX : CallR X (.builtin "isinstance") (rIsX X.K) := by
  intro pins s σ H xs us Q I r h; obtain ⟨y, C, c, cv, b, rfl, hx, T, hcv, e, q⟩ := h
  cases r with
  | cons rx rr =>
    cases rr with
    | cons rt rr =>
      cases rr
      cases rx
      have ec := hcv _ rt
      subst ec
      have inst : ∃ ox od, PySem.W.InstAt s.heap y ox C od := by
        rcases hx with hx | ⟨dx, fs, hx, hd⟩
        · obtain ⟨⟨oe, vs, ho, hz, hd, _⟩, _, _⟩ := I.hok y _ hx
          obtain ⟨oc, od, oda, osl⟩ := oe; obtain ⟨h1, h2⟩ := hz
          dsimp only at h1 h2 hd
          subst h1 h2 hd
          exact ⟨_, none, ho, rfl, rfl, trivial⟩
        · obtain ⟨t1, ho⟩ := exo_at I.hok hx
          obtain ⟨mA, hns, _⟩ := exd_at I.hok hd
          obtain ⟨od, hod, _⟩ := lookIn_ns hns
          exact ⟨_, some od, ho, rfl, rfl, hod⟩
      obtain ⟨ox, od, J⟩ := inst
      exact PySem.W.kia_one (PySem.W.kitx_exc (C := C) (x := y) (ox := ox) (od := od) T.c T.g T.k T.s T.a T.n T.t T.m) I.kIn J e (fun z => nomatch z) fun tk => ⟨.bl b, H, I.kept (t' := tk) fun _ _ z => z, rfl, q⟩
theorem clsX_at {T : Tab} {G : Hp} {d : D} {v : V} (h : clsX d = some C) (r : rep T G d v) : ∃ y, v = .ref y ∧ excAt G y C := by
  cases d <;> first | (cases h; done) | skip
  case exc C' =>
    have e := Option.some.inj h
    subst e
    obtain ⟨y, h1, h2⟩ := r
    exact ⟨y, h1, .inl h2⟩
  case exf C' f' d' =>
    have e := Option.some.inj h
    subst e
    obtain ⟨y, dx, w, h1, h2, h3, _⟩ := r
    exact ⟨y, h1, .inr ⟨dx, _, h2, h3⟩⟩
theorem clsX_plain {d : D} (h : clsX d = some C) : plain d = true := by
  cases d <;> first | rfl | cases h
theorem ev_isX (hK : Z.X.K = Z.T.K) (hg : Gl Z.X "isinstance") (hm : Z.X.mg "isinstance" = none)
    (h : EA Z ρ [a, b] fun ds c => ∃ d v C k, ds = [d, v] ∧ clsX d = some C ∧ IsX Z.T.K C ∧ ((∃ u, v = .ty u ∧ PySem.W.kitOne Z.T.K (.ref C) (.type u) = some k) ∨ ∃ g, v = .cls g ∧ PySem.W.kitOne Z.T.K (.ref C) (.ref g) = some k) ∧ P (.bl k) c)
    (he : starEach [a, b] Z.X.env = (false, eval a Z.X.env) :: starEach [b] Z.X.env := by rfl) (hpl : (backTo pos (starEach [b] Z.X.env)).any (·.1) = false := by rfl) : EV Z ρ (.Call (.Name "isinstance" p) [a, b] [] pos) P :=
  ev_blt call_isX hg hm (by decide +kernel) (h.mono fun ds c h σ H vs Q S r kq => by
    obtain ⟨d, v, C, kk, rfl, hc, hI, hv, hp⟩ := h
    obtain ⟨v1, v2, rfl, r1, r2⟩ := pr2 r
    obtain ⟨y, rfl, hx⟩ := clsX_at hc (val_rep r1 (clsX_plain hc))
    rw [hK]
    rcases hv with ⟨u, rfl, hk⟩ | ⟨g, rfl, hk⟩
    · cases r2
      exact ⟨y, C, .ty u, .type u, kk, rfl, hx.mono vis_same, hI, fun u' z => z, hk, kq.here (d := .bl kk) S hp rfl⟩
    · cases r2
      exact ⟨y, C, .ref g, .ref g, kk, rfl, hx.mono vis_same, hI, fun u' z => z, hk, kq.here (d := .bl kk) S hp rfl⟩) (he := he) (hpl := hpl)
end Q
end

section
set_option Elab.async false
set_option linter.all false
set_option maxRecDepth 100000
set_option maxHeartbeats 3900000
/-! X3: {k: v}, its repr; isinstance where there is no Ratio. -/
namespace Q
open PySem L2
variable {Z : Zt} {ρ : Rho} {σ : St} {H H' : Hp} {O : Out} {P : D → Nat → Prop} {e a b : Expr} {pos p apos kpos : Pos} {X : Cx} {k j : Nat} {f C : Addr} {x n m name fld : Str} {es : List Expr}
/-- {x: i} -/
theorem ev_dctS {i : Int} {j1 j2} {p1 p2 : Pos} (h : P (.dct [.inr x] [.int i]) ρ.c) : EV Z ρ (.Dict [some (.Constant (.str x) j1 p1)] [.Constant (.int i) j2 p2] pos) P :=
  ev_of (pe_disp (pps_cons pe_str pe_int pps_nil) rfl rfl (by simp) (by show 1 ≤ 15; omega)) fun σ H Q S kq y hy => by
    refine ⟨upd_same, [(.inr x, .int i)], rfl, by show 1 ≤ 15; omega, ?_⟩
    rw [upd_upd]
    have S' := S.same (same_new (o := .dK [(.inr x, .int i)]) hy)
    exact kq _ _ (.dct [.inr x] [.int i]) _ S' (Same.vis_ (same_new hy)) (.of (d := .dct [.inr x] [.int i]) ⟨y, _, rfl, new_at S hy, rfl, ⟨_, _, rfl, rfl, rfl⟩⟩) h
/-- repr of a datum, and of such a dict -/
def toR : D → Option PyData
  | .dct [.inr x] [.int i] => some (.dict [(.str x, .int i)])
  | d => (toP d).bind fun p => if p.hasDict then none else some p
def rReprR (K : PySem.W.Frag) : List V → Hp → VK → Prop := fun xs H Q => ∃ v, xs = [v] ∧ ∃ p : PyData, (p.hasDict = false ∧ L2.Dp K H v p ∨ ∃ y x i, v = .ref y ∧ H y = some (.dK [(.inr x, .int i)]) ∧ p = .dict [(.str x, .int i)]) ∧ p.showable = true ∧ p.depth < 40 ∧ p.shown.length ≤ sizeLine ∧ Q (.str p.shown) H
theorem call_reprR (h : ReprAt X.A) : CallR X (.builtin "repr") (rReprR X.K) := by
  intro pins s σ H xs us Q I r hq
  obtain ⟨v, hxs, p, hd | ⟨y, x, i, hv, hy, hpd⟩, hs, hdp, hz, q⟩ := hq
  · exact call_reprD h pins s σ H xs us Q I r ⟨v, hxs, .inl ⟨p, hd.2, hs, hd.1, hdp, hz, q⟩⟩
  · subst hxs hv hpd
    obtain ⟨u, rfl, ru⟩ := vals1 r; obtain rfl : u = Value.ref y := ru
    obtain ⟨_, hsm, vs, kv, hd⟩ := I.hok y _ hy
    cases kv with
    | cons a1 a2 =>
      cases a2
      rename_i q0
      obtain ⟨qk, qv⟩ := q0
      obtain ⟨ea, eb⟩ := a1
      dsimp only at ea eb
      subst ea
      obtain ⟨t, rfl⟩ : ∃ t, qv = Value.int i t := eb
      obtain ⟨o, ents, ep, ho, hx, hda, _, hr, _⟩ := hd
      have hes : ∃ e0 : DictEntry, ents.toList = [e0] ∧ (∃ t', e0.key = .str x t') ∧ e0.val = .int i t := by
        generalize ents.toList = l at hr
        cases hr with
        | cons b1 b2 b3 =>
          cases b3
          refine ⟨_, rfl, ?_, b2⟩
          rcases keyIs_shape (k := .inr x) ((mixKind_is X.prog X.w (.inr x) _).symm.trans b1) with ⟨i', t', e1, e2⟩ | ⟨x', t', e1, e2⟩
          · cases e1
          · cases e1
            exact ⟨t', e2⟩
      obtain ⟨e0, h0, ⟨t', hk⟩, hv⟩ := hes
      refine repr_of_reads' (d := .dict [(.str x, .int i)]) (as := [y]) (.dict (kvs := [(.str x, .int i)]) (as := []) (bs := []) ho hx.1 hda (by rw [h0]; show ReadsAll _ [e0.key] _ _; rw [hk]; exact .cons (.str _ _) .nil) (by rw [h0]; show ReadsAll _ [e0.val] _ _; rw [hv]; exact .cons (.int _ _) .nil)) hs (fun _ z => by
        cases z with
        | head => simp at hsm
        | tail _ z => cases z) h.g (by have := h.u; omega) (fun _ _ z => z) (fun h' t tk hk => ⟨.str _, H, I.kept hk, ⟨t, rfl⟩, q⟩) hz
theorem ev_reprR (h0 : ReprAt Z.X.A) (hK : Z.X.K = Z.T.K) (hg : Gl Z.X "repr") (hm : Z.X.mg "repr" = none)
    (h : EA Z ρ [a] fun ds c => ∃ d p, ds = [d] ∧ toR d = some p ∧ p.showable = true ∧ p.depth < 40 ∧ p.shown.length ≤ sizeLine ∧ P (.str p.shown) c)
    (he : starEach [a] Z.X.env = (false, eval a Z.X.env) :: starEach [] Z.X.env := by rfl) : EV Z ρ (.Call (.Name "repr" p) [a] [] pos) P :=
  ev_blt (call_reprR h0) hg hm (by decide +kernel) (h.mono fun ds c ⟨d, p, hds, hp, h1, h2, h3, h4⟩ σ H vs Q S r kq => by
    subst hds
    obtain ⟨v, rfl, hv⟩ := pr1 r
    refine ⟨v, rfl, p, ?_, h1, h2, h3, kq.here (d := .str p.shown) S h4 rfl⟩
    rw [hK]
    unfold toR at hp
    split at hp
    · cases hp
      obtain ⟨y, kvs, rfl, h6, h7, h8⟩ := hv
      refine .inr ⟨y, _, _, rfl, ?_, rfl⟩
      match kvs, h7, h8 with
      | [(k', v')], h7, h8 =>
        obtain ⟨w, r', e1, e2, e3⟩ := h8
        cases h7
        cases e1
        cases e2
        exact vis_some h6
    · obtain ⟨p', hp', hi⟩ := Option.bind_eq_some_iff.mp hp
      split at hi
      · cases hi
      · cases hi
        rename_i _ hno
        exact .inl ⟨Bool.eq_false_iff.mpr hno, toP_ok hp' (val_rep hv (toP_plain hp'))⟩) (he := he)
/-- isinstance of a datum that is no Ratio -/
theorem tyV0_ok {T : Tab} {B : Bm} {H : Hp} {d : D} {v : V} {t : Value} (h : tyV T d = some t) (n : ∀ q, d ≠ .rat q) (r : rep T (vis B H) d v) : TyX T.K H v t := by
  cases d <;> first | (cases h; done) | skip
  all_goals
    have e := Option.some.inj h
    subst e
  case rat q => exact (n q rfl).elim
  case non => cases r; exact .base .non
  case bl b => cases r; exact .base (.bl b)
  case int b => cases r; exact .base (.int b)
  case str b => cases r; exact .base (.str b)
  case tup l =>
    obtain ⟨a, vs, rfl, h, _⟩ := r
    exact .base (.tup (vis_some h))
  case lst l =>
    obtain ⟨a, vs, rfl, h, _⟩ := r
    exact .base (.lst (vis_some h))
  case dct ks ds =>
    obtain ⟨a, kvs, rfl, h, _⟩ := r
    exact .base (.dK (vis_some h))
theorem ev_isin0 (hK : Z.X.K = Z.T.K) (hg : Gl Z.X "isinstance") (hm : Z.X.mg "isinstance" = none)
    (h : EA Z ρ [a, b] fun ds c => ∃ d u t k, ds = [d, .ty u] ∧ tyV Z.T d = some t ∧ (∀ q, d ≠ .rat q) ∧ PySem.W.kitOne Z.T.K t (.type u) = some k ∧ P (.bl k) c)
    (he : starEach [a, b] Z.X.env = (false, eval a Z.X.env) :: starEach [b] Z.X.env := by rfl) (hpl : (backTo pos (starEach [b] Z.X.env)).any (·.1) = false := by rfl) : EV Z ρ (.Call (.Name "isinstance" p) [a, b] [] pos) P :=
  ev_blt call_isi hg hm (by decide +kernel) (h.mono fun ds c h σ H vs Q S r kq => by
    obtain ⟨d, u, t, kk, rfl, ht, hn, hk, hp⟩ := h
    obtain ⟨v1, v2, rfl, r1, r2⟩ := pr2 r
    have ty := tyV0_ok ht hn (val_rep r1 (tyV_plain ht))
    rw [hK]
    cases r2
    exact ⟨v1, .ty u, t, .type u, kk, rfl, .ty u, ty, hk, kq.here (d := .bl kk) S hp rfl⟩) (he := he) (hpl := hpl)
end Q
end

section
set_option Elab.async false
set_option linter.all false
set_option maxRecDepth 100000
set_option maxHeartbeats 1100000
/-! X4: the forms of one value; comprehensions that keep nothing, and that keep what is true. -/
namespace Q
open PySem L2
variable {Z : Zt} {ρ : Rho} {O : Out} {P : D → Nat → Prop} {e a b t : Expr} {pos p p1 p2 px pos' : Pos} {x name fld : Str} {k j i : Nat} {f C g : Addr} {F : Fw} {es : List Expr} {d d1 d2 : D} {ds : List D} {kws : List Keyword} {scope : Scope}
theorem eq_str {s : Str} {j} : EQ Z ρ (.Constant (.str s) j pos) (.str s) := ev_str ⟨rfl, rfl⟩
theorem eq_non {j} : EQ Z ρ (.Constant .none j pos) .non := ev_non ⟨rfl, rfl⟩
theorem eq_cat' {l1 l2 : List D} (ha : EQ Z ρ a (.lst l1)) (hb : EQ Z ρ b (.lst l2)) (h : l1.length + l2.length ≤ 100000 := by exact Nat.le_of_ble_eq_true rfl) : EQ Z ρ (.BinOp a .Add b pos) (.lst (l1 ++ l2)) := ev_cat (ha.to (EQ.to hb ⟨l1, l2, rfl, rfl, h, rfl, rfl⟩))
theorem eq_mkx (E : ErrX Z.X.prog Z.X.w Z.X.K Z.X.mg Z.X.base x fld C) (hr : RoomG (j + 2) Z.X.A) (h : EQ Z ρ e d) (hp : plain d = true) (hg : Gl Z.X x := by rfl) (hd : (x == ("__debug__" : Str)) = false := by decide)
    (he : starEach [e] Z.X.env = (false, eval e Z.X.env) :: starEach [] Z.X.env := by rfl) (hpl : (backTo pos (starEach [] Z.X.env)).any (·.1) = false := by rfl) : EQ Z ρ (.Call (.Name x p) [e] [] pos) (.exf C fld d) :=
  ev_mkx E hr (AQ.to (aq_cons h aq_nil he) ⟨d, rfl, hp, rfl, rfl⟩) hg hd he hpl
theorem eq_mkxk (E : ErrX Z.X.prog Z.X.w Z.X.K Z.X.mg Z.X.base x fld C) (hr : RoomG (j + 2) Z.X.A) (h : KQ Z ρ kws [d]) (hp : plain d = true) (hg : Gl Z.X x := by rfl) (hd : (x == ("__debug__" : Str)) = false := by decide)
    (hall : (backToKw pos (keywordEach kws Z.X.env)).all (·.1.isSome) = true := by rfl)
    (hks : (backToKw pos (keywordEach kws Z.X.env)).filterMap (·.1) = [fld] := by rfl)
    (hpl : ((backTo pos (starEach [] Z.X.env)).any (·.1) || (backToKw pos (keywordEach kws Z.X.env)).any (·.1.isNone)) = false := by rfl) : EQ Z ρ (.Call (.Name x p) [] kws pos) (.exf C fld d) :=
  ev_mkxk E hr (KQ.to h ⟨d, rfl, hp, rfl, rfl⟩) hg hd hall hks hpl
theorem eq_mk0 (E : ErrC Z.X.K Z.X.mg x C) (hg : Gl Z.X x := by rfl) (hd : (x == ("__debug__" : Str)) = false := by decide) : EQ Z ρ (.Call (.Name x p) [] [] pos) (.exc C) := ev_mk0 E ⟨rfl, rfl⟩ hg hd
theorem eq_xg (hK : Z.X.K = Z.T.K) (T : XfC Z.T.K C) (hno : PySem.W.findIn Z.T.K (.ref C) fld = some none) (h : EQ Z ρ e (.exf C fld d)) (hb : attributeBase e fld Z.X.env (eval e Z.X.env) = eval e Z.X.env := by rfl) : EQ Z ρ (.Attribute e fld pos) d :=
  ev_xg hK T hno (h.to ⟨d, rfl, rfl, rfl⟩) hb
theorem eq_isX {kk : Bool} (i : Nat) (hK : Z.X.K = Z.T.K) (mis : Z.X.mg "isinstance" = none) (hs : ρ.s[i]? = some (some d)) (hc : clsX d = some C) (hI : IsX Z.T.K C) (hm : Z.X.mg name = some (.ref g)) (hk : PySem.W.kitOne Z.T.K (.ref C) (.ref g) = some kk)
    (n : isOwn d = false := by rfl) (hg1 : Gl Z.X "isinstance" := by rfl) (hg : Gl Z.X name := by rfl) (hN : Z.X.N[i]? = some x := by rfl)
    (hv : Vis Z.X.env.scope x := by first | exact Or.inl rfl | exact Or.inr (Or.inl rfl) | exact Or.inr (Or.inr rfl)) (hd : (x == ("__debug__" : Str)) = false := by decide) (hcd : (x == ("__classdict__" : Str)) = false := by decide)
    (hd2 : (name == ("__debug__" : Str)) = false := by decide) : EQ Z ρ (.Call (.Name "isinstance" p) [.Name x p1, .Name name p2] [] pos) (.bl kk) :=
  ev_isX hK hg1 mis (ea_cons (ev_var i hs (ea_cons (ev_globC hg hm (ea_nil ⟨d, .cls g, C, kk, rfl, hc, hI, .inr ⟨g, rfl, hk⟩, rfl, rfl⟩) hd2)) n hN hv hd hcd))
theorem eq_isXt {kk : Bool} {u : String} (i : Nat) (hK : Z.X.K = Z.T.K) (mis : Z.X.mg "isinstance" = none) (hs : ρ.s[i]? = some (some d)) (hc : clsX d = some C) (hI : IsX Z.T.K C) (hm : Z.X.mg name = none) (hb : bootBuiltins name = some (.type u)) (hk : PySem.W.kitOne Z.T.K (.ref C) (.type u) = some kk)
    (n : isOwn d = false := by rfl) (hg1 : Gl Z.X "isinstance" := by rfl) (hg : Gl Z.X name := by rfl) (hN : Z.X.N[i]? = some x := by rfl)
    (hv : Vis Z.X.env.scope x := by first | exact Or.inl rfl | exact Or.inr (Or.inl rfl) | exact Or.inr (Or.inr rfl)) (hd : (x == ("__debug__" : Str)) = false := by decide) (hcd : (x == ("__classdict__" : Str)) = false := by decide)
    (hn : name ≠ "__name__" := by decide) (hd2 : (name == ("__debug__" : Str)) = false := by decide) : EQ Z ρ (.Call (.Name "isinstance" p) [.Name x p1, .Name name p2] [] pos) (.bl kk) :=
  ev_isX hK hg1 mis (ea_cons (ev_var i hs (ea_cons (ev_ty hg hm hb (ea_nil ⟨d, .ty u, C, kk, rfl, hc, hI, .inl ⟨u, rfl, hk⟩, rfl, rfl⟩) hn hd2)) n hN hv hd hcd))
/-- nothing is kept -/
theorem lcs_none {s : List (Option D)} {elt : Expr} : ∀ {l acc : List D} {c : Nat}, (∀ y ∈ l, ∀ B s1 H1 C cl fp, Zok (Z.blk s1 H1 scope C cl fp) → TQ (Z.blk s1 H1 scope C cl fp) ⟨B, (s.set i none).set i (some y), c⟩ t false) → P (.lst acc) c → lcs Z scope s i [t] elt P l acc c
  | [], _, _, _, h => h
  | y :: l, acc, c, ht, h => fun B s1 H1 C cl fp ok => by
    show ET _ _ t _
    refine (ht y List.mem_cons_self B s1 H1 C cl fp ok).to ?_
    exact ⟨fun z => (by cases z), fun _ => lcs_none (fun y' hy' => ht y' (List.mem_cons_of_mem _ hy')) h⟩
/-- [x for x in l if x], bools -/
theorem lcs_bits {s : List (Option D)} (hi : i < s.length) (hN : Z.X.N[i]? = some x) (hx : scope.names.lookup x = some .local) (hd : (x == ("__debug__" : Str)) = false := by decide) (hcd : (x == ("__classdict__" : Str)) = false := by decide)
    (ht : ∀ (ps : Pos) (env : Env) (whole : Sem Value), isTrue (.Name x ps) env whole = (do let v ← whole; standAt (Expr.Name x ps).pos; holding [v] (truthy v)) := by intro _ _ _; rfl) :
    ∀ {bs : List Bool} {acc : List D} {c : Nat}, acc.length + bs.length ≤ 1000 → P (.lst (acc ++ (bs.filter id).map .bl)) c → lcs Z scope s i [.Name x p1] (.Name x p2) P (bs.map .bl) acc c
  | [], acc, c, _, h => by
    rw [List.filter_nil, List.map_nil, List.append_nil] at h
    exact h
  | b :: bs, acc, c, hl, h => fun B s1 H1 C cl fp ok => by
    have look : ((s.set i none).set i (some (D.bl b)))[i]? = some (some (D.bl b)) := by
      rw [List.getElem?_set_self (by simpa using hi)]
    have vis : ∀ {C2 cl2}, Vis (compEnvC scope cl2 C2 Z.X.env).scope x := fun {C2 cl2} => .inl (lookup_relabel_local hx)
    rw [List.length_cons] at hl
    refine et_val (ev_var i look ⟨b, rfl, fun hb => ?_, fun hb => ?_⟩ rfl hN vis hd hcd) (ht _ _)
    · subst hb
      refine fun s2 H2 C2 cl2 fp2 ok2 => ev_var i look ⟨rfl, by omega, ?_⟩ rfl hN vis hd hcd
      refine lcs_bits hi hN hx hd hcd ht (by rw [List.length_append]; show acc.length + 1 + bs.length ≤ 1000; omega) ?_
      rw [List.filter_cons_of_pos (by rfl), List.map_cons, ← List.singleton_append, ← List.append_assoc] at h
      exact h
    · subst hb
      refine lcs_bits hi hN hx hd hcd ht (by omega) ?_
      rw [List.filter_cons_of_neg (by simp)] at h
      exact h
end Q
end

section
set_option Elab.async false
set_option linter.all false
set_option maxRecDepth 100000
set_option maxHeartbeats 3900000
/-! S1: sep.join(reversed(a list)). -/
namespace Q
section
open PySem PySem.Spec PyProof.Rows PySem.Calls MpR
variable {prog : Program} {A : Around} {w : World} {s : Shared}
variable {E : Value → Shared → Prop}
theorem join_rev {x : Str} {t : Tok} {it l : Addr} {items : Array Value} {ys : List Str} {Q : Value → Shared → Prop} (hh : A.handled = none) (hit : s.heap.IsRevIter it l ((items.size : Int) - 1)) (hl : s.heap.IsList l items) (hne : l ≠ it) (hn : items.size ≤ sizeLine)
    (hP : ∀ acc : Array Value, ItemsOf (fun i v => items[items.size - 1 - i]? = some v) acc items.size → StrsAre acc.toList ys) (ok : (ys.map (·.length)).sum + ys.length * x.length ≤ 16777216)
    (hq : ∀ h' t' k, (∀ b o, b ≠ it → s.heap.get? b = some o → h'.get? b = some o) → Q (.str (Txt.join x ys) t') { s with heap := h', toks := k }) :
    wpAny (model prog w) A (call (.builtin "str.join") [.str x t, .ref it]) Q E s := by
  refine wpAny_call (codeAny_call_builtin F.slot_str_join.plain F.entry_str_join (F.slot_str_join.check _ _ _ _ _ _ _ _ (typeIs_str _ _ _) (F.args_str_join_2 _ _) ?_)); rw [join_tree_other]
  refine wpAny_bind (wpAny_typeOf hit.typeIs ?_)
  show wpAny _ A.in1 ((pyIter (.ref it)).tryCatch _ >>= fun v => collect v >>= fun us => joinTail x us) _ _ s
  refine wpAny_bind (wpAny_tryCatch (wpAny_pyIter_revIter hit ?_))
  refine wpAny_bind (RT.collect_rev (A := A.in1) hh hit hl hne hn fun h' tk acc hk hacc => ?_)
  obtain ⟨ls, hls, ht⟩ := strsAre_values (hP acc hacc)
  subst ht
  rw [hls]
  have ok' := joinOk_of ok
  unfold JoinOk at ok'
  rw [Bool.not_eq_true'] at ok'
  have g : Gives (joinTail x (strValues ls)) (joinMade x ls) := by
    have g0 := gives_joinTail x ls ok'
    cases ls with
    | nil => exact g0
    | cons p r => cases r with
      | nil => exact g0
      | cons q r' => exact g0
  exact g prog w A (wants Q E) _ (post_join ls ⟨joinFit_length ok', fun t' k => hq h' t' k hk⟩)
end
open PySem L2
variable {X : Cx}
def tJoinRev (K : PySem.W.Frag) (to te : TE) : TE := fun σ H Q => to σ H fun x H1 => (∃ a, x = .str a) ∧ te σ H1 fun v H2 => ∃ (a : Str) (q : Addr) (ys : List Str), x = .str a ∧ v = .ref q ∧ SqL K H2 q (ys.map V.str) ∧ (ys.map (·.length)).sum + ys.length * a.length ≤ 16777216 ∧ Q (.str (Txt.join a ys.reverse)) H2
theorem sum_rev (f : Str → Nat) : ∀ ys : List Str, (ys.reverse.map f).sum = (ys.map f).sum
  | [] => rfl
  | y :: ys => by
    rw [List.reverse_cons, List.map_append, List.sum_append, sum_rev f ys]
    simp [Nat.add_comm]
theorem pe_joinRev {o e : Expr} {to te : TE} {apos pos p pos2 : Pos} (hc : X.calm = true) (ho : PE X o to) (hg : Gl X "reversed") (hm : X.mg "reversed" = none) (he : PE X e te)
    (hs1 : starEach [.Call (.Name "reversed" p) [e] [] pos2] X.env = [(false, eval (.Call (.Name "reversed" p) [e] [] pos2) X.env)] := by rfl)
    (hs : starEach [e] X.env = (false, eval e X.env) :: starEach [] X.env := by rfl) (hbase : attributeBase o "join" X.env (eval o X.env) = eval o X.env := by rfl)
    (hline : (apos.endLine == pos.line) = true := by rfl) :
    PE X (.Call (.Attribute o "join" apos) [.Call (.Name "reversed" p) [e] [] pos2] [] pos) (tJoinRev X.K to te) := by
  refine ⟨fun pins s σ H Q I h => ?_⟩; refine PySem.Call_method1 hbase hs1 hline (thn (ho.run pins s σ H _ I h) fun v s1 ⟨x, H1, I1, r1, q1⟩ => ?_)
  obtain ⟨⟨a, rfl⟩, q1⟩ := q1
  obtain ⟨t, rfl⟩ := _root_.id r1; refine ⟨"str", _, PySem.F.plainAttrs_str, PySem.F.slot_str_join, PySem.F.type_str_join, typeIs_str _ _ _, (fun _ e => nomatch e), Calls.callWith_builtin rfl (Calls.evalArgs_plain (Calls.spliced_cons ?_))⟩
  refine PyProof.Rows.Call_ (ld_blt I1 hg hm PyProof.Rows.boot_reversed (PyProof.Rows.callWith_type1 (PyProof.Rows.args_cons (thn (he.run pins s1 σ H1 _ I1 q1) fun u s2 ⟨v, H2, I2, r2, q2⟩ => PyProof.Rows.args_nil ?_) hs) hs rfl))
  obtain ⟨a', q, ys, ea, rfl, hq, hz, q2⟩ := q2
  cases ea
  obtain rfl : u = Value.ref q := r2
  obtain ⟨its, rv, p', hsz⟩ := I2.list hq
  have hl := p'.isList
  refine call_reversed_list hl (Calls.spliced_nil ?_)
  have k0 : ∀ b o, s2.heap.get? b = some o → (s2.heap.push (revObj q ((its.toArray.size : Int) - 1))).get? b = some o := fun b o e => Heap.get?_push_of_some _ e
  have I3 : Inv X pins σ H2 { s2 with heap := s2.heap.push (revObj q ((its.toArray.size : Int) - 1)) } := I2.kept (t' := s2.toks) k0
  obtain ⟨f0, f1, f2, f3, f4, f5⟩ := I2.fpOk (H' := H2) (b := s2.heap.objs.size) (Nat.le_refl _) (I2.hok.fresh (Nat.le_refl _))
  obtain ⟨ol, hol, _⟩ := _root_.id hl
  have hne : q ≠ s2.heap.objs.size := Nat.ne_of_lt (Heap.lt_size hol)
  have lst : its.toArray.size ≤ sizeLine := by
    rw [List.size_toArray, ← rv.length]; exact hsz
  refine join_rev (s := { s2 with heap := s2.heap.push (revObj q ((its.toArray.size : Int) - 1)) }) (ys := ys.reverse) (I2.ok.hd hc) ⟨_, Heap.get?_push_size _ rfl, rfl, rfl⟩ (hl.push _) hne lst (fun acc hacc => ?_) ?_ (fun h' t' k hk => ?_)
  · have r := RT.vals_rev rv hacc
    rw [← List.map_reverse] at r
    exact strsAre_of r
  · rw [sum_rev, List.length_reverse]; exact hz
  · exact ⟨.str _, H2, I3.turned (t' := k) (fun b o hb e => hk b o hb e) f0 f1 f3 f4 f5, ⟨t', rfl⟩, q2⟩
end Q
end

section
set_option Elab.async false
set_option linter.all false
set_option maxRecDepth 100000
set_option maxHeartbeats 3900000
/-! S2: texts of integers and of quotients, as lists of signs. -/
namespace Q
open PySem PySem.NumText TL
/-- the text of an integer -/
abbrev tx (i : Int) : Str := Str.ofString (toString i)
theorem tl_tx_nn {i : Int} (h : 0 ≤ i) : tl (tx i) = numL i.natAbs := by
  obtain ⟨m, rfl⟩ := Int.eq_ofNat_of_zero_le h
  exact tl_num m
theorem tl_tx_neg {i : Int} (h : i < 0) : tl (tx i) = 45 :: numL i.natAbs := by
  obtain ⟨m, rfl⟩ : ∃ m : Nat, i = Int.negSucc m := ⟨(-i - 1).toNat, by omega⟩
  rw [show tx (Int.negSucc m) = Str.ofString ("-" ++ toString ((m + 1 : Nat) : Int)) from rfl, tl_ofString, String.toList_append, List.map_append]
  show [45] ++ (toString ((m + 1 : Nat) : Int)).toList.map Char.toNat = _
  rw [← tl_ofString, tl_num]; rfl
theorem numL_dig (n : Nat) : AllDigits (numL n) := by
  intro c hc
  obtain ⟨ch, hch, e⟩ := List.mem_map.mp hc; rw [← e]
  exact PyProof.Rows.digit_range (Nat.isDigit_of_mem_toDigits (by decide) (by decide) hch)
theorem numL_ne (n : Nat) : numL n ≠ [] := fun e => Nat.toDigits_ne_nil (List.map_eq_nil_iff.mp e)
theorem numL_val (n : Nat) : digitsVal (numL n) = n := PySem.W.KIN.val_back n
theorem numL_len {n k : Nat} (hk : 0 < k)
    (h : n < 10 ^ k) : (numL n).length ≤ k := by
  have e := PyProof.Rows.toString_length_le (v := (n : Int)) (Int.natCast_nonneg n) hk (by exact_mod_cast h)
  rw [len_tl, tl_num] at e
  exact e
theorem numL_lead {n : Nat} : ∀ c l, numL n = c :: l → 48 ≤ c ∧ c ≤ 57 := fun c l e => numL_dig n c (by rw [e]; exact List.mem_cons_self)
theorem dash_numL {n : Nat} : ∀ l, numL n ≠ 45 :: l := fun l e => by
  have := numL_lead _ _ e
  omega
theorem slash_tx (i : Int) : 47 ∉ tl (tx i) := fun h => by
  have key : 47 ∉ numL i.natAbs := fun z => by
    have := numL_dig _ _ z
    omega
  by_cases hi : i < 0
  · rw [tl_tx_neg hi] at h
    rcases List.mem_cons.mp h with h | h
    · exact absurd h (by decide)
    · exact key h
  · rw [tl_tx_nn (by omega)] at h
    exact key h
theorem tx_len {i : Int} {k : Nat} (hk : 0 < k) (h : i.natAbs < 10 ^ k) : (tx i).length ≤ k + 1 := by
  have e := numL_len hk h
  rw [len_tl]
  by_cases hi : i < 0
  · rw [tl_tx_neg hi]; simp; omega
  · rw [tl_tx_nn (by omega)]; omega
/-! ### what a word tells -/
/-- the digits of a word, behind a minus -/
def wdig : List Nat → List Nat
  | 45 :: l => l
  | l => l
theorem wdig_neg {l : List Nat} : wdig (45 :: l) = l := rfl
theorem wdig_nn {l : List Nat} (h : ∀ r, l ≠ 45 :: r) : wdig l = l := by
  unfold wdig
  split
  · exact absurd rfl (h _)
  · rfl
/-- the digits are digits -/
def okW' (l : List Nat) : Prop := AllDigits (wdig l) ∧ wdig l ≠ []
/-- the worth of a word -/
def wval : List Nat → Int
  | 45 :: l => -((digitsVal l : Nat) : Int)
  | l => ((digitsVal l : Nat) : Int)
theorem wval_nn {l : List Nat} (h : ∀ r, l ≠ 45 :: r) : wval l = ((digitsVal l : Nat) : Int) := by
  unfold wval
  split
  · exact absurd rfl (h _)
  · rfl
theorem okW_tx (i : Int) : okW' (tl (tx i)) := by
  unfold okW'
  by_cases hi : i < 0
  · rw [tl_tx_neg hi, wdig_neg]
    exact ⟨numL_dig _, numL_ne _⟩
  · rw [tl_tx_nn (by omega), wdig_nn fun r => dash_numL r]
    exact ⟨numL_dig _, numL_ne _⟩
theorem wval_tx (i : Int) : wval (tl (tx i)) = i := by
  by_cases hi : i < 0
  · rw [tl_tx_neg hi]
    show -((digitsVal _ : Nat) : Int) = i
    rw [numL_val]; omega
  · rw [tl_tx_nn (by omega), wval_nn fun r => dash_numL r, numL_val]; omega
theorem digitsVal_lt : ∀ {l : List Nat}, AllDigits l → digitsVal l < 10 ^ l.length := by
  intro l
  have key : ∀ (l : List Nat) (a : Nat), AllDigits l → l.foldl (fun acc c => acc * 10 + (c - 48)) a < (a + 1) * 10 ^ l.length := by
    intro l
    induction l with
    | nil => intro a _; simp
    | cons c l ih =>
      intro a h
      have h1 := h.head
      have h2 := ih (a * 10 + (c - 48)) h.tail
      rw [List.foldl_cons]
      refine Nat.lt_of_lt_of_le h2 ?_
      rw [List.length_cons, Nat.pow_succ, Nat.mul_comm (10 ^ l.length) 10, ← Nat.mul_assoc]
      exact (Nat.mul_le_mul_right _ (by omega))
  intro h
  have := key l 0 h
  rw [Nat.zero_add, Nat.one_mul] at this
  exact this
theorem wval_lt {l : List Nat} (h : AllDigits (wdig l)) (hl : l.length ≤ 60) : (wval l).natAbs < 10 ^ 60 := by
  have key : ∀ r : List Nat, AllDigits r → r.length ≤ 60 → digitsVal r < 10 ^ 60 := fun r h1 h2 => Nat.lt_of_lt_of_le (digitsVal_lt h1) (Nat.pow_le_pow_right (by decide) h2)
  by_cases e : ∃ r, l = 45 :: r
  · obtain ⟨r, rfl⟩ := e
    show (-((digitsVal r : Nat) : Int)).natAbs < _
    have := key r h (by simp at hl; omega)
    omega
  · have e' : ∀ r, l ≠ 45 :: r := fun r z => e ⟨r, z⟩
    rw [wval_nn e']
    rw [wdig_nn e'] at h
    have := key l h hl
    omega
/-- int(w) -/
theorem int_word {x : Str} (h : okW' (tl x)) (hl : x.length ≤ 4300) : PySem.intText? x = some (wval (tl x)) := by
  by_cases e : ∃ r, tl x = 45 :: r
  · obtain ⟨r, e⟩ := e
    unfold okW' at h
    rw [e, wdig_neg] at h
    rw [intText_neg e h.1 h.2 hl, e]; rfl
  · have e' : ∀ r, tl x ≠ 45 :: r := fun r z => e ⟨r, z⟩
    unfold okW' at h
    rw [wdig_nn e'] at h
    rw [intText_digits h.1 h.2 hl, wval_nn e']
/-! ### the text of a quotient -/
def qtx (q : Rat) : Str := if q.den = 1 then tx q.num else tx q.num ++ S [47] ++ tx (q.den : Int)
where S (l : List Nat) : Str := ⟨l.toArray⟩
abbrev slash : Str := ⟨#[47]⟩
theorem qtx_one {q : Rat} (h : q.den = 1) : qtx q = tx q.num := if_pos h
theorem qtx_two {q : Rat} (h : q.den ≠ 1) : qtx q = tx q.num ++ slash ++ tx (q.den : Int) := if_neg h
theorem part_one {x : Str} (h : 47 ∉ tl x) : Txt.partition x slash = (x, Str.empty, Str.empty) := TL.partition_none (s := 47) (S := []) rfl h
theorem part_two {a b : Str} (h : 47 ∉ tl a) : Txt.partition (a ++ slash ++ b) slash = (a, slash, b) := TL.partition_app (s := 47) (S := []) rfl h
theorem mem_slash {a b : Str} : 47 ∈ tl (a ++ slash ++ b) := by
  rw [tl_append, tl_append]
  exact List.mem_append_left _ (List.mem_append_right _ List.mem_cons_self)
/-- a list cut at its first c -/
theorem cut_inj {c : Nat} : ∀ {a a' b b' : List Nat}, c ∉ a → c ∉ a' → a ++ c :: b = a' ++ c :: b' → a = a' ∧ b = b'
  | [], [], _, _, _, _, e => ⟨rfl, (List.cons.inj e).2⟩
  | [], x :: a', _, _, _, h, e => (h (by rw [← (List.cons.inj e).1]; exact List.mem_cons_self)).elim
  | x :: a, [], _, _, h, _, e => (h (by rw [(List.cons.inj e).1]; exact List.mem_cons_self)).elim
  | x :: a, y :: a', _, _, h, h', e => by
    obtain ⟨e1, e2⟩ := List.cons.inj e
    obtain ⟨r1, r2⟩ := cut_inj (fun z => h (List.mem_cons_of_mem _ z)) (fun z => h' (List.mem_cons_of_mem _ z)) e2
    exact ⟨by rw [e1, r1], r2⟩
theorem split_one {x : Str} (h : 47 ∉ tl x) : Txt.split x slash = [x] := by
  have j := StrLaws.join_split x slash
  cases e : Txt.split x slash with
  | nil =>
    have := PyProof.Rows.split_pos x slash
    rw [e] at this
    exact absurd this (by decide)
  | cons a r =>
    rw [e] at j
    cases r with
    | nil =>
      have j' : a = x := j
      rw [j']
    | cons b r =>
      have j' : a ++ slash ++ Str.join slash (b :: r) = x := j
      exact (h (by rw [← j']; exact mem_slash)).elim
theorem split_two {a b : Str} (ha : 47 ∉ tl a) (hb : 47 ∉ tl b) : Txt.split (a ++ slash ++ b) slash = [a, b] := by
  have j := StrLaws.join_split (a ++ slash ++ b) slash
  have f := StrLaws.split_free (a ++ slash ++ b) 47
  have f' : ∀ p ∈ Txt.split (a ++ slash ++ b) slash, 47 ∉ tl p := f
  generalize Txt.split (a ++ slash ++ b) slash = ws at j f'
  match ws, j, f' with
  | [], j, _ =>
    have z := congrArg tl j
    exact absurd (show 47 ∈ tl Str.empty by rw [show Str.empty = a ++ slash ++ b from j]; exact mem_slash) (by decide)
  | [p], j, f' =>
    have j' : p = a ++ slash ++ b := j
    exact (f' p List.mem_cons_self (by rw [j']; exact mem_slash)).elim
  | p :: p2 :: r, j, f' =>
    have j' : p ++ slash ++ Str.join slash (p2 :: r) = a ++ slash ++ b := j
    have z := congrArg tl j'
    rw [tl_append, tl_append, tl_append, tl_append, List.append_assoc, List.append_assoc] at z
    obtain ⟨e1, e2⟩ := cut_inj (f' p List.mem_cons_self) ha z
    have e1' := ext_tl e1
    have e2' : Str.join slash (p2 :: r) = b := ext_tl e2
    cases r with
    | nil =>
      have e3 : p2 = b := e2'
      rw [e1', e3]
    | cons p3 r =>
      have e3 : p2 ++ slash ++ Str.join slash (p3 :: r) = b := e2'
      exact (hb (by rw [← e3]; exact mem_slash)).elim
theorem split_join (x : Str) : Str.join slash (Txt.split x slash) = x := StrLaws.join_split x slash
/-- isascii and isdigit -/
theorem dig_iff (x : Str) : (Txt.isascii x && Txt.isdigit x) = true ↔ AllDigits (tl x) ∧ tl x ≠ [] := by
  have key : ∀ c : Nat, c < 128 → (Unicode.isDigit c = true ↔ (48 ≤ c ∧ c ≤ 57)) := by decide +kernel
  unfold Txt.isascii Txt.isdigit
  rw [Bool.and_eq_true, Bool.and_eq_true, ← Array.all_toList, ← Array.all_toList, List.all_eq_true, List.all_eq_true]
  have hne : decide (x.length > 0) = true ↔ tl x ≠ [] := by
    rw [decide_eq_true_eq, len_tl]
    exact List.length_pos_iff
  constructor
  · rintro ⟨h1, h2, h3⟩
    refine ⟨fun c hc => ?_, hne.mp h2⟩
    exact (key c (of_decide_eq_true (h1 c hc))).mp (h3 c hc)
  · rintro ⟨h1, h2⟩
    refine ⟨fun c hc => ?_, hne.mpr h2, fun c hc => ?_⟩
    · have := h1 c hc
      exact (decide_eq_true (by omega))
    · have := h1 c hc
      exact (key c (by omega)).mpr this
end Q
end

section
set_option Elab.async false
set_option linter.all false
set_option maxRecDepth 100000
set_option maxHeartbeats 3900000
/-! S3: rules of texts over data. -/
namespace Q
open PySem L2
variable {Z : Zt} {ρ : Rho} {σ : St} {H H' : Hp} {O : Out} {P : D → Nat → Prop} {e a b : Expr} {pos p p1 p2 p3 px apos kpos : Pos} {X : Cx} {k j : Nat} {f C : Addr} {x n m name fld : Str} {es : List Expr} {scope : Scope} {ifs : List Expr} {elt iter : Expr}
theorem eq_any {d : D} {Q : VK} (h : EQ Z ρ e d) (S : SR Z ρ σ H) (k : ∀ v H', SR Z ρ σ H' → Same (vis ρ.B H) (vis ρ.B H') → val Z.T ρ.B (vis ρ.B H') d v → Q v H') : tAny Z.X e σ H Q :=
  ev_any (P := fun d' c' => d' = d ∧ c' = ρ.c) h S fun v H' d' c' S' e r ⟨h1, h2⟩ => by
    subst h1
    subst h2
    exact k v H' S' e r
theorem sizeS' {k : Nat} (h : k ≤ 100000) : k ≤ sizeLine := sizeS h
/-! ### slices -/
theorem ev_slFrom (h : EV Z ρ a fun d1 c1 => EV Z (ρ.wc c1) b fun d2 c2 => ∃ z i, d1 = .str z ∧ d2 = .int i ∧ z.length ≤ 100000 ∧ P (.str (Txt.slice z (some i) none)) c2) : EV Z ρ (.Subscript a (.Slice (some b) none none p2) pos) P :=
  two (r := fun x y H Q => ∃ i, y = .int i ∧ C8.rSlX x (some i) none H Q) (pe_slice C8.sl_txt pe_any (po_some pe_any) po_none) (fun σ H Q q => q) (h.mono fun d1 c1 h2 => h2.mono fun d2 c2 ⟨z, i, e1, e2, hz, hp⟩ σ H v1 v2 Q S r1 r2 kq => by
    subst e1 e2
    cases r1
    cases r2
    exact ⟨i, rfl, z, rfl, sizeS hz, kq.here (d := .str _) S hp rfl⟩)
theorem ev_slTo (h : EV Z ρ a fun d1 c1 => EV Z (ρ.wc c1) b fun d2 c2 => ∃ z i, d1 = .str z ∧ d2 = .int i ∧ z.length ≤ 100000 ∧ P (.str (Txt.slice z none (some i))) c2) : EV Z ρ (.Subscript a (.Slice none (some b) none p2) pos) P :=
  two (r := fun x y H Q => ∃ i, y = .int i ∧ C8.rSlX x none (some i) H Q) (pe_slice C8.sl_txt pe_any po_none (po_some pe_any)) (fun σ H Q q => q) (h.mono fun d1 c1 h2 => h2.mono fun d2 c2 ⟨z, i, e1, e2, hz, hp⟩ σ H v1 v2 Q S r1 r2 kq => by
    subst e1 e2
    cases r1
    cases r2
    exact ⟨i, rfl, z, rfl, sizeS hz, kq.here (d := .str _) S hp rfl⟩)
theorem eq_sl2 {c : Expr} {z : Str} {lo hi : Int} (ha : EQ Z ρ a (.str z)) (hb : EQ Z ρ b (.int lo)) (hc : EQ Z ρ c (.int hi)) (hz : z.length ≤ 100000) : EQ Z ρ (.Subscript a (.Slice (some b) (some c) none p2) pos) (.str (Txt.slice z (some lo) (some hi))) :=
  ev_of (pe_slice C8.sl_txt pe_any (po_some pe_any) (po_some pe_any)) fun σ H Q S kq => eq_any ha S fun v1 H1 S1 e1 r1 => by
    cases r1
    refine eq_any hb S1 fun v2 H2 S2 e2 r2 => ?_
    cases r2
    refine ⟨lo, rfl, eq_any hc S2 fun v3 H3 S3 e3 r3 => ?_⟩
    cases r3
    exact ⟨hi, rfl, z, rfl, sizeS hz, kq _ H3 (.str _) _ S3 (fun _ _ q => e3 _ _ (e2 _ _ (e1 _ _ q))) rfl ⟨rfl, rfl⟩⟩
/-! ### texts and numbers -/
theorem ev_sadd (h : EV Z ρ a fun d1 c1 => EV Z (ρ.wc c1) b fun d2 c2 => ∃ y z, d1 = .str y ∧ d2 = .str z ∧ y.length + z.length ≤ 100000 ∧ P (.str (y ++ z)) c2) : EV Z ρ (.BinOp a .Add b pos) P :=
  ev_two op_add_str (h.mono fun d1 c1 h2 => h2.mono fun d2 c2 ⟨y, z, e1, e2, hl, hp⟩ σ H v1 v2 Q S r1 r2 kq => by
    subst e1 e2
    exact ⟨y, z, r1, r2, sizeS hl, kq.here (d := .str _) S hp rfl⟩)
theorem eq_sadd {y z : Str} (ha : EQ Z ρ a (.str y)) (hb : EQ Z ρ b (.str z)) (h : y.length + z.length ≤ 100000) : EQ Z ρ (.BinOp a .Add b pos) (.str (y ++ z)) := ev_sadd (ha.to (EQ.to hb ⟨y, z, rfl, rfl, h, rfl, rfl⟩))
theorem ev_intS (hg : Gl Z.X "int") (hm : Z.X.mg "int" = none) (h : EA Z ρ [a] fun ds c => ∃ z i, ds = [.str z] ∧ PySem.intText? z = some i ∧ z.length ≤ 640 ∧ P (.int i) c) (he : starEach [a] Z.X.env = (false, eval a Z.X.env) :: starEach [] Z.X.env := by rfl) : EV Z ρ (.Call (.Name "int" p) [a] [] pos) P :=
  ev_typ call_int_str hg hm (by decide +kernel) (h.mono fun ds c ⟨z, i, hd, hi, hl, hp⟩ σ H vs Q S r kq => by
    subst hd
    obtain ⟨v, rfl, hv⟩ := pr1 r
    cases hv
    exact ⟨z, i, rfl, hi, hl, kq.here S hp rfl⟩) (he := he)
theorem eq_intS {z : Str} {i : Int} (hm : Z.X.mg "int" = none) (ha : EQ Z ρ a (.str z)) (h : PySem.intText? z = some i) (hl : z.length ≤ 640) (hg : Gl Z.X "int" := by rfl) (he : starEach [a] Z.X.env = (false, eval a Z.X.env) :: starEach [] Z.X.env := by rfl) : EQ Z ρ (.Call (.Name "int" p) [a] [] pos) (.int i) :=
  ev_intS hg hm (AQ.to (aq_cons ha aq_nil he) ⟨z, i, rfl, h, hl, rfl, rfl⟩) he
theorem eq_strI {i : Int} (hm : Z.X.mg "str" = none) (ha : EQ Z ρ a (.int i)) (h : i.natAbs.log2 < 1920) (hg : Gl Z.X "str" := by rfl) (he : starEach [a] Z.X.env = (false, eval a Z.X.env) :: starEach [] Z.X.env := by rfl) : EQ Z ρ (.Call (.Name "str" p) [a] [] pos) (.str (tx i)) :=
  ev_typ call_str_int hg hm (by decide +kernel) ((AQ.to (P := fun ds c => ds = [.int i] ∧ c = ρ.c) (aq_cons ha aq_nil he) ⟨rfl, rfl⟩).mono fun ds c ⟨hd, hc⟩ σ H vs Q S r kq => by
    subst hd
    obtain ⟨v, rfl, hv⟩ := pr1 r
    cases hv
    exact ⟨i, rfl, h, kq.here (d := .str (tx i)) S ⟨rfl, hc⟩ rfl⟩) (he := he)
theorem eq_lenS {z : Str} (hm : Z.X.mg "len" = none) (ha : EQ Z ρ a (.str z)) (h : z.length ≤ 100000) (hg : Gl Z.X "len" := by rfl) (he : starEach [a] Z.X.env = (false, eval a Z.X.env) :: starEach [] Z.X.env := by rfl) : EQ Z ρ (.Call (.Name "len" p) [a] [] pos) (.int (z.length : Nat)) :=
  ev_blt call_len_str hg hm (by decide +kernel) ((AQ.to (P := fun ds c => ds = [.str z] ∧ c = ρ.c) (aq_cons ha aq_nil he) ⟨rfl, rfl⟩).mono fun ds c ⟨hd, hc⟩ σ H vs Q S r kq => by
    subst hd
    obtain ⟨v, rfl, hv⟩ := pr1 r
    cases hv
    exact ⟨z, rfl, sizeS h, kq.here (d := .int (z.length : Nat)) S ⟨rfl, hc⟩ rfl⟩) (he := he)
/-! ### methods -/
theorem ev_m1S {r : V → List V → Hp → VK → Prop} (p : PE Z.X e (tM1 r (tAny Z.X a) (tAny Z.X b)))
    (h : EV Z ρ a fun d1 c1 => ∃ z, d1 = .str z ∧ EV Z (ρ.wc c1) b fun d2 c2 => ∀ σ H v2 (Q : VK), SR Z (ρ.wc c2) σ H → val Z.T ρ.B (vis ρ.B H) d2 v2 → Post Z (ρ.wc c2) σ H P Q → r (.str z) [v2] H Q) : EV Z ρ e P :=
  ev_of p fun σ H Q S kq => ev_any h S fun v1 H1 d1 c1 S1 e1 r1 ⟨z, hz, h2⟩ => by
    subst hz
    cases r1
    exact ⟨⟨z, rfl⟩, ev_any h2 S1 fun v2 H2 d2 c2 S2 e2 r2 h3 => h3 σ H2 v2 Q S2 r2 fun v H' d c' S' e' r' p => kq v H' d c' S' (fun _ _ q => e' _ _ (e2 _ _ (e1 _ _ q))) r' p⟩
theorem ev_m0S {r : V → List V → Hp → VK → Prop} (p : PE Z.X e (tM0 r (tAny Z.X a)))
    (h : EV Z ρ a fun d1 c1 => ∃ z, d1 = .str z ∧ ∀ σ H (Q : VK), SR Z (ρ.wc c1) σ H → Post Z (ρ.wc c1) σ H P Q → r (.str z) [] H Q) : EV Z ρ e P :=
  ev_of p fun σ H Q S kq => ev_any h S fun v1 H1 d1 c1 S1 e1 r1 ⟨z, hz, h2⟩ => by
    subst hz
    cases r1
    exact ⟨⟨z, rfl⟩, h2 σ H1 Q S1 (kq.from (c := c1) e1)⟩
theorem eq_removeprefix {y z : Str} (ha : EQ Z ρ a (.str z)) (hb : EQ Z ρ b (.str y)) (h : z.length ≤ 100000) (hs : starEach [b] Z.X.env = [(false, eval b Z.X.env)] := by rfl) (hbase : attributeBase a "removeprefix" Z.X.env (eval a Z.X.env) = eval a Z.X.env := by rfl)
    (hline : (apos.endLine == pos.line) = true := by rfl) : EQ Z ρ (.Call (.Attribute a "removeprefix" apos) [b] [] pos) (.str (Txt.removeprefix z y)) :=
  ev_m1S (pe_m1 PySem.F.slot_str_removeprefix PySem.F.type_str_removeprefix mt_removeprefix pe_any pe_any hs hbase hline) (ha.to ⟨z, rfl, EQ.to hb fun σ H v2 Q S r2 kq => by
    cases r2
    exact ⟨z, y, rfl, rfl, sizeS h, kq.here (d := .str _) S ⟨rfl, rfl⟩ rfl⟩⟩)
theorem eq_zfill {z : Str} {i : Int} (ha : EQ Z ρ a (.str z)) (hb : EQ Z ρ b (.int i)) (h : PadOk i = true) (hs : starEach [b] Z.X.env = [(false, eval b Z.X.env)] := by rfl) (hbase : attributeBase a "zfill" Z.X.env (eval a Z.X.env) = eval a Z.X.env := by rfl)
    (hline : (apos.endLine == pos.line) = true := by rfl) : EQ Z ρ (.Call (.Attribute a "zfill" apos) [b] [] pos) (.str (Txt.zfill z i)) :=
  ev_m1S (pe_m1 PySem.F.slot_str_zfill PySem.F.type_str_zfill mt_zfill pe_any pe_any hs hbase hline) (ha.to ⟨z, rfl, EQ.to hb fun σ H v2 Q S r2 kq => by
    cases r2
    exact ⟨z, i, rfl, rfl, h, kq.here (d := .str _) S ⟨rfl, rfl⟩ rfl⟩⟩)
theorem eq_isascii {z : Str} (ha : EQ Z ρ a (.str z)) (hbase : attributeBase a "isascii" Z.X.env (eval a Z.X.env) = eval a Z.X.env := by rfl) (hline : (apos.endLine == pos.line) = true := by rfl) : EQ Z ρ (.Call (.Attribute a "isascii" apos) [] [] pos) (.bl (Txt.isascii z)) :=
  ev_m0S (pe_m0 PySem.F.slot_str_isascii PySem.F.type_str_isascii mt_isascii pe_any hbase hline) (ha.to ⟨z, rfl, fun σ H Q S kq => ⟨z, rfl, rfl, trivial, kq.here (d := .bl _) S ⟨rfl, rfl⟩ rfl⟩⟩)
theorem eq_isdigit {z : Str} (ha : EQ Z ρ a (.str z)) (hbase : attributeBase a "isdigit" Z.X.env (eval a Z.X.env) = eval a Z.X.env := by rfl) (hline : (apos.endLine == pos.line) = true := by rfl) : EQ Z ρ (.Call (.Attribute a "isdigit" apos) [] [] pos) (.bl (Txt.isdigit z)) :=
  ev_m0S (pe_m0 PySem.F.slot_str_isdigit PySem.F.type_str_isdigit mt_isdigit pe_any hbase hline) (ha.to ⟨z, rfl, fun σ H Q S kq => ⟨z, rfl, rfl, trivial, kq.here (d := .bl _) S ⟨rfl, rfl⟩ rfl⟩⟩)
/-- x.partition(y) -/
theorem eq_partition {y z : Str} (ha : EQ Z ρ a (.str z)) (hb : EQ Z ρ b (.str y)) (h : z.length ≤ 100000) (hy : (y.length == 0) = false) (hs : starEach [b] Z.X.env = [(false, eval b Z.X.env)] := by rfl) (hbase : attributeBase a "partition" Z.X.env (eval a Z.X.env) = eval a Z.X.env := by rfl)
    (hline : (apos.endLine == pos.line) = true := by rfl) : EQ Z ρ (.Call (.Attribute a "partition" apos) [b] [] pos) (.tup [.str (Txt.partition z y).1, .str (Txt.partition z y).2.1, .str (Txt.partition z y).2.2]) :=
  ev_m1S (pe_partition pe_any pe_any hs hbase hline) (ha.to ⟨z, rfl, EQ.to hb fun σ H v2 Q S r2 kq => by
    cases r2
    refine ⟨z, y, rfl, rfl, hy, sizeS h, fun q hq => ?_⟩
    have S' := S.same (same_new (o := .tup [.str (Txt.partition z y).1, .str (Txt.partition z y).2.1, .str (Txt.partition z y).2.2]) hq)
    exact kq _ _ _ _ S' (Same.vis_ (same_new hq)) (.of (d := .tup [.str (Txt.partition z y).1, .str (Txt.partition z y).2.1, .str (Txt.partition z y).2.2]) ⟨q, _, rfl, new_at S hq, ⟨_, _, rfl, rfl, _, _, rfl, rfl, _, _, rfl, rfl, rfl⟩⟩) ⟨rfl, rfl⟩⟩)
theorem reps_strs {T : Tab} {G : Hp} : ∀ ys : List Str, reps T G (ys.map .str) (ys.map V.str)
  | [] => rfl
  | y :: ys => ⟨_, _, rfl, rfl, reps_strs ys⟩
/-- x.split(y) -/
theorem eq_split {y z : Str} (ha : EQ Z ρ a (.str z)) (hb : EQ Z ρ b (.str y)) (h : z.length + 2 ≤ 100000) (hy : (y.length == 0) = false) (hs : starEach [b] Z.X.env = [(false, eval b Z.X.env)] := by rfl) (hbase : attributeBase a "split" Z.X.env (eval a Z.X.env) = eval a Z.X.env := by rfl)
    (hline : (apos.endLine == pos.line) = true := by rfl) : EQ Z ρ (.Call (.Attribute a "split" apos) [b] [] pos) (.lst ((Txt.split z y).map .str)) :=
  ev_m1S (pe_split pe_any pe_any hs hbase hline) (ha.to ⟨z, rfl, EQ.to hb fun σ H v2 Q S r2 kq => by
    cases r2
    refine ⟨z, y, rfl, rfl, hy, sizeS h, fun q hq => ?_⟩
    have S' := S.same (same_new (o := .lst ((Txt.split z y).map V.str)) hq)
    exact kq _ _ _ _ S' (Same.vis_ (same_new hq)) (.of (d := .lst _) ⟨q, _, rfl, new_at S hq, reps_strs _⟩) ⟨rfl, rfl⟩⟩)
theorem reps_strs_inv {T : Tab} {G : Hp} : ∀ {ys : List Str} {vs : List V}, reps T G (ys.map .str) vs → vs = ys.map V.str
  | [], _, h => h
  | y :: ys, _, ⟨v, r, e, h1, h2⟩ => by
    have h1' : v = .str y := h1
    rw [e, h1', reps_strs_inv h2]; rfl
/-- x.join(reversed(l)) -/
theorem eq_joinRev {y : Str} {ys : List Str} (hK : Z.X.K = Z.T.K) (hm : Z.X.mg "reversed" = none) (ha : EQ Z ρ a (.str y)) (hb : EQ Z ρ b (.lst (ys.map .str))) (h : (ys.map (·.length)).sum + ys.length * y.length ≤ 16777216) (hg : Gl Z.X "reversed" := by rfl) (hc : Z.X.calm = true := by rfl)
    (hs1 : starEach [.Call (.Name "reversed" p) [b] [] p2] Z.X.env = [(false, eval (.Call (.Name "reversed" p) [b] [] p2) Z.X.env)] := by rfl)
    (hs : starEach [b] Z.X.env = (false, eval b Z.X.env) :: starEach [] Z.X.env := by rfl)
    (hbase : attributeBase a "join" Z.X.env (eval a Z.X.env) = eval a Z.X.env := by rfl) (hline : (apos.endLine == pos.line) = true := by rfl) : EQ Z ρ (.Call (.Attribute a "join" apos) [.Call (.Name "reversed" p) [b] [] p2] [] pos) (.str (Txt.join y ys.reverse)) :=
  ev_of (pe_joinRev hc pe_any hg hm pe_any hs1 hs hbase hline) fun σ H Q S kq => eq_any ha S fun v1 H1 S1 e1 r1 => by
    cases r1
    refine ⟨⟨y, rfl⟩, eq_any hb S1 fun v2 H2 S2 e2 r2 => ?_⟩
    obtain ⟨q, vs, rfl, h3, h4⟩ := r2
    have e := reps_strs_inv h4
    subst e
    rw [hK]
    exact ⟨y, q, ys, rfl, rfl, .inl (.inl (vis_some h3)), h, kq _ H2 (.str _) _ S2 (fun _ _ q => e2 _ _ (e1 _ _ q)) rfl ⟨rfl, rfl⟩⟩
/-! ### tests -/
theorem tq_str {z : Str} (h : EQ Z ρ a (.str z)) (hl : z.length ≤ 100000) (he : ∀ whole, isTrue a Z.X.env whole = (do let v ← whole; standAt a.pos; holding [v] (truthy v)) := by intro _; rfl) : TQ Z ρ a (decide (z.length ≠ 0)) :=
  et_of (pt_truth pe_any he) fun σ H Q S kq => ev_any h S fun v H1 d c S1 e1 r ⟨hd, hc⟩ => by
    subst hd
    cases r
    refine ⟨_, ⟨sizeS hl, ?_⟩, kq (decide (z.length ≠ 0)) H1 c S1 e1 ⟨rfl, hc⟩⟩
    by_cases e : z.length = 0 <;> simp [e]
/-- a sign not in a text -/
theorem eq_notInS {c : Nat} {z : Str} (ha : EQ Z ρ a (.str ⟨#[c]⟩)) (hb : EQ Z ρ b (.str z)) (hm : behindInMarks .NotIn b = false := by rfl) : EQ Z ρ (.Compare a [.NotIn] [b] pos) (.bl (!decide (c ∈ z.cps.toList))) :=
  ev_cmp2 op_notInS hm (ha.to (EQ.to hb fun σ H v1 v2 Q S r1 r2 kq => by
    cases r1
    cases r2
    exact ⟨c, z, rfl, rfl, kq.here (d := .bl _) S ⟨rfl, rfl⟩ rfl⟩))
/-- None in a list of integers and None -/
def intN : Option Int → D
  | none => .non
  | some i => .int i
def intNv : Option Int → V
  | none => .non
  | some i => .int i
theorem reps_intN {T : Tab} {G : Hp} : ∀ {l : List (Option Int)} {vs : List V}, reps T G (l.map intN) vs → vs = l.map intNv
  | [], _, h => h
  | x :: l, _, ⟨v, r, e, h1, h2⟩ => by
    have h1' : v = intNv x := by cases x <;> exact h1
    rw [e, h1', reps_intN h2]; rfl
theorem inV_intN : ∀ l : List (Option Int), inV .non (l.map intNv) = l.any (·.isNone) := by
  intro l
  unfold inV
  rw [List.any_map]
  congr 1
  funext x
  cases x <;> rfl
theorem flat_intN (l : List (Option Int)) : (l.map intNv).all flatV = true := by
  rw [List.all_map, List.all_eq_true]
  intro x _
  cases x <;> rfl
theorem tq_noneIn {l : List (Option Int)} (hK : Z.X.K = Z.T.K) (ha : EQ Z ρ a .non) (hb : EQ Z ρ b (.lst (l.map intN))) (hm : behindInMarks .In b = false := by rfl) : TQ Z ρ (.Compare a [.In] [b] pos) (l.any (·.isNone)) :=
  et_cmp2 op_in_seq hm (ha.to (EQ.to hb fun σ H v1 v2 Q S r1 r2 kq => by
    cases r1
    obtain ⟨q, vs, rfl, h1, h2⟩ := r2
    have e := reps_intN h2
    subst e
    rw [hK]
    refine ⟨q, _, rfl, .inl (.inl (.inl (vis_some h1))), rfl, flat_intN l, ?_⟩
    show Q (.bl (inV .non (l.map intNv))) H
    rw [inV_intN]
    exact kq.here (d := .bl _) S ⟨_, rfl, rfl, rfl⟩ rfl))
/-! ### f"{a}/{b}" -/
theorem eq_joined {y z t : Str} {j} (ha : EQ Z ρ a (.str y)) (hb : EQ Z ρ b (.str z)) (h : y.length + t.length + z.length ≤ 100000) : EQ Z ρ (.JoinedStr [.FormattedValue a (-1) none p1, .Constant (.str t) j p2, .FormattedValue b (-1) none p3] pos) (.str (y ++ t ++ z)) :=
  ev_of (pe_joined (.cons (pe_fmt pe_any) (.cons pe_str (.cons (pe_fmt pe_any) .nil)))) fun σ H Q S kq => by
    have emp : ∀ u : Str, Str.empty ++ u = u := fun u => TL.ext_tl (by rw [TL.tl_append]; rfl)
    refine eq_any ha S fun v1 H1 S1 e1 r1 => ?_
    cases r1
    refine .inl ⟨y, rfl, sizeS (by omega), y, rfl, by rw [emp]; exact sizeS (by omega), t, rfl, by rw [emp, Str.length_append]; exact sizeS (by omega), ?_⟩
    refine eq_any hb S1 fun v2 H2 S2 e2 r2 => ?_
    cases r2
    refine .inl ⟨z, rfl, sizeS (by omega), z, rfl, by rw [emp, Str.length_append, Str.length_append]; exact sizeS (by omega), ?_⟩
    rw [emp]
    exact kq _ H2 (.str _) _ S2 (fun _ _ q => e2 _ _ (e1 _ _ q)) rfl ⟨rfl, rfl⟩
/-! ### x, y, z = a tuple -/
theorem st_unp3 (i j l : Nat) {x y z : Str} {px py pz pt : Pos} {kt : Nat} (ok : Zok Z) (h : EV Z ρ e fun d c => ∃ d1 d2 d3, d = .tup [d1, d2, d3] ∧ O.nx ((((ρ.wc c).set i d1).set j d2).set l d3))
    (hi : Z.X.N[i]? = some x := by rfl) (hj : Z.X.N[j]? = some y := by rfl) (hl : Z.X.N[l]? = some z := by rfl)
    (hx : Loc Z.X.env.scope x := by first | exact Or.inl rfl | exact Or.inr rfl) (hy : Loc Z.X.env.scope y := by first | exact Or.inl rfl | exact Or.inr rfl) (hz : Loc Z.X.env.scope z := by first | exact Or.inl rfl | exact Or.inr rfl)
    (fx : Z.X.fn x = true ∨ Z.X.env.scope.names.lookup x = some .local := by first | exact .inl rfl | exact .inr rfl) (fy : Z.X.fn y = true ∨ Z.X.env.scope.names.lookup y = some .local := by first | exact .inl rfl | exact .inr rfl) (fz : Z.X.fn z = true ∨ Z.X.env.scope.names.lookup z = some .local := by first | exact .inl rfl | exact .inr rfl)
    (hs : swapsWithSole [.Tuple [.Name x px, .Name y py, .Name z pz] kt pt] e pos.line Z.X.env = pure false := by rfl) (hw : swappedStores [.Tuple [.Name x px, .Name y py, .Name z pz] kt pt] e Z.X.env = pure none := by rfl)
    (h1 : (assignEach [.Tuple [.Name x px, .Name y py, .Name z pz] kt pt] Z.X.env).map (·.2) = [assign (.Tuple [.Name x px, .Name y py, .Name z pz] kt pt) Z.X.env] := by rfl)
    (hn : (assignEach [.Name x px, .Name y py, .Name z pz] Z.X.env).length = 3 := by rfl) (hst : (assignEach [.Name x px, .Name y py, .Name z pz] Z.X.env).findIdx? (·.1) = none := by rfl)
    (a1 : (assignEach [.Name x px, .Name y py, .Name z pz] Z.X.env).map (·.2) = assign (.Name x px) Z.X.env :: (assignEach [.Name y py, .Name z pz] Z.X.env).map (·.2) := by rfl)
    (a2 : (assignEach [.Name y py, .Name z pz] Z.X.env).map (·.2) = assign (.Name y py) Z.X.env :: (assignEach [.Name z pz] Z.X.env).map (·.2) := by rfl)
    (a3 : (assignEach [.Name z pz] Z.X.env).map (·.2) = assign (.Name z pz) Z.X.env :: (assignEach [] Z.X.env).map (·.2) := by rfl) (hc : Z.X.calm = true := by rfl) :
    ST Z ρ (.Assign [.Tuple [.Name x px, .Name y py, .Name z pz] kt pt] e pos) O :=
  st_of (ps_asg pe_any (pg_tup (n := 3) hc (pgs_cons (pg_name ok.nd hi hx fx) (pgs_cons (pg_name ok.nd hj hy fy) (pgs_cons (pg_name ok.nd hl hz fz) pgs_nil a3) a2) a1) hn hst) hs hw h1) fun D σ H S kq => ev_any h S fun v H' d c' S' _ r ⟨d1, d2, d3, hd, hp⟩ => by
    subst hd
    obtain ⟨q, vs, rfl, h2, h3⟩ := r
    obtain ⟨v1, r1, rfl, k1, v2, r2, rfl, k2, v3, r3, rfl, k3, k4⟩ := h3
    have e4 : r3 = [] := k4
    subst e4
    rw [ok.K]
    exact ⟨q, _, rfl, .inl (.inl (vis_some h2)), rfl, v1, _, rfl, v2, _, rfl, v3, _, rfl, rfl, kq.nx _ _ _ (((S'.set i (slot_of (.of k1))).set j (slot_of (.of k2))).set l (slot_of (.of k3))) hp⟩
/-! ### a comprehension over a text -/
def chD (z : Str) : List D := z.cps.toList.map fun c => .str ⟨#[c]⟩
def chV (z : Str) : List V := z.cps.toList.map fun c => .str ⟨#[c]⟩
theorem chs_rep {T : Tab} {G : Hp} (z : Str) : reps T G (chD z) (chV z) := by
  unfold chD chV
  induction z.cps.toList with
  | nil => rfl
  | cons c l ih => exact ⟨_, _, rfl, rfl, ih⟩
theorem lc_its {x : Str} {g : TG} {tt : TT} {te : TE} {vs : List Nat} {σ : St} {H1 : Hp} {D : Addr} {Qd : Hp → Prop} (Pv : Nat → Hp → Prop) (h0 : Pv 0 (upd H1 D (.lst [])))
    (hs : ∀ i v H, (chV x)[i]? = some v → Pv i H → g v (wipe σ vs) H fun σ2 H2 => wipe σ2 vs = wipe σ vs ∧ tt σ2 H2 fun b H3 =>
      if b = true then te σ2 H3 fun y H4 => ∃ acc, H4 D = some (.lst acc) ∧ acc.length < sizeLine ∧ Pv (i + 1) (upd H4 D (.lst (acc ++ [y]))) else Pv (i + 1) H3) (hd : ∀ H, Pv (chV x).length H → Qd H) :
    ∃ W : Nat → Nat → Hp → Prop, (∃ m, W 0 m (upd H1 D (.lst []))) ∧
      ∀ i m H, W i m H → ((Its x).stop i H ∧ Qd H) ∨ ((Its x).go i H ∧ ∃ Nx : Hp → Prop, (∀ H', Nx H' → ∃ m', m' < m ∧ W (i + 1) m' H') ∧ ∀ v H', (Its x).yld i H v H' → g v (wipe σ vs) H' fun σ2 H2 => wipe σ2 vs = wipe σ vs ∧ tt σ2 H2 fun b H3 =>
        if b = true then te σ2 H3 fun y H4 => ∃ acc, H4 D = some (.lst acc) ∧ acc.length < sizeLine ∧ Nx (upd H4 D (.lst (acc ++ [y])))
        else Nx H3) := by
  have hlen : (chV x).length = x.cps.size := by unfold chV; simp
  refine ⟨fun i m H => m = x.cps.size - i ∧ i ≤ x.cps.size ∧ Pv i H, ⟨x.cps.size, by simp, Nat.zero_le _, h0⟩, ?_⟩
  rintro i m H ⟨rfl, hi, pv⟩
  by_cases hlt : i < x.cps.size
  · refine .inr ⟨hlt, Pv (i + 1), fun H' p' => ⟨x.cps.size - (i + 1), by omega, rfl, hlt, p'⟩, fun v H' y => ?_⟩
    obtain ⟨e, c, hc, hv⟩ := y
    subst e
    refine hs i v _ ?_ pv
    unfold chV
    rw [List.getElem?_map, Array.getElem?_toList, hc, hv]; rfl
  · have e : i = x.cps.size := by omega
    subst e
    exact .inl ⟨Nat.le_refl _, hd H (by rw [hlen]; exact pv)⟩
theorem lc_tS (i : Nat) (ok : Zok Z) (h : EV Z ρ iter fun d c => ∃ z, d = .str z ∧ lcs Z scope ρ.s i ifs elt P (chD z) [] c) {Q : VK} (S : SR Z ρ σ H) (k : Post Z ρ σ H P Q) : tLc (iStr (tAny Z.X iter)) (gName i) (tLcTest Z.X scope ifs) (tLcElt Z.X scope elt) [i] σ H Q := by
  refine ev_any h S fun v H1 d c S1 e1 r ⟨z, hz, hL⟩ => ?_
  subst hz
  cases r
  have hrs : reps Z.T (vis ρ.B H1) (chD z) (chV z) := chs_rep z
  refine ⟨z, rfl, fun D hd => ?_⟩
  have b0 : ρ.B D = none := S1.ok.fresh hd
  refine lc_its (x := z) (fun j H => ∃ c acc vs, LcS Z ρ.B D H1 acc c H vs ∧ lcs Z scope ρ.s i ifs elt P ((chD z).drop j) acc c) ⟨c, [], [], LcS.start (ρ := ρ.wc c) S1 hd, hL⟩ (fun j x0 H hj ⟨c2, acc, vs, L, hl2⟩ => ?_) (fun H ⟨c2, acc, vs, L, hl2⟩ => ?_)
  · have lt : j < (chD z).length := by
      have := (List.getElem?_eq_some_iff.mp hj).1
      rw [hrs.len] at this
      exact this
    obtain ⟨w, hw, rw_⟩ := hrs.get (List.getElem?_eq_getElem lt)
    have ex : w = x0 := Option.some.inj (hw.symm.trans hj)
    subst ex
    rw [List.drop_eq_getElem_cons lt] at hl2
    have sl : slots Z.T (hideAt ρ.B D (some (.lst vs))) (vis (hideAt ρ.B D (some (.lst vs))) H) ((ρ.s.set i none).set i (some (chD z)[j])) ((σ.set i none).set i (some w)) :=
      ((slots_B (hide_of b0) (S1.sl.unset i)).mono L.sm).set (slot_of (.of (rw_.mono L.sm))) i
    have S2 := L.sr (ρ := ρ.wc c) S1 hd sl
    refine ⟨?_, fun s1 H1' C cl fp => ?_⟩
    · show ((σ.set i none).set i (some w)).set i none = σ.set i none
      rw [List.set_set, List.set_set]
    · have step := hl2 (hideAt ρ.B D (some (.lst vs))) s1 H1' C cl fp ok.blk
      have go : ∀ b H3 c3, SR (Z.blk s1 H1' scope C cl fp) ⟨hideAt ρ.B D (some (.lst vs)), (ρ.s.set i none).set i (some (chD z)[j]), c3⟩ ((σ.set i none).set i (some w)) H3 → Same (vis (hideAt ρ.B D (some (.lst vs))) H) (vis (hideAt ρ.B D (some (.lst vs))) H3) →
          onB b (∀ s2 H2 C2 cl2 fp2, Zok (Z.blk s2 H2 scope C2 cl2 fp2) → EV (Z.blk s2 H2 scope C2 cl2 fp2) ⟨hideAt ρ.B D (some (.lst vs)), (ρ.s.set i none).set i (some (chD z)[j]), c3⟩ elt fun d c'' => plain d = true ∧ acc.length < 100000 ∧ lcs Z scope ρ.s i ifs elt P ((chD z).drop (j + 1)) (acc ++ [d]) c'') (lcs Z scope ρ.s i ifs elt P ((chD z).drop (j + 1)) acc c3) →
          if b = true then tLcElt Z.X scope elt ((σ.set i none).set i (some w)) H3 (fun y H4 => ∃ acc, H4 D = some (.lst acc) ∧ acc.length < sizeLine ∧ ∃ c acc' vs, LcS Z ρ.B D H1 acc' c (upd H4 D (.lst (acc ++ [y]))) vs ∧ lcs Z scope ρ.s i ifs elt P ((chD z).drop (j + 1)) acc' c)
          else ∃ c acc vs, LcS Z ρ.B D H1 acc c H3 vs ∧ lcs Z scope ρ.s i ifs elt P ((chD z).drop (j + 1)) acc c := fun b H3 c3 S3 e3 hb => by
        cases b with
        | false => exact ⟨c3, acc, vs, L.go S3.ok e3, hb.2 rfl⟩
        | true =>
          refine fun s2 H2 C2 cl2 fp2 => ev_any (hb.1 rfl s2 H2 C2 cl2 fp2 ok.blk) S3.ofBlk.blk fun y H4 d c4 S4 e4 r4 ⟨hp, hz, h4⟩ => ?_
          have L4 := (L.go S3.ok e3).go S4.ok e4
          exact ⟨vs, L4.at_, Nat.lt_of_lt_of_le (by rw [L.re.len]; exact hz) (by decide), c4, acc ++ [d], vs ++ [y], L4.put (val_rep r4 hp), h4⟩
      cases ifs with
      | nil => exact ⟨tYes, pts_nil, go true H c2 S2.blk (fun _ _ q => q) step⟩
      | cons t ts =>
        cases ts with
        | nil => exact ⟨_, pts_one pt_any, et_any step S2.blk fun b H3 c3 S3 e3 hb => go b H3 c3 S3 e3 hb⟩
        | cons _ _ => exact (show False from step).elim
  · rw [List.drop_of_length_le (by rw [hrs.len]; exact Nat.le_refl _)] at hl2
    obtain ⟨S3, e3, r3⟩ := L.fin (ρ := ρ.wc c) S1 hd
    exact k _ H (.lst acc) c2 S3 (fun _ _ q => e3 _ _ (e1 _ _ q)) (.of r3) hl2
/-- [.. for x in a text ..] -/
theorem ev_lcS (i : Nat) (ok : Zok Z) (hb : BlkOk Z.X.N Z.X.env.scope scope [(x, i)]) (hi : Z.X.N[i]? = some x := by rfl) (hx : scope.names.lookup x = some .local := by rfl)
    (h : EV Z ρ iter fun d c => ∃ z, d = .str z ∧ lcs Z scope ρ.s i ifs elt P (chD z) [] c) (hc : Z.X.calm = true := by rfl) (hs : ∀ x, foldedSetIterable iter Z.X.env x = pure x := by intro _; rfl) :
    EV Z ρ (.ListComp elt [⟨.Name x px, iter, ifs, 0⟩] scope pos) P := by
  have loc : ∀ C cl, Loc (compEnvC scope cl C Z.X.env).scope x := fun C cl => .inl (lookup_relabel_local hx)
  refine ev_of (pe_lc (wi := iStr (tAny Z.X iter)) (g := gName i) (tt := tLcTest Z.X scope ifs) (te := tLcElt Z.X scope elt) hc ok.nd (pi_str pe_any) hb (fun s H C cl fp => pg_name ok.nd hi (loc C cl) (.inr (lookup_relabel_local hx)))
    (fun s H C cl fp => ⟨fun pins s' σ H' Q I h => let ⟨t, p, q⟩ := h s H C cl fp; p.run pins s' σ H' Q I q⟩) (fun s H C cl fp => ⟨fun pins s' σ H' Q I h => pe_any.run pins s' σ H' Q I (h s H C cl fp)⟩) hs) fun σ H Q S k => lc_tS i ok h S k
end Q
end

section
set_option Elab.async false
set_option linter.all false
set_option maxRecDepth 100000
set_option maxHeartbeats 3900000
/-! S4: classmethods, by place and by keyword; a class that a local holds, called. -/
namespace Q
open PySem L2
variable {Z : Zt} {ρ : Rho} {σ : St} {H H' : Hp} {O : Out} {P : D → Nat → Prop} {P' : D → Nat → Prop} {e a b o : Expr} {pos p apos kpos : Pos} {X : Cx} {k j : Nat} {f C g q : Addr} {F : Fw} {x n m name : Str} {es : List Expr} {kws : List Keyword} {ks : List Str} {sp : Sp} {mc : Value} {W : WX} {pl : Sem Bool}

theorem run_cmW {pins : List (Addr × Obj)} {s : Shared} {Q : VK} {us : List Value} {vs : List V} (G : FnG X.prog X.w X.K X.mg X.base (L2.CX X.prog X.w) k g sp) (hr : RoomG k X.A) (tk : Takes X W)
    (I : Inv X ((q, PySem.W.methodObj (.ref g) (.ref C)) :: pins) σ H s) (r : Vals vs us) (h : sp (.ref C :: vs) H Q (fun c d H' => W c d σ H')) : wpAny (model X.prog X.w) X.A (call (.ref q) us) (EP X pins σ Q) X.xe s := by
  refine wpAny_call (PySem.W.method_call (ClX.pin_at I) (codeAny_mono (G X.A X.stack s H (Value.ref C :: us) (V.ref C :: vs) Q _ hr I.env0 (.cons rfl r) h) ?_))
  intro r s' hq
  match r, hq with
  | .error er, hq => exact tk er s' (XE.of_call (ClX.unpin I) (fun _ _ _ z => z) hq)
  | .ok (.ret u), hq => exact (ClX.unpin I).after hq
theorem run_cmK {pins : List (Addr × Obj)} {s : Shared} {Q : VK} {us ws : List Value} {vs zs : List V} {i : Nat} {r : Bool} (G : FnK X.prog X.w X.K X.mg X.base (L2.CX X.prog X.w) k g (i + 1) ks r sp) (hr : RoomG k X.A) (tk : Takes X W)
    (I : Inv X ((q, PySem.W.methodObj (.ref g) (.ref C)) :: pins) σ H s) (rv : Vals vs us) (rz : Vals zs ws) (l1 : vs.length = i) (l2 : zs.length = ks.length) (h : sp (kg r (.ref C :: vs) zs) H Q (fun c d H' => W c d σ H')) :
    wpAny (model X.prog X.w) X.A (call (.ref q) us (ks.zip ws)) (EP X pins σ Q) X.xe s := by
  refine wpAny_call (PySem.W.method_call (ClX.pin_at I) (codeAny_mono (G X.A X.stack s H (Value.ref C :: us) ws (V.ref C :: vs) zs Q _ hr I.env0 (.cons rfl rv) rz (congrArg Nat.succ l1) l2 h) ?_))
  intro r s' hq
  match r, hq with
  | .error er, hq => exact tk er s' (XE.of_call (ClX.unpin I) (fun _ _ _ z => z) hq)
  | .ok (.ret u), hq => exact (ClX.unpin I).after hq
def tCmW (X : Cx) (C : Addr) (o : Expr) (es : List Expr) (sp : Sp) (W : WX) : TE := fun σ H Q => tAny X o σ H fun x H1 => x = .ref C ∧ taAny X es σ H1 fun vs H2 => sp (.ref C :: vs) H2 Q (fun c d H' => W c d σ H')
theorem pe_cmW {p : Addr} (r : ClX.CRead X.K C mc) (c : ClX.CMet X.K C mc m p g) (G : FnG X.prog X.w X.K X.mg X.base (L2.CX X.prog X.w) k g sp) (hr : RoomG k X.A) (tk : Takes X W)
    (hst : starEach (e :: es) X.env = (false, eval e X.env) :: starEach es X.env := by rfl)
    (hpl : (backTo pos (starEach es X.env)).any (·.1) = false := by rfl)
    (ht : eval (.Call (.Attribute o m apos)
      (e :: es) [] pos) X.env = (do
      let ov ← eval o X.env
      standAt apos.atName
      let (f, first) ← holding [ov]
        (getMethod ov m pl)
      callWith pos f first (backTo pos (starEach (e :: es) X.env))
        (backToKw pos (keywordEach [] X.env))) := by rfl) :
    PE X (.Call (.Attribute o m apos) (e :: es) [] pos) (tCmW X C o (e :: es) sp W) := by
  refine ⟨fun pins s σ H Q I h => PySem.W.methodCall_KW (pl := pl) (thn (pe_any.run pins s σ H _ I h) fun u s1 ⟨x, H1, I1, rx, ex, q⟩ => ?_) ht⟩
  subst ex
  obtain rfl : u = Value.ref C := rx; refine ClX.getmethcm_ok I1 r c fun s2 I2 => ClX.callwith_cm I2 (ClX.base_none I1 (Nat.le_refl _)) c.fi (thn (pa_any.run pos _ s2 σ H1 _ I2 q) fun us s3 ⟨vs, H2, I3, rv, q2⟩ => ⟨⟨ClX.pin_at I3, I3.kIn⟩, ?_⟩) hst hpl
  exact run_cmW G hr tk I3 rv q2
def tCmK (X : Cx) (C : Addr) (o : Expr) (kws : List Keyword) (ks : List Str) (r : Bool) (sp : Sp) (W : WX) : TE := fun σ H Q => tAny X o σ H fun x H1 => x = .ref C ∧ tkAny X kws σ H1 fun zs H2 => zs.length = ks.length ∧ sp (kg r [.ref C] zs) H2 Q (fun c d H' => W c d σ H')
theorem pe_cmK {p : Addr} {r' : Bool} (r : ClX.CRead X.K C mc) (c : ClX.CMet X.K C mc m p g) (G : FnK X.prog X.w X.K X.mg X.base (L2.CX X.prog X.w) k g 1 ks r' sp) (hr : RoomG k X.A) (tk : Takes X W)
    (hall : (backToKw pos (keywordEach kws X.env)).all (·.1.isSome) = true := by rfl)
    (hks : (backToKw pos (keywordEach kws X.env)).filterMap (·.1) = ks := by rfl)
    (hpl : ((backTo pos (starEach [] X.env)).any (·.1) || (backToKw pos (keywordEach kws X.env)).any (·.1.isNone)) = false := by rfl)
    (ht : eval (.Call (.Attribute o m apos)
      [] kws pos) X.env = (do
      let ov ← eval o X.env
      standAt apos.atName
      let (f, first) ← holding [ov]
        (getMethod ov m pl)
      callWith pos f first (backTo pos (starEach [] X.env)) (backToKw pos (keywordEach kws X.env))) := by rfl) :
    PE X (.Call (.Attribute o m apos) [] kws pos) (tCmK X C o kws ks r' sp W) := by
  refine ⟨fun pins s σ H Q I h => PySem.W.methodCall_KW (pl := pl) (thn (pe_any.run pins s σ H _ I h) fun u s1 ⟨x, H1, I1, rx, ex, q⟩ => ?_) ht⟩
  subst ex
  obtain rfl : u = Value.ref C := rx; refine ClX.getmethcm_ok I1 r c fun s2 I2 => PySem.W.callWith_of hpl (PySem.W.keeps_M c.fi) (PyProof.Rows.evalArgs_kw2_nil hall (thn (pk_any.run pos _ s2 σ H1 _ I2 q) fun ws s3 ⟨zs, H2, I3, rz, l2, q2⟩ => ⟨⟨ClX.pin_at I3, I3.kIn⟩, ?_⟩))
  rw [hks]
  exact run_cmK (i := 0) (us := []) (vs := []) G hr tk I3 .nil rz rfl l2 q2
/-- a classmethod of the class at C -/
structure Dcm (P : Program) (w : World) (T : Tab) (mg : Str → Option Value) (base : Heap) (C : Addr) (m : Str) (k : Nat) (g : Addr) (ks : List Str) (r : Bool) (F : Fw) : Prop where
  c : ∃ mc p, ClX.CRead T.K C mc ∧ ClX.CMet T.K C mc m p g
  G : FnG P w T.K mg base (L2.CX P w) k g (SpW T F)
  Gk : FnK P w T.K mg base (L2.CX P w) k g 1 ks r (SpW T F)
theorem ev_cm {r : Bool} (Dc : Dcm Z.X.prog Z.X.w Z.T Z.X.mg Z.X.base C m k g ks r F) (ok : Zok Z) (hr : RoomG j Z.X.A) (hj : k ≤ j) (h : EV Z ρ o fun d c => d = .cls C ∧ EA Z (ρ.wc c) (e :: es) fun ds c' => F (.cls C :: ds) c' P' (fun er c' => Z.R er (ρ.wc c')))
    (hst : starEach (e :: es) Z.X.env = (false, eval e Z.X.env) :: starEach es Z.X.env := by rfl)
    (hpl : (backTo pos (starEach es Z.X.env)).any (·.1) = false := by rfl)
    (ht : eval (.Call (.Attribute o m apos)
      (e :: es) [] pos) Z.X.env = (do
      let ov ← eval o Z.X.env
      standAt apos.atName
      let (f, first) ← holding [ov]
        (getMethod ov m pl)
      callWith pos f first (backTo pos (starEach (e :: es) Z.X.env)) (backToKw pos (keywordEach [] Z.X.env))) := by rfl) : EV Z ρ (.Call (.Attribute o m apos) (e :: es) [] pos) P' := by
  obtain ⟨mc, p, r1, c1⟩ := Dc.c
  have G := Dc.G
  rw [← ok.K] at r1 c1 G
  exact ev_of (pe_cmW r1 c1 G (hr.mono hj) ok.tk hst hpl ht) fun σ H Q S kq => ev_any h S fun v H1 d c S1 e1 rr ⟨hd, h1⟩ => by
    subst hd
    cases rr
    exact ⟨rfl, ea_any h1 S1 fun vs H2 ds c' S2 e2 r2 h2 => sp_at (ρ := ρ.wc c') S2 (.cons (.of (d := .cls C) rfl) r2) h2 ((kq.from (c := c) e1).from (c := c') e2)⟩
theorem ev_cmk {r : Bool} (Dc : Dcm Z.X.prog Z.X.w Z.T Z.X.mg Z.X.base C m k g ks r F) (ok : Zok Z) (hr : RoomG j Z.X.A) (hj : k ≤ j) (h : EV Z ρ o fun d c => d = .cls C ∧ EK Z (ρ.wc c) kws fun ds c' => ds.length = ks.length ∧ F (kg r [.cls C] ds) c' P' (fun er c' => Z.R er (ρ.wc c')))
    (hall : (backToKw pos (keywordEach kws Z.X.env)).all (·.1.isSome) = true := by rfl)
    (hks : (backToKw pos (keywordEach kws Z.X.env)).filterMap (·.1) = ks := by rfl)
    (hpl : ((backTo pos (starEach [] Z.X.env)).any (·.1) || (backToKw pos (keywordEach kws Z.X.env)).any (·.1.isNone)) = false := by rfl)
    (ht : eval (.Call (.Attribute o m apos)
      [] kws pos) Z.X.env = (do
      let ov ← eval o Z.X.env
      standAt apos.atName
      let (f, first) ← holding [ov]
        (getMethod ov m pl)
      callWith pos f first (backTo pos (starEach [] Z.X.env)) (backToKw pos (keywordEach kws Z.X.env))) := by rfl) : EV Z ρ (.Call (.Attribute o m apos) [] kws pos) P' := by
  obtain ⟨mc, p, r1, c1⟩ := Dc.c
  have G := Dc.Gk
  rw [← ok.K] at r1 c1 G
  exact ev_of (pe_cmK r1 c1 G (hr.mono hj) ok.tk hall hks hpl ht) fun σ H Q S kq => ev_any h S fun v H1 d c S1 e1 rr ⟨hd, h1⟩ => by
    subst hd
    cases rr
    exact ⟨rfl, ek_any h1 S1 fun vs H2 ds c' S2 e2 r2 ⟨hl, h2⟩ => ⟨by rw [pr_len r2]; exact hl, sp_at (ρ := ρ.wc c') S2 (kg_pr (.cons (.of (d := .cls C) rfl) .nil) r2) h2 ((kq.from (c := c) e1).from (c := c') e2)⟩⟩
/-! ### a local that holds a class -/
def tMakeL (X : Cx) (C : Addr) (i : Nat) (es : List Expr) (sp : Sp) (W : WX) : TE := fun σ H Q => σ[i]? = some (some (.ref C)) ∧ tMakeW X C es sp W σ H Q
theorem pe_makeL {i : Nat} (M : Mk X.K C f) (G : FnG X.prog X.w X.K X.mg X.base (L2.CX X.prog X.w) k f sp) (hr : RoomG (k + 1) X.A) (tk : Takes X W) (hN : X.N[i]? = some x) (hv : Vis X.env.scope x)
    (hdb : (x == ("__debug__" : Str)) = false := by decide)
    (hcd : (x == ("__classdict__" : Str)) = false := by decide)
    (he : starEach (e :: es) X.env = (false, eval e X.env) :: starEach es X.env := by rfl)
    (hpl : (backTo pos (starEach es X.env)).any (·.1) = false := by rfl) : PE X (.Call (.Name x p) (e :: es) [] pos) (tMakeL X C i (e :: es) sp W) := ⟨fun pins s σ H Q I h => by
  obtain ⟨hs, t, ha, h⟩ := h
  refine wpAny_Call_Name_kw (thn ((pe_var (pos := p) hN hv hdb hcd).run pins s σ H (fun v H1 => v = .ref C ∧ H1 = H) I ⟨.ref C, hs, rfl, rfl⟩) fun u s1 ⟨v, H1, I1, r1, q1⟩ => ?_)
  obtain ⟨rfl, rfl⟩ := q1
  cases r1
  have g := ha.run pos pins s1 σ _ _ I1 h
  exact PySem.W.callWith_K (h₀ := X.base) I.ok.mod.kin M.kp (thn g fun us s1 ⟨vs, H1, I1, r, q⟩ => ⟨I1.kIn, runMk M G hr tk I1 r q⟩) he hpl⟩
theorem ev_mkL (i : Nat) (Dm : Dk Z.X.prog Z.X.w Z.T Z.X.mg Z.X.base Z.T.C k f F) (ok : Zok Z) (hs : ρ.s[i]? = some (some (.cls Z.T.C))) (hr : RoomG j Z.X.A) (hj : k + 1 ≤ j) (h : EA Z ρ (e :: es) fun ds c => F ds c P' (fun er c' => Z.R er (ρ.wc c')))
    (hN : Z.X.N[i]? = some x := by rfl) (hv : Vis Z.X.env.scope x := by first | exact Or.inl rfl | exact Or.inr (Or.inl rfl) | exact Or.inr (Or.inr rfl)) (hdb : (x == ("__debug__" : Str)) = false := by decide) (hcd : (x == ("__classdict__" : Str)) = false := by decide)
    (he : starEach (e :: es) Z.X.env = (false, eval e Z.X.env) :: starEach es Z.X.env := by rfl)
    (hpl : (backTo pos (starEach es Z.X.env)).any (·.1) = false := by rfl) : EV Z ρ (.Call (.Name x p) (e :: es) [] pos) P' := by
  have M := Dm.M
  have G := Dm.g
  rw [← ok.K] at M G
  exact ev_of (pe_makeL (i := i) M G (hr.mono hj) ok.tk hN hv hdb hcd he hpl) fun σ H Q S kq => by
    obtain ⟨v, h1, h2⟩ := S.sl.get hs
    have h2' : v = .ref Z.T.C := h2
    rw [h2'] at h1
    exact ⟨h1, ea_any h S fun vs H1 ds c S1 e1 r h1 y dy hy hdy hn => mk_at (ρ := ρ.wc c) S1 r h1 (kq.from (c := c) e1) hy hdy hn (fun G d ⟨q, dx, hd, hq⟩ => by subst hd; exact ⟨y, dx, rfl, hq⟩)⟩
end Q
end

section
set_option Elab.async false
set_option linter.all false
set_option maxRecDepth 100000
set_option maxHeartbeats 3900000
/-! S5: prefixes, noughts in front, slices of words. -/
namespace Q
open PySem PySem.NumText TL PySem.Builtin PySem.Builtin.Str
theorem len0 (x : Str) : x.length = (tl x).length := len_tl x
theorem rp_iff (x : Str) : subAt x "-" 0 = true ↔ ∃ r, tl x = 45 :: r := by
  unfold subAt
  rw [beq_iff_eq]
  have e : (x.cps.extract 0 (0 + ("-" : Str).length)).toList = (tl x).take 1 := by
    rw [Array.toList_extract]; rfl
  constructor
  · intro h
    have h' := congrArg Array.toList h
    rw [e] at h'
    cases hl : tl x with
    | nil =>
      rw [hl] at h'
      exact absurd h' (by decide)
    | cons c r =>
      rw [hl] at h'
      have h2 : [c] = [45] := h'
      exact ⟨r, by rw [(List.cons.inj h2).1]⟩
  · rintro ⟨r, hr⟩
    apply Array.toList_inj.mp
    rw [e, hr]; rfl
theorem rp_neg {x : Str} {r : List Nat} (h : tl x = 45 :: r) : tl (Txt.removeprefix x "-") = r := by
  unfold Txt.removeprefix Txt.affix
  rw [if_pos ((rp_iff x).mpr ⟨r, h⟩)]
  have n : x.length = r.length + 1 := by rw [len_tl, h]; rfl
  show tl (if (x.length - 1 == x.length) = true then x else strSub x 1 x.length) = r
  rw [if_neg (by rw [beq_iff_eq]; omega), tl_strSub_end, h]; rfl
theorem rp_nn {x : Str} (h : ∀ r, tl x ≠ 45 :: r) : Txt.removeprefix x "-" = x := by
  unfold Txt.removeprefix
  rw [if_neg fun z => by
    obtain ⟨r, hr⟩ := (rp_iff x).mp z
    exact h r hr]
  rfl
theorem rp_wdig (x : Str) : tl (Txt.removeprefix x "-") = wdig (tl x) := by
  by_cases h : ∃ r, tl x = 45 :: r
  · obtain ⟨r, hr⟩ := h
    rw [rp_neg hr, hr]; rfl
  · have h' : ∀ r, tl x ≠ 45 :: r := fun r z => h ⟨r, z⟩
    rw [rp_nn h', wdig_nn h']
theorem rp_len (x : Str) : (Txt.removeprefix x "-").length ≤ x.length := by
  rw [len_tl, len_tl, rp_wdig]
  by_cases h : ∃ r, tl x = 45 :: r
  · obtain ⟨r, hr⟩ := h
    rw [hr]; show r.length ≤ r.length + 1; omega
  · rw [wdig_nn fun r z => h ⟨r, z⟩]; exact Nat.le_refl _
/-- noughts in front -/
theorem zfill_tl {x : Str} (h : AllDigits (tl x)) (hn : tl x ≠ []) {k : Nat} (hl : x.length ≤ k) : tl (Txt.zfill x (k : Int)) = List.replicate (k - x.length) 48 ++ tl x := by
  unfold Txt.zfill
  by_cases e : (k : Int) ≤ x.length
  · have e2 : k = x.length := by omega
    rw [if_pos e, e2, Nat.sub_self]; rfl
  · rw [if_neg e, Int.toNat_natCast]
    have hz : zfilled x (k - x.length) = padded x (k - x.length) 0 48 := by
      unfold zfilled
      have g : ∀ c, x.cps[0]? = some c → 48 ≤ c ∧ c ≤ 57 := fun c hc => by
        rw [← Array.getElem?_toList] at hc
        exact h c (List.mem_of_getElem? hc)
      split
      · rename_i he
        exact absurd (g _ he) (by decide)
      · rename_i he
        exact absurd (g _ he) (by decide)
      · rfl
    rw [hz]
    show ((Array.replicate (k - x.length) 48 ++ x.cps ++ Array.replicate 0 48 : Array Nat)).toList = _
    rw [Array.toList_append, Array.toList_append, Array.toList_replicate]
    simp
theorem val_pad (k : Nat) (l : List Nat) : digitsVal (List.replicate k 48 ++ l) = digitsVal l := by
  unfold digitsVal
  rw [List.foldl_append]
  congr 1
  induction k with
  | zero => rfl
  | succ k ih =>
    rw [List.replicate_succ, List.foldl_cons]; exact ih
theorem pad_dig {k : Nat} {l : List Nat} (h : AllDigits l) : AllDigits (List.replicate k 48 ++ l) := by
  intro c hc
  rcases (List.mem_append.mp hc) with hc | hc
  · rw [List.eq_of_mem_replicate hc]; decide
  · exact h c hc
theorem int_digits {x : Str} (h : AllDigits (tl x)) (h1 : tl x ≠ []) (h2 : x.length ≤ 4300) : PySem.intText? x = some ((digitsVal (tl x) : Nat) : Int) := intText_digits h h1 h2
/-- the whole, as a slice -/
theorem slice_whole {x : Str} {n : Nat} (h : x.length = n) : Txt.slice x (some 0) (some (n : Int)) = x := by
  unfold Txt.slice strSliceIndices sliceRange
  rw [if_pos]
  subst h
  simp
  split <;> omega
theorem slice_head (x : Str) : tl (Txt.slice x none (some 1)) = (tl x).take 1 := by
  have e := SX.slice_to (a := tl x) (i := 1) (by decide)
  rw [SX.S_tl] at e
  rw [e]; rfl
theorem slice_rest (x : Str) : tl (Txt.slice x (some 1) none) = (tl x).drop 1 := by
  have e := SX.slice_from (a := tl x) (i := 1) (by decide)
  rw [SX.S_tl] at e
  rw [e]; rfl
theorem head_dash (x : Str) : Txt.slice x none (some 1) = ("-" : Str) ↔ ∃ r, tl x = 45 :: r := by
  constructor
  · intro h
    have e := congrArg tl h
    rw [slice_head] at e
    cases hl : tl x with
    | nil =>
      rw [hl] at e
      exact absurd e (by decide)
    | cons c r =>
      rw [hl] at e
      have e2 : [c] = [45] := e
      exact ⟨r, by rw [(List.cons.inj e2).1]⟩
  · rintro ⟨r, hr⟩
    refine ext_tl ?_
    rw [slice_head, hr]; rfl
end Q
end

section
set_option Elab.async false
set_option linter.all false
set_option maxRecDepth 100000
set_option maxHeartbeats 3900000
namespace Q
open PySem L2
def topS (i : Nat) : Stmt := PySem.Challenge.pw_paystreams_k03_texts_of_ratios.main.body.getD i (.Pass ⟨0, 0, 0, 0⟩)
abbrev s_wall : Stmt := topS 1
theorem sc_wall : FnScope ["k"] ["k"] (defScope s_wall) := ⟨rfl, rfl, rfl, by decide +kernel, rfl, by decide +kernel, by decide +kernel⟩
abbrev s_written : Stmt := topS 5
theorem sc_written : FnScope ["number", "parts", "part"] ["number"] (defScope s_written) := ⟨rfl, rfl, rfl, by decide +kernel, rfl, by decide +kernel, by decide +kernel⟩
abbrev s_read_digits : Stmt := topS 6
theorem sc_read_digits : FnScope ["text", "digits", "missing", "padded", "number", "start"] ["text"] (defScope s_read_digits) := ⟨rfl, rfl, rfl, by decide +kernel, rfl, by decide +kernel, by decide +kernel⟩
abbrev s_BadNumber_init : Stmt := inClass (topS 11) 0
theorem sc_BadNumber_init : FnScope ["self", "given"] ["self", "given"] (defScope s_BadNumber_init) := ⟨rfl, rfl, rfl, by decide +kernel, rfl, by decide +kernel, by decide +kernel⟩
abbrev s_Ratio_init : Stmt := inClass (topS 13) 0
theorem sc_Ratio_init : FnScope ["self", "top", "bottom", "shared"] ["self", "top", "bottom"] (defScope s_Ratio_init) := ⟨rfl, rfl, rfl, by decide +kernel, rfl, by decide +kernel, by decide +kernel⟩
abbrev s_Ratio_read : Stmt := inClass (topS 13) 1
theorem sc_Ratio_read : FnScope ["cls", "text", "head", "slash", "tail", "top", "bottom", "ratio"] ["cls", "text"] (defScope s_Ratio_read) := ⟨rfl, rfl, rfl, by decide +kernel, rfl, by decide +kernel, by decide +kernel⟩
abbrev s_Ratio_top : Stmt := inClass (topS 13) 2
theorem sc_Ratio_top : FnScope ["self"] ["self"] (defScope s_Ratio_top) := ⟨rfl, rfl, rfl, by decide +kernel, rfl, by decide +kernel, by decide +kernel⟩
abbrev s_Ratio_bottom : Stmt := inClass (topS 13) 3
theorem sc_Ratio_bottom : FnScope ["self"] ["self"] (defScope s_Ratio_bottom) := ⟨rfl, rfl, rfl, by decide +kernel, rfl, by decide +kernel, by decide +kernel⟩
abbrev s_Ratio_add : Stmt := inClass (topS 13) 4
theorem sc_Ratio_add : FnScope ["self", "other", "number"] ["self", "other"] (defScope s_Ratio_add) := ⟨rfl, rfl, rfl, by decide +kernel, rfl, by decide +kernel, by decide +kernel⟩
abbrev s_Ratio_sub : Stmt := inClass (topS 13) 5
theorem sc_Ratio_sub : FnScope ["self", "other", "number"] ["self", "other"] (defScope s_Ratio_sub) := ⟨rfl, rfl, rfl, by decide +kernel, rfl, by decide +kernel, by decide +kernel⟩
abbrev s_Ratio_mul : Stmt := inClass (topS 13) 6
theorem sc_Ratio_mul : FnScope ["self", "other", "number"] ["self", "other"] (defScope s_Ratio_mul) := ⟨rfl, rfl, rfl, by decide +kernel, rfl, by decide +kernel, by decide +kernel⟩
abbrev s_Ratio_neg : Stmt := inClass (topS 13) 7
theorem sc_Ratio_neg : FnScope ["self"] ["self"] (defScope s_Ratio_neg) := ⟨rfl, rfl, rfl, by decide +kernel, rfl, by decide +kernel, by decide +kernel⟩
abbrev s_Ratio_eq : Stmt := inClass (topS 13) 8
theorem sc_Ratio_eq : FnScope ["self", "other"] ["self", "other"] (defScope s_Ratio_eq) := ⟨rfl, rfl, rfl, by decide +kernel, rfl, by decide +kernel, by decide +kernel⟩
abbrev s_Ratio_lt : Stmt := inClass (topS 13) 9
theorem sc_Ratio_lt : FnScope ["self", "other", "number"] ["self", "other"] (defScope s_Ratio_lt) := ⟨rfl, rfl, rfl, by decide +kernel, rfl, by decide +kernel, by decide +kernel⟩
abbrev s_Ratio_le : Stmt := inClass (topS 13) 10
theorem sc_Ratio_le : FnScope ["self", "other", "number"] ["self", "other"] (defScope s_Ratio_le) := ⟨rfl, rfl, rfl, by decide +kernel, rfl, by decide +kernel, by decide +kernel⟩
abbrev s_Ratio_over : Stmt := inClass (topS 13) 11
theorem sc_Ratio_over : FnScope ["self", "number"] ["self", "number"] (defScope s_Ratio_over) := ⟨rfl, rfl, rfl, by decide +kernel, rfl, by decide +kernel, by decide +kernel⟩
abbrev s_Ratio_text : Stmt := inClass (topS 13) 12
theorem sc_Ratio_text : FnScope ["self"] ["self"] (defScope s_Ratio_text) := ⟨rfl, rfl, rfl, by decide +kernel, rfl, by decide +kernel, by decide +kernel⟩
abbrev s_is_whole : Stmt := topS 14
theorem sc_is_whole : FnScope ["value"] ["value"] (defScope s_is_whole) := ⟨rfl, rfl, rfl, by decide +kernel, rfl, by decide +kernel, by decide +kernel⟩
abbrev s_as_ratio : Stmt := topS 15
theorem sc_as_ratio : FnScope ["given"] ["given"] (defScope s_as_ratio) := ⟨rfl, rfl, rfl, by decide +kernel, rfl, by decide +kernel, by decide +kernel⟩
abbrev s_law_cell : Stmt := topS 17
theorem sc_law_cell : FnScope ["_law_script", "_law_k"] ["_law_script", "_law_k"] (defScope s_law_cell) := ⟨rfl, rfl, rfl, by decide +kernel, rfl, by decide +kernel, by decide +kernel⟩
abbrev s_law_box : Stmt := topS 18
theorem sc_law_box : FnScope ["_law_script", "_law_k"] ["_law_script", "_law_k"] (defScope s_law_box) := ⟨rfl, rfl, rfl, by decide +kernel, rfl, by decide +kernel, by decide +kernel⟩
abbrev s_law_take : Stmt := topS 19
theorem sc_law_take : FnScope ["_law_box_here", "_law_many", "_law_digit", "_law_mixed"] ["_law_box_here", "_law_many"] (defScope s_law_take) := ⟨rfl, rfl, rfl, by decide +kernel, rfl, by decide +kernel, by decide +kernel⟩
abbrev s_law_frac : Stmt := topS 20
theorem sc_law_frac : FnScope ["_law_up", "_law_down", "_law_one", "_law_other"] ["_law_up", "_law_down"] (defScope s_law_frac) := ⟨rfl, rfl, rfl, by decide +kernel, rfl, by decide +kernel, by decide +kernel⟩
abbrev s_law_plus : Stmt := topS 21
theorem sc_law_plus : FnScope ["_law_x", "_law_y"] ["_law_x", "_law_y"] (defScope s_law_plus) := ⟨rfl, rfl, rfl, by decide +kernel, rfl, by decide +kernel, by decide +kernel⟩
abbrev s_law_times : Stmt := topS 22
theorem sc_law_times : FnScope ["_law_x", "_law_y"] ["_law_x", "_law_y"] (defScope s_law_times) := ⟨rfl, rfl, rfl, by decide +kernel, rfl, by decide +kernel, by decide +kernel⟩
abbrev s_law_minus : Stmt := topS 23
theorem sc_law_minus : FnScope ["_law_x", "_law_y"] ["_law_x", "_law_y"] (defScope s_law_minus) := ⟨rfl, rfl, rfl, by decide +kernel, rfl, by decide +kernel, by decide +kernel⟩
abbrev s_law_less : Stmt := topS 24
theorem sc_law_less : FnScope ["_law_x", "_law_y"] ["_law_x", "_law_y"] (defScope s_law_less) := ⟨rfl, rfl, rfl, by decide +kernel, rfl, by decide +kernel, by decide +kernel⟩
abbrev s_law_whole : Stmt := topS 25
theorem sc_law_whole : FnScope ["_law_word", "_law_digits", "_law_char"] ["_law_word"] (defScope s_law_whole) := ⟨rfl, rfl, rfl, by decide +kernel, rfl, by decide +kernel, by decide +kernel⟩
abbrev s_law_due : Stmt := topS 26
theorem sc_law_due : FnScope ["_law_phrase", "_law_words", "_law_word"] ["_law_phrase"] (defScope s_law_due) := ⟨rfl, rfl, rfl, by decide +kernel, rfl, by decide +kernel, by decide +kernel⟩
abbrev s_law_read : Stmt := topS 27
theorem sc_law_read : FnScope ["_law_phrase", "_law_amount"] ["_law_phrase"] (defScope s_law_read) := ⟨rfl, rfl, rfl, by decide +kernel, rfl, by decide +kernel, by decide +kernel⟩
abbrev s_law : Stmt := topS 28
theorem sc_law : FnScope ["_law_script", "_law_k", "_law_box_here", "_law_wide", "_law_x", "_law_phrase", "_law_turn", "_law_at", "_law_part", "_law_near", "_law_factor", "_law_other"] ["_law_script"] (defScope s_law) := ⟨rfl, rfl, rfl, by decide +kernel, rfl, by decide +kernel, by decide +kernel⟩
end Q
end

section
set_option Elab.async false
set_option linter.all false
set_option maxRecDepth 100000
set_option maxHeartbeats 3900000
namespace Q
open PySem L2
variable {P : Program} {w : World} {T : Tab} {mg : Str → Option Value} {base : Heap} {f : Addr} {fd : FuncData}
def F_cell : Fw := fun ds c P R => ∃ (l : List Int) (k : Nat), ds = [.scr l, .int (k : Int)] ∧ P (.int (l.getD k 0)) c
theorem ok_law_cell (U : Fun T.K "_law_cell" "_law_cell" s_law_cell f fd) (ml : mg "len" = none) : FnGk P w T.K mg base (L2.CX P w) 1 f fd ["_law_script", "_law_k"] (SpW T F_cell) := by
  refine Fun.doesG U sc_law_cell (fun ds c P R h => ?_) (fun Z c ds cdv A outer s H E B R rt hZ ok hr h => ?_)
  · obtain ⟨l, k, rfl, _⟩ := h
    rfl
  · obtain ⟨l, k, rfl, h⟩ := h
    subst hZ
    refine ss_one (st_ret (ev_if (et_lt (ev_var 1 rfl (ev_len rfl (by rfl) ml (ea_cons (ev_var 0 rfl (ea_nil ⟨_, _, rfl, rfl, ?_⟩)))))))) 
    refine ⟨fun hk => ?_, fun hk => ?_⟩
    · have hk' : k < l.length := by simpa using hk
      refine ev_ix rfl (ev_var 0 rfl (ev_var 1 rfl ⟨_, _, rfl, ?_, rfl, h⟩))
      show (atI l k).map D.int = _
      rw [atI_nat (v := l.getD k 0) (by simp [hk'])]
      rfl
    · have hk' : ¬ k < l.length := by simpa using hk
      refine ev_int ⟨rfl, ?_⟩
      have e : l.getD k 0 = 0 := by simp [hk']
      rw [e] at h
      exact h
end Q
end

section
set_option Elab.async false
set_option linter.all false
set_option maxRecDepth 100000
set_option maxHeartbeats 3900000
namespace Q
open PySem L2
variable {P : Program} {w : World} {T : Tab} {mg : Str → Option Value} {base : Heap} {f : Addr} {fd : FuncData}
def F_take : Fw := fun ds c P R => ∃ n : Int, ds = [.box, .int n] ∧ 0 < n ∧ n < 2 ^ 200 ∧ c < 1000000 ∧ ∀ r : Int, 0 ≤ r → r < n → P (.int r) (c + 1)
theorem pow_lt {a : Int} {n : Nat} (h0 : 0 ≤ a) (h : a < 2 ^ n) : a.natAbs < 2 ^ n := by
  have e : ((2 ^ n : Nat) : Int) = (2 : Int) ^ n := by simp
  omega
theorem take_wide {x y z : Int} (hx : 0 ≤ x) (hx' : x < 10 ^ 18) (hy : 0 ≤ y) (hy' : y ≤ 1000000) (hz : 0 ≤ z) (hz' : z ≤ 2 ^ 40) : CPowW ((x + 7) * 69069 + y * 40692 + z) 3 := by
  refine ⟨by omega, by omega, by omega, Nat.lt_of_lt_of_le (pow_lt (n := 100) (by omega) (by omega)) (Nat.pow_le_pow_right (by decide) (by decide))⟩
theorem take_wide2 {m y : Int} (h0 : 0 ≤ m) (h : m < 2147483647) (hy : 1 ≤ y) (hy' : y ≤ 1000000) : CPowW (m + y * 17389) 3 := by
  refine ⟨by omega, by omega, by omega, Nat.lt_of_lt_of_le (pow_lt (n := 100) (by omega) (by omega)) (Nat.pow_le_pow_right (by decide) (by decide))⟩
theorem wmul {i j : Int} (hi : i.natAbs < 2 ^ 300) (hj : j.natAbs < 2 ^ 300) : CMulW i j := wide_mul hi hj (by decide) (by decide) (by decide)
theorem ok_law_take (U : Fun T.K "_law_take" "_law_take" s_law_take f fd) (mi : mg "int" = none) : FnGk P w T.K mg base (L2.CX P w) 1 f fd ["_law_box_here", "_law_many"] (SpW T F_take) := by
  have U' := U
  refine okG U sc_law_take (fun vs H Q E h => ?_) (fun cdv A outer s H vs Q E hr h => ?_)
  · obtain ⟨B, c, ds, P, R, _, r, ⟨n, rfl, _⟩, _⟩ := h
    rw [pr_len r]
    rfl
  · obtain ⟨B, c, ds, P, R, ok, r, ⟨n, rfl, hn, hn', hc, hP⟩, hQ, _⟩ := h
    obtain ⟨v, v', rfl, ⟨b, rfl, hb⟩, hv'⟩ := pr2 r
    cases hv'
    obtain ⟨o, ho, x, y, z, rfl, hx, hy, hyc, hz, hz'⟩ := ok.box b hb
    have ix : ∀ i : Nat, PlainIx (.Constant (.int i) 0 ⟨0, 0, 0, 0⟩) := fun _ _ _ => rfl
    have fin : ∀ {x' y' : Int} {H' : Hp} {rr : Int}, H' = upd H b (.lst [.int x', .int y', .int z]) → 0 ≤ x' → 0 ≤ y' → y' ≤ y + 1 → 0 ≤ rr → rr < n → Q (.int rr) H' := fun {x' y' H' rr} e h1 h2 h3 h4 h5 => by
      subst e
      refine hQ (.int rr) _ (.int rr) (c + 1) ⟨fun a q => ?_, fun a u q => ?_⟩ (fun a u q => ?_) rfl (hP rr h4 h5)
      · by_cases e : a = b
        · subst e
          exact ⟨_, upd_same, x', y', z, rfl, h1, h2, by omega, hz, hz'⟩
        · rw [upd_ne e]
          obtain ⟨o, k, l⟩ := ok.box a q
          exact ⟨o, k, l.mono (by omega)⟩
      · rw [upd_ne (fun e => by subst e; rw [hb] at q; cases q)]
        exact ok.fix a u q
      · have e : a ≠ b := fun e => by
          subst e
          unfold vis at q
          rw [hb] at q
          cases q
        unfold vis at q ⊢
        rw [upd_ne e]
        exact q
    refine ⟨_, pss_cons (ps_if (pt_cmpR op_ge (pe_ix ix_list (pv 0) pe_int (fun _ _ => rfl)) (pe_op op_pow pe_int pe_int) (nomark _))
        (pss_cons (ps_set (i := 2) sc_law_take.nd rfl (.inl rfl) (pe_op op_mod (pe_callTy call_int1 (by rfl) mi (by decide +kernel) (pa_cons (pe_ix ix_list (pv 0) pe_int (fun _ _ => rfl)) pa_nil)) (pv 1)))
        (pss_cons (ps_asg (pe_op op_fdivW (pe_ix ix_list (pv 0) pe_int (fun _ _ => rfl)) (pv 1)) (pg_sub (pv 0) pe_int set_list))
        (pss_one (ps_ret (pv 2))))) pss_nil)
      (pss_cons (ps_asg (pe_op op_add (pe_ix ix_list (pv 0) pe_int (fun _ _ => rfl)) pe_int) (pg_sub (pv 0) pe_int set_list))
      (pss_cons (ps_set (i := 3) sc_law_take.nd rfl (.inl rfl) (pe_op op_mod (pe_op op_powW (pe_callTy call_int1 (by rfl) mi (by decide +kernel) (pa_cons
          (pe_op op_add (pe_op op_add (pe_op op_mulW (pe_op op_add (pe_ix ix_list (pv 0) pe_int (fun _ _ => rfl)) pe_int) pe_int) (pe_op op_mulW (pe_ix ix_list (pv 0) pe_int (fun _ _ => rfl)) pe_int)) (pe_ix ix_list (pv 0) pe_int (fun _ _ => rfl))) pa_nil)) pe_int) pe_int))
      (pss_cons (ps_set (i := 3) sc_law_take.nd rfl (.inl rfl) (pe_op op_mod (pe_op op_powW (pe_callTy call_int1 (by rfl) mi (by decide +kernel) (pa_cons
          (pe_op op_add (pv 3) (pe_op op_mulW (pe_ix ix_list (pv 0) pe_int (fun _ _ => rfl)) pe_int)) pa_nil)) pe_int) pe_int))
      (pss_one (ps_ret (pe_op op_mod (pe_callTy call_int1 (by rfl) mi (by decide +kernel) (pa_cons (pe_op op_fdivW (pv 3) pe_int) pa_nil)) (pv 1))))))), ?_⟩
    have g0 : ∀ {x' y' : Int}, atI [V.int x', .int y', .int z] 0 = some (.int x') := fun {x' y'} => rfl
    have g1 : ∀ {x' y' : Int}, atI [V.int x', .int y', .int z] 1 = some (.int y') := fun {x' y'} => rfl
    have g2 : ∀ {x' y' : Int}, atI [V.int x', .int y', .int z] 2 = some (.int z) := fun {x' y'} => rfl
    refine ⟨_, rfl, b, _, 0, _, rfl, rfl, SqL.of ho, g0, 10, 18, rfl, rfl, ⟨by decide, by decide, by decide⟩, x, (10 ^ 18 : Int), rfl, rfl, _, rfl, ite2 (fun hge => ?_) (fun hge => ?_)⟩
    · have hge' : (10 : Int) ^ 18 ≤ x := of_decide_eq_true hge
      refine ⟨_, rfl, b, _, 0, _, rfl, rfl, SqL.of ho, g0, .inl ⟨x, rfl, .int n, rfl, x, n, rfl, rfl, hn, ?_⟩⟩
      refine ⟨_, rfl, b, _, 0, _, rfl, rfl, SqL.of ho, g0, .int n, rfl, x, n, rfl, rfl, wide_div (b := 200) hn (pow_lt (by omega) hn') (by decide) (by decide), ?_⟩
      refine ⟨_, rfl, b, _, 0, 0, rfl, rfl, ho, rfl, ?_⟩
      refine ⟨.int (x % n), rfl, ?_⟩
      exact fin (x' := x / n) (y' := y) rfl (Int.ediv_nonneg hx (by omega)) hy (by omega) (Int.emod_nonneg _ (by omega)) (Int.emod_lt_of_pos _ hn)
    · have hge' : ¬ (10 : Int) ^ 18 ≤ x := fun h => hge (decide_eq_true h)
      refine ⟨_, rfl, b, _, 1, _, rfl, rfl, SqL.of ho, g1, y, 1, rfl, rfl, ?_⟩
      refine ⟨_, rfl, b, _, 1, 1, rfl, rfl, ho, rfl, ?_⟩
      have h2 : (upd H b (.lst [V.int x, .int (y + 1), .int z])) b = some (.lst [V.int x, .int (y + 1), .int z]) := upd_same
      have m1 := Int.emod_nonneg (((x + 7) * 69069 + (y + 1) * 40692 + z) ^ 3) (show (2147483647 : Int) ≠ 0 by decide)
      have m2 := Int.emod_lt_of_pos (((x + 7) * 69069 + (y + 1) * 40692 + z) ^ 3) (show (0 : Int) < 2147483647 by decide)
      refine ⟨_, rfl, b, _, 0, _, rfl, rfl, SqL.of h2, g0, x, 7, rfl, rfl, x + 7, 69069, rfl, rfl, wmul (pow_lt (by omega) (by omega)) (by decide), _, rfl, b, _, 1, _, rfl, rfl, SqL.of h2, g1, y + 1, 40692, rfl, rfl, wmul (pow_lt (by omega) (by omega)) (by decide),
        (x + 7) * 69069, (y + 1) * 40692, rfl, rfl, _, rfl, b, _, 2, _, rfl, rfl, SqL.of h2, g2, (x + 7) * 69069 + (y + 1) * 40692, z, rfl, rfl, .inl ⟨_, rfl, _, 3, rfl, rfl, take_wide hx (by omega) (by omega) (by omega) hz hz', _, 2147483647, rfl, rfl, (by show (0 : Int) < 2147483647; decide), ?_⟩⟩
      refine ⟨_, rfl, _, rfl, b, _, 1, _, rfl, rfl, SqL.of h2, g1, y + 1, 17389, rfl, rfl, wmul (pow_lt (by omega) (by omega)) (by decide), _, (y + 1) * 17389, rfl, rfl, .inl ⟨_, rfl, _, 3, rfl, rfl, take_wide2 m1 m2 (by omega) (by omega), _, 2147483399, rfl, rfl, (by show (0 : Int) < 2147483399; decide), ?_⟩⟩
      refine ⟨_, rfl, _, 64, rfl, rfl, ⟨by decide, by decide⟩, .inl ⟨_, rfl, .int n, rfl, _, n, rfl, rfl, hn, ?_⟩⟩
      exact fin (x' := x) (y' := y + 1) rfl hx (by omega) (by omega) (Int.emod_nonneg _ (by omega)) (Int.emod_lt_of_pos _ hn)
end Q
end

section
set_option Elab.async false
set_option linter.all false
set_option maxRecDepth 100000
set_option maxHeartbeats 3900000
set_option exponentiation.threshold 20000
namespace Q
open PySem L2
variable {P : Program} {w : World} {T : Tab} {mg : Str → Option Value} {base : Heap} {f : Addr} {fd : FuncData}
/-- a fraction of the law: a tuple of two ints -/
abbrev D.fr (q : Rat) : D := .tup [.int q.num, .int (q.den : Int)]
def F_frac : Fw := fun ds c P R => ∃ u d : Int, ds = [.int u, .int d] ∧ d ≠ 0 ∧ u.natAbs < 2 ^ 8500 ∧ d.natAbs < 2 ^ 8500 ∧ P (.fr (fr u d)) c
theorem ok_law_frac (U : Fun T.K "_law_frac" "_law_frac" s_law_frac f fd) (ma : mg "abs" = none) : FnGk P w T.K mg base (L2.CX P w) 1 f fd ["_law_up", "_law_down"] (SpW T F_frac) := by
  refine Fun.doesG U sc_law_frac (fun ds c P R h => ?_) (fun Z c ds cdv A outer s H E B R rt hZ ok hr h => ?_)
  · obtain ⟨u, d, rfl, _⟩ := h
    rfl
  · obtain ⟨u, d, rfl, hd, hu, hd', h⟩ := h
    subst hZ
    refine ss_cons (st_par 2 3 ok (ea_cons (ev_abs (by rfl) ma (ea_cons (ev_var 0 rfl (ea_nil ?_))))))
    refine ea_cons (ev_abs (by rfl) ma (ea_cons (ev_var 1 rfl (ea_nil ?_))))
    refine ea_nil ⟨_, _, rfl, ?_⟩
    -- the while
    have na : ∀ i : Int, (if i < 0 then -i else i) = (i.natAbs : Int) := fun i => by split <;> omega
    rw [na, na]
    refine ss_cons (st_while ok (fun m r => ∃ a b : Nat, r = ⟨B, [some (.int u), some (.int d), some (.int (a : Int)), some (.int (b : Int))], c⟩ ∧ b = m ∧ Nat.gcd a b = Nat.gcd u.natAbs d.natAbs) _ ⟨u.natAbs, d.natAbs, rfl, rfl, rfl⟩ ?_)
    rintro m r ⟨a, b, rfl, rfl, hg⟩
    refine et_gt (ev_var 3 rfl (ev_int ⟨fun hk => ?_, fun hk => ?_⟩))
    · have hb : 0 < b := by simpa using hk
      refine ss_one (st_par 2 3 ok (ea_cons (ev_var 3 rfl (ea_cons (ev_mod (ev_var 2 rfl (ev_var 3 rfl ⟨by omega, ea_nil ⟨_, _, rfl, ?_⟩⟩)))))))
      refine ⟨a % b, Nat.mod_lt _ hb, b, a % b, rfl, rfl, ?_⟩
      rw [← hg, Nat.gcd_comm b, ← Nat.gcd_rec, Nat.gcd_comm]
    · have hb : b = 0 := by
        have : ¬ 0 < b := by simpa using hk
        omega
      subst hb
      have ha : a = Nat.gcd u.natAbs d.natAbs := by rw [← hg, Nat.gcd_zero_right]
      have hs : (sgd u d).natAbs < 2 ^ 9000 := by
        have h1 : (sgd u d).natAbs = Nat.gcd u.natAbs d.natAbs := by
          unfold sgd
          split <;> omega
        have h2 := Nat.gcd_le_right u.natAbs (show 0 < d.natAbs by omega)
        have h3 : 2 ^ 8500 ≤ 2 ^ 9000 := Nat.pow_le_pow_right (by decide) (by decide)
        omega
      have fin : ∀ z : Int, z = sgd u d → SS (zBody P w T mg base ["_law_up", "_law_down", "_law_one", "_law_other"] "_law_frac" (defScope s_law_frac) f cdv A outer s H E B R rt) ⟨B, [some (.int u), some (.int d), some (.int z), some (.int ((0 : Nat) : Int))], c⟩ ((defBody s_law_frac).drop 3)
          ⟨fun r => rt .non r.c, fun _ => False, fun _ => False⟩ := fun z hz => by
        subst hz
        refine ss_one (st_ret (ev_tup (ea_cons (ev_fdivF (ev_var 0 rfl (ev_var 2 rfl ⟨.of (sgd_ne hd) hs, ea_cons (ev_fdivF (ev_var 1 rfl (ev_var 2 rfl ⟨.of (sgd_ne hd) hs, ea_nil ⟨rfl, by show 2 ≤ 100000; decide, rfl, ?_⟩⟩)))⟩))))))
        rw [fr_num hd, fr_den hd]
        exact h
      refine ss_cons (st_if (et_lt (ev_var 1 rfl (ev_int ⟨fun hk => ?_, fun hk => ?_⟩))))
      · have hn : d < 0 := by simpa using hk
        refine ss_one (st_set (i := 2) ok (ev_sub (ev_int (ev_var 2 rfl ?_))))
        refine fin _ ?_
        unfold sgd
        rw [if_pos hn, ha]
        omega
      · have hn : ¬ d < 0 := by simpa using hk
        refine ss_nil (fin _ ?_)
        unfold sgd
        rw [if_neg hn, ha]
end Q
end

section
set_option Elab.async false
set_option linter.all false
set_option maxRecDepth 100000
set_option maxHeartbeats 3900000
set_option exponentiation.threshold 20000
namespace Q
open PySem L2
variable {P : Program} {w : World} {T : Tab} {mg : Str → Option Value} {base : Heap} {f : Addr} {fd : FuncData}
theorem ok_Ratio_init {CZ : Addr} (U : FunD T.K "__init__" "Ratio.__init__" (defArgs s_Ratio_init) (defBody s_Ratio_init) (defScope s_Ratio_init) [.int 1] [] f fd) (cl : Cls T.K T.C) (nt : NoAttr T.K T.C "_top") (nb : NoAttr T.K T.C "_bottom") (mgc : mg "gcd" = some (.builtin "math.gcd")) (EZ : ErrC T.K mg "ByZero" CZ) :
    FnGk P w T.K mg base (L2.CX P w) 1 f fd ["self", "top", "bottom"] (SpMk T T.C (F_mk CZ) (mkR T.C)) := by
  refine okGD U sc_Ratio_init (fun vs H Q E h => ?_) (fun cdv A outer s H vs Q E hr h => ?_)
  · obtain ⟨B, c, ds, P, R, x, dx, ws, rfl, _, _, _, r, ⟨t, b, rfl, _⟩, _⟩ := h
    show ws.length + 1 = 3
    rw [pr_len r]
    rfl
  · obtain ⟨B, c, ds, P, R, x, dx, ws, rfl, hx, bx, ok, r, ⟨t, b, rfl, h0, h1⟩, hQ, hE⟩ := h
    obtain ⟨v, v', rfl, hv, hv'⟩ := pr2 r
    cases hv
    cases hv'
    refine ⟨_, pss_cons (ps_if (pt_cmpR op_eq (pv 2) pe_int (nomark _)) (pss_one (ps_raise rfl (takes_of rfl rfl rfl rfl) (pmk0 EZ rfl))) pss_nil)
      (pss_cons (ps_set (i := 3) sc_Ratio_init.nd rfl (.inl rfl) (pe_callBfun cr_gcd rfl mgc (pa_cons (pv 1) (pa_cons (pv 2) pa_nil))))
      (pss_cons (ps_if (pt_cmpR op_lt (pv 2) pe_int (nomark _)) (pss_one (ps_set (i := 3) sc_Ratio_init.nd rfl (.inl rfl) (pe_un un_neg (pv 3)))) pss_nil)
      (pss_cons (ps_fld (pv 0) (pe_op op_fdivF (pv 1) (pv 3)) rfl)
      (pss_one (ps_fld (pv 0) (pe_op op_fdivF (pv 2) (pv 3)) rfl))))), ?_⟩
    refine ⟨_, rfl, rfl, _, rfl, ite2 (fun e => ?_) (fun e => ?_)⟩
    · have hb : b = 0 := V.int.inj (of_decide_eq_true e)
      exact hE (CZ, none) (.ref CZ) none H c ok (fun _ _ q _ => q) ⟨rfl, rfl⟩ (h0 hb)
    · have hb : b ≠ 0 := fun z => e (decide_eq_true (by rw [z]))
      obtain ⟨ht, hb', hP⟩ := h1 hb
      have hs : (sgd t b).natAbs < 2 ^ 9000 := by
        have h1 : (sgd t b).natAbs = Nat.gcd t.natAbs b.natAbs := by
          unfold sgd
          split <;> omega
        have h2 := Nat.gcd_le_right t.natAbs (show 0 < b.natAbs by omega)
        have h3 : 2 ^ 8500 ≤ 2 ^ 9000 := Nat.pow_le_pow_right (by decide) (by decide)
        omega
      have last : ∀ z : Int, z = sgd t b → tSeq (sFld T.K (tVar 0) (tOp (rI CFd fun i j => .int (i.fdiv j)) (tVar 1) (tVar 3)) "_top") (sFld T.K (tVar 0) (tOp (rI CFd fun i j => .int (i.fdiv j)) (tVar 2) (tVar 3)) "_bottom") { nx := fun _ H' => Q .non H', rt := Q } [some (.ref x), some (.int t), some (.int b), some (.int z)] H := fun z hz => by
        subst hz
        refine ⟨_, rfl, _, rfl, t, _, rfl, rfl, .of (sgd_ne hb) hs, _, rfl, x, T.C, dx, [], rfl, hx, cl, nt, (by show 0 < 1000; decide), ?_⟩
        refine ⟨_, rfl, _, rfl, b, _, rfl, rfl, .of (sgd_ne hb) hs, _, rfl, x, T.C, dx, _, rfl, upd_same, cl, nb, (by show 1 < 1000; decide), ?_⟩
        show Q .non (upd (upd H x (.ins T.C dx (putF "_top" (.int (t.fdiv (sgd t b))) []))) x (.ins T.C dx (putF "_bottom" (.int (b.fdiv (sgd t b))) (putF "_top" (.int (t.fdiv (sgd t b))) []))))
        rw [fr_num hb, fr_den hb, upd_upd, ratF_put]
        refine hQ _ (.rat (fr t b)) c ⟨fun a q => ?_, fun a u q => ?_⟩ (fun a o q n => ?_) ⟨fr t b, dx, rfl, vis_of upd_same bx⟩ hP
        · rw [upd_ne (fun e => by subst e; rw [bx] at q; cases q)]
          exact ok.box a q
        · rw [upd_ne (fun e => by subst e; rw [bx] at q; cases q)]
          exact ok.fix a u q
        · unfold vis at q ⊢
          rw [upd_ne n]
          exact q
      refine ⟨_, rfl, _, rfl, t, b, rfl, ?_⟩
      refine ⟨_, rfl, _, 0, rfl, rfl, _, rfl, ite2 (fun hk => ?_) (fun hk => ?_)⟩
      · have hn : b < 0 := of_decide_eq_true hk
        refine ⟨_, rfl, _, rfl, ?_⟩
        exact last _ (by unfold sgd; rw [if_pos hn])
      · have hn : ¬ b < 0 := fun z => hk (decide_eq_true z)
        exact last _ (by unfold sgd; rw [if_neg hn])
end Q
end

section
set_option Elab.async false
set_option linter.all false
set_option maxRecDepth 100000
set_option maxHeartbeats 3900000
set_option exponentiation.threshold 20000
namespace Q
open PySem L2
variable {P : Program} {w : World} {T : Tab} {mg : Str → Option Value} {base : Heap} {f : Addr} {fd : FuncData}
def F_top : Fw := fun ds c P R => ∃ q : Rat, ds = [.rat q] ∧ P (.int q.num) c
def F_bottom : Fw := fun ds c P R => ∃ q : Rat, ds = [.rat q] ∧ P (.int (q.den : Int)) c
theorem ok_Ratio_top (U : Fun T.K "top" "Ratio.top" s_Ratio_top f fd) (RC : RCls T.K mg T.C) : FnOk P w T.K mg base (L2.CX P w) 1 f fd ["self"] (SpW T F_top) := by
  refine Fun.does U sc_Ratio_top (fun ds c P R h => ?_) (fun Z c ds cdv A outer s H E B R rt hZ ok hr h => ?_)
  · obtain ⟨q, rfl, _⟩ := h
    rfl
  · obtain ⟨q, rfl, h⟩ := h
    subst hZ
    exact ss_one (st_ret (ev_fld rfl RC.I.cl RC.nt (ev_var 0 rfl ⟨rfl, .int q.num, rfl, fun G v ⟨a, dx, e, g⟩ => ⟨a, dx, _, .int q.num, e, g, rfl, rfl⟩, rfl, h⟩)))
theorem ok_Ratio_bottom (U : Fun T.K "bottom" "Ratio.bottom" s_Ratio_bottom f fd) (RC : RCls T.K mg T.C) : FnOk P w T.K mg base (L2.CX P w) 1 f fd ["self"] (SpW T F_bottom) := by
  refine Fun.does U sc_Ratio_bottom (fun ds c P R h => ?_) (fun Z c ds cdv A outer s H E B R rt hZ ok hr h => ?_)
  · obtain ⟨q, rfl, _⟩ := h
    rfl
  · obtain ⟨q, rfl, h⟩ := h
    subst hZ
    exact ss_one (st_ret (ev_fld rfl RC.I.cl RC.nb (ev_var 0 rfl ⟨rfl, .int (q.den : Int), rfl, fun G v ⟨a, dx, e, g⟩ => ⟨a, dx, _, .int (q.den : Int), e, g, rfl, rfl⟩, rfl, h⟩)))
theorem mk1_of {k : Nat} {CZ : Addr} (G : FnGk P w T.K mg base (L2.CX P w) k f fd ["self", "top", "bottom"] (SpMk T T.C (F_mk CZ) (mkR T.C))) {t1 : Tok} (hb : Binds T.K fd ["self", "top", "bottom"] [.int 1 t1]) :
    FnG P w T.K mg base (L2.CX P w) k f (SpMk T T.C F_mk1 (mkR T.C)) := by
  refine (G.raw hb (dvs := [.int 1]) (.cons ⟨t1, rfl⟩ .nil)).imp fun vs H Q E h => ?_
  obtain ⟨B, c, ds, P, R, x, dx, ws, rfl, hx, bx, ok, r, ⟨t, rfl, h1, h2⟩, hQ, hE⟩ := h
  obtain ⟨v, rfl, hv⟩ := pr1 r
  cases hv
  refine ⟨B, c, [.int t, .int 1], P, R, x, dx, [.int t, .int 1], rfl, hx, bx, ok, .cons rfl (.cons rfl .nil), ⟨t, 1, rfl, fun z => by omega, fun _ => ⟨h1, by decide, ?_⟩⟩, hQ, hE⟩
  rw [fr_int]
  exact h2
def F_is_whole : Fw := fun ds c P R => ∃ d, ds = [d] ∧ (tyV ⟨default, 0⟩ d).isSome = true ∧ P (.bl (isWh d)) c
theorem tyV_some {d : D} {T T' : Tab} (h : (tyV T d).isSome = true) : ∃ t, tyV T' d = some t := by
  cases d <;> first | exact ⟨_, rfl⟩ | cases h
abbrev tyd (d : D) : Prop := (tyV ⟨default, 0⟩ d).isSome = true
theorem ok_is_whole (U : Fun T.K "is_whole" "is_whole" s_is_whole f fd) (RC : RCls T.K mg T.C) (mis : mg "isinstance" = none) (mi : mg "int" = none) (mb : mg "bool" = none) :
    FnGk P w T.K mg base (L2.CX P w) 1 f fd ["value"] (SpW T F_is_whole) := by
  refine Fun.doesG U sc_is_whole (fun ds c P R h => ?_) (fun Z c ds cdv A outer s H E B R rt hZ ok hr h => ?_)
  · obtain ⟨d, rfl, _⟩ := h
    rfl
  · obtain ⟨d, rfl, hd, h⟩ := h
    obtain ⟨t, ht⟩ := tyV_some (T' := T) hd
    have own : isOwn d = false := by cases d <;> first | rfl | cases hd
    subst hZ
    refine ss_one (st_ret (ev_and (ev_isinst (f := 0) rfl RC.I rfl mis (ea_cons (ev_var 0 rfl (n := own) (ea_cons (ev_ty rfl mi (by decide +kernel) (ea_nil ⟨d, _, t, _, _, rfl, ht, .inl ⟨rfl, RC.kitI ht⟩, _, rfl, fun hk => ?_, fun hk => ?_⟩))))))))
    · refine ev_bone (ev_not (ev_isinst (f := 0) rfl RC.I rfl mis (ea_cons (ev_var 0 rfl (n := own) (ea_cons (ev_ty rfl mb (by decide +kernel) (ea_nil ⟨d, _, t, _, _, rfl, ht, .inl ⟨rfl, kit_bool ht hk⟩, _, rfl, rfl, ?_⟩)))))))
      have e : (!isB d) = isWh d := by cases d <;> first | rfl | cases hk
      rw [e]
      exact h
    · refine ⟨rfl, ?_⟩
      have e : isWh d = false := by cases d <;> first | rfl | cases hk
      rw [e] at h
      exact h
/-- as_ratio -/
def F_as (CB : Addr) : Fw := fun ds c P R => ∃ d, ds = [d] ∧ tyd d ∧ (∀ i, d = .int i → i.natAbs < 2 ^ 8500) ∧ (∀ q, numD d = some q → P (.rat q) c) ∧ (numD d = none → R (CB, some ("given", d)) c)
theorem ok_as_ratio {CB fW fI : Addr} {k : Nat} (U : Fun T.K "as_ratio" "as_ratio" s_as_ratio f fd) (RC : RCls T.K mg T.C) (mis : mg "isinstance" = none) (DW : Df P w T mg base "is_whole" 1 fW F_is_whole) (EB : ErrF P w T.K mg base "BadNumber" "given" 1 CB)
    (MK1 : Dk P w T mg base T.C 1 fI F_mk1) : FnGk P w T.K mg base (L2.CX P w) 3 f fd ["given"] (SpW T (F_as CB)) := by
  refine Fun.doesG U sc_as_ratio (fun ds c P R h => ?_) (fun Z c ds cdv A outer s H E B R rt hZ ok hr h => ?_)
  · obtain ⟨d, rfl, _⟩ := h
    rfl
  · obtain ⟨d, rfl, hd, hs, hP, hR⟩ := h
    obtain ⟨t, ht⟩ := tyV_some (T' := T) hd
    have own : isOwn d = false := by cases d <;> first | rfl | cases hd
    have pl : plain d = true := by cases d <;> first | rfl | cases hd
    subst hZ
    refine ss_cons (st_if (et_val (ev_isinst rfl RC.I rfl mis (ea_cons (ev_var 0 rfl (n := own) (ea_cons (ev_globC rfl RC.m (ea_nil ⟨d, "", t, _, _, rfl, ht, .inr ⟨rfl, RC.kit ht⟩, _, rfl, fun hk => ?_, fun hk => ?_⟩))))))))
    · cases d <;> first | (cases hk; done) | skip
      case rat q => exact ss_one (st_ret (ev_var 0 rfl ⟨rfl, hP q rfl⟩))
    · refine ss_nil (ss_cons (st_if (et_not (et_val (ev_df DW ok hr (by decide) (ea_cons (ev_var 0 rfl (n := own) (ea_nil ⟨d, rfl, hd, _, rfl, fun hk2 => ?_, fun hk2 => ?_⟩))))))))
      · have no : numD d = none := by cases d <;> first | rfl | (cases hk; done) | (cases hk2; done)
        exact ss_one (st_raiseF ok EB (hr.mono (by decide)) (ea_cons (ev_var 0 rfl (n := own) (ea_nil ⟨d, rfl, pl, hR no⟩))))
      · cases d <;> first | (cases hk2; done) | (cases hk; done) | skip
        case int i => exact ss_nil (ss_one (st_ret (ev_mk MK1 RC.m ok hr (by decide) (ea_cons (ev_var 0 rfl (ea_nil ⟨i, rfl, hs i rfl, rfl, hP i rfl⟩))))))
end Q
end

section
set_option Elab.async false
set_option linter.all false
set_option maxRecDepth 100000
set_option maxHeartbeats 600000
set_option exponentiation.threshold 20000
namespace Q
open PySem L2
variable {P : Program} {w : World} {T : Tab} {mg : Str → Option Value} {base : Heap} {f fA fI CZ CB : Addr} {fd : FuncData}
theorem ok_law_box {fC : Addr} (U : Fun T.K "_law_box" "_law_box" s_law_box f fd) (ma : mg "abs" = none) (mi : mg "int" = none) (Dlaw_cell : Df P w T mg base "_law_cell" 1 fC F_cell) : FnGk P w T.K mg base (L2.CX P w) 2 f fd ["_law_script", "_law_k"] (SpBx T) := by
  refine okG U sc_law_box (fun vs H Q E h => ?_) (fun cdv A outer s H vs Q E hr h => ?_)
  · obtain ⟨B, c, l, k, _, r, _⟩ := h
    rw [pr_len r]
    rfl
  · obtain ⟨B, c, l, k, ok, r, hk, hq⟩ := h
    have Zo : Zok (zBody P w T mg base _ "_law_box" (defScope s_law_box) f cdv A outer s H E B (fun _ _ => False) (fun _ _ => False)) := zok0 sc_law_box
    refine ⟨_, pss_one (ps_ret (pe_lst pa_any)), ?_⟩
    refine ea_any (P := fun ds c1 => ∃ u z : Int, ds = [.int u, .int 0, .int z] ∧ 0 ≤ u ∧ 0 ≤ z ∧ z ≤ 2 ^ 40 ∧ c1 = c) ?_ (sr0 (P := P) (w := w) (mg := mg) (base := base) (qual := "_law_box") (scope := defScope s_law_box) (f := f) (cdv := cdv) (A := A) (outer := outer) (s := s) (E := E) (R := fun _ _ => False) (rt := fun _ _ => False) ok r) fun vs1 H1 ds1 c1 S1 e1 r1 ⟨u, z, hds, h1, h2, h3, hc⟩ => ?_
    · refine ea_cons (ev_abs rfl ma (ea_cons (ev_toInt rfl mi (ea_cons (ev_df Dlaw_cell Zo hr (by decide) (ea_cons (ev_var 0 rfl (ea_cons (ev_var 1 rfl (ea_nil ⟨l, k, rfl, ea_nil (ea_nil ?_)⟩))))))))))
      refine ea_cons (ev_int (ea_cons (ev_add (ev_mul (ev_int (ev_var 1 rfl ⟨wmul (by decide) (Nat.lt_of_le_of_lt (show ((k : Int)).natAbs ≤ 1000 by omega) (by decide)), (ev_int (ea_nil ⟨_, _, rfl, ?_, ?_, ?_, rfl⟩))⟩))))))
      · split <;> omega
      · omega
      · omega
    · subst hds
      refine ⟨?_, fun p hp => ?_⟩
      · rw [pr_len r1]
        show 3 ≤ sizeLine
        decide
      · have e : vs1 = [.int u, .int 0, .int z] := by
          cases r1 with
          | cons a t =>
            cases a
            cases t with
            | cons a t =>
              cases a
              cases t with
              | cons a t =>
                cases a
                cases t
                rfl
        subst e
        subst hc
        exact hq H1 p u z (S1.ok) e1 hp h1 h2 h3
theorem ix_int {l : List Int} {r : Int} (h0 : 0 ≤ r) (h1 : r < l.length) : ∃ n, ixD (.lst (l.map D.int)) r = some (.int n) ∧ n ∈ l := by
  have hl : r.toNat < l.length := by omega
  refine ⟨l[r.toNat], ?_, List.getElem_mem hl⟩
  show atI (l.map D.int) r = _
  unfold atI ixN
  rw [List.length_map, if_pos h0, if_pos h1]
  show (l.map D.int)[r.toNat]? = _
  simp [hl]
theorem ix_at {l : List D} {r : Int} (h0 : 0 ≤ r) (h1 : r < l.length) : ∃ d, ixD (.lst l) r = some d ∧ d ∈ l := by
  have hl : r.toNat < l.length := by omega
  refine ⟨l[r.toNat], ?_, List.getElem_mem hl⟩
  show atI l r = _
  unfold atI ixN
  rw [if_pos h0, if_pos h1]
  show l[r.toNat]? = _
  simp [hl]
theorem ix_three {a b c r : Int} (h0 : 0 ≤ r) (h1 : r < 3) : ∃ n, ixD (.lst [.int a, .int b, .int c]) r = some (.int n) ∧ (n = a ∨ n = b ∨ n = c) := by
  have e : r = 0 ∨ r = 1 ∨ r = 2 := by omega
  rcases e with rfl | rfl | rfl
  · exact ⟨a, rfl, .inl rfl⟩
  · exact ⟨b, rfl, .inr (.inl rfl)⟩
  · exact ⟨c, rfl, .inr (.inr rfl)⟩


end Q
end

section
set_option Elab.async false
set_option linter.all false
set_option maxRecDepth 100000
set_option maxHeartbeats 3900000
set_option exponentiation.threshold 20000
namespace Q
open PySem L2
variable {P : Program} {w : World} {T : Tab} {mg : Str → Option Value} {base : Heap} {f fA fI CZ : Addr} {fd : FuncData}
section
variable {Z : Zt} {ρ : Rho} {P' : D → Nat → Prop} {e : Expr} {pos : Pos}
theorem ev_ftop (hK : Z.X.K = Z.T.K) (RC : RCls Z.T.K Z.X.mg Z.T.C) (h : EV Z ρ e fun d c => ∃ q, d = .rat q ∧ P' (.int q.num) c) (hab : attributeBase e "_top" Z.X.env (eval e Z.X.env) = eval e Z.X.env := by rfl) : EV Z ρ (.Attribute e "_top" pos) P' :=
  ev_fld hK (by rw [hK]; exact RC.I.cl) (by rw [hK]; exact RC.nt) (h.mono fun d c ⟨q, hd, hp⟩ => by subst hd; exact ⟨rfl, .int q.num, rfl, fun G v ⟨a, dx, e, g⟩ => ⟨a, dx, _, .int q.num, e, g, rfl, rfl⟩, hp⟩) hab
theorem ev_fbottom (hK : Z.X.K = Z.T.K) (RC : RCls Z.T.K Z.X.mg Z.T.C) (h : EV Z ρ e fun d c => ∃ q, d = .rat q ∧ P' (.int (q.den : Int)) c) (hab : attributeBase e "_bottom" Z.X.env (eval e Z.X.env) = eval e Z.X.env := by rfl) : EV Z ρ (.Attribute e "_bottom" pos) P' :=
  ev_fld hK (by rw [hK]; exact RC.I.cl) (by rw [hK]; exact RC.nb) (h.mono fun d c ⟨q, hd, hp⟩ => by subst hd; exact ⟨rfl, .int (q.den : Int), rfl, fun G v ⟨a, dx, e, g⟩ => ⟨a, dx, _, .int (q.den : Int), e, g, rfl, rfl⟩, hp⟩) hab
end
theorem Df.imp {name : Str} {k : Nat} {F F' : Fw} (D : Df P w T mg base name k f F) (h : ∀ ds c P R, F' ds c P R → F ds c P R) : Df P w T mg base name k f F' :=
  ⟨D.g.imp fun vs H Q E ⟨B, c, ds, P, R, ok, r, hf, hQ, hE⟩ => ⟨B, c, ds, P, R, ok, r, h _ _ _ _ hf, hQ, hE⟩, D.m, D.kp⟩
/-- as_ratio of a number -/
def F_asN : Fw := fun ds c P R => ∃ d q, ds = [d] ∧ numD d = some q ∧ Sz 8500 q ∧ P (.rat q) c
theorem num_tyd {d : D} {q : Rat} (h : numD d = some q) : tyd d := by cases d <;> first | rfl | cases h
theorem num_own {d : D} {q : Rat} (h : numD d = some q) : isOwn d = false := by cases d <;> first | rfl | cases h
theorem as_num {CB : Addr} (ds : List D) (c : Nat) (P : D → Nat → Prop) (R : Er → Nat → Prop) (h : F_asN ds c P R) : F_as CB ds c P R := by
  obtain ⟨d, q, rfl, hq, hs, hp⟩ := h
  refine ⟨d, rfl, num_tyd hq, fun i hi => ?_, fun q' hq' => ?_, fun hn => ?_⟩
  · subst hi
    have e := Option.some.inj hq
    subst e
    simpa using hs.num
  · rw [hq] at hq'
    rw [← Option.some.inj hq']
    exact hp
  · rw [hq] at hn
    cases hn
def eqR (p : Rat) : D → Bool
  | .rat q => decide (p = q)
  | .int i => decide (p = (i : Rat))
  | _ => false
def F_eq : Fw := fun ds c P R => ∃ p d, ds = [.rat p, d] ∧ tyd d ∧ P (.bl (eqR p d)) c
theorem rat_eq_iff (p q : Rat) : p = q ↔ p.num = q.num ∧ (p.den : Int) = (q.den : Int) := ⟨fun h => by subst h; exact ⟨rfl, rfl⟩, fun h => Rat.ext h.1 (by have := h.2; omega)⟩
theorem ok_Ratio_eq {fW : Addr} (U : Fun T.K "__eq__" "Ratio.__eq__" s_Ratio_eq f fd) (RC : RCls T.K mg T.C) (mis : mg "isinstance" = none) (DT : Dp P w T mg base T.C "top" 1 F_top) (DB : Dp P w T mg base T.C "bottom" 1 F_bottom) (DW : Df P w T mg base "is_whole" 1 fW F_is_whole) :
    FnGk P w T.K mg base (L2.CX P w) 3 f fd ["self", "other"] (SpW T F_eq) := by
  refine Fun.doesG U sc_Ratio_eq (fun ds c P R h => ?_) (fun Z c ds cdv A outer s H E B R rt hZ ok hr h => ?_)
  · obtain ⟨p, d, rfl, _⟩ := h
    rfl
  · obtain ⟨p, d, rfl, hd, h⟩ := h
    obtain ⟨t, ht⟩ := tyV_some (T' := T) hd
    have own : isOwn d = false := by cases d <;> first | rfl | cases hd
    subst hZ
    refine ss_cons (st_if (et_val (ev_isinst rfl RC.I rfl mis (ea_cons (ev_var 1 rfl (n := own) (ea_cons (ev_globC rfl RC.m (ea_nil ⟨d, "", t, _, _, rfl, ht, .inr ⟨rfl, RC.kit ht⟩, _, rfl, fun hk => ?_, fun hk => ?_⟩))))))))
    · cases d <;> first | (cases hk; done) | skip
      case rat q =>
        refine ss_one (st_ret (ev_and (ev_eq (ev_ftop rfl RC (ev_var 0 rfl ⟨_, rfl, (ev_dp DT RC.I.cl ok hr (by decide) (ev_var 1 rfl ⟨_, rfl, _, rfl, ⟨_, rfl, ⟨_, rfl, fun hk => ?_, fun hk => ?_⟩⟩⟩))⟩)))))
        · have h1 : p.num = q.num := of_decide_eq_true hk
          refine ev_bone (ev_eq (ev_fbottom rfl RC (ev_var 0 rfl ⟨_, rfl, (ev_dp DB RC.I.cl ok hr (by decide) (ev_var 1 rfl ⟨_, rfl, _, rfl, ⟨_, rfl, rfl, ?_⟩⟩))⟩)))
          have e : decide ((p.den : Int) = (q.den : Int)) = eqR p (.rat q) := decide_eq_decide.mpr ⟨fun z => (rat_eq_iff p q).mpr ⟨h1, z⟩, fun z => ((rat_eq_iff p q).mp z).2⟩
          rw [e]
          exact h
        · have h1 : ¬ p.num = q.num := fun z => by rw [decide_eq_true z] at hk; cases hk
          refine ⟨rfl, ?_⟩
          have e : eqR p (.rat q) = false := decide_eq_false fun z => h1 (by rw [z])
          rw [e] at h
          exact h
    · refine ss_nil (ss_one (st_ret (ev_and (ev_df DW ok hr (by decide) (ea_cons (ev_var 1 rfl (n := own) (ea_nil ⟨d, rfl, hd, _, rfl, fun hk2 => ?_, fun hk2 => ?_⟩)))))))
      · cases d <;> first | (cases hk2; done) | skip
        case int i =>
          refine ev_and (ev_eq (ev_fbottom rfl RC (ev_var 0 rfl ⟨_, rfl, (ev_int ⟨_, rfl, ⟨_, rfl, fun hk => ?_, fun hk => ?_⟩⟩)⟩)))
          · have h1 : (p.den : Int) = 1 := of_decide_eq_true hk
            refine ev_bone (ev_eq (ev_ftop rfl RC (ev_var 0 rfl ⟨_, rfl, (ev_var 1 rfl ⟨_, rfl, rfl, ?_⟩)⟩)))
            have e : decide (p.num = i) = eqR p (.int i) := decide_eq_decide.mpr ⟨fun z => (rat_eq_iff p _).mpr ⟨by simpa using z, by simpa using h1⟩, fun z => by have := ((rat_eq_iff p _).mp z).1; simpa using this⟩
            rw [e]
            exact h
          · have h1 : ¬ (p.den : Int) = 1 := fun z => by rw [decide_eq_true z] at hk; cases hk
            refine ⟨rfl, ?_⟩
            have e : eqR p (.int i) = false := decide_eq_false fun z => h1 (by rw [z]; simp)
            rw [e] at h
            exact h
      · refine ⟨rfl, ?_⟩
        have e : eqR p d = false := by cases d <;> first | rfl | (cases hk; done) | (cases hk2; done)
        rw [e] at h
        exact h
/-! rules for the operators, by names -/
section
variable {Z : Zt} {ρ : Rho} {σ : St} {P' : D → Nat → Prop} {e a b : Expr} {pos : Pos} {j : Nat}
theorem ev_req {fL : Addr} {F : Fw} {k : Nat} (D : Dm Z.X.prog Z.X.w Z.T Z.X.mg Z.X.base Z.T.C "__eq__" k fL F) (ok : Zok Z) (hr : RoomG j Z.X.A) (hj : k ≤ j)
    (h : EV Z ρ a fun d1 c1 => EV Z (ρ.wc c1) b fun d2 c2 => ∃ p t, d1 = .rat p ∧ tyV Z.T d2 = some t ∧ F [d1, d2] c2 P' (fun _ _ => False)) : EV Z ρ (.Compare a [.Eq] [b] pos) P' := ev_cmpR (fun _ _ => rfl) (nomark _) D ok hr hj h
theorem et_req {P' : Bool → Nat → Prop} {fL : Addr} {F : Fw} {k : Nat} (D : Dm Z.X.prog Z.X.w Z.T Z.X.mg Z.X.base Z.T.C "__eq__" k fL F) (ok : Zok Z) (hr : RoomG j Z.X.A) (hj : k ≤ j)
    (h : EV Z ρ a fun d1 c1 => EV Z (ρ.wc c1) b fun d2 c2 => ∃ p t, d1 = .rat p ∧ tyV Z.T d2 = some t ∧ F [d1, d2] c2 (fun d c => ∃ k, d = .bl k ∧ P' k c) (fun _ _ => False)) : ET Z ρ (.Compare a [.Eq] [b] pos) P' := et_cmpR (fun _ _ => rfl) (nomark _) D ok hr hj h
end
theorem eqR_num {p q : Rat} {d : D} (h : numD d = some q) : eqR p d = decide (p = q) := by
  cases d <;> first | (cases h; done) | skip
  case rat r =>
    have e := Option.some.inj h
    subst e
    rfl
  case int i =>
    have e := Option.some.inj h
    subst e
    rfl
/-- a method -/
structure Dme (P : Program) (w : World) (T : Tab) (mg : Str → Option Value) (base : Heap) (C : Addr) (name : Str) (k : Nat) (f : Addr) (F : Fw) : Prop where
  g : FnG P w T.K mg base (L2.CX P w) k f (SpW T F)
  m : Meth T.K C name f
end Q
end

section
set_option Elab.async false
set_option linter.all false
set_option maxRecDepth 100000
set_option maxHeartbeats 3900000
set_option exponentiation.threshold 20000
/-! K3k: written, read_digits, Ratio.text, Ratio.read. -/
namespace Q
open PySem L2
variable {P : Program} {w : World} {T : Tab} {mg : Str → Option Value} {base : Heap} {f fA fI CZ CB CT : Addr} {fd : FuncData}
section
variable {Z : Zt} {ρ : Rho} {P' : D → Nat → Prop} {o : Expr} {pos apos : Pos} {name : Str} {k j : Nat} {F : Fw} {d d' : D} {q : Rat} {pl : Sem Bool}
theorem eq_dme0 {f : Addr} (D : Dme Z.X.prog Z.X.w Z.T Z.X.mg Z.X.base Z.T.C name k f F) (cl : Cls Z.T.K Z.T.C) (ok : Zok Z) (hr : RoomG j Z.X.A) (hj : k ≤ j) (h : EQ Z ρ o (.rat q)) (hF : F [.rat q] ρ.c (fun d' c' => d' = d ∧ c' = ρ.c) (fun er c' => Z.R er (ρ.wc c')))
    (h1 : ¬ name = "_top" := by decide +kernel) (h2 : ¬ name = "_bottom" := by decide +kernel)
    (ht : eval (.Call (.Attribute o name apos) [] [] pos) Z.X.env = (do
      let ov ← eval o Z.X.env
      standAt apos.atName
      let (f, first) ← holding [ov]
        (getMethod ov name pl)
      callWith pos f first (backTo pos (starEach [] Z.X.env)) (backToKw pos (keywordEach [] Z.X.env))) := by rfl) : EQ Z ρ (.Call (.Attribute o name apos) [] [] pos) d := by
  obtain ⟨G, M⟩ := D
  rw [← ok.K] at M cl
  exact ev_meth0 (k := k) (F := F) ok cl M (by unfold Does; rw [ok.K]; exact G) (hr.mono hj) (h.to ⟨rfl, isIns_rat h1 h2, hF⟩) ht
end
abbrev big : Nat := 10 ^ 60
theorem log_small {i : Int} (h : i.natAbs < 10 ^ 60) : i.natAbs.log2 < 1920 := by
  by_cases z : i.natAbs = 0
  · rw [z]; decide
  · exact (Nat.log2_lt z).mpr (Nat.lt_of_lt_of_le h (by decide))
def F_wr0 : Fw := fun ds c P R => ∃ i : Int, ds = [.int i] ∧ 0 ≤ i ∧ i.natAbs < 10 ^ 60 ∧ P (.str (tx i)) c
def F_wr : Fw := fun ds c P R => ∃ i : Int, ds = [.int i] ∧ i.natAbs < 10 ^ 60 ∧ P (.str (tx i)) c
theorem cpow_10_60 : CPow 10 60 := ⟨by decide, by decide, by decide⟩
theorem join_one (x y : Str) : Txt.join x [y] = y := rfl
theorem body_written {Z : Zt} {ρ : Rho} {i : Int} {bt : Tok} (ok : Zok Z) (hZ : ∃ (P : Program) (w : World) (T : Tab) (mg : Str → Option Value) (base : Heap) (cdv : Value) (A : Around) (outer : List Env) (s : Shared) (H : Hp) (E : XK) (B : Bm) (R : Er → Nat → Prop) (rt : D → Nat → Prop) (f : Addr), Z = zBody P w T mg base ["number", "parts", "part"] "written" (defScope s_written) f cdv A outer s H E B R rt)
    (mb : Z.X.mg "_BLOCK" = some (.int (10 ^ 60) bt)) (ms : Z.X.mg "str" = none) (mr : Z.X.mg "reversed" = none) (h0 : 0 ≤ i) (hi : i.natAbs < 10 ^ 60) (hs : ρ = ⟨ρ.B, [some (.int i), none, none], ρ.c⟩) (h : Z.rt (.str (tx i)) ρ.c) :
    SS Z ρ ((defBody s_written).drop 1) ⟨fun r => Z.rt .non r.c, fun _ => False, fun _ => False⟩ := by
  obtain ⟨P, w, T, mg, base, cdv, A, outer, s, H, E, B, R, rt, f, rfl⟩ := hZ
  rw [hs]
  generalize ρ.B = B0 at h ⊢
  generalize ρ.c = c0 at h ⊢
  refine ss_cons (st_own (i := 1) ok (ea_nil ⟨rfl, by decide, fun B' o n0 hne => ?_⟩))
  dsimp only [Rho.wc, Rho.set]
  refine ss_cons (st_while ok (fun m r => m = 0 ∧ r = ⟨B', [some (.int i), some (.own o []), none], c0⟩) 0 ⟨rfl, rfl⟩ ?_)
  rintro m r ⟨rfl, rfl⟩
  refine et_ge (ev_var 0 rfl (ev_globI rfl mb ⟨fun z => ?_, fun _ => ?_⟩))
  · have z' := of_decide_eq_true z
    omega
  dsimp only [Rho.wc, Rho.set]
  refine ss_cons (st_append 1 ok rfl n0 (fun j l' hj => ?_) (ea_cons (EQ.to (eq_strI ms (eq_var 0 rfl) (log_small hi)) (ea_nil ⟨_, rfl, rfl, by show 0 < 100000; decide, fun B'' => ?_⟩))) (pm := fun ha hb => ps_expr (pe_bm PySem.F.plainAttrs_list PySem.F.slot_list_append PySem.F.type_list_append mt_append ha hb)))
  · match j, hj with
    | 0, hj => cases hj
    | 1, _ => rfl
    | 2, hj => cases hj
    | n + 3, hj => simp at hj
  dsimp only [Rho.wc, Rho.set]
  refine ss_free 1 (o := o) (l := [.str (tx i)]) n0 rfl (fun j l' hj => ?_) fun B3 => ?_
  · match j, hj with
    | 0, hj => cases hj
    | 1, _ => rfl
    | 2, hj => cases hj
    | n + 3, hj => simp at hj
  refine ss_one (st_ret (EQ.to (eq_joinRev (ys := [tx i]) rfl mr eq_str (eq_var 1 rfl) ?_) ⟨rfl, h⟩))
  show (tx i).length + 0 + 1 * 0 ≤ 16777216
  have := tx_len (k := 60) (by decide) hi
  omega
theorem tx_neg {i : Int} (h : i < 0) : ("-" : Str) ++ tx (-i) = tx i := by
  refine TL.ext_tl ?_
  rw [TL.tl_append, tl_tx_nn (by omega), tl_tx_neg h]
  show 45 :: TL.numL (-i).natAbs = _
  rw [Int.natAbs_neg]
theorem ok_written0 {bt : Tok} (U : Fun T.K "written" "written" s_written f fd) (mb : mg "_BLOCK" = some (.int (10 ^ 60) bt)) (ms : mg "str" = none) (mr : mg "reversed" = none) : FnGk P w T.K mg base (L2.CX P w) 1 f fd ["number"] (SpW T F_wr0) := by
  refine Fun.doesG U sc_written (fun ds c P R h => ?_) (fun Z c ds cdv A outer s H E B R rt hZ ok hr h => ?_)
  · obtain ⟨i, rfl, _⟩ := h
    rfl
  · obtain ⟨i, rfl, h0, hi, h⟩ := h
    have go := body_written (Z := Z) (ρ := ⟨B, [some (.int i), none, none], c⟩) (i := i) (bt := bt) ok ⟨_, _, _, _, _, _, _, _, _, _, _, _, _, _, _, hZ⟩ (by subst hZ; exact mb) (by subst hZ; exact ms) (by subst hZ; exact mr) h0 hi rfl (by subst hZ; exact h)
    subst hZ
    refine ss_cons (st_if (et_lt (ev_var 0 rfl (ev_int ⟨fun z => ?_, fun _ => ss_nil ?_⟩))))
    · have z' := of_decide_eq_true z
      omega
    · exact go
theorem ok_written {bt : Tok} {f0 : Addr} (U : Fun T.K "written" "written" s_written f fd) (D0 : Df P w T mg base "written" 1 f0 F_wr0) (mb : mg "_BLOCK" = some (.int (10 ^ 60) bt)) (ms : mg "str" = none) (mr : mg "reversed" = none) : FnGk P w T.K mg base (L2.CX P w) 2 f fd ["number"] (SpW T F_wr) := by
  refine Fun.doesG U sc_written (fun ds c P R h => ?_) (fun Z c ds cdv A outer s H E B R rt hZ ok hr h => ?_)
  · obtain ⟨i, rfl, _⟩ := h
    rfl
  · obtain ⟨i, rfl, hi, h⟩ := h
    have go := fun h0 : 0 ≤ i => body_written (Z := Z) (ρ := ⟨B, [some (.int i), none, none], c⟩) (i := i) (bt := bt) ok ⟨_, _, _, _, _, _, _, _, _, _, _, _, _, _, _, hZ⟩ (by subst hZ; exact mb) (by subst hZ; exact ms) (by subst hZ; exact mr) h0 hi rfl (by subst hZ; exact h)
    subst hZ
    refine ss_cons (st_if (et_lt (ev_var 0 rfl (ev_int ⟨fun z => ?_, fun z => ss_nil ?_⟩))))
    · have z' : i < 0 := of_decide_eq_true z
      refine ss_one (st_ret (ev_sadd (EQ.to eq_str (ev_df D0 ok hr (by decide) (ea_cons (ev_neg (ev_var 0 rfl (ea_nil ⟨-i, rfl, by omega, by omega, "-", _, rfl, rfl, ?_, rfl, ?_⟩))))))))
      · have := tx_len (k := 60) (i := -i) (by decide) (by omega)
        show 1 + (tx (-i)).length ≤ 100000
        omega
      · rw [tx_neg z']
        exact h
    · exact go (by have := of_decide_eq_false z; omega)
/-! ### Ratio.text -/
def F_text : Fw := fun ds c P R => ∃ q : Rat, ds = [.rat q] ∧ q.num.natAbs < 10 ^ 60 ∧ q.den < 10 ^ 60 ∧ P (.str (qtx q)) c
theorem ok_Ratio_text {fw : Addr} (U : Fun T.K "text" "Ratio.text" s_Ratio_text f fd) (RC : RCls T.K mg T.C) (DW : Df P w T mg base "written" 2 fw F_wr) : FnGk P w T.K mg base (L2.CX P w) 3 f fd ["self"] (SpW T F_text) := by
  refine Fun.doesG U sc_Ratio_text (fun ds c P R h => ?_) (fun Z c ds cdv A outer s H E B R rt hZ ok hr h => ?_)
  · obtain ⟨q, rfl, _⟩ := h
    rfl
  · obtain ⟨q, rfl, h1, h2, h⟩ := h
    subst hZ
    refine ss_cons (st_if (et_eq (ev_fbottom rfl RC (ev_var 0 rfl ⟨q, rfl, ev_int ⟨_, rfl, fun z => ?_, fun z => ss_nil ?_⟩⟩))))
    · have z' : q.den = 1 := by have := of_decide_eq_true z; omega
      rw [qtx_one z'] at h
      exact ss_one (st_ret (ev_df DW ok hr (by decide) (ea_cons (ev_ftop rfl RC (ev_var 0 rfl ⟨q, rfl, ea_nil ⟨q.num, rfl, h1, rfl, h⟩⟩)))))
    · have z' : q.den ≠ 1 := fun e => by have := of_decide_eq_false z; omega
      rw [qtx_two z'] at h
      have l1 := tx_len (k := 60) (by decide) h1
      have l2 := tx_len (k := 60) (i := (q.den : Int)) (by decide) (by omega)
      refine ss_one (st_ret (EQ.to (eq_joined (y := tx q.num) (z := tx (q.den : Int)) ?_ ?_ ?_) ⟨rfl, h⟩))
      · exact ev_df DW ok hr (by decide) (ea_cons (ev_ftop rfl RC (ev_var 0 rfl ⟨q, rfl, ea_nil ⟨q.num, rfl, h1, rfl, rfl⟩⟩)))
      · exact ev_df DW ok hr (by decide) (ea_cons (ev_fbottom rfl RC (ev_var 0 rfl ⟨q, rfl, ea_nil ⟨(q.den : Int), rfl, by omega, rfl, rfl⟩⟩)))
      · show (tx q.num).length + 1 + (tx (q.den : Int)).length ≤ 100000
        omega
end Q
end

section
set_option Elab.async false
set_option linter.all false
set_option maxRecDepth 100000
set_option maxHeartbeats 3900000
set_option exponentiation.threshold 20000
/-! K3l: read_digits, Ratio.read. -/
namespace Q
open PySem L2
section
variable {Z : Zt} {ρ : Rho} {σ : St} {H H' : Hp} {O : Out} {e a b c : Expr} {pos p apos pos' : Pos} {l : List Stmt}
def spinsF (g : Nat → Int) (body : Rho → Int → (Rho → Prop) → Prop) (N : Rho → Prop) : Nat → Nat → Rho → Prop
  | 0, _, ρ => N ρ
  | n + 1, k, ρ => body ρ (g k) (fun ρ' => spinsF g body N n (k + 1) ρ')
/-- for x in range(lo, hi, c) -/
theorem st_range3 {i : Nat} {x : Str} {px pr pc : Pos} (ok : Zok Z) (hg : Gl Z.X "range") (hm : Z.X.mg "range" = none)
    (h : EA Z ρ [a, b, c] fun ds n0 => ∃ (lo hi st : Int) (n : Nat), ds = [.int lo, .int hi, .int st] ∧ RgC lo hi st n ∧ spinsF (fun k => lo + (k : Nat) * st) (fun ρ y K => SS Z (ρ.set i (.int y)) l ⟨K, O.nx, K⟩) O.nx n 0 (ρ.wc n0))
    (hst : starEach [a, b, c] Z.X.env = (false, eval a Z.X.env) :: starEach [b, c] Z.X.env := by rfl)
    (hpl : (backTo pc (starEach [b, c] Z.X.env)).any (·.1) = false := by rfl) (hi : Z.X.N[i]? = some x := by rfl) (hx : Loc Z.X.env.scope x := by first | exact Or.inl rfl | exact Or.inr rfl)
    (hf : Z.X.fn x = true ∨ Z.X.env.scope.names.lookup x = some .local := by first | exact .inl rfl | exact .inr rfl) (hc : Z.X.calm = true := by rfl) : ST Z ρ (.For (.Name x px) (.Call (.Name "range" pr) [a, b, c] [] pc) l [] pos) O :=
  st_of (ps_for ok.po hc (pi_range3 hg hm pa_any hst hpl) (pg_name ok.nd hi hx hf) pss_any) fun D' σ H S q => ea_any h S fun vs H1 ds n0 S1 e1 r ⟨lo, hi', st, n, hd, hr, ht⟩ => by
    subst hd
    have hv : vs = [.int lo, .int hi', .int st] := by
      cases r with
      | cons r1 t1 =>
        cases r1
        cases t1 with
        | cons r2 t2 =>
          cases r2
          cases t2 with
          | cons r3 t3 =>
            cases r3
            cases t3
            rfl
    subst hv
    refine ⟨lo, hi', st, n, rfl, hr, ?_⟩
    refine ⟨fun j m σ' H' => ∃ ρ', SR Z ρ' σ' H' ∧ j + m = n ∧ spinsF (fun k => lo + (k : Nat) * st) (fun ρ y K => SS Z (ρ.set i (.int y)) l ⟨K, O.nx, K⟩) O.nx m j ρ', ⟨n, ρ.wc n0, S1, Nat.zero_add _, ht⟩, fun j m σ' H' ⟨ρ', S', hn, ht'⟩ => ?_⟩
    cases m with
    | zero => exact .inl ⟨by show n ≤ j; omega, q.nx _ _ _ S' ht'⟩
    | succ m =>
      refine .inr ⟨by show j < n; omega, fun σ2 H2 => ∃ ρ2, SR Z ρ2 σ2 H2 ∧ spinsF (fun k => lo + (k : Nat) * st) (fun ρ y K => SS Z (ρ.set i (.int y)) l ⟨K, O.nx, K⟩) O.nx m (j + 1) ρ2, fun σ2 H2 ⟨ρ2, S2, t2⟩ => ⟨m, by omega, ρ2, S2, by omega, t2⟩, fun x2 H2 hy2 => ?_⟩
      obtain ⟨rfl, rfl⟩ := hy2
      exact ss_any ht' (S'.set i (slot_of (d := .int (lo + (j : Nat) * st)) rfl)) ⟨fun σ H r S x => ⟨r, S, x⟩, fun σ H r S x => q.nx σ H r S x, fun σ H r S x => ⟨r, S, x⟩, q.rt⟩
theorem eq_mod {n m : Int} (ha : EQ Z ρ a (.int n)) (hb : EQ Z ρ b (.int m)) (h : 0 < m) : EQ Z ρ (.BinOp a .Mod b pos) (.int (n % m)) := ev_mod (ha.to (EQ.to hb ⟨h, rfl, rfl⟩))
theorem eq_neg {i : Int} (h : EQ Z ρ a (.int i)) : EQ Z ρ (.UnaryOp .USub a pos) (.int (-i)) := ev_neg (h.to ⟨rfl, rfl⟩)
theorem eq_globI {x : Str} {i : Int} {t : Tok} (hm : Z.X.mg x = some (.int i t)) (hg : Gl Z.X x := by rfl) (hd : (x == ("__debug__" : Str)) = false := by decide) : EQ Z ρ (.Name x pos) (.int i) := ev_globI hg hm ⟨rfl, rfl⟩ hd
theorem eq_zfillE {z : Str} {i : Int} {k : Nat} (ha : EQ Z ρ a (.str z)) (hb : EQ Z ρ b (.int i)) (e : i = (k : Int)) (h : PadOk (k : Int) = true) (hs : starEach [b] Z.X.env = [(false, eval b Z.X.env)] := by rfl) (hbase : attributeBase a "zfill" Z.X.env (eval a Z.X.env) = eval a Z.X.env := by rfl)
    (hline : (apos.endLine == pos.line) = true := by rfl) : EQ Z ρ (.Call (.Attribute a "zfill" apos) [b] [] pos) (.str (Txt.zfill z k)) := by
  subst e
  exact eq_zfill ha hb h hs hbase hline
theorem eq_sl2E {z y : Str} {lo hi : Int} {p2 : Pos} (ha : EQ Z ρ a (.str z)) (hb : EQ Z ρ b (.int lo)) (hc : EQ Z ρ c (.int hi)) (hz : z.length ≤ 100000) (e : Txt.slice z (some lo) (some hi) = y) : EQ Z ρ (.Subscript a (.Slice (some b) (some c) none p2) pos) (.str y) := by
  subst e
  exact eq_sl2 ha hb hc hz
theorem tq_eqS {y z : Str} (ha : EQ Z ρ a (.str y)) (hb : EQ Z ρ b (.str z)) : TQ Z ρ (.Compare a [.Eq] [b] pos) (decide (y = z)) := et_eq (ha.to (EQ.to hb ⟨_, rfl, rfl, rfl⟩))
theorem tq_neS {y z : Str} (ha : EQ Z ρ a (.str y)) (hb : EQ Z ρ b (.str z)) : TQ Z ρ (.Compare a [.NotEq] [b] pos) (!decide (y = z)) := et_ne (ha.to (EQ.to hb ⟨_, rfl, rfl, rfl⟩))
end
variable {P : Program} {w : World} {T : Tab} {mg : Str → Option Value} {base : Heap} {f fA fI CZ CB CT : Addr} {fd : FuncData}
def F_rd : Fw := fun ds c P R => ∃ x : Str, ds = [.str x] ∧ x.length ≤ 60 ∧ (okW' (TL.tl x) → P (.int (wval (TL.tl x))) c) ∧ (¬ okW' (TL.tl x) → P .non c)
theorem missing_eq {n : Nat} (h1 : 1 ≤ n) (h2 : n ≤ 60) : (n : Int) + -(n : Int) % 60 = 60 := by omega
theorem ok_read_digits {bt wt : Tok} (U : Fun T.K "read_digits" "read_digits" s_read_digits f fd) (mb : mg "_BLOCK" = some (.int (10 ^ 60) bt)) (mw : mg "_WIDTH" = some (.int 60 wt)) (ml : mg "len" = none) (mr : mg "range" = none) (mi : mg "int" = none) : FnGk P w T.K mg base (L2.CX P w) 1 f fd ["text"] (SpW T F_rd) := by
  refine Fun.doesG U sc_read_digits (fun ds c P R h => ?_) (fun Z c ds cdv A outer s H E B R rt hZ ok hr h => ?_)
  · obtain ⟨x, rfl, _⟩ := h
    rfl
  · obtain ⟨x, rfl, hl, h1, h2⟩ := h
    subst hZ
    have hw := rp_wdig x
    have hdl := rp_len x
    refine ss_cons (st_setq (i := 1) ok (eq_removeprefix (eq_var 0 rfl) eq_str (by omega)) ?_)
    dsimp only [Rho.wc, Rho.set]
    generalize hd : Txt.removeprefix x "-" = d at hw hdl
    have iff := dig_iff d
    rw [hw] at iff
    refine ss_cons (st_if (TQ.to (tq_not (tq_bool (wq_and (tq_val (eq_isascii (eq_var 1 rfl))) fun _ => wq_and1 (tq_val (eq_isdigit (eq_var 1 rfl)))))) ⟨fun z => ?_, fun z => ss_nil ?_⟩))
    · have n : ¬ okW' (TL.tl x) := fun y => by
        rw [iff.mpr y] at z
        cases z
      exact ss_one (st_ret (ev_non ⟨rfl, h2 n⟩))
    have good : okW' (TL.tl x) := by
      refine iff.mp ?_
      cases k : (Txt.isascii d && Txt.isdigit d) with
      | true => rfl
      | false =>
        rw [k] at z
        cases z
    have dig : NumText.AllDigits (TL.tl d) := by rw [hw]; exact good.1
    have dne : TL.tl d ≠ [] := by rw [hw]; exact good.2
    have n1 : 1 ≤ d.length := by
      rw [len0]; exact List.length_pos_iff.mpr dne
    have pt := zfill_tl dig dne (k := 60) (by omega : d.length ≤ 60)
    have miss := missing_eq n1 (by omega : d.length ≤ 60)
    have plen : (Txt.zfill d (60 : Nat)).length = 60 := by
      rw [len0, pt, List.length_append, List.length_replicate, ← len0]; omega
    have pint : PySem.intText? (Txt.zfill d (60 : Nat)) = some ((NumText.digitsVal (TL.tl d) : Nat) : Int) := by
      have q := int_digits (x := Txt.zfill d (60 : Nat)) (by rw [pt]; exact pad_dig dig) (by rw [pt]; intro e; exact dne (List.append_eq_nil_iff.mp e).2) (by rw [plen]; decide)
      rw [pt, val_pad] at q
      exact q
    refine ss_cons (st_setq (i := 2) ok (eq_mod (eq_neg (eq_lenS ml (eq_var 1 rfl) (by omega))) (eq_globI mw) (by decide)) ?_)
    dsimp only [Rho.wc, Rho.set]
    refine ss_cons (st_setq (i := 3) ok (eq_zfillE (k := 60) (eq_var 1 rfl) (eq_add (eq_lenS ml (eq_var 1 rfl) (by omega)) (eq_var 2 rfl)) miss (by decide)) ?_)
    dsimp only [Rho.wc, Rho.set]
    refine ss_cons (st_setq (i := 4) ok eq_int ?_)
    dsimp only [Rho.wc, Rho.set]
    refine ss_cons (st_range3 (i := 5) ok rfl mr (AQ.to (aq_cons eq_int (aq_cons (eq_lenS ml (eq_var 3 rfl) (by rw [plen]; decide)) (aq_cons (eq_globI mw) aq_nil))) ⟨0, _, 60, 1, rfl, by rw [plen]; exact ⟨by decide, by decide, by decide, by decide⟩, ?_⟩))
    show SS _ _ _ _
    dsimp only [Rho.wc, Rho.set]
    have sl : Txt.slice (Txt.zfill d (60 : Nat)) (some (0 + (0 : Nat) * 60)) (some (0 + (0 : Nat) * 60 + 60)) = Txt.zfill d (60 : Nat) := slice_whole (n := 60) plen
    refine ss_one (st_setq (i := 4) ok (eq_add (eq_mul (eq_var 4 rfl) (eq_globI mb) (wmul (by decide) (by decide))) (eq_intS (z := Txt.zfill d (60 : Nat)) (i := ((NumText.digitsVal (TL.tl d) : Nat) : Int)) mi (eq_sl2E (eq_var 3 rfl) (eq_var 5 rfl) (eq_add (eq_var 5 rfl) (eq_globI mw)) (by rw [plen]; decide) sl) pint (by rw [plen]; decide))) ?_)
    dsimp only [Rho.wc, Rho.set]
    rw [show (0 : Int) * 10 ^ 60 + ((NumText.digitsVal (TL.tl d) : Nat) : Int) = ((NumText.digitsVal (TL.tl d) : Nat) : Int) by omega]
    refine ss_one (st_ret (ev_if (TQ.to (tq_eqS (eq_var 1 rfl) (eq_var 0 rfl)) ⟨fun z => ?_, fun z => ?_⟩)))
    · have e : d = x := of_decide_eq_true z
      have nn : ∀ r, TL.tl x ≠ 45 :: r := fun r hr => by
        have l1 := congrArg List.length (rp_neg hr)
        rw [hd, e, hr] at l1
        simp at l1
      have h3 := h1 good
      rw [wval_nn nn, ← e] at h3
      exact ev_var 4 rfl ⟨rfl, h3⟩
    · have ne : d ≠ x := of_decide_eq_false z
      obtain ⟨r, hr⟩ : ∃ r, TL.tl x = 45 :: r := by
        refine Classical.byContradiction fun y => ne ?_
        rw [← hd]
        exact rp_nn fun r hr => y ⟨r, hr⟩
      have h3 := h1 good
      have e : TL.tl d = r := by rw [← hd]; exact rp_neg hr
      rw [hr, ← e] at h3
      exact ev_neg (ev_var 4 rfl ⟨rfl, h3⟩)
/-! ### Ratio.read -/
theorem fr_bounds {u d : Int} (h : d ≠ 0) : (fr u d).num.natAbs ≤ u.natAbs ∧ (fr u d).den ≤ d.natAbs := by
  have g := gcd_pos (u := u) h
  have e1 := fr_num (u := u) h
  have e2 := fr_den (u := u) h
  have s : (sgd u d).natAbs = Nat.gcd u.natAbs d.natAbs := by
    unfold sgd
    split <;> omega
  have key : ∀ a : Int, (sgd u d) ∣ a → (a.fdiv (sgd u d)).natAbs ≤ a.natAbs := fun a ha => by
    obtain ⟨k, rfl⟩ := ha
    rw [Int.mul_fdiv_cancel_left _ (sgd_ne h), Int.natAbs_mul]
    exact Nat.le_mul_of_pos_left _ (by rw [s]; exact g)
  have du : sgd u d ∣ u := by
    unfold sgd
    split
    · exact (Int.neg_dvd).mpr (dvd_u u d)
    · exact dvd_u u d
  have dd : sgd u d ∣ d := by
    unfold sgd
    split
    · exact (Int.neg_dvd).mpr (dvd_d u d)
    · exact dvd_d u d
  have k1 := key u du
  have k2 := key d dd
  rw [e1] at k1
  rw [e2] at k2
  exact ⟨k1, by omega⟩
/-- the parts of a quotient's text -/
theorem part_qtx (q : Rat) : Txt.partition (qtx q) slash = if q.den = 1 then (tx q.num, Str.empty, Str.empty) else (tx q.num, slash, tx (q.den : Int)) := by
  by_cases h : q.den = 1
  · rw [if_pos h, qtx_one h]; exact part_one (slash_tx _)
  · rw [if_neg h, qtx_two h]; exact part_two (slash_tx _)
def F_read (C CT : Addr) : Fw := fun ds c P R => ∃ x : Str, ds = [.cls C, .str x] ∧ x.length ≤ 60 ∧ (∀ q, qtx q = x → P (.rat q) c) ∧ ((∀ q, qtx q ≠ x) → R (CT, none) c)
theorem first_cut {c : Nat} : ∀ {l : List Nat}, c ∈ l → ∃ a b, l = a ++ c :: b ∧ c ∉ a
  | [], h => nomatch h
  | y :: l, h => by
    by_cases e : c = y
    · exact ⟨[], l, by rw [e]; rfl, fun z => nomatch z⟩
    · rcases List.mem_cons.mp h with h | h
      · exact (e h).elim
      · obtain ⟨a, b, h1, h2⟩ := first_cut h
        exact ⟨y :: a, b, by rw [h1]; rfl, fun z => (List.mem_cons.mp z).elim e h2⟩
theorem part_cases (x : Str) : (Txt.partition x slash = (x, Str.empty, Str.empty)) ∨ ∃ a b, Txt.partition x slash = (a, slash, b) ∧ x = a ++ slash ++ b := by
  by_cases h : 47 ∈ TL.tl x
  · right
    obtain ⟨a, b, e, n⟩ := first_cut h
    refine ⟨⟨a.toArray⟩, ⟨b.toArray⟩, ?_, ?_⟩
    · have ex : x = (⟨a.toArray⟩ : Str) ++ slash ++ ⟨b.toArray⟩ := TL.ext_tl (by rw [TL.tl_append, TL.tl_append, e]; show _ = (a ++ [47]) ++ b; simp)
      rw [ex]; exact part_two n
    · exact TL.ext_tl (by rw [TL.tl_append, TL.tl_append, e]; show _ = (a ++ [47]) ++ b; simp)
  · exact .inl (part_one h)
/-- what a text of a quotient has for parts -/
theorem qtx_word {q : Rat} {x : Str} (h : qtx q = x) (n : Txt.partition x slash = (x, Str.empty, Str.empty)) : q.den = 1 ∧ x = tx q.num := by
  subst h
  rw [part_qtx] at n
  by_cases e : q.den = 1
  · exact ⟨e, qtx_one e⟩
  · rw [if_neg e] at n
    exact absurd (congrArg (fun p => TL.tl p.2.1) n) (show ¬ [47] = [] by decide)
theorem qtx_pair {q : Rat} {x a b : Str} (h : qtx q = x) (n : Txt.partition x slash = (a, slash, b)) : q.den ≠ 1 ∧ a = tx q.num ∧ b = tx (q.den : Int) := by
  subst h
  rw [part_qtx] at n
  by_cases e : q.den = 1
  · rw [if_pos e] at n
    exact absurd (congrArg (fun p => TL.tl p.2.1) n) (show ¬ [] = [47] by decide)
  · rw [if_neg e] at n
    exact ⟨e, (congrArg (fun p => p.1) n).symm, (congrArg (fun p => p.2.2) n).symm⟩
theorem slash_eq : ("/" : Str) = slash := TL.ext_tl (by decide)
/-- the end of read: the quotient, its text -/
theorem read_end {Z : Zt} {x : Str} {t b : Int} {cdv : Value} {A : Around} {outer : List Env} {s : Shared} {H : Hp} {E : XK} {B0 : Bm} {R : Er → Nat → Prop} {rt : D → Nat → Prop} {B : Bm} {c0 : Nat} {o1 o2 o3 : Option D} {fI fX : Addr}
    (hZ : Z = zBody P w T mg base ["cls", "text", "head", "slash", "tail", "top", "bottom", "ratio"] "Ratio.read" (defScope s_Ratio_read) f cdv A outer s H E B0 R rt) (ok : Zok Z) (hr : RoomG 3 Z.X.A) (RC : RCls T.K mg T.C) (MK : Dk P w T mg base T.C 1 fI (F_mk CZ)) (DX : Dme P w T mg base T.C "text" 3 fX F_text) (ET : ErrC T.K mg "BadText" CT)
    (hb : b ≠ 0) (ht : t.natAbs < 10 ^ 60) (hb' : b.natAbs < 10 ^ 60) (h1 : ∀ q, qtx q = x → rt (.rat q) c0) (h2 : (∀ q, qtx q ≠ x) → R (CT, none) c0) (hq : ∀ q, qtx q = x → fr t b = q) :
    SS Z ⟨B, [some (.cls T.C), some (.str x), o1, o2, o3, some (.int t), some (.int b), none], c0⟩ ((defBody s_Ratio_read).drop 4) ⟨fun r => rt .non r.c, fun _ => False, fun _ => False⟩ := by
  subst hZ
  obtain ⟨n1, n2⟩ := fr_bounds (u := t) hb
  refine ss_cons (st_set (i := 7) ok (ev_mkL 0 MK ok rfl hr (by decide) (ea_cons (ev_var 5 rfl (ea_cons (ev_var 6 rfl (ea_nil ⟨t, b, rfl, fun z => (hb z).elim, fun _ => ⟨Nat.lt_trans ht (by decide), Nat.lt_trans hb' (by decide), ?_⟩⟩)))))))
  dsimp only [Rho.wc, Rho.set]
  refine ss_cons (st_if (TQ.to (tq_neS (eq_dme0 DX RC.I.cl ok hr (by decide) (eq_var 7 rfl) ⟨fr t b, rfl, by omega, by omega, rfl, rfl⟩) (eq_var 1 rfl)) ⟨fun z => ?_, fun z => ss_nil ?_⟩))
  · have ne : qtx (fr t b) ≠ x := of_decide_eq_false (by simpa using z)
    exact ss_one (st_raise0 ok ET (h2 fun q hx => ne (by rw [hq q hx]; exact hx)))
  · have e : qtx (fr t b) = x := of_decide_eq_true (by simpa using z)
    exact ss_one (st_ret (ev_var 7 rfl ⟨rfl, h1 _ e⟩))
theorem ok_Ratio_read {fR fI fX : Addr} (U : Fun T.K "read" "Ratio.read" s_Ratio_read f fd) (RC : RCls T.K mg T.C) (MK : Dk P w T mg base T.C 1 fI (F_mk CZ)) (DX : Dme P w T mg base T.C "text" 3 fX F_text) (DR : Df P w T mg base "read_digits" 1 fR F_rd) (ET : ErrC T.K mg "BadText" CT) :
    FnGk P w T.K mg base (L2.CX P w) 4 f fd ["cls", "text"] (SpW T (F_read T.C CT)) := by
  refine Fun.doesG U sc_Ratio_read (fun ds c P R h => ?_) (fun Z c ds cdv A outer s H E B R rt hZ ok hr h => ?_)
  · obtain ⟨x, rfl, _⟩ := h
    rfl
  · obtain ⟨x, rfl, hl, h1, h2⟩ := h
    have fin := fun {B : Bm} {o1 o2 o3 : Option D} {t b : Int} => read_end (B := B) (o1 := o1) (o2 := o2) (o3 := o3) (x := x) (t := t) (b := b) (c0 := c) hZ ok hr RC MK DX ET
    subst hZ
    refine ss_cons (st_unp3 2 3 4 ok (EQ.to (eq_partition (eq_var 1 rfl) eq_str (by omega) (by decide)) ⟨_, _, _, rfl, ?_⟩))
    dsimp only [Rho.wc, Rho.set]
    rw [slash_eq]
    rcases part_cases x with n | ⟨a, b, n, ex⟩
    · rw [n]
      refine ss_cons (st_set (i := 5) ok (ev_df DR ok hr (by decide) (ea_cons (ev_var 2 rfl (ea_nil ⟨x, rfl, hl, fun good => ?_, fun bad => ?_⟩)))))
      · dsimp only [Rho.wc, Rho.set]
        refine ss_cons (st_setq (i := 6) (d := .int 1) ok (eq_if (tq_str (z := Str.empty) (eq_var 3 rfl) (by decide)) (fun z => absurd z (by decide)) (fun _ => eq_int)) ?_)
        dsimp only [Rho.wc, Rho.set]
        refine ss_cons (st_if (et_bool (ew_or (et_isN (ev_var 5 rfl ⟨false, rfl, fun _ => ew_or (et_isN (ev_var 6 rfl ⟨false, rfl, fun _ => ew_or1 (et_eq (ev_var 6 rfl (ev_int ⟨false, rfl, ⟨fun z => (by cases z), fun _ => ss_nil ?_⟩⟩))), fun z => (by cases z)⟩)), fun z => (by cases z)⟩)))))
        refine fin (by decide) (wval_lt good.1 hl) (by decide) h1 h2 fun q hq => ?_
        obtain ⟨e1, e2⟩ := qtx_word hq n
        rw [e2, wval_tx]
        have := fr_self q
        rw [e1] at this
        exact this
      · dsimp only [Rho.wc, Rho.set]
        refine ss_cons (st_setq (i := 6) (d := .int 1) ok (eq_if (tq_str (z := Str.empty) (eq_var 3 rfl) (by decide)) (fun z => absurd z (by decide)) (fun _ => eq_int)) ?_)
        dsimp only [Rho.wc, Rho.set]
        refine ss_cons (st_if (et_bool (ew_or (et_isN (ev_var 5 rfl ⟨true, rfl, fun z => (by cases z), fun _ => ⟨fun _ => ?_, fun z => (by cases z)⟩⟩)))))
        refine ss_one (st_raise0 ok ET (h2 fun q hq => bad ?_))
        rw [(qtx_word hq n).2]
        exact okW_tx _
    · rw [n]
      have la : a.length ≤ 60 := by
        have := congrArg Str.length ex
        rw [Str.length_append, Str.length_append] at this
        omega
      have lb : b.length ≤ 60 := by
        have := congrArg Str.length ex
        rw [Str.length_append, Str.length_append] at this
        omega
      refine ss_cons (st_set (i := 5) ok (ev_df DR ok hr (by decide) (ea_cons (ev_var 2 rfl (ea_nil ⟨a, rfl, la, fun good => ?_, fun bad => ?_⟩)))))
      · dsimp only [Rho.wc, Rho.set]
        refine ss_cons (st_set (i := 6) ok (ev_if (TQ.to (tq_str (z := slash) (eq_var 3 rfl) (by decide)) ⟨fun _ => ev_df DR ok hr (by decide) (ea_cons (ev_var 4 rfl (ea_nil ⟨b, rfl, lb, fun gb => ?_, fun bb => ?_⟩))), fun z => absurd z (by decide)⟩)))
        · dsimp only [Rho.wc, Rho.set]
          refine ss_cons (st_if (et_bool (ew_or (et_isN (ev_var 5 rfl ⟨false, rfl, fun _ => ew_or (et_isN (ev_var 6 rfl ⟨false, rfl, fun _ => ew_or1 (et_eq (ev_var 6 rfl (ev_int ⟨_, rfl, ⟨fun z => ?_, fun z => ss_nil ?_⟩⟩))), fun z => (by cases z)⟩)), fun z => (by cases z)⟩)))))
          · have z' : wval (TL.tl b) = 0 := of_decide_eq_true z
            refine ss_one (st_raise0 ok ET (h2 fun q hq => ?_))
            rw [(qtx_pair hq n).2.2, wval_tx] at z'
            exact den_ne q z'
          · have z' : wval (TL.tl b) ≠ 0 := of_decide_eq_false z
            refine fin z' (wval_lt good.1 la) (wval_lt gb.1 lb) h1 h2 fun q hq => ?_
            obtain ⟨_, e1, e2⟩ := qtx_pair hq n
            rw [e1, e2, wval_tx, wval_tx]
            exact fr_self q
        · dsimp only [Rho.wc, Rho.set]
          refine ss_cons (st_if (et_bool (ew_or (et_isN (ev_var 5 rfl ⟨false, rfl, fun _ => ew_or (et_isN (ev_var 6 rfl ⟨true, rfl, fun z => (by cases z), fun _ => ⟨fun _ => ?_, fun z => (by cases z)⟩⟩)), fun z => by cases z⟩)))))
          refine ss_one (st_raise0 ok ET (h2 fun q hq => bb ?_))
          rw [(qtx_pair hq n).2.2]
          exact okW_tx _
      · dsimp only [Rho.wc, Rho.set]
        refine ss_cons (st_set (i := 6) ok (ev_if (TQ.to (tq_str (z := slash) (eq_var 3 rfl) (by decide)) ⟨fun _ => ev_df DR ok hr (by decide) (ea_cons (ev_var 4 rfl (ea_nil ⟨b, rfl, lb, fun gb => ?_, fun bb => ?_⟩))), fun z => absurd z (by decide)⟩)))
        all_goals
          dsimp only [Rho.wc, Rho.set]
          refine ss_cons (st_if (et_bool (ew_or (et_isN (ev_var 5 rfl ⟨true, rfl, fun z => (by cases z), fun _ => ⟨fun _ => ?_, fun z => (by cases z)⟩⟩)))))
          refine ss_one (st_raise0 ok ET (h2 fun q hq => bad ?_))
          rw [(qtx_pair hq n).2.1]
          exact okW_tx _
end Q
end

section
set_option Elab.async false
set_option linter.all false
set_option maxRecDepth 100000
set_option maxHeartbeats 3900000
set_option exponentiation.threshold 20000
/-! K3m: the law's words. -/
namespace Q
open PySem L2
section
variable {Z : Zt} {ρ : Rho} {e a b : Expr} {pos p p1 p2 p3 p4 px : Pos} {x : Str} {i : Nat} {P : D → Nat → Prop} {scope : Scope}
theorem EQ.as {d d' : D} (h : EQ Z ρ e d) (q : d = d') : EQ Z ρ e d' := q ▸ h
theorem eq_slFrom {z : Str} {n : Int} (ha : EQ Z ρ a (.str z)) (hb : EQ Z ρ b (.int n)) (h : z.length ≤ 100000) : EQ Z ρ (.Subscript a (.Slice (some b) none none p2) pos) (.str (Txt.slice z (some n) none)) := ev_slFrom (ha.to (EQ.to hb ⟨z, n, rfl, rfl, h, rfl, rfl⟩))
theorem eq_slTo {z : Str} {n : Int} (ha : EQ Z ρ a (.str z)) (hb : EQ Z ρ b (.int n)) (h : z.length ≤ 100000) : EQ Z ρ (.Subscript a (.Slice none (some b) none p2) pos) (.str (Txt.slice z none (some n))) := ev_slTo (ha.to (EQ.to hb ⟨z, n, rfl, rfl, h, rfl, rfl⟩))
theorem tq_notInS {c : Nat} {z : Str} (ha : EQ Z ρ a (.str ⟨#[c]⟩)) (hb : EQ Z ρ b (.str z)) (hm : behindInMarks .NotIn b = false) : TQ Z ρ (.Compare a [.NotIn] [b] pos) (!decide (c ∈ z.cps.toList)) :=
  et_cmp2 op_notInS hm (ha.to (EQ.to hb fun σ H v1 v2 Q S r1 r2 kq => by
    cases r1
    cases r2
    exact ⟨c, z, rfl, rfl, kq.here (d := .bl _) S ⟨_, rfl, rfl, rfl⟩ rfl⟩))
def chs (cs : List Nat) : List D := cs.map fun c => .str ⟨#[c]⟩
/-- [x for x in a text if x not in z] -/
theorem lcs_chars {z : Str} {j} {s : List (Option D)} (hi : i < s.length) (hN : Z.X.N[i]? = some x) (hx : scope.names.lookup x = some .local) (hd : (x == ("__debug__" : Str)) = false := by decide) (hcd : (x == ("__classdict__" : Str)) = false := by decide) :
    ∀ {cs : List Nat} {acc : List D} {c : Nat}, acc.length + cs.length ≤ 1000 → P (.lst (acc ++ chs (cs.filter fun y => !decide (y ∈ z.cps.toList)))) c → lcs Z scope s i [.Compare (.Name x p1) [.NotIn] [.Constant (.str z) j p3] p4] (.Name x p2) P (chs cs) acc c
  | [], acc, c, _, h => by
    rw [List.filter_nil, show chs [] = [] from rfl, List.append_nil] at h
    exact h
  | y :: cs, acc, c, hl, h => fun B s1 H1 C cl fp ok => by
    have look : ((s.set i none).set i (some (D.str ⟨#[y]⟩)))[i]? = some (some (D.str ⟨#[y]⟩)) := by
      rw [List.getElem?_set_self (by simpa using hi)]
    have vis : ∀ {C2 cl2}, Vis (compEnvC scope cl2 C2 Z.X.env).scope x := fun {C2 cl2} => .inl (lookup_relabel_local hx)
    rw [List.length_cons] at hl
    refine TQ.to (Z := Z.blk s1 H1 scope C cl fp) (tq_notInS (eq_var i look rfl hN vis hd hcd) eq_str rfl) ⟨fun hb => ?_, fun hb => ?_⟩
    · refine fun s2 H2 C2 cl2 fp2 ok2 => ev_var i look ⟨rfl, by omega, ?_⟩ rfl hN vis hd hcd
      refine lcs_chars hi hN hx hd hcd (by rw [List.length_append]; show acc.length + 1 + cs.length ≤ 1000; omega) ?_
      have e : (y :: cs).filter (fun y => !decide (y ∈ z.cps.toList)) = y :: cs.filter (fun y => !decide (y ∈ z.cps.toList)) := List.filter_cons_of_pos hb
      rw [e, show chs (y :: cs.filter fun y => !decide (y ∈ z.cps.toList)) = [D.str ⟨#[y]⟩] ++ chs (cs.filter fun y => !decide (y ∈ z.cps.toList)) from rfl, ← List.append_assoc] at h
      exact h
    · refine lcs_chars hi hN hx hd hcd (by omega) ?_
      have e : (y :: cs).filter (fun y => !decide (y ∈ z.cps.toList)) = cs.filter (fun y => !decide (y ∈ z.cps.toList)) := List.filter_cons_of_neg (by show ¬ (!decide (y ∈ z.cps.toList)) = true; rw [hb]; exact Bool.false_ne_true)
      rw [e] at h
      exact h
theorem toPs_chs : ∀ cs : List Nat, toPs (chs cs) = some (cs.map fun c => .str ⟨#[c]⟩)
  | [] => rfl
  | c :: cs => by
    show (match toP (D.str ⟨#[c]⟩), toPs (chs cs) with | some p, some ps => some (p :: ps) | _, _ => none) = _
    rw [toPs_chs cs]; rfl
theorem toP_chs (cs : List Nat) : toP (.lst (chs cs)) = some (.list (cs.map fun c => .str ⟨#[c]⟩)) := by
  show (toPs (chs cs)).map PyData.list = _
  rw [toPs_chs]; rfl
theorem strOk_one : ∀ c : Nat, c < 128 → PyData.strOk ⟨#[c]⟩ = true := by decide +kernel
theorem lay_chs : ∀ cs : List Nat, (∀ c ∈ cs, c < 128) → PyData.canLayAll0 (cs.map fun c => .str ⟨#[c]⟩) = true ∧ PyData.depthAll (cs.map fun c => .str ⟨#[c]⟩) = 0
  | [], _ => ⟨rfl, rfl⟩
  | c :: cs, ha => by
    obtain ⟨h1, h2⟩ := lay_chs cs fun y hy => ha y (List.mem_cons_of_mem _ hy)
    constructor
    · rw [List.map_cons]
      unfold PyData.canLayAll0
      rw [h1, Bool.and_true]; unfold PyData.canLay0; exact strOk_one c (ha c List.mem_cons_self)
    · rw [List.map_cons]
      unfold PyData.depthAll
      rw [h2]; rfl
theorem shaped_chs {cs : List Nat} (ha : ∀ c ∈ cs, c < 128) : SeqAt.shaped (.list (cs.map fun c => .str ⟨#[c]⟩)) = true := by
  obtain ⟨h1, h2⟩ := lay_chs cs ha
  unfold SeqAt.shaped
  rw [show PyData.canLay0 (.list (cs.map fun c => .str ⟨#[c]⟩)) = PyData.canLayAll0 (cs.map fun c => .str ⟨#[c]⟩) from by unfold PyData.canLay0; rfl, h1, Bool.true_and]
  refine decide_eq_true ?_
  show PyData.depthAll _ + 1 ≤ 64
  rw [h2]; decide
end
variable {P : Program} {w : World} {T : Tab} {mg : Str → Option Value} {base : Heap} {f fA fI CZ CB CT : Addr} {fd : FuncData}
/-- the integer that a word tells -/
def wh (x : Str) : Option Int := if tx (wval (TL.tl x)) = x then some (wval (TL.tl x)) else none
theorem wh_tx (v : Int) : wh (tx v) = some v := by
  unfold wh
  rw [wval_tx, if_pos rfl]
theorem wh_some {x : Str} {v : Int} (h : wh x = some v) : tx v = x := by
  unfold wh at h
  split at h
  · cases h
    assumption
  · cases h
def F_whole : Fw := fun ds c P R => ∃ x : Str, ds = [.str x] ∧ x.length ≤ 60 ∧ (∀ y ∈ TL.tl x, y < 128) ∧ P (intN (wh x)) c
theorem digs : ("0123456789" : Str).cps.toList = [48, 49, 50, 51, 52, 53, 54, 55, 56, 57] := by decide
theorem dig_mem (c : Nat) : c ∈ ("0123456789" : Str).cps.toList ↔ 48 ≤ c ∧ c ≤ 57 := by
  rw [digs]
  simp only [List.mem_cons, List.not_mem_nil, or_false]
  omega
theorem ok_law_whole (U : Fun T.K "_law_whole" "_law_whole" s_law_whole f fd) (ms : mg "str" = none) (mi : mg "int" = none) : FnGk P w T.K mg base (L2.CX P w) 1 f fd ["_law_word"] (SpW T F_whole) := by
  refine Fun.doesG U sc_law_whole (fun ds c P R h => ?_) (fun Z c ds cdv A outer s H E B R rt hZ ok hr h => ?_)
  · obtain ⟨x, rfl, _⟩ := h
    rfl
  · obtain ⟨x, rfl, hl, ha, h⟩ := h
    subst hZ
    have bad : ¬ okW' (TL.tl x) → rt .non c := fun n => by
      have e : wh x = none := by
        cases k : wh x with
        | none => rfl
        | some v =>
          refine (n ?_).elim
          rw [← wh_some k]; exact okW_tx v
      rw [e] at h
      exact h
    let d : Str := ⟨(wdig (TL.tl x)).toArray⟩
    have hd : TL.tl d = wdig (TL.tl x) := rfl
    have dl : d.length ≤ 60 := by
      have := rp_len x
      rw [len0, rp_wdig] at this
      rw [len0, hd]; omega
    refine ss_cons (st_setq (i := 1) (d := .str d) ok (eq_if (tq_eqS (eq_slTo (eq_var 0 rfl) eq_int (by omega)) eq_str) (fun z => ?_) (fun z => ?_)) ?_)
    · obtain ⟨r, hr⟩ := (head_dash x).mp (of_decide_eq_true z)
      have e : Txt.slice x (some 1) none = d := TL.ext_tl (by rw [slice_rest, hd, hr]; rfl)
      rw [← e]
      exact eq_slFrom (eq_var 0 rfl) eq_int (by omega)
    · have n : ∀ r, TL.tl x ≠ 45 :: r := fun r hr => of_decide_eq_false z ((head_dash x).mpr ⟨r, hr⟩)
      have e : x = d := TL.ext_tl (by rw [hd, wdig_nn n])
      exact EQ.as (d := .str x) (eq_var 0 rfl) (congrArg D.str e)
    dsimp only [Rho.wc, Rho.set]
    have da : ∀ y ∈ TL.tl d, y < 128 := fun y hy => by
      rw [hd] at hy
      by_cases k : ∃ r, TL.tl x = 45 :: r
      · obtain ⟨r, hr⟩ := k
        rw [hr] at hy
        exact ha y (by rw [hr]; exact List.mem_cons_of_mem _ hy)
      · rw [wdig_nn fun r z => k ⟨r, z⟩] at hy
        exact ha y hy
    refine ss_cons (st_if (et_bool (ew_or (TQ.to (tq_eqS (eq_var 1 rfl) eq_str) ⟨fun z => ew_or1 (et_neP (hr := hr) rfl (ev_lcS 2 ok (blkOk_by (N := ["_law_word", "_law_digits", "_law_char"]) (sc := defScope s_law_whole) (by decide +kernel)) (h := ev_var 1 rfl ⟨d, rfl, lcs_chars (cs := TL.tl d) (show 2 < 3 by decide) rfl rfl (by decide) (by decide) (by show 0 + (TL.tl d).length ≤ 1000; rw [← len0]; omega) (EQ.to (eq_lst aq_nil) ⟨_, .list [], toP_chs _, rfl, shaped_chs (fun y hy => da y (List.mem_filter.mp hy).1), rfl, ?_⟩)⟩))), fun z => ?_⟩))))
    · have dne : TL.tl d ≠ [] := fun y => of_decide_eq_false z (TL.ext_tl y)
      have iff : (TL.tl d).filter (fun y => !decide (y ∈ ("0123456789" : Str).cps.toList)) = [] ↔ NumText.AllDigits (TL.tl d) := by
        rw [List.filter_eq_nil_iff]
        constructor
        · intro q y hy
          have := q y hy
          exact (dig_mem y).mp (by simpa using this)
        · intro q y hy
          have := (dig_mem y).mpr (q y hy)
          simpa using this
      show (_ = true → _) ∧ (_ = false → _)
      generalize hf : (TL.tl d).filter (fun y => !decide (y ∈ ("0123456789" : Str).cps.toList)) = bs at iff
      cases bs with
      | cons b0 bs =>
        refine ⟨fun _ => ss_one (st_ret (ev_non ⟨rfl, bad fun good => ?_⟩)), fun q => by cases q⟩
        have := iff.mpr (by rw [hd]; exact good.1)
        cases this
      | nil =>
        have good : okW' (TL.tl x) := ⟨iff.mp rfl, dne⟩
        refine ⟨fun q => (by cases q), fun _ => ss_nil ?_⟩
        have iv := int_word good (by omega)
        refine ss_one (st_ret (ev_if (TQ.to (tq_eqS (eq_strI ms (eq_intS mi (eq_var 0 rfl) iv (by omega)) (log_small (wval_lt good.1 hl))) (eq_var 0 rfl)) ⟨fun q => ?_, fun q => ?_⟩)))
        · have e : wh x = some (wval (TL.tl x)) := if_pos (of_decide_eq_true q)
          rw [e] at h
          exact EQ.to (eq_intS mi (eq_var 0 rfl) iv (by omega)) ⟨rfl, h⟩
        · have e : wh x = none := if_neg (of_decide_eq_false q)
          rw [e] at h
          exact ev_non ⟨rfl, h⟩
    · have e : d = ("" : Str) := of_decide_eq_true z
      refine ⟨fun _ => ss_one (st_ret (ev_non ⟨rfl, bad fun good => good.2 ?_⟩)), fun q => by cases q⟩
      exact congrArg TL.tl e
end Q
end

section
set_option Elab.async false
set_option linter.all false
set_option maxRecDepth 100000
set_option maxHeartbeats 3900000
set_option exponentiation.threshold 20000
/-! K3n: what a text should be read as; what it is read as. -/
namespace Q
open PySem L2
section
variable {Z : Zt} {scope : Scope} {i : Nat} {elt : Expr} {P : D → Nat → Prop}
/-- [elt for x in a list of texts] -/
theorem lcs_map {s : List (Option D)} {g : Str → D} : ∀ {ys : List Str} {acc : List D} {c : Nat}, (∀ y ∈ ys, ∀ B s1 H1 C cl fp c, Zok (Z.blk s1 H1 scope C cl fp) → EQ (Z.blk s1 H1 scope C cl fp) ⟨B, (s.set i none).set i (some (.str y)), c⟩ elt (g y)) → (∀ y, plain (g y) = true) →
    acc.length + ys.length ≤ 1000 → P (.lst (acc ++ ys.map g)) c → lcs Z scope s i [] elt P (ys.map .str) acc c
  | [], acc, c, _, _, _, h => by
    rw [List.map_nil, List.append_nil] at h
    exact h
  | y :: ys, acc, c, he, hp, hl, h => fun B s1 H1 C cl fp ok => by
    rw [List.length_cons] at hl
    refine ⟨fun _ s2 H2 C2 cl2 fp2 ok2 => (he y List.mem_cons_self B s2 H2 C2 cl2 fp2 c ok2).to ⟨hp y, by omega, ?_⟩, fun z => by cases z⟩
    refine lcs_map (fun y' hy' => he y' (List.mem_cons_of_mem _ hy')) hp (by rw [List.length_append]; show acc.length + 1 + ys.length ≤ 1000; omega) ?_
    rw [List.append_assoc]
    exact h
end
variable {P : Program} {w : World} {T : Tab} {mg : Str → Option Value} {base : Heap} {f fA fI CZ CB CT : Addr} {fd : FuncData}
theorem intN_plain (o : Option Int) : plain (intN o) = true := by cases o <;> rfl
theorem split_qtx (q : Rat) : Txt.split (qtx q) slash = if q.den = 1 then [tx q.num] else [tx q.num, tx (q.den : Int)] := by
  by_cases h : q.den = 1
  · rw [if_pos h, qtx_one h]; exact split_one (slash_tx _)
  · rw [if_neg h, qtx_two h]; exact split_two (slash_tx _) (slash_tx _)
theorem join_mem {c : Nat} : ∀ {ys : List Str} {y : Str}, y ∈ ys → c ∈ TL.tl y → c ∈ TL.tl (Str.join slash ys)
  | [p], y, h, hc => by
    rw [List.mem_singleton.mp h] at hc
    exact hc
  | p :: p2 :: r, y, h, hc => by
    show c ∈ TL.tl (p ++ slash ++ Str.join slash (p2 :: r))
    rw [TL.tl_append, TL.tl_append]
    rcases List.mem_cons.mp h with h | h
    · rw [h] at hc
      exact List.mem_append_left _ (List.mem_append_left _ hc)
    · exact List.mem_append_right _ (join_mem h hc)
theorem part_ascii {x y : Str} (ha : ∀ c ∈ TL.tl x, c < 128) (hy : y ∈ Txt.split x slash) : ∀ c ∈ TL.tl y, c < 128 := fun c hc => ha c (by
  have := join_mem hy hc
  rw [split_join] at this
  exact this)
def F_due : Fw := fun ds c P R => ∃ x : Str, ds = [.str x] ∧ x.length ≤ 60 ∧ (∀ y ∈ TL.tl x, y < 128) ∧ (∀ q, qtx q = x → P (.fr q) c) ∧ ((∀ q, qtx q ≠ x) → P .non c)
theorem whs_qtx {q : Rat} {x : Str} (h : qtx q = x) : (Txt.split x slash).map wh = if q.den = 1 then [some q.num] else [some q.num, some (q.den : Int)] := by
  subst h
  rw [split_qtx]
  by_cases e : q.den = 1
  · rw [if_pos e, if_pos e, List.map_cons, wh_tx]; rfl
  · rw [if_neg e, if_neg e, List.map_cons, List.map_cons, wh_tx, wh_tx]; rfl
theorem wh_lt {y : Str} {v : Int} (h : wh y = some v) (hl : y.length ≤ 60) : v.natAbs < 10 ^ 60 := by
  have e := wh_some h
  have k := wval_lt (okW_tx v).1 (by rw [← len0, e]; exact hl)
  rw [wval_tx] at k
  exact k
theorem some_of {o : Option Int} (h : o.isNone = false) : ∃ v, o = some v := by
  cases o with
  | none => cases h
  | some v => exact ⟨v, rfl⟩
theorem fr_whole (v : Int) : D.fr (v : Rat) = .tup [.int v, .int 1] := rfl
theorem eqv_two (a b c d : Int) : PyData.eqv (.tuple [.int a, .int b]) (.tuple [.int c, .int d]) = (decide (a = c) && decide (b = d)) := by
  show (a == c && (b == d && true)) = _
  rw [Bool.and_true]; rfl
theorem ok_law_due {fW fF : Addr} (U : Fun T.K "_law_due" "_law_due" s_law_due f fd) (DW : Df P w T mg base "_law_whole" 1 fW F_whole) (DF : Df P w T mg base "_law_frac" 1 fF F_frac) (ml : mg "len" = none) : FnGk P w T.K mg base (L2.CX P w) 2 f fd ["_law_phrase"] (SpW T F_due) := by
  refine Fun.doesG U sc_law_due (fun ds c P R h => ?_) (fun Z c ds cdv A outer s H E B R rt hZ ok hr h => ?_)
  · obtain ⟨x, rfl, _⟩ := h
    rfl
  · obtain ⟨x, rfl, hl, ha, h1, h2⟩ := h
    subst hZ
    have wide : (Txt.split x slash).length ≤ 100 := by
      have := PyProof.Rows.split_le x slash
      omega
    refine ss_cons (st_setLc (m := 1) 2 ok (blkOk_by (N := ["_law_phrase", "_law_words", "_law_word"]) (sc := defScope s_law_due) (by decide +kernel)) (h := EQ.to (eq_split (eq_var 0 rfl) eq_str (by omega) (by decide)) ⟨_, rfl, ?_⟩))
    rw [slash_eq]
    refine lcs_map (g := fun y => intN (wh y)) (fun y hy B2 s1 H1 C cl fp c2 okb => ?_) (fun y => intN_plain _) (by show 0 + _ ≤ 1000; omega) ?_
    · exact ev_df DW okb hr (by decide) (ea_cons (ev_var 2 rfl (ea_nil ⟨y, rfl, Nat.le_trans (PyProof.Rows.part_short hy) hl, part_ascii ha hy, rfl, rfl⟩)))
    dsimp only [Rho.wc, Rho.set]
    rw [List.nil_append, show (Txt.split x slash).map (fun y => intN (wh y)) = ((Txt.split x slash).map wh).map intN by rw [List.map_map]; rfl]
    have noq : ∀ q : Rat, qtx q = x → (Txt.split x slash).map wh = if q.den = 1 then [some q.num] else [some q.num, some (q.den : Int)] := fun q h => whs_qtx h
    have hj := split_join x
    have hpos := PyProof.Rows.split_pos x slash
    have hm : ∀ v y, y ∈ Txt.split x slash → wh y = some v → tx v = y := fun v y _ h => wh_some h
    have hlen : ∀ y ∈ Txt.split x slash, y.length ≤ 60 := fun y hy => Nat.le_trans (PyProof.Rows.part_short hy) hl
    generalize Txt.split x slash = ys at wide noq hj hpos hm hlen ⊢
    have out : ∀ {q : Rat}, qtx q = x → ((ys.map wh).any (·.isNone) = false) ∧ ys.length ≤ 2 := fun {q} h => by
      have e := noq q h
      have el := congrArg List.length e
      rw [List.length_map] at el
      rw [e]
      split at el
      · rename_i k
        rw [if_pos k]
        exact ⟨rfl, by rw [el]; show 1 ≤ 2; decide⟩
      · rename_i k
        rw [if_neg k]
        exact ⟨rfl, by rw [el]; show 2 ≤ 2; decide⟩
    refine ss_cons (st_if (et_bool (ew_or (TQ.to (tq_noneIn rfl eq_non (eq_var 1 rfl)) ⟨fun z => ew_or1 (et_gt (ev_len rfl rfl ml (ea_cons (ev_var 1 rfl (ea_nil ⟨_, _, rfl, rfl, ev_int ⟨fun z2 => ?_, fun z2 => ss_nil ?_⟩⟩))))), fun z => ⟨fun _ => ?_, fun q => by cases q⟩⟩))))
    · have big := of_decide_eq_true z2
      rw [List.length_map, List.length_map] at big
      refine ss_one (st_ret (ev_non ⟨rfl, h2 fun q hq => ?_⟩))
      have := (out hq).2
      omega
    · have small : ys.length ≤ 2 := by
        have := of_decide_eq_false z2
        rw [List.length_map, List.length_map] at this
        omega
      match ys, hj, hpos, hlen, noq, z, small with
      | [], _, hpos, _, _, _, _ => exact absurd hpos (by decide)
      | [w0], hj, _, hlen, noq, z, _ =>
        have z' : ((wh w0).isNone || false) = false := z
        rw [Bool.or_false] at z'
        obtain ⟨v0, e0⟩ := some_of z'
        have hx : w0 = x := hj
        show SS _ ⟨_, [_, some (.lst [intN (wh w0)]), _], _⟩ _ _
        rw [e0]
        refine ss_cons (st_if (et_eq (ev_len rfl rfl ml (ea_cons (ev_var 1 rfl (ea_nil ⟨_, 1, rfl, rfl, ev_int ⟨true, rfl, ⟨fun _ => ?_, fun q => by cases q⟩⟩⟩))))))
        have k := h1 (v0 : Rat) (by rw [qtx_one (by rfl), ← hx]; exact wh_some e0)
        rw [fr_whole] at k
        exact ss_one (st_ret (ev_tup (ea_cons (ev_ix rfl (ev_var 1 rfl (ev_int ⟨0, .int v0, rfl, rfl, ea_cons (ev_int (ea_nil ⟨rfl, by show 2 ≤ 100000; decide, rfl, k⟩))⟩))))))
      | [w0, w1], hj, _, hlen, noq, z, _ =>
        have z' : ((wh w0).isNone || ((wh w1).isNone || false)) = false := z
        rw [Bool.or_false, Bool.or_eq_false_iff] at z'
        obtain ⟨v0, e0⟩ := some_of z'.1
        obtain ⟨v1, e1⟩ := some_of z'.2
        have hx : w0 ++ slash ++ w1 = x := hj
        have b0 := wh_lt e0 (hlen w0 List.mem_cons_self)
        have b1 := wh_lt e1 (hlen w1 (List.mem_cons_of_mem _ List.mem_cons_self))
        have two : ∀ {q : Rat}, qtx q = x → q.den ≠ 1 ∧ v0 = q.num ∧ v1 = (q.den : Int) := fun {q} h => by
          have e := noq q h
          rw [List.map_cons, List.map_cons, List.map_nil, e0, e1] at e
          split at e
          · exact absurd (congrArg List.length e) (show ¬ 2 = 1 by decide)
          · rename_i k
            have f1 := List.cons.inj e
            have f2 := List.cons.inj f1.2
            exact ⟨k, Option.some.inj f1.1, Option.some.inj f2.1⟩
        show SS _ ⟨_, [_, some (.lst [intN (wh w0), intN (wh w1)]), _], _⟩ _ _
        rw [e0, e1]
        refine ss_cons (st_if (et_eq (ev_len rfl rfl ml (ea_cons (ev_var 1 rfl (ea_nil ⟨_, 2, rfl, rfl, ev_int ⟨false, rfl, ⟨fun q => (by cases q), fun _ => ss_nil ?_⟩⟩⟩))))))
        refine ss_one (st_ret (ev_if (et_bool (ew_and (et_gt (ev_ix rfl (ev_var 1 rfl (ev_int ⟨1, .int v1, rfl, rfl, ev_int ⟨fun z3 => ?_, fun z3 => ?_⟩⟩))))))))
        · have g1 : 1 < v1 := of_decide_eq_true z3
          refine ew_and1 (et_eqP (hr := hr) rfl (ev_df DF ok hr (by decide) (ea_cons (ev_ix rfl (ev_var 1 rfl (ev_int ⟨0, .int v0, rfl, rfl, (ea_cons (ev_ix rfl (ev_var 1 rfl (ev_int ⟨1, .int v1, rfl, rfl, (ea_nil ⟨v0, v1, rfl, by omega, Nat.lt_trans b0 (by decide), Nat.lt_trans b1 (by decide), ?_⟩)⟩))))⟩))))))
          refine ev_tup (ea_cons (ev_ix rfl (ev_var 1 rfl (ev_int ⟨0, .int v0, rfl, rfl, (ea_cons (ev_ix rfl (ev_var 1 rfl (ev_int ⟨1, .int v1, rfl, rfl, (ea_nil ⟨rfl, by show 2 ≤ 100000; decide, _, _, rfl, rfl, rfl, rfl, ?_⟩)⟩))))⟩))))
          rw [eqv_two]
          refine (⟨fun q => ?_, fun q => ?_⟩)
          · rw [Bool.and_eq_true] at q
            have q1 := of_decide_eq_true q.1
            have q2 := of_decide_eq_true q.2
            have k := h1 (fr v0 v1) (by rw [qtx_two (by omega), q1, q2, wh_some e0, wh_some e1]; exact hx)
            have e : D.fr (fr v0 v1) = .tup [.int v0, .int v1] := by
              show D.tup [.int (fr v0 v1).num, .int ((fr v0 v1).den : Int)] = _
              rw [q1, q2]
            rw [e] at k
            exact ev_tup (ea_cons (ev_ix rfl (ev_var 1 rfl (ev_int ⟨0, .int v0, rfl, rfl, (ea_cons (ev_ix rfl (ev_var 1 rfl (ev_int ⟨1, .int v1, rfl, rfl, (ea_nil ⟨rfl, by show 2 ≤ 100000; decide, rfl, k⟩)⟩))))⟩))))
          · refine ev_non ⟨rfl, h2 fun r hr' => ?_⟩
            obtain ⟨k, f0, f1⟩ := two hr'
            rw [f0, f1, fr_self r, decide_eq_true rfl, decide_eq_true rfl] at q
            cases q
        · have g1 : ¬ 1 < v1 := of_decide_eq_false z3
          refine ⟨fun q => (by cases q), fun _ => ev_non ⟨rfl, h2 fun r hr' => ?_⟩⟩
          obtain ⟨k, f0, f1⟩ := two hr'
          have := r.den_pos
          omega
    · refine ss_one (st_ret (ev_non ⟨rfl, h2 fun q hq => ?_⟩))
      rw [(out hq).1] at z
      cases z
end Q
end

section
set_option Elab.async false
set_option linter.all false
set_option maxRecDepth 100000
set_option maxHeartbeats 3900000
set_option exponentiation.threshold 20000
/-! K3o: _law_read, and what the law needs of texts. -/
namespace Q
open PySem L2
variable {P : Program} {w : World} {T : Tab} {mg : Str → Option Value} {base : Heap} {f fA fI CZ CB CT : Addr} {fd : FuncData}
def F_lread : Fw := fun ds c P R => ∃ x : Str, ds = [.str x] ∧ x.length ≤ 60 ∧ (∀ q, qtx q = x → P (.fr q) c) ∧ ((∀ q, qtx q ≠ x) → P .non c)
theorem ok_law_read {fR : Addr} (U : Fun T.K "_law_read" "_law_read" s_law_read f fd) (RC : RCls T.K mg T.C) (DR : Dcm P w T mg base T.C "read" 4 fR ["text"] false (F_read T.C CT)) (DT : Dp P w T mg base T.C "top" 1 F_top) (DB : Dp P w T mg base T.C "bottom" 1 F_bottom) (mT : mg "BadText" = some (.ref CT))
    (ex : PySem.W.exmOne T.K (.ref CT) (.ref CT) = some true) : FnGk P w T.K mg base (L2.CX P w) 5 f fd ["_law_phrase"] (SpW T F_lread) := by
  refine Fun.doesG U sc_law_read (fun ds c P R h => ?_) (fun Z c ds cdv A outer s H E B R rt hZ ok hr h => ?_)
  · obtain ⟨x, rfl, _⟩ := h
    rfl
  · obtain ⟨x, rfl, hl, h1, h2⟩ := h
    subst hZ
    refine ss_cons (st_try ok (c := .ref CT) ⟨rfl, by decide, .inl mT⟩ (fun pn xe ok1 => ?_))
    refine ss_one (st_set (i := 1) ok1 (ev_cm DR ok1 hr (by decide) (ev_globC rfl RC.m ⟨rfl, ea_cons (ev_var 0 rfl (ea_nil ⟨x, rfl, hl, fun q hq => ?_, fun nq => ?_⟩))⟩)))
    · dsimp only [Rho.wc, Rho.set]
      exact ss_one (st_ret (ev_tup (ea_cons (ev_dp DT RC.I.cl ok hr (by decide) (ev_var 1 rfl ⟨q, rfl, q, rfl, (ea_cons (ev_dp DB RC.I.cl ok hr (by decide) (ev_var 1 rfl ⟨q, rfl, q, rfl, (ea_nil ⟨rfl, by show 2 ≤ 100000; decide, rfl, h1 q hq⟩)⟩)))⟩)))))
    · exact ⟨true, ex, fun _ a oe pn ok2 => ss_one (st_ret (ev_non ⟨rfl, h2 nq⟩)), fun z => by cases z⟩
/-! ### texts and quotients -/
theorem qtx_inj {q r : Rat} (h : qtx q = qtx r) : q = r := by
  have e1 := whs_qtx (q := q) h
  have e2 := whs_qtx (q := r) rfl
  rw [e2] at e1
  have fin : q.num = r.num → q.den = r.den → q = r := fun a b => Rat.ext a b
  by_cases hq : q.den = 1 <;> by_cases hr : r.den = 1
  · rw [if_pos hq, if_pos hr] at e1
    exact fin (Option.some.inj (List.cons.inj e1).1).symm (by rw [hq, hr])
  · rw [if_pos hq, if_neg hr] at e1
    exact absurd (congrArg List.length e1) (show ¬ 2 = 1 by decide)
  · rw [if_neg hq, if_pos hr] at e1
    exact absurd (congrArg List.length e1) (show ¬ 1 = 2 by decide)
  · rw [if_neg hq, if_neg hr] at e1
    have f1 := List.cons.inj e1
    have f2 := List.cons.inj f1.2
    exact fin (Option.some.inj f1.1).symm (by have := Option.some.inj f2.1; omega)
open Classical in
/-- what a text is read as -/
noncomputable def due (x : Str) : D := if h : ∃ q, qtx q = x then .fr (Classical.choose h) else .non
theorem due_qtx (q : Rat) : due (qtx q) = .fr q := by
  have h : ∃ r, qtx r = qtx q := ⟨q, rfl⟩
  unfold due
  rw [dif_pos h, qtx_inj (Classical.choose_spec h)]
theorem due_none {x : Str} (h : ∀ q, qtx q ≠ x) : due x = .non := by
  unfold due
  rw [dif_neg fun ⟨q, hq⟩ => h q hq]
theorem due_toP (x : Str) : ∃ p, toP (due x) = some p ∧ SeqAt.shaped p = true ∧ PyData.eqv p p = true := by
  unfold due
  split
  · refine ⟨_, rfl, rfl, ?_⟩
    rw [eqv_two, decide_eq_true rfl, decide_eq_true rfl]; rfl
  · exact ⟨_, rfl, rfl, rfl⟩
theorem due_plain (x : Str) : plain (due x) = true := by
  unfold due
  split <;> rfl
section
variable {Z : Zt} {ρ : Rho} {e a : Expr} {pos p : Pos} {j : Nat} {x : Str}
theorem eq_lread {fR : Addr} (D : Df Z.X.prog Z.X.w Z.T Z.X.mg Z.X.base "_law_read" 5 fR F_lread) (ok : Zok Z) (hr : RoomG j Z.X.A) (hj : 5 ≤ j) (ha : EQ Z ρ e (.str x)) (hl : x.length ≤ 60) (hg : Gl Z.X "_law_read" := by rfl)
    (h1 : starEach [e] Z.X.env = (false, eval e Z.X.env) :: starEach [] Z.X.env := by rfl) (h2 : (backTo pos (starEach [] Z.X.env)).any (·.1) = false := by rfl) : EQ Z ρ (.Call (.Name "_law_read" p) [e] [] pos) (due x) :=
  eq_df D ok hr hj (aq_cons ha aq_nil h1) ⟨x, rfl, hl, fun q hq => ⟨by rw [← hq, due_qtx], rfl⟩, fun n => ⟨(due_none n).symm, rfl⟩⟩ (hg := hg) (he := h1) (hpl := h2)
theorem eq_ldue {fR : Addr} (D : Df Z.X.prog Z.X.w Z.T Z.X.mg Z.X.base "_law_due" 2 fR F_due) (ok : Zok Z) (hr : RoomG j Z.X.A) (hj : 2 ≤ j) (ha : EQ Z ρ e (.str x)) (hl : x.length ≤ 60) (hc : ∀ y ∈ TL.tl x, y < 128) (hg : Gl Z.X "_law_due" := by rfl)
    (h1 : starEach [e] Z.X.env = (false, eval e Z.X.env) :: starEach [] Z.X.env := by rfl) (h2 : (backTo pos (starEach [] Z.X.env)).any (·.1) = false := by rfl) : EQ Z ρ (.Call (.Name "_law_due" p) [e] [] pos) (due x) :=
  eq_df D ok hr hj (aq_cons ha aq_nil h1) ⟨x, rfl, hl, hc, fun q hq => ⟨by rw [← hq, due_qtx], rfl⟩, fun n => ⟨(due_none n).symm, rfl⟩⟩ (hg := hg) (he := h1) (hpl := h2)
theorem tq_dues {b : Expr} (hK : Z.X.K = Z.T.K) (hr : RoomG j Z.X.A) (ha : EQ Z ρ a (due x)) (hb : EQ Z ρ b (due x)) : TQ Z ρ (.Compare a [.NotEq] [b] pos) false := by
  obtain ⟨p, h1, h2, h3⟩ := due_toP x
  have k := tq_neP (pos := pos) hK hr ha hb h1 h1 h2 h2
  rw [h3] at k
  exact k
theorem ev_isN {j pos'} {P' : D → Nat → Prop} (h : EV Z ρ a fun d c => ∃ k, isNone d = some k ∧ P' (.bl k) c) : EV Z ρ (.Compare a [.Is] [.Constant .none j pos'] pos) P' :=
  ev_of (pe_cmp (pc_isN pe_any) rfl) fun σ H Q S q => ev_any h S fun v H1 d c S1 e1 r ⟨k, hk, hp⟩ => by
    rw [isNone_ok hk r]
    exact (q.from (c := c) e1).here (d := .bl k) S1 hp rfl
end
theorem no_empty : ∀ q, qtx q ≠ ("" : Str) := fun q h => by
  have e := whs_qtx h
  rw [show (Txt.split ("" : Str) slash).map wh = [none] by decide +kernel] at e
  split at e
  · exact absurd (List.cons.inj e).1 (by simp)
  · exact absurd (congrArg List.length e) (show ¬ 1 = 2 by decide)
theorem no_minus : ∀ q, qtx q ≠ ("-0" : Str) := fun q h => by
  have e := whs_qtx h
  rw [show (Txt.split ("-0" : Str) slash).map wh = [none] by decide +kernel] at e
  split at e
  · exact absurd (List.cons.inj e).1 (by simp)
  · exact absurd (congrArg List.length e) (show ¬ 1 = 2 by decide)
theorem no_thirds : ∀ q, qtx q ≠ ("0/3" : Str) := fun q h => by
  have e := whs_qtx h
  rw [show (Txt.split ("0/3" : Str) slash).map wh = [some 0, some 3] by decide +kernel] at e
  split at e
  · exact absurd (congrArg List.length e) (show ¬ 2 = 1 by decide)
  · have f1 := List.cons.inj e
    have f2 := List.cons.inj f1.2
    have n0 : q.num = 0 := (Option.some.inj f1.1).symm
    have z : q = 0 := Rat.num_eq_zero.mp n0
    have d3 := Option.some.inj f2.1
    rw [z] at d3
    exact absurd d3 (by decide)
end Q
end

section
set_option Elab.async false
set_option linter.all false
set_option maxRecDepth 100000
set_option maxHeartbeats 3900000
set_option exponentiation.threshold 20000
/-! K3p: the law on texts. -/
namespace Q
open PySem L2
variable {P : Program} {w : World} {T : Tab} {mg : Str → Option Value} {base : Heap} {f fA fI CZ CB CT : Addr} {fd : FuncData}
theorem ix0 {x y : D} : ixD (.tup [x, y]) 0 = some x := rfl
theorem ix1 {x y : D} : ixD (.tup [x, y]) 1 = some y := rfl
theorem spins_inv {body : Rho → Int → (Rho → Prop) → Prop} {N : Rho → Prop} {n0 : Nat} (I : Nat → Rho → Prop) (hs : ∀ j ρ K, I j ρ → j < n0 → (∀ ρ', I (j + 1) ρ' → K ρ') → body ρ (j : Nat) K) (hN : ∀ j ρ, I j ρ → N ρ) : ∀ n j ρ, j + n = n0 → I j ρ → spins body N n (j : Nat) ρ
  | 0, j, ρ, _, h => hN j ρ h
  | n + 1, j, ρ, e, h => hs j ρ _ h (by omega) fun ρ' h' => spins_inv I hs hN n (j + 1) ρ' (by omega) h'
/-- a text of ASCII signs, not long -/
structure Asc (k : Nat) (x : Str) : Prop where
  l : x.length ≤ k
  a : ∀ y ∈ TL.tl x, y < 128
theorem Asc.app {j k : Nat} {x y : Str} (h : Asc j x) (h' : Asc k y) : Asc (j + k) (x ++ y) := ⟨by have := h.l; have := h'.l; rw [Str.length_append]; omega, fun z hz => by
  rw [TL.tl_append] at hz
  exact (List.mem_append.mp hz).elim (h.a z) (h'.a z)⟩
theorem Asc.mono {j k : Nat} {x : Str} (h : Asc j x) (e : j ≤ k) : Asc k x := ⟨Nat.le_trans h.l e, h.a⟩
theorem Asc.to {k : Nat} {x : Str} (h : Asc k x) {i : Int} (hi : 0 ≤ i) : Asc k (Txt.slice x none (some i)) := by
  have e := SX.slice_to (a := TL.tl x) hi
  rw [SX.S_tl] at e
  refine ⟨Nat.le_trans (Txt.slice_le _ _ _) h.l, fun y hy => ?_⟩
  rw [e] at hy
  exact h.a y (List.mem_of_mem_take hy)
theorem Asc.from {k : Nat} {x : Str} (h : Asc k x) {i : Int} (hi : 0 ≤ i) : Asc k (Txt.slice x (some i) none) := by
  have e := SX.slice_from (a := TL.tl x) hi
  rw [SX.S_tl] at e
  refine ⟨Nat.le_trans (Txt.slice_le _ _ _) h.l, fun y hy => ?_⟩
  rw [e] at hy
  exact h.a y (List.mem_of_mem_drop hy)
theorem asc_tx {i : Int} {k : Nat} (hk : 0 < k) (h : i.natAbs < 10 ^ k) : Asc (k + 1) (tx i) := ⟨tx_len hk h, fun y hy => by
  have key : ∀ y ∈ TL.numL i.natAbs, y < 128 := fun y hy => by
    have := numL_dig _ y hy
    omega
  by_cases hi : i < 0
  · rw [tl_tx_neg hi] at hy
    rcases (List.mem_cons.mp hy) with e | hy
    · rw [e]; decide
    · exact key y hy
  · rw [tl_tx_nn (by omega)] at hy
    exact key y hy⟩
theorem asc_slash : Asc 1 slash := ⟨by decide, by decide⟩
theorem asc_qtx {q : Rat} {k : Nat} (hk : 0 < k) (h : q.num.natAbs < 10 ^ k) (h' : q.den < 10 ^ k) : Asc (k + 1 + 1 + (k + 1)) (qtx q) := by
  by_cases e : q.den = 1
  · rw [qtx_one e]; exact (asc_tx hk h).mono (by omega)
  · rw [qtx_two e]; exact ((asc_tx hk h).app asc_slash).app (asc_tx hk (by omega))
abbrev partsL : List Str := ["0", "1", "-", "/", " ", "+", ".", "/1", "/0", "00", "a", ""]
theorem asc_parts : ∀ x ∈ partsL, Asc 2 x := by
  repeat (refine List.forall_mem_cons.mpr ⟨⟨by decide, by decide⟩, ?_⟩)
  exact fun _ h => nomatch h
structure LawT (P : Program) (w : World) (T : Tab) (mg : Str → Option Value) (base : Heap) (CZ CT : Addr) (fBx fT fF fR fD fRd fI fX fE : Addr) : Prop where
  RC : RCls T.K mg T.C
  bx : FnG P w T.K mg base (L2.CX P w) 2 fBx (SpBx T)
  bxm : mg "_law_box" = some (.ref fBx)
  bxk : PySem.W.keepIn T.K (.ref fBx) = true
  mr : mg "range" = none
  mma : mg "max" = none
  mmi : mg "min" = none
  ml : mg "len" = none
  ms : mg "str" = none
  tk : Df P w T mg base "_law_take" 1 fT F_take
  fc : Df P w T mg base "_law_frac" 1 fF F_frac
  rd : Df P w T mg base "_law_read" 5 fR F_lread
  du : Df P w T mg base "_law_due" 2 fD F_due
  re : Dcm P w T mg base T.C "read" 4 fRd ["text"] false (F_read T.C CT)
  mk2 : Dk P w T mg base T.C 1 fI (F_mk CZ)
  tx : Dme P w T mg base T.C "text" 3 fX F_text
  eq : Dm P w T mg base T.C "__eq__" 3 fE F_eq
theorem tq_neSame {Z : Zt} {ρ : Rho} {a b : Expr} {pos : Pos} {y : Str} (ha : EQ Z ρ a (.str y)) (hb : EQ Z ρ b (.str y)) : TQ Z ρ (.Compare a [.NotEq] [b] pos) false := by
  have k := tq_neS (pos := pos) ha hb
  rw [decide_eq_true rfl] at k
  exact k
theorem big60 {n : Nat} (h : n < 10 ^ 9) : n < 10 ^ 60 := Nat.lt_trans h (by decide)
abbrev Nlaw : List Str := ["_law_script", "_law_k", "_law_box_here", "_law_wide", "_law_x", "_law_phrase", "_law_turn", "_law_at", "_law_part", "_law_near", "_law_factor", "_law_other"]
theorem ok_law {fBx fT fF fR fD fRd fI fX fE : Addr} (U : Fun T.K "law" "law" s_law f fd) (L : LawT P w T mg base CZ CT fBx fT fF fR fD fRd fI fX fE) : FnGk P w T.K mg base (L2.CX P w) 7 f fd ["_law_script"] (SpW T F_law) := by
  refine Fun.doesG U sc_law (fun ds c P R h => ?_) (fun Z c ds cdv A outer s0 H E B R rt hZ ok hr h => ?_)
  · obtain ⟨l, rfl, _⟩ := h
    rfl
  · obtain ⟨l, rfl, hl, rfl, h⟩ := h
    have RC := L.RC
    subst hZ
    refine ss_cons (st_range (i := 1) ok rfl L.mr (ea_cons (ev_max ok rfl L.mma (ea_cons (ev_int (ea_cons (ev_min ok rfl L.mmi (ea_cons (ev_int (ea_cons (ev_len rfl rfl L.ml (ea_cons (ev_var 0 rfl (ea_nil ⟨_, _, rfl, rfl, ?_⟩))))))))))))))
    refine ea_nil (ea_nil (ea_nil ⟨_, rfl, ?_, ?_, ?_⟩))
    · split <;> split <;> omega
    · split <;> split <;> omega
    dsimp only [Rho.wc, Rho.set]
    generalize hn : Int.toNat _ = n0
    have hle : n0 ≤ 3 := by
      rw [← hn]
      split <;> split <;> omega
    refine spins_inv (n0 := n0) (fun j ρ => ∃ B c o1 o2 o3 o4 o5 o6 o7 o8 o9 o10 o11, ρ = ⟨B, [some (.scr l), o1, o2, o3, o4, o5, o6, o7, o8, o9, o10, o11], c⟩ ∧ c ≤ 30 * j) ?_ ?_ n0 0 _ (Nat.zero_add _) ?_
    · rintro j ρ K ⟨B, c, o1, o2, o3, o4, o5, o6, o7, o8, o9, o10, o11, rfl, hc⟩ hj hK
      dsimp only [Rho.wc, Rho.set]
      have hc2 : c ≤ 100 := by omega
      refine ss_cons (st_box 2 ok L.bx (hr.mono (by decide)) L.bxm L.bxk (ea_cons (ev_var 0 rfl (ea_cons (ev_var 1 rfl (ea_nil ⟨l, j, rfl, by omega, fun qb => ?_⟩))))))
      dsimp only [Rho.wc, Rho.set]
      refine ss_cons (st_set (i := 3) ok (EV.mono (P := fun d c' => ∃ u : Int, d = .int u ∧ 1 ≤ u ∧ u < 10 ^ 9 ∧ c' = c + 1) ?_ (fun d c' hd => ?_)))
      · refine ev_ix rfl (EQ.to (eq_lst (aq_cons eq_int (aq_cons eq_int (aq_cons (d := .int (10 ^ (9 : Int).toNat - 1)) (ev_sub (ev_pow' (ev_int (ev_int ⟨⟨by decide, by decide, by decide⟩, ev_int ⟨rfl, rfl⟩⟩)))) aq_nil)))) (ev_df L.tk ok hr (by decide) (ea_cons (ev_var 2 rfl (ea_cons (ev_int (ea_nil ⟨3, rfl, by decide, by decide, by show c < 1000000; omega, fun r r1 r2 => ?_⟩)))))))
        obtain ⟨u, hu, hm⟩ := ix_three (a := 9) (b := 60) (c := 10 ^ (9 : Int).toNat - 1) r1 r2
        refine ⟨r, .int u, rfl, hu, u, rfl, ?_, ?_, rfl⟩
        · rcases hm with rfl | rfl | rfl <;> decide
        · rcases hm with rfl | rfl | rfl <;> decide
      obtain ⟨u, rfl, hu1, hu2, rfl⟩ := hd
      dsimp only [Rho.wc, Rho.set]
      refine ss_cons (st_set (i := 4) ok (EV.mono (P := fun d c' => ∃ q : Rat, d = .fr q ∧ q.num.natAbs < 10 ^ 9 ∧ q.den < 10 ^ 9 ∧ c' ≤ c + 4) ?_ (fun d c' hd => ?_)))
      · have bu : u.natAbs < 2 ^ 300 := Nat.lt_of_lt_of_le (show u.natAbs < 10 ^ 9 by omega) (by decide)
        refine ev_df L.fc ok hr (by decide) (ea_cons (ev_sub (ev_df L.tk ok hr (by decide) (ea_cons (ev_var 2 rfl (ea_cons (EQ.to (eq_add (eq_mul eq_int (eq_var 3 rfl) (wmul (by decide) bu)) eq_int) (ea_nil ⟨_, rfl, by omega, by omega, by show c + 1 < 1000000; omega, fun r r1 r2 => EQ.to (eq_var 3 rfl) ?_⟩))))))))
        show EA _ _ _ _
        refine ea_cons (ev_ix rfl (ev_lst (ea_cons (ev_int (ea_cons (ev_add (ev_int (ev_df L.tk ok hr (by decide) (ea_cons (ev_var 2 rfl (ea_cons (EQ.to (eq_var 3 rfl) (ea_nil ⟨u, rfl, by omega, by omega, by show c + 1 + 1 < 1000000; omega, fun r' q1 q2 => ?_⟩)))))))))))))
        show EA _ _ _ _
        refine ea_nil ⟨rfl, by show 2 ≤ 100000; decide, ?_⟩
        refine ev_df L.tk ok hr (by decide) (ea_cons (ev_var 2 rfl (ea_cons (ev_int (ea_nil ⟨2, rfl, by decide, by decide, by show c + 1 + 1 + 1 < 1000000; omega, fun r3 s1 s2 => ?_⟩)))))
        obtain ⟨v, hv, v1, v2⟩ : ∃ v : Int, ixD (.lst [.int 1, .int (1 + r')]) r3 = some (.int v) ∧ 1 ≤ v ∧ v ≤ u := by
          rcases (show r3 = 0 ∨ r3 = 1 by omega) with rfl | rfl
          · exact ⟨1, rfl, by omega, by omega⟩
          · exact ⟨1 + r', rfl, by omega, by omega⟩
        refine ⟨r3, .int v, rfl, hv, ea_nil ⟨r - u, v, rfl, by omega, Nat.lt_of_lt_of_le (show (r - u).natAbs < 10 ^ 9 by omega) (Nat.le_trans (show 10 ^ 9 ≤ 2 ^ 30 by decide) (Nat.pow_le_pow_right (by decide) (by decide))), Nat.lt_of_lt_of_le (show v.natAbs < 10 ^ 9 by omega) (Nat.le_trans (show 10 ^ 9 ≤ 2 ^ 30 by decide) (Nat.pow_le_pow_right (by decide) (by decide))), fr (r - u) v, rfl, ?_, ?_, ?_⟩⟩
        · have := (fr_bounds (u := r - u) (d := v) (by omega)).1
          omega
        · have := (fr_bounds (u := r - u) (d := v) (by omega)).2
          omega
        · show c + 1 + 1 + 1 + 1 ≤ c + 4
          omega
      obtain ⟨q, rfl, n9, d9, hc4⟩ := hd
      dsimp only [Rho.wc, Rho.set]
      have dpos := q.den_pos
      have ap := asc_qtx (k := 9) (by decide) n9 d9
      have apl := ap.l
      have ln := tx_len (k := 9) (by decide) n9
      have ld := tx_len (k := 9) (i := (q.den : Int)) (by decide) (by omega)
      refine ss_cons (st_setq (i := 5) (d := .str (qtx q)) ok (eq_if (k := decide ((q.den : Int) = 1)) (et_eq (EQ.to (eq_ix rfl (eq_var 4 rfl) eq_int ix1) (ev_int ⟨_, rfl, rfl, rfl⟩))) (fun z => ?_) (fun z => ?_)) ?_)
      · rw [qtx_one (by have := of_decide_eq_true z; omega)]
        exact eq_strI L.ms (eq_ix rfl (eq_var 4 rfl) eq_int ix0) (log_small (big60 n9))
      · rw [qtx_two (by have := of_decide_eq_false z; omega), ← slash_eq]
        exact eq_sadd (eq_sadd (eq_strI L.ms (eq_ix rfl (eq_var 4 rfl) eq_int ix0) (log_small (big60 n9))) eq_str (by show (tx q.num).length + 1 ≤ 100000; omega)) (eq_strI L.ms (eq_ix rfl (eq_var 4 rfl) eq_int ix1) (log_small (i := (q.den : Int)) (by have := big60 d9; omega))) (by rw [Str.length_append]; show (tx q.num).length + 1 + (tx (q.den : Int)).length ≤ 100000; omega)
      dsimp only [Rho.wc, Rho.set]
      have sN : q.num.natAbs < 2 ^ 8500 := Nat.lt_of_lt_of_le n9 (Nat.le_trans (show 10 ^ 9 ≤ 2 ^ 30 by decide) (Nat.pow_le_pow_right (by decide) (by decide)))
      have sD : (q.den : Int).natAbs < 2 ^ 8500 := Nat.lt_of_lt_of_le (show (q.den : Int).natAbs < 10 ^ 9 by omega) (Nat.le_trans (show 10 ^ 9 ≤ 2 ^ 30 by decide) (Nat.pow_le_pow_right (by decide) (by decide)))
      generalize hideAt B qb none = B1
      refine ss_cons (st_ifF (tq_bool (wq_or (tq_neSame (eq_dme0 L.tx RC.I.cl ok hr (by decide) (eq_mk L.mk2 RC.m ok hr (by decide) (aq_cons (eq_ix rfl (eq_var 4 rfl) eq_int ix0) (aq_cons (eq_ix rfl (eq_var 4 rfl) eq_int ix1) aq_nil)) ⟨q.num, (q.den : Int), rfl, fun z => (den_ne q z).elim, fun _ => ⟨sN, sD, by rw [fr_self], rfl⟩⟩) ⟨q, rfl, big60 n9, big60 d9, rfl, rfl⟩) (eq_var 5 rfl))
        (wq_or (tq_dues (x := qtx q) rfl hr (eq_lread L.rd ok hr (by decide) (eq_var 5 rfl) (by omega)) (EQ.as (d := .fr q) (eq_var 4 rfl) (due_qtx q).symm))
        (wq_or1 (tq_dues (x := qtx q) rfl hr (eq_ldue L.du ok hr (by decide) (eq_var 5 rfl) (by omega) ap.a) (EQ.as (d := .fr q) (eq_var 4 rfl) (due_qtx q).symm)))))) (ss_nil ?_))
      refine ss_cons (st_ifF (tq_not (k := true) (et_req L.eq ok hr (by decide) (ev_cmk L.re ok hr (by decide) (ev_globC rfl RC.m ⟨rfl, KQ.to (kq_cons (eq_var 5 rfl) kq_nil) ⟨rfl, qtx q, rfl, by omega, fun r hq => ?_, fun n => (n q rfl).elim⟩⟩)))) (ss_nil ?_))
      · have e := qtx_inj hq
        subst e
        exact EQ.to (eq_mk L.mk2 RC.m ok hr (by decide) (aq_cons (eq_ix rfl (eq_var 4 rfl) eq_int ix0) (aq_cons (eq_ix rfl (eq_var 4 rfl) eq_int ix1) aq_nil)) ⟨r.num, (r.den : Int), rfl, fun z => (den_ne r z).elim, fun _ => ⟨sN, sD, by rw [fr_self], rfl⟩⟩) ⟨r, _, rfl, rfl, r, .rat r, rfl, rfl, true, congrArg D.bl (decide_eq_true rfl), rfl, rfl⟩
      refine ss_one (st_range (i := 6) ok rfl L.mr (ea_cons (ev_int (ea_nil ⟨6, rfl, by decide, by decide, ?_⟩))))
      dsimp only [Rho.wc, Rho.set]
      have hcc : c' ≤ c + 4 := hc4
      refine spins_inv (n0 := 6) (fun t ρ => ∃ c1 p6 p7 p8 p9 p10 p11, ρ = ⟨B1, [some (.scr l), some (.int (j : Nat)), some .box, some (.int u), some (.fr q), some (.str (qtx q)), p6, p7, p8, p9, p10, p11], c1⟩ ∧ c1 ≤ c + 4 + 4 * t ∧ t ≤ 6) ?_ ?_ 6 0 _ rfl ⟨_, _, _, _, _, _, _, rfl, hcc, by decide⟩
      · rintro t ρ K2 ⟨c1, p6, p7, p8, p9, p10, p11, rfl, hc1, _⟩ ht hK2
        dsimp only [Rho.wc, Rho.set]
        refine ss_cons (st_set (i := 7) ok (ev_df L.tk ok hr (by decide) (ea_cons (ev_var 2 rfl (ea_cons (EQ.to (eq_add (eq_lenS L.ml (eq_var 5 rfl) (by omega)) eq_int) (ea_nil ⟨_, rfl, by omega, by omega, by show c1 < 1000000; omega, fun at_ a1 a2 => ?_⟩)))))))
        dsimp only [Rho.wc, Rho.set]
        refine ss_cons (st_set (i := 8) ok (ev_ix rfl (EQ.to (eq_lst (aq_cons eq_str (aq_cons eq_str (aq_cons eq_str (aq_cons eq_str (aq_cons eq_str (aq_cons eq_str (aq_cons eq_str (aq_cons eq_str (aq_cons eq_str (aq_cons eq_str (aq_cons eq_str (aq_cons eq_str aq_nil))))))))))))) (ev_df L.tk ok hr (by decide) (ea_cons (ev_var 2 rfl (ea_cons (ev_int (ea_nil ⟨12, rfl, by decide, by decide, by show c1 + 1 < 1000000; omega, fun r r1 r2 => ?_⟩)))))))))
        obtain ⟨pt, hpt, pm⟩ : ∃ pt : Str, ixD (.lst (partsL.map .str)) r = some (.str pt) ∧ pt ∈ partsL := by
          obtain ⟨d, h1, h2⟩ := ix_at (l := partsL.map D.str) r1 (by simpa using r2)
          obtain ⟨y, h3, h4⟩ := List.mem_map.mp h2
          exact ⟨y, by rw [h1, ← h4], h3⟩
        refine ⟨r, .str pt, rfl, hpt, ?_⟩
        have asp := asc_parts pt pm
        have aspl := asp.l
        dsimp only [Rho.wc, Rho.set]
        have lto := (ap.to a1).l
        refine ss_cons (st_set (i := 9) ok (ev_sadd (EQ.to (eq_sadd (eq_slTo (eq_var 5 rfl) (eq_var 7 rfl) (by omega)) (eq_var 8 rfl) (by omega)) (ev_slFrom (ev_var 5 rfl (ev_add (ev_var 7 rfl (ev_df L.tk ok hr (by decide) (ea_cons (ev_var 2 rfl (ea_cons (ev_int (ea_nil ⟨2, rfl, by decide, by decide, by show c1 + 1 + 1 < 1000000; omega, fun r3 s1 s2 => ?_⟩)))))))))))))
        have afr := ap.from (i := at_ + r3) (by omega)
        have lfr := afr.l
        refine ⟨qtx q, at_ + r3, rfl, rfl, by omega, _, _, rfl, rfl, by rw [Str.length_append]; omega, ?_⟩
        have anear := ((ap.to a1).app asp).app afr
        generalize Txt.slice (qtx q) none (some at_) ++ pt ++ Txt.slice (qtx q) (some (at_ + r3)) none = near at anear
        dsimp only [Rho.wc, Rho.set]
        have afac : Asc 60 (tx (q.num * 2) ++ "/" ++ tx ((q.den : Int) * 2)) := by
          rw [slash_eq]
          exact (((asc_tx (k := 10) (by decide) (by omega)).app asc_slash).app (asc_tx (k := 10) (by decide) (by omega))).mono (by decide)
        have l1 := tx_len (k := 10) (i := q.num * 2) (by decide) (by omega)
        have l2 := tx_len (k := 10) (i := (q.den : Int) * 2) (by decide) (by omega)
        refine ss_cons (st_setq (i := 10) ok (eq_sadd (eq_sadd (eq_strI L.ms (eq_mul (eq_ix rfl (eq_var 4 rfl) eq_int ix0) eq_int (wmul (Nat.lt_of_lt_of_le n9 (by decide)) (by decide))) (log_small (by omega))) eq_str (by show (tx (q.num * 2)).length + 1 ≤ 100000; omega)) (eq_strI L.ms (eq_mul (eq_ix rfl (eq_var 4 rfl) eq_int ix1) eq_int (wmul (Nat.lt_of_lt_of_le (show (q.den : Int).natAbs < 10 ^ 9 by omega) (by decide)) (by decide))) (log_small (by omega))) (by rw [Str.length_append]; show (tx (q.num * 2)).length + 1 + (tx ((q.den : Int) * 2)).length ≤ 100000; omega)) ?_)
        dsimp only [Rho.wc, Rho.set]
        have a3 : Asc 60 (qtx q ++ "/" ++ pt) := by
          rw [slash_eq]
          exact ((ap.app asc_slash).app asp).mono (by decide)
        have a4 : Asc 60 (pt ++ qtx q) := (asp.app ap).mono (by decide)
        have a1' := anear.mono (show _ ≤ 60 by decide)
        refine ss_one (st_for (i := 11) ok (EQ.to (eq_lst (aq_cons (eq_var 9 rfl) (aq_cons (eq_var 10 rfl) (aq_cons (eq_sadd (eq_sadd (eq_var 5 rfl) eq_str (by show (qtx q).length + 1 ≤ 100000; omega)) (eq_var 8 rfl) (by rw [Str.length_append]; show (qtx q).length + 1 + pt.length ≤ 100000; omega)) (aq_cons (eq_sadd (eq_var 8 rfl) (eq_var 5 rfl) (by omega)) aq_nil))))) ⟨_, rfl, fun v => ?_⟩))
        have okg := fun d => ok.gh (d := d) (v := v)
        show SS _ _ _ _
        refine ss_one (st_ifF (tq_dues rfl hr (eq_lread L.rd (okg _) hr (by decide) (eq_var 11 rfl) a1'.l) (eq_ldue L.du (okg _) hr (by decide) (eq_var 11 rfl) a1'.l a1'.a)) (ss_nil ?_))
        show SS _ _ _ _
        refine ss_one (st_ifF (tq_dues rfl hr (eq_lread L.rd (okg _) hr (by decide) (eq_var 11 rfl) afac.l) (eq_ldue L.du (okg _) hr (by decide) (eq_var 11 rfl) afac.l afac.a)) (ss_nil ?_))
        show SS _ _ _ _
        refine ss_one (st_ifF (tq_dues rfl hr (eq_lread L.rd (okg _) hr (by decide) (eq_var 11 rfl) a3.l) (eq_ldue L.du (okg _) hr (by decide) (eq_var 11 rfl) a3.l a3.a)) (ss_nil ?_))
        show SS _ _ _ _
        refine ss_one (st_ifF (tq_dues rfl hr (eq_lread L.rd (okg _) hr (by decide) (eq_var 11 rfl) a4.l) (eq_ldue L.du (okg _) hr (by decide) (eq_var 11 rfl) a4.l a4.a)) (ss_nil ?_))
        exact hK2 _ ⟨_, _, _, _, _, _, _, rfl, by show c1 + 1 + 1 + 1 ≤ c + 4 + 4 * (t + 1); omega, ht⟩
      · rintro t ρ ⟨c1, p6, p7, p8, p9, p10, p11, rfl, hc1, ht⟩
        exact hK _ ⟨_, _, _, _, _, _, _, _, _, _, _, _, _, rfl, by show c1 ≤ 30 * (j + 1); omega⟩
    · rintro j ρ ⟨B, c, o1, o2, o3, o4, o5, o6, o7, o8, o9, o10, o11, rfl, hc⟩
      refine ss_one (st_ret (ev_and (ev_isN (EQ.to (eq_lread L.rd ok hr (by decide) eq_str (by decide)) ⟨true, by rw [due_none no_empty]; rfl, true, rfl, fun _ => ?_, fun z => by cases z⟩))))
      refine ev_and (ev_isN (EQ.to (eq_lread L.rd ok hr (by decide) eq_str (by decide)) ⟨true, by rw [due_none no_minus]; rfl, true, rfl, fun _ => ?_, fun z => by cases z⟩))
      exact ev_bone (ev_isN (EQ.to (eq_lread L.rd ok hr (by decide) eq_str (by decide)) ⟨true, by rw [due_none no_thirds]; rfl, rfl, h _⟩))
    · exact ⟨_, _, _, _, _, _, _, _, _, _, _, _, _, rfl, Nat.le_refl _⟩
end Q
end

section
set_option Elab.async false
set_option linter.all false
set_option maxRecDepth 100000
set_option maxHeartbeats 3900000
namespace Q
open PySem L2
theorem Fun.bk {K : PySem.W.Frag} {x qual : Str} {st : Stmt} {f : Addr} {fd : FuncData} {ps ks : List Str} {n : Nat} {r : Bool} (U : Fun K x qual st f fd)
    (h : ∀ (kV doc pm : Value) (an : Option Addr) (cdv ct : Value) (us ws : List Value), us.length = n → ws.length = ks.length → bindArgs (PySem.W.fnOf x qual (defArgs st) (defBody st) (defScope st) .none kV doc pm an cdv ct) ⟨us, ks.zip ws⟩ = pure (ps.zip (kg r us ws))) : Bk K fd ps n ks r := by
  obtain ⟨oc, od, kV, doc, pm, an, cdv, ct, osl, rfl, lk, hcd⟩ := U.ex
  exact fun s us ws _ l1 l2 => .of_eq (h kV doc pm an cdv ct us ws l1 l2)
theorem init_binds {K : PySem.W.Frag} {f : Addr} {fd : FuncData} (U : FunD K "__init__" "Ratio.__init__" (defArgs s_Ratio_init) (defBody s_Ratio_init) (defScope s_Ratio_init) [.int 1] [] f fd) :
    Binds K fd ["self", "top", "bottom"] [] ∧ (∃ t1 : Tok, Binds K fd ["self", "top", "bottom"] [.int 1 t1]) ∧ Bk K fd ["self", "top", "bottom"] 1 ["bottom", "top"] true := by
  refine ⟨?_, ?_, ?_⟩
  · obtain ⟨ds, hv, hb⟩ := U.binds1 (ps := ["self", "top", "bottom"]) 3 1 (by simp) rfl fun T kV doc pm an cdv ct us its l1 l2 => by
      match us, its, l1, l2 with
      | [_, _, _], [_], _, _ => exact ⟨_, rfl, rfl⟩
    cases hv
    exact hb
  · obtain ⟨ds, hv, hb⟩ := U.binds1 (ps := ["self", "top", "bottom"]) 2 0 (by simp) rfl fun T kV doc pm an cdv ct us its l1 l2 => by
      match us, its, l1, l2 with
      | [_, _], [_], _, _ => exact ⟨_, rfl, rfl⟩
    cases hv with
    | cons a t =>
      cases t
      obtain ⟨t1, rfl⟩ := a
      exact ⟨t1, hb⟩
  · obtain ⟨its, hb⟩ := U.kbindsD (ps := ["self", "top", "bottom"]) 1 ["bottom", "top"] (fun us its ws => us ++ ws.reverse) (by simp) (fun r1 _ r3 => r1.append (vals_rev r3)) fun T kV doc pm an cdv ct us its ws l1 l2 l3 => by
      match us, its, ws, l1, l2, l3 with
      | [_], [_], [_, _], _, _, _ => exact ⟨_, rfl, rfl⟩
    exact fun s us ws X l1 l2 => hb.to s us ws X l1 l2
theorem all_k03 {l : PySem.W.OpenLaw} {w : World} {K : PySem.W.Frag} {h : Heap} {mg : Str → Option Value} {fa C CZ CT p_top p_bot p_rea f_ini f_eq f_txt f_top f_bot f_rea f_who f_wri f_rdd f_cel f_box f_tak f_fra f_whl f_due f_lre f_law : Addr} {bt wt : Tok} (X : K.In h) (G : h.Ns mainGlobals mg) (hfa : mg "law" = some (.ref fa))
    {od_ini an_ini : Option Addr} {sl_ini : Array (Option Value)} {oc_ini kV_ini dc_ini pm_ini cd_ini ct_ini dV_ini : Value}
    {od_eq an_eq : Option Addr} {sl_eq : Array (Option Value)} {oc_eq kV_eq dc_eq pm_eq cd_eq ct_eq : Value}
    {od_txt an_txt : Option Addr} {sl_txt : Array (Option Value)} {oc_txt kV_txt dc_txt pm_txt cd_txt ct_txt : Value}
    {od_top an_top : Option Addr} {sl_top : Array (Option Value)} {oc_top kV_top dc_top pm_top cd_top ct_top : Value}
    {od_bot an_bot : Option Addr} {sl_bot : Array (Option Value)} {oc_bot kV_bot dc_bot pm_bot cd_bot ct_bot : Value}
    {od_rea an_rea : Option Addr} {sl_rea : Array (Option Value)} {oc_rea kV_rea dc_rea pm_rea cd_rea ct_rea : Value}
    {od_who an_who : Option Addr} {sl_who : Array (Option Value)} {oc_who kV_who dc_who pm_who cd_who ct_who : Value}
    {od_wri an_wri : Option Addr} {sl_wri : Array (Option Value)} {oc_wri kV_wri dc_wri pm_wri cd_wri ct_wri : Value}
    {od_rdd an_rdd : Option Addr} {sl_rdd : Array (Option Value)} {oc_rdd kV_rdd dc_rdd pm_rdd cd_rdd ct_rdd : Value}
    {od_cel an_cel : Option Addr} {sl_cel : Array (Option Value)} {oc_cel kV_cel dc_cel pm_cel cd_cel ct_cel : Value}
    {od_box an_box : Option Addr} {sl_box : Array (Option Value)} {oc_box kV_box dc_box pm_box cd_box ct_box : Value}
    {od_tak an_tak : Option Addr} {sl_tak : Array (Option Value)} {oc_tak kV_tak dc_tak pm_tak cd_tak ct_tak : Value}
    {od_fra an_fra : Option Addr} {sl_fra : Array (Option Value)} {oc_fra kV_fra dc_fra pm_fra cd_fra ct_fra : Value}
    {od_whl an_whl : Option Addr} {sl_whl : Array (Option Value)} {oc_whl kV_whl dc_whl pm_whl cd_whl ct_whl : Value}
    {od_due an_due : Option Addr} {sl_due : Array (Option Value)} {oc_due kV_due dc_due pm_due cd_due ct_due : Value}
    {od_lre an_lre : Option Addr} {sl_lre : Array (Option Value)} {oc_lre kV_lre dc_lre pm_lre cd_lre ct_lre : Value}
    {od_law an_law : Option Addr} {sl_law : Array (Option Value)} {oc_law kV_law dc_law pm_law cd_law ct_law : Value}
    (aC : PySem.W.nsIn K mainGlobals "Ratio" = some (some (.ref C)))
    (aZ : PySem.W.nsIn K mainGlobals "ByZero" = some (some (.ref CZ)))
    (aT : PySem.W.nsIn K mainGlobals "BadText" = some (some (.ref CT)))
    (aBl : PySem.W.nsIn K mainGlobals "_BLOCK" = some (some (.int (10 ^ 60) bt)))
    (aWi : PySem.W.nsIn K mainGlobals "_WIDTH" = some (some (.int 60 wt)))
    (n_isinstance : PySem.W.nsIn K mainGlobals "isinstance" = some none)
    (n_int : PySem.W.nsIn K mainGlobals "int" = some none)
    (n_bool : PySem.W.nsIn K mainGlobals "bool" = some none)
    (n_len : PySem.W.nsIn K mainGlobals "len" = some none)
    (n_abs : PySem.W.nsIn K mainGlobals "abs" = some none)
    (n_max : PySem.W.nsIn K mainGlobals "max" = some none)
    (n_min : PySem.W.nsIn K mainGlobals "min" = some none)
    (n_range : PySem.W.nsIn K mainGlobals "range" = some none)
    (n_str : PySem.W.nsIn K mainGlobals "str" = some none)
    (n_reversed : PySem.W.nsIn K mainGlobals "reversed" = some none)
    (aG : PySem.W.nsIn K mainGlobals "gcd" = some (some (.builtin "math.gcd")))
    (a_ini : PySem.W.findIn K (.ref C) "__init__" = some (some (.ref f_ini)))
    (i_ini : PySem.W.isFn K (.ref f_ini) = true)
    (l_ini : K.lookup f_ini = some ⟨oc_ini, od_ini, .func (PySem.W.fnOf "__init__" "Ratio.__init__" (defArgs s_Ratio_init) (defBody s_Ratio_init) (defScope s_Ratio_init) dV_ini kV_ini dc_ini pm_ini an_ini cd_ini ct_ini), sl_ini⟩)
    (c_ini : PySem.W.codeIn K cd_ini "Ratio.__init__" = true)
    (k_ini : PySem.W.keepIn K (.ref f_ini) = true)
    (a_eq : PySem.W.findIn K (.ref C) "__eq__" = some (some (.ref f_eq)))
    (i_eq : PySem.W.isFn K (.ref f_eq) = true)
    (l_eq : K.lookup f_eq = some ⟨oc_eq, od_eq, .func (PySem.W.fnOf "__eq__" "Ratio.__eq__" (defArgs s_Ratio_eq) (defBody s_Ratio_eq) (defScope s_Ratio_eq) .none kV_eq dc_eq pm_eq an_eq cd_eq ct_eq), sl_eq⟩)
    (c_eq : PySem.W.codeIn K cd_eq "Ratio.__eq__" = true)
    (k_eq : PySem.W.keepIn K (.ref f_eq) = true)
    (a_txt : PySem.W.findIn K (.ref C) "text" = some (some (.ref f_txt)))
    (i_txt : PySem.W.isFn K (.ref f_txt) = true)
    (l_txt : K.lookup f_txt = some ⟨oc_txt, od_txt, .func (PySem.W.fnOf "text" "Ratio.text" (defArgs s_Ratio_text) (defBody s_Ratio_text) (defScope s_Ratio_text) .none kV_txt dc_txt pm_txt an_txt cd_txt ct_txt), sl_txt⟩)
    (c_txt : PySem.W.codeIn K cd_txt "Ratio.text" = true)
    (k_txt : PySem.W.keepIn K (.ref f_txt) = true)
    (a_top : PySem.W.findIn K (.ref C) "top" = some (some (.ref p_top)))
    (g_top : PySem.W.specialIn K (.ref p_top) "__get__" = some (some (.builtin "property.__get__")))
    (t_top : PySem.W.takesIn K (.ref p_top) = some true)
    (r_top : ∃ rest, PySem.W.recIn K p_top "property" = some (.ref f_top :: rest))
    (l_top : K.lookup f_top = some ⟨oc_top, od_top, .func (PySem.W.fnOf "top" "Ratio.top" (defArgs s_Ratio_top) (defBody s_Ratio_top) (defScope s_Ratio_top) .none kV_top dc_top pm_top an_top cd_top ct_top), sl_top⟩)
    (c_top : PySem.W.codeIn K cd_top "Ratio.top" = true)
    (k_top : PySem.W.keepIn K (.ref f_top) = true)
    (a_bot : PySem.W.findIn K (.ref C) "bottom" = some (some (.ref p_bot)))
    (g_bot : PySem.W.specialIn K (.ref p_bot) "__get__" = some (some (.builtin "property.__get__")))
    (t_bot : PySem.W.takesIn K (.ref p_bot) = some true)
    (r_bot : ∃ rest, PySem.W.recIn K p_bot "property" = some (.ref f_bot :: rest))
    (l_bot : K.lookup f_bot = some ⟨oc_bot, od_bot, .func (PySem.W.fnOf "bottom" "Ratio.bottom" (defArgs s_Ratio_bottom) (defBody s_Ratio_bottom) (defScope s_Ratio_bottom) .none kV_bot dc_bot pm_bot an_bot cd_bot ct_bot), sl_bot⟩)
    (c_bot : PySem.W.codeIn K cd_bot "Ratio.bottom" = true)
    (k_bot : PySem.W.keepIn K (.ref f_bot) = true)
    (a_rea : ClX.CMet K C (.type "type") "read" p_rea f_rea)
    (l_rea : K.lookup f_rea = some ⟨oc_rea, od_rea, .func (PySem.W.fnOf "read" "Ratio.read" (defArgs s_Ratio_read) (defBody s_Ratio_read) (defScope s_Ratio_read) .none kV_rea dc_rea pm_rea an_rea cd_rea ct_rea), sl_rea⟩)
    (c_rea : PySem.W.codeIn K cd_rea "Ratio.read" = true)
    (k_rea : PySem.W.keepIn K (.ref f_rea) = true)
    (a_who : PySem.W.nsIn K mainGlobals "is_whole" = some (some (.ref f_who)))
    (l_who : K.lookup f_who = some ⟨oc_who, od_who, .func (PySem.W.fnOf "is_whole" "is_whole" (defArgs s_is_whole) (defBody s_is_whole) (defScope s_is_whole) .none kV_who dc_who pm_who an_who cd_who ct_who), sl_who⟩)
    (c_who : PySem.W.codeIn K cd_who "is_whole" = true)
    (k_who : PySem.W.keepIn K (.ref f_who) = true)
    (a_wri : PySem.W.nsIn K mainGlobals "written" = some (some (.ref f_wri)))
    (l_wri : K.lookup f_wri = some ⟨oc_wri, od_wri, .func (PySem.W.fnOf "written" "written" (defArgs s_written) (defBody s_written) (defScope s_written) .none kV_wri dc_wri pm_wri an_wri cd_wri ct_wri), sl_wri⟩)
    (c_wri : PySem.W.codeIn K cd_wri "written" = true)
    (k_wri : PySem.W.keepIn K (.ref f_wri) = true)
    (a_rdd : PySem.W.nsIn K mainGlobals "read_digits" = some (some (.ref f_rdd)))
    (l_rdd : K.lookup f_rdd = some ⟨oc_rdd, od_rdd, .func (PySem.W.fnOf "read_digits" "read_digits" (defArgs s_read_digits) (defBody s_read_digits) (defScope s_read_digits) .none kV_rdd dc_rdd pm_rdd an_rdd cd_rdd ct_rdd), sl_rdd⟩)
    (c_rdd : PySem.W.codeIn K cd_rdd "read_digits" = true)
    (k_rdd : PySem.W.keepIn K (.ref f_rdd) = true)
    (a_cel : PySem.W.nsIn K mainGlobals "_law_cell" = some (some (.ref f_cel)))
    (l_cel : K.lookup f_cel = some ⟨oc_cel, od_cel, .func (PySem.W.fnOf "_law_cell" "_law_cell" (defArgs s_law_cell) (defBody s_law_cell) (defScope s_law_cell) .none kV_cel dc_cel pm_cel an_cel cd_cel ct_cel), sl_cel⟩)
    (c_cel : PySem.W.codeIn K cd_cel "_law_cell" = true)
    (k_cel : PySem.W.keepIn K (.ref f_cel) = true)
    (a_box : PySem.W.nsIn K mainGlobals "_law_box" = some (some (.ref f_box)))
    (l_box : K.lookup f_box = some ⟨oc_box, od_box, .func (PySem.W.fnOf "_law_box" "_law_box" (defArgs s_law_box) (defBody s_law_box) (defScope s_law_box) .none kV_box dc_box pm_box an_box cd_box ct_box), sl_box⟩)
    (c_box : PySem.W.codeIn K cd_box "_law_box" = true)
    (k_box : PySem.W.keepIn K (.ref f_box) = true)
    (a_tak : PySem.W.nsIn K mainGlobals "_law_take" = some (some (.ref f_tak)))
    (l_tak : K.lookup f_tak = some ⟨oc_tak, od_tak, .func (PySem.W.fnOf "_law_take" "_law_take" (defArgs s_law_take) (defBody s_law_take) (defScope s_law_take) .none kV_tak dc_tak pm_tak an_tak cd_tak ct_tak), sl_tak⟩)
    (c_tak : PySem.W.codeIn K cd_tak "_law_take" = true)
    (k_tak : PySem.W.keepIn K (.ref f_tak) = true)
    (a_fra : PySem.W.nsIn K mainGlobals "_law_frac" = some (some (.ref f_fra)))
    (l_fra : K.lookup f_fra = some ⟨oc_fra, od_fra, .func (PySem.W.fnOf "_law_frac" "_law_frac" (defArgs s_law_frac) (defBody s_law_frac) (defScope s_law_frac) .none kV_fra dc_fra pm_fra an_fra cd_fra ct_fra), sl_fra⟩)
    (c_fra : PySem.W.codeIn K cd_fra "_law_frac" = true)
    (k_fra : PySem.W.keepIn K (.ref f_fra) = true)
    (a_whl : PySem.W.nsIn K mainGlobals "_law_whole" = some (some (.ref f_whl)))
    (l_whl : K.lookup f_whl = some ⟨oc_whl, od_whl, .func (PySem.W.fnOf "_law_whole" "_law_whole" (defArgs s_law_whole) (defBody s_law_whole) (defScope s_law_whole) .none kV_whl dc_whl pm_whl an_whl cd_whl ct_whl), sl_whl⟩)
    (c_whl : PySem.W.codeIn K cd_whl "_law_whole" = true)
    (k_whl : PySem.W.keepIn K (.ref f_whl) = true)
    (a_due : PySem.W.nsIn K mainGlobals "_law_due" = some (some (.ref f_due)))
    (l_due : K.lookup f_due = some ⟨oc_due, od_due, .func (PySem.W.fnOf "_law_due" "_law_due" (defArgs s_law_due) (defBody s_law_due) (defScope s_law_due) .none kV_due dc_due pm_due an_due cd_due ct_due), sl_due⟩)
    (c_due : PySem.W.codeIn K cd_due "_law_due" = true)
    (k_due : PySem.W.keepIn K (.ref f_due) = true)
    (a_lre : PySem.W.nsIn K mainGlobals "_law_read" = some (some (.ref f_lre)))
    (l_lre : K.lookup f_lre = some ⟨oc_lre, od_lre, .func (PySem.W.fnOf "_law_read" "_law_read" (defArgs s_law_read) (defBody s_law_read) (defScope s_law_read) .none kV_lre dc_lre pm_lre an_lre cd_lre ct_lre), sl_lre⟩)
    (c_lre : PySem.W.codeIn K cd_lre "_law_read" = true)
    (k_lre : PySem.W.keepIn K (.ref f_lre) = true)
    (a_law : PySem.W.nsIn K mainGlobals "law" = some (some (.ref f_law)))
    (l_law : K.lookup f_law = some ⟨oc_law, od_law, .func (PySem.W.fnOf "law" "law" (defArgs s_law) (defBody s_law) (defScope s_law) .none kV_law dc_law pm_law an_law cd_law ct_law), sl_law⟩)
    (c_law : PySem.W.codeIn K cd_law "law" = true)
    (k_law : PySem.W.keepIn K (.ref f_law) = true)
    (d_ini : DflV K dV_ini [.int 1])
    (rC : ClX.CRead K C (.type "type"))
    (pg : PySem.W.plainGet K C Str.empty = true)
    (hd : PySem.W.hasDictIn K C = true)
    (po : PySem.W.plainOver K C = true)
    (sa : PySem.W.findIn K (.ref C) "__setattr__" = some (some (.builtin "object.__setattr__")))
    (mkC : PySem.W.makesIn K C = true)
    (kcC : PySem.W.keepIn K (.ref C) = true)
    (iha : PySem.W.findIn K (.ref C) "__class__" = some (some (.builtin "object.__class__")))
    (ihn : PySem.W.specialIn K (.builtin "object.__class__") "__get__" = some (some (.builtin "getset_descriptor.__get__")))
    (iht : PySem.W.takesIn K (.builtin "object.__class__") = some true)
    (ihm : PySem.W.mroIn K C (.type "object") = some true)
    (nt : PySem.W.findIn K (.ref C) "_top" = some none)
    (nb : PySem.W.findIn K (.ref C) "_bottom" = some none)
    (sf : PySem.W.selfFirst K C = true)
    (kk : PySem.W.kitOne K (.ref C) (.ref C) = some true)
    (ki : PySem.W.kitOne K (.ref C) (.type "int") = some false)
    (k1 : PySem.W.kitOne K (.type "int") (.ref C) = some false)
    (k2 : PySem.W.kitOne K (.type "bool") (.ref C) = some false)
    (k3 : PySem.W.kitOne K (.type "NoneType") (.ref C) = some false)
    (k4 : PySem.W.kitOne K (.type "str") (.ref C) = some false)
    (k5 : PySem.W.kitOne K (.type "list") (.ref C) = some false)
    (k6 : PySem.W.kitOne K (.type "tuple") (.ref C) = some false)
    (k7 : PySem.W.kitOne K (.type "dict") (.ref C) = some false)
    (Zx : PySem.W.excIn K CZ veAll "ValueError.__new__" = true)
    (Zk : PySem.W.keepIn K (.ref CZ) = true)
    (Zs : PySem.W.subIn K (.ref CZ) (.type "BaseException") = some true)
    (Zt : PySem.W.typeIn K (.ref CZ) = some (.type "type"))
    (Tx : PySem.W.excIn K CT veAll "ValueError.__new__" = true)
    (Tk : PySem.W.keepIn K (.ref CT) = true)
    (Ts : PySem.W.subIn K (.ref CT) (.type "BaseException") = some true)
    (Tt : PySem.W.typeIn K (.ref CT) = some (.type "type"))
    (Te : PySem.W.exmOne K (.ref CT) (.ref CT) = some true)
    : ∃ fd : FuncData, (∀ (s : Shared) (v : Value), BindsTo s fd ⟨[v], []⟩ [("_law_script", v)]) ∧ ∀ base : Heap, K.In base → base.Ns mainGlobals mg → FnGk l.prog w K mg base (L2.CX l.prog w) 7 fa fd ["_law_script"] (SpW ⟨K, C⟩ F_law) := by
  have e := hfa.symm.trans (PySem.W.mg_of X G a_law)
  cases e
  have U_ini : FunD K "__init__" "Ratio.__init__" (defArgs s_Ratio_init) (defBody s_Ratio_init) (defScope s_Ratio_init) [.int 1] [] f_ini _ := ⟨⟨_, _, _, _, _, _, _, _, _, _, rfl, l_ini, c_ini, d_ini, .inl rfl⟩, k_ini⟩
  obtain ⟨b_ini, ⟨t1, b_ini1⟩, bk_ini⟩ := init_binds U_ini
  have U_eq := fun_mk (st := s_Ratio_eq) l_eq c_eq k_eq
  have b_eq := U_eq.binds (ps := ["self", "other"]) fun _ _ _ _ _ _ us hl => match us, hl with | [_, _], _ => rfl
  have U_txt := fun_mk (st := s_Ratio_text) l_txt c_txt k_txt
  have b_txt := U_txt.binds (ps := ["self"]) fun _ _ _ _ _ _ us hl => match us, hl with | [_], _ => rfl
  have U_top := fun_mk (st := s_Ratio_top) l_top c_top k_top
  have b_top := U_top.binds (ps := ["self"]) fun _ _ _ _ _ _ us hl => match us, hl with | [_], _ => rfl
  have U_bot := fun_mk (st := s_Ratio_bottom) l_bot c_bot k_bot
  have b_bot := U_bot.binds (ps := ["self"]) fun _ _ _ _ _ _ us hl => match us, hl with | [_], _ => rfl
  have U_rea := fun_mk (st := s_Ratio_read) l_rea c_rea k_rea
  have b_rea := U_rea.binds (ps := ["cls", "text"]) fun _ _ _ _ _ _ us hl => match us, hl with | [_, _], _ => rfl
  have U_who := fun_mk (st := s_is_whole) l_who c_who k_who
  have b_who := U_who.binds (ps := ["value"]) fun _ _ _ _ _ _ us hl => match us, hl with | [_], _ => rfl
  have U_wri := fun_mk (st := s_written) l_wri c_wri k_wri
  have b_wri := U_wri.binds (ps := ["number"]) fun _ _ _ _ _ _ us hl => match us, hl with | [_], _ => rfl
  have U_rdd := fun_mk (st := s_read_digits) l_rdd c_rdd k_rdd
  have b_rdd := U_rdd.binds (ps := ["text"]) fun _ _ _ _ _ _ us hl => match us, hl with | [_], _ => rfl
  have U_cel := fun_mk (st := s_law_cell) l_cel c_cel k_cel
  have b_cel := U_cel.binds (ps := ["_law_script", "_law_k"]) fun _ _ _ _ _ _ us hl => match us, hl with | [_, _], _ => rfl
  have U_box := fun_mk (st := s_law_box) l_box c_box k_box
  have b_box := U_box.binds (ps := ["_law_script", "_law_k"]) fun _ _ _ _ _ _ us hl => match us, hl with | [_, _], _ => rfl
  have U_tak := fun_mk (st := s_law_take) l_tak c_tak k_tak
  have b_tak := U_tak.binds (ps := ["_law_box_here", "_law_many"]) fun _ _ _ _ _ _ us hl => match us, hl with | [_, _], _ => rfl
  have U_fra := fun_mk (st := s_law_frac) l_fra c_fra k_fra
  have b_fra := U_fra.binds (ps := ["_law_up", "_law_down"]) fun _ _ _ _ _ _ us hl => match us, hl with | [_, _], _ => rfl
  have U_whl := fun_mk (st := s_law_whole) l_whl c_whl k_whl
  have b_whl := U_whl.binds (ps := ["_law_word"]) fun _ _ _ _ _ _ us hl => match us, hl with | [_], _ => rfl
  have U_due := fun_mk (st := s_law_due) l_due c_due k_due
  have b_due := U_due.binds (ps := ["_law_phrase"]) fun _ _ _ _ _ _ us hl => match us, hl with | [_], _ => rfl
  have U_lre := fun_mk (st := s_law_read) l_lre c_lre k_lre
  have b_lre := U_lre.binds (ps := ["_law_phrase"]) fun _ _ _ _ _ _ us hl => match us, hl with | [_], _ => rfl
  have U_law := fun_mk (st := s_law) l_law c_law k_law
  have b_law := U_law.binds (ps := ["_law_script"]) fun _ _ _ _ _ _ us hl => match us, hl with | [_], _ => rfl
  have cl : Cls K C := ⟨pg, hd, po, sa⟩
  have RC : RCls (Tab.mk K C).K mg (Tab.mk K C).C := ⟨⟨cl, iha, ihn, iht, ihm⟩, PySem.W.mg_of X G aC, nt, nb, sf, kk, ki, k1, k2, k3, k4, k5, k6, k7⟩
  have mfree : ∀ {x : Str}, PySem.W.nsIn K mainGlobals x = some none → mg x = none := fun h => PySem.W.mg_none_of X G h
  refine ⟨PySem.W.fnOf "law" "law" (defArgs s_law) (defBody s_law) (defScope s_law) .none kV_law dc_law pm_law an_law cd_law ct_law, fun s v => .of_eq rfl, fun base _ _ => ?_⟩
  have EZ : ErrC (Tab.mk K C).K mg "ByZero" CZ := ⟨PySem.W.mg_of X G aZ, Zx, Zk, Zs, Zt⟩
  have ET : ErrC (Tab.mk K C).K mg "BadText" CT := ⟨PySem.W.mg_of X G aT, Tx, Tk, Ts, Tt⟩
  have mbl := PySem.W.mg_of X G aBl
  have mwi := PySem.W.mg_of X G aWi
  have mis := mfree n_isinstance
  have Dwho : Df l.prog w (Tab.mk K C) mg base "is_whole" 1 f_who F_is_whole := ⟨FnGk.raw0 (ok_is_whole U_who RC mis (mfree n_int) (mfree n_bool)) b_who, PySem.W.mg_of X G a_who, k_who⟩
  have Iini := ok_Ratio_init (P := l.prog) (w := w) (T := Tab.mk K C) (base := base) (CZ := CZ) U_ini cl nt nb (PySem.W.mg_of X G aG) EZ
  have M : Mk (Tab.mk K C).K C f_ini := ⟨mkC, a_ini, i_ini, kcC⟩
  have MK2 : Dk l.prog w (Tab.mk K C) mg base C 1 f_ini (F_mk CZ) := ⟨M, Iini.raw0 b_ini⟩
  have DT : Dp l.prog w (Tab.mk K C) mg base C "top" 1 F_top := ⟨_, _, _, _, ⟨a_top, g_top, t_top, r_top⟩, ok_Ratio_top U_top RC, b_top⟩
  have DB : Dp l.prog w (Tab.mk K C) mg base C "bottom" 1 F_bottom := ⟨_, _, _, _, ⟨a_bot, g_bot, t_bot, r_bot⟩, ok_Ratio_bottom U_bot RC, b_bot⟩
  have Deq : Dm l.prog w (Tab.mk K C) mg base C "__eq__" 3 f_eq F_eq := ⟨FnGk.raw0 (ok_Ratio_eq U_eq RC mis DT DB Dwho) b_eq, a_eq, i_eq⟩
  have Dwr0 : Df l.prog w (Tab.mk K C) mg base "written" 1 f_wri F_wr0 := ⟨FnGk.raw0 (ok_written0 U_wri mbl (mfree n_str) (mfree n_reversed)) b_wri, PySem.W.mg_of X G a_wri, k_wri⟩
  have Dwr : Df l.prog w (Tab.mk K C) mg base "written" 2 f_wri F_wr := ⟨FnGk.raw0 (ok_written U_wri Dwr0 mbl (mfree n_str) (mfree n_reversed)) b_wri, PySem.W.mg_of X G a_wri, k_wri⟩
  have Dtx : Dme l.prog w (Tab.mk K C) mg base C "text" 3 f_txt F_text := ⟨FnGk.raw0 (ok_Ratio_text U_txt RC Dwr) b_txt, ⟨a_txt, i_txt, k_txt⟩⟩
  have Drd : Df l.prog w (Tab.mk K C) mg base "read_digits" 1 f_rdd F_rd := ⟨FnGk.raw0 (ok_read_digits U_rdd mbl mwi (mfree n_len) (mfree n_range) (mfree n_int)) b_rdd, PySem.W.mg_of X G a_rdd, k_rdd⟩
  have Area := ok_Ratio_read (P := l.prog) (w := w) (T := Tab.mk K C) (base := base) (CZ := CZ) (CT := CT) U_rea RC MK2 Dtx Drd ET
  have Dre : Dcm l.prog w (Tab.mk K C) mg base C "read" 4 f_rea ["text"] false (F_read C CT) := ⟨⟨_, _, rC, a_rea⟩, FnGk.raw0 Area b_rea, Area.keys (Fun.bk U_rea fun _ _ _ _ _ _ us ws l1 l2 => match us, ws, l1, l2 with | [_], [_], _, _ => rfl)⟩
  have Dcel : Df l.prog w (Tab.mk K C) mg base "_law_cell" 1 f_cel F_cell := ⟨FnGk.raw0 (ok_law_cell U_cel (mfree n_len)) b_cel, PySem.W.mg_of X G a_cel, k_cel⟩
  have Dtak : Df l.prog w (Tab.mk K C) mg base "_law_take" 1 f_tak F_take := ⟨FnGk.raw0 (ok_law_take U_tak (mfree n_int)) b_tak, PySem.W.mg_of X G a_tak, k_tak⟩
  have Dfra : Df l.prog w (Tab.mk K C) mg base "_law_frac" 1 f_fra F_frac := ⟨FnGk.raw0 (ok_law_frac U_fra (mfree n_abs)) b_fra, PySem.W.mg_of X G a_fra, k_fra⟩
  have Dwhl : Df l.prog w (Tab.mk K C) mg base "_law_whole" 1 f_whl F_whole := ⟨FnGk.raw0 (ok_law_whole U_whl (mfree n_str) (mfree n_int)) b_whl, PySem.W.mg_of X G a_whl, k_whl⟩
  have Ddue : Df l.prog w (Tab.mk K C) mg base "_law_due" 2 f_due F_due := ⟨FnGk.raw0 (ok_law_due U_due Dwhl Dfra (mfree n_len)) b_due, PySem.W.mg_of X G a_due, k_due⟩
  have Dlre : Df l.prog w (Tab.mk K C) mg base "_law_read" 5 f_lre F_lread := ⟨FnGk.raw0 (ok_law_read U_lre RC Dre DT DB ET.m Te) b_lre, PySem.W.mg_of X G a_lre, k_lre⟩
  have Bx := FnGk.raw0 (ok_law_box (P := l.prog) (w := w) (T := Tab.mk K C) (base := base) U_box (mfree n_abs) (mfree n_int) Dcel) b_box
  exact ok_law U_law ⟨RC, Bx, PySem.W.mg_of X G a_box, k_box, mfree n_range, mfree n_max, mfree n_min, mfree n_len, mfree n_str, Dtak, Dfra, Dlre, Ddue, Dre, MK2, Dtx, Deq⟩
end Q
end

section
set_option Elab.async false
set_option linter.all false
set_option maxRecDepth 100000
set_option maxHeartbeats 1100000
namespace Q
open L2 PySem PySem.Spec PyProof.Rows
/-- the goal that k_head leaves -/
theorem walk_ofC {k : Nat} {x : Str} {l : PySem.W.OpenLaw} {q : Program} {loose : List Str} {XP : (Str → Option Value) → Heap → Prop} {YP : World → Heap → Prop} {d : DefRec} {K : Params → PySem.W.Frag} (hn : l.most = some 63) (hdf : d.params.defaults = []) (hr : RoomG k callerA) (hY : ∀ (w : World) (h : Heap), YP w h → (K w.params).In h)
    (F : ∀ (w : World) (mg : Str → Option Value) (fa : Addr) (g : Heap), (K w.params).In g → g.Ns mainGlobals mg → mg d.name = some (.ref fa) →
      ∃ (C : Addr) (fd : FuncData), (∀ (s : Shared) (u : Value), BindsTo s fd ⟨[u], []⟩ [(x, u)]) ∧ ∀ base : Heap, (K w.params).In base → base.Ns mainGlobals mg → FnGk l.prog w (K w.params) mg base (L2.CX l.prog w) k fa fd [x] (SpW ⟨K w.params, C⟩ F_law)) :
    PySem.W.WalkO q loose XP YP l.row.toRowW d []
      (fun f vs => PySem.call f vs) := by
  refine Att.attach_call hn hdf fun w s0 s1 mg mb fa o pm cd doc a vs ns G Y ho hd hcd hmg hobj hints hlen hg => ?_
  have KX := hY w _ Y
  obtain ⟨C, fd, hb, hF⟩ := F w mg fa _ KX G.T.g hmg
  have h63 : ns.length ≤ 100000 := Nat.le_trans hlen (by decide)
  have lz : ns.length ≤ sizeLine := Nat.le_trans hlen (by decide)
  have rv := L2.vals_ints hints
  have nl := hints.length
  have go : ∀ {H : Hp}, JustA l.prog w (K w.params) a s1.heap H → SqL (K w.params) H a (ns.map V.int) → codeAny (model l.prog w) callerA (.call (.ref fa) ⟨[.ref a], []⟩) (Fine s1) s1 := fun J hS =>
    call_just (T := ⟨K w.params, C⟩) KX G.T.g G.T.b G.T.builtins G.T.nolimit hg hobj rfl hr hF hb J hS h63
  cases hk : (K w.params).lookup a with
  | some ob =>
    have e := KX a ob hk
    rw [hobj] at e
    cases e
    refine go (H := fun _ => none) ⟨(fun b u z => by cases z), (fun b z => (z rfl).elim), (fun z => (z rfl).elim), (fun b z => (z rfl).elim)⟩ (.inr ⟨_, vs.toArray, _, hk, rfl, rfl, rfl, ?_, by simpa using rv⟩)
    rw [List.size_toArray, nl]
    exact lz
  | none =>
    refine go (H := upd (fun _ => none) a (.frz { cls := .type "list", data := .seq vs.toArray } (.lst (ns.map V.int)))) ⟨fun b u z => ?_, fun b z => ?_, fun _ => hk, fun b z => ?_⟩ (.inl (.inr ⟨_, upd_same⟩))
    · by_cases e : b = a
      · subst e
        rw [upd_same] at z
        cases z
        exact ⟨hobj, by rw [List.length_map]; exact lz, vs, _, rv, hobj⟩
      · rw [upd_ne e] at z
        cases z
    · by_cases e : b = a
      · exact e
      · rw [upd_ne e] at z
        exact (z rfl).elim
    · by_cases e : b = a
      · subst e
        exact ⟨_, _, upd_same⟩
      · rw [upd_ne e] at z
        exact (z rfl).elim
section
open PySem.W
variable {K : PySem.W.Frag} {S : Addr} {T : String} {v : Bool}
/-- a class is one of itself -/
theorem kit_self : kitOne K (.ref S) (.ref S) = some true := by
  unfold kitOne
  exact if_pos (beq_self_eq_true (Value.ref S))
/-- an own class below a class of Python's -/
theorem kit_ty (n : kitMeta T = true) (h : subIn K (.ref S) (.type T) = some v) : kitOne K (.ref S) (.type T) = some v := by
  unfold kitOne
  refine (if_neg (by intro z; cases z)).trans ?_
  exact (if_pos n).trans h
/-- a class of Python's below an own class -/
theorem kit_cl (n : isClsIn K S = true) (t : typeIn K (.ref S) = some (.type "type")) (h : subIn K (.type T) (.ref S) = some v) : kitOne K (.type T) (.ref S) = some v := by
  unfold kitOne
  refine (if_neg (by intro z; cases z)).trans ?_
  have n' : (clsIn K S).isSome = true := n
  exact (if_pos (by rw [n', t]; rfl)).trans h
/-- what «except S» catches of S -/
theorem exm_one (b : subIn K (.ref S) (.type "BaseException") = some true) (n : isClsIn K S = true) (t : typeIn K (.ref S) = some (.type "type")) (h : subIn K (.ref S) (.ref S) = some true) : exmOne K (.ref S) (.ref S) = some true := by
  have n' : (clsIn K S).isSome = true := n
  unfold exmOne
  refine (if_pos (by rw [b]; rfl)).trans ?_
  exact (if_pos (by rw [n', t]; rfl)).trans h
/-- one integer as the default -/
theorem dfl_int {X : Addr} {o : Obj} {i : Int} {t : Tok} {n : Nat} (h : K.lookup X = some o) (e : o.data = .seq #[.int i t] n) : DflV K (.ref X) [.int i] :=
  .inr ⟨List.cons_ne_nil _ _, X, o, [.int i t], n, rfl, h, e, .cons ⟨t, rfl⟩ .nil⟩
end
end Q
open PyProof.Rows PySem PySem.W
set_option maxRecDepth 99999 in
set_option maxHeartbeats 0 in
theorem PySem.Challenge.cw_paystreams_k03_texts_of_ratios_holds : PySem.Challenge.rw_paystreams_k03_texts_of_ratios.Holds := by
  w_on; o_law; k_head; (case hw => w_witness2)
  k_fill
  refine Q.walk_ofC (l := PySem.Challenge.rw_paystreams_k03_texts_of_ratios) (k := 7) (x := "_law_script") rfl rfl ⟨⟨rfl, by decide, by decide⟩, rfl⟩ (fun w h Y => PySem.W.kIn_of Y) ?F
  case F =>
    intro w mg fa h KX G hmg
    refine' ⟨_, Q.all_k03 KX G hmg ?aC ?aZ ?aT ?aBl ?aWi ?n_isinstance ?n_int ?n_bool ?n_len ?n_abs ?n_max ?n_min ?n_range ?n_str ?n_reversed ?aG ?a_ini ?i_ini ?l_ini ?c_ini ?k_ini ?a_eq ?i_eq ?l_eq ?c_eq ?k_eq ?a_txt ?i_txt ?l_txt ?c_txt ?k_txt ?a_top ?g_top ?t_top ?r_top ?l_top ?c_top ?k_top ?a_bot ?g_bot ?t_bot ?r_bot ?l_bot ?c_bot ?k_bot ?a_rea ?l_rea ?c_rea ?k_rea ?a_who ?l_who ?c_who ?k_who ?a_wri ?l_wri ?c_wri ?k_wri ?a_rdd ?l_rdd ?c_rdd ?k_rdd ?a_cel ?l_cel ?c_cel ?k_cel ?a_box ?l_box ?c_box ?k_box ?a_tak ?l_tak ?c_tak ?k_tak ?a_fra ?l_fra ?c_fra ?k_fra ?a_whl ?l_whl ?c_whl ?k_whl ?a_due ?l_due ?c_due ?k_due ?a_lre ?l_lre ?c_lre ?k_lre ?a_law ?l_law ?c_law ?k_law ?d_ini ?rC ?pg ?hd ?po ?sa ?mkC ?kcC ?iha ?ihn ?iht ?ihm ?nt ?nb ?sf ?kk ?ki ?k1 ?k2 ?k3 ?k4 ?k5 ?k6 ?k7 ?Zx ?Zk ?Zs ?Zt ?Tx ?Tk ?Ts ?Tt ?Te⟩
    (case aC => k_is)
    (case aZ => k_is)
    (case aT => k_is)
    (case aBl => k_is)
    (case aWi => k_is)
    (case n_isinstance => k_is)
    (case n_int => k_is)
    (case n_bool => k_is)
    (case n_len => k_is)
    (case n_abs => k_is)
    (case n_max => k_is)
    (case n_min => k_is)
    (case n_range => k_is)
    (case n_str => k_is)
    (case n_reversed => k_is)
    (case aG => k_is)
    (case a_ini => k_is)
    (case i_ini => k_is)
    (case l_ini => k_is)
    (case c_ini => k_is)
    (case k_ini => k_is)
    (case a_eq => k_is)
    (case i_eq => k_is)
    (case l_eq => k_is)
    (case c_eq => k_is)
    (case k_eq => k_is)
    (case a_txt => k_is)
    (case i_txt => k_is)
    (case l_txt => k_is)
    (case c_txt => k_is)
    (case k_txt => k_is)
    (case a_top => k_is)
    (case g_top => k_is)
    (case t_top => k_is)
    (case r_top => exact ⟨_, by k_is⟩)
    (case l_top => k_is)
    (case c_top => k_is)
    (case k_top => k_is)
    (case a_bot => k_is)
    (case g_bot => k_is)
    (case t_bot => k_is)
    (case r_bot => exact ⟨_, by k_is⟩)
    (case l_bot => k_is)
    (case c_bot => k_is)
    (case k_bot => k_is)
    (case a_rea => exact ⟨by k_is, ⟨_, by k_is⟩, by k_is⟩)
    (case l_rea => k_is)
    (case c_rea => k_is)
    (case k_rea => k_is)
    (case a_who => k_is)
    (case l_who => k_is)
    (case c_who => k_is)
    (case k_who => k_is)
    (case a_wri => k_is)
    (case l_wri => k_is)
    (case c_wri => k_is)
    (case k_wri => k_is)
    (case a_rdd => k_is)
    (case l_rdd => k_is)
    (case c_rdd => k_is)
    (case k_rdd => k_is)
    (case a_cel => k_is)
    (case l_cel => k_is)
    (case c_cel => k_is)
    (case k_cel => k_is)
    (case a_box => k_is)
    (case l_box => k_is)
    (case c_box => k_is)
    (case k_box => k_is)
    (case a_tak => k_is)
    (case l_tak => k_is)
    (case c_tak => k_is)
    (case k_tak => k_is)
    (case a_fra => k_is)
    (case l_fra => k_is)
    (case c_fra => k_is)
    (case k_fra => k_is)
    (case a_whl => k_is)
    (case l_whl => k_is)
    (case c_whl => k_is)
    (case k_whl => k_is)
    (case a_due => k_is)
    (case l_due => k_is)
    (case c_due => k_is)
    (case k_due => k_is)
    (case a_lre => k_is)
    (case l_lre => k_is)
    (case c_lre => k_is)
    (case k_lre => k_is)
    (case a_law => k_is)
    (case l_law => k_is)
    (case c_law => k_is)
    (case k_law => k_is)
    (case d_ini => (refine' Q.dfl_int ?dl ?dd; (case dl => k_is); (case dd => rfl)))
    (case rC => exact ⟨by k_is, by k_is⟩)
    (case pg => k_is)
    (case hd => k_is)
    (case po => k_is)
    (case sa => k_is)
    (case mkC => k_is)
    (case kcC => k_is)
    (case iha => k_is)
    (case ihn => k_is)
    (case iht => k_is)
    (case ihm => k_is)
    (case nt => k_is)
    (case nb => k_is)
    (case sf => k_is)
    (case kk => exact Q.kit_self)
    (case ki => exact Q.kit_ty (by decide +kernel) (by k_is))
    (case k1 => exact Q.kit_cl (by k_is) (by k_is) (by k_is))
    (case k2 => exact Q.kit_cl (by k_is) (by k_is) (by k_is))
    (case k3 => exact Q.kit_cl (by k_is) (by k_is) (by k_is))
    (case k4 => exact Q.kit_cl (by k_is) (by k_is) (by k_is))
    (case k5 => exact Q.kit_cl (by k_is) (by k_is) (by k_is))
    (case k6 => exact Q.kit_cl (by k_is) (by k_is) (by k_is))
    (case k7 => exact Q.kit_cl (by k_is) (by k_is) (by k_is))
    (case Zx => k_exc)
    (case Zk => k_is)
    (case Zs => k_is)
    (case Zt => k_is)
    (case Tx => k_exc)
    (case Tk => k_is)
    (case Ts => k_is)
    (case Tt => k_is)
    (case Te => exact Q.exm_one (by k_is) (by k_is) (by k_is) (by first | rfl | k_is))
end
